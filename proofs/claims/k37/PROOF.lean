import PyProof.Rows.All
import Wide.All
import OpenK.AllK
import Wide.FinOn
import Lean
import PyProof.EqAt
import PyProof.DictItems
import PyProof.DictWalks
import PyProof.Rows.SortStr
import PyProof.Rows.SortShellK
import PyProof.Rows.SortWalk
import KE.KRevIter
import KE.KDictList
import PyProof.CollectIter
import PyProof.DictValues
import KE.KDictSum
import PyProof.EqKinds
import PyProof.TupleCall
import PyProof.ListRange
import PyProof.P3In
import PyProof.NeData
import PyProof.NsDelKeeps
import PyProof.SliceList
import KE.KLam
import KE.KIntText
import PySem.Challenge.RW_spanmap_k37_whole_puts_in_rows
set_option Elab.async false
set_option linter.all false
set_option maxRecDepth 100000
namespace HT
noncomputable def sIx (n d : Nat) : Option Int → Nat
 | none => d
 | some v => if v < 0 then (v + (n : Int)).toNat else min v.toNat n
end HT
namespace L2
open PySem
abbrev Key := Sum Int Str
noncomputable def ixN (n : Nat) (i : Int) : Option Nat := if 0 ≤ i then (if i < n then some i.toNat else none) else if -(n : Int) ≤ i then some (i + n).toNat else none
noncomputable def atI {α : Type} (xs : List α) (i : Int) : Option α := (ixN xs.length i).bind fun j => xs[j]?
end L2
namespace FL
open PySem PySem.Spec PyProof.Rows L2
theorem bnd {α β : Type} {o : Option α} {f : α → Option β} {b : β} (h : o.bind f = some b) : ∃ a, o = some a ∧ f a = some b := Option.bind_eq_some_iff.mp h
theorem mpd {α β : Type} {o : Option α} {f : α → β} {b : β} (h : o.map f = some b) : ∃ a, o = some a ∧ f a = b := Option.map_eq_some_iff.mp h
noncomputable def clsName : Nat → Str
 | 0 => "Put" | 1 => "Widen" | 2 => "Narrow" | 3 => "Move" | 4 => "Stretch" | 5 => "Mirror" | 6 => "Deed" | 7 => "Shut" | 8 => "Open" | 9 => "Endless" | 10 => "End" | 11 => "Line" | 12 => "Bundle" | 13 => "Desk"
 | 20 => "Line" | 21 => "Line" | 22 => "Line" | 23 => "Line" | 24 => "Bundle" | 25 => "Desk" | _ => ""
noncomputable def clsFlds : Nat → List Str
 | 0 => ["span", "fill"] | 1 => ["fill", "at", "many"] | 2 => ["fill", "at", "many"] | 3 => ["fill", "far"] | 4 => ["fill", "top", "bottom"] | 5 => ["fill"] | 6 => ["fill"] | 7 => ["place"] | 8 => ["place"] | 11 => ["pieces", "places", "earlier", "later"] | 12 => ["lying"] | 13 => ["lines"]
 | 21 => ["pieces"] | 22 => ["pieces", "places"] | 23 => ["pieces", "places", "earlier"] | _ => []
noncomputable def fnName : Nat → Str
 | 0 => "either" | 1 => "if_both" | 2 => "if_alone" | 3 => "summed" | 4 => "_law_first" | 5 => "_law_both" | 6 => "_law_left" | 7 => "_law_sum" | 8 => "_law_none" | _ => ""
inductive D where
 | non | bl (b : Bool) | int (i : Int) | str (x : Str) | tup (ds : List D) | lst (ds : List D)
 | dct (ks : List Key) (ds : List D) | ins (t : Nat) (ds : List D) | clo (m n : Nat) (ds : List D)
 | dcf (ks : List Key) (ds : List D)
mutual
noncomputable def flat : D → Bool
 | .non | .bl _ | .int _ | .str _ => true
 | .tup ds => flats ds
 | _ => false
noncomputable def flats : List D → Bool
 | [] => true
 | d :: r => flat d && flats r
end
noncomputable def xName : Nat → Str
 | 0 => "SpanError" | 1 => "Empty" | 2 => "NoEnd" | 3 => "Clash" | 4 => "NoCount" | 5 => "NoShare" | 6 => "NoName" | 7 => "NoMark" | 8 => "NoDeed" | 9 => "NoRule" | 10 => "TooMuch" | 11 => "NoText" | _ => "NoRow"
inductive OT where
 | val (d : D) | lst (l : List OT) | tup (l : List OT) | dct (ks : List Key) (l : List OT) | ins (t : Nat) (l : List OT)
mutual
noncomputable def otD : OT → D
 | .val d => d
 | .lst l => .lst (otDs l)
 | .tup l => .tup (otDs l)
 | .dct ks l => .dct ks (otDs l)
 | .ins t l => .ins t (otDs l)
noncomputable def otDs : List OT → List D
 | [] => []
 | t :: r => otD t :: otDs r
end
inductive Sl where
 | no | v (d : D) | own (l : List D) | exc (t : Nat) | fr (l : List D) | ob (r : Option Nat) (t : OT)
abbrev FE := List Sl → Option D
abbrev FT := List Sl → Option Bool
abbrev FA := List Sl → Option (List D)
noncomputable def mkL (f : FA) : FE := fun ds => (f ds).map D.lst
noncomputable def getV (i : Nat) : FE := fun ds => match ds[i]? with | some (.v d) => some d | _ => none
noncomputable def getW (i : Nat) : FE := fun ds => match ds[i]? with | some (.v d) => some d | some (.own l) => some (.lst l) | _ => none
noncomputable def konst (d : D) : FE := fun _ => some d
noncomputable def bin2 (op : D → D → Option D) (fa fb : FE) : FE := fun ds => (fa ds).bind fun x => (fb ds).bind fun y => op x y
noncomputable def isB : D → Option Bool
 | .bl b => some b
 | _ => none
noncomputable def testB (f : FE) : FT := fun ds => (f ds).bind isB
noncomputable def addD : D → D → Option D
 | .int i, .int j => some (.int (i + j))
 | .str x, .str y => if x.length + y.length ≤ sizeLine then some (.str (x ++ y)) else none
 | _, _ => none
noncomputable def subD : D → D → Option D
 | .int i, .int j => some (.int (i - j))
 | _, _ => none
noncomputable def divOk (j : Int) : Prop := 0 < j ∧ j.natAbs.log2 < 9000
noncomputable instance divOkD (j : Int) : Decidable (divOk j) := Classical.propDecidable _
noncomputable def fdivD : D → D → Option D
 | .int i, .int j => if divOk j then some (.int (i / j)) else none
 | _, _ => none
noncomputable def modD : D → D → Option D
 | .int i, .int j => if 0 < j then some (.int (i % j)) else none
 | _, _ => none
noncomputable def cmpI (p : Int → Int → Bool) : D → D → Option D
 | .int i, .int j => some (.bl (p i j))
 | _, _ => none
noncomputable def andT (c d : FT) : FT := fun ds => (c ds).bind fun b => if b = true then d ds else some false
noncomputable def orT (c d : FT) : FT := fun ds => (c ds).bind fun b => if b = true then some true else d ds
noncomputable def notT (c : FT) : FT := fun ds => (c ds).map not
noncomputable def andV (f g : FE) : FE := fun ds => (f ds).bind fun d => match d with | .bl true => g ds | .bl false => some (.bl false) | _ => none
noncomputable def orV (f g : FE) : FE := fun ds => (f ds).bind fun d => match d with | .bl true => some (.bl true) | .bl false => g ds | _ => none
noncomputable def notV (f : FE) : FE := fun ds => (f ds).bind fun d => match d with | .bl b => some (.bl (!b)) | _ => none
noncomputable def ifV (c : FT) (f g : FE) : FE := fun ds => (c ds).bind fun b => if b = true then f ds else g ds
noncomputable def chain (op op' : D → D → Option D) (fa fb fc : FE) : FE := fun ds => (fa ds).bind fun x => (fb ds).bind fun y => (op x y).bind fun z => match z with
 | .bl true => (fc ds).bind fun w => op' y w
 | .bl false => some (.bl false)
 | _ => none
noncomputable def consA (f : FE) (g : FA) : FA := fun ds => (f ds).bind fun x => (g ds).map fun r => x :: r
noncomputable def nilA : FA := fun _ => some []
noncomputable def sized (f : FA) : FA := fun ds => (f ds).bind fun l => if l.length ≤ sizeLine then some l else none
noncomputable def mkT (f : FA) : FE := fun ds => (f ds).map D.tup
noncomputable def ixD : D → D → Option D
 | .lst l, .int i => atI l i
 | .tup l, .int i => atI l i
 | .str x, .int i => if x.length ≤ sizeLine then (atI x.cps.toList i).map fun c => .str ⟨#[c]⟩ else none
 | _, _ => none
inductive Ret where
 | val (d : D) | fresh (l : List D) | any (d : D) | obj (t : OT)
noncomputable def retV : Ret → Option D
 | .val d => some d
 | .fresh l => some (.lst l)
 | .any _ => none
 | .obj t => some (otD t)
noncomputable def retF : Ret → Option (List D)
 | .fresh l => some l
 | _ => none
noncomputable def callV (n : Nat) (F : List D → Option Ret) (g : FA) : FE := fun ds => (g ds).bind fun l => if l.length = n then (F l).bind retV else none
noncomputable def callF (n : Nat) (F : List D → Option Ret) (g : FA) : FA := fun ds => (g ds).bind fun l => if l.length = n then (F l).bind retF else none
noncomputable def callB (F : List D → Option D) (g : FA) : FE := fun ds => (g ds).bind F
noncomputable def lenD : List D → Option D
 | [.lst l] => some (.int l.length)
 | [.tup l] => some (.int l.length)
 | [.str x] => if x.length ≤ sizeLine then some (.int x.length) else none
 | _ => none
inductive Out where
 | nx (ds : List Sl) | rt (r : Ret) | bk (ds : List Sl) | ct (ds : List Sl)
abbrev FS := List Sl → Option Out
noncomputable def nextG : FS := fun ds => some (.nx ds)
noncomputable def seqG (f g : FS) : FS := fun ds => (f ds).bind fun o => match o with | .nx ds' => g ds' | o => some o
noncomputable def ifG (c : FT) (f g : FS) : FS := fun ds => (c ds).bind fun b => if b = true then f ds else g ds
noncomputable def setG (i : Nat) (f : FE) : FS := fun ds => (f ds).map fun d => .nx (ds.set i (.v d))
noncomputable def setOG (i : Nat) (f : FA) : FS := fun ds => (f ds).map fun l => .nx (ds.set i (.own l))
noncomputable def flatR (d : D) : Option Out := if flat d = true then some (.rt (.val d)) else none
noncomputable def retG (f : FE) : FS := fun ds => (f ds).bind flatR
noncomputable def flatF (l : List D) : Option Out := if flats l = true then some (.rt (.fresh l)) else none
noncomputable def retOG (f : FA) : FS := fun ds => (f ds).bind flatF
noncomputable def retXG (i : Nat) : FS := fun ds => match ds[i]? with | some (.own l) => flatF l | _ => none
noncomputable def putG (i : Nat) (fk fe : FE) : FS := fun ds => match ds[i]? with
 | some (.own l) => (fe ds).bind fun d => (fk ds).bind fun k => match k with
   | .int n => (ixN l.length n).map fun j => .nx (ds.set i (.own (l.set j d)))
   | _ => none
 | _ => none
noncomputable def appG (i : Nat) (fe : FE) : FS := fun ds => match ds[i]? with
 | some (.own l) => (fe ds).bind fun d => if l.length < sizeLine then some (.nx (ds.set i (.own (l ++ [d])))) else none
 | _ => none
noncomputable def args (n : Nat) (ds : List D) : List Sl := ds.map Sl.v ++ List.replicate (n - ds.length) Sl.no
noncomputable def viaA (f : FE) (k : D → Option (List D)) : FA := fun ds => (f ds).bind k
noncomputable def rangeD (lo : Int) (n : Nat) : List D := (List.range n).map fun (k : Nat) => D.int (lo + (k : Int))
noncomputable def okR (j : Int) : Prop := -(2 ^ 62) ≤ j ∧ j < 2 ^ 62
noncomputable instance okRD (j : Int) : Decidable (okR j) := Classical.propDecidable _
noncomputable def rng1 (f : FE) : FA := fun ds => (f ds).bind fun d => match d with | .int j => if okR j then some (rangeD 0 j.toNat) else none | _ => none
noncomputable def nameG (i : Nat) : D → List Sl → Option (List Sl) := fun d ds => some (ds.set i (.v d))
noncomputable def tgNil : List D → List Sl → Option (List Sl)
 | [], ds => some ds
 | _, _ => none
noncomputable def tgCons (g : D → List Sl → Option (List Sl)) (h : List D → List Sl → Option (List Sl)) : List D → List Sl → Option (List Sl)
 | d :: r, ds => (g d ds).bind fun ds' => h r ds'
 | _, _ => none
noncomputable def tupG (n : Nat) (h : List D → List Sl → Option (List Sl)) : D → List Sl → Option (List Sl)
 | .tup l, ds => if l.length = n then h l ds else none
 | _, _ => none
noncomputable def loopG (ga : D → List Sl → Option (List Sl)) (body : FS) : List D → List Sl → Option Out
 | [], ds => some (.nx ds)
 | d :: r, ds => (ga d ds).bind fun ds1 => (body ds1).bind fun o => match o with
   | .nx ds2 => loopG ga body r ds2
   | .ct ds2 => loopG ga body r ds2
   | .bk ds2 => some (.nx ds2)
   | .rt r => some (.rt r)
noncomputable def forG (fi : FA) (ga : D → List Sl → Option (List Sl)) (body : FS) : FS := fun ds => (fi ds).bind fun items => loopG ga body items ds
noncomputable def compL (ga : D → List Sl → Option (List Sl)) (tt : FT) (fe : FE) (s0 : List Sl) : List D → Option (List D)
 | [] => some []
 | d :: r => (ga d s0).bind fun ds1 => (tt ds1).bind fun b => if b = true then (fe ds1).bind fun y => (compL ga tt fe s0 r).map fun ys => y :: ys else compL ga tt fe s0 r
noncomputable def slotsD (mp : List (Option Nat)) (ds : List Sl) : List Sl := mp.map fun o => match o with
 | some j => (match ds[j]? with | some (.v d) => .v d | _ => .no)
 | none => .no
noncomputable def compG (fi : FA) (mp : List (Option Nat)) (ga : D → List Sl → Option (List Sl)) (tt : FT) (fe : FE) : FA := fun ds => (fi ds).bind fun items => if items.length ≤ sizeLine then compL ga tt fe (slotsD mp ds) items else none
noncomputable def tyD : D → Option String
 | .non => some "NoneType"
 | .bl _ => some "bool"
 | .int _ => some "int"
 | .str _ => some "str"
 | .tup _ => some "tuple"
 | .lst _ => some "list"
 | .dct _ _ => some "dict"
 | .ins _ _ => none
 | .clo _ _ _ => none
 | .dcf _ _ => none
noncomputable def kitN : List String := ["NoneType", "bool", "int", "str", "tuple", "list", "dict"]
noncomputable def kitT : List String := ["bool", "int", "str", "tuple", "list", "dict"]
noncomputable def kitF (t T : String) : Option Bool := if t ∈ kitN ∧ T ∈ kitT then some (t == T || (t == "bool" && T == "int")) else none
noncomputable def isiD (T : String) (d : D) : Option D := (tyD d).bind fun t => (kitF t T).map D.bl
noncomputable def isiG (T : String) (f : FE) : FE := fun ds => (f ds).bind (isiD T)
noncomputable def blsD : List D → Option (List Bool)
 | [] => some []
 | .bl b :: r => (blsD r).map fun bs => b :: bs
 | _ => none
noncomputable def allD : List D → Option D
 | [.lst l] => (blsD l).map fun bs => .bl (bs.all id)
 | _ => none
noncomputable def negD : D → Option D
 | .int i => some (.int (-i))
 | _ => none
noncomputable def un1 (op : D → Option D) (f : FE) : FE := fun ds => (f ds).bind op
noncomputable def retDG (f : FE) : FS := fun ds => (f ds).map fun d => .rt (.val d)
noncomputable def runG (g : FS) (n : Nat) : List D → Option Ret := fun ds => match g (args n ds) with
 | some (.rt r) => some r
 | some (.nx _) => some (.val .non)
 | _ => none
noncomputable def CPowB (i j : Int) : Prop := 0 ≤ j ∧ (Builtin.Int.intBits i : Int) * j ≤ 2 ^ 27
mutual
noncomputable def toPy : D → PyData
 | .non => .none
 | .bl b => .bool b
 | .int i => .int i
 | .str x => .str x
 | .tup ds => .tuple (toPys ds)
 | .lst ds => .list (toPys ds)
 | .dct _ _ => .none
 | .ins _ _ => .none
 | .clo _ _ _ => .none
 | .dcf _ _ => .none
noncomputable def toPys : List D → List PyData
 | [] => []
 | d :: r => toPy d :: toPys r
end
mutual
noncomputable def shal : Nat → D → Bool
 | _, .non => true
 | _, .bl _ => true
 | _, .int _ => true
 | _, .str x => PyData.strOk x
 | n, .tup ds => shals n ds
 | n, .lst ds => shals n ds
 | _, .dct _ _ => false
 | _, .ins _ _ => false
 | _, .clo _ _ _ => false
 | _, .dcf _ _ => false
noncomputable def shals : Nat → List D → Bool
 | _, [] => true
 | 0, _ :: _ => false
 | n + 1, d :: r => shal n d && shals (n + 1) r
end
noncomputable def eqvD (x y : D) : Bool := PyData.eqv (toPy x) (toPy y)
noncomputable def eqvs (x y : List D) : Bool := PyData.eqvAll (toPys x) (toPys y)
noncomputable def eqD (x y : D) : Option D := if shal 40 x = true ∧ shal 40 y = true then some (.bl (eqvD x y)) else none
noncomputable def neD (x y : D) : Option D := if shal 40 x = true ∧ shal 40 y = true then some (.bl (!eqvD x y)) else none
noncomputable def isD : D → D → Option D
 | .non, .non => some (.bl true)
 | _, .non => some (.bl false)
 | _, _ => none
noncomputable def notD : D → D → Option D
 | .non, .non => some (.bl false)
 | _, .non => some (.bl true)
 | _, _ => none
noncomputable def sclD : D → Bool
 | .non | .bl _ | .int _ | .str _ => true
 | _ => false
noncomputable def asLT : D → Option (List D)
 | .lst l => some l
 | .tup l => some l
 | _ => none
noncomputable def inD (neg : Bool) (x y : D) : Option D := (asLT y).bind fun l => if sclD x = true ∧ l.all sclD = true then some (.bl (if neg then !l.any (fun z => eqvD z x) else l.any fun z => eqvD z x)) else none
noncomputable instance mulOkD (i j : Int) : Decidable (IntMulOk i j) := Classical.propDecidable _
noncomputable instance powOkD (i j : Int) : Decidable (CPowB i j) := Classical.propDecidable _
noncomputable def mulD : D → D → Option D
 | .int i, .int j => if IntMulOk i j then some (.int (i * j)) else none
 | _, _ => none
noncomputable def powD : D → D → Option D
 | .int i, .int j => if CPowB i j then some (.int (i ^ j.toNat)) else none
 | _, _ => none
noncomputable def catA (fa fb : FE) : FA := fun ds => (fa ds).bind fun x => (fb ds).bind fun y => match x, y with
 | .lst a, .lst b => if a.length + b.length ≤ sizeLine then some (a ++ b) else none
 | _, _ => none
noncomputable def noP : List Sl → Option (Option Int) := fun _ => some none
noncomputable def soP (f : FE) : List Sl → Option (Option Int) := fun ds => (f ds).bind fun d => match d with | .int i => some (some i) | _ => none
noncomputable def cutD (l : List D) (lo hi : Option Int) : List D := (l.drop (HT.sIx l.length 0 lo)).take (HT.sIx l.length l.length hi - HT.sIx l.length 0 lo)
noncomputable def sliA (f : FE) (lo hi : List Sl → Option (Option Int)) : FA := fun ds => (f ds).bind fun d => (lo ds).bind fun a => (hi ds).bind fun b => match d with
 | .lst l => some (cutD l a b)
 | _ => none
noncomputable def lisA (f : FE) : FA := fun ds => (f ds).bind asLT
noncomputable def mxD : List D → Option D
 | [.int i, .int j] => some (.int (if j > i then j else i))
 | _ => none
noncomputable def mnD : List D → Option D
 | [.int i, .int j] => some (.int (if j < i then j else i))
 | _ => none
noncomputable def absD : List D → Option D
 | [.int i] => some (.int (if i < 0 then -i else i))
 | _ => none
noncomputable def truD : D → Option Bool
 | .non => some false
 | .bl b => some b
 | .int i => some (i != 0)
 | .str x => if x.length ≤ sizeLine then some ((x.length : Int) != 0) else none
 | .tup l => some (!l.isEmpty)
 | .lst l => some (!l.isEmpty)
 | _ => none
noncomputable def testT (f : FE) : FT := fun ds => (f ds).bind truD
noncomputable def relS (i : Nat) (ds : List Sl) : List Sl := match ds[i]? with | some (.own l) => ds.set i (.v (.lst l)) | _ => ds
noncomputable def whileN (c : FT) (b : FS) : Nat → FS
 | 0, _ => none
 | n + 1, ds => (c ds).bind fun k => if k = true then (b ds).bind fun o => match o with
   | .nx ds2 => whileN c b n ds2
   | .ct ds2 => whileN c b n ds2
   | .bk ds2 => some (.nx ds2)
   | .rt r => some (.rt r) else some (.nx ds)
noncomputable def asgG (ga : D → List Sl → Option (List Sl)) (f : FE) : FS := fun ds => (f ds).bind fun d => (ga d ds).map .nx
noncomputable def extG (i : Nat) (fe : FA) : FS := fun ds => match ds[i]? with
 | some (.own l) => (fe ds).bind fun d => if l.length + d.length ≤ sizeLine then some (.nx (ds.set i (.own (l ++ d)))) else none
 | _ => none
noncomputable def clrG (i : Nat) : FS := fun ds => match ds[i]? with
 | some (.own l) => some (.nx (ds.set i (.own [])))
 | _ => none
noncomputable def ltD : D → D → Option D := cmpI fun i j => decide (i < j)
noncomputable def leD : D → D → Option D := cmpI fun i j => decide (i ≤ j)
noncomputable def gtD : D → D → Option D := cmpI fun i j => decide (j < i)
noncomputable def geD : D → D → Option D := cmpI fun i j => decide (j ≤ i)
noncomputable def rng2 (fa fb : FE) : FA := fun ds => (fa ds).bind fun x => (fb ds).bind fun y => match x, y with
 | .int i, .int j => if okR i ∧ okR j then some (rangeD i (j - i).toNat) else none
 | _, _ => none
noncomputable def range3D (lo c : Int) (n : Nat) : List D := (List.range n).map fun (k : Nat) => D.int (lo + (k : Int) * c)
noncomputable def steps3 (i j c : Int) : Nat := if i < j then ((j - i - 1) / c + 1).toNat else 0
noncomputable def okR3 (i j c : Int) : Prop := -(2 ^ 61) ≤ i ∧ i < 2 ^ 61 ∧ -(2 ^ 61) ≤ j ∧ j < 2 ^ 61 ∧ 0 < c ∧ c < 1000000
noncomputable instance okR3D (i j c : Int) : Decidable (okR3 i j c) := Classical.propDecidable _
noncomputable def rng3 (fa fb fc : FE) : FA := fun ds => (fa ds).bind fun x => (fb ds).bind fun y => (fc ds).bind fun z => match x, y, z with
 | .int i, .int j, .int c => if okR3 i j c then some (range3D i c (steps3 i j c)) else none
 | _, _, _ => none
noncomputable def revA (f : FE) : FA := fun ds => (f ds).bind fun d => match d with
 | .lst l => some l.reverse
 | _ => none
noncomputable def augA (i : Nat) (f : FE) : FS := fun ds => (getV i ds).bind fun x => (f ds).bind fun y => match x, y with
 | .int a, .int b => some (.nx (ds.set i (.v (.int (a + b)))))
 | _, _ => none
noncomputable def parG (i j : Nat) (f : FA) : FS := fun ds => (f ds).bind fun l => match l with
 | [a, b] => some (.nx ((ds.set i (.v a)).set j (.v b)))
 | _ => none
noncomputable def int1D : List D → Option D
 | [.int i] => some (.int i)
 | [.bl b] => some (.int (if b then 1 else 0))
 | _ => none
noncomputable def intsD : List D → Option (List Int)
 | [] => some []
 | .int b :: r => (intsD r).map fun bs => b :: bs
 | _ => none
abbrev Fun2 := D → List D → Option Ret
end FL
namespace FL
open PySem PyProof.Rows L2
noncomputable def fldD (ix : List (Nat × Nat)) : D → Option D
 | .ins t ds => (ix.lookup t).bind fun i => ds[i]?
 | _ => none
noncomputable def fldG (ix : List (Nat × Nat)) (f : FE) : FE := fun ds => (f ds).bind (fldD ix)
noncomputable def methR (n : Nat) (cs : List Nat) (F : Nat → List D → Option Ret) (o : D) (l : List D) : Option Ret := match o with
 | .ins t es => if t ∈ cs ∧ l.length = n then F t (.ins t es :: l) else none
 | _ => none
noncomputable def methV (n : Nat) (cs : List Nat) (F : Nat → List D → Option Ret) (fo : FE) (g : FA) : FE := fun ds => (fo ds).bind fun o => (g ds).bind fun l => (methR n cs F o l).bind retV
noncomputable def methF (n : Nat) (cs : List Nat) (F : Nat → List D → Option Ret) (fo : FE) (g : FA) : FA := fun ds => (fo ds).bind fun o => (g ds).bind fun l => (methR n cs F o l).bind retF
noncomputable def makeG (t n : Nat) (G : List D → Option (List D)) (g : FA) : FE := fun ds => (g ds).bind fun l => if l.length = n ∧ flats l = true then (G l).map (D.ins t) else none
end FL
namespace FL
open PySem
noncomputable def okRB (i j : Int) : Prop := -(2 ^ 61) ≤ i ∧ i < 2 ^ 61 ∧ -(2 ^ 61) ≤ j ∧ j < 2 ^ 61
noncomputable instance okRBD (i j : Int) : Decidable (okRB i j) := Classical.propDecidable _
end FL
namespace FL
noncomputable def insU (k : Int) : List Int → List Int
 | [] => [k]
 | a :: l => if k < a then k :: a :: l else if k = a then a :: l else a :: insU k l
noncomputable def srtU (ns : List Int) : List Int := ns.foldr insU []
noncomputable def srtSA (f : FE) : FA := fun ds => (f ds).bind fun d => match d with
 | .lst l => (intsD l).bind fun ns => if ns.length + 1 < 4096 then some ((srtU ns).map D.int) else none
 | _ => none
noncomputable def sltW (f : FE) (lo hi : List Sl → Option (Option Int)) : FE := fun ds => (f ds).bind fun d => (lo ds).bind fun a => (hi ds).bind fun b => match d with
 | .tup l => some (.tup (cutD l a b))
 | _ => none
theorem mem_insU (k a : Int) : ∀ l : List Int, a ∈ insU k l ↔ a = k ∨ a ∈ l
 | [] => by simp [insU]
 | b :: l => by
   unfold insU
   split
   · simp
   · split
     · rename_i e
       rw [e]; simp
     · rw [List.mem_cons, mem_insU k a l, List.mem_cons]
       constructor
       · rintro (h | h | h)
         · exact .inr (.inl h)
         · exact .inl h
         · exact .inr (.inr h)
       · rintro (h | h | h)
         · exact .inr (.inl h)
         · exact .inl h
         · exact .inr (.inr h)
theorem mem_srtU (a : Int) : ∀ ns : List Int, a ∈ srtU ns ↔ a ∈ ns
 | [] => Iff.rfl
 | k :: ns => by
   show a ∈ insU k (srtU ns) ↔ _
   rw [mem_insU, mem_srtU a ns, List.mem_cons]
theorem insU_lt (k : Int) : ∀ l : List Int, l.Pairwise (· < ·) → (insU k l).Pairwise (· < ·)
 | [], _ => List.pairwise_singleton _ _
 | a :: l, h => by
   obtain ⟨h1, h2⟩ := List.pairwise_cons.mp h
   unfold insU
   split
   · rename_i hk
     refine List.pairwise_cons.mpr ⟨fun b hb => ?_, h⟩
     rcases List.mem_cons.mp hb with e | hb
     · rw [e]; exact hk
     · exact Int.lt_trans hk (h1 b hb)
   · split
     · exact h
     · rename_i h3 h4
       refine List.pairwise_cons.mpr ⟨fun b hb => ?_, insU_lt k l h2⟩
       rcases (mem_insU k b l).mp hb with e | hb
       · rw [e]; omega
       · exact h1 b hb
theorem srtU_lt : ∀ ns : List Int, (srtU ns).Pairwise (· < ·)
 | [] => List.Pairwise.nil
 | k :: ns => insU_lt k _ (srtU_lt ns)
theorem lt_unique : ∀ (l m : List Int), (∀ a, a ∈ l ↔ a ∈ m) → l.Pairwise (· < ·) → m.Pairwise (· < ·) → l = m
 | [], [], _, _, _ => rfl
 | [], b :: m, h, _, _ => absurd ((h b).mpr (.head _)) (by simp)
 | a :: l, [], h, _, _ => absurd ((h a).mp (.head _)) (by simp)
 | a :: l, b :: m, h, h1, h2 => by
   obtain ⟨p1, p2⟩ := List.pairwise_cons.mp h1
   obtain ⟨q1, q2⟩ := List.pairwise_cons.mp h2
   have ha : a ≤ b := by
    rcases List.mem_cons.mp ((h b).mpr (.head _)) with e | e
    · rw [e]; exact Int.le_refl _
    · exact Int.le_of_lt (p1 b e)
   have hb : b ≤ a := by
    rcases List.mem_cons.mp ((h a).mp (.head _)) with e | e
    · rw [e]; exact Int.le_refl _
    · exact Int.le_of_lt (q1 a e)
   have e : a = b := Int.le_antisymm ha hb
   subst e
   rw [lt_unique l m (fun c => ?_) p2 q2]
   constructor
   · intro hc
     rcases List.mem_cons.mp ((h c).mp (.tail _ hc)) with e | e
     · exact absurd (p1 c hc) (by rw [e]; exact Int.lt_irrefl _)
     · exact e
   · intro hc
     rcases List.mem_cons.mp ((h c).mpr (.tail _ hc)) with e | e
     · exact absurd (q1 c hc) (by rw [e]; exact Int.lt_irrefl _)
     · exact e
end FL
namespace FL
open PySem PyProof.Rows L2
noncomputable def rngL (fa fb : FE) : FA := fun ds => (fa ds).bind fun x => (fb ds).bind fun y => match x, y with
 | .int i, .int j => some (rangeD i (j - i).toNat)
 | _, _ => none
@[simp] theorem rngL_eq (fa fb : FE) (ds : List Sl) : rngL fa fb ds = (fa ds).bind fun x => (fb ds).bind fun y => match x, y with
 | .int i, .int j => some (rangeD i (j - i).toNat)
 | _, _ => none := rfl
noncomputable instance mulOkSD (x : Str) (n : Int) : Decidable (MulOk x n) := Classical.propDecidable _
abbrev FO := List Sl → Option OT
abbrev FOs := List Sl → Option (List OT)
noncomputable def getN (i : Nat) : FE := fun ds => match ds[i]? with
 | some (.v d) => some d
 | some (.own l) => some (.lst l)
 | some (.ob _ t) => some (otD t)
 | _ => none
noncomputable def vO (f : FE) : FO := fun ds => (f ds).map OT.val
noncomputable def lO (f : FA) : FO := fun ds => (f ds).map fun l => .lst (l.map OT.val)
noncomputable def nilO : FOs := fun _ => some []
noncomputable def consO (f : FO) (g : FOs) : FOs := fun ds => (f ds).bind fun x => (g ds).map fun r => x :: r
noncomputable def tO (f : FOs) : FO := fun ds => (f ds).bind fun l => if l.length ≤ sizeLine then some (.tup l) else none
noncomputable def sO (f : FOs) : FO := fun ds => (f ds).bind fun l => if l.length ≤ sizeLine then some (.lst l) else none
noncomputable def setB (i : Nat) (f : FO) : FS := fun ds => (f ds).map fun t => .nx (ds.set i (.ob none t))
mutual
noncomputable def flatO : OT → Bool
 | .val d => flat d
 | .lst l => flatOs l
 | .tup l => flatOs l
 | .dct _ l => flatOs l
 | .ins _ l => flatOs l
noncomputable def flatOs : List OT → Bool
 | [] => true
 | t :: r => flatO t && flatOs r
end
noncomputable def subO : List Nat → OT → Option OT
 | [], t => some t
 | k :: p, .tup l => (l[k]?).bind (subO p)
 | k :: p, .lst l => (l[k]?).bind (subO p)
 | k :: p, .dct _ l => (l[k]?).bind (subO p)
 | k :: p, .ins _ l => (l[k]?).bind (subO p)
 | _ :: _, .val _ => none
noncomputable def putO (u : OT) : List Nat → OT → OT
 | [], _ => u
 | k :: p, .tup l => .tup (l.modify k (putO u p))
 | k :: p, .lst l => .lst (l.modify k (putO u p))
 | k :: p, .dct ks l => .dct ks (l.modify k (putO u p))
 | k :: p, .ins t l => .ins t (l.modify k (putO u p))
 | _ :: _, .val d => .val d
abbrev FP := List Sl → Option (Nat × List Nat × OT)
noncomputable def varP (i : Nat) : FP := fun ds => match ds[i]? with
 | some (.ob _ t) => some (i, [], t)
 | _ => none
noncomputable def putP (q : Nat × List Nat × OT) (u : OT) (ds : List Sl) : List Sl := match ds[q.1]? with
 | some (.ob r t) => ds.set q.1 (.ob r (putO u q.2.1 t))
 | _ => ds
@[simp] theorem getN_eq (i : Nat) (ds : List Sl) : getN i ds = match ds[i]? with
 | some (.v d) => some d
 | some (.own l) => some (.lst l)
 | some (.ob _ t) => some (otD t)
 | _ => none := rfl
@[simp] theorem vO_eq (f : FE) (ds : List Sl) : vO f ds = (f ds).map OT.val := rfl
@[simp] theorem lO_eq (f : FA) (ds : List Sl) : lO f ds = (f ds).map fun l => .lst (l.map OT.val) := rfl
@[simp] theorem nilO_eq (ds : List Sl) : nilO ds = some [] := rfl
@[simp] theorem consO_eq (f : FO) (g : FOs) (ds : List Sl) : consO f g ds = (f ds).bind fun x => (g ds).map fun r => x :: r := rfl
@[simp] theorem tO_eq (f : FOs) (ds : List Sl) : tO f ds = (f ds).bind fun l => if l.length ≤ sizeLine then some (.tup l) else none := rfl
@[simp] theorem setB_eq (i : Nat) (f : FO) (ds : List Sl) : setB i f ds = (f ds).map fun t => .nx (ds.set i (.ob none t)) := rfl
theorem otDs_vals : ∀ l : List D, otDs (l.map OT.val) = l
 | [] => by simp [otDs]
 | d :: r => by simp [otDs, otD, otDs_vals r]
noncomputable def appP (f : FP) (g : FE) : FS := fun ds => (f ds).bind fun q => (g ds).bind fun d => match q.2.2 with
 | .lst l => if l.length < sizeLine then some (.nx (putP q (.lst (l ++ [.val d])) ds)) else none
 | _ => none
abbrev FX := List Sl → Option (D × List Sl)
noncomputable def relO (i : Nat) (ds : List Sl) : List Sl := match ds[i]? with | some (.ob _ T) => ds.set i (.v (otD T)) | _ => ds
noncomputable def flV' (d : D) : Option D := if flat d = true then some d else none
noncomputable def relVO (i : Nat) (f : FE) : FE := fun ds => (f (relO i ds)).bind flV'
noncomputable def relFO (i : Nat) (f : FA) : FA := fun ds => (f (relO i ds)).bind fun l => if flats l = true then some l else none
noncomputable def seeO (f : FO) : FE := fun ds => (f ds).map otD
noncomputable def refO : OT → Bool
 | .lst _ => true
 | .dct _ _ => true
 | .ins _ _ => true
 | _ => false
noncomputable def seqR (g : FS) (f : FX) : FX := fun ds => (g ds).bind fun o => match o with
 | .nx ds' => f ds'
 | _ => none
noncomputable def vR (f : FE) : FX := fun ds => (f ds).map fun d => (d, ds)
noncomputable def ifR (c : FT) (f g : FX) : FX := fun ds => (c ds).bind fun b => if b = true then f ds else g ds
noncomputable def relR (i : Nat) (f : FX) : FX := fun ds => f (relS i ds)
noncomputable def obAt (p : Nat) : Option Sl → Option OT
 | some (.ob (some q) T) => if q = p then some T else none
 | _ => none
noncomputable def lentR (g : FX) (n p : Nat) (T : OT) (l : List D) : Option (D × OT) := (g ((args n l).set p (.ob (some p) T))).bind fun q => (obAt p (q.2[p]?)).map fun T' => (q.1, T')
noncomputable def hereA (g : FA) : FA := fun ds => (g ds).map fun l => D.non :: l
noncomputable def callR (n i : Nat) (F : OT → List D → Option (D × OT)) (g : FA) : FX := fun ds => (g ds).bind fun l => match ds[i]? with
 | some (.ob r T) => if refO T = true ∧ l.length = n then (F T l).map fun q => (q.1, ds.set i (.ob r q.2)) else none
 | _ => none
noncomputable def setR (j : Nat) (f : FX) : FS := fun ds => (f ds).map fun q => .nx (q.2.set j (.v q.1))
noncomputable def appR (j : Nat) (f : FX) : FS := fun ds => match ds[j]? with
 | some (.own _) => (f ds).bind fun q => match q.2[j]? with
   | some (.own l) => if l.length < sizeLine then some (.nx (q.2.set j (.own (l ++ [q.1])))) else none
   | _ => none
 | _ => none
noncomputable def compLX (ga : D → List Sl → Option (List Sl)) (fe : FX) (S : OT → List Sl) (p : Nat) : OT → List D → Option (List D × OT)
 | T, [] => some ([], T)
 | T, x :: r => (ga x (S T)).bind fun ds1 => (fe ds1).bind fun q => (obAt p (q.2[p]?)).bind fun T' => (compLX ga fe S p T' r).map fun z => (q.1 :: z.1, z.2)
noncomputable def compR (fi : FA) (mp : List (Option Nat)) (i p : Nat) (ga : D → List Sl → Option (List Sl)) (fe : FX) : FX := fun ds => (fi ds).bind fun items => match ds[i]? with
 | some (.ob r T) => if items.length ≤ sizeLine ∧ refO T = true then (compLX ga fe (fun T => (slotsD mp ds).set p (.ob (some p) T)) p T items).map fun z => (.lst z.1, ds.set i (.ob r z.2)) else none
 | _ => none
end FL
namespace L2
open PySem PySem.Spec PyProof.Rows
noncomputable def keyIs : Key → Value → Bool
 | .inl k, v => Value.isInt k v
 | .inr x, v => Value.isStrOf x v
noncomputable def keyH (w : World) : Key → Int
 | .inl k => hashInt k
 | .inr x => hashStr w x
theorem keyIs_shape : ∀ {k : Key} {v : Value}, keyIs k v = true → (∃ i t, k = Sum.inl i ∧ v = Value.int i t) ∨ (∃ x t, k = Sum.inr x ∧ v = Value.str x t)
 | .inl i, v, h => by
   obtain ⟨t, e⟩ := Value.isInt_shape (k := i) (v := v) h
   exact .inl ⟨i, t, rfl, e⟩
 | .inr x, v, h => by
   obtain ⟨t, e⟩ := Value.isStrOf_shape (x := x) (v := v) h
   exact .inr ⟨x, t, rfl, e⟩
theorem key_ll (a b : Int) : decide ((Sum.inl a : Key) = Sum.inl b) = (a == b) := by
 by_cases e : a = b
 · subst e; simp
 · have h : ¬ (Sum.inl a : Key) = Sum.inl b := fun q => e (Sum.inl.inj q)
   rw [decide_eq_false h]
   exact (beq_eq_false_iff_ne.mpr e).symm
theorem key_rr (a b : Str) : decide ((Sum.inr a : Key) = Sum.inr b) = decide (a = b) := by
 by_cases e : a = b
 · subst e; simp
 · have h : ¬ (Sum.inr a : Key) = Sum.inr b := fun q => e (Sum.inr.inj q)
   rw [decide_eq_false h, decide_eq_false e]
theorem key_lr (a : Int) (b : Str) : decide ((Sum.inl a : Key) = Sum.inr b) = false := decide_eq_false (fun q => nomatch q)
theorem key_rl (a : Str) (b : Int) : decide ((Sum.inr a : Key) = Sum.inl b) = false := decide_eq_false (fun q => nomatch q)
noncomputable def mixKind (prog : Program) (w : World) : PySem.KeyKind prog w Key where
 is := keyIs
 hash := keyH w
 inj := fun v a b ha hb => by
  rcases keyIs_shape ha with ⟨i, t, rfl, rfl⟩ | ⟨x, t, rfl, rfl⟩
  · rcases keyIs_shape hb with ⟨j, u, rfl, e⟩ | ⟨y, u, rfl, e⟩
    · injection e with e1 _; rw [e1]
    · exact nomatch e
  · rcases keyIs_shape hb with ⟨j, u, rfl, e⟩ | ⟨y, u, rfl, e⟩
    · exact nomatch e
    · injection e with e1 _; rw [e1]
 byValue := fun k v h => by
  rcases keyIs_shape h with ⟨i, t, rfl, rfl⟩ | ⟨x, t, rfl, rfl⟩ <;> rfl
 pyHash := fun hv h => by
  rcases keyIs_shape hv with ⟨i, t, rfl, rfl⟩ | ⟨x, t, rfl, rfl⟩
  · exact wpAny_pyHash_int h
  · exact wpAny_pyHash_str h
 eqBool := fun hu hv h => by
  rcases keyIs_shape hu with ⟨i, t, rfl, rfl⟩ | ⟨x, t, rfl, rfl⟩
  · rcases keyIs_shape hv with ⟨j, u, rfl, rfl⟩ | ⟨y, u, rfl, rfl⟩
    · rw [key_ll] at h; exact wpAny_eqBool_int h
    · rw [key_lr] at h; exact SeqAt.EqAt.int_str i t y u _ _ _ _ h
  · rcases keyIs_shape hv with ⟨j, u, rfl, rfl⟩ | ⟨y, u, rfl, rfl⟩
    · rw [key_rl] at h; exact SeqAt.EqAt.str_int x t j u _ _ _ _ h
    · rw [key_rr] at h; exact wpAny_eqBool_str h
 «strs» := fun k x t v h => by
  rcases keyIs_shape h with ⟨i, u, rfl, e⟩ | ⟨y, u, rfl, e⟩
  · exact nomatch e
  · injection e with e1 _
    subst e1
    cases v <;> rfl
inductive V where
 | non | bl (b : Bool) | int (i : Int) | str (x : Str) | byt (b : Array UInt8) | flt (b : UInt64) | ref (a : Addr) | ty (n : String)
 deriving DecidableEq
noncomputable def RelV : V → Value → Prop
 | .non, u => u = Value.none
 | .bl b, u => u = Value.bool b
 | .int i, u => ∃ t, u = Value.int i t
 | .str x, u => ∃ t, u = Value.str x t
 | .byt b, u => ∃ t, u = Value.bytes b t
 | .flt b, u => ∃ t, u = Value.float b t
 | .ref a, u => u = Value.ref a
 | .ty n, u => u = Value.type n
abbrev Vals : List V → List Value → Prop := Paired RelV
theorem Vals.length {xs : List V} {us : List Value} (r : Vals xs us) : xs.length = us.length := Paired.length r
theorem Vals.get : ∀ {xs : List V} {us : List Value} {i : Nat} {x : V}, Vals xs us → xs[i]? = some x → ∃ u, us[i]? = some u ∧ RelV x u
 | _, _, _, _, .nil, e => by simp at e
 | _, _, 0, _, .cons r _, e => by simp at e; subst e; exact ⟨_, rfl, r⟩
 | _, _, i + 1, x, .cons _ t, e => by
   obtain ⟨u, h1, h2⟩ := Vals.get (i := i) (x := x) t (by simpa using e)
   exact ⟨u, by simpa using h1, h2⟩
theorem Vals.set {x : V} {u : Value} (r : RelV x u) : ∀ {xs : List V} {us : List Value} (i : Nat), Vals xs us → Vals (xs.set i x) (us.set i u)
 | _, _, _, .nil => .nil
 | _, _, 0, .cons _ t => .cons r t
 | _, _, i + 1, .cons q t => .cons q (Vals.set r i t)
theorem Vals.append : ∀ {xs ys : List V} {us ws : List Value}, Vals xs us → Vals ys ws → Vals (xs ++ ys) (us ++ ws)
 | _, _, _, _, .nil, s => s
 | _, _, _, _, .cons r t, s => .cons r (Vals.append t s)
theorem Vals.take : ∀ {xs : List V} {us : List Value} (n : Nat), Vals xs us → Vals (xs.take n) (us.take n)
 | _, _, 0, _ => .nil
 | _, _, _ + 1, .nil => .nil
 | _, _, n + 1, .cons r t => .cons r (Vals.take n t)
theorem Vals.drop : ∀ {xs : List V} {us : List Value} (n : Nat), Vals xs us → Vals (xs.drop n) (us.drop n)
 | _, _, 0, r => r
 | _, _, _ + 1, .nil => .nil
 | _, _, n + 1, .cons _ t => Vals.drop n t
noncomputable def RelO : Option V → Option Value → Prop
 | some v, some u => RelV v u
 | none, none => True
 | _, _ => False
noncomputable def KV {κ : Type} : List (κ × V) → List (κ × Value) → Prop := Paired fun (p : κ × V) (q : κ × Value) => p.1 = q.1 ∧ RelV p.2 q.2
noncomputable def kV : Key → V
 | .inl i => .int i
 | .inr x => .str x
inductive HO where
 /-- a list -/
 | lst (xs : List V)
 /-- a tuple (never changes) -/
 | tup (xs : List V)
 /-- a dict whose keys are ints and texts; one whose keys are tuples of ints and texts (the empty one is both) -/
 | dK (kvs : List (Key × V)) | dT (kvs : List (List Key × V))
 /-- a set of ints: its members, its size -/
 | set (S : Int → Bool) (n : Nat)
 /-- an instance of the class at C, its dict at dx, its attributes -/
 | ins (C dx : Addr) (fs : List (Str × V))
 /-- the dict of the instance at x -/
 | own (x : Addr)
 /-- the dict of an exception -/
 | xd (fs : List (Str × V))
 /-- a bound method, f of x -/
 | met (f x : Addr)
 /-- a range object lo, lo + 1, .. below hi -/
 | rng (lo hi : Int)
 /-- a thing that is known to the object (the script; a dict while a loop walks it): read, never written while it is so -/
 | frz (o : Obj) (u : HO)
 /-- a code object's table -/
 | tbl (q : Nat → Nat → Str)
 /-- any other thing, by what is true of its one object (a def of one's own: SetO a S n := HO.ext fun h => ..) -/
 | ext (φ : Heap → Prop)
abbrev Hp := Addr → Option HO
noncomputable def upd (H : Hp) (a : Addr) (o : HO) : Hp := fun b => if b = a then some o else H b
theorem upd_same {H : Hp} {a : Addr} {o : HO} : upd H a o a = some o := by unfold upd; rw [if_pos rfl]
theorem upd_ne {H : Hp} {a b : Addr} {o : HO} (h : b ≠ a) : upd H a o b = H b := by unfold upd; rw [if_neg h]
theorem ne_of_none {H : Hp} {a b : Addr} {o : HO} (h : H a = some o) (h' : H b = none) : a ≠ b := by
 intro e; subst e; rw [h] at h'; cases h'
noncomputable def TblOk (H : Hp) (q : Nat → Nat → Str) (ps : Array Value) : Prop := TriplesOk ps.toList ∧ ∀ pos v, codeAmong pos ps.toList = some v → ∃ c o u vs t, v = .ref c ∧ H c = some (.frz o u) ∧ o.data = .fields vs ∧ vs[1]? = some (.str (q pos.line pos.col) t)
noncomputable def Fixed : HO → Prop
 | .tup _ => True
 | .frz o _ => ∃ vs, o.data = .fields vs
 | _ => False
noncomputable def Fx := { u : HO // Fixed u }
section
variable (P : Program) (w : World)
noncomputable def ObjOk (H : Hp) (h : Heap) (a : Addr) : HO → Prop
 | .lst xs => xs.length ≤ sizeLine ∧ ∃ (its : List Value) (n : Nat), Vals xs its ∧ h.get? a = some { cls := .type "list", data := .seq its.toArray n }
 | .tup xs => xs.length ≤ sizeLine ∧ ∃ its : List Value, Vals xs its ∧ IsTup h a its.toArray
 | .dK kvs => kvs.length ≤ sizeLine ∧ (a == sysModules) = false ∧ ∃ vs, KV kvs vs ∧ h.DictOf (mixKind P w) a vs
 | .dT kvs => kvs.length ≤ sizeLine ∧ (a == sysModules) = false ∧ ∃ xs : List (List Key × Addr × Value),
    Paired (fun (p : List Key × V) (q : List Key × Addr × Value) => p.1 = q.1 ∧ H q.2.1 = some (.tup (p.1.map kV)) ∧ RelV p.2 q.2.2) kvs xs ∧
    ∃ o es ep, h.get? a = some o ∧ o.ExactDict ∧ o.data = .dict es ep ∧ es.toList = xs.map (entryOfKey (tupleKind (mixKind P w))) ∧ (xs.map (·.1)).Nodup
 | .set S n => h.SetOf (intKind P w) a S n
 | .ins C dx fs => H dx = some (.own a) ∧ fs.length ≤ 1000 ∧ dx ≠ a ∧ h.get? a = some (PySem.W.instObj C dx) ∧
    ∃ mA, h.Ns1 dx mA ∧ (∀ f, RelO (fs.lookup f) (mA f)) ∧ PySem.Within mA (fs.map (·.1))
 | .own _ => ∃ o, h.get? a = some o
 | .xd fs => ∃ mA, h.Ns1 a mA ∧ ∀ f, RelO (fs.lookup f) (mA f)
 | .rng lo hi => ∃ t u v, h.get? a = some { cls := .type "range", data := .fields #[.int lo t, .int hi u, .int 1 v] }
 | .frz o u => h.get? a = some o ∧ ObjOk H h a u
 | .tbl q => ∃ ps, h.get? a = some (PySem.W.tabObj ps) ∧ TblOk H q ps
 | .met f x => h.get? a = some (PySem.W.methodObj (.ref f) (.ref x))
 | .ext φ => φ h ∧ (∃ o, h.get? a = some o) ∧ ∀ h1 h2 : Heap, φ h1 → (∀ o, h1.get? a = some o → h2.get? a = some o) → φ h2
noncomputable def HOk (H : Hp) (h : Heap) : Prop := ∀ a o, H a = some o → ObjOk P w H h a o
end
section
variable {P : Program} {w : World} {H H' : Hp} {h h' : Heap} {a : Addr} {o : HO}
theorem ObjOk.lt (x : ObjOk P w H h a o) : a < h.objs.size := by
 cases o with
 | lst xs => obtain ⟨_, _, _, _, e⟩ := x; exact Heap.lt_size e
 | tup xs => obtain ⟨_, _, _, p⟩ := x; exact p.lt
 | dK kvs => obtain ⟨_, _, _, _, o, _, _, e, _⟩ := x; exact Heap.lt_size e
 | dT kvs => obtain ⟨_, _, _, _, o, _, _, e, _⟩ := x; exact Heap.lt_size e
 | set S n => obtain ⟨o, _, _, _, e, _⟩ := x; exact Heap.lt_size e
 | ins C dx fs => obtain ⟨_, _, _, e, _⟩ := x; exact Heap.lt_size e
 | own y => obtain ⟨_, e⟩ := x; exact Heap.lt_size e
 | xd fs => obtain ⟨_, ⟨_, _, _, e, _⟩, _⟩ := x; exact Heap.lt_size e
 | rng lo hi => obtain ⟨_, _, _, e⟩ := x; exact Heap.lt_size e
 | frz ob u => obtain ⟨e, _⟩ := x; exact Heap.lt_size e
 | tbl q => obtain ⟨_, e, _⟩ := x; exact Heap.lt_size e
 | met f y => exact Heap.lt_size (show h.get? a = some _ from x)
 | ext φ => obtain ⟨_, ⟨_, e⟩, _⟩ := x; exact Heap.lt_size e
theorem Paired.mapP {α β : Type} {F G : α → β → Prop} : ∀ {l₁ : List α} {l₂ : List β}, Paired F l₁ l₂ → (∀ a b, F a b → G a b) → Paired G l₁ l₂
 | _, _, .nil, _ => .nil
 | _, _, .cons r t, f => .cons (f _ _ r) (Paired.mapP t f)
theorem ObjOk.stay (x : ObjOk P w H h a o) (k : ∀ b u, (b = a ∨ H b = some (.own a)) → h.get? b = some u → h'.get? b = some u)
  (ho : ∀ b, H b = some (.own a) → H' b = some (.own a)) (ht : ∀ b (xs : Fx), H b = some xs.1 → H' b = some xs.1) : ObjOk P w H' h' a o := by
 induction o with
 | lst xs => obtain ⟨z, its, n, r, e⟩ := x; exact ⟨z, its, n, r, k _ _ (.inl rfl) e⟩
 | tup xs => obtain ⟨z, its, r, ob, e, c⟩ := x; exact ⟨z, its, r, ob, k _ _ (.inl rfl) e, c⟩
 | dK kvs => obtain ⟨z, y, vs, r, ob, es, ep, e, c⟩ := x; exact ⟨z, y, vs, r, ob, es, ep, k _ _ (.inl rfl) e, c⟩
 | dT kvs =>
   obtain ⟨z, y, xs, r, ob, es, ep, e, c⟩ := x
   exact ⟨z, y, xs, Paired.mapP r fun p q z => ⟨z.1, ht _ ⟨.tup _, trivial⟩ z.2.1, z.2.2⟩, ob, es, ep, k _ _ (.inl rfl) e, c⟩
 | set S n => obtain ⟨ob, es, ep, t, e, c⟩ := x; exact ⟨ob, es, ep, t, k _ _ (.inl rfl) e, c⟩
 | ins C dx fs =>
   obtain ⟨d, z, ne, e, mA, ⟨od, es, ep, e2, c⟩, r⟩ := x
   exact ⟨ho _ d, z, ne, k _ _ (.inl rfl) e, mA, ⟨od, es, ep, k _ _ (.inr d) e2, c⟩, r⟩
 | own y => obtain ⟨ob, e⟩ := x; exact ⟨ob, k _ _ (.inl rfl) e⟩
 | xd fs => obtain ⟨mA, ⟨od, es, ep, e, c⟩, r⟩ := x; exact ⟨mA, ⟨od, es, ep, k _ _ (.inl rfl) e, c⟩, r⟩
 | rng lo hi => obtain ⟨t, u, v, e⟩ := x; exact ⟨t, u, v, k _ _ (.inl rfl) e⟩
 | frz ob u ih => obtain ⟨e, q⟩ := x; exact ⟨k _ _ (.inl rfl) e, ih q⟩
 | tbl q =>
   obtain ⟨ps, e, t1, t2⟩ := x
   refine ⟨ps, k a _ (.inl rfl) e, t1, fun pos v z => ?_⟩
   obtain ⟨c, o, u, vs, t, h1, h2, h3, h4⟩ := t2 pos v z
   exact ⟨c, o, u, vs, t, h1, ht c ⟨.frz o u, vs, h3⟩ h2, h3, h4⟩
 | met f y =>
   have e : h.get? a = some (PySem.W.methodObj (.ref f) (.ref y)) := x
   show h'.get? a = some (PySem.W.methodObj (.ref f) (.ref y))
   exact k a _ (.inl rfl) e
 | ext φ => obtain ⟨p, ⟨o, e⟩, st⟩ := x; exact ⟨st _ _ p fun o q => k _ _ (.inl rfl) q, ⟨o, k _ _ (.inl rfl) e⟩, st⟩
theorem HOk.lt (x : HOk P w H h) (e : H a = some o) : a < h.objs.size := (x a o e).lt
theorem HOk.fresh (x : HOk P w H h) (e : h.objs.size ≤ a) : H a = none := by
 cases q : H a with
 | none => rfl
 | some u => exact absurd (Nat.lt_of_lt_of_le (x.lt q) e) (Nat.lt_irrefl _)
theorem HOk.kept (x : HOk P w H h) (k : ∀ b u, h.get? b = some u → h'.get? b = some u) : HOk P w H h' := fun a o e =>
 (x a o e).stay (fun b u _ q => k b u q) (fun _ q => q) fun _ _ q => q
theorem HOk.laid (x : HOk P w H h) (k : ∀ b u, h.get? b = some u → h'.get? b = some u) (hp : h.objs.size ≤ a) (new : ObjOk P w (upd H a o) h' a o) : HOk P w (upd H a o) h' := fun b u e => by
 have hn := x.fresh hp
 by_cases hb : b = a
 · subst hb; rw [upd_same] at e; cases e; exact new
 · rw [upd_ne hb] at e
   exact (x b u e).stay (fun c v _ q => k c v q) (fun c q => by rw [upd_ne (ne_of_none q hn)]; exact q) fun c xs q => by rw [upd_ne (ne_of_none q hn)]; exact q
end
noncomputable def Rd (H : Hp) (a : Addr) (u : HO) : Prop := H a = some u ∨ ∃ o, H a = some (.frz o u)
theorem Rd.ok {P : Program} {w : World} {H : Hp} {h : Heap} {a : Addr} {u : HO} (r : Rd H a u) (x : HOk P w H h) : ObjOk P w H h a u := by
 rcases r with r | ⟨o, r⟩
 · exact x a u r
 · obtain ⟨_, q⟩ := x a _ r
   exact q
noncomputable def Mut : Option HO → Prop
 | some (.lst _) => True
 | some (.dK _) => True
 | some (.dT _) => True
 | some (.set _ _) => True
 | some (.ins _ _ _) => True
 | some (.ext _) => True
 | _ => False
section
variable {P : Program} {w : World} {H : Hp} {h h' : Heap} {x e : Addr} {o' : HO}
theorem HOk.write (ok : HOk P w H h) (mu : Mut (H x)) (he : e = x ∨ H e = some (.own x)) (k : ∀ b u, b ≠ e → h.get? b = some u → h'.get? b = some u) (heo : ∃ u, h'.get? e = some u)
  (new : ObjOk P w (upd H x o') h' x o') : HOk P w (upd H x o') h' := fun b u q => by
 have nown : ∀ c y, H c = some (.own y) → c ≠ x := fun c y r z => by subst z; rw [r] at mu; exact mu
 have ntup : ∀ c (xs : Fx), H c = some xs.1 → c ≠ x := fun c xs r z => by
  subst z; rw [r] at mu; obtain ⟨u, hu⟩ := xs
  cases u <;> first | exact False.elim mu | exact False.elim hu
 by_cases hb : b = x
 · subst hb; rw [upd_same] at q; cases q; exact new
 · rw [upd_ne hb] at q
   by_cases hbe : b = e
   · have q' : H b = some (.own x) := by
      rcases he with z | z
      · exact absurd (hbe.trans z) hb
      · rw [hbe]; exact z
     rw [q] at q'; cases q'
     obtain ⟨v, hv⟩ := heo
     exact ⟨v, by rw [hbe]; exact hv⟩
   · refine (ok b u q).stay (fun c v hc r => k c v ?_ r) (fun c r => by rw [upd_ne (nown c b r)]; exact r) fun c xs r => by rw [upd_ne (ntup c xs r)]; exact r
     rcases hc with rfl | hc
     · exact hbe
     · rintro rfl
       rcases he with z | z
       · exact nown c b hc z
       · rw [hc] at z; cases z; exact hb rfl
end
structure Un (fs ex : List Addr) (H H' : Hp) (h h' : Heap) : Prop where
 keep : ∀ b o, h.get? b = some o → H b = none → b ∉ fs → b ∉ ex → h'.get? b = some o
 slot : ∀ b o, h.get? b = some o → H b = none → b ∈ fs → b ∉ ex → ∃ sl, h'.get? b = some { o with slots := sl }
 free : ∀ b o, h.get? b = some o → H b = none → b ∉ ex → H' b = none
 there : ∀ b o, h.get? b = some o → b ∉ ex → ∃ o', h'.get? b = some o'
 tups : ∀ b xs, H b = some (.tup xs) → H' b = some (.tup xs)
 frzs : ∀ b o u, H b = some (.frz o u) → H' b = some (.frz o u)
 tbls : ∀ b ps, H b = some (.tbl ps) → H' b = some (.tbl ps)
section
variable {fs fs' ex ex' : List Addr} {H H1 H2 : Hp} {h h1 h2 h' : Heap} {a x e : Addr} {o : HO}
theorem Un.any (u : Un fs ex H H1 h h1) {b : Addr} {ob : Obj} (q : h.get? b = some ob) (n : H b = none) (hx : b ∉ ex) : ∃ sl, h1.get? b = some { ob with slots := sl } := by
 by_cases hb : b ∈ fs
 · exact u.slot b ob q n hb hx
 · exact ⟨ob.slots, u.keep b ob q n hb hx⟩
theorem Un.trans (a : Un fs ex H H1 h h1) (b : Un fs ex H1 H2 h1 h2) : Un fs ex H H2 h h2 where
 keep := fun c ob q n hc hx => b.keep c ob (a.keep c ob q n hc hx) (a.free c ob q n hx) hc hx
 slot := fun c ob q n hc hx => by
  obtain ⟨sl, e1⟩ := a.slot c ob q n hc hx
  obtain ⟨sl', e2⟩ := b.slot c _ e1 (a.free c ob q n hx) hc hx
  exact ⟨sl', e2⟩
 free := fun c ob q n hx => by
  obtain ⟨o', e1⟩ := a.there c ob q hx
  exact b.free c o' e1 (a.free c ob q n hx) hx
 there := fun c ob q hx => by
  obtain ⟨o', e1⟩ := a.there c ob q hx
  exact b.there c o' e1 hx
 tups := fun c xs q => b.tups c xs (a.tups c xs q)
 frzs := fun c ob xs q => b.frzs c ob xs (a.frzs c ob xs q)
 tbls := fun c ps q => b.tbls c ps (a.tbls c ps q)
theorem Un.kept (k : ∀ b u, h.get? b = some u → h'.get? b = some u) : Un fs ex H H h h' :=
 ⟨fun b ob q _ _ _ => k b ob q, fun b ob q _ _ _ => ⟨ob.slots, k b ob q⟩, fun _ _ _ n _ => n, fun b ob q _ => ⟨ob, k b ob q⟩, fun _ _ q => q, fun _ _ _ q => q, fun _ _ q => q⟩
theorem Un.refl : Un fs ex H H h h := Un.kept fun _ _ q => q
theorem Un.laid (k : ∀ b u, h.get? b = some u → h'.get? b = some u) (hp : h.objs.size ≤ a) (hn : H a = none) : Un fs ex H (upd H a o) h h' where
 keep := fun b u q _ _ _ => k b u q
 slot := fun b u q _ _ _ => ⟨u.slots, k b u q⟩
 free := fun b u q n _ => by rw [upd_ne (Nat.ne_of_lt (Nat.lt_of_lt_of_le (Heap.lt_size q) hp))]; exact n
 there := fun b u q _ => ⟨u, k b u q⟩
 tups := fun b xs q => by rw [upd_ne (ne_of_none q hn)]; exact q
 frzs := fun b u xs q => by rw [upd_ne (ne_of_none q hn)]; exact q
 tbls := fun b ps q => by rw [upd_ne (ne_of_none q hn)]; exact q
theorem Un.write (mu : Mut (H x)) (he : e = x ∨ H e = some (.own x)) (k : ∀ b u, b ≠ e → h.get? b = some u → h'.get? b = some u) (heo : ∃ u, h'.get? e = some u) : Un fs ex H (upd H x o) h h' := by
 have hx : ∀ b, H b = none → b ≠ x := fun b n z => by subst z; rw [n] at mu; exact mu
 have hb : ∀ b, H b = none → b ≠ e := fun b n z => by
  subst z
  rcases he with r | r
  · exact hx b n r
  · rw [n] at r; cases r
 have hm : ∀ b u, H b = some u → ¬ Mut (some u) → b ≠ x := fun b u q nm z => by subst z; rw [q] at mu; exact nm mu
 refine ⟨fun b u q n _ _ => k b u (hb b n) q, fun b u q n _ _ => ⟨u.slots, k b u (hb b n) q⟩, fun b u q n _ => by rw [upd_ne (hx b n)]; exact n, fun b u q _ => ?_,
  fun b xs q => by rw [upd_ne (hm b _ q fun z => z)]; exact q, fun b u xs q => by rw [upd_ne (hm b _ q fun z => z)]; exact q, fun b ps q => by rw [upd_ne (hm b _ q fun z => z)]; exact q⟩
 by_cases hbe : b = e
 · subst hbe; exact heo
 · exact ⟨u, k b u hbe q⟩
end
noncomputable def trk (h : Heap) (H : Hp) : List Addr := (List.range h.objs.size).filter fun a => (H a).isSome
noncomputable def hidT (h : Heap) (H : Hp) : Heap := PySem.W.hideAll h (trk h H)
theorem hidT_size (h : Heap) (H : Hp) : (hidT h H).objs.size = h.objs.size := PySem.W.hideAll_size _ _
theorem hidT_get {h : Heap} {H : Hp} {b : Addr} {o : Obj} (e : h.get? b = some o) (n : H b = none) : (hidT h H).get? b = some o :=
 PySem.W.hideAll_get _ e fun hm => by
  have q : (H b).isSome = true := (List.mem_filter.mp hm).2
  rw [n] at q; simp at q
theorem of_hidT {h : Heap} {H : Hp} {b : Addr} {o : Obj} (e : (hidT h H).get? b = some o) : h.get? b = some o ∧ H b = none := by
 have e' : h.get? b = some o := PySem.W.of_hideAll (trk h H) e
 refine ⟨e', ?_⟩
 cases q : H b with
 | none => rfl
 | some x =>
   have hm : b ∈ trk h H := List.mem_filter.mpr ⟨List.mem_range.mpr (Heap.lt_size e'), by simp [q]⟩
   have z : (hidT h H).get? b = none := PySem.W.hideAll_none (trk h H) hm
   rw [z] at e; cases e
noncomputable def allNews (g h : Heap) (L : Addr) : List (Addr × Obj) := (List.range h.objs.size).filterMap fun a => if a = L ∨ (g.get? a).isSome = true then none else (h.get? a).map fun o => (a, o)
noncomputable def rest (g h : Heap) (L d : Addr) : List (Addr × Obj) := (allNews g h L).filter fun p => decide (p.1 ≠ d)
structure Mod (K : PySem.W.Frag) (mg : Str → Option Value) (base : Heap) : Prop where
 kin : K.In base
 glob : base.Ns mainGlobals mg
 blt : ∃ mb, base.Ns builtinsNs mb ∧ ∀ x : Str, x ≠ "__name__" → mb x = bootBuiltins x
 nolimit : base.NoLimit
structure Cx where
 prog : Program
 w : World
 K : PySem.W.Frag
 mg : Str → Option Value
 base : Heap
 A : Around
 N : List Str
 s₀ : Shared
 H₀ : Hp
 env : Env
 outer : List Env
 stack : List Env
 ex : List Addr
 fn : Str → Bool
 calm : Bool
 pn : List (Addr × Obj)
 xe : Value → Shared → Prop
noncomputable def frs (l : List Env) : List Addr := l.filterMap (·.frame)
noncomputable abbrev Cx.fs (X : Cx) : List Addr := frs X.outer
noncomputable def Vis (sc : Scope) (x : Str) : Prop := sc.names.lookup x = some .local ∨ sc.names.lookup x = some .cell ∨ sc.names.lookup x = some .free
noncomputable def Loc (sc : Scope) (x : Str) : Prop := sc.names.lookup x = some .local ∨ sc.names.lookup x = some .cell
noncomputable def Look (env : Env) (h : Heap) (m : Str → Option Value) (x : Str) (u : Value) : Prop :=
 (env.kindOf x = some .local ∧ m x = some u) ∨ ((env.kindOf x = some .cell ∨ env.kindOf x = some .free) ∧ ∃ c, env.cells.lookup x = some c ∧ h.IsCell c (some u))
noncomputable def makers : List Str := ["law", "_law_with_itself", "_law_ways", "_law_way", "holding", "_law_any_test", "_law_test", "_law_turned", "_law_right", "wheel_run", "answer_run"]
noncomputable def innerN : List Stmt → Nat → Nat → Str
 | [], _, _ => "<lambda>"
 | .FunctionDef n _ _ _ _ _ _ _ _ pos :: r, l, c => if pos.line = l ∧ pos.col = c then n else innerN r l c
 | _ :: r, l, c => innerN r l c
noncomputable def innerQ (K : PySem.W.Frag) (x : Str) (l c : Nat) : Str := match PySem.W.nsIn K mainGlobals x with
 | some (some (.ref f)) => (match K.lookup f with
   | some ⟨_, _, .func fd, _⟩ => (match fd.body with
     | .stmts b => x ++ ".<locals>." ++ innerN b l c
     | _ => x)
   | _ => x)
 | _ => x
structure TabsK (K : PySem.W.Frag) (mg : Str → Option Value) (base : Heap) (H : Hp) : Prop where
 bm : ∃ bm ob, mg "__builtins__" = some (.ref bm) ∧ bm ≠ builtinsNs ∧ base.get? bm = some ob ∧ ob.cls = .type "module" ∧ ob.dict = some builtinsNs ∧ ob.data = .plain
 tab : ∀ x c P, x ∈ makers → PySem.W.tabIn K x = some (c, P) → PySem.W.CodeHd base c P ∧ H P = some (.tbl (innerQ K x))
noncomputable def Bsz (K : PySem.W.Frag) (mg : Str → Option Value) (base h : Heap) (H : Hp) : Prop := base.objs.size ≤ h.objs.size ∧ TabsK K mg base H
noncomputable def FreeC (X : Cx) (H : Hp) (x : Str) (c : Addr) : Prop := H c = none ∨ (X.fn x = false ∧ ∃ o u, H c = some (.frz o u))
theorem FreeC.now {X : Cx} {H : Hp} {x : Str} {c : Addr} (h : FreeC X H x c) (hf : X.fn x = true) : H c = none := h.elim id fun z => by rw [hf] at z; cases z.1
structure Cx.Ok (X : Cx) : Prop where
 mod : Mod X.K X.mg X.base
 kind : X.env.scope.kind = .function
 glob : X.env.globals = mainGlobals
 blt : X.env.builtins = builtinsNs
 above : X.s₀.heap.objs.size ≤ X.env.locals
 inj : ∀ x y c, X.env.cells.lookup x = some c → X.env.cells.lookup y = some c → x = y
 has : ∀ x, (X.env.kindOf x = some .cell ∨ X.env.kindOf x = some .free) → ∃ c, X.env.cells.lookup x = some c
 cab : ∀ x c, X.fn x = true → X.env.cells.lookup x = some c → X.s₀.heap.objs.size ≤ c
 hd : X.calm = true → X.A.handled = none
 frames : X.A.frames = some X.stack
 stk : X.stack = X.outer ∨ (X.stack = X.env :: X.outer ∧ X.env.frame = some X.env.locals)
 exf : ∀ b ∈ X.ex, b ≠ X.env.locals ∧ ∀ x c, X.env.cells.lookup x = some c → c ≠ b
 bs : ∀ b o, X.base.get? b = some o → X.s₀.heap.get? b = some o ∧ X.H₀ b = none
 bsz : Bsz X.K X.mg X.base X.s₀.heap X.H₀
 noex : ∀ b o, X.base.get? b = some o → b ∉ X.ex
 exfs : ∀ b ∈ X.ex, b ∉ X.fs
 funs : X.s₀.heap.FunFrames X.base X.outer
 frf : ∀ b ∈ X.fs, X.H₀ b = none
structure Inv (X : Cx) (pins : List (Addr × Obj)) (σ : List (Option V)) (H : Hp) (s : Shared) : Prop where
 ok : X.Ok
 os : s.os = X.s₀.os
 bare : AllBare s.gens
 base : Un X.fs X.ex X.H₀ H X.s₀.heap s.heap
 loc : ∃ m, s.heap.Ns X.env.locals m ∧ ∀ (i : Nat) (x : Str) (v : V), X.N[i]? = some x → σ[i]? = some (some v) → Vis X.env.scope x → ∃ u, RelV v u ∧ Look X.env s.heap m x u
 cell : ∀ x c, X.env.cells.lookup x = some c → ∃ v, s.heap.IsCell c v
 free : H X.env.locals = none
 freeC : ∀ x c, X.env.cells.lookup x = some c → FreeC X H x c
 pin : ∀ p ∈ X.pn ++ pins, s.heap.get? p.1 = some p.2 ∧ H p.1 = none ∧ p.1 ≠ X.env.locals ∧ p.1 ∉ X.fs ∧ ∀ v, p.2.data ≠ .cell v
 hok : HOk X.prog X.w H s.heap
 len : σ.length = X.N.length
section
variable {X : Cx} {pins : List (Addr × Obj)} {σ : List (Option V)} {H H' : Hp} {s : Shared} {h' : Heap}
theorem Cx.Ok.nofr (ok : X.Ok) {b : Addr} {o : Obj} (e : X.base.get? b = some o) : b ∉ X.fs := fun hb => by
 have := (ok.funs.mem hb).1
 rw [e] at this; cases this
theorem Inv.bs (I : Inv X pins σ H s) : ∀ b o, X.base.get? b = some o → s.heap.get? b = some o ∧ H b = none := fun b o e =>
 ⟨I.base.keep b o (I.ok.bs b o e).1 (I.ok.bs b o e).2 (I.ok.nofr e) (I.ok.noex b o e), I.base.free b o (I.ok.bs b o e).1 (I.ok.bs b o e).2 (I.ok.noex b o e)⟩
theorem Inv.bk (I : Inv X pins σ H s) : ∀ b o, X.base.get? b = some o → s.heap.get? b = some o := fun b o e => (I.bs b o e).1
theorem Inv.mod (I : Inv X pins σ H s) : Mod X.K X.mg X.base := I.ok.mod
theorem Inv.kIn (I : Inv X pins σ H s) : X.K.In s.heap := I.ok.mod.kin.keeps I.bk
theorem Inv.lt (I : Inv X pins σ H s) : X.env.locals < s.heap.objs.size := let ⟨_, hn, _⟩ := I.loc; hn.lt
theorem Inv.sz (I : Inv X pins σ H s) : X.s₀.heap.objs.size ≤ s.heap.objs.size := Nat.le_trans I.ok.above (Nat.le_of_lt I.lt)
theorem Inv.nofs (I : Inv X pins σ H s) {a : Addr} (h : s.heap.objs.size ≤ a) : a ∉ X.fs := fun hb => by
 obtain ⟨_, o, ho, _⟩ := I.ok.funs.mem hb
 exact absurd (Nat.lt_of_lt_of_le (Heap.lt_size ho) (Nat.le_trans I.sz h)) (Nat.lt_irrefl _)
theorem Inv.cne (I : Inv X pins σ H s) : ∀ x c, X.env.cells.lookup x = some c → c ≠ X.env.locals := fun x c e z => by
 obtain ⟨v, o, ho, hd⟩ := I.cell x c e
 obtain ⟨m, ⟨o', es, ep, ho', hd', _⟩, _⟩ := I.loc
 rw [z, ho'] at ho; cases ho; rw [hd'] at hd; cases hd
theorem Inv.funs (I : Inv X pins σ H s) : s.heap.FunFrames X.base X.outer := by
 have all : ∀ (l : List Env), (∀ b ∈ frs l, b ∈ X.fs) → X.s₀.heap.FunFrames X.base l → s.heap.FunFrames X.base l := by
  intro l
  induction l with
  | nil => intro _ _; trivial
  | cons env r ih =>
    intro hs hl
    obtain ⟨hk, ⟨L, o, hf, hn, ho, hd⟩, hr⟩ := hl
    have hL : L ∈ X.fs := hs L (by unfold frs; rw [List.filterMap_cons, hf]; exact List.mem_cons_self)
    obtain ⟨sl, e⟩ := I.base.slot L o ho (I.ok.frf L hL) hL fun z => I.ok.exfs L z hL
    exact ⟨hk, ⟨L, _, hf, hn, e, hd⟩, ih (fun b hb => hs b (by unfold frs; rw [List.filterMap_cons, hf]; exact List.mem_cons_of_mem _ hb)) hr⟩
 exact all X.outer (fun _ hb => hb) I.ok.funs
theorem Inv.stack (I : Inv X pins σ H s) : s.heap.FunFrames X.base X.stack := by
 rcases I.ok.stk with e | ⟨e, hf⟩
 · rw [e]; exact I.funs
 · rw [e]
   obtain ⟨m, hn, _⟩ := I.loc
   refine .cons (by rw [I.ok.kind]; decide) hf hn ?_ I.funs
   exact Heap.get?_none_of_le (Nat.le_trans I.ok.bsz.1 I.ok.above)
theorem Inv.stkSub (I : Inv X pins σ H s) : ∀ b ∈ frs X.stack, b ∈ X.env.locals :: X.fs := fun b hb => by
 rcases I.ok.stk with e | ⟨e, hf⟩
 · rw [e] at hb; exact List.mem_cons_of_mem _ hb
 · rw [e] at hb
   unfold frs at hb
   rw [List.filterMap_cons, hf] at hb
   exact hb
theorem Inv.stkFree (I : Inv X pins σ H s) : ∀ b ∈ frs X.stack, H b = none := fun b hb => by
 rcases List.mem_cons.mp (I.stkSub b hb) with e | hb
 · rw [e]; exact I.free
 · obtain ⟨_, o, ho, _⟩ := I.ok.funs.mem hb
   exact I.base.free b o ho (I.ok.frf b hb) fun z => I.ok.exfs b z hb
theorem Inv.step {g' : Array GenState} {t' : Nat} {d' : Drawn} {ch : List Addr} (I : Inv X pins σ H s)
  (hch : ∀ b ∈ ch, (b ∈ X.ex ∨ X.s₀.heap.objs.size ≤ b) ∧ b ≠ X.env.locals ∧ (∀ x c, X.env.cells.lookup x = some c → c ≠ b) ∧ ∀ p ∈ X.pn ++ pins, p.1 ≠ b)
  (keep : ∀ b o, b ≠ X.env.locals → b ∉ X.fs → b ∉ ch → s.heap.get? b = some o → H b = none → h'.get? b = some o)
  (slot : ∀ b o, b ≠ X.env.locals → b ∈ X.fs → b ∉ ch → s.heap.get? b = some o → H b = none → ∃ sl, h'.get? b = some { o with slots := sl }) (free : ∀ b o, b ∉ ch → s.heap.get? b = some o → H b = none → H' b = none)
  (there : ∀ b o, b ∉ ch → s.heap.get? b = some o → ∃ o', h'.get? b = some o')
  (tups : ∀ b xs, H b = some (.tup xs) → H' b = some (.tup xs)) (frzs : ∀ b o u, H b = some (.frz o u) → H' b = some (.frz o u)) (tbls : ∀ b ps, H b = some (.tbl ps) → H' b = some (.tbl ps))
  (ns : ∀ m, s.heap.Ns X.env.locals m → h'.Ns X.env.locals m) (hok : HOk X.prog X.w H' h') (hg : AllBare g') :
  Inv X pins σ H' { s with heap := h', gens := g', drawn := d', toks := t' } := by
 have neL : ∀ b o, X.s₀.heap.get? b = some o → b ≠ X.env.locals := fun b o e => Nat.ne_of_lt (Nat.lt_of_lt_of_le (Heap.lt_size e) I.ok.above)
 have neC : ∀ b o, X.s₀.heap.get? b = some o → b ∉ X.ex → b ∉ ch := fun b o e hx hb => by
  rcases (hch b hb).1 with z | z
  · exact hx z
  · exact absurd (Nat.lt_of_lt_of_le (Heap.lt_size e) z) (Nat.lt_irrefl _)
 have cellK : ∀ x c, X.env.cells.lookup x = some c → ∀ v, s.heap.IsCell c v → h'.IsCell c v := fun x c e v ⟨o, ho, hd⟩ => by
  have nch : c ∉ ch := fun z => (hch c z).2.2.1 x c e rfl
  rcases I.freeC x c e with fr | ⟨_, of, uf, fr⟩
  · by_cases hc : c ∈ X.fs
    · obtain ⟨sl, q⟩ := slot c o (I.cne x c e) hc nch ho fr
      exact ⟨_, q, hd⟩
    · exact ⟨o, keep c o (I.cne x c e) hc nch ho fr, hd⟩
  · obtain ⟨e1, _⟩ := I.hok c _ fr
    obtain ⟨e2, _⟩ := hok c _ (frzs c of uf fr)
    rw [ho] at e1; cases e1
    exact ⟨o, e2, hd⟩
 refine ⟨I.ok, I.os, hg, ⟨fun b o e n hb hx => ?_, fun b o e n hb hx => ?_, fun b o e n hx => ?_, fun b o e hx => ?_, fun b xs e => tups b xs (I.base.tups b xs e), fun b o xs e => frzs b o xs (I.base.frzs b o xs e), fun b ps e => ?_⟩, ?_, fun x c e => ?_, ?_, fun x c e => ?_, fun p hp => ?_, hok, I.len⟩
 · exact keep b o (neL b o e) hb (neC b o e hx) (I.base.keep b o e n hb hx) (I.base.free b o e n hx)
 · obtain ⟨sl, e1⟩ := I.base.slot b o e n hb hx
   obtain ⟨sl', e2⟩ := slot b _ (neL b o e) hb (neC b o e hx) e1 (I.base.free b o e n hx)
   exact ⟨sl', e2⟩
 · obtain ⟨o', e1⟩ := I.base.there b o e hx
   exact free b o' (neC b o e hx) e1 (I.base.free b o e n hx)
 · obtain ⟨o', e1⟩ := I.base.there b o e hx
   exact there b o' (neC b o e hx) e1
 · exact tbls b ps (I.base.tbls b ps e)
 · obtain ⟨m, hn, hl⟩ := I.loc
   refine ⟨m, ns m hn, fun i x v e1 e2 e3 => ?_⟩
   obtain ⟨u, r, l⟩ := hl i x v e1 e2 e3
   refine ⟨u, r, ?_⟩
   rcases l with l | ⟨k, c, e, z⟩
   · exact .inl l
   · exact .inr ⟨k, c, e, cellK x c e _ z⟩
 · obtain ⟨v, z⟩ := I.cell x c e
   exact ⟨v, cellK x c e v z⟩
 · obtain ⟨m, ⟨o, _, _, ho, _⟩, _⟩ := I.loc
   exact free _ o (fun z => (hch _ z).2.1 rfl) ho I.free
 · obtain ⟨v, o, ho, hd⟩ := I.cell x c e
   exact (I.freeC x c e).elim (fun fr => .inl (free c o (fun z => (hch c z).2.2.1 x c e rfl) ho fr)) fun ⟨h1, of, uf, fr⟩ => .inr ⟨h1, of, uf, frzs c of uf fr⟩
 · obtain ⟨e, n, ne, nf, d⟩ := I.pin p hp
   have nch : p.1 ∉ ch := fun z => (hch p.1 z).2.2.2 p hp rfl
   exact ⟨keep p.1 p.2 ne nf nch e n, free p.1 p.2 nch e n, ne, nf, d⟩
theorem Inv.un {t' : Nat} (I : Inv X pins σ H s) (u : Un X.fs [] H H' s.heap h') (hok : HOk X.prog X.w H' h') : Inv X pins σ H' { s with heap := h', toks := t' } := by
 obtain ⟨m, ⟨o, es, ep, ho, r⟩, _⟩ := id I.loc
 obtain ⟨sl, hL⟩ := u.any ho I.free (by simp)
 exact I.step (g' := s.gens) (d' := s.drawn) (ch := []) (fun _ z => nomatch z) (fun b o _ hb _ e n => u.keep b o e n hb (by simp)) (fun b o _ hb _ e n => u.slot b o e n hb (by simp)) (fun b o _ e n => u.free b o e n (by simp)) (fun b o _ e => u.there b o e (by simp)) u.tups u.frzs u.tbls (fun m' hm => by
  obtain ⟨o', es', ep', ho', r'⟩ := hm
  rw [ho] at ho'; cases ho'
  exact ⟨_, es', ep', hL, r'⟩) hok I.bare
theorem Inv.call {g' : Array GenState} {t' : Nat} {d' : Drawn} {ch : List Addr} (I : Inv X pins σ H s) (u : Un (frs X.stack) ch H H' s.heap h') (hok : HOk X.prog X.w H' h') (hg : AllBare g')
  (hch : ∀ b ∈ ch, (b ∈ X.ex ∨ X.s₀.heap.objs.size ≤ b) ∧ b ≠ X.env.locals ∧ (∀ x c, X.env.cells.lookup x = some c → c ≠ b) ∧ ∀ p ∈ X.pn ++ pins, p.1 ≠ b) :
  Inv X pins σ H' { s with heap := h', gens := g', drawn := d', toks := t' } := by
 obtain ⟨m, ⟨o, es, ep, ho, r⟩, _⟩ := id I.loc
 obtain ⟨sl, hL⟩ := u.any ho I.free fun z => (hch _ z).2.1 rfl
 exact I.step (ch := ch) hch (fun b o hL hb hc e n => u.keep b o e n (fun z => (List.mem_cons.mp (I.stkSub b z)).elim hL hb) hc) (fun b o _ _ hc e n => u.any e n hc) (fun b o hc e n => u.free b o e n hc) (fun b o hc e => u.there b o e hc) u.tups u.frzs u.tbls (fun m' hm => by
  obtain ⟨o', es', ep', ho', r'⟩ := hm
  rw [ho] at ho'; cases ho'
  exact ⟨_, es', ep', hL, r'⟩) hok hg
theorem Inv.turned {t' : Nat} {it : Addr} (I : Inv X pins σ H s) (k : ∀ b o, b ≠ it → s.heap.get? b = some o → h'.get? b = some o) (hn : H it = none) (hL : it ≠ X.env.locals)
  (h1 : it ∈ X.ex ∨ X.s₀.heap.objs.size ≤ it) (h2 : ∀ x c, X.env.cells.lookup x = some c → c ≠ it) (h3 : ∀ p ∈ X.pn ++ pins, p.1 ≠ it) : Inv X pins σ H { s with heap := h', toks := t' } := by
 have nit : ∀ b u, H b = some u → b ≠ it := fun b u e z => by rw [z, hn] at e; cases e
 refine I.step (g' := s.gens) (d' := s.drawn) (ch := [it]) (fun b hb => ?_) (fun b o _ _ hc e _ => k b o (fun z => hc (by simp [z])) e) (fun b o _ _ hc e _ => ⟨o.slots, k b o (fun z => hc (by simp [z])) e⟩) (fun _ _ _ _ n => n)
  (fun b o hc e => ⟨o, k b o (fun z => hc (by simp [z])) e⟩) (fun _ _ e => e) (fun _ _ _ e => e) (fun _ _ e => e) (fun m hm => ?_) (fun b u e => ?_) I.bare
 · have e : b = it := by simpa using hb
   subst e
   exact ⟨h1, hL, h2, h3⟩
 · obtain ⟨o, es, ep, ho, r⟩ := hm
   exact ⟨o, es, ep, k _ o (Ne.symm hL) ho, r⟩
 · refine (I.hok b u e).stay (fun c v hc q => k c v ?_ q) (fun _ q => q) fun _ _ q => q
   rcases hc with z | z
   · rw [z]; exact nit b u e
   · exact nit c _ z
theorem Inv.tok (I : Inv X pins σ H s) (t : Nat) : Inv X pins σ H { s with toks := t } := I.un (h' := s.heap) (t' := t) Un.refl I.hok
theorem Inv.kept {t' : Nat} (I : Inv X pins σ H s) (k : ∀ b u, s.heap.get? b = some u → h'.get? b = some u) : Inv X pins σ H { s with heap := h', toks := t' } := I.un (Un.kept k) (I.hok.kept k)
theorem Inv.laid {a : Addr} {o : HO} {t' : Nat} (I : Inv X pins σ H s) (k : ∀ b u, s.heap.get? b = some u → h'.get? b = some u) (hp : s.heap.objs.size ≤ a) (new : ObjOk X.prog X.w (upd H a o) h' a o) :
  Inv X pins σ (upd H a o) { s with heap := h', toks := t' } := I.un (Un.laid k hp (I.hok.fresh hp)) (I.hok.laid k hp new)
theorem Inv.write {x e : Addr} {o : HO} {t' : Nat} (I : Inv X pins σ H s) (mu : Mut (H x)) (he : e = x ∨ H e = some (.own x)) (k : ∀ b u, b ≠ e → s.heap.get? b = some u → h'.get? b = some u) (heo : ∃ u, h'.get? e = some u)
  (new : ObjOk X.prog X.w (upd H x o) h' x o) : Inv X pins σ (upd H x o) { s with heap := h', toks := t' } := I.un (Un.write mu he k heo) (I.hok.write mu he k heo new)
theorem Inv.pins_of {pins' : List (Addr × Obj)} (I : Inv X pins σ H s) (h : ∀ p ∈ pins', s.heap.get? p.1 = some p.2 ∧ H p.1 = none ∧ p.1 ≠ X.env.locals ∧ p.1 ∉ X.fs ∧ ∀ v, p.2.data ≠ .cell v) : Inv X pins' σ H s :=
 ⟨I.ok, I.os, I.bare, I.base, I.loc, I.cell, I.free, I.freeC, fun p hp => (List.mem_append.mp hp).elim (fun z => I.pin p (List.mem_append_left _ z)) (h p), I.hok, I.len⟩
theorem nodup_ix {N : List Str} (hN : N.Nodup) {i j : Nat} {x : Str} (a : N[i]? = some x) (b : N[j]? = some x) : i = j := by
 obtain ⟨h1, e1⟩ := List.getElem?_eq_some_iff.mp a
 obtain ⟨h2, e2⟩ := List.getElem?_eq_some_iff.mp b
 exact (List.getElem_inj hN).mp (e1.trans e2.symm)
theorem store_ok2 {M : Model} {A : Around} {E : Value → Shared → Prop} {i : Nat} {x : Str} {v : V} {u : Value} {Q : Unit → Shared → Prop} (I : Inv X pins σ H s) (hN : X.N.Nodup) (hi : X.N[i]? = some x) (hx : Loc X.env.scope x) (r : RelV v u)
  (h : ∀ s', Inv X pins (σ.set i (some v)) H s' → (∃ a, Heap.SameBut a s.heap s'.heap ∧ (a = X.env.locals ∨ X.env.cells.lookup x = some a)) → Q () s') (hf : X.fn x = true ∨ X.env.scope.names.lookup x = some .local := by first | exact .inl rfl | exact .inr rfl | assumption) : wpAny M A (storeName X.env x u) Q E s := by
 obtain ⟨m, hn, hl⟩ := id I.loc
 have hcls : (X.env.scope.kind == .class || (X.env.scope.kind == .module && X.env.locals != X.env.globals)) = false := by rw [I.ok.kind]; rfl
 have hiσ : i < σ.length := by rw [I.len]; exact (List.getElem?_eq_some_iff.mp hi).1
 have cne := I.cne
 have tracked : ∀ {a : Addr} {h' : Heap}, (∃ o, s.heap.get? a = some o ∧ H a = none) → Heap.SameBut a s.heap h' → HOk X.prog X.w H h' := fun {a h'} ha hs b ob e => by
  obtain ⟨_, _, hfree⟩ := ha
  refine (I.hok b ob e).stay (fun c w' hc q => (hs.2 c ?_).trans q) (fun _ q => q) fun _ _ q => q
  rintro rfl
  rcases hc with rfl | hc
  · rw [hfree] at e; cases e
  · rw [hfree] at hc; cases hc
 rcases hx with hk | hk
 · refine wpAny_storeName_local hk hn (fun h' hn' hs => ?_) hcls
   obtain ⟨oL, _, _, hoL, _⟩ := id hn
   refine h _ ⟨I.ok, I.os, I.bare, ⟨fun b o e n hb hx => ?_, fun b o e n hb hx => ?_, I.base.free, fun b o e hx => ?_, I.base.tups, I.base.frzs, I.base.tbls⟩, ⟨_, hn', fun j y v' e1 e2 e3 => ?_⟩, fun y c e => ?_, I.free, I.freeC, fun p hp => ?_, tracked ⟨oL, hoL, I.free⟩ hs, by simpa using I.len⟩ ⟨_, hs, .inl rfl⟩
   · exact (hs.2 b (Nat.ne_of_lt (Nat.lt_of_lt_of_le (Heap.lt_size e) I.ok.above))).trans (I.base.keep b o e n hb hx)
   · obtain ⟨sl, e1⟩ := I.base.slot b o e n hb hx
     exact ⟨sl, (hs.2 b (Nat.ne_of_lt (Nat.lt_of_lt_of_le (Heap.lt_size e) I.ok.above))).trans e1⟩
   · obtain ⟨o', e1⟩ := I.base.there b o e hx
     exact ⟨o', (hs.2 b (Nat.ne_of_lt (Nat.lt_of_lt_of_le (Heap.lt_size e) I.ok.above))).trans e1⟩
   · by_cases hj : j = i
     · subst hj
       rw [hi] at e1; cases e1
       rw [List.getElem?_set_self hiσ] at e2
       cases e2
       exact ⟨u, r, .inl ⟨hk, by simp⟩⟩
     · rw [List.getElem?_set_ne (Ne.symm hj)] at e2
       obtain ⟨u', r', q⟩ := hl j y v' e1 e2 e3
       refine ⟨u', r', ?_⟩
       rcases q with ⟨k, e⟩ | ⟨k, c, e, z⟩
       · refine .inl ⟨k, ?_⟩
         have : y ≠ x := fun e => hj (nodup_ix hN e1 (e ▸ hi))
         simp [this, e]
       · exact .inr ⟨k, c, e, z.sameBut hs (cne y c e)⟩
   · obtain ⟨w', z⟩ := I.cell y c e
     exact ⟨w', z.sameBut hs (cne y c e)⟩
   · obtain ⟨e, n, ne, nf, d⟩ := I.pin p hp
     exact ⟨(hs.2 p.1 ne).trans e, n, ne, nf, d⟩
 · have hfn : X.fn x = true := by
    rcases hf with z | z
    · exact z
    · rw [z] at hk; cases hk
   obtain ⟨c, hc⟩ := I.ok.has x (.inl hk)
   obtain ⟨w', z⟩ := I.cell x c hc
   refine wpAny_storeName_cell I.ok.kind hk hc z (fun h' hc' hs => ?_)
   obtain ⟨oc, hoc, hocd⟩ := id z
   refine h { s with heap := h' } ⟨I.ok, I.os, I.bare, ⟨fun b o e n hb hx => ?_, fun b o e n hb hx => ?_, I.base.free, fun b o e hx => ?_, I.base.tups, I.base.frzs, I.base.tbls⟩, ⟨m, hn.sameBut hs (Ne.symm (cne x c hc)), fun j y v' e1 e2 e3 => ?_⟩, fun y c' e => ?_, I.free, I.freeC, fun p hp => ?_, tracked ⟨oc, hoc, (I.freeC x c hc).now hfn⟩ hs, by simpa using I.len⟩ ⟨c, hs, .inr hc⟩
   · exact (hs.2 b (Nat.ne_of_lt (Nat.lt_of_lt_of_le (Heap.lt_size e) (I.ok.cab x c hfn hc)))).trans (I.base.keep b o e n hb hx)
   · obtain ⟨sl, e1⟩ := I.base.slot b o e n hb hx
     exact ⟨sl, (hs.2 b (Nat.ne_of_lt (Nat.lt_of_lt_of_le (Heap.lt_size e) (I.ok.cab x c hfn hc)))).trans e1⟩
   · obtain ⟨o', e1⟩ := I.base.there b o e hx
     exact ⟨o', (hs.2 b (Nat.ne_of_lt (Nat.lt_of_lt_of_le (Heap.lt_size e) (I.ok.cab x c hfn hc)))).trans e1⟩
   · by_cases hj : j = i
     · subst hj
       rw [hi] at e1; cases e1
       rw [List.getElem?_set_self hiσ] at e2
       cases e2
       exact ⟨u, r, .inr ⟨.inl hk, c, hc, hc'⟩⟩
     · rw [List.getElem?_set_ne (Ne.symm hj)] at e2
       obtain ⟨u', r', q⟩ := hl j y v' e1 e2 e3
       refine ⟨u', r', ?_⟩
       rcases q with q | ⟨k, c', e, z'⟩
       · exact .inl q
       · refine .inr ⟨k, c', e, z'.sameBut hs ?_⟩
         rintro rfl
         exact hj (nodup_ix hN e1 (I.ok.inj _ _ _ e hc ▸ hi))
   · by_cases hcc : c' = c
     · subst hcc; exact ⟨_, hc'⟩
     · obtain ⟨w2, z2⟩ := I.cell y c' e
       exact ⟨w2, z2.sameBut hs hcc⟩
   · obtain ⟨e, n, ne, nf, d⟩ := I.pin p hp
     refine ⟨(hs.2 p.1 ?_).trans e, n, ne, nf, d⟩
     intro q
     rw [q, hoc] at e
     have q' : oc = p.2 := Option.some.inj e
     exact d w' (by rw [← q']; exact hocd)
theorem store_ok {M : Model} {A : Around} {E : Value → Shared → Prop} {i : Nat} {x : Str} {v : V} {u : Value} {Q : Unit → Shared → Prop} (I : Inv X pins σ H s) (hN : X.N.Nodup) (hi : X.N[i]? = some x) (hx : Loc X.env.scope x) (r : RelV v u)
  (h : ∀ s', Inv X pins (σ.set i (some v)) H s' → Q () s') (hf : X.fn x = true ∨ X.env.scope.names.lookup x = some .local := by first | exact .inl rfl | exact .inr rfl | assumption) : wpAny M A (storeName X.env x u) Q E s :=
 store_ok2 I hN hi hx r (fun s' I' _ => h s' I') hf
theorem Inv.call' {s' : Shared} {ch : List Addr} (I : Inv X pins σ H s) (ho : s'.os = s.os) (u : Un (frs X.stack) ch H H' s.heap s'.heap) (hok : HOk X.prog X.w H' s'.heap) (hg : AllBare s'.gens)
  (hch : ∀ b ∈ ch, (b ∈ X.ex ∨ X.s₀.heap.objs.size ≤ b) ∧ b ≠ X.env.locals ∧ (∀ x c, X.env.cells.lookup x = some c → c ≠ b) ∧ ∀ p ∈ X.pn ++ pins, p.1 ≠ b) : Inv X pins σ H' s' := by
 obtain ⟨h', g', d', t', o'⟩ := s'
 have e : o' = s.os := ho
 subst e
 exact I.call (g' := g') (t' := t') (d' := d') u hok hg hch
end
abbrev XK := Value → Option Addr → Hp → Prop
abbrev St := List (Option V)
abbrev VK := V → Hp → Prop
abbrev TE := St → Hp → VK → Prop
abbrev TT := St → Hp → (Bool → Hp → Prop) → Prop
abbrev TA := St → Hp → (List V → Hp → Prop) → Prop
structure Ends where
 nx : St → Hp → Prop
 rt : VK
 bk : St → Hp → Prop := fun _ _ => False
 ct : St → Hp → Prop := fun _ _ => False
abbrev TS := Ends → St → Hp → Prop
noncomputable def EP (X : Cx) (pins : List (Addr × Obj)) (σ : St) (Q : VK) (u : Value) (s' : Shared) : Prop := ∃ v H', Inv X pins σ H' s' ∧ RelV v u ∧ Q v H'
noncomputable def TP (X : Cx) (pins : List (Addr × Obj)) (σ : St) (Q : Bool → Hp → Prop) (b : Bool) (s' : Shared) : Prop := ∃ H', Inv X pins σ H' s' ∧ Q b H'
noncomputable def AP (X : Cx) (pins : List (Addr × Obj)) (σ : St) (Q : List V → Hp → Prop) (us : List Value) (s' : Shared) : Prop := ∃ vs H', Inv X pins σ H' s' ∧ Vals vs us ∧ Q vs H'
noncomputable def SP (X : Cx) (pins : List (Addr × Obj)) (D : Ends) (f : Flow) (s' : Shared) : Prop :=
 match f with
 | .next => ∃ σ' H', Inv X pins σ' H' s' ∧ D.nx σ' H'
 | .brk => ∃ σ' H', Inv X pins σ' H' s' ∧ D.bk σ' H'
 | .cont => ∃ σ' H', Inv X pins σ' H' s' ∧ D.ct σ' H'
 | .ret u => ∃ v σ' H', Inv X pins σ' H' s' ∧ RelV v u ∧ D.rt v H'
noncomputable def PE (X : Cx) (e : Expr) (t : TE) : Prop :=
 ∀ (pins : List (Addr × Obj)) (s : Shared) (σ : St) (H : Hp) (Q : VK), Inv X pins σ H s → t σ H Q → wpAny (model X.prog X.w) X.A (eval e X.env) (EP X pins σ Q) X.xe s
noncomputable def PT (X : Cx) (e : Expr) (t : TT) : Prop :=
 ∀ (pins : List (Addr × Obj)) (s : Shared) (σ : St) (H : Hp) (Q : Bool → Hp → Prop), Inv X pins σ H s → t σ H Q → wpAny (model X.prog X.w) X.A (isTrue e X.env (eval e X.env)) (TP X pins σ Q) X.xe s
noncomputable def PW (X : Cx) (e : Expr) (t : TT) : Prop :=
 ∀ (whole : Sem Value) (pins : List (Addr × Obj)) (s : Shared) (σ : St) (H : Hp) (Q : Bool → Hp → Prop), Inv X pins σ H s → t σ H Q → wpAny (model X.prog X.w) X.A (isTrue e X.env whole) (TP X pins σ Q) X.xe s
theorem PW.pt {X : Cx} {e : Expr} {t : TT} (h : PW X e t) : PT X e t := h _
noncomputable def PA (X : Cx) (es : List Expr) (t : TA) : Prop :=
 ∀ (pos : Pos) (pins : List (Addr × Obj)) (s : Shared) (σ : St) (H : Hp) (Q : List V → Hp → Prop), Inv X pins σ H s → t σ H Q → wpAny (model X.prog X.w) X.A (spliced (backTo pos (starEach es X.env))) (AP X pins σ Q) X.xe s
noncomputable def PS (X : Cx) (st : Stmt) (t : TS) : Prop :=
 ∀ (pins : List (Addr × Obj)) (s : Shared) (σ : St) (H : Hp) (D : Ends), Inv X pins σ H s → t D σ H → wpAny (model X.prog X.w) X.A (exec st X.env) (SP X pins D) X.xe s
noncomputable def PSs (X : Cx) (st : List Stmt) (t : TS) : Prop :=
 ∀ (pins : List (Addr × Obj)) (s : Shared) (σ : St) (H : Hp) (D : Ends), Inv X pins σ H s → t D σ H → wpAny (model X.prog X.w) X.A (execs st X.env) (SP X pins D) X.xe s
theorem thn {α : Type} {t : Sem α} {Q Q' : α → Shared → Prop} {M : Model} {A : Around} {E : Value → Shared → Prop} {s : Shared} (h : wpAny M A t Q E s) (hQ : ∀ a s, Q a s → Q' a s) : wpAny M A t Q' E s := wpAny_mono h hQ fun _ _ x => x
section
variable {X : Cx}
noncomputable def tVar (i : Nat) : TE := fun σ H Q => ∃ v, σ[i]? = some (some v) ∧ Q v H
noncomputable def tC (v : V) : TE := fun _ H Q => Q v H
theorem pe_var {i : Nat} {x : Str} {pos : Pos} (hN : X.N[i]? = some x) (hv : Vis X.env.scope x) (hd : (x == ("__debug__" : Str)) = false := by decide) (hcd : (x == ("__classdict__" : Str)) = false := by decide) : PE X (.Name x pos) (tVar i) := by
 intro pins s σ H Q I h
 obtain ⟨v, e, h⟩ := h
 obtain ⟨m, hn, hl⟩ := I.loc
 obtain ⟨u, r, l⟩ := hl i x v hN e hv
 have fin : EP X pins σ Q u s := ⟨v, H, I, r, h⟩
 rcases l with ⟨hk, hm⟩ | ⟨hk, c, hc, hcell⟩
 · exact wpAny_Name (wpAny_loadName_local I.ok.kind hk hn hm fin) hd
 · rcases hk with hk | hk
   · exact wpAny_Name (wpAny_loadName_cell I.ok.kind hk hc hcell fin) hd
   · exact wpAny_Name (wpAny_loadName_free I.ok.kind hk hc hcell fin hcd) hd
theorem pe_int {i j pos} : PE X (.Constant (.int i) j pos) (tC (.int i)) := fun _ _ _ H _ I h => wpAny_Constant_int ⟨.int i, H, I.tok _, ⟨_, rfl⟩, h⟩
theorem pe_bl {b j pos} : PE X (.Constant (.bool b) j pos) (tC (.bl b)) := fun _ _ _ H _ I h => Constant_bool ⟨.bl b, H, I, rfl, h⟩
theorem pe_non {j pos} : PE X (.Constant .none j pos) (tC .non) := fun _ _ _ H _ I h => Constant_none ⟨.non, H, I, rfl, h⟩
noncomputable def Gl (X : Cx) (x : Str) : Prop := X.env.kindOf x = some .globalImplicit
theorem ld_glob {E : Value → Shared → Prop} {pins : List (Addr × Obj)} {s : Shared} {σ : St} {H : Hp} {x : Str} {u : Value} {pos : Pos} {Q : Value → Shared → Prop} (I : Inv X pins σ H s) (hg : Gl X x) (hm : X.mg x = some u) (h : Q u s)
  (hd : (x == ("__debug__" : Str)) = false := by decide) : wpAny (model X.prog X.w) X.A (eval (.Name x pos) X.env) Q E s :=
 Calls.Name_function_global I.ok.kind hg (Calls.loadGlobal_global (by rw [I.ok.glob]; exact I.mod.glob.keeps I.bk) hm h) hd
theorem ld_blt {E : Value → Shared → Prop} {pins : List (Addr × Obj)} {s : Shared} {σ : St} {H : Hp} {x : Str} {u : Value} {pos : Pos} {Q : Value → Shared → Prop} (I : Inv X pins σ H s) (hg : Gl X x) (hm : X.mg x = none) (hv : bootBuiltins x = some u) (h : Q u s)
  (hn : x ≠ "__name__" := by decide) (hd : (x == ("__debug__" : Str)) = false := by decide) : wpAny (model X.prog X.w) X.A (eval (.Name x pos) X.env) Q E s := by
 obtain ⟨mb, h1, h2⟩ := I.mod.blt
 exact Calls.Name_function_global I.ok.kind hg (Calls.loadGlobal_builtin (by rw [I.ok.glob]; exact I.mod.glob.keeps I.bk) hm (by rw [I.ok.blt]; exact h1.keeps I.bk) ((h2 x hn).trans hv) h) hd
theorem pe_bltn {x : Str} {v : V} {u : Value} {pos : Pos} (hg : Gl X x) (hm : X.mg x = none) (hv : bootBuiltins x = some u) (r : RelV v u) (hn : x ≠ "__name__" := by decide) (hd : (x == ("__debug__" : Str)) = false := by decide) : PE X (.Name x pos) (tC v) :=
 fun _ _ _ H _ I h => ld_blt I hg hm hv ⟨v, H, I, r, h⟩ hn hd
variable {a b : Expr} {ta tb : TE} {pos : Pos}
noncomputable def tB (t : TE) : TT := fun σ H Q => t σ H fun x H1 => ∃ c, x = .bl c ∧ Q c H1
theorem pt_val {e : Expr} {t : TE} (h : PE X e t) (he : ∀ whole, isTrue e X.env whole = (do let v ← whole; standAt e.pos; holding [v] (truthy v)) := by intro _; rfl) : PT X e (tB t) := by
 intro pins s σ H Q I hw
 refine isTrue_plain (thn (h pins s σ H _ I hw) fun v s1 ⟨x, H1, I1, r1, q1⟩ => ?_) (he _)
 obtain ⟨d, rfl, q⟩ := q1
 cases r1
 exact wpAny_truthy_bool ⟨H1, I1, q⟩
variable {tA tB' : TT} {rest : List Expr}
noncomputable def tAnd (t u : TT) : TT := fun σ H Q => t σ H fun c H1 => if c = true then u σ H1 Q else Q false H1
noncomputable def tOr (t u : TT) : TT := fun σ H Q => t σ H fun c H1 => if c = true then Q true H1 else u σ H1 Q
noncomputable def tNot (t : TT) : TT := fun σ H Q => t σ H fun c H1 => Q (!c) H1
theorem pw_and1 (ha : PT X a tA) : PW X (.BoolOp .And [a] pos) tA := by
 intro wh pins s σ H Q I h
 refine isTrue_and (thn (ha pins s σ H Q I h) fun c s1 e => ?_)
 cases c with
 | true => exact isTrue_and_nil e
 | false => exact e
theorem pw_or1 (ha : PT X a tA) : PW X (.BoolOp .Or [a] pos) tA := by
 intro wh pins s σ H Q I h
 refine isTrue_or (thn (ha pins s σ H Q I h) fun c s1 e => ?_)
 cases c with
 | false => exact isTrue_or_nil e
 | true => exact e
theorem pw_and (ha : PT X a tA) (hb : PW X (.BoolOp .And (b :: rest) pos) tB') : PW X (.BoolOp .And (a :: b :: rest) pos) (tAnd tA tB') := by
 intro wh pins s σ H Q I h
 refine isTrue_and (thn (ha pins s σ H _ I h) fun c s1 ⟨H1, I1, q1⟩ => ?_)
 cases c with
 | true => exact hb wh pins s1 σ H1 Q I1 q1
 | false => exact ⟨H1, I1, q1⟩
theorem pw_or (ha : PT X a tA) (hb : PW X (.BoolOp .Or (b :: rest) pos) tB') : PW X (.BoolOp .Or (a :: b :: rest) pos) (tOr tA tB') := by
 intro wh pins s σ H Q I h
 refine isTrue_or (thn (ha pins s σ H _ I h) fun c s1 ⟨H1, I1, q1⟩ => ?_)
 cases c with
 | true => exact ⟨H1, I1, q1⟩
 | false => exact hb wh pins s1 σ H1 Q I1 q1
theorem pt_not (ha : PT X a tA) : PT X (.UnaryOp .Not a pos) (tNot tA) := by
 intro pins s σ H Q I h
 exact isTrue_not (ha pins s σ H (fun c H1 => Q (!c) H1) I h)
noncomputable def tAndV (ta tb : TE) : TE := fun σ H Q => ta σ H fun x H1 => ∃ c, x = .bl c ∧ if c = true then tb σ H1 Q else Q (.bl false) H1
noncomputable def tNotV (ta : TE) : TE := fun σ H Q => ta σ H fun x H1 => ∃ c, x = .bl c ∧ Q (.bl (!c)) H1
theorem pe_one {op} {t : TE} (h : PE X a t) : PE X (.BoolOp op [a] pos) t := fun pins s σ H Q I hw => BoolOp_one (h pins s σ H Q I hw)
theorem pe_and (ha : PE X a ta) (hb : PE X (.BoolOp .And (b :: rest) pos) tb) : PE X (.BoolOp .And (a :: b :: rest) pos) (tAndV ta tb) := by
 intro pins s σ H Q I h
 refine BoolOp_and (thn (ha pins s σ H _ I h) fun v s1 ⟨x, H1, I1, r1, q1⟩ => ?_)
 obtain ⟨c, rfl, q1⟩ := q1
 cases r1
 refine wpAny_truthy_bool ?_
 cases c with
 | true => exact hb pins s1 σ H1 Q I1 q1
 | false => exact ⟨.bl false, H1, I1, rfl, q1⟩
theorem pe_not (ha : PE X a ta) : PE X (.UnaryOp .Not a pos) (tNotV ta) := by
 intro pins s σ H Q I h
 refine UnaryOp_ (thn (ha pins s σ H _ I h) fun v s1 ⟨x, H1, I1, r1, q1⟩ => ?_)
 obtain ⟨c, rfl, q1⟩ := q1
 cases r1
 exact not_of (wpAny_truthy_bool ⟨.bl (!c), H1, I1, rfl, q1⟩)
end
noncomputable def SqL (K : PySem.W.Frag) (H : Hp) (a : Addr) (xs : List V) : Prop :=
 Rd H a (.lst xs) ∨
  ∃ (o : Obj) (its : Array Value) (n : Nat), K.lookup a = some o ∧ o.cls = .type "list" ∧ o.dict = none ∧ o.data = .seq its n ∧ its.size ≤ sizeLine ∧ Vals xs its.toList
noncomputable def SqT (K : PySem.W.Frag) (H : Hp) (a : Addr) (xs : List V) : Prop :=
 Rd H a (.tup xs) ∨
  ∃ (o : Obj) (its : Array Value) (n : Nat), K.lookup a = some o ∧ o.cls = .type "tuple" ∧ o.data = .seq its n ∧ its.size ≤ sizeLine ∧ Vals xs its.toList
noncomputable def absV : Value → Option V
 | .none => some .non
 | .bool b => some (.bl b)
 | .int i _ => some (.int i)
 | .str x _ => some (.str x)
 | .bytes b _ => some (.byt b)
 | .float b _ => some (.flt b)
 | .ref a => some (.ref a)
 | .type n => some (.ty n)
 | _ => none
theorem RelV.abs {x : V} {u : Value} (r : RelV x u) : absV u = some x := by
 cases x with
 | non => cases r; rfl
 | bl _ => cases r; rfl
 | int _ => obtain ⟨t, rfl⟩ := r; rfl
 | str _ => obtain ⟨t, rfl⟩ := r; rfl
 | byt _ => obtain ⟨t, rfl⟩ := r; rfl
 | flt _ => obtain ⟨t, rfl⟩ := r; rfl
 | ref _ => cases r; rfl
 | ty _ => cases r; rfl
theorem RelV.inj {x y : V} {u : Value} (r : RelV x u) (q : RelV y u) : x = y := Option.some.inj (r.abs.symm.trans q.abs)
theorem Vals.inj : ∀ {xs ys : List V} {us : List Value}, Vals xs us → Vals ys us → xs = ys
 | _, _, _, .nil, .nil => rfl
 | _, _, _, .cons r t, .cons r' t' => by rw [r.inj r', Vals.inj t t']
section
variable {X : Cx} {pins : List (Addr × Obj)} {σ : St} {H : Hp} {s : Shared} {a : Addr} {xs ys : List V}
theorem SqL.of {K : PySem.W.Frag} (h : H a = some (.lst xs)) : SqL K H a xs := .inl (.inl h)
theorem Inv.list (I : Inv X pins σ H s) (h : SqL X.K H a xs) : ∃ its : List Value, Vals xs its ∧ PlainL s.heap a its.toArray ∧ xs.length ≤ sizeLine := by
 rcases h with h | ⟨o, its, n, hk, hc, hd, hs, hz, r⟩
 · obtain ⟨z, its, n, r, e⟩ := h.ok I.hok
   exact ⟨its, r, ⟨_, n, e, rfl, rfl, rfl⟩, z⟩
 · refine ⟨its.toList, r, ⟨o, n, I.kIn a o hk, hc, hd, by simpa using hs⟩, ?_⟩
   have e := r.length
   simp only [Array.length_toList] at e
   omega
theorem Inv.tuple (I : Inv X pins σ H s) (h : SqT X.K H a xs) : ∃ its : List Value, Vals xs its ∧ IsTup s.heap a its.toArray ∧ xs.length ≤ sizeLine := by
 rcases h with h | ⟨o, its, n, hk, hc, hs, hz, r⟩
 · obtain ⟨z, its, r, p⟩ := h.ok I.hok
   exact ⟨its, r, p, z⟩
 · refine ⟨its.toList, r, ⟨o, I.kIn a o hk, hc, n, by simpa using hs⟩, ?_⟩
   have e := r.length
   simp only [Array.length_toList] at e
   omega
theorem Inv.list_inj (I : Inv X pins σ H s) (h : SqL X.K H a xs) (h' : SqL X.K H a ys) : xs = ys := by
 obtain ⟨its, r, ⟨o, n, e, _, _, d⟩, _⟩ := I.list h
 obtain ⟨its', r', ⟨o', n', e', _, _, d'⟩, _⟩ := I.list h'
 rw [e] at e'; cases e'
 rw [d] at d'
 injection d' with d1 _
 have : its = its' := by simpa using congrArg Array.toList d1
 subst this
 exact r.inj r'
theorem Inv.tuple_inj (I : Inv X pins σ H s) (h : SqT X.K H a xs) (h' : SqT X.K H a ys) : xs = ys := by
 obtain ⟨its, r, ⟨o, e, _, n, d⟩, _⟩ := I.tuple h
 obtain ⟨its', r', ⟨o', e', _, n', d'⟩, _⟩ := I.tuple h'
 rw [e] at e'; cases e'
 rw [d] at d'
 injection d' with d1 _
 have : its = its' := by simpa using congrArg Array.toList d1
 subst this
 exact r.inj r'
end
noncomputable abbrev Cx.wish (X : Cx) (E : Value → Shared → Prop) : Cx := { X with xe := E }
noncomputable abbrev Cx.nox (X : Cx) : Cx := X.wish fun _ _ => False
theorem Cx.Ok.wish {X : Cx} (ok : X.Ok) (E : Value → Shared → Prop) : (X.wish E).Ok :=
 ⟨ok.mod, ok.kind, ok.glob, ok.blt, ok.above, ok.inj, ok.has, ok.cab, ok.hd, ok.frames, ok.stk, ok.exf, ok.bs, ok.bsz, ok.noex, ok.exfs, ok.funs, ok.frf⟩
theorem Cx.Ok.unwish {X : Cx} {E : Value → Shared → Prop} (ok : (X.wish E).Ok) : X.Ok :=
 ⟨ok.mod, ok.kind, ok.glob, ok.blt, ok.above, ok.inj, ok.has, ok.cab, ok.hd, ok.frames, ok.stk, ok.exf, ok.bs, ok.bsz, ok.noex, ok.exfs, ok.funs, ok.frf⟩
section
variable {X : Cx} {pins : List (Addr × Obj)} {σ : St} {H : Hp} {s : Shared} {E : Value → Shared → Prop}
theorem Inv.wish (I : Inv X pins σ H s) (E : Value → Shared → Prop) : Inv (X.wish E) pins σ H s := ⟨I.ok.wish E, I.os, I.bare, I.base, I.loc, I.cell, I.free, I.freeC, I.pin, I.hok, I.len⟩
theorem Inv.unwish (I : Inv (X.wish E) pins σ H s) : Inv X pins σ H s := ⟨I.ok.unwish, I.os, I.bare, I.base, I.loc, I.cell, I.free, I.freeC, I.pin, I.hok, I.len⟩
theorem SP.unwish {D : Ends} {f : Flow} {s' : Shared} (h : SP (X.wish E) pins D f s') : SP X pins D f s' := by
 cases f with
 | next => obtain ⟨σ', H', I, q⟩ := h; exact ⟨σ', H', I.unwish, q⟩
 | brk => obtain ⟨σ', H', I, q⟩ := h; exact ⟨σ', H', I.unwish, q⟩
 | cont => obtain ⟨σ', H', I, q⟩ := h; exact ⟨σ', H', I.unwish, q⟩
 | ret u => obtain ⟨v, σ', H', I, r, q⟩ := h; exact ⟨v, σ', H', I.unwish, r, q⟩
theorem PSs.nox {st : List Stmt} {t : TS} (h : PSs X.nox st t) : PSs X st t := fun pins s σ H D I hw =>
 wpAny_mono (h pins s σ H D (I.wish _) hw) (fun _ _ q => q.unwish) fun _ _ z => False.elim z
end
section
variable {X : Cx} {st : Stmt} {rest : List Stmt} {t u : TS} {e : Expr} {te : TE} {pos : Pos}
noncomputable def tNext : TS := fun D σ H => D.nx σ H
noncomputable def tSeq (t u : TS) : TS := fun D σ H => t { D with nx := u D } σ H
theorem pss_nil : PSs X [] tNext := fun _ _ σ H _ I h => wpAny_execs_nil ⟨σ, H, I, h⟩
theorem pss_cons (h1 : PS X st t) (h2 : PSs X rest u) : PSs X (st :: rest) (tSeq t u) := by
 intro pins s σ H D I h
 refine wpAny_execs_cons (thn (h1 pins s σ H { D with nx := u D } I h) fun f s1 q => ?_)
 cases f with
 | next =>
   obtain ⟨σ', H', I', q⟩ := q
   exact h2 pins s1 σ' H' D I' q
 | ret v => exact q
 | brk => exact q
 | cont => exact q
theorem pss_one (h1 : PS X st t) : PSs X [st] t := by
 intro pins s σ H D I h
 refine wpAny_execs_cons (thn (h1 pins s σ H D I h) fun f s1 q => ?_)
 cases f with
 | next => exact wpAny_execs_nil q
 | ret v => exact q
 | brk => exact q
 | cont => exact q
noncomputable def tCont : TS := fun D σ H => D.ct σ H
theorem ps_continue : PS X (.Continue pos) tCont := fun _ _ σ H _ I h => wpAny_Continue ⟨σ, H, I, h⟩
theorem Inv.quiet {pins : List (Addr × Obj)} {σ : St} {H : Hp} {s : Shared} (I : Inv X pins σ H s) : interactive X.env = false := by simp [interactive, I.ok.kind]
noncomputable def tDrop (te : TE) : TS := fun D σ H => te σ H fun _ H1 => D.nx σ H1
theorem ps_expr (he : PE X e te) (hs : swapsWith e none pos.line X.env = pure false := by rfl) : PS X (.Expr e pos) (tDrop te) := by
 intro pins s σ H D I h
 exact wpAny_Expr_any (thn (he pins s σ H _ I h) fun v s1 ⟨x, H1, I1, r1, q1⟩ => ⟨σ, H1, I1, q1⟩) I.quiet hs
noncomputable def tRet (te : TE) : TS := fun D σ H => te σ H D.rt
theorem ps_ret (he : PE X e te) : PS X (.Return (some e) pos) (tRet te) := by
 intro pins s σ H D I h
 exact wpAny_Return_some (thn (he pins s σ H _ I h) fun v s1 ⟨x, H1, I1, r1, q1⟩ => ⟨x, σ, H1, I1, r1, q1⟩)
noncomputable def tIfS (c : TT) (t u : TS) : TS := fun D σ H => c σ H fun b H1 => if b = true then t D σ H1 else u D σ H1
theorem ps_if {c : Expr} {a b : List Stmt} {tc : TT} (hc : PT X c tc) (ha : PSs X a t) (hb : PSs X b u) : PS X (.If c a b pos) (tIfS tc t u) := by
 intro pins s σ H D I h
 refine wpAny_If (thn (hc pins s σ H _ I h) fun d s1 ⟨H1, I1, q1⟩ => ?_)
 cases d with
 | true => exact ha pins s1 σ H1 D I1 q1
 | false => exact hb pins s1 σ H1 D I1 q1
end
abbrev TG := V → St → Hp → (St → Hp → Prop) → Prop
abbrev TGs := List V → St → Hp → (St → Hp → Prop) → Prop
noncomputable def PG (X : Cx) (target : Expr) (t : TG) : Prop :=
 ∀ (pins : List (Addr × Obj)) (s : Shared) (σ : St) (H : Hp) (v : V) (u : Value) (Q : St → Hp → Prop), Inv X pins σ H s → RelV v u → t v σ H Q →
  wpAny (model X.prog X.w) X.A (assign target X.env u) (fun _ s' => ∃ σ' H', Inv X pins σ' H' s' ∧ Q σ' H') X.xe s
noncomputable def PGs (X : Cx) (ts : List Expr) (t : TGs) : Prop :=
 ∀ (pins : List (Addr × Obj)) (s : Shared) (σ : St) (H : Hp) (vs : List V) (us : List Value) (Q : St → Hp → Prop), Inv X pins σ H s → Vals vs us → t vs σ H Q →
  wpAny (model X.prog X.w) X.A (assignInOrder ((assignEach ts X.env).map (·.2)) us) (fun _ s' => ∃ σ' H', Inv X pins σ' H' s' ∧ Q σ' H') X.xe s
abbrev TSet := V → V → V → Hp → (Hp → Prop) → Prop
noncomputable def PSet (X : Cx) (t : TSet) : Prop :=
 ∀ (pins : List (Addr × Obj)) (s : Shared) (σ : St) (H : Hp) (o i v : V) (ov iv u : Value) (Q : Hp → Prop), Inv X pins σ H s → RelV o ov → RelV i iv → RelV v u → t o i v H Q →
  wpAny (model X.prog X.w) X.A (setItem ov iv u) (fun _ s' => ∃ H', Inv X pins σ H' s' ∧ Q H') X.xe s
section
variable {X : Cx} {pos : Pos}
noncomputable def gName (i : Nat) : TG := fun v σ H Q => Q (σ.set i (some v)) H
theorem pg_name {i : Nat} {x : Str} (hN : X.N.Nodup) (hi : X.N[i]? = some x) (hx : Loc X.env.scope x) (hf : X.fn x = true ∨ X.env.scope.names.lookup x = some .local := by first | exact .inl rfl | exact .inr rfl | assumption) : PG X (.Name x pos) (gName i) := by
 intro pins s σ H v u Q I r h
 exact wpAny_assign_Name (store_ok I hN hi hx r (fun s' I' => ⟨_, H, I', h⟩) hf)
noncomputable def gNil : TGs := fun vs σ H Q => vs = [] ∧ Q σ H
noncomputable def gCons (t : TG) (u : TGs) : TGs := fun vs σ H Q => ∃ v r, vs = v :: r ∧ t v σ H fun σ' H' => u r σ' H' Q
theorem pgs_nil : PGs X [] gNil := by
 intro pins s σ H vs us Q I r h
 obtain ⟨e, h⟩ := h
 subst e
 cases r
 exact assignInOrder_nil ⟨σ, H, I, h⟩
theorem pgs_cons {e : Expr} {es : List Expr} {t : TG} {u : TGs} (h1 : PG X e t) (h2 : PGs X es u)
  (hs : (assignEach (e :: es) X.env).map (·.2) = assign e X.env :: (assignEach es X.env).map (·.2) := by rfl) : PGs X (e :: es) (gCons t u) := by
 intro pins s σ H vs us Q I r h
 obtain ⟨v, vr, e1, h⟩ := h
 subst e1
 cases r with
 | cons r rr =>
   rw [hs]
   refine assignInOrder_cons (thn (h1 pins s σ H _ _ _ I r h) fun _ s1 ⟨σ1, H1, I1, q1⟩ => ?_)
   exact h2 pins s1 σ1 H1 _ _ Q I1 rr q1
noncomputable def gTup (K : PySem.W.Frag) (n : Nat) (t : TGs) : TG := fun v σ H Q => ∃ a xs, v = .ref a ∧ SqT K H a xs ∧ xs.length = n ∧ t xs σ H Q
theorem pg_tup {es : List Expr} {k : Nat} {t : TGs} {n : Nat} (hc : X.calm = true) (h : PGs X es t)
  (hn : (assignEach es X.env).length = n := by rfl) (hst : (assignEach es X.env).findIdx? (·.1) = none := by rfl) : PG X (.Tuple es k pos) (gTup X.K n t) := by
 intro pins s σ H v u Q I r hw
 obtain ⟨a, xs, e1, hq, hl, hw⟩ := hw
 subst e1
 cases r
 obtain ⟨its, rv, ht, hz⟩ := I.tuple hq
 refine assign_Tuple_tuple (I.ok.hd hc) ht (by simp [hn, ← hl, rv.length]) hst fun h' hx => ?_
 have I1 : Inv X pins σ H { s with heap := h' } := I.kept (t' := s.toks) fun b o e => hx b o (Nat.ne_of_lt (Heap.lt_size e)) e
 exact h pins _ σ H xs _ Q I1 (by simpa using rv) hw
noncomputable def gSub (to ti : TE) (t : TSet) : TG := fun v σ H Q => to σ H fun o H1 => ti σ H1 fun i H2 => t o i v H2 fun H3 => Q σ H3
theorem pg_sub {o i : Expr} {to ti : TE} {t : TSet} (ho : PE X o to) (hi : PE X i ti) (hs : PSet X t)
  (ha : ∀ v, assign (.Subscript o i pos) X.env v = (do
    let ov ← holding [v] (eval o X.env)
    let iv ← holding [v, ov] (eval i X.env)
    standAt pos
    holding [v, ov, iv] (setItem ov iv v)
    release [v, ov, iv] []) := by intro _; rfl) : PG X (.Subscript o i pos) (gSub to ti t) := by
 intro pins s σ H v u Q I r h
 rw [ha]
 refine wpAny_bind (wpAny_holding (thn (ho pins s σ H _ I h) fun ov s1 ⟨x, H1, I1, r1, q1⟩ => ?_))
 refine wpAny_bind (wpAny_holding (thn (hi pins s1 σ H1 _ I1 q1) fun iv s2 ⟨y, H2, I2, r2, q2⟩ => ?_))
 refine wpAny_bind (wpAny_standAt (wpAny_bind (wpAny_holding (thn (hs pins s2 σ H2 x y v ov iv u _ I2 r1 r2 r q2) fun _ s3 ⟨H3, I3, q3⟩ => ?_))))
 exact wpAny_release ⟨σ, H3, I3, q3⟩
noncomputable def tAsg (te : TE) (g : TG) : TS := fun D σ H => te σ H fun x H1 => g x σ H1 D.nx
theorem ps_asg {tg e : Expr} {te : TE} {g : TG} (he : PE X e te) (hg : PG X tg g) (hs : swapsWithSole [tg] e pos.line X.env = pure false := by rfl) (hw : swappedStores [tg] e X.env = pure none := by rfl)
  (h1 : (assignEach [tg] X.env).map (·.2) = [assign tg X.env] := by rfl) : PS X (.Assign [tg] e pos) (tAsg te g) := by
 intro pins s σ H D I h
 refine wpAny_Assign_stores (thn (he pins s σ H _ I h) fun v s1 ⟨x, H1, I1, r1, q1⟩ => ?_) hs hw
 rw [h1]
 exact thn (hg pins s1 σ H1 x v _ I1 r1 q1) fun _ s2 q => q
theorem ps_set {i : Nat} {x : Str} {e : Expr} {te : TE} {pos' : Pos} (hN : X.N.Nodup) (hi : X.N[i]? = some x) (hx : Loc X.env.scope x) (he : PE X e te) (hs : swapsWith e (some (.Name x pos')) pos.line X.env = pure false := by rfl) (hf : X.fn x = true ∨ X.env.scope.names.lookup x = some .local := by first | exact .inl rfl | exact .inr rfl | assumption) :
  PS X (.Assign [.Name x pos'] e pos) (tAsg te (gName i)) := by
 intro pins s σ H D I h
 refine wpAny_Assign_Name (thn (he pins s σ H _ I h) fun v s1 ⟨y, H1, I1, r1, q1⟩ => ?_) hs
 exact store_ok I1 hN hi hx r1 (fun s2 I2 => ⟨_, H1, I2, q1⟩) hf
end
section
variable {X : Cx} {pos : Pos}
noncomputable def tWhile (c : TT) (tb : TS) : TS := fun D σ H => ∃ W : Nat → St → Hp → Prop, (∃ m, W m σ H) ∧ ∀ m σ H, W m σ H →
 c σ H fun b H1 => if b = true then ∃ N : St → Hp → Prop, (∀ σ' H', N σ' H' → ∃ m', m' < m ∧ W m' σ' H') ∧ tb { D with nx := N, ct := N, bk := D.nx } σ H1 else D.nx σ H1
theorem ps_while {c : Expr} {body : List Stmt} {tc : TT} {tb : TS} (hp : PassesOwn (model X.prog X.w) X.A X.env X.xe) (hc : PT X c tc) (hb : PSs X body tb) : PS X (.While c body [] pos) (tWhile tc tb) := by
 intro pins s σ H D I h
 obtain ⟨W, ⟨m0, w0⟩, turn⟩ := h
 refine wpAny_While (codeAny_whileLoop (fun n s' => ∃ σ' H', Inv X pins σ' H' s' ∧ W n σ' H') ?_ m0 ⟨σ, H, I, w0⟩)
 rintro n s1 ⟨σ1, H1, I1, w1⟩
 refine wpAny_passesOwn hp (thn (hc pins s1 σ1 H1 _ I1 (turn n σ1 H1 w1)) fun b s2 ⟨H2, I2, q2⟩ => ?_)
 cases b with
 | true =>
   obtain ⟨N, hN, q2⟩ := q2
   rw [if_pos rfl]
   refine wpAny_passesOwn hp (thn (hb pins s2 σ1 H2 _ I2 q2) fun f s3 q3 => ?_)
   cases f with
   | next =>
     obtain ⟨σ3, H3, I3, n3⟩ := q3
     obtain ⟨m', hm, w3⟩ := hN σ3 H3 n3
     exact ⟨m', hm, σ3, H3, I3, w3⟩
   | cont =>
     obtain ⟨σ3, H3, I3, n3⟩ := q3
     obtain ⟨m', hm, w3⟩ := hN σ3 H3 n3
     exact ⟨m', hm, σ3, H3, I3, w3⟩
   | brk => exact q3
   | ret v => exact q3
 | false =>
   rw [if_neg Bool.false_ne_true]
   exact wpAny_execs_nil ⟨σ1, H2, I2, q2⟩
end
structure It where
 go : Nat → Hp → Prop
 yld : Nat → Hp → V → Hp → Prop
 stop : Nat → Hp → Prop
noncomputable def FpOk (X : Cx) (pins : List (Addr × Obj)) (H : Hp) (b : Addr) : Prop :=
 H b = none ∧ b ≠ X.env.locals ∧ b ∉ X.fs ∧ (b ∈ X.ex ∨ X.s₀.heap.objs.size ≤ b) ∧ (∀ x c, X.env.cells.lookup x = some c → c ≠ b) ∧ ∀ p ∈ X.pn ++ pins, p.1 ≠ b
theorem Inv.fpOk {X : Cx} {pins : List (Addr × Obj)} {σ : St} {H H' : Hp} {s : Shared} {b : Addr} (I : Inv X pins σ H s) (hb : s.heap.objs.size ≤ b) (hn : H' b = none) : FpOk X pins H' b := by
 refine ⟨hn, Nat.ne_of_gt (Nat.lt_of_lt_of_le I.lt hb), I.nofs hb, .inr (Nat.le_trans I.sz hb), fun x c e z => ?_, fun p hp z => ?_⟩
 · obtain ⟨v, q⟩ := I.cell x c e
   exact absurd (Nat.lt_of_lt_of_le q.lt (by rw [z]; exact hb)) (Nat.lt_irrefl _)
 · exact absurd (Nat.lt_of_lt_of_le (Heap.lt_size (I.pin p hp).1) (by rw [z]; exact hb)) (Nat.lt_irrefl _)
structure Turn (P : Program) (w : World) (K : PySem.W.Frag) (tg : Expr) (J : It) (fp : List Addr) (it : Addr) (tn : Nat → Heap → Prop) (cm : Cx → Prop := fun X => X.calm = true) : Prop where
 mem : it ∈ fp
 obj : ∀ i h, tn i h → ∀ b ∈ fp, ∃ o, h.get? b = some o ∧ ∀ v, o.data ≠ .cell v
 keep : ∀ i h h', tn i h → (∀ b ∈ fp, ∀ o, h.get? b = some o → h'.get? b = some o) → tn i h'
 item : ∀ (X : Cx), X.prog = P → X.w = w → X.K = K → cm X → ∀ (i : Nat) (pins : List (Addr × Obj)) (s : Shared) (σ : St) (H : Hp) (E : Value → Shared → Prop), Inv X pins σ H s → (∀ b ∈ fp, FpOk X pins H b) → tn i s.heap → J.go i H →
  wpAny (model P w) X.A (pyNext (.ref it)) (fun r s1 => ∃ u, r = some u ∧
   wpAny (model P w) X.A (letOwnedTupleGo tg (.ref it) u) (fun _ s2 => ∃ x H', Inv X pins σ H' s2 ∧ RelV x u ∧ J.yld i H x H' ∧ tn (i + 1) s2.heap ∧ ∀ b ∈ fp, H' b = none) E s1) E s
 done : ∀ (X : Cx), X.prog = P → X.w = w → X.K = K → cm X → ∀ (i : Nat) (pins : List (Addr × Obj)) (s : Shared) (σ : St) (H : Hp) (E : Value → Shared → Prop), Inv X pins σ H s → (∀ b ∈ fp, FpOk X pins H b) → tn i s.heap → J.stop i H →
  wpAny (model P w) X.A (pyNext (.ref it)) (fun r s1 => r = none ∧ Inv X pins σ H s1) E s
 self : ∀ (A : Around) (i : Nat) (s : Shared) (Q : Value → Shared → Prop) (E : Value → Shared → Prop), tn i s.heap → Q (.ref it) s → wpAny (model P w) A (pyIter (.ref it)) Q E s
abbrev TI := St → Hp → (It → Hp → Prop) → Prop
noncomputable def PIE (X : Cx) (pins : List (Addr × Obj)) (σ : St) (tg : Expr) (R : It → Hp → Prop) (cm : Cx → Prop := fun X => X.calm = true) (itv : Value) (s2 : Shared) : Prop :=
 ∃ (it : Addr) (fp : List Addr) (tn : Nat → Heap → Prop) (J : It) (H' : Hp), itv = .ref it ∧ Inv X pins σ H' s2 ∧ Turn X.prog X.w X.K tg J fp it tn cm ∧ tn 0 s2.heap ∧ (∀ b ∈ fp, FpOk X pins H' b) ∧ R J H'
noncomputable def PI (X : Cx) (tg iter : Expr) (wi : TI) (cm : Cx → Prop := fun X => X.calm = true) : Prop :=
 ∀ (pins : List (Addr × Obj)) (s : Shared) (σ : St) (H : Hp) (R : It → Hp → Prop), Inv X pins σ H s → wi σ H R →
  wpAny (model X.prog X.w) X.A (eval iter X.env) (fun v s1 => wpAny (model X.prog X.w) X.A (pyIter v) (PIE X pins σ tg R cm) X.xe s1) X.xe s
theorem go_of {M : Model} {A : Around} {E : Value → Shared → Prop} {s : Shared} {tg : Expr} {it : Addr} {u : Value} {o : Obj} {n : String} {vs : Array Value} {Q : Unit → Shared → Prop} (ho : s.heap.get? it = some o) (hc : o.cls = .type n) (hd : o.data = .fields vs)
  (hn : ["enumerate", "zip", "dict_itemiterator", "dict_reverseitemiterator", "odict_iterator", "itertools.zip_longest", "itertools.pairwise"].contains n = false) (hQ : Q () s) : wpAny M A (letOwnedTupleGo tg (.ref it) u) Q E s := by
 unfold letOwnedTupleGo
 cases tg <;> first
  | exact wpAny_pure hQ
  | (cases u <;> first
      | exact wpAny_pure hQ
      | (refine wpAny_bind (wpAny_load ho ?_)
         rw [hc, hd]
         show wpAny M A (if (["enumerate", "zip", "dict_itemiterator", "dict_reverseitemiterator", "odict_iterator", "itertools.zip_longest", "itertools.pairwise"].contains n && vs[0]? == some (rawInt _)) = true then _ else _) Q E s
         rw [if_neg (by intro h; rw [hn, Bool.false_and] at h; cases h)]
         exact wpAny_pure hQ))
noncomputable def Itl (K : PySem.W.Frag) (a : Addr) : It :=
 ⟨fun i H => ∃ xs x, SqL K H a xs ∧ xs[i]? = some x, fun i H x H' => H' = H ∧ ∀ xs, SqL K H a xs → xs[i]? = some x, fun i H => ∃ xs, SqL K H a xs ∧ xs.length ≤ i⟩
noncomputable def Itt (K : PySem.W.Frag) (a : Addr) : It :=
 ⟨fun i H => ∃ xs x, SqT K H a xs ∧ xs[i]? = some x, fun i H x H' => H' = H ∧ ∀ xs, SqT K H a xs → xs[i]? = some x, fun i H => ∃ xs, SqT K H a xs ∧ xs.length ≤ i⟩
noncomputable def Itr (lo : Int) (n : Nat) : It := ⟨fun i _ => i < n, fun i H x H' => H' = H ∧ x = .int (lo + i), fun i _ => n ≤ i⟩
theorem turn_list {P : Program} {w : World} {K : PySem.W.Frag} {tg : Expr} (a it : Addr) : Turn P w K tg (Itl K a) [it] it (fun i h => h.IsListIter it a i) where
 mem := by simp
 obj := fun i h st b hb => by
  have e : b = it := by simpa using hb
  subst e
  obtain ⟨o, e, c, d⟩ := st
  exact ⟨o, e, fun v z => by rw [d] at z; cases z⟩
 keep := fun i h h' st k => st.at fun o e => k it (by simp) o e
 item := by
  intro X hP hw hK hc i pins s σ H E I hf st hg
  subst hP hw hK
  obtain ⟨xs, x, hq, hx⟩ := hg
  obtain ⟨its, rv, p, hz⟩ := I.list hq
  obtain ⟨u, hu, ru⟩ := rv.get hx
  obtain ⟨f0, f1, f2, f3, f4, f5⟩ := hf it (by simp)
  refine wpAny_pyNext_list_item st p.isList (x := u) (by simpa using hu) fun h' st' sb => ?_
  have I1 : Inv X pins σ H { s with heap := h' } := I.turned (t' := s.toks) (fun b o hb e => (sb.2 b hb).trans e) f0 f1 f3 f4 f5
  obtain ⟨o, e, c, d⟩ := id st'
  exact ⟨u, rfl, go_of (s := { s with heap := h' }) e c d (by decide) ⟨x, H, I1, ru, ⟨rfl, fun ys hy => by rw [I.list_inj hy hq]; exact hx⟩, st', fun b hb => (hf b hb).1⟩⟩
 done := by
  intro X hP hw hK hc i pins s σ H E I hf st hg
  subst hP hw hK
  obtain ⟨xs, hq, hx⟩ := hg
  obtain ⟨its, rv, p, hz⟩ := I.list hq
  obtain ⟨f0, f1, f2, f3, f4, f5⟩ := hf it (by simp)
  have hl := rv.length
  exact wpAny_pyNext_list_end (I.ok.hd hc) st p.isList (by simp; omega) fun h' eb => ⟨rfl, I.turned (t' := s.toks) (fun b o hb e => eb b o hb e) f0 f1 f3 f4 f5⟩
 self := fun _ _ _ _ _ st h => wpAny_pyIter_listiter st h
theorem turn_tuple {P : Program} {w : World} {K : PySem.W.Frag} {tg : Expr} (a it : Addr) : Turn P w K tg (Itt K a) [it] it (fun i h => h.IsTupleIter it a i) where
 mem := by simp
 obj := fun i h st b hb => by
  have e : b = it := by simpa using hb
  subst e
  obtain ⟨o, e, c, d⟩ := st
  exact ⟨o, e, fun v z => by rw [d] at z; cases z⟩
 keep := fun i h h' st k => st.at fun o e => k it (by simp) o e
 item := by
  intro X hP hw hK hc i pins s σ H E I hf st hg
  subst hP hw hK
  obtain ⟨xs, x, hq, hx⟩ := hg
  obtain ⟨its, rv, p, hz⟩ := I.tuple hq
  obtain ⟨u, hu, ru⟩ := rv.get hx
  obtain ⟨f0, f1, f2, f3, f4, f5⟩ := hf it (by simp)
  refine wpAny_pyNext_tuple_item st (show s.heap.IsTuple a its.toArray from p) (x := u) (by simpa using hu) fun h' st' sb => ?_
  have I1 : Inv X pins σ H { s with heap := h' } := I.turned (t' := s.toks) (fun b o hb e => (sb.2 b hb).trans e) f0 f1 f3 f4 f5
  obtain ⟨o, e, c, d⟩ := id st'
  exact ⟨u, rfl, go_of (s := { s with heap := h' }) e c d (by decide) ⟨x, H, I1, ru, ⟨rfl, fun ys hy => by rw [I.tuple_inj hy hq]; exact hx⟩, st', fun b hb => (hf b hb).1⟩⟩
 done := by
  intro X hP hw hK hc i pins s σ H E I hf st hg
  subst hP hw hK
  obtain ⟨xs, hq, hx⟩ := hg
  obtain ⟨its, rv, p, hz⟩ := I.tuple hq
  obtain ⟨f0, f1, f2, f3, f4, f5⟩ := hf it (by simp)
  have hl := rv.length
  exact wpAny_pyNext_tuple_end (I.ok.hd hc) st (show s.heap.IsTuple a its.toArray from p) (by simp; omega) fun h' eb => ⟨rfl, I.turned (t' := s.toks) (fun b o hb e => eb b o hb e) f0 f1 f3 f4 f5⟩
 self := fun _ _ _ _ _ st h => wpAny_pyIter_tupleiter st h
theorem turn_range {P : Program} {w : World} {K : PySem.W.Frag} {tg : Expr} (it : Addr) (lo : Int) (n : Nat) : Turn P w K tg (Itr lo n) [it] it (fun i h => IsRangeIter h it (lo + (i : Nat) * 1) ((n : Int) - (i : Nat)) 1) where
 mem := by simp
 obj := fun i h st b hb => by
  have e : b = it := by simpa using hb
  subst e
  exact ⟨_, st, fun v z => by
   have z' : Data.fields _ = Data.cell v := z
   cases z'⟩
 keep := fun i h h' st k => k it (by simp) _ st
 item := by
  intro X hP hw hK hc i pins s σ H E I hf st hg
  subst hP hw hK
  obtain ⟨f0, f1, f2, f3, f4, f5⟩ := hf it (by simp)
  have W := Walks.range (prog := X.prog) (w := X.w) (I.ok.hd hc) it lo 1 n
  refine W.item i s _ _ hg st fun v h' tk hv st' kk => ?_
  obtain ⟨t, rfl⟩ := hv
  have I1 : Inv X pins σ H { s with heap := h', toks := tk } := I.turned (fun b o hb e => kk b o (by simpa using hb) e) f0 f1 f3 f4 f5
  refine ⟨_, rfl, go_of (s := { s with heap := h', toks := tk }) (n := "range_iterator") st' rfl rfl (by decide) ⟨.int (lo + i), H, I1, ⟨t, ?_⟩, ⟨rfl, rfl⟩, st', fun b hb => (hf b hb).1⟩⟩
  rw [Int.mul_one]
 done := by
  intro X hP hw hK hc i pins s σ H E I hf st hg
  subst hP hw hK
  obtain ⟨f0, f1, f2, f3, f4, f5⟩ := hf it (by simp)
  exact wpAny_pyNext_range_end (I.ok.hd hc) st (by have : n ≤ i := hg; omega) fun h' eb => ⟨rfl, I.turned (t' := s.toks) (fun b o hb e => eb b o hb e) f0 f1 f3 f4 f5⟩
 self := fun _ _ _ _ _ st h => wpAny_pyIter_rangeiter st h
section
variable {X : Cx} {tg : Expr}
noncomputable def iList (K : PySem.W.Frag) (tl : TE) : TI := fun σ H R => tl σ H fun x H1 => ∃ a, x = .ref a ∧ (∃ xs, SqL K H1 a xs) ∧ R (Itl K a) H1
noncomputable def iTup (K : PySem.W.Frag) (tl : TE) : TI := fun σ H R => tl σ H fun x H1 => ∃ a, x = .ref a ∧ (∃ xs, SqT K H1 a xs) ∧ R (Itt K a) H1
theorem pi_list {l : Expr} {tl : TE} (hl : PE X l tl) : PI X tg l (iList X.K tl) := by
 intro pins s σ H R I h
 refine thn (hl pins s σ H _ I h) fun v s1 ⟨x, H1, I1, r1, q1⟩ => ?_
 obtain ⟨a, e, ⟨xs, hq⟩, q⟩ := q1
 subst e
 cases r1
 obtain ⟨its, rv, p, hz⟩ := I1.list hq
 refine wpAny_pyIter_list p.isList ?_
 refine ⟨s1.heap.objs.size, [s1.heap.objs.size], _, _, H1, rfl, I1.kept (t' := s1.toks) fun b o e => Heap.get?_push_of_some _ e, turn_list a _, ⟨_, Heap.get?_push_size _ rfl, rfl, rfl⟩, fun b hb => ?_, q⟩
 have e : b = s1.heap.objs.size := by simpa using hb
 subst e
 exact I1.fpOk (Nat.le_refl _) (I1.hok.fresh (Nat.le_refl _))
theorem pi_tup {l : Expr} {tl : TE} (hl : PE X l tl) : PI X tg l (iTup X.K tl) := by
 intro pins s σ H R I h
 refine thn (hl pins s σ H _ I h) fun v s1 ⟨x, H1, I1, r1, q1⟩ => ?_
 obtain ⟨a, e, ⟨xs, hq⟩, q⟩ := q1
 subst e
 cases r1
 obtain ⟨its, rv, p, hz⟩ := I1.tuple hq
 refine wpAny_pyIter_tuple (show s1.heap.IsTuple a its.toArray from p) ?_
 refine ⟨s1.heap.objs.size, [s1.heap.objs.size], _, _, H1, rfl, I1.kept (t' := s1.toks) fun b o e => Heap.get?_push_of_some _ e, turn_tuple a _, ⟨_, Heap.get?_push_size _ rfl, rfl, rfl⟩, fun b hb => ?_, q⟩
 have e : b = s1.heap.objs.size := by simpa using hb
 subst e
 exact I1.fpOk (Nat.le_refl _) (I1.hok.fresh (Nat.le_refl _))
theorem range_it {pins : List (Addr × Obj)} {σ : St} {H : Hp} {s : Shared} {R : It → Hp → Prop} {E : Value → Shared → Prop} {lo hi : Int} {t u v : Tok} {tk : Nat} (I : Inv X pins σ H s) (h1 : -(2 ^ 62) ≤ lo) (h2 : lo < 2 ^ 62) (h3 : -(2 ^ 62) ≤ hi) (h4 : hi < 2 ^ 62)
  (q : R (Itr lo (hi - lo).toNat) H) : wpAny (model X.prog X.w) X.A (pyIter (.ref s.heap.objs.size)) (PIE X pins σ tg R) E { s with heap := s.heap.push { cls := .type "range", data := .fields #[.int lo t, .int hi u, .int 1 v] }, toks := tk } := by
 refine wpAny_pyIter_range (IsRange.new ..) (small_one h1 h2 h3 h4) ?_
 have I1 : Inv X pins σ H { s with heap := s.heap.push { cls := .type "range", data := .fields #[.int lo t, .int hi u, .int 1 v] }, toks := tk } := I.kept fun b o e => Heap.get?_push_of_some _ e
 refine ⟨(s.heap.push { cls := .type "range", data := .fields #[.int lo t, .int hi u, .int 1 v] }).objs.size, [(s.heap.push { cls := .type "range", data := .fields #[.int lo t, .int hi u, .int 1 v] }).objs.size], _, _, H, rfl,
  I1.kept (t' := tk) fun b o e => Heap.get?_push_of_some _ e, turn_range _ lo (hi - lo).toNat, ?_, fun b hb => ?_, q⟩
 · have e1 : lo + ((0 : Nat) : Int) * 1 = lo := by simp
   have e2 : (((hi - lo).toNat : Nat) : Int) - ((0 : Nat) : Int) = Builtin.Range.rangeSize lo hi 1 := by rw [rangeSize_one]; split <;> omega
   show IsRangeIter _ _ (lo + ((0 : Nat) : Int) * 1) ((((hi - lo).toNat : Nat) : Int) - ((0 : Nat) : Int)) 1
   rw [e1, e2]
   exact Heap.get?_push_size _ rfl
 · have e : b = (s.heap.push { cls := .type "range", data := .fields #[.int lo t, .int hi u, .int 1 v] }).objs.size := by simpa using hb
   subst e
   exact I1.fpOk (Nat.le_refl _) (I1.hok.fresh (Nat.le_refl _))
noncomputable def iRng1 (ta : TA) : TI := fun σ H R => ta σ H fun vs H1 => ∃ j : Int, vs = [.int j] ∧ -(2 ^ 62) ≤ j ∧ j < 2 ^ 62 ∧ R (Itr 0 j.toNat) H1
theorem pi_range1 {a : Expr} {ta : TA} {p pos : Pos} (hg : Gl X "range") (hm : X.mg "range" = none) (ha : PA X [a] ta) (hs : starEach [a] X.env = [(false, eval a X.env)] := by rfl) : PI X tg (.Call (.Name "range" p) [a] [] pos) (iRng1 ta) := by
 intro pins s σ H R I h
 refine Call_ (ld_blt I hg hm boot_range (PyProof.Rows.callWith_type1 (thn (ha pos pins s σ H _ I h) fun us s1 ⟨vs, H1, I1, r1, q1⟩ => ?_) hs rfl))
 obtain ⟨j, e, q1, q2, q⟩ := q1
 subst e
 cases r1 with
 | cons r rr =>
   cases rr
   obtain ⟨t, rfl⟩ := r
   exact call_range_1 (range_it I1 (by omega) (by omega) q1 q2 (by simpa using q))
noncomputable def tFor (wi : TI) (g : TG) (tb : TS) : TS := fun D σ H => wi σ H fun J H1 => ∃ W : Nat → Nat → St → Hp → Prop, (∃ m, W 0 m σ H1) ∧ ∀ i m σ H, W i m σ H →
 (J.stop i H ∧ D.nx σ H) ∨ (J.go i H ∧ ∃ N : St → Hp → Prop, (∀ σ' H', N σ' H' → ∃ m', m' < m ∧ W (i + 1) m' σ' H') ∧ ∀ x H', J.yld i H x H' → g x σ H' fun σ2 H2 => tb { D with nx := N, ct := N, bk := D.nx } σ2 H2)
noncomputable def pinsAt (fp : List Addr) (h : Heap) : List (Addr × Obj) := fp.filterMap fun b => (h.get? b).map fun o => (b, o)
theorem mem_pinsAt {fp : List Addr} {h : Heap} {b : Addr} {o : Obj} (hb : b ∈ fp) (e : h.get? b = some o) : (b, o) ∈ pinsAt fp h := List.mem_filterMap.mpr ⟨b, hb, by rw [e]; rfl⟩
theorem of_pinsAt {fp : List Addr} {h : Heap} {p : Addr × Obj} (hp : p ∈ pinsAt fp h) : p.1 ∈ fp ∧ h.get? p.1 = some p.2 := by
 obtain ⟨b, hb, e⟩ := List.mem_filterMap.mp hp
 cases q : h.get? b with
 | none => rw [q] at e; cases e
 | some o =>
   rw [q] at e
   have e' : (b, o) = p := Option.some.inj e
   subst e'
   exact ⟨hb, q⟩
theorem Inv.pinned {pins : List (Addr × Obj)} {σ : St} {H : Hp} {s : Shared} {fp : List Addr} (I : Inv X pins σ H s) (hf : ∀ b ∈ fp, FpOk X pins H b) (ho : ∀ b ∈ fp, ∃ o, s.heap.get? b = some o ∧ ∀ v, o.data ≠ .cell v) : Inv X (pins ++ pinsAt fp s.heap) σ H s :=
 I.pins_of fun p hp => (List.mem_append.mp hp).elim (fun z => I.pin p (List.mem_append_right _ z)) fun z => by
  obtain ⟨hb, e⟩ := of_pinsAt z
  obtain ⟨f0, f1, f2, _⟩ := hf p.1 hb
  obtain ⟨o, e', d⟩ := ho p.1 hb
  rw [e] at e'; cases e'
  exact ⟨e, f0, f1, f2, d⟩
theorem Inv.unpinned {pins pl : List (Addr × Obj)} {σ : St} {H : Hp} {s : Shared} (I : Inv X (pins ++ pl) σ H s) : Inv X pins σ H s := I.pins_of fun p hp => I.pin p (List.mem_append_right _ (List.mem_append_left _ hp))
theorem ps_for {iter : Expr} {body : List Stmt} {wi : TI} {g : TG} {tb : TS} {pos : Pos} (hp : PassesOwn (model X.prog X.w) X.A X.env X.xe) (hc : X.calm = true) (hi : PI X tg iter wi) (hg : PG X tg g) (hb : PSs X body tb)
  (hs : ∀ x, foldedSetIterable iter X.env x = pure x := by intro _; rfl) : PS X (.For tg iter body [] pos) (tFor wi g tb) := by
 intro pins s σ H D I h
 refine wpAny_For (thn (hi pins s σ H _ I h) fun v s1 h1 => thn h1 fun itv s2 h2 => ?_) hs
 obtain ⟨it, fp, tn, J, H2, e, I2, T, st2, f2, W, ⟨m0, w0⟩, turn⟩ := h2
 subst e
 -- what stays true of the iterator's objects through the loop
 have stat : ∀ {H' : Hp}, (∀ b ∈ fp, H' b = none) → ∀ b ∈ fp, FpOk X pins H' b := fun hn b hb => ⟨hn b hb, (f2 b hb).2⟩
 refine codeAny_forLoop_any (fun n s' => ∃ i σ' H', Inv X pins σ' H' s' ∧ tn i s'.heap ∧ (∀ b ∈ fp, H' b = none) ∧ W i n σ' H') ?_ m0 ⟨0, σ, H2, I2, st2, fun b hb => (f2 b hb).1, w0⟩
 rintro n s3 ⟨i, σ3, H3, I3, st3, fr3, w3⟩
 rcases turn i n σ3 H3 w3 with ⟨stop, qn⟩ | ⟨go, N, hN, step⟩
 · refine wpAny_passesOwn hp (thn (T.done X rfl rfl rfl hc i pins s3 σ3 H3 X.xe I3 (stat fr3) st3 stop) fun r s4 ⟨hr, I4⟩ => ?_)
   subst hr
   exact wpAny_execs_nil ⟨σ3, H3, I4, qn⟩
 · refine wpAny_passesOwn hp (thn (T.item X rfl rfl rfl hc i pins s3 σ3 H3 X.xe I3 (stat fr3) st3 go) fun r s4 ⟨u, hr, h4⟩ => ?_)
   subst hr
   refine wpAny_passesOwn hp (thn h4 fun _ s5 ⟨x, H5, I5, r5, y5, st5, fr5⟩ => ?_)
   have I5' := I5.pinned (stat fr5) (T.obj _ _ st5)
   refine wpAny_passesOwn hp (thn (hg _ s5 σ3 H5 x u _ I5' r5 (step x H5 y5)) fun _ s6 ⟨σ6, H6, I6, q6⟩ => ?_)
   refine wpAny_passesOwn hp (thn (hb _ s6 σ6 H6 _ I6 q6) fun f s7 q7 => ?_)
   have again : ∀ {σ7 : St} {H7 : Hp}, Inv X (pins ++ pinsAt fp s5.heap) σ7 H7 s7 → N σ7 H7 → ∃ m, m < n ∧ ∃ i σ' H', Inv X pins σ' H' s7 ∧ tn i s7.heap ∧ (∀ b ∈ fp, H' b = none) ∧ W i m σ' H' := fun {σ7 H7} I7 n7 => by
    obtain ⟨m', hm, w7⟩ := hN σ7 H7 n7
    refine ⟨m', hm, i + 1, σ7, H7, I7.unpinned, T.keep _ _ _ st5 fun b hb o e => (I7.pin (b, o) (List.mem_append_right _ (List.mem_append_right _ (mem_pinsAt hb e)))).1, fun b hb => ?_, w7⟩
    obtain ⟨o, e, d⟩ := T.obj _ _ st5 b hb
    exact (I7.pin (b, o) (List.mem_append_right _ (List.mem_append_right _ (mem_pinsAt hb e)))).2.1
   cases f with
   | next => obtain ⟨σ7, H7, I7, n7⟩ := q7; exact again I7 n7
   | cont => obtain ⟨σ7, H7, I7, n7⟩ := q7; exact again I7 n7
   | brk => obtain ⟨σ7, H7, I7, q7⟩ := q7; exact ⟨σ7, H7, I7.unpinned, q7⟩
   | ret v => obtain ⟨x7, σ7, H7, I7, r7, q7⟩ := q7; exact ⟨x7, σ7, H7, I7.unpinned, r7, q7⟩
end
abbrev R2 := V → V → Hp → VK → Prop
noncomputable def OpR (X : Cx) (f : Value → Value → Sem Value) (r : R2) : Prop :=
 ∀ (pins : List (Addr × Obj)) (s : Shared) (σ : St) (H : Hp) (x y : V) (v u : Value) (Q : VK), Inv X pins σ H s → RelV x v → RelV y u → r x y H Q →
  wpAny (model X.prog X.w) X.A (f v u) (EP X pins σ Q) X.xe s
noncomputable def UnR (X : Cx) (f : Value → Sem Value) (r : V → Hp → VK → Prop) : Prop :=
 ∀ (pins : List (Addr × Obj)) (s : Shared) (σ : St) (H : Hp) (x : V) (v : Value) (Q : VK), Inv X pins σ H s → RelV x v → r x H Q →
  wpAny (model X.prog X.w) X.A (f v) (EP X pins σ Q) X.xe s
noncomputable def CallR (X : Cx) (f : Value) (r : List V → Hp → VK → Prop) : Prop :=
 ∀ (pins : List (Addr × Obj)) (s : Shared) (σ : St) (H : Hp) (xs : List V) (us : List Value) (Q : VK), Inv X pins σ H s → Vals xs us → r xs H Q →
  wpAny (model X.prog X.w) X.A (call f us) (EP X pins σ Q) X.xe s
noncomputable def TruR (X : Cx) (r : V → Hp → (Bool → Hp → Prop) → Prop) : Prop :=
 ∀ (pins : List (Addr × Obj)) (s : Shared) (σ : St) (H : Hp) (x : V) (v : Value) (Q : Bool → Hp → Prop), Inv X pins σ H s → RelV x v → r x H Q →
  wpAny (model X.prog X.w) X.A (truthy v) (TP X pins σ Q) X.xe s
noncomputable def tOp (r : R2) (ta tb : TE) : TE := fun σ H Q => ta σ H fun x H1 => tb σ H1 fun y H2 => r x y H2 Q
noncomputable def tUn (r : V → Hp → VK → Prop) (ta : TE) : TE := fun σ H Q => ta σ H fun x H1 => r x H1 Q
noncomputable def rI (C : Int → Int → Prop) (g : Int → Int → V) : R2 := fun x y H Q => ∃ i j, x = .int i ∧ y = .int j ∧ C i j ∧ Q (g i j) H
noncomputable def rI0 (g : Int → Int → V) : R2 := fun x y H Q => ∃ i j, x = .int i ∧ y = .int j ∧ Q (g i j) H
noncomputable def rU (g : Int → V) : V → Hp → VK → Prop := fun x H Q => ∃ i, x = .int i ∧ Q (g i) H
section
variable {X : Cx} {a b c : Expr} {ta tb tc : TE} {pos : Pos}
theorem binT (ha : PE X a ta) (hb : PE X b tb) {pins : List (Addr × Obj)} {s : Shared} {σ : St} {H : Hp} {R : V → V → Hp → Prop} (I : Inv X pins σ H s)
  (h : ta σ H fun x H1 => tb σ H1 fun y H2 => R x y H2) {Q : Value → Shared → Prop} {f : Value → Value → Sem Value}
  (hf : ∀ v u s2 x y H2, Inv X pins σ H2 s2 → RelV x v → RelV y u → R x y H2 → wpAny (model X.prog X.w) X.A (f v u) Q X.xe s2) :
  wpAny (model X.prog X.w) X.A (eval a X.env) (fun v s₁ => wpAny (model X.prog X.w) X.A (eval b X.env) (fun u s₂ => wpAny (model X.prog X.w) X.A (f v u) Q X.xe s₂) X.xe s₁) X.xe s := by
 refine thn (ha pins s σ H _ I h) fun v s1 ⟨x, H1, I1, r1, q1⟩ => ?_
 refine thn (hb pins s1 σ H1 _ I1 q1) fun u s2 ⟨y, H2, I2, r2, q2⟩ => ?_
 exact hf v u s2 x y H2 I2 r1 r2 q2
theorem pe_op {op : Operator} {r : R2} (ho : OpR X (binaryOp op) r) (ha : PE X a ta) (hb : PE X b tb) : PE X (.BinOp a op b pos) (tOp r ta tb) := by
 intro pins s σ H Q I h
 exact wpAny_BinOp (binT ha hb I h fun v u s2 x y H2 I2 rx ry q => ho pins s2 σ H2 x y v u Q I2 rx ry q)
theorem pe_un {op : UnaryOp} {r : V → Hp → VK → Prop} (ho : UnR X (unaryOp op) r) (ha : PE X a ta) : PE X (.UnaryOp op a pos) (tUn r ta) := by
 intro pins s σ H Q I h
 exact UnaryOp_ (thn (ha pins s σ H _ I h) fun v s1 ⟨x, H1, I1, r1, q1⟩ => ho pins s1 σ H1 x v Q I1 r1 q1)
theorem opI {f : Value → Value → Sem Value} {C : Int → Int → Prop} {g : Int → Int → Int}
  (rule : ∀ (i j : Int) (t u : Tok) (s : Shared) (Q : Value → Shared → Prop) (E : Value → Shared → Prop), C i j → Q (.int (g i j) s.toks) { s with toks := s.toks + 1 } → wpAny (model X.prog X.w) X.A (f (.int i t) (.int j u)) Q E s) :
  OpR X f (rI C fun i j => .int (g i j)) := by
 intro pins s σ H x y v u Q I rx ry h
 obtain ⟨i, j, rfl, rfl, hc, q⟩ := h
 obtain ⟨t, rfl⟩ := rx
 obtain ⟨t', rfl⟩ := ry
 exact rule i j t t' s _ _ hc ⟨.int (g i j), H, I.tok _, ⟨_, rfl⟩, q⟩
theorem opI0 {f : Value → Value → Sem Value} {g : Int → Int → Int}
  (rule : ∀ (i j : Int) (t u : Tok) (s : Shared) (Q : Value → Shared → Prop) (E : Value → Shared → Prop), Q (.int (g i j) s.toks) { s with toks := s.toks + 1 } → wpAny (model X.prog X.w) X.A (f (.int i t) (.int j u)) Q E s) :
  OpR X f (rI0 fun i j => .int (g i j)) := by
 intro pins s σ H x y v u Q I rx ry h
 obtain ⟨i, j, rfl, rfl, q⟩ := h
 obtain ⟨t, rfl⟩ := rx
 obtain ⟨t', rfl⟩ := ry
 exact rule i j t t' s _ _ ⟨.int (g i j), H, I.tok _, ⟨_, rfl⟩, q⟩
theorem opB0 {f : Value → Value → Sem Value} {g : Int → Int → Bool}
  (rule : ∀ (i j : Int) (t u : Tok) (s : Shared) (Q : Value → Shared → Prop) (E : Value → Shared → Prop), Q (.bool (g i j)) s → wpAny (model X.prog X.w) X.A (f (.int i t) (.int j u)) Q E s) :
  OpR X f (rI0 fun i j => .bl (g i j)) := by
 intro pins s σ H x y v u Q I rx ry h
 obtain ⟨i, j, rfl, rfl, q⟩ := h
 obtain ⟨t, rfl⟩ := rx
 obtain ⟨t', rfl⟩ := ry
 exact rule i j t t' s _ _ ⟨.bl (g i j), H, I, rfl, q⟩
noncomputable def CMul (i j : Int) : Prop := (-(2 ^ 64) < i ∧ i < 2 ^ 64) ∨ (-(2 ^ 64) < j ∧ j < 2 ^ 64)
theorem CMul.ok {i j : Int} (h : CMul i j) : IntMulOk i j := by
 rcases h with ⟨h1, h2⟩ | ⟨h1, h2⟩
 · exact .of_left (intBits_le_64 h1 h2)
 · exact .of_right (intBits_le_64 h1 h2)
theorem op_add : OpR X (binaryOp .Add) (rI0 fun i j => .int (i + j)) := opI0 fun _ _ _ _ _ _ _ q => add_int q
theorem op_sub : OpR X (binaryOp .Sub) (rI0 fun i j => .int (i - j)) := opI0 fun _ _ _ _ _ _ _ q => sub_int q
theorem op_mod : OpR X (binaryOp .Mod) (rI (fun _ j => 0 < j) fun i j => .int (i % j)) := opI fun i j _ _ _ _ _ hc q => by
 have h1 : (0 : Int) < j := hc
 exact mod_int' (by omega) (by rw [Int.fmod_eq_emod_of_nonneg i (by omega)]; exact q)
theorem unI {f : Value → Sem Value} {g : Int → Int}
  (rule : ∀ (i : Int) (t : Tok) (s : Shared) (Q : Value → Shared → Prop) (E : Value → Shared → Prop), Q (.int (g i) s.toks) { s with toks := s.toks + 1 } → wpAny (model X.prog X.w) X.A (f (.int i t)) Q E s) :
  UnR X f (rU fun i => .int (g i)) := by
 intro pins s σ H x v Q I rx h
 obtain ⟨i, rfl, q⟩ := h
 obtain ⟨t, rfl⟩ := rx
 exact rule i t s _ _ ⟨.int (g i), H, I.tok _, ⟨_, rfl⟩, q⟩
theorem un_neg : UnR X (unaryOp .USub) (rU fun i => .int (-i)) := unI fun _ _ _ _ _ q => neg_int q
end
section
variable {X : Cx} {a b c : Expr} {ta tb tc : TE} {pos : Pos}
theorem fin_bl {pins : List (Addr × Obj)} {σ : St} {H : Hp} {s : Shared} {Q : VK} {k k' : Bool} (I : Inv X pins σ H s) (q : Q (.bl k) H) (e : k = k') : EP X pins σ Q (.bool k') s := by
 subst e
 exact ⟨.bl k, H, I, rfl, q⟩
theorem op_lt : OpR X (compareOp .Lt) (rI0 fun i j => .bl (decide (i < j))) := opB0 fun _ _ _ _ _ _ _ q => lt_int q
theorem op_le : OpR X (compareOp .LtE) (rI0 fun i j => .bl (decide (i ≤ j))) := opB0 fun _ _ _ _ _ _ _ q => le_int q
theorem op_gt : OpR X (compareOp .Gt) (rI0 fun i j => .bl (decide (j < i))) := opB0 fun _ _ _ _ _ _ _ q => gt_int q
theorem op_ge : OpR X (compareOp .GtE) (rI0 fun i j => .bl (decide (j ≤ i))) := opB0 fun _ _ _ _ _ _ _ q => ge_int q
theorem op_isN : OpR X (compareOp .Is) (fun x y H Q => y = .non ∧ Q (.bl (decide (x = .non))) H) := by
 intro pins s σ H x y v u Q I rx ry h
 obtain ⟨rfl, q⟩ := h
 cases ry
 refine is_none_gen (fin_bl I q ?_)
 cases x <;> first
  | (cases rx; rfl)
  | (obtain ⟨t, rfl⟩ := rx; rfl)
theorem op_notN : OpR X (compareOp .IsNot) (fun x y H Q => y = .non ∧ Q (.bl (!decide (x = .non))) H) := by
 intro pins s σ H x y v u Q I rx ry h
 obtain ⟨rfl, q⟩ := h
 cases ry
 refine isnot_none_gen (fin_bl I q ?_)
 cases x <;> first
  | (cases rx; rfl)
  | (obtain ⟨t, rfl⟩ := rx; rfl)
theorem OpR.or {f : Value → Value → Sem Value} {r r' : R2} (h : OpR X f r) (h' : OpR X f r') : OpR X f (fun x y H Q => r x y H Q ∨ r' x y H Q) := by
 intro pins s σ H x y v u Q I rx ry q
 rcases q with q | q
 · exact h pins s σ H x y v u Q I rx ry q
 · exact h' pins s σ H x y v u Q I rx ry q
theorem nomark (b : Expr) {op : CmpOp} (h : op ≠ .In := by decide) (h2 : op ≠ .NotIn := by decide) : behindInMarks op b = false := by
 have e1 : (op == CmpOp.In) = false := by cases op <;> first | rfl | exact absurd rfl h
 have e2 : (op == CmpOp.NotIn) = false := by cases op <;> first | rfl | exact absurd rfl h2
 cases b <;> simp [behindInMarks, e1, e2]
theorem pe_cmpR {op : CmpOp} {r : R2} (ho : OpR X (compareOp op) r) (ha : PE X a ta) (hb : PE X b tb) (hm : behindInMarks op b = false) : PE X (.Compare a [op] [b] pos) (tOp r ta tb) := by
 intro pins s σ H Q I h
 exact wpAny_Compare1 (binT ha hb I h fun v u s2 x y H2 I2 rx ry q => ho pins s2 σ H2 x y v u Q I2 rx ry q) hm
noncomputable def tTest (t : TE) : TT := fun σ H Q => t σ H fun x H' => ∃ k, x = .bl k ∧ Q k H'
theorem pt_cmpR {op : CmpOp} {r : R2} (ho : OpR X (compareOp op) r) (ha : PE X a ta) (hb : PE X b tb) (hm : behindInMarks op b = false) : PT X (.Compare a [op] [b] pos) (tTest (tOp r ta tb)) := by
 intro pins s σ H Q I h
 refine wpAny_isTrue_Compare1 (thn (ha pins s σ H _ I h) fun v s1 ⟨x, H1, I1, r1, q1⟩ => thn (hb pins s1 σ H1 _ I1 q1) fun u s2 ⟨y, H2, I2, r2, q2⟩ =>
  thn (ho pins s2 σ H2 x y v u _ I2 r1 r2 q2) fun c s3 ⟨z, H3, I3, r3, k, e, q3⟩ => ?_) hm
 subst e
 cases r3
 exact wpAny_truthy_bool ⟨H3, I3, q3⟩
noncomputable def TruV (K : PySem.W.Frag) (x : V) (H : Hp) (k : Bool) : Prop :=
 match x with
 | .non => k = false
 | .bl b => k = b
 | .int i => k = (i != 0)
 | .str y => y.length ≤ sizeLine ∧ k = ((y.length : Int) != 0)
 | .byt y => y.size ≤ sizeLine ∧ k = ((y.size : Int) != 0)
 | .ref p => (∃ xs, SqL K H p xs ∧ k = !xs.isEmpty) ∨ (∃ xs, SqT K H p xs ∧ k = !xs.isEmpty) ∨ ∃ kvs, H p = some (.dK kvs) ∧ k = !kvs.isEmpty
 | _ => False
theorem isEmpty_kv {κ : Type} {kvs : List (κ × V)} {vs : List (κ × Value)} (r : KV kvs vs) : (!vs.isEmpty) = !kvs.isEmpty := by
 cases r <;> rfl
theorem isEmpty_of {xs : List V} {its : List Value} (r : Vals xs its) : (!its.toArray.isEmpty) = !xs.isEmpty := by
 cases r <;> simp
theorem line63 : (sizeLine : Nat) < 2 ^ 63 := by rw [sizeLine_eq]; decide
theorem tru_ok : TruR X (fun x H Q => ∃ k, TruV X.K x H k ∧ Q k H) := by
 intro pins s σ H x v Q I rx h
 obtain ⟨k, e, q⟩ := h
 have hl := line63
 have hs : sizeLine = 16777216 := sizeLine_eq
 cases x with
 | non =>
   cases rx
   have e' : k = false := e
   subst e'
   exact truthy_none ⟨H, I, q⟩
 | bl b =>
   cases rx
   have e' : k = b := e
   subst e'
   exact wpAny_truthy_bool ⟨H, I, q⟩
 | int i =>
   obtain ⟨t, rfl⟩ := rx
   have e' : k = (i != 0) := e
   subst e'
   exact PySem.P.truthy_int ⟨H, I, q⟩
 | str y =>
   obtain ⟨t, rfl⟩ := rx
   obtain ⟨hy, e'⟩ : y.length ≤ sizeLine ∧ k = ((y.length : Int) != 0) := e
   subst e'
   exact PySem.P.truthy_str (by omega) ⟨H, I.tok _, q⟩
 | byt y =>
   obtain ⟨t, rfl⟩ := rx
   obtain ⟨hy, e'⟩ : y.size ≤ sizeLine ∧ k = ((y.size : Int) != 0) := e
   subst e'
   exact PySem.W.truthy_bytes (by omega) ⟨H, I.tok _, q⟩
 | ref p =>
   cases rx
   have e' : (∃ xs, SqL X.K H p xs ∧ k = !xs.isEmpty) ∨ (∃ xs, SqT X.K H p xs ∧ k = !xs.isEmpty) ∨ ∃ kvs, H p = some (.dK kvs) ∧ k = !kvs.isEmpty := e
   rcases e' with ⟨xs, hx, e'⟩ | ⟨xs, hx, e'⟩ | ⟨kvs, hx, e'⟩
   · subst e'
     obtain ⟨its, r, pl, hz⟩ := I.list hx
     have hlen := r.length
     exact wpAny_truthy_list pl.isList (by simp only [List.size_toArray]; omega) ⟨H, I.tok _, by rw [isEmpty_of r]; exact q⟩
   · subst e'
     obtain ⟨its, r, pl, hz⟩ := I.tuple hx
     have hlen := r.length
     exact truthy_tuple pl (by simp only [List.size_toArray]; omega) ⟨H, I.tok _, by rw [isEmpty_of r]; exact q⟩
   · subst e'
     obtain ⟨hz, hS, vs, r, m⟩ : kvs.length ≤ sizeLine ∧ (p == sysModules) = false ∧ ∃ vs, KV kvs vs ∧ s.heap.DictOf (mixKind X.prog X.w) p vs := I.hok p _ hx
     have hlen : kvs.length = vs.length := Paired.length r
     exact wpAny_truthy_dict hS m (by omega) ⟨H, I.tok _, by rw [isEmpty_kv r]; exact q⟩
 | _ => exact (show False from e).elim
theorem pt_truth (ha : PE X a ta) (he : ∀ whole, isTrue a X.env whole = (do let v ← whole; standAt a.pos; holding [v] (truthy v))) :
  PT X a (fun σ H Q => ta σ H fun x H' => ∃ k, TruV X.K x H' k ∧ Q k H') := by
 intro pins s σ H Q I h
 exact isTrue_plain (thn (ha pins s σ H _ I h) fun v s1 ⟨x, H1, I1, r1, q1⟩ => tru_ok pins s1 σ H1 x v Q I1 r1 q1) (he _)
theorem op_add_str : OpR X (binaryOp .Add) (fun x y H Q => ∃ i j, x = .str i ∧ y = .str j ∧ i.length + j.length ≤ sizeLine ∧ Q (.str (i ++ j)) H) := by
 intro pins s σ H x y v u Q I rx ry h
 obtain ⟨i, j, rfl, rfl, hz, q⟩ := h
 obtain ⟨t, rfl⟩ := rx
 obtain ⟨t', rfl⟩ := ry
 exact add_str (fun t' tk => ⟨.str (i ++ j), H, I.tok _, ⟨_, rfl⟩, q⟩) hz
theorem vals1 {x : V} {us : List Value} (r : Vals [x] us) : ∃ u, us = [u] ∧ RelV x u := by
 cases r with
 | cons r1 r2 => cases r2; exact ⟨_, rfl, r1⟩
theorem vals2 {x y : V} {us : List Value} (r : Vals [x, y] us) : ∃ u w', us = [u, w'] ∧ RelV x u ∧ RelV y w' := by
 cases r with
 | cons r1 r2 =>
   cases r2 with
   | cons r3 r4 => cases r4; exact ⟨_, _, rfl, r1, r3⟩
theorem call_max2 (hc : X.calm = true) : CallR X (.builtin "max") (fun xs H Q => ∃ i j, xs = [.int i, .int j] ∧ Q (.int (if j > i then j else i)) H) := by
 intro pins s σ H xs us Q I r h
 obtain ⟨i, j, rfl, q⟩ := h
 obtain ⟨u, w', rfl, ⟨t, rfl⟩, ⟨t', rfl⟩⟩ := vals2 r
 refine max_two_ints (I.ok.hd hc) fun h' tk k => ⟨_, H, I.kept k, ?_, q⟩
 by_cases hj : j > i
 · rw [if_pos hj, if_pos hj]; exact ⟨_, rfl⟩
 · rw [if_neg hj, if_neg hj]; exact ⟨_, rfl⟩
theorem call_min2 (hc : X.calm = true) : CallR X (.builtin "min") (fun xs H Q => ∃ i j, xs = [.int i, .int j] ∧ Q (.int (if j < i then j else i)) H) := by
 intro pins s σ H xs us Q I r h
 obtain ⟨i, j, rfl, q⟩ := h
 obtain ⟨u, w', rfl, ⟨t, rfl⟩, ⟨t', rfl⟩⟩ := vals2 r
 refine min_two_ints (I.ok.hd hc) fun h' tk k => ⟨_, H, I.kept k, ?_, q⟩
 by_cases hj : j < i
 · rw [if_pos hj, if_pos hj]; exact ⟨_, rfl⟩
 · rw [if_neg hj, if_neg hj]; exact ⟨_, rfl⟩
end
structure ObjM (h : Heap) (x dx C : Addr) (mA : Str → Option Value) : Prop where
 obj : h.get? x = some (PySem.W.instObj C dx)
 ns : h.Ns1 dx mA
 ne : dx ≠ x
theorem lookIn_ns {h : Heap} {dx : Addr} {mA : Str → Option Value} (n : h.Ns1 dx mA) : ∃ od, h.get? dx = some od ∧ ∀ name, PySem.W.lookIn name od = some (mA name) := by
 obtain ⟨o, es, ep, ho, hd, hk, _, hm⟩ := n
 refine ⟨o, ho, fun name => ?_⟩
 have e := hm name
 unfold nsFind findBy at e
 rw [← Array.find?_toList] at e
 unfold PySem.W.lookIn
 rw [hd]
 dsimp only
 split
 · rename_i y q
   rw [q] at e
   exact congrArg some e
 · rename_i q
   rw [q] at e
   have a : es.toList.any (·.refKey) = false := by
    rw [List.any_eq_false]
    intro y hy
    obtain ⟨z, t, hkey⟩ := hk y (Array.mem_toList_iff.mp hy)
    simp [DictEntry.refKey, hkey]
   have a' : ¬ es.toList.any (·.refKey) = true := by rw [a]; exact Bool.false_ne_true
   rw [if_neg a']
   exact congrArg some e
theorem ObjM.look {h : Heap} {x dx C : Addr} {mA : Str → Option Value} (I : ObjM h x dx C mA) : ∃ od, PySem.W.InstAt h x (PySem.W.instObj C dx) C (some od) ∧ ∀ name, PySem.W.lookIn name od = some (mA name) :=
 let ⟨od, ho, hl⟩ := lookIn_ns I.ns
 ⟨od, ⟨I.obj, rfl, rfl, ho⟩, hl⟩
section
variable {prog : Program} {w : World} {A : Around} {E : Value → Shared → Prop} {s : Shared} {K : PySem.W.Frag} {x dx C f : Addr} {mA : Str → Option Value} {name : Str} {v : Value}
end
section
variable {P : Program} {w : World} {H H' : Hp} {h h' : Heap} {a C dx : Addr} {fs fs' : List (Str × V)}
theorem ins_get (hok : HOk P w H h) (e : H a = some (.ins C dx fs)) : ∃ mA, ObjM h a dx C mA ∧ (∀ f, RelO (fs.lookup f) (mA f)) ∧ PySem.Within mA (fs.map (·.1)) ∧ fs.length ≤ 1000 ∧ H dx = some (.own a) := by
 obtain ⟨d, z, ne, ob, mA, n, r, q⟩ := (show ObjOk P w H h a (.ins C dx fs) from hok a _ e)
 exact ⟨mA, ⟨ob, n, ne⟩, r, q, z, d⟩
end
structure Cls (K : PySem.W.Frag) (C : Addr) : Prop where
 pg : PySem.W.plainGet K C Str.empty = true
 hd : PySem.W.hasDictIn K C = true
 po : PySem.W.plainOver K C = true
 sa : PySem.W.findIn K (.ref C) "__setattr__" = some (some (.builtin "object.__setattr__"))
theorem Cls.get {K : PySem.W.Frag} {C : Addr} (c : Cls K C) (f : Str) : PySem.W.plainGet K C f = true := c.pg
section
variable {X : Cx} {pins : List (Addr × Obj)} {σ : St} {H : Hp} {s : Shared} {a C dx : Addr} {fs : List (Str × V)} {f : Str} {v : V} {A : Around} {E : Value → Shared → Prop}
end
section
variable {X : Cx} {o e value : Expr} {f : Str} {pos pos' tpos : Pos} {ta tv : TE}
end
section
variable {X : Cx} {pins : List (Addr × Obj)} {σ : St} {H : Hp} {s : Shared} {A : Around} {E : Value → Shared → Prop} {Q : Value → Shared → Prop} {c : Value} {b : Bool}
inductive TyOf (K : PySem.W.Frag) (H : Hp) : V → Value → Prop where
 | non : TyOf K H .non (.type "NoneType")
 | bl (x : Bool) : TyOf K H (.bl x) (.type "bool")
 | int (i : Int) : TyOf K H (.int i) (.type "int")
 | str (x : Str) : TyOf K H (.str x) (.type "str")
 | flt (x : UInt64) : TyOf K H (.flt x) (.type "float")
 | lst {a : Addr} {xs : List V} (e : H a = some (.lst xs)) : TyOf K H (.ref a) (.type "list")
 | frz {a : Addr} {o : Obj} {xs : List V} (e : H a = some (.frz o (.lst xs))) : TyOf K H (.ref a) (.type "list")
 | tup {a : Addr} {xs : List V} (e : H a = some (.tup xs)) : TyOf K H (.ref a) (.type "tuple")
 | dK {a : Addr} {kvs : List (Key × V)} (e : H a = some (.dK kvs)) : TyOf K H (.ref a) (.type "dict")
 | dT {a : Addr} {kvs : List (List Key × V)} (e : H a = some (.dT kvs)) : TyOf K H (.ref a) (.type "dict")
 | ins {a C dx : Addr} {fs : List (Str × V)} (e : H a = some (.ins C dx fs)) (cl : Cls K C) (ha : PySem.W.findIn K (.ref C) "__class__" = some (some (.builtin "object.__class__")))
    (hn : PySem.W.specialIn K (.builtin "object.__class__") "__get__" = some (some (.builtin "getset_descriptor.__get__"))) (htk : PySem.W.takesIn K (.builtin "object.__class__") = some true)
    (hm : PySem.W.mroIn K C (.type "object") = some true) : TyOf K H (.ref a) (.ref C)
theorem isinst_ok {x : V} {u t : Value} (I : Inv X pins σ H s) (rx : RelV x u) (ty : TyOf X.K H x t) (e : PySem.W.kitOne X.K t c = some b) (h : ∀ tk, Q (.bool b) { s with toks := tk }) :
  wpAny (model X.prog X.w) A (call (.builtin "isinstance") [u, c]) Q E s := by
 cases ty with
 | non => cases (show u = Value.none from rx); exact PySem.W.kia_one PySem.W.kitx_none I.kIn True.intro e (fun z => nomatch z) h
 | bl y => cases (show u = Value.bool y from rx); exact PySem.W.kia_one PySem.W.kitx_bool I.kIn True.intro e (fun z => nomatch z) h
 | int i => obtain ⟨t, q⟩ := (show ∃ t, u = Value.int i t from rx); cases q; exact PySem.W.kia_one PySem.W.kitx_int I.kIn True.intro e (fun z => nomatch z) h
 | str y => obtain ⟨t, q⟩ := (show ∃ t, u = Value.str y t from rx); cases q; exact PySem.W.kia_one PySem.W.kitx_str I.kIn True.intro e (fun z => nomatch z) h
 | flt y => obtain ⟨t, q⟩ := (show ∃ t, u = Value.float y t from rx); cases q; exact PySem.W.kia_one PySem.W.kitx_float I.kIn True.intro e (fun z => nomatch z) h
 | @lst a xs ea =>
   cases (show u = Value.ref a from rx)
   obtain ⟨_, _, n, _, h1⟩ := (show ObjOk X.prog X.w H s.heap a (.lst xs) from I.hok a _ ea)
   exact PySem.W.kia_one PySem.W.kitx_list I.kIn ⟨_, h1, rfl⟩ e (fun z => nomatch z) h
 | @frz a ob xs ea =>
   cases (show u = Value.ref a from rx)
   obtain ⟨_, _, _, n, _, h1⟩ := (show ObjOk X.prog X.w H s.heap a (.frz ob (.lst xs)) from I.hok a _ ea)
   exact PySem.W.kia_one PySem.W.kitx_list I.kIn ⟨_, h1, rfl⟩ e (fun z => nomatch z) h
 | @tup a xs ea =>
   cases (show u = Value.ref a from rx)
   obtain ⟨_, _, _, p⟩ := (show ObjOk X.prog X.w H s.heap a (.tup xs) from I.hok a _ ea)
   obtain ⟨o, h1, h2, _⟩ := p
   exact PySem.W.kia_one PySem.W.kitx_tuple I.kIn ⟨o, h1, h2⟩ e (fun z => nomatch z) h
 | @dK a kvs ea =>
   cases (show u = Value.ref a from rx)
   obtain ⟨_, _, vs, _, p⟩ := (show ObjOk X.prog X.w H s.heap a (.dK kvs) from I.hok a _ ea)
   obtain ⟨o, es, ep, h1, h2, _⟩ := p
   exact PySem.W.kia_one PySem.W.kitx_dict I.kIn ⟨o, h1, h2.1⟩ e (fun z => nomatch z) h
 | @dT a kvs ea =>
   cases (show u = Value.ref a from rx)
   obtain ⟨_, _, xs, _, o, es, ep, h1, h2, _⟩ := (show ObjOk X.prog X.w H s.heap a (.dT kvs) from I.hok a _ ea)
   exact PySem.W.kia_one PySem.W.kitx_dict I.kIn ⟨o, h1, h2.1⟩ e (fun z => nomatch z) h
 | @ins a C dx fs ea cl ha hn htk hm =>
   cases (show u = Value.ref a from rx)
   obtain ⟨mA, O, _⟩ := ins_get I.hok ea
   obtain ⟨od, J, _⟩ := O.look
   exact PySem.W.kia_one (PySem.W.kitx_own (cl.get _) cl.hd ha hn htk hm) I.kIn J e (fun z => nomatch z) h
end
structure Room (k : Nat) (A : Around) : Prop where
 hd : A.handled = none
 dp : A.depth + 3 * k + 5 < recursionLimit
 un : A.units + 16 * k + 200 < cLine
theorem Room.mono {j k : Nat} {A : Around} (r : Room k A) (h : j ≤ k) : Room j A := ⟨r.hd, by have := r.dp; omega, by have := r.un; omega⟩
theorem Room.deeper {k : Nat} {A : Around} (r : Room (k + 1) A) (env : Env) : Room k (A.deeper env) :=
 ⟨r.hd, by have := r.dp; show A.depth + 1 + 3 * k + 5 < _; omega, by have := r.un; show A.units + 3 + 16 * k + 200 < _; omega⟩
theorem Room.depth {k : Nat} {A : Around} (r : Room k A) : A.depth < recursionLimit := by have := r.dp; omega
noncomputable def tNil : TA := fun _ H Q => Q [] H
noncomputable def tCons (ta : TE) (tr : TA) : TA := fun σ H Q => ta σ H fun x H1 => tr σ H1 fun xs H2 => Q (x :: xs) H2
section
variable {X : Cx} {e : Expr} {es : List Expr} {te : TE} {t : TA} {pos : Pos}
theorem pa_nil : PA X [] tNil := fun _ _ _ _ H Q I h => Calls.spliced_nil ⟨[], H, I, .nil, h⟩
theorem pa_cons (ha : PE X e te) (hr : PA X es t) (hs : starEach (e :: es) X.env = (false, eval e X.env) :: starEach es X.env := by rfl) : PA X (e :: es) (tCons te t) := by
 intro pos pins s σ H Q I h
 rw [hs]
 show wpAny _ _ (spliced ((false, eval e X.env) :: backTo pos (starEach es X.env))) _ _ s
 refine Calls.spliced_cons (thn (ha pins s σ H _ I h) fun u s1 ⟨x, H1, I1, r1, q1⟩ => ?_)
 exact thn (hr pos pins s1 σ H1 _ I1 q1) fun us s2 ⟨xs, H2, I2, r2, q2⟩ => ⟨x :: xs, H2, I2, .cons r1 r2, q2⟩
noncomputable def tTup (t : TA) : TE := fun σ H Q => t σ H fun xs H1 => xs.length ≤ sizeLine ∧ ∀ p, H1 p = none → Q (.ref p) (upd H1 p (.tup xs))
noncomputable def tLst (t : TA) : TE := fun σ H Q => t σ H fun xs H1 => xs.length ≤ sizeLine ∧ ∀ p, H1 p = none → Q (.ref p) (upd H1 p (.lst xs))
theorem pe_tup {x1} (h : PA X es t) : PE X (.Tuple es x1 pos) (tTup t) := by
 intro pins s σ H Q I hq
 refine wpAny_Tuple_spliced (thn (h pos pins s σ H _ I hq) fun us s1 ⟨xs, H1, I1, r, z, q⟩ => ⟨by rw [← r.length]; exact z, ?_⟩)
 have hf : H1 s1.heap.objs.size = none := I1.hok.fresh (Nat.le_refl _)
 refine ⟨.ref s1.heap.objs.size, upd H1 s1.heap.objs.size (.tup xs), I1.laid (t' := s1.toks) (fun b u e => Heap.get?_push_of_some _ e) (Nat.le_refl _) ?_, rfl, q _ hf⟩
 exact ⟨z, us, r, ⟨_, Heap.get?_push_size _ rfl, rfl, _, rfl⟩⟩
theorem pe_lst (h : PA X es t) : PE X (.List es pos) (tLst t) := by
 intro pins s σ H Q I hq
 refine wpAny_List_spliced (thn (h pos pins s σ H _ I hq) fun us s1 ⟨xs, H1, I1, r, z, q⟩ => ⟨by rw [← r.length]; exact z, ?_⟩)
 have hf : H1 s1.heap.objs.size = none := I1.hok.fresh (Nat.le_refl _)
 refine ⟨.ref s1.heap.objs.size, upd H1 s1.heap.objs.size (.lst xs), I1.laid (t' := s1.toks) (fun b u e => Heap.get?_push_of_some _ e) (Nat.le_refl _) ?_, rfl, q _ hf⟩
 exact ⟨z, us, 0, r, Heap.get?_push_size _ rfl⟩
end
abbrev Sp := List V → Hp → VK → XK → Prop
abbrev CXT := List Env → Hp → Shared → XK → Value → Shared → Prop
structure Env0 (P : Program) (w : World) (K : PySem.W.Frag) (mg : Str → Option Value) (base : Heap) (A : Around) (outer : List Env) (s : Shared) (H : Hp) : Prop where
 frames : A.frames = some outer
 mod : Mod K mg base
 bs : ∀ b o, base.get? b = some o → s.heap.get? b = some o ∧ H b = none
 bsz : Bsz K mg base s.heap H
 funs : s.heap.FunFrames base outer
 frf : ∀ b ∈ frs outer, H b = none
 hok : HOk P w H s.heap
 bare : AllBare s.gens
noncomputable def CE (outer : List Env) (P : Program) (w : World) (H : Hp) (s : Shared) (Q : VK) (u : Value) (s' : Shared) : Prop :=
 ∃ v H', s'.os = s.os ∧ AllBare s'.gens ∧ Un (frs outer) [] H H' s.heap s'.heap ∧ HOk P w H' s'.heap ∧ RelV v u ∧ Q v H'
noncomputable def CR (CX : CXT) (outer : List Env) (P : Program) (w : World) (H : Hp) (s : Shared) (Q : VK) (E : XK) (r : Result) (s' : Shared) : Prop :=
 match r with
 | .ok (.ret u) => CE outer P w H s Q u s'
 | .ok _ => False
 | .error e => CX outer H s E e s'
structure FnOk (P : Program) (w : World) (K : PySem.W.Frag) (mg : Str → Option Value) (base : Heap) (CX : CXT) (k : Nat) (f : Addr) (fd : FuncData) (ps : List Str) (sp : Sp) : Prop where
 len : ∀ vs H Q E, sp vs H Q E → vs.length = ps.length
 run : ∀ (A : Around) (outer : List Env) (s : Shared) (H : Hp) (args : Args) (us : List Value) (vs : List V) (Q : VK) (E : XK), Room k A → Env0 P w K mg base A outer s H → BindsTo s fd args (ps.zip us) → Vals vs us → sp vs H Q E →
  codeAny (model P w) A (.call (.ref f) args) (CR CX outer P w H s Q E) s
theorem FnOk.imp {P : Program} {w : World} {K : PySem.W.Frag} {mg : Str → Option Value} {base : Heap} {CX : CXT} {k : Nat} {f : Addr} {fd : FuncData} {ps : List Str} {sp sp' : Sp} (F : FnOk P w K mg base CX k f fd ps sp)
  (h : ∀ vs H Q E, sp' vs H Q E → sp vs H Q E) : FnOk P w K mg base CX k f fd ps sp' :=
 ⟨fun vs H Q E q => F.len vs H Q E (h _ _ _ _ q), fun A outer s H args us vs Q E hr he hb hv hs => F.run A outer s H args us vs Q E hr he hb hv (h _ _ _ _ hs)⟩
section
variable {X : Cx} {pins : List (Addr × Obj)} {σ : St} {H : Hp} {s s' : Shared}
theorem Inv.tabsH (I : Inv X pins σ H s) : TabsK X.K X.mg X.base H := ⟨I.ok.bsz.2.bm, fun x c P hx ht => ⟨(I.ok.bsz.2.tab x c P hx ht).1, I.base.tbls _ _ (I.ok.bsz.2.tab x c P hx ht).2⟩⟩
theorem Inv.env0 (I : Inv X pins σ H s) : Env0 X.prog X.w X.K X.mg X.base X.A X.stack s H :=
 ⟨I.ok.frames, I.ok.mod, I.bs, ⟨Nat.le_trans I.ok.bsz.1 I.sz, I.tabsH⟩, I.stack, I.stkFree, I.hok, I.bare⟩
theorem Inv.after {Q : VK} {u : Value} (I : Inv X pins σ H s) (h : CE X.stack X.prog X.w H s Q u s') : EP X pins σ Q u s' := by
 obtain ⟨v, H', os, bare, un, hok, r, q⟩ := h
 obtain ⟨hh, g, d, t, os'⟩ := s'
 obtain rfl : os' = s.os := os
 exact ⟨v, H', I.call (h' := hh) (g' := g) (d' := d) (t' := t) (ch := []) un hok bare (fun b z => absurd z (by simp)), r, q⟩
end
noncomputable def tCall (sp : Sp) (dvs : List V) (E : XK) (t : TA) : TE := fun σ H Q => t σ H fun vs H1 => sp (vs ++ dvs) H1 Q E
noncomputable def Binds (K : PySem.W.Frag) (fd : FuncData) (ps : List Str) (ds : List Value) : Prop :=
 ∀ (s : Shared) (us : List Value), K.In s.heap → (us ++ ds).length = ps.length → BindsTo s fd ⟨us, []⟩ (ps.zip (us ++ ds))
theorem Binds.all {K : PySem.W.Frag} {fd : FuncData} {ps : List Str} (h : ∀ us : List Value, us.length = ps.length → bindArgs fd ⟨us, []⟩ = pure (ps.zip us)) : Binds K fd ps [] := fun s us _ hl => by
 rw [List.append_nil] at hl ⊢
 exact .of_eq (h us hl)
noncomputable def Passes (CX : CXT) (X : Cx) (E : XK) : Prop := ∀ (pins : List (Addr × Obj)) (σ : St) (H : Hp) (s : Shared) (e : Value) (s' : Shared), Inv X pins σ H s → CX X.stack H s E e s' → X.xe e s'
section
variable {X : Cx} {CX : CXT} {k : Nat} {f C : Addr} {fd : FuncData} {ps : List Str} {sp : Sp} {dvs : List V} {ds : List Value} {E : XK} {x m : Str} {p pos apos : Pos} {e o : Expr} {es : List Expr} {ta : TE} {t : TA}
theorem run_fn {pins : List (Addr × Obj)} {σ : St} {H : Hp} {s : Shared} {Q : VK} {us : List Value} {vs : List V} (F : FnOk X.prog X.w X.K X.mg X.base CX k f fd ps sp) (hr : Room k X.A) (hb : Binds X.K fd ps ds) (hd : Vals dvs ds) (hx : Passes CX X E)
  (I : Inv X pins σ H s) (r : Vals vs us) (h : sp (vs ++ dvs) H Q E) : wpAny (model X.prog X.w) X.A (call (.ref f) us) (EP X pins σ Q) X.xe s := by
 have r2 : Vals (vs ++ dvs) (us ++ ds) := r.append hd
 have hl : (us ++ ds).length = ps.length := by rw [← r2.length]; exact F.len _ _ _ _ h
 refine wpAny_call (codeAny_mono (F.run X.A X.stack s H ⟨us, []⟩ (us ++ ds) (vs ++ dvs) Q E hr I.env0 (hb s us I.kIn hl) r2 h) fun r s' hq => ?_)
 cases r with
 | error e => exact hx pins σ H s e s' I hq
 | ok fl =>
   cases fl with
   | ret u => exact I.after hq
   | next => exact False.elim hq
   | brk => exact False.elim hq
   | cont => exact False.elim hq
theorem pe_call (F : FnOk X.prog X.w X.K X.mg X.base CX k f fd ps sp) (hr : Room k X.A) (hg : Gl X x) (hm : X.mg x = some (.ref f)) (hk : PySem.W.keepIn X.K (.ref f) = true) (hb : Binds X.K fd ps ds) (hd : Vals dvs ds) (hx : Passes CX X E)
  (ha : PA X (e :: es) t) (hdb : (x == ("__debug__" : Str)) = false := by decide) (he : starEach (e :: es) X.env = (false, eval e X.env) :: starEach es X.env := by rfl) (hpl : (backTo pos (starEach es X.env)).any (·.1) = false := by rfl) :
  PE X (.Call (.Name x p) (e :: es) [] pos) (tCall sp dvs E t) := by
 intro pins s σ H Q I h
 refine wpAny_Call_Name_kw (ld_glob I hg hm ?_ hdb)
 refine PySem.W.callWith_K (h₀ := X.base) I.ok.mod.kin hk (thn (ha pos pins s σ H _ I h) fun us s1 ⟨vs, H1, I1, r, q⟩ => ⟨I1.kIn, ?_⟩) he hpl
 exact run_fn F hr hb hd hx I1 r q
end
section
variable {X : Cx} {CX : CXT} {k : Nat} {f C : Addr} {fd : FuncData} {ps ks : List Str} {sp : Sp} {E : XK} {x m : Str} {p pos apos kpos : Pos} {e o : Expr} {es : List Expr} {kws : List Keyword} {te ta : TE} {t tk : TA} {nm : Option Str}
variable {g : List Value → List Value → List Value} {gV : List V → List V → List V}
end
structure FnScope (N P : List Str) (sc : Scope) : Prop where
 kind : sc.kind = .function := by rfl
 co : sc.isCoroutine = false := by rfl
 gen : sc.isGenerator = false := by rfl
 nd : N.Nodup := by decide +kernel
 pre : N.take P.length = P := by rfl
 par : ∀ x ∈ P, sc.names.lookup x = some .local ∨ sc.names.lookup x = some .cell := by decide +kernel
 nofree : ∀ y ∈ sc.names, y.2 ≠ .free := by decide +kernel
theorem bindL_out {kindOf : Str → Option NameKind} {x : Str} : ∀ {binds : List (Str × Value)} {m : Str → Option Value}, (∀ v, (x, v) ∉ binds) → bindL kindOf binds m x = m x
 | [], _, _ => rfl
 | (n, v) :: r, m, h => by
   unfold bindL
   rw [bindL_out fun w hw => h w (List.mem_cons_of_mem _ hw)]
   split
   · have : x ≠ n := by rintro rfl; exact h v List.mem_cons_self
     simp [this]
   · rfl
theorem bindC_out {kindOf : Str → Option NameKind} {x : Str} : ∀ {binds : List (Str × Value)} {m : Str → Option Value}, (∀ v, (x, v) ∉ binds) → bindC kindOf binds m x = m x
 | [], _, _ => rfl
 | (n, v) :: r, m, h => by
   unfold bindC
   rw [bindC_out fun w hw => h w (List.mem_cons_of_mem _ hw)]
   split
   · rfl
   · have : x ≠ n := by rintro rfl; exact h v List.mem_cons_self
     simp [this]
theorem bindL_get {kindOf : Str → Option NameKind} {x : Str} {v : Value} : ∀ {P : List Str} {vs : List Value} {i : Nat} {m : Str → Option Value}, P.Nodup → P[i]? = some x → vs[i]? = some v → kindOf x = some .local →
  bindL kindOf (P.zip vs) m x = some v
 | [], _, _, _, _, h, _, _ => by simp at h
 | _ :: _, [], _, _, _, _, h, _ => by simp at h
 | p :: P, w :: vs, 0, m, nd, h1, h2, hk => by
   simp at h1 h2; subst h1; subst h2
   show bindL kindOf ((p, w) :: P.zip vs) m p = _
   unfold bindL
   rw [bindL_out fun v hv => (List.nodup_cons.mp nd).1 (List.of_mem_zip hv).1, if_pos hk]
   simp
 | p :: P, w :: vs, i + 1, m, nd, h1, h2, hk => by
   show bindL kindOf ((p, w) :: P.zip vs) m x = _
   unfold bindL
   exact bindL_get (i := i) (List.nodup_cons.mp nd).2 (by simpa using h1) (by simpa using h2) hk
theorem bindC_get {kindOf : Str → Option NameKind} {x : Str} {v : Value} : ∀ {P : List Str} {vs : List Value} {i : Nat} {m : Str → Option Value}, P.Nodup → P[i]? = some x → vs[i]? = some v → kindOf x ≠ some .local →
  bindC kindOf (P.zip vs) m x = some v
 | [], _, _, _, _, h, _, _ => by simp at h
 | _ :: _, [], _, _, _, _, h, _ => by simp at h
 | p :: P, w :: vs, 0, m, nd, h1, h2, hk => by
   simp at h1 h2; subst h1; subst h2
   show bindC kindOf ((p, w) :: P.zip vs) m p = _
   unfold bindC
   rw [bindC_out fun v hv => (List.nodup_cons.mp nd).1 (List.of_mem_zip hv).1, if_neg hk]
   simp
 | p :: P, w :: vs, i + 1, m, nd, h1, h2, hk => by
   show bindC kindOf ((p, w) :: P.zip vs) m x = _
   unfold bindC
   exact bindC_get (i := i) (List.nodup_cons.mp nd).2 (by simpa using h1) (by simpa using h2) hk
noncomputable def start (N : List Str) (vs : List V) : St := vs.map some ++ List.replicate (N.length - vs.length) none
noncomputable def cxOf (CX : CXT) (P : Program) (w : World) (K : PySem.W.Frag) (mg : Str → Option Value) (base : Heap) (N : List Str) (qual : Str) (scope : Scope) (f : Addr) (cd : Value) (A : Around) (outer : List Env) (s : Shared) (H : Hp) (E : XK) : Cx where
 prog := P
 w := w
 K := K
 mg := mg
 base := base
 A := A.deeper (envOfC qual scope s.heap.objs.size f cd)
 N := N
 s₀ := s
 H₀ := H
 env := envOfC qual scope s.heap.objs.size f cd
 outer := outer
 stack := envOfC qual scope s.heap.objs.size f cd :: outer
 ex := []
 calm := true
 fn := fun _ => true
 pn := []
 xe := fun e s' => wpAny (model P w) (A.deeper (envOfC qual scope s.heap.objs.size f cd)) (leaving (envOfC qual scope s.heap.objs.size f cd) e) (fun _ s'' => CX outer H s E e s'') (fun e' s'' => CX outer H s E e' s'') s'
theorem cell_has {sc : Scope} {n : Nat} {x : Str} (h : sc.names.lookup x = some .cell) : ∃ c, (cellsFrom n sc.names []).lookup x = some c := by
 have q := PySem.W.cellsFrom_some sc.names n [] (.inl h)
 exact Option.isSome_iff_exists.mp q
theorem inv_start {CX : CXT} {P : Program} {w : World} {K : PySem.W.Frag} {mg : Str → Option Value} {base : Heap} {N ps : List Str} {qual : Str} {scope : Scope} {f : Addr} {cd : Value} {A : Around} {outer : List Env} {s s1 : Shared} {H : Hp} {E : XK} {us : List Value} {vs : List V}
  (S : FnScope N ps scope) (hd : A.handled = none) (e0 : Env0 P w K mg base A outer s H) (hl : vs.length = ps.length) (r : Vals vs us)
  (x : InCallC s s.heap.objs.size (bindL (envOfC qual scope s.heap.objs.size f cd).kindOf (ps.zip us) fun _ => none) (cellsFrom (s.heap.objs.size + 1) scope.names []) (bindC (envOfC qual scope s.heap.objs.size f cd).kindOf (ps.zip us) fun _ => none) s1) :
  Inv (cxOf CX P w K mg base N qual scope f cd A outer s H E) [] (start N vs) H s1 := by
 have hpl : ps.length ≤ N.length := by have := congrArg List.length S.pre; rw [List.length_take] at this; omega
 obtain ⟨h1, tk, rfl, hk⟩ := x.done
 have noA : ∀ b : Addr, b ∉ (cxOf CX P w K mg base N qual scope f cd A outer s H E).ex := fun b z => absurd (show b ∈ ([] : List Addr) from z) (by simp)
 refine ⟨⟨e0.mod, S.kind, rfl, rfl, Nat.le_refl _, fun y z c h1 h2 => ?_, fun y hy => ?_, fun y c _ h => ?_, fun _ => hd, Around.frames_deeper e0.frames, .inr ⟨rfl, rfl⟩, fun b z => absurd z (noA b), e0.bs, e0.bsz, fun b _ _ => noA b, fun b z => absurd z (noA b), e0.funs, e0.frf⟩,
  rfl, e0.bare, Un.kept hk, ⟨_, x.toInCall.ns, fun i y v h1 h2 h3 => ?_⟩, fun y c h => ⟨_, x.cell y c h⟩, e0.hok.fresh (Nat.le_refl _), fun y c h => ?_, fun p hp => absurd (show p ∈ ([] : List (Addr × Obj)) from hp) (by simp), e0.hok.kept hk, ?_⟩
 · exact name_of_addr x.apart (PySem.mem_of_lookup h1) (PySem.mem_of_lookup h2)
 · have hy : scope.names.lookup y = some .cell ∨ scope.names.lookup y = some .free := hy
   rcases hy with hy | hy
   · exact cell_has hy
   · exact absurd rfl (S.nofree _ (PySem.mem_of_lookup hy))
 · exact Nat.le_of_lt (x.above y c (PySem.mem_of_lookup h))
 · have hi : i < vs.length := by
    unfold start at h2
    by_cases hi : i < vs.length
    · exact hi
    · rw [List.getElem?_append_right (by simpa using hi)] at h2
      rw [List.getElem?_replicate] at h2
      split at h2 <;> cases h2
   have ha : vs[i]? = some v := by
    unfold start at h2
    rw [List.getElem?_append_left (by simpa using hi), List.getElem?_map] at h2
    cases e : vs[i]? with
    | none => rw [e] at h2; cases h2
    | some a => rw [e] at h2; cases h2; rfl
   obtain ⟨u, hu, rv⟩ := r.get ha
   have hp : ps[i]? = some y := by
    rw [← S.pre, List.getElem?_take_of_lt (by omega)]; exact h1
   have ndP : ps.Nodup := by rw [← S.pre]; exact S.nd.sublist (List.take_sublist _ _)
   refine ⟨u, rv, ?_⟩
   rcases S.par y (List.mem_of_getElem? hp) with k | k
   · exact .inl ⟨k, bindL_get ndP hp hu k⟩
   · obtain ⟨c, e⟩ := cell_has (n := s.heap.objs.size + 1) k
     refine .inr ⟨.inl k, c, e, ?_⟩
     have q := x.cell y c e
     rw [bindC_get ndP hp hu (by show scope.names.lookup y ≠ _; rw [k]; decide)] at q
     exact q
 · exact .inl (e0.hok.fresh (Nat.le_of_lt (x.above y c (PySem.mem_of_lookup h))))
 · unfold start
   show _ = N.length
   rw [List.length_append, List.length_map, List.length_replicate]
   omega
theorem fn_of {CX : CXT} {P : Program} {w : World} {K : PySem.W.Frag} {mg : Str → Option Value} {base : Heap} {k : Nat} {f : Addr} {name qual : Str} {params : Arguments} {body : List Stmt} {scope : Scope} {dV kV doc pm cdv ct oc : Value} {an od : Option Addr}
  {osl : Array (Option Value)} {N ps : List Str} {sp : Sp} (lk : K.lookup f = some ⟨oc, od, .func (PySem.W.fnOf name qual params body scope dV kV doc pm an cdv ct), osl⟩) (hcd : PySem.W.codeIn K cdv qual = true) (S : FnScope N ps scope)
  (len : ∀ vs H Q E, sp vs H Q E → vs.length = ps.length)
  (hbody : ∀ (A : Around) (outer : List Env) (s : Shared) (H : Hp) (vs : List V) (Q : VK) (E : XK), Room k (A.deeper (envOfC qual scope s.heap.objs.size f cdv)) → sp vs H Q E →
    ∃ t, PSs (cxOf CX P w K mg base N qual scope f cdv A outer s H E) body t ∧ t { nx := fun _ H' => Q .non H', rt := Q } (start N vs) H) :
  FnOk P w K mg base CX (k + 1) f (PySem.W.fnOf name qual params body scope dV kV doc pm an cdv ct) ps sp := by
 refine ⟨len, fun A outer s H args us vs Q E hr e0 hb r hsp => ?_⟩
 have hl := len _ _ _ _ hsp
 have KX : K.In s.heap := e0.mod.kin.keeps fun b o e => (e0.bs b o e).1
 have lim : s.heap.NoLimit := e0.mod.nolimit.keeps fun b o e => (e0.bs b o e).1
 have hkind : ∀ y ∈ ps.zip us, scope.names.lookup y.1 = some .local ∨ (scope.names.lookup y.1 = some .cell ∧ ((cellsFrom (s.heap.objs.size + 1) scope.names []).lookup y.1).isSome = true) := fun ⟨n, v⟩ hy => by
  rcases S.par n (List.of_mem_zip hy).1 with q | q
  · exact .inl q
  · exact .inr ⟨q, PySem.W.cellsFrom_some _ _ _ (.inl q)⟩
 refine codeAny_call_function hr.depth (KX _ _ lk) rfl S.co S.gen rfl (PySem.W.codeRec_of KX hcd) (hb _ _ _ _ ?_)
 refine wpAny_newFunctionEnv_cells S.kind hkind fun env he s1 x => ?_
 subst he
 refine ⟨lim.keeps x.toInCall.keep, codeAny_func ?_⟩
 obtain ⟨t, ht, hq⟩ := hbody A outer s H vs Q E (hr.deeper _) hsp
 have I : Inv (cxOf CX P w K mg base N qual scope f cdv A outer s H E) [] (start N vs) H s1 := inv_start S hr.hd e0 hl r x
 refine wpAny_mono (ht [] s1 (start N vs) H _ I hq) (fun fl s' hs => ?_) fun e s' hs => hs
 have fin : ∀ {σ' : St} {H' : Hp} {v : V} {u : Value}, Inv (cxOf CX P w K mg base N qual scope f cdv A outer s H E) [] σ' H' s' → RelV v u → Q v H' → CE outer P w H s Q u s' :=
  fun {σ' H' v u} J rv q => ⟨v, H', J.os, J.bare, J.base, J.hok, rv, q⟩
 cases fl with
 | ret u =>
   obtain ⟨v, σ', H', J, rv, q⟩ := hs
   exact fin J rv q
 | next =>
   obtain ⟨σ', H', J, q⟩ := hs
   exact fin (v := V.non) (u := Value.none) J rfl q
 | brk =>
   obtain ⟨_, _, _, q⟩ := hs
   exact False.elim q
 | cont =>
   obtain ⟨_, _, _, q⟩ := hs
   exact False.elim q
section
variable {X : Cx} {x : Str} {p pos : Pos} {e : Expr} {es : List Expr} {t : TA} {id T : String} {r : List V → Hp → VK → Prop}
noncomputable def tCB (r : List V → Hp → VK → Prop) (t : TA) : TE := fun σ H Q => t σ H fun vs H1 => r vs H1 Q
theorem pe_callB (hc : CallR X (.builtin id) r) (hg : Gl X x) (hm : X.mg x = none) (hv : bootBuiltins x = some (.builtin id)) (ha : PA X (e :: es) t) (hn : x ≠ "__name__" := by decide) (hdb : (x == ("__debug__" : Str)) = false := by decide)
  (he : starEach (e :: es) X.env = (false, eval e X.env) :: starEach es X.env := by rfl) (hpl : (backTo pos (starEach es X.env)).any (·.1) = false := by rfl) : PE X (.Call (.Name x p) (e :: es) [] pos) (tCB r t) := by
 intro pins s σ H Q I h
 refine wpAny_Call_Name_kw (ld_blt I hg hm hv ?_ hn hdb)
 exact PyProof.Rows.callWith_builtin1 (thn (ha pos pins s σ H _ I h) fun us s1 ⟨vs, H1, I1, r1, q1⟩ => hc pins s1 σ H1 vs us Q I1 r1 q1) he hpl
theorem pe_callTy (hc : CallR X (.type T) r) (hg : Gl X x) (hm : X.mg x = none) (hv : bootBuiltins x = some (.type T)) (ha : PA X (e :: es) t) (hn : x ≠ "__name__" := by decide) (hdb : (x == ("__debug__" : Str)) = false := by decide)
  (he : starEach (e :: es) X.env = (false, eval e X.env) :: starEach es X.env := by rfl) (hpl : (backTo pos (starEach es X.env)).any (·.1) = false := by rfl) : PE X (.Call (.Name x p) (e :: es) [] pos) (tCB r t) := by
 intro pins s σ H Q I h
 refine wpAny_Call_Name_kw (ld_blt I hg hm hv ?_ hn hdb)
 exact PyProof.Rows.callWith_type1 (thn (ha pos pins s σ H _ I h) fun us s1 ⟨vs, H1, I1, r1, q1⟩ => hc pins s1 σ H1 vs us Q I1 r1 q1) he hpl
end
end L2
namespace HT
open PySem PyProof.Rows
section
open PySem.SeqAt
open PySem.AutoSeq1 (wpAny_loadPart')
open PySem.MeetsSeq PySem.MeetsSeq2 PySem.MeetsSeq3
end
section
variable {prog : Program} {w : World} {A : Around} {E : Value → Shared → Prop} {s : Shared}
theorem sIx_le (n d : Nat) (hd : d ≤ n) (o : Option Int) : sIx n d o ≤ n := by
 cases o with
 | none => exact hd
 | some v =>
   show (if v < 0 then (v + (n : Int)).toNat else min v.toNat n) ≤ n
   by_cases hv : v < 0
   · rw [if_pos hv]; omega
   · rw [if_neg hv]; exact Nat.min_le_right _ _
theorem clip_eq (v : Int) (n d : Nat) : (if v < 0 then max (v + (n : Int)) 0 else min v (n : Int)) = ((sIx n d (some v) : Nat) : Int) := by
 show (if v < 0 then max (v + (n : Int)) 0 else min v (n : Int)) = (((if v < 0 then (v + (n : Int)).toNat else min v.toNat n) : Nat) : Int)
 by_cases hv : v < 0
 · simp only [if_pos hv]; omega
 · simp only [if_neg hv]; omega
theorem adjust_gen (lo hi : Option Int) (n : Nat) : Builtin.Slice.sliceAdjust lo hi 1 (n : Int) = (((sIx n 0 lo : Nat) : Int), ((sIx n n hi : Nat) : Int)) := by
 have h1 : ¬ ((1 : Int) < 0) := by omega
 unfold Builtin.Slice.sliceAdjust
 simp only [h1, if_false]
 refine Prod.ext ?_ ?_
 · cases lo with
   | none => rfl
   | some v => exact clip_eq v n 0
 · cases hi with
   | none => rfl
   | some v => exact clip_eq v n n
theorem places_gen (i j : Nat) : Builtin.Slice.slicePlaces (i : Int) (j : Int) 1 = j - i := by
 unfold Builtin.Slice.slicePlaces
 have h1 : (1 : Int) > 0 := by omega
 simp only [h1, if_true, Int.ediv_one]
 split <;> omega
theorem slicePart_ {v : Value} {o : Option Int} {Q : Option Int → Shared → Prop} (p : IsPart v o) (h : Q o s) : wpAny (model prog w) A (Builtin.Slice.slicePartIndex v) Q E s := by
 cases p with
 | none => exact slicePart_none h
 | int i t => exact slicePart_int h
theorem sliceApplied_gen {sl : Addr} {vl vu : Value} {lo hi : Option Int} {n : Nat} {Q : Int × Int × Nat → Shared → Prop} (hs : s.heap.IsSliceOf sl vl vu .none) (pl : IsPart vl lo) (pu : IsPart vu hi)
  (h : Q (((sIx n 0 lo : Nat) : Int), 1, sIx n n hi - sIx n 0 lo) s) : wpAny (model prog w) A (Builtin.Slice.sliceApplied (.ref sl) (pure (n : Int))) Q E s := by
 obtain ⟨os, hos, hcs, hds⟩ := id hs
 unfold Builtin.Slice.sliceApplied Builtin.Slice.sliceFields
 refine wpAny_bind (wpAny_bind (wpAny_field hos hds (x := vl) rfl (wpAny_bind (wpAny_field hos hds (x := vu) rfl (wpAny_bind (wpAny_field hos hds (x := .none) rfl (wpAny_pure ?_)))))))
 refine wpAny_bind (slicePart_none ?_)
 show wpAny _ _ (if ((1 : Int) == 0) = true then _ else _) _ _ s
 rw [if_neg (by decide)]
 refine wpAny_bind (slicePart_ pl (wpAny_bind (slicePart_ pu (wpAny_bind (wpAny_pure ?_)))))
 show wpAny _ _ (match Builtin.Slice.sliceAdjust lo hi 1 (n : Int) with | (lo, hi) => pure (lo, (1 : Int), Builtin.Slice.slicePlaces lo hi 1)) _ _ s
 rw [adjust_gen lo hi n]
 show wpAny _ _ (pure (((sIx n 0 lo : Nat) : Int), (1 : Int), Builtin.Slice.slicePlaces ((sIx n 0 lo : Nat) : Int) ((sIx n n hi : Nat) : Int) 1)) _ _ s
 rw [places_gen]
 exact wpAny_pure h
theorem pick_gen (xs : Array Value) (i k : Nat) : ((List.range k).filterMap fun (m : Nat) => xs[((i : Int) + (m : Int) * 1).toNat]?).toArray = ((xs.toList.drop i).take k).toArray := by
 have e : (fun (m : Nat) => xs[((i : Int) + (m : Int) * 1).toNat]?) = fun m => xs[i + m]? := by
  funext m
  have : ((i : Int) + (m : Int) * 1).toNat = i + m := by omega
  rw [this]
 rw [e]
 have := pick_run xs i k
 rw [List.filterMap_map] at this
 have e2 : ((fun x => xs[x]?) ∘ fun x => i + x) = fun m => xs[i + m]? := rfl
 rw [e2] at this
 rw [this]
theorem getItem_tuple_cut {t sl : Addr} {items : Array Value} {vl vu : Value} {lo hi : Option Int} {Q : Value → Shared → Prop} (ht : IsTup s.heap t items) (hs : s.heap.IsSliceOf sl vl vu .none) (pl : IsPart vl lo) (pu : IsPart vu hi)
  (hw : ¬ (sIx items.size 0 lo = 0 ∧ sIx items.size items.size hi = items.size))
  (h : Q (.ref s.heap.objs.size) { s with heap := s.heap.push { cls := .type "tuple", data := .seq ((items.toList.drop (sIx items.size 0 lo)).take (sIx items.size items.size hi - sIx items.size 0 lo)).toArray } })
  (hsz : items.size ≤ sizeLine) : wpAny (model prog w) A (getItem (.ref t) (.ref sl)) Q E s := by
 have htake : sizeOk (.seq ((items.toList.drop (sIx items.size 0 lo)).take (sIx items.size items.size hi - sIx items.size 0 lo)).toArray) := by
  show ((items.toList.drop (sIx items.size 0 lo)).take (sIx items.size items.size hi - sIx items.size 0 lo)).toArray.size ≤ sizeLine
  rw [List.size_toArray, List.length_take, List.length_drop, Array.length_toList]
  omega
 have hj : sIx items.size items.size hi ≤ items.size := sIx_le _ _ (Nat.le_refl _) hi
 obtain ⟨os, hos, hcs, hds⟩ := id hs
 have hTs : s.TypeIs (.ref sl) "slice" := ⟨os, hos, hcs⟩
 unfold getItem
 try with_reducible refine wpAny_holding ?_
 first | refine wpAny_bind (wpAny_pure ?_) | skip
 refine wpAny_bind (wpAny_sequenceKey ht.typeIs (by decide) ?_)
 refine wpAny_bind (wpAny_callSpecial?_slot (name := Str.ofString "__getitem__") ht.typeIs PyProof.Rows.slot_tuple_getitem
  (wpAny_call_entry PyProof.Rows.slot_tuple_getitem ht.typeIs entry_tuple_getitem ?_ (args_tuple_getitem _ _)))
 show wpAny _ _ (Builtin.Tuple.tupleItemsOf (.ref t) >>= _) _ _ s
 refine wpAny_bind (tupleItemsOf_ ht ?_)
 refine wpAny_bind (wpAny_typeOf hTs ?_)
 rw [if_pos (by decide)]
 refine wpAny_bind (sliceApplied_gen hs pl pu ?_)
 have hno : ¬ ((((sIx items.size 0 lo : Nat) : Int) == 0 && (1 : Int) == 1 && (sIx items.size items.size hi - sIx items.size 0 lo) == items.size) = true) := by
  intro q
  rw [Bool.and_eq_true, Bool.and_eq_true] at q
  have q1 : ((sIx items.size 0 lo : Nat) : Int) = 0 := eq_of_beq q.1.1
  have q2 : sIx items.size items.size hi - sIx items.size 0 lo = items.size := eq_of_beq q.2
  exact hw ⟨by omega, by omega⟩
 show wpAny _ _ (if (((sIx items.size 0 lo : Nat) : Int) == 0 && (1 : Int) == 1 && (sIx items.size items.size hi - sIx items.size 0 lo) == items.size) = true then _ else _) _ _ s
 rw [if_neg hno, pick_gen]
 first
  | exact wpAny_bind (m := Builtin.Tuple.tupleExact _) (wpAny_newObj_type (wpAny_pure ⟨_, rfl, wpAny_pure h⟩) htake)
  | exact wpAny_bind (m := Builtin.Tuple.tupleExact _) (wpAny_newObj_type (wpAny_bind (wpAny_pure (wpAny_pure ⟨_, rfl, wpAny_pure h⟩))) htake)
  | exact wpAny_bind (wpAny_bind (m := Builtin.Tuple.tupleExact _) (wpAny_newObj_type (wpAny_pure (wpAny_pure ⟨_, rfl, wpAny_pure h⟩)) htake))
  | exact wpAny_bind (wpAny_bind (m := Builtin.Tuple.tupleExact _) (wpAny_newObj_type (wpAny_pure ⟨_, rfl, wpAny_pure h⟩) htake))
end
end HT
namespace L2
open PySem PySem.Spec PyProof.Rows
abbrev TO := St → Hp → (Option Int → Hp → Prop) → Prop
noncomputable def PO (X : Cx) (e : Option Expr) (t : TO) : Prop :=
 ∀ (pins : List (Addr × Obj)) (s : Shared) (σ : St) (H : Hp) (Q : Option Int → Hp → Prop), Inv X pins σ H s → t σ H Q →
  wpAny (model X.prog X.w) X.A (evalPart e X.env) (fun u s' => ∃ o H', Inv X pins σ H' s' ∧ IsPart u o ∧ Q o H') X.xe s
noncomputable def tNoPart : TO := fun _ H Q => Q none H
noncomputable def tPart (t : TE) : TO := fun σ H Q => t σ H fun x H1 => ∃ i, x = .int i ∧ Q (some i) H1
theorem intsAre_of {ns : List Int} : ∀ {us : List Value}, Vals (ns.map V.int) us → IntsAre us ns := by
 induction ns with
 | nil => intro us r; rw [List.map_nil] at r; cases r; exact .nil
 | cons n ns ih =>
   intro us r
   rw [List.map_cons] at r
   cases r with
   | cons r1 r2 =>
     obtain ⟨t, e⟩ := r1
     subst e
     exact .cons n t (ih r2)
section
variable {X : Cx} {e : Expr} {te : TE} {lo hi : Option Expr} {tl th : TO} {pos p2 : Pos}
theorem po_none : PO X none tNoPart := by
 intro pins s σ H Q I h
 rw [evalPart_none]
 exact wpAny_pure ⟨none, H, I, .none, h⟩
theorem po_some (h : PE X e te) : PO X (some e) (tPart te) := by
 intro pins s σ H Q I hw
 rw [evalPart_some]
 refine thn (h pins s σ H _ I hw) fun u s1 ⟨x, H1, I1, r1, q1⟩ => ?_
 obtain ⟨i, rfl, q⟩ := q1
 obtain ⟨t, rfl⟩ := r1
 exact ⟨some i, H1, I1, .int i t, q⟩
noncomputable def SlR (X : Cx) (r : V → Option Int → Option Int → Hp → VK → Prop) : Prop :=
 ∀ (pins : List (Addr × Obj)) (s : Shared) (σ : St) (H : Hp) (x : V) (v vl vu : Value) (lo hi : Option Int) (sl : Addr) (Q : VK), Inv X pins σ H s → RelV x v → s.heap.IsSliceOf sl vl vu .none → IsPart vl lo → IsPart vu hi → r x lo hi H Q →
  ∃ T id, typeLookup (.type T) "__getitem__" = pure (some (.builtin id)) ∧ s.TypeIs v T ∧ wpAny (model X.prog X.w) X.A (getItem v (.ref sl)) (EP X pins σ Q) X.xe s
noncomputable def tSl (r : V → Option Int → Option Int → Hp → VK → Prop) (te : TE) (tl th : TO) : TE := fun σ H Q => te σ H fun x H1 => tl σ H1 fun l H2 => th σ H2 fun u H3 => r x l u H3 Q
theorem pe_slice {r : V → Option Int → Option Int → Hp → VK → Prop} (hr : SlR X r) (he : PE X e te) (hl : PO X lo tl) (hu : PO X hi th) : PE X (.Subscript e (.Slice lo hi none p2) pos) (tSl r te tl th) := by
 intro pins s σ H Q I h
 refine Subscript_ (thn (he pins s σ H _ I h) fun v s1 ⟨x, H1, I1, r1, q1⟩ => ?_)
 refine wpAny_Slice (thn (hl pins s1 σ H1 _ I1 q1) fun vl s2 ⟨l, H2, I2, pl, q2⟩ => thn (hu pins s2 σ H2 _ I2 q2) fun vu s3 ⟨u, H3, I3, pu, q3⟩ => ?_)
 rw [evalPart_none]
 refine wpAny_pure ?_
 have I4 : Inv X pins σ H3 { s3 with heap := s3.heap.push { cls := .type "slice", data := .fields #[vl, vu, .none] } } := I3.kept (t' := s3.toks) fun b ob q => Heap.get?_push_of_some _ q
 obtain ⟨T, id, hT, ht, hg⟩ := hr pins { s3 with heap := s3.heap.push { cls := .type "slice", data := .fields #[vl, vu, .none] } } σ H3 x v vl vu l u s3.heap.objs.size Q I4 r1 (Heap.IsSliceOf.new ..) pl pu q3
 show wpAny (model X.prog X.w) X.A (subscriptTail e (.Slice lo hi none p2) v (.ref s3.heap.objs.size)) (EP X pins σ Q) X.xe { s3 with heap := s3.heap.push { cls := .type "slice", data := .fields #[vl, vu, .none] } }
 exact tail_any (ops := [.ref s3.heap.objs.size, v]) ht hT hg (by with_unfolding_all rfl)
noncomputable def cutV (xs : List V) (lo hi : Option Int) : List V := (xs.drop (HT.sIx xs.length 0 lo)).take (HT.sIx xs.length xs.length hi - HT.sIx xs.length 0 lo)
theorem cutV_length (xs : List V) (lo hi : Option Int) : (cutV xs lo hi).length ≤ xs.length := by
 unfold cutV
 rw [List.length_take, List.length_drop]
 omega
noncomputable def rSlT (K : PySem.W.Frag) : V → Option Int → Option Int → Hp → VK → Prop := fun x lo hi H Q => ∃ a xs, x = .ref a ∧ SqT K H a xs ∧
 ¬ (HT.sIx xs.length 0 lo = 0 ∧ HT.sIx xs.length xs.length hi = xs.length) ∧ ∀ p, H p = none → Q (.ref p) (upd H p (.tup (cutV xs lo hi)))
theorem sl_tup : SlR X (rSlT X.K) := by
 intro pins s σ H x v vl vu lo hi sl Q I rx hs pl pu h
 obtain ⟨a, xs, rfl, hx, hw, q⟩ := h
 cases rx
 obtain ⟨its, r, ht, hz⟩ := I.tuple hx
 have hlen : its.toArray.size = xs.length := by rw [List.size_toArray]; exact r.length.symm
 refine ⟨"tuple", _, PyProof.Rows.slot_tuple_getitem.lookup, ht.typeIs, ?_⟩
 refine HT.getItem_tuple_cut ht hs pl pu (by rw [hlen]; exact hw) ?_ (by rw [hlen]; exact hz)
 rw [hlen]
 refine ⟨.ref s.heap.objs.size, _, I.laid (t' := s.toks) (o := .tup (cutV xs lo hi)) (fun b ob q => Heap.get?_push_of_some _ q) (Nat.le_refl _) ?_, rfl, q _ (I.hok.fresh (Nat.le_refl _))⟩
 exact ⟨Nat.le_trans (cutV_length xs lo hi) hz, _, (r.drop (HT.sIx xs.length 0 lo)).take (HT.sIx xs.length xs.length hi - HT.sIx xs.length 0 lo), IsTup.new _ _⟩
end
theorem ixN_seq {n : Nat} {i : Int} {j : Nat} (h : ixN n i = some j) : seqIndex? i n = some j ∧ j < n ∧ -(n : Int) ≤ i ∧ i < n := by
 unfold ixN at h
 by_cases h0 : 0 ≤ i
 · rw [if_pos h0] at h
   by_cases h1 : i < n
   · rw [if_pos h1] at h
     have e : i.toNat = j := Option.some.inj h
     exact ⟨by rw [seqIndex_of h0 h1, e], by omega, by omega, h1⟩
   · rw [if_neg h1] at h; cases h
 · rw [if_neg h0] at h
   by_cases h1 : -(n : Int) ≤ i
   · rw [if_pos h1] at h
     have e : (i + n).toNat = j := Option.some.inj h
     exact ⟨by rw [seqIndex_neg (by omega) h1, e], by omega, h1, by omega⟩
   · rw [if_neg h1] at h; cases h
theorem atI_get {α : Type} {xs : List α} {i : Int} {v : α} (h : atI xs i = some v) : ∃ j, seqIndex? i xs.length = some j ∧ xs[j]? = some v ∧ j < xs.length ∧ -(xs.length : Int) ≤ i ∧ i < xs.length := by
 unfold atI at h
 cases e : ixN xs.length i with
 | none => rw [e] at h; cases h
 | some j =>
   rw [e] at h
   obtain ⟨h1, h2, h3, h4⟩ := ixN_seq e
   exact ⟨j, h1, h, h2, h3, h4⟩
noncomputable def PlainIx (b : Expr) : Prop := ∀ o i, subscripted b false o i = operate [o, i] (getItem o i)
noncomputable def IxR (X : Cx) (r : R2) : Prop :=
 ∀ (value slice : Expr) (pins : List (Addr × Obj)) (s : Shared) (σ : St) (H : Hp) (x y : V) (v u : Value) (Q : VK), Inv X pins σ H s → RelV x v → RelV y u → r x y H Q →
  subscripted slice false v u = operate [v, u] (getItem v u) → wpAny (model X.prog X.w) X.A (subscriptTail value slice v u) (EP X pins σ Q) X.xe s
noncomputable def MtR (X : Cx) (id : String) (r : V → List V → Hp → VK → Prop) : Prop :=
 ∀ (pins : List (Addr × Obj)) (s : Shared) (σ : St) (H : Hp) (x : V) (xs : List V) (v : Value) (us : List Value) (Q : VK), Inv X pins σ H s → RelV x v → Vals xs us → r x xs H Q →
  wpAny (model X.prog X.w) X.A (call (.builtin id) (v :: us)) (EP X pins σ Q) X.xe s
section
variable {X : Cx} {a b : Expr} {ta tb : TE} {pos : Pos}
theorem IxR.or {r r' : R2} (h : IxR X r) (h' : IxR X r') : IxR X (fun x y H Q => r x y H Q ∨ r' x y H Q) := by
 intro value slice pins s σ H x y v u Q I rx ry q hs
 rcases q with q | q
 · exact h value slice pins s σ H x y v u Q I rx ry q hs
 · exact h' value slice pins s σ H x y v u Q I rx ry q hs
theorem pe_ix {r : R2} (hr : IxR X r) (ha : PE X a ta) (hb : PE X b tb) (hs : PlainIx b) : PE X (.Subscript a b pos) (tOp r ta tb) := by
 intro pins s σ H Q I h
 exact Subscript_ (binT ha hb I h fun v u s2 x y H2 I2 rx ry q => hr a b pins s2 σ H2 x y v u Q I2 rx ry q (hs _ _))
noncomputable def rIxL (K : PySem.W.Frag) : R2 := fun x y H Q => ∃ p xs i v, x = .ref p ∧ y = .int i ∧ SqL K H p xs ∧ atI xs i = some v ∧ Q v H
noncomputable def rIxT (K : PySem.W.Frag) : R2 := fun x y H Q => ∃ p xs i v, x = .ref p ∧ y = .int i ∧ SqT K H p xs ∧ atI xs i = some v ∧ Q v H
noncomputable def rIxS : R2 := fun x y H Q => ∃ z i c, x = .str z ∧ y = .int i ∧ z.length ≤ sizeLine ∧ atI z.cps.toList i = some c ∧ Q (.str ⟨#[c]⟩) H
theorem ix_list : IxR X (rIxL X.K) := by
 intro value slice pins s σ H x y v u Q I rx ry h hs
 obtain ⟨p, xs, i, z, rfl, rfl, hq, he, q⟩ := h
 cases rx
 obtain ⟨t, rfl⟩ := ry
 obtain ⟨its, r, pl, hz⟩ := I.list hq
 obtain ⟨j, h1, h2, h3, h4, h5⟩ := atI_get he
 obtain ⟨w, ew, rw'⟩ := r.get h2
 have hl := r.length
 have hn := line63
 have fin : EP X pins σ Q w s := ⟨z, H, I, rw', q⟩
 by_cases h0 : 0 ≤ i
 · have hj : i.toNat = j := by
    rw [seqIndex_of h0 h5] at h1
    exact Option.some.inj h1
   exact item_listR pl.isList h0 (by omega) (by rw [hj]; simpa using ew) fin hs
 · have hj : (i + (its.toArray.size : Int)).toNat = j := by
    rw [seqIndex_neg (by omega) h4] at h1
    rw [List.size_toArray, ← hl]
    exact Option.some.inj h1
   exact subscriptTail_builtinR (x := w) pl.isList.typeIs slot_list_getitem.lookup
    (wpAny_getItem_list_neg (Q := fun r s' => r = w ∧ EP X pins σ Q r s') pl.isList (by omega) (by rw [List.size_toArray] <;> omega) (by omega) (by rw [hj]; simpa using ew) ⟨rfl, fin⟩) hs
theorem ix_tup : IxR X (rIxT X.K) := by
 intro value slice pins s σ H x y v u Q I rx ry h hs
 obtain ⟨p, xs, i, z, rfl, rfl, hq, he, q⟩ := h
 cases rx
 obtain ⟨t, rfl⟩ := ry
 obtain ⟨its, r, pl, hz⟩ := I.tuple hq
 obtain ⟨j, h1, h2, h3, h4, h5⟩ := atI_get he
 obtain ⟨w, ew, rw'⟩ := r.get h2
 have hl := r.length
 have hn := line63
 have fin : EP X pins σ Q w s := ⟨z, H, I, rw', q⟩
 exact subscriptTail_builtinR (x := w) pl.typeIs slot_tuple_getitem.lookup
  (getItem_tuple (j := j) (Q := fun r s' => r = w ∧ EP X pins σ Q r s') pl (by omega) (by omega) (by rw [List.size_toArray, ← hl]; exact h1) (by simpa using ew) ⟨rfl, fin⟩) hs
theorem ix_str : IxR X rIxS := by
 intro value slice pins s σ H x y v u Q I rx ry h hs
 obtain ⟨z, i, c, rfl, rfl, hz, he, q⟩ := h
 obtain ⟨t, rfl⟩ := rx
 obtain ⟨t', rfl⟩ := ry
 obtain ⟨j, h1, h2, h3, h4, h5⟩ := atI_get he
 have hl : z.cps.toList.length = z.length := by simp [Str.length]
 rw [hl] at h1 h4 h5
 have hn := line63
 exact tail_any (typeIs_str s z t) slot_str_getitem.lookup (getItem_str (c := c) (by
  have e1 : decide (i < -(2 ^ 63 : Int)) = false := decide_eq_false (by omega)
  have e2 : decide (i ≥ 2 ^ 63) = false := decide_eq_false (by omega)
  rw [e1, e2, Bool.or_false]) (by rw [h1]; simpa using h2) ⟨.str ⟨#[c]⟩, H, I.tok _, ⟨_, rfl⟩, q⟩) hs
noncomputable def rIx (K : PySem.W.Frag) : R2 := fun x y H Q => rIxL K x y H Q ∨ rIxT K x y H Q ∨ rIxS x y H Q
theorem ix_seq : IxR X (rIx X.K) := ix_list.or (ix_tup.or ix_str)
theorem mapSeq_set (its : List Value) (n j : Nat) (u : Value) : Obj.mapSeq (·.setIfInBounds j u) { cls := .type "list", data := .seq its.toArray n } = { cls := .type "list", data := .seq (its.set j u).toArray n } := by
 simp [Obj.mapSeq]
theorem Inv.lst {pins : List (Addr × Obj)} {σ : St} {H : Hp} {s : Shared} {p : Addr} {xs : List V} (I : Inv X pins σ H s) (h : H p = some (.lst xs)) :
  ∃ (its : List Value) (n : Nat), Vals xs its ∧ s.heap.get? p = some { cls := .type "list", data := .seq its.toArray n } ∧ xs.length ≤ sizeLine := by
 obtain ⟨z, its, n, r, e⟩ := I.hok p _ h
 exact ⟨its, n, r, e, z⟩
theorem Inv.lstUpd {pins : List (Addr × Obj)} {σ : St} {H : Hp} {s : Shared} {p : Addr} {xs ys : List V} {its its' : List Value} {n n' : Nat} {f : Obj → Obj} (I : Inv X pins σ H s) (h : H p = some (.lst xs))
  (ho : s.heap.get? p = some { cls := .type "list", data := .seq its.toArray n }) (hf : f { cls := .type "list", data := .seq its.toArray n } = { cls := .type "list", data := .seq its'.toArray n' }) (r : Vals ys its') (hz : ys.length ≤ sizeLine) (t : Nat) :
  Inv X pins σ (upd H p (.lst ys)) { s with heap := s.heap.update p f, toks := t } := by
 have e : (s.heap.update p f).get? p = some { cls := .type "list", data := .seq its'.toArray n' } := by
  rw [Heap.get?_update_self f ho (by rw [hf] <;> rfl), hf]
 refine I.write (x := p) (e := p) (by rw [h]; trivial) (.inl rfl) (fun b u hb q => (Heap.get?_update_other _ _ (Ne.symm hb)).trans q) ⟨_, e⟩ ?_
 exact ⟨hz, its', n', r, e⟩
noncomputable def rSetL : V → V → V → Hp → (Hp → Prop) → Prop := fun o i v H Q => ∃ p xs k j, o = .ref p ∧ i = .int k ∧ H p = some (.lst xs) ∧ ixN xs.length k = some j ∧ Q (upd H p (.lst (xs.set j v)))
theorem set_list : PSet X rSetL := by
 intro pins s σ H o i v ov iv u Q I ro ri rv h
 obtain ⟨p, xs, k, j, rfl, rfl, hp, hj, q⟩ := h
 cases ro
 obtain ⟨t, rfl⟩ := ri
 obtain ⟨its, n, r, ho, hz⟩ := I.lst hp
 obtain ⟨h1, h2, h3, h4⟩ := ixN_seq hj
 have hl := r.length
 have hn := line63
 have I' : Inv X pins σ (upd H p (.lst (xs.set j v))) { s with heap := s.heap.update p (Obj.mapSeq (·.setIfInBounds j u)) } :=
  I.lstUpd hp ho (mapSeq_set its n j u) (r.set rv j) (by rw [List.length_set]; exact hz) s.toks
 by_cases h0 : 0 ≤ k
 · have hk : k.toNat = j := by
    rw [seqIndex_of h0 h4] at h1
    exact Option.some.inj h1
   exact PySem.W.ki_setAt ho h0 (by omega) (by rw [List.size_toArray, ← hl]; exact h4) (by rw [hk]; exact ⟨_, I', q⟩)
 · have hk : (k + (its.toArray.size : Int)).toNat = j := by
    rw [seqIndex_neg (by omega) h3] at h1
    rw [List.size_toArray, ← hl]
    exact Option.some.inj h1
   exact PySem.W.ki_setBack ho (by omega) (by rw [List.size_toArray, ← hl]; exact h3) (by omega) (by rw [hk]; exact ⟨_, I', q⟩)
theorem slice_bounds (lo hi : Option Int) (n : Nat) : (sliceBounds lo hi none n).1 = ((HT.sIx n 0 lo : Nat) : Int) ∧ (sliceBounds lo hi none n).2.1 = ((HT.sIx n n hi : Nat) : Int) ∧ (sliceBounds lo hi none n).2.2 = 1 := by
 refine ⟨?_, ?_, rfl⟩
 · cases lo with
   | none => simp [sliceBounds, HT.sIx]
   | some i =>
     simp only [sliceBounds, HT.sIx, Option.getD_none, show (1 : Int) > 0 by decide, if_true]
     by_cases h : i < 0
     · simp only [h, if_true] <;> omega
     · simp only [h, if_false] <;> omega
 · cases hi with
   | none => simp [sliceBounds, HT.sIx]
   | some i =>
     simp only [sliceBounds, HT.sIx, Option.getD_none, show (1 : Int) > 0 by decide, if_true]
     by_cases h : i < 0
     · simp only [h, if_true] <;> omega
     · simp only [h, if_false] <;> omega
theorem slicePick_cut (its : List Value) (lo hi : Option Int) : slicePick its.toArray lo hi none = ((its.drop (HT.sIx its.length 0 lo)).take (HT.sIx its.length its.length hi - HT.sIx its.length 0 lo)).toArray := by
 obtain ⟨h1, h2, h3⟩ := slice_bounds lo hi its.toArray.size
 unfold slicePick
 rw [h1, h2, h3]
 simp only [sliceRange_one, pick_run, List.size_toArray] <;> rfl
noncomputable def rSlL (K : PySem.W.Frag) : V → Option Int → Option Int → Hp → VK → Prop := fun x lo hi H Q => ∃ a xs, x = .ref a ∧ SqL K H a xs ∧ ∀ p, H p = none → Q (.ref p) (upd H p (.lst (cutV xs lo hi)))
theorem sl_list : SlR X (rSlL X.K) := by
 intro pins s σ H x v vl vu lo hi sl Q I rx hs pl pu h
 obtain ⟨a, xs, rfl, hx, q⟩ := h
 cases rx
 obtain ⟨its, r, ht, hz⟩ := I.list hx
 have hlen := r.length
 refine ⟨"list", _, slot_list_getitem.lookup, ht.isList.typeIs, ?_⟩
 refine wpAny_getItem_list_slice ht.isList hs pl pu .none (by simp) ?_ (by rw [List.size_toArray] <;> omega)
 rw [slicePick_cut, ← hlen]
 refine ⟨.ref s.heap.objs.size, _, I.laid (t' := s.toks) (o := .lst (cutV xs lo hi)) (fun b ob q => Heap.get?_push_of_some _ q) (Nat.le_refl _) ?_, rfl, q _ (I.hok.fresh (Nat.le_refl _))⟩
 exact ⟨Nat.le_trans (cutV_length xs lo hi) hz, _, 0, (r.drop (HT.sIx xs.length 0 lo)).take (HT.sIx xs.length xs.length hi - HT.sIx xs.length 0 lo), Heap.get?_push_size _ rfl⟩
noncomputable def flatV : V → Bool
 | .non => true
 | .bl _ => true
 | .int _ => true
 | .str _ => true
 | _ => false
noncomputable def eqV : V → V → Bool
 | .non, .non => true
 | .bl a, .bl b => a == b
 | .bl a, .int b => (if a then 1 else 0) == b
 | .int a, .bl b => a == (if b then 1 else 0)
 | .int a, .int b => a == b
 | .str a, .str b => a == b
 | _, _ => false
theorem eqAt_V {A : Around} {s : Shared} {y x : V} {u v : Value} (ry : RelV y u) (rx : RelV x v) (fy : flatV y = true) (fx : flatV x = true) : SeqAt.EqAt A s u v (eqV y x) := by
 cases y with
 | non =>
   cases ry
   cases x with
   | non => cases rx; exact SeqAt.EqAt.same _
   | bl b => cases rx; exact SeqAt.EqAt.none_bool b
   | int b => obtain ⟨t, rfl⟩ := rx; exact SeqAt.EqAt.none_int b t
   | str b => obtain ⟨t, rfl⟩ := rx; exact SeqAt.EqAt.none_str b t
   | _ => exact absurd (show false = true from fx) Bool.false_ne_true
 | bl a =>
   cases ry
   cases x with
   | non => cases rx; exact SeqAt.EqAt.bool_none a
   | bl b => cases rx; exact SeqAt.EqAt.bool_bool a b
   | int b => obtain ⟨t, rfl⟩ := rx; exact SeqAt.EqAt.bool_int a b t
   | str b => obtain ⟨t, rfl⟩ := rx; exact SeqAt.EqAt.bool_str a b t
   | _ => exact absurd (show false = true from fx) Bool.false_ne_true
 | int a =>
   obtain ⟨t', rfl⟩ := ry
   cases x with
   | non => cases rx; exact SeqAt.EqAt.int_none a t'
   | bl b => cases rx; exact SeqAt.EqAt.int_bool a t' b
   | int b => obtain ⟨t, rfl⟩ := rx; exact SeqAt.EqAt.int_int a t' b t
   | str b => obtain ⟨t, rfl⟩ := rx; exact SeqAt.EqAt.int_str a t' b t
   | _ => exact absurd (show false = true from fx) Bool.false_ne_true
 | str a =>
   obtain ⟨t', rfl⟩ := ry
   cases x with
   | non => cases rx; exact SeqAt.EqAt.str_none a t'
   | bl b => cases rx; exact SeqAt.EqAt.str_bool a t' b
   | int b => obtain ⟨t, rfl⟩ := rx; exact SeqAt.EqAt.str_int a t' b t
   | str b => obtain ⟨t, rfl⟩ := rx; exact SeqAt.EqAt.str_str a t' b t
   | _ => exact absurd (show false = true from fx) Bool.false_ne_true
 | _ => exact absurd (show false = true from fy) Bool.false_ne_true
noncomputable def eqU (x : V) (u : Value) : Bool := match u with
 | .none => eqV .non x
 | .bool b => eqV (.bl b) x
 | .int i _ => eqV (.int i) x
 | .str z _ => eqV (.str z) x
 | _ => false
theorem eqU_of {x y : V} {u : Value} (r : RelV y u) (f : flatV y = true) : eqU x u = eqV y x := by
 cases y with
 | non => cases r; rfl
 | bl b => cases r; rfl
 | int i => obtain ⟨t, rfl⟩ := r; rfl
 | str z => obtain ⟨t, rfl⟩ := r; rfl
 | _ => exact absurd (show false = true from f) Bool.false_ne_true
theorem any_eqU {x : V} : ∀ {xs : List V} {us : List Value}, Vals xs us → xs.all flatV = true → us.any (eqU x) = xs.any fun y => eqV y x
 | _, _, .nil, _ => rfl
 | y :: xs, u :: us, .cons r t, f => by
   rw [List.all_cons, Bool.and_eq_true] at f
   rw [List.any_cons, List.any_cons, eqU_of r f.1, any_eqU t f.2]
theorem mem_eqAt {A : Around} {s : Shared} {x : V} {v : Value} (rx : RelV x v) (fx : flatV x = true) : ∀ {xs : List V} {us : List Value}, Vals xs us → xs.all flatV = true → ∀ u ∈ us, SeqAt.EqAt A s u v (eqU x u)
 | _, _, .nil, _ => fun u hu => by cases hu
 | y :: xs, u :: us, .cons r t, f => fun u' hu => by
   rw [List.all_cons, Bool.and_eq_true] at f
   rcases List.mem_cons.mp hu with rfl | hu
   · rw [eqU_of r f.1]; exact eqAt_V r rx f.1 fx
   · exact mem_eqAt rx fx t f.2 u' hu
noncomputable def inV (x : V) (xs : List V) : Bool := xs.any fun y => eqV y x
noncomputable def rIn (K : PySem.W.Frag) (neg : Bool) : R2 := fun x y H Q => ∃ p xs, y = .ref p ∧ (SqL K H p xs ∨ SqT K H p xs) ∧ flatV x = true ∧ xs.all flatV = true ∧ Q (.bl (if neg then !inV x xs else inV x xs)) H
theorem op_in_seq : OpR X (compareOp .In) (rIn X.K false) := by
 intro pins s σ H x y v u Q I rx ry h
 obtain ⟨p, xs, rfl, hq, fx, fs, q⟩ := h
 cases ry
 rcases hq with hq | hq
 · obtain ⟨its, r, pl, hz⟩ := I.list hq
   refine SeqAt.in_listAt (eqU x) pl.isList (fun w hw => mem_eqAt rx fx r fs w (by simpa using hw)) ⟨.bl _, H, I, rfl, ?_⟩
   rw [show its.toArray.any (eqU x) = its.any (eqU x) by simp, any_eqU r fs]
   exact q
 · obtain ⟨its, r, pl, hz⟩ := I.tuple hq
   refine SeqAt.in_tupleAt (eqU x) pl (fun w hw => mem_eqAt rx fx r fs w (by simpa using hw)) ⟨.bl _, H, I, rfl, ?_⟩
   rw [show its.toArray.any (eqU x) = its.any (eqU x) by simp, any_eqU r fs]
   exact q
theorem call_len_seq : CallR X (.builtin "len") (fun xs H Q => ∃ p ys, xs = [.ref p] ∧ (SqL X.K H p ys ∨ SqT X.K H p ys) ∧ Q (.int ys.length) H) := by
 intro pins s σ H xs us Q I r h
 obtain ⟨p, ys, rfl, hq, q⟩ := h
 obtain ⟨u, rfl, rx⟩ := vals1 r
 cases rx
 have hn := line63
 rcases hq with hq | hq
 · obtain ⟨its, r', pl, hz⟩ := I.list hq
   have hlen := r'.length
   exact Calls.call_len_list pl.isList (by simp only [List.size_toArray] <;> omega) ⟨.int ys.length, H, I.tok _, ⟨s.toks + 1, by rw [List.size_toArray, hlen]⟩, q⟩
 · obtain ⟨its, r', pl, hz⟩ := I.tuple hq
   have hlen := r'.length
   exact len_tuple pl (by simp only [List.size_toArray] <;> omega) ⟨.int ys.length, H, I.tok _, ⟨s.toks + 1, by rw [List.size_toArray, hlen]⟩, q⟩
theorem call_len_str : CallR X (.builtin "len") (fun xs H Q => ∃ z, xs = [.str z] ∧ z.length ≤ sizeLine ∧ Q (.int z.length) H) := by
 intro pins s σ H xs us Q I r h
 obtain ⟨z, rfl, hz, q⟩ := h
 obtain ⟨u, rfl, t, rfl⟩ := vals1 r
 have hn := line63
 exact len_str (by omega) ⟨.int z.length, H, I.tok _, ⟨_, rfl⟩, q⟩
theorem CallR.or {f : Value} {r r' : List V → Hp → VK → Prop} (h : CallR X f r) (h' : CallR X f r') : CallR X f (fun xs H Q => r xs H Q ∨ r' xs H Q) := by
 intro pins s σ H xs us Q I rs q
 rcases q with q | q
 · exact h pins s σ H xs us Q I rs q
 · exact h' pins s σ H xs us Q I rs q
theorem call_list_of : CallR X (.type "list") (fun xs H Q => ∃ p ys, xs = [.ref p] ∧ (SqL X.K H p ys ∨ SqT X.K H p ys) ∧ ∀ l, H l = none → Q (.ref l) (upd H l (.lst ys))) := by
 intro pins s σ H xs us Q I r h
 obtain ⟨p, ys, rfl, hq, q⟩ := h
 obtain ⟨u, rfl, rx⟩ := vals1 r
 cases rx
 have fin : ∀ (its : List Value), Vals ys its → ys.length ≤ sizeLine → ∀ (h' : Heap) (c' : Nat), (∀ b o', s.heap.get? b = some o' → h'.get? b = some o') →
   h'.get? s.heap.objs.size = some { cls := .type "list", dict := none, data := .seq its.toArray c', slots := #[] } → EP X pins σ Q (.ref s.heap.objs.size) { s with heap := h' } := fun its r' hz h' c' kp e =>
  ⟨.ref s.heap.objs.size, _, I.laid (t' := s.toks) kp (Nat.le_refl _) (show ObjOk X.prog X.w _ h' _ (.lst ys) from ⟨hz, its, c', r', e⟩), rfl, q _ (I.hok.fresh (Nat.le_refl _))⟩
 rcases hq with hq | hq
 · obtain ⟨its, r', pl, hz⟩ := I.list hq
   have hlen := r'.length
   obtain ⟨o, ho, hc, n, hd⟩ := pl.isList
   exact call_list_seq p (.inl rfl) ho hc hd (fun h' c' kp e => fin its r' hz h' c' kp e) (by simp only [List.size_toArray] <;> omega)
 · obtain ⟨its, r', pl, hz⟩ := I.tuple hq
   have hlen := r'.length
   obtain ⟨o, ho, hc, n, hd⟩ := pl
   exact call_list_seq p (.inr rfl) ho hc hd (fun h' c' kp e => fin its r' hz h' c' kp e) (by simp only [List.size_toArray] <;> omega)
noncomputable def tyV (K : PySem.W.Frag) (T : String) (x : V) (H : Hp) : Prop := match x with
 | .str _ => T = "str"
 | .int _ => T = "int"
 | .ref p => (T = "list" ∧ ∃ xs, SqL K H p xs) ∨ (T = "tuple" ∧ ∃ o, K.lookup p = some o ∧ o.cls = .type "tuple" ∧ o.dict = none) ∨
    (T = "dict" ∧ ((∃ kvs, H p = some (.dK kvs)) ∨ ∃ kvs, H p = some (.dT kvs))) ∨ (T = "set" ∧ ∃ S n, H p = some (.set S n))
 | _ => False
theorem tyV_is {pins : List (Addr × Obj)} {σ : St} {H : Hp} {s : Shared} {T : String} {x : V} {v : Value} (I : Inv X pins σ H s) (r : RelV x v) (ty : tyV X.K T x H) :
  s.TypeIs v T ∧ ∀ a, v = .ref a → ∃ ob, s.heap.get? a = some ob ∧ ob.dict = none := by
 cases x with
 | str z =>
   obtain ⟨t, rfl⟩ := r
   cases (show T = "str" from ty)
   exact ⟨typeIs_str s z t, fun _ e => nomatch e⟩
 | int i =>
   obtain ⟨t, rfl⟩ := r
   cases (show T = "int" from ty)
   exact ⟨typeIs_int s i t, fun _ e => nomatch e⟩
 | ref p =>
   cases r
   rcases ty with ⟨rfl, xs, hq⟩ | ⟨rfl, o, hk, hc, hd⟩ | ⟨rfl, hk⟩ | ⟨rfl, S, n, hk⟩
   · obtain ⟨its, _, pl, _⟩ := I.list hq
     refine ⟨pl.isList.typeIs, fun a e => ?_⟩
     cases e
     obtain ⟨o, n, e, c, hd, _⟩ := pl
     exact ⟨o, e, hd⟩
   · refine ⟨⟨o, I.kIn p o hk, hc⟩, fun a e => ?_⟩
     cases e
     exact ⟨o, I.kIn _ o hk, hd⟩
   · have z : ∃ o, s.heap.get? p = some o ∧ o.ExactDict := by
      rcases hk with ⟨kvs, hk⟩ | ⟨kvs, hk⟩
      · obtain ⟨_, _, _, _, o, _, _, e, ex, _⟩ := I.hok p _ hk
        exact ⟨o, e, ex⟩
      · obtain ⟨_, _, _, _, o, _, _, e, ex, _⟩ := I.hok p _ hk
        exact ⟨o, e, ex⟩
     obtain ⟨o, e, ex⟩ := z
     refine ⟨⟨o, e, ex.1⟩, fun a e2 => ?_⟩
     cases e2
     exact ⟨o, e, ex.2.1⟩
   · obtain ⟨o, _, _, _, e, ex, _⟩ := I.hok p _ hk
     refine ⟨⟨o, e, ex.1⟩, fun a e2 => ?_⟩
     cases e2
     exact ⟨o, e, ex.2.1⟩
 | _ => exact False.elim ty
noncomputable def tBM (K : PySem.W.Frag) (T : String) (r : V → List V → Hp → VK → Prop) (to : TE) (t : TA) : TE := fun σ H Q => to σ H fun x H1 => tyV K T x H1 ∧ t σ H1 fun xs H2 => r x xs H2 Q
variable {o e : Expr} {es : List Expr} {to : TE} {t : TA} {name : Str} {apos cpos : Pos} {T id : String} {r : V → List V → Hp → VK → Prop}
theorem pe_bm (pa : PlainAttrs T) (slot : Slot T name id) (hty : typeOf (.builtin id) = pure (.type "method_descriptor")) (hm : MtR X id r) (ho : PE X o to) (ha : PA X (e :: es) t)
  (hbase : attributeBase o name X.env (eval o X.env) = eval o X.env := by rfl)
  (hfew : ((backTo cpos (starEach (e :: es) X.env)).all (fun x => !x.1) && (backToKw cpos (keywordEach [] X.env)).all (fun x => x.1.isSome)
    && decide ((e :: es).length + ([] : List Keyword).length + (if ([] : List Keyword).isEmpty then 0 else 1) < 30)) = true := by rfl)
  (hline : (apos.endLine == cpos.line) = true := by rfl) (hs : starEach (e :: es) X.env = (false, eval e X.env) :: starEach es X.env := by rfl) (hplain : (backTo cpos (starEach es X.env)).any (·.1) = false := by rfl) :
  PE X (.Call (.Attribute o name apos) (e :: es) [] cpos) (tBM X.K T r to t) := by
 intro pins s σ H Q I h
 refine wpAny_Call_method_late hbase hfew hline rfl (thn (ho pins s σ H _ I h) fun v s1 ⟨x, H1, I1, r1, ty, q1⟩ => ?_)
 obtain ⟨h1, h2⟩ := tyV_is I1 r1 ty
 refine ⟨T, id, pa, slot, hty, h1, h2, ?_⟩
 have hA := ha cpos pins s1 σ H1 _ I1 q1
 rw [hs] at hA ⊢
 refine Calls.callWith_builtin (by show (false || (backTo cpos (starEach es X.env)).any (·.1)) = false; rw [hplain] <;> rfl) (Calls.evalArgs_plain ?_)
 exact thn hA fun us s2 ⟨vs, H2, I2, r2, q2⟩ => hm pins s2 σ H2 x vs v us Q I2 r1 r2 q2
/- xs.append(e), list.index on a module's tuple .. are MtR facts of 06m -/
end
noncomputable def MtM (X : Cx) (id : String) (r : V → List V → Hp → VK → Prop) : Prop :=
 ∀ (pins : List (Addr × Obj)) (s : Shared) (σ : St) (H : Hp) (x : V) (xs : List V) (v : Value) (us : List Value) (Q : VK), Inv X pins σ H s → RelV x v → Vals xs us → r x xs H Q →
  wpAny (model X.prog X.w) X.A (call (.builtin id) (v :: us)) (EP X pins σ Q) X.xe s
theorem Vals.one : ∀ {x : V} {us : List Value}, Vals [x] us → ∃ u, us = [u] ∧ RelV x u
 | _, _, .cons r .nil => ⟨_, rfl, r⟩
theorem Vals.reverse {xs : List V} {us : List Value} (h : Vals xs us) : Vals xs.reverse us.reverse := by
 induction h with
 | nil => exact .nil
 | cons r t ih => rw [List.reverse_cons, List.reverse_cons]; exact Vals.append ih (.cons r .nil)
section
variable {X : Cx} {pins : List (Addr × Obj)} {σ : St} {H : Hp} {s : Shared} {l b : Addr} {xs ys zs : List V}
theorem Inv.lset {its its' : List Value} {n : Nat} {f : Array Value → Array Value} {t' : Nat} (I : Inv X pins σ H s) (hH : H l = some (.lst xs))
  (e : s.heap.get? l = some { cls := .type "list", data := .seq its.toArray n }) (hf : f its.toArray = its'.toArray) (hv : Vals ys its') (hz : ys.length ≤ sizeLine) :
  Inv X pins σ (upd H l (.lst ys)) { s with heap := s.heap.update l (Obj.mapSeq f), toks := t' } := by
 have q := PySem.IsL.update e f
 rw [hf] at q
 refine I.write (x := l) (e := l) (by rw [hH]; exact trivial) (.inl rfl) (fun b' u hb hu => (Heap.get?_update_other s.heap (Obj.mapSeq f) (Ne.symm hb)).trans hu) ⟨_, q⟩ ?_
 exact ⟨hz, its', _, hv, q⟩
theorem Inv.lnew {its : List Value} {t' : Nat} (I : Inv X pins σ H s) (hv : Vals ys its) (hz : ys.length ≤ sizeLine) :
  Inv X pins σ (upd H s.heap.objs.size (.lst ys)) { s with heap := s.heap.push { cls := .type "list", data := .seq its.toArray }, toks := t' } :=
 I.laid (fun _ _ q => Heap.get?_push_of_some _ q) (Nat.le_refl _) ⟨hz, its, 0, hv, Heap.get?_push_size _ rfl⟩
theorem Inv.fresh (I : Inv X pins σ H s) : H s.heap.objs.size = none := I.hok.fresh (Nat.le_refl _)
theorem Inv.lstM (I : Inv X pins σ H s) (hH : H l = some (.lst xs)) : xs.length ≤ sizeLine ∧ ∃ (its : List Value) (n : Nat), Vals xs its ∧ xs.length = its.length ∧ s.heap.get? l = some { cls := .type "list", data := .seq its.toArray n } := by
 obtain ⟨z, its, n, r, e⟩ := I.hok l _ hH
 exact ⟨z, its, n, r, r.length, e⟩
theorem notLongL {n : Nat} (h : n ≤ sizeLine) : Builtin.List.listTooLong n = false := by
 unfold Builtin.List.listTooLong
 exact decide_eq_false (by omega)
end
section
variable {X : Cx}
noncomputable def rAppend : V → List V → Hp → VK → Prop := fun x vs H Q => ∃ l xs y, x = .ref l ∧ vs = [y] ∧ H l = some (.lst xs) ∧ xs.length < sizeLine ∧ Q .non (upd H l (.lst (xs ++ [y])))
theorem mt_append : MtM X "list.append" rAppend := by
 intro pins s σ H x vs v us Q I rx rv h
 obtain ⟨l, xs, y, rfl, rfl, hH, hz, q⟩ := h
 cases rx
 obtain ⟨u, rfl, ru⟩ := rv.one
 obtain ⟨z, its, n, r, hl, e⟩ := I.lstM hH
 refine call_meets F.slot_list_append ⟨_, e, rfl⟩ F.entry_list_append (F.args_list_append_2 _ _) (PySem.list_append l its.toArray n u (by rw [List.size_toArray]; omega)) ⟨e, ?_⟩
 refine ⟨.non, _, I.lset (its' := its ++ [u]) hH e (by simp) (r.append (.cons ru .nil)) ?_, rfl, q⟩
 rw [List.length_append, List.length_singleton]
 omega
noncomputable def rExtend : V → List V → Hp → VK → Prop := fun x vs H Q => ∃ l b xs zs, x = .ref l ∧ vs = [.ref b] ∧ H l = some (.lst xs) ∧ H b = some (.lst zs) ∧ xs.length + zs.length ≤ sizeLine ∧ Q .non (upd H l (.lst (xs ++ zs)))
theorem mt_extend : MtM X "list.extend" rExtend := by
 intro pins s σ H x vs v us Q I rx rv h
 obtain ⟨l, b, xs, zs, rfl, rfl, hH, hB, hz, q⟩ := h
 cases rx
 obtain ⟨u, rfl, ru⟩ := rv.one
 cases ru
 obtain ⟨z, its, n, r, hl, e⟩ := I.lstM hH
 obtain ⟨z2, its2, n2, r2, hl2, e2⟩ := I.lstM hB
 have hsz : its.toArray.size + its2.toArray.size ≤ sizeLine := by rw [List.size_toArray, List.size_toArray]; omega
 have hlong : ¬ (!its.toArray.isEmpty && Builtin.List.listTooLong (its.toArray.size + its2.toArray.size)) = true := by
  rw [notLongL hsz, Bool.and_false]
  exact Bool.false_ne_true
 refine call_meets F.slot_list_extend ⟨_, e, rfl⟩ F.entry_list_extend (F.args_list_extend_2 _ _)
  (AutoSeq1.list_extend_list_list_0 l its.toArray n b its2.toArray n2 hlong (by rw [List.size_toArray]; omega) (by omega)) ⟨e, e2, ?_⟩
 refine ⟨.non, _, I.lset (its' := its ++ its2) hH e (by simp) (r.append r2) ?_, rfl, q⟩
 rw [List.length_append]
 omega
end
section
variable {prog : Program} {w : World} {A : Around} {E : Value → Shared → Prop} {s : Shared}
end
section
variable {X : Cx}
end
section
variable {κ : Type} [DecidableEq κ]
noncomputable def valV (kvs : List (κ × V)) (k : κ) : Option V := (kvs.find? fun kv => decide (kv.1 = k)).map (·.2)
noncomputable def putK (kvs : List (κ × V)) (k : κ) (v : V) : List (κ × V) :=
 if (kvs.any fun kv => decide (kv.1 = k)) = true then kvs.map (fun kv => if kv.1 = k then (kv.1, v) else kv) else kvs ++ [(k, v)]
theorem valV_pos {p : κ × V} {r : List (κ × V)} {k : κ} (e : p.1 = k) : valV (p :: r) k = some p.2 := by simp [valV, List.find?_cons, e]
theorem valV_neg {p : κ × V} {r : List (κ × V)} {k : κ} (e : ¬ p.1 = k) : valV (p :: r) k = valV r k := by simp [valV, List.find?_cons, e]
theorem valV_any (k : κ) : ∀ kvs : List (κ × V), (kvs.any fun kv => decide (kv.1 = k)) = (valV kvs k).isSome
 | [] => rfl
 | p :: r => by
   rw [List.any_cons]
   by_cases e : p.1 = k
   · simp only [valV_pos e, decide_eq_true e, Bool.true_or, Option.isSome_some]
   · rw [valV_neg e, decide_eq_false e, Bool.false_or]; exact valV_any k r
theorem RelO.isSome_eq {o : Option V} {u : Option Value} (r : RelO o u) : o.isSome = u.isSome := by
 cases o with
 | none => cases u with
   | none => rfl
   | some _ => exact (show False from r).elim
 | some _ => cases u with
   | none => exact (show False from r).elim
   | some _ => rfl
theorem RelO.getD {o : Option V} {u : Option Value} {d : V} {d' : Value} (r : RelO o u) (rd : RelV d d') : RelV (o.getD d) (u.getD d') := by
 cases o with
 | none => cases u with
   | none => exact rd
   | some _ => exact (show False from r).elim
 | some _ => cases u with
   | none => exact (show False from r).elim
   | some _ => exact r
theorem KV.val {kvs : List (κ × V)} {vs : List (κ × Value)} (r : KV kvs vs) (k : κ) : RelO (valV kvs k) (valueAt vs k) := by
 unfold KV at r
 induction r with
 | nil => exact True.intro
 | @cons p q ps qs h t ih =>
   obtain ⟨h1, h2⟩ := h
   by_cases e : p.1 = k
   · have e' : q.1 = k := h1.symm.trans e
     have b : valueAt (q :: qs) k = some q.2 := by simp [valueAt, List.find?_cons, e']
     rw [valV_pos e, b]; exact h2
   · have e' : ¬ q.1 = k := fun z => e (h1.trans z)
     have b : valueAt (q :: qs) k = valueAt qs k := by simp [valueAt, List.find?_cons, e']
     rw [valV_neg e, b]; exact ih
theorem KV.any {kvs : List (κ × V)} {vs : List (κ × Value)} (r : KV kvs vs) (k : κ) : (kvs.any fun kv => decide (kv.1 = k)) = vs.any fun kv => decide (kv.1 = k) := by
 unfold KV at r
 induction r with
 | nil => rfl
 | cons h t ih => rw [List.any_cons, List.any_cons, ih, h.1]
theorem KV.repl {kvs : List (κ × V)} {vs : List (κ × Value)} (r : KV kvs vs) (k : κ) {y : V} {u : Value} (ry : RelV y u) :
  KV (kvs.map fun kv => if kv.1 = k then (kv.1, y) else kv) (vs.map fun kv => if kv.1 = k then (kv.1, u) else kv) := by
 unfold KV at r ⊢
 induction r with
 | nil => exact .nil
 | @cons p q ps qs h t ih =>
   rw [List.map_cons, List.map_cons]
   refine .cons ?_ ih
   obtain ⟨h1, h2⟩ := h
   by_cases e : p.1 = k
   · rw [if_pos e, if_pos (h1.symm.trans e)]; exact ⟨h1, ry⟩
   · rw [if_neg e, if_neg (fun z => e (h1.trans z))]; exact ⟨h1, h2⟩
theorem KV.put {kvs : List (κ × V)} {vs : List (κ × Value)} (r : KV kvs vs) (k : κ) {y : V} {u : Value} (ry : RelV y u) : KV (putK kvs k y) (stored vs k u) := by
 unfold putK stored
 rw [r.any k]
 by_cases e : (vs.any fun kv => decide (kv.1 = k)) = true
 · rw [if_pos e, if_pos e]; exact r.repl k ry
 · rw [if_neg e, if_neg e]; exact Paired.snoc r ⟨rfl, ry⟩
theorem KV.length {kvs : List (κ × V)} {vs : List (κ × Value)} (r : KV kvs vs) : kvs.length = vs.length := Paired.length r
end
abbrev KT (H : Hp) : List (List Key × V) → List (List Key × Addr × Value) → Prop := Paired fun p q => p.1 = q.1 ∧ H q.2.1 = some (.tup (p.1.map kV)) ∧ RelV p.2 q.2.2
theorem KT.val {H : Hp} {kvs : List (List Key × V)} {xs : List (List Key × Addr × Value)} (r : KT H kvs xs) (k : List Key) : RelO (valV kvs k) ((atKey xs k).map (·.2)) := by
 induction r with
 | nil => exact True.intro
 | @cons p q ps qs h t ih =>
   obtain ⟨h1, _, h2⟩ := h
   by_cases e : p.1 = k
   · have e' : q.1 = k := h1.symm.trans e
     have b : atKey (q :: qs) k = some q.2 := by simp [atKey, List.find?_cons, e']
     rw [valV_pos e, b]; exact h2
   · have e' : ¬ q.1 = k := fun z => e (h1.trans z)
     have b : atKey (q :: qs) k = atKey qs k := by simp [atKey, List.find?_cons, e']
     rw [valV_neg e, b]; exact ih
theorem KT.repl {H : Hp} {kvs : List (List Key × V)} {xs : List (List Key × Addr × Value)} (r : KT H kvs xs) (k : List Key) {y : V} {u : Value} (ry : RelV y u) :
  KT H (kvs.map fun kv => if kv.1 = k then (kv.1, y) else kv) (xs.map (putAt k u)) := by
 induction r with
 | nil => exact .nil
 | @cons p q ps qs h t ih =>
   rw [List.map_cons, List.map_cons]
   refine .cons ?_ ih
   obtain ⟨h1, h2, h3⟩ := h
   unfold putAt
   by_cases e : p.1 = k
   · rw [if_pos e, if_pos (h1.symm.trans e)]; exact ⟨h1, h2, ry⟩
   · rw [if_neg e, if_neg (fun z => e (h1.trans z))]; exact ⟨h1, h2, h3⟩
theorem KT.put {H : Hp} {kvs : List (List Key × V)} {xs : List (List Key × Addr × Value)} (r : KT H kvs xs) (k : List Key) {b : Addr} {y : V} {u : Value} (hb : H b = some (.tup (k.map kV))) (ry : RelV y u) :
  KT H (putK kvs k y) (storedH xs k b u) := by
 have e : (kvs.any fun kv => decide (kv.1 = k)) = (atKey xs k).isSome := by
  rw [valV_any, (r.val k).isSome_eq, Option.isSome_map]
 unfold putK storedH
 rw [e]
 by_cases q : (atKey xs k).isSome = true
 · rw [if_pos q, if_pos q]; exact r.repl k ry
 · rw [if_neg q, if_neg q]; exact Paired.snoc r ⟨rfl, hb, ry⟩
section
variable {P : Program} {w : World} {H : Hp} {h : Heap} {a : Addr}
end
noncomputable def DGet (H : Hp) (a : Addr) (y : V) (r : Option V) : Prop :=
 (∃ kvs k, Rd H a (.dK kvs) ∧ y = kV k ∧ r = valV kvs k) ∨ ∃ kvs k b, Rd H a (.dT kvs) ∧ y = .ref b ∧ H b = some (.tup (k.map kV)) ∧ r = valV kvs k
noncomputable def DPut (H : Hp) (a : Addr) (y v : V) (H' : Hp) : Prop :=
 (∃ kvs k, H a = some (.dK kvs) ∧ y = kV k ∧ kvs.length < sizeLine ∧ H' = upd H a (.dK (putK kvs k v))) ∨
 ∃ kvs k b, H a = some (.dT kvs) ∧ y = .ref b ∧ H b = some (.tup (k.map kV)) ∧ kvs.length < sizeLine ∧ H' = upd H a (.dT (putK kvs k v))
theorem DGet.t {H : Hp} {a b : Addr} {kvs : List (List Key × V)} {k : List Key} (e : H a = some (.dT kvs)) (eb : H b = some (.tup (k.map kV))) : DGet H a (.ref b) (valV kvs k) := .inr ⟨kvs, k, b, .inl e, rfl, eb, rfl⟩
theorem DPut.t {H : Hp} {a b : Addr} {kvs : List (List Key × V)} {k : List Key} {v : V} (e : H a = some (.dT kvs)) (eb : H b = some (.tup (k.map kV))) (hl : kvs.length < sizeLine) :
  DPut H a (.ref b) v (upd H a (.dT (putK kvs k v))) := .inr ⟨kvs, k, b, e, rfl, eb, hl, rfl⟩
section
variable {X : Cx} {pins : List (Addr × Obj)} {σ : St} {H : Hp} {s : Shared} {a : Addr} {y v : V} {u r : Value} {o : Option V} {A : Around} {E : Value → Shared → Prop}
end
section
variable {X : Cx} {pins : List (Addr × Obj)} {σ : St} {H : Hp} {s : Shared} {a : Addr} {kvs : List (Key × V)} {k : Key} {u : Value} {A : Around} {E : Value → Shared → Prop}
end
section
variable {X : Cx} {o i e value : Expr} {pos pos' tpos : Pos} {td ty tv : TE}
end
section
variable {X : Cx} {pos : Pos}
end
section
variable {X : Cx} {pins : List (Addr × Obj)} {σ : St} {H : Hp} {s : Shared} {a : Addr} {y d : V} {u r : Value} {o : Option V} {A : Around} {E : Value → Shared → Prop}
end
section
variable {X : Cx} {o e f : Expr} {apos cpos : Pos} {td ty tx : TE}
end
section
variable {X : Cx} {pins : List (Addr × Obj)} {σ : St} {H : Hp} {s : Shared} {a : Addr} {kvs : List (Key × V)} {A : Around} {E : Value → Shared → Prop}
end
section
variable {X : Cx} {pins : List (Addr × Obj)} {σ : St} {H : Hp} {s : Shared} {a : Addr} {y : V} {u : Value} {A : Around} {E : Value → Shared → Prop}
end
end L2
namespace Att
open PySem PySem.W PySem.Calls PyProof.Rows
theorem ints_of_wellAll {P : Params} {h : Heap} : ∀ (ns : List Int) (vs : List Value), WellAll P h vs (ns.map WData.int) → IntsAre vs ns := by
 intro ns
 induction ns with
 | nil =>
   intro vs w
   rw [List.map_nil] at w
   cases w
   exact .nil
 | cons n ns ih =>
   intro vs w
   rw [List.map_cons] at w
   cases w with
   | cons a b =>
     cases a
     exact .cons _ _ (ih _ b)
theorem script_of {l : OpenLaw} {n : Nat} (hn : l.most = some n) {P : Params} {h : Heap} {args : List WData} {vals : List Value}
  (hpre : l.row.toRowW.claim.pre args = true) (hwl : WellAll P h vals args) :
  ∃ a vs ns, vals = [Value.ref a] ∧ args = [WData.list (ns.map WData.int)] ∧ h.get? a = some { cls := .type "list", data := .seq vs.toArray } ∧ IntsAre vs ns ∧ ns.length ≤ n := by
 have hsh : WShape.hasAll [] args [.list .int] = true := (pre_splitW hpre).1
 have hc : l.pre.holds [] { args := args } = true := (pre_splitW hpre).2
 obtain ⟨d, r, rfl, h1, h2⟩ := hasAllW_cons hsh
 obtain rfl := hasAllW_nil h2
 obtain ⟨xs, rfl, h3⟩ := hasW_list h1
 obtain ⟨ns, rfl⟩ := items_int h3
 have hlen : ns.length ≤ n := by
  unfold OpenLaw.pre at hc
  have h4 : (WTm.not (.lt (.lit (.int (n : Int))) (.len (.arg 0)))).holds [] { args := [.list (ns.map .int)] } = true := by
   have h4 := (holds_andW hc).1
   rw [hn] at h4
   exact h4
  have h5 := condW_of h4 (w_not (w_lt w_lit (w_len_list (w_arg rfl))))
  rw [List.length_map] at h5
  refine Nat.le_of_not_lt fun q => ?_
  have q' : (n : Int) < ((ns.length : Nat) : Int) := by omega
  first
   | (rw [decide_eq_true q'] at h5; exact absurd h5 (by decide))
   | (simp at h5; omega)
 cases hwl with
 | cons w1 w2 =>
   cases w2
   cases w1 with
   | list ho hall => exact ⟨_, _, ns, rfl, rfl, ho, ints_of_wellAll ns _ hall, hlen⟩
theorem post_true (l : OpenLaw) (args : List WData) : l.row.toRowW.claim.post args (.bool true) args = true :=
 postW_of (r := l.row.toRowW) (X := (true == true))
  (show WShape.has [] (.bool true) .bool = true by first | rfl | decide | simp [WShape.has, WShape.arms, WShape.armsAll])
  (show (WTm.eq .res (.lit (.bool true))).value [] { args := args, res := some (.bool true), after := args } = some (.bool (true == true)) from w_eq_bool (w_res rfl) w_lit) rfl
section
variable {prog : Program} {w : World} {A : Around} {E : Value → Shared → Prop} {s : Shared} {K : Frag}
end
end Att
namespace L2
open PySem PySem.Spec PyProof.Rows
theorem vals_ints : ∀ {vs : List Value} {ns : List Int}, IntsAre vs ns → Vals (ns.map V.int) vs
 | _, _, .nil => .nil
 | _, _, .cons n t h => .cons ⟨t, rfl⟩ (vals_ints h)
noncomputable def defArgs (s : Stmt) : Arguments := match s with
 | .FunctionDef _ a _ _ _ _ _ _ _ _ => a
 | _ => { posonlyargs := [], args := [], vararg := none, kwonlyargs := [], kw_defaults := [], kwarg := none, defaults := [] }
noncomputable def defBody (s : Stmt) : List Stmt := match s with
 | .FunctionDef _ _ b _ _ _ _ _ _ _ => b
 | _ => []
noncomputable def defScope (s : Stmt) : Scope := match s with
 | .FunctionDef _ _ _ _ _ _ sc _ _ _ => sc
 | _ => { kind := .function, names := [], isGenerator := false, isCoroutine := false }
abbrev CX0 : CXT := fun _ _ _ _ _ _ => False
abbrev E0 : XK := fun _ _ _ => False
theorem pass0 {X : Cx} : Passes CX0 X E0 := fun _ _ _ _ _ _ _ h => h.elim
structure Fun (K : PySem.W.Frag) (x qual : Str) (st : Stmt) (f : Addr) (fd : FuncData) : Prop where
 ex : ∃ (oc : Value) (od : Option Addr) (kV doc pm : Value) (an : Option Addr) (cdv ct : Value) (osl : Array (Option Value)),
  fd = PySem.W.fnOf x qual (defArgs st) (defBody st) (defScope st) .none kV doc pm an cdv ct ∧ K.lookup f = some ⟨oc, od, .func fd, osl⟩ ∧ PySem.W.codeIn K cdv qual = true
 kp : PySem.W.keepIn K (.ref f) = true
section
variable {P : Program} {w : World} {K : PySem.W.Frag} {mg : Str → Option Value} {base : Heap}
theorem Fun.ok {x qual : Str} {st : Stmt} {f : Addr} {fd : FuncData} {N ps : List Str} {k : Nat} {sp : Sp} (F : Fun K x qual st f fd) (S : FnScope N ps (defScope st)) (len : ∀ vs H Q E, sp vs H Q E → vs.length = ps.length)
  (hbody : ∀ (cdv : Value) (A : Around) (outer : List Env) (s : Shared) (H : Hp) (vs : List V) (Q : VK) (E : XK), Room k (A.deeper (envOfC qual (defScope st) s.heap.objs.size f cdv)) → sp vs H Q E →
    ∃ t, PSs (cxOf CX0 P w K mg base N qual (defScope st) f cdv A outer s H E).nox (defBody st) t ∧ t { nx := fun _ H' => Q .non H', rt := Q } (start N vs) H) : FnOk P w K mg base CX0 (k + 1) f fd ps sp := by
 obtain ⟨oc, od, kV, doc, pm, an, cdv, ct, osl, rfl, lk, hcd⟩ := F.ex
 refine fn_of lk hcd S len fun A outer s H vs Q E hr hsp => ?_
 obtain ⟨t, h, q⟩ := hbody cdv A outer s H vs Q E hr hsp
 exact ⟨t, h.nox, q⟩
theorem Fun.binds {x qual : Str} {st : Stmt} {f : Addr} {fd : FuncData} {ps : List Str} (F : Fun K x qual st f fd)
  (h : ∀ (kV doc pm : Value) (an : Option Addr) (cdv ct : Value) (us : List Value), us.length = ps.length → bindArgs (PySem.W.fnOf x qual (defArgs st) (defBody st) (defScope st) .none kV doc pm an cdv ct) ⟨us, []⟩ = pure (ps.zip us)) : Binds K fd ps [] := by
 obtain ⟨oc, od, kV, doc, pm, an, cdv, ct, osl, rfl, lk, hcd⟩ := F.ex
 exact .all (h kV doc pm an cdv ct)
theorem fun_mk {x qual : Str} {st : Stmt} {f : Addr} {oc : Value} {od an : Option Addr} {osl : Array (Option Value)} {kV doc pm cdv ct : Value} (l : K.lookup f = some ⟨oc, od, .func (PySem.W.fnOf x qual (defArgs st) (defBody st) (defScope st) .none kV doc pm an cdv ct), osl⟩)
  (c : PySem.W.codeIn K cdv qual = true) (k : PySem.W.keepIn K (.ref f) = true) : Fun K x qual st f (PySem.W.fnOf x qual (defArgs st) (defBody st) (defScope st) .none kV doc pm an cdv ct) := ⟨⟨oc, od, kV, doc, pm, an, cdv, ct, osl, rfl, l, c⟩, k⟩
end
section
variable {X : Cx}
theorem pv (i : Nat) {x : Str} {pos : Pos} (hN : X.N[i]? = some x := by rfl) (hv : Vis X.env.scope x := by first | exact Or.inl rfl | exact Or.inr (Or.inl rfl) | exact Or.inr (Or.inr rfl)) (hd : (x == ("__debug__" : Str)) = false := by decide)
  (hcd : (x == ("__classdict__" : Str)) = false := by decide) : PE X (.Name x pos) (tVar i) := pe_var hN hv hd hcd
end
theorem iteF {A B : Prop} (h : B) : if false = true then A else B := by
 rw [if_neg Bool.false_ne_true]
 exact h
theorem iteT {A B : Prop} (h : A) : if true = true then A else B := by
 rw [if_pos rfl]
 exact h
noncomputable def Same (H H' : Hp) : Prop := ∀ b o, H b = some o → H' b = some o
theorem Same.refl (H : Hp) : Same H H := fun _ _ h => h
theorem Same.trans {H H1 H2 : Hp} (a : Same H H1) (b : Same H1 H2) : Same H H2 := fun c o h => b c o (a c o h)
theorem Same.free {H H' : Hp} (e : Same H H') {l : Addr} (h : H' l = Option.none) : H l = Option.none := by
 cases q : H l with
 | none => rfl
 | some o =>
   rw [e l o q] at h
   cases h
section
variable {X : Cx}
end
section
variable {κ : Type} [DecidableEq κ]
end
noncomputable def closL (env : Env) : List (Str × NameKind) → List (Str × Addr) → List (Str × Addr)
 | [], cs => cs
 | (n, k) :: r, cs => closL env r (if k == NameKind.free then (match env.cells.lookup n with | some c => (n, c) :: cs | none => cs) else cs)
theorem closureFor_of {scope : Scope} {env : Env} (h : ∀ y ∈ scope.names, y.2 = NameKind.free → ∃ c, env.cells.lookup y.1 = some c) : closureFor scope env = pure (closL env scope.names []) := by
 simp only [closureFor]
 generalize ([] : List (Str × Addr)) = cs
 revert h cs
 generalize scope.names = l
 intro h
 induction l with
 | nil => intro cs; rfl
 | cons y r ih =>
   intro cs
   obtain ⟨n, k⟩ := y
   have ihr := ih fun z hz => h z (List.mem_cons_of_mem _ hz)
   simp only [List.forIn_cons, closL]
   by_cases hk : k = NameKind.free
   · obtain ⟨c, hc⟩ := h (n, k) List.mem_cons_self hk
     have hc' : env.cells.lookup n = some c := hc
     have hcell : cellOf env n = pure c := by unfold cellOf; rw [hc']
     subst hk
     simp only [hcell, hc', beq_self_eq_true, if_true, pure_bind, bind_pure_comp, map_pure, bind_assoc]
     first
      | exact ihr _
      | simpa using ihr _
   · have hb : (k == NameKind.free) = false := by simpa using hk
     simp only [hb, Bool.false_eq_true, if_false, pure_bind]
     first
      | exact ihr _
      | simpa using ihr _
theorem closL_from {env : Env} : ∀ (l : List (Str × NameKind)) (cs : List (Str × Addr)), (∀ x c, cs.lookup x = some c → env.cells.lookup x = some c) → ∀ x c, (closL env l cs).lookup x = some c → env.cells.lookup x = some c
 | [], _, h => h
 | (n, k) :: r, cs, h => by
   unfold closL
   refine closL_from r _ fun x c e => ?_
   split at e
   · cases hc : env.cells.lookup n with
     | none => rw [hc] at e; exact h x c e
     | some c' =>
       rw [hc] at e
       simp only [List.lookup_cons] at e
       by_cases hx : x == n
       · rw [hx] at e
         cases e
         rw [beq_iff_eq] at hx
         rw [hx]
         exact hc
       · have hx' : (x == n) = false := by simpa using hx
         rw [hx'] at e
         exact h x c e
   · exact h x c e
theorem closL_keep {env : Env} : ∀ (l : List (Str × NameKind)) (cs : List (Str × Addr)) (x : Str), (∃ c, cs.lookup x = some c) → ∃ c, (closL env l cs).lookup x = some c
 | [], _, _, h => h
 | (n, k) :: r, cs, x, h => by
   unfold closL
   refine closL_keep r _ x ?_
   split
   · cases hc : env.cells.lookup n with
     | none => exact h
     | some c' =>
       simp only [List.lookup_cons]
       by_cases hx : x == n
       · rw [hx]; exact ⟨_, rfl⟩
       · have hx' : (x == n) = false := by simpa using hx
         rw [hx']; exact h
   · exact h
theorem closL_has {env : Env} : ∀ (l : List (Str × NameKind)) (cs : List (Str × Addr)) (x : Str) (c : Addr), (x, NameKind.free) ∈ l → env.cells.lookup x = some c → ∃ c, (closL env l cs).lookup x = some c
 | [], _, _, _, h, _ => nomatch h
 | (n, k) :: r, cs, x, c, h, hc => by
   unfold closL
   rcases List.mem_cons.mp h with e | e
   · cases e
     refine closL_keep r _ _ ?_
     simp only [beq_self_eq_true, if_true, hc, List.lookup_cons]
     exact ⟨_, rfl⟩
   · exact closL_has r _ x c e hc
theorem lookup_relabel_free {env : Env} : ∀ {names : List (Str × NameKind)} {x : Str}, names.lookup x = some NameKind.free →
  (names.map fun (n, k) => if (k == NameKind.free && env.scope.kind == .function && env.kindOf n == some .cell) then (n, NameKind.cell) else (n, k)).lookup x = some NameKind.cell ∨
  (names.map fun (n, k) => if (k == NameKind.free && env.scope.kind == .function && env.kindOf n == some .cell) then (n, NameKind.cell) else (n, k)).lookup x = some NameKind.free
 | [], _, h => by simp at h
 | (n, k) :: r, x, h => by
   have ih := @lookup_relabel_free env r x
   simp only [List.map_cons]
   cases hx : x == n with
   | true =>
     simp only [List.lookup_cons, hx] at h
     cases h
     by_cases hc : (NameKind.free == NameKind.free && env.scope.kind == .function && env.kindOf n == some .cell) = true
     · rw [if_pos hc]; left; simp only [List.lookup_cons, hx]
     · rw [if_neg hc]; right; simp only [List.lookup_cons, hx]
   | false =>
     simp only [List.lookup_cons, hx] at h
     by_cases hc : (k == NameKind.free && env.scope.kind == .function && env.kindOf n == some .cell) = true
     · rw [if_pos hc]; simp only [List.lookup_cons, hx]; exact ih h
     · rw [if_neg hc]; simp only [List.lookup_cons, hx]; exact ih h
theorem of_relabel {env : Env} : ∀ {names : List (Str × NameKind)} {x : Str} {k' : NameKind}, (∀ y ∈ names, y.2 ≠ NameKind.cell) →
  (names.map fun (n, k) => if (k == NameKind.free && env.scope.kind == .function && env.kindOf n == some .cell) then (n, NameKind.cell) else (n, k)).lookup x = some k' → (k' = NameKind.cell ∨ k' = NameKind.free) → (x, NameKind.free) ∈ names
 | [], _, _, _, h, _ => by simp at h
 | (n, k) :: r, x, k', hn, h, hk => by
   have ih := @of_relabel env r x k' fun y hy => hn y (List.mem_cons_of_mem _ hy)
   simp only [List.map_cons] at h
   cases hx : x == n with
   | true =>
     have ex : x = n := by simpa using hx
     by_cases hc : (k == NameKind.free && env.scope.kind == .function && env.kindOf n == some .cell) = true
     · have : k = NameKind.free := by
        simp only [Bool.and_eq_true, beq_iff_eq] at hc
        exact hc.1.1
       subst this; subst ex
       exact List.mem_cons_self
     · rw [if_neg hc] at h
       simp only [List.lookup_cons, hx] at h
       cases h
       rcases hk with hk | hk
       · exact absurd hk (hn (n, k) List.mem_cons_self)
       · subst hk; subst ex; exact List.mem_cons_self
   | false =>
     by_cases hc : (k == NameKind.free && env.scope.kind == .function && env.kindOf n == some .cell) = true
     · rw [if_pos hc] at h; simp only [List.lookup_cons, hx] at h; exact List.mem_cons_of_mem _ (ih h hk)
     · rw [if_neg hc] at h; simp only [List.lookup_cons, hx] at h; exact List.mem_cons_of_mem _ (ih h hk)
section
variable {X : Cx}
structure CI where
 C : Addr
 s : Shared
 H : Hp
 ex : List Addr
noncomputable def compCx (X : Cx) (scope : Scope) (NY : List Str) (c : CI) : Cx where
 prog := X.prog
 w := X.w
 K := X.K
 mg := X.mg
 base := X.base
 A := X.A
 N := NY
 s₀ := c.s
 H₀ := c.H
 env := compEnvC scope (closL X.env scope.names []) c.C X.env
 outer := X.stack
 stack := X.stack
 ex := c.ex
 fn := fun _ => false
 calm := X.calm
 pn := []
 xe := fun _ _ => False
theorem Inv.adopt {pins : List (Addr × Obj)} {σ : St} {H : Hp} {s : Shared} {a : Addr} {o : HO} (I : Inv X pins σ H s) (hn : H a = none) (young : X.s₀.heap.objs.size ≤ a) (hL : a ≠ X.env.locals)
  (hc : ∀ x c, X.env.cells.lookup x = some c → c ≠ a) (hp : ∀ p ∈ X.pn ++ pins, p.1 ≠ a) (new : ObjOk X.prog X.w (upd H a o) s.heap a o) : Inv X pins σ (upd H a o) s := by
 have ne : ∀ {b : Addr} {u : HO}, H b = some u → b ≠ a := fun e z => by rw [z, hn] at e; cases e
 refine ⟨I.ok, I.os, I.bare, ⟨I.base.keep, I.base.slot, fun b ob q n hx => ?_, I.base.there, fun b xs q => ?_, fun b ob u q => ?_, fun b ps q => ?_⟩, I.loc, I.cell, ?_, fun x c e => ?_, fun p hpm => ?_, fun b u e => ?_, I.len⟩
 · rw [upd_ne (Nat.ne_of_lt (Nat.lt_of_lt_of_le (Heap.lt_size q) young))]
   exact I.base.free b ob q n hx
 · have := I.base.tups b xs q
   rw [upd_ne (ne this)]; exact this
 · have := I.base.frzs b ob u q
   rw [upd_ne (ne this)]; exact this
 · have := I.base.tbls b ps q
   rw [upd_ne (ne this)]; exact this
 · rw [upd_ne (Ne.symm hL)]; exact I.free
 · have := I.freeC x c e
   unfold FreeC at this ⊢
   rw [upd_ne (hc x c e)]; exact this
 · obtain ⟨h1, h2, h3⟩ := I.pin p hpm
   exact ⟨h1, by rw [upd_ne (hp p hpm)]; exact h2, h3⟩
 · by_cases hb : b = a
   · subst hb; rw [upd_same] at e; cases e; exact new
   · rw [upd_ne hb] at e
     exact (I.hok b u e).stay (fun c v _ q => q) (fun c q => by rw [upd_ne (ne q)]; exact q) fun c xs q => by rw [upd_ne (ne q)]; exact q
noncomputable def PF (X : Cx) (ifs : List Expr) (t : TT) : Prop :=
 ∀ (pins : List (Addr × Obj)) (s : Shared) (σ : St) (H : Hp) (Q : Bool → Hp → Prop), Inv X pins σ H s → t σ H Q →
  wpAny (model X.prog X.w) X.A (forIn ifs true fun c r => if r = true then do let ok ← isTrue c X.env (eval c X.env); pure (ForInStep.yield ok) else pure (ForInStep.yield r)) (TP X pins σ Q) X.xe s
noncomputable def tNoIf : TT := fun _ H Q => Q true H
theorem pf_nil : PF X [] tNoIf := fun _ _ _ H _ I h => wpAny_tests_nil ⟨H, I, h⟩
noncomputable def slotsY (mp : List (Option Nat)) (σ : St) : St := mp.map fun o => o.bind fun j => σ[j]?.join
noncomputable def tCompK (J : It) (mp : List (Option Nat)) (g : CI → TG) (tt : CI → TT) (te : CI → TE) (σ : St) (H1 : Hp) (R : List V → Hp → Prop) : Prop :=
 ∀ c : CI, ∃ W : Nat → Nat → List V → Hp → Prop, (∃ m, W 0 m [] H1) ∧ ∀ i m ys H, W i m ys H →
  (J.stop i H ∧ R ys H) ∨
  (J.go i H ∧ ys.length < sizeLine ∧ ∀ x H', J.yld i H x H' → g c x (slotsY mp σ) H' fun σ2 H2 => tt c σ2 H2 fun b H3 =>
    if b = true then te c σ2 H3 fun y H4 => ∃ m', m' < m ∧ W (i + 1) m' (ys ++ [y]) H4 else ∃ m', m' < m ∧ W (i + 1) m' ys H3)
noncomputable def tComp (wi : TI) (mp : List (Option Nat)) (g : CI → TG) (tt : CI → TT) (te : CI → TE) : TE := fun σ H Q => wi σ H fun J H1 =>
 tCompK J mp g tt te σ H1 fun ys H' => ys.length ≤ sizeLine ∧ ∀ p, H' p = none → Q (.ref p) (upd H' p (.lst ys))
structure CompScope (X : Cx) (scope : Scope) (NY : List Str) (mp : List (Option Nat)) : Prop where
 kind : scope.kind = .function
 nocell : ∀ y ∈ scope.names, y.2 ≠ .cell
 names : ∀ y ∈ scope.names, y.2 = .local → scope.names.lookup y.1 = some .local
 free : ∀ y ∈ scope.names, y.2 = .free → (X.env.kindOf y.1 = some .cell ∨ X.env.kindOf y.1 = some .free)
 len : mp.length = NY.length
 map : ∀ (i : Nat) (x : Str) (j : Nat), NY[i]? = some x → mp[i]? = some (some j) → X.N[j]? = some x ∧ scope.names.lookup x = some .free
theorem compLoop_own {prog : Program} {w : World} {A : Around} {R : Result → Shared → Prop} {s : Shared} {elt target iter : Expr} {ifs : List Expr} {scope : Scope} {pos : Pos} {it acc : Value} {env : Env} (I : Nat → Shared → Prop)
  (turn : ∀ n s, I n s → wpAny (model prog w) A (pyNext it) (fun r s₁ => match r with
    | none => R (.ok .next) s₁
    | some v => wpAny (model prog w) A (letOwnedTupleGo target it v) (fun _ s₁' => wpAny (model prog w) A (assign target env v) (fun _ s₂ =>
       wpAny (model prog w) A (forIn ifs true fun c r => if r = true then do let ok ← isTrue c env (eval c env); pure (ForInStep.yield ok) else pure (ForInStep.yield r)) (fun ok s₃ =>
        if ok = true then wpAny (model prog w) A (eval elt env) (fun x s₄ =>
         wpAny (model prog w) A (call (.builtin "list.append") [acc, x]) (fun _ s₅ => ∃ m, m < n ∧ I m s₅) (fun _ _ => False) s₄) (fun _ _ => False) s₃
        else ∃ m, m < n ∧ I m s₃) (fun _ _ => False) s₂) (fun _ _ => False) s₁') (fun _ _ => False) s₁) (fun _ _ => False) s)
  (n : Nat) (h : I n s) :
  codeAny (model prog w) A (.compLoop (.ListComp elt [⟨target, iter, ifs, 0⟩] scope pos) 0 it acc env) R s := by
 refine codeAny_loop rfl I (fun n s hI => ?_) n h
 show wpAny _ A ((compTurn (.ListComp elt [⟨target, iter, ifs, 0⟩] scope pos) 0 it acc env).onRaise (fun x => do noteFrame x env; theTreesLotGoes x)) _ _ s
 refine wpAny_noted ?_
 rw [compTurn_list]
 refine wpAny_bind (wpAny_standAt (wpAny_bind (wpAny_mono (turn n s hI) (fun r s₁ h₁ => ?_) fun _ _ h' => h'.elim)))
 cases r with
 | none => exact wpAny_pure h₁
 | some v =>
   refine wpAny_bind (wpAny_mono h₁ (fun _ s₁' h₁' => ?_) fun _ _ h' => h'.elim)
   refine wpAny_bind (wpAny_mono h₁' (fun _ s₂ h₂ => wpAny_bind (wpAny_mono h₂ (fun ok s₃ h₃ => ?_) fun _ _ h' => h'.elim)) fun _ _ h' => h'.elim)
   cases ok with
   | false => exact wpAny_pure ⟨rfl, h₃⟩
   | true =>
     exact wpAny_bind (wpAny_bind (wpAny_mono h₃ (fun x s₄ h₄ => wpAny_bind (wpAny_mono h₄ (fun _ s₅ h₅ => wpAny_pure (wpAny_pure ⟨rfl, h₅⟩)) fun _ _ h' => h'.elim)) fun _ _ h' => h'.elim))
theorem comp_block {E : Value → Shared → Prop} {scope : Scope} {NY : List Str} {mp : List (Option Nat)} {tg iter elt : Expr} {ifs : List Expr} {pos : Pos} {g : CI → TG} {tt : CI → TT} {te : CI → TE} {pins : List (Addr × Obj)} {σ : St} {H : Hp} {s₂ : Shared}
  {J : It} {fp : List Addr} {it : Addr} {tn : Nat → Heap → Prop} {R : List V → Hp → Prop} {RR : Value → Addr → Result → Shared → Prop}
  {cm : Cx → Prop} (S : CompScope X scope NY mp) (hc : ∀ c : CI, c.H = H → cm (compCx X scope NY c)) (I : Inv X pins σ H s₂) (T : Turn X.prog X.w X.K tg J fp it tn cm) (st : tn 0 s₂.heap) (hf : ∀ b ∈ fp, FpOk X pins H b)
  (hg : ∀ c, PG (compCx X scope NY c) tg (g c)) (ht : ∀ c, PF (compCx X scope NY c) ifs (tt c)) (he : ∀ c, PE (compCx X scope NY c) elt (te c))
  (h : tCompK J mp g tt te σ H R)
  (fin : ∀ (s' : Shared) (C : Addr) (m : Str → Option Value) (ys : List V) (H' : Hp), R ys H' → H' s₂.heap.objs.size = none → H' C = none → C ≠ s₂.heap.objs.size → s'.heap.Ns C m →
    (ys.length ≤ sizeLine → Inv X pins σ (upd H' s₂.heap.objs.size (.lst ys)) s') →
    (C ≠ X.env.locals ∧ X.s₀.heap.objs.size ≤ C ∧ (∀ x c, X.env.cells.lookup x = some c → c ≠ C) ∧ ∀ p ∈ X.pn ++ pins, p.1 ≠ C) → RR (.ref s₂.heap.objs.size) C (.ok .next) s') :
  wpAny (model X.prog X.w) X.A (newList []) (fun acc s₃ => wpAny (model X.prog X.w) X.A (newFunctionEnv scope X.env.globals (closL X.env scope.names []) [] X.env.qual none .none (some X.env)) (fun cenv s₄ =>
   codeAny (model X.prog X.w) X.A (.compStart (.ListComp elt [⟨tg, iter, ifs, 0⟩] scope pos) 0 (.ref it) acc { cenv with scope := relabel scope X.env }) (RR acc cenv.locals) s₄) E s₃) E s₂ := by
 refine wpAny_newObj_type (wpAny_newFunctionEnv S.nocell (by intro y hy; simp at hy) (fun h₁ hns₁ hsb₁ => ?_) S.kind)
 dsimp only at hns₁ hsb₁ ⊢
 generalize hH2 : s₂.heap.push { cls := .type "list", dict := none, data := .seq ([] : List Value).toArray } = H2 at hns₁ hsb₁ ⊢
 have hC : (H2.objs.size : Nat) = s₂.heap.objs.size + 1 := by rw [← hH2, Heap.size_push]
 generalize hDd : s₂.heap.objs.size = D at fin hC ⊢
 generalize hCC : H2.objs.size = C at hns₁ hsb₁ hC ⊢
 have hC : (C : Nat) = (D : Nat) + 1 := hC
 have hDC : D ≠ C := fun z => absurd (z.trans hC) (Nat.ne_of_lt (Nat.lt_succ_self _))
 have ltC : ∀ {b : Addr}, b < D → b ≠ C := fun {b} h => Nat.ne_of_lt (Nat.lt_of_lt_of_eq (Nat.lt_succ_of_lt h) hC.symm)
 have ltD : ∀ {b : Addr}, b < D → b ≠ D := fun {b} h => Nat.ne_of_lt h
 have hlt : ∀ {b : Addr} {o : Obj}, s₂.heap.get? b = some o → (b : Nat) < D := fun e => hDd ▸ Heap.lt_size e
 have k2 : ∀ b o, s₂.heap.get? b = some o → H2.get? b = some o := fun b o e => hH2 ▸ Heap.get?_push_of_some _ e
 have k1 : ∀ b o, H2.get? b = some o → h₁.get? b = some o := fun b o e => by
  have hb : b < C := hCC ▸ Heap.lt_size e
  exact hsb₁.extBut b o (Nat.ne_of_lt hb) (Heap.get?_push_of_some _ e)
 have fr : ∀ a, D ≤ a → H a = none := fun a ha => I.hok.fresh (hDd ▸ ha)
 have accP : h₁.PlainList D #[] := ⟨_, k1 _ _ (by rw [← hH2, ← hDd]; exact Heap.get?_push_size _ rfl)⟩
 have fpo : ∀ b ∈ fp, (b : Nat) < D := fun b hb => let ⟨o, e, _⟩ := T.obj 0 _ st b hb; hlt e
 have clF : ∀ x c, (closL X.env scope.names []).lookup x = some c → X.env.cells.lookup x = some c := closL_from _ _ fun x c e => nomatch e
 have cellLt : ∀ x c, X.env.cells.lookup x = some c → (c : Nat) < D := fun x c e => by
  obtain ⟨v, o, ho, _⟩ := I.cell x c e
  exact hlt ho
 have locLt : (X.env.locals : Nat) < D := hDd ▸ I.lt
 have stkLt : ∀ b ∈ frs X.stack, (b : Nat) < D := fun b hb => by
  obtain ⟨_, o, ho, _⟩ := I.stack.mem hb
  exact hlt ho
 have fpStk : ∀ b ∈ fp, b ∉ frs X.stack := fun b hb z => by
  obtain ⟨_, f1, f2, _⟩ := hf b hb
  rcases List.mem_cons.mp (I.stkSub b z) with q | q
  · exact f1 q
  · exact f2 q
 have pinLt : ∀ p ∈ X.pn ++ pins, (p.1 : Nat) < D := fun p hp => hlt (I.pin p hp).1
 have pinStk : ∀ p ∈ X.pn ++ pins, p.1 ∉ frs X.stack := fun p hp z => by
  obtain ⟨_, _, f1, f2, _⟩ := I.pin p hp
  rcases List.mem_cons.mp (I.stkSub _ z) with q | q
  · exact f1 q
  · exact f2 q
 let Y : Cx := compCx X scope NY ⟨C, { s₂ with heap := H2 }, H, D :: fp⟩
 obtain ⟨W, ⟨m0, w0⟩, turn⟩ := h ⟨C, { s₂ with heap := H2 }, H, D :: fp⟩
 have okY : Y.Ok := by
  refine ⟨I.ok.mod, S.kind, I.ok.glob, I.ok.blt, Nat.le_of_eq hCC, fun x y c h1 h2 => I.ok.inj x y c (clF _ _ h1) (clF _ _ h2), fun x hx => ?_, fun x c hfn => absurd hfn (by intro z; cases z), I.ok.hd, I.ok.frames, .inl rfl, fun b hb => ?_, fun b o e => ?_, ?_, fun b o e => ?_, fun b hb => ?_, ?_, I.stkFree⟩
  · have hx' : (x, NameKind.free) ∈ scope.names := by
     rcases hx with hx | hx
     · exact of_relabel S.nocell hx (.inl rfl)
     · exact of_relabel S.nocell hx (.inr rfl)
    obtain ⟨c, e⟩ := I.ok.has x (S.free _ hx' rfl)
    exact closL_has _ _ x c hx' e
  · rcases List.mem_cons.mp hb with z | z
    · subst z
      exact ⟨hDC, fun x c e q => absurd (cellLt x c (clF x c e)) (by rw [q]; exact Nat.lt_irrefl _)⟩
    · have := fpo b z
      exact ⟨ltC this, fun x c e q => (hf b z).2.2.2.2.1 x c (clF x c e) q⟩
  · have := I.bs b o e
    exact ⟨k2 b o this.1, this.2⟩
  · refine ⟨?_, I.tabsH⟩
    show (X.base.objs.size : Nat) ≤ H2.objs.size
    have h1 : (X.base.objs.size : Nat) ≤ s₂.heap.objs.size := Nat.le_trans I.ok.bsz.1 I.sz
    have h2 : (H2.objs.size : Nat) = C := hCC
    have h3 : (s₂.heap.objs.size : Nat) = D := hDd
    omega
  · have hb := I.bs b o e
    have hb' := hlt hb.1
    intro z
    rcases List.mem_cons.mp z with z | z
    · rw [z] at hb'; exact Nat.lt_irrefl _ hb'
    · rcases (hf b z).2.2.2.1 with q | q
      · exact I.ok.noex b o e q
      · exact absurd (Nat.lt_of_lt_of_le (Heap.lt_size (I.ok.bs b o e).1) q) (Nat.lt_irrefl _)
  · rcases List.mem_cons.mp hb with z | z
    · subst z
      exact fun q => absurd (stkLt _ q) (Nat.lt_irrefl _)
    · exact fpStk b z
  · exact I.stack.of_keeps fun b o e _ => ⟨o, k2 b o e, rfl⟩
 have capt : ∀ (i : Nat) (x : Str) (v : V), NY[i]? = some x → (slotsY mp σ)[i]? = some (some v) → ∃ u c, RelV v u ∧ (Y.env.kindOf x = some .cell ∨ Y.env.kindOf x = some .free) ∧ Y.env.cells.lookup x = some c ∧ H2.IsCell c (some u) ∧ (H c = none ∨ ∃ o u, H c = some (.frz o u)) ∧ c ∉ D :: fp := by
  intro i x v e1 e2
  have e2' : (mp[i]?.map fun o => o.bind fun j => σ[j]?.join) = some (some v) := by
   unfold slotsY at e2
   rwa [List.getElem?_map] at e2
  cases hm : mp[i]? with
  | none => rw [hm] at e2'; cases e2'
  | some o =>
    rw [hm] at e2'
    cases o with
    | none => simp at e2'
    | some j =>
      simp only [Option.map_some, Option.bind_some, Option.some.injEq] at e2'
      have e4 : σ[j]? = some (some v) := by
       cases hs : σ[j]? with
       | none => rw [hs] at e2'; cases e2'
       | some q => rw [hs] at e2'; simp at e2'; rw [e2']
      obtain ⟨hXj, hfr⟩ := S.map i x j e1 hm
      have hmem : (x, NameKind.free) ∈ scope.names := PySem.mem_of_lookup hfr
      have hk := S.free _ hmem rfl
      obtain ⟨m, hn, hl⟩ := I.loc
      obtain ⟨u, ru, l⟩ := hl j x v hXj e4 (hk.elim (fun z => .inr (.inl z)) fun z => .inr (.inr z))
      have hlook : ∃ c, X.env.cells.lookup x = some c ∧ s₂.heap.IsCell c (some u) := by
       rcases l with ⟨kl, _⟩ | ⟨_, c, ec, hcell⟩
       · rcases hk with q | q
         · exact absurd (kl.symm.trans q) (by intro z; cases z)
         · exact absurd (kl.symm.trans q) (by intro z; cases z)
       · exact ⟨c, ec, hcell⟩
      obtain ⟨c, ec, oc, hoc, hocd⟩ := hlook
      obtain ⟨c', ec'⟩ := closL_has (env := X.env) scope.names [] x c hmem ec
      have : c' = c := Option.some.inj ((clF x c' ec').symm.trans ec)
      subst this
      refine ⟨u, c', ru, lookup_relabel_free hfr, ec', ⟨oc, k2 _ _ hoc, hocd⟩, (I.freeC x c' ec).imp id And.right, fun z => ?_⟩
      rcases List.mem_cons.mp z with z | z
      · have := cellLt x c' ec; rw [z] at this; exact Nat.lt_irrefl _ this
      · exact (hf c' z).2.2.2.2.1 x c' ec rfl
 have lenY : (slotsY mp σ).length = NY.length := by
  unfold slotsY
  rw [List.length_map]
  exact S.len
 have I0 : ∀ tk, Inv Y [] (slotsY mp σ) H { s₂ with heap := h₁, toks := tk } := by
  intro tk
  refine ⟨okY, rfl, I.bare, Un.kept k1, ⟨_, hns₁, fun i x v e1 e2 e3 => ?_⟩, fun x c e => ?_, fr C (by show (D : Nat) ≤ C; omega), fun x c e => (I.freeC x c (clF x c e)).imp id fun z => ⟨rfl, z.2⟩, fun p hp => absurd (show p ∈ ([] : List (Addr × Obj)) from hp) (by simp), I.hok.kept fun b o e => k1 b o (k2 b o e), lenY⟩
  · obtain ⟨u, c, ru, hk, ec, ⟨oc, hoc, hocd⟩, _⟩ := capt i x v e1 e2
    exact ⟨u, ru, .inr ⟨hk, c, ec, oc, k1 _ _ hoc, hocd⟩⟩
  · obtain ⟨v, o, ho, hd⟩ := I.cell x c (clF x c e)
    exact ⟨v, o, k1 _ _ (k2 _ _ ho), hd⟩
 have stat : ∀ {H' : Hp} {pl : List (Addr × Obj)}, (∀ p ∈ pl, p.1 ∉ fp) → (∀ b ∈ fp, H' b = none) → ∀ b ∈ fp, FpOk Y pl H' b := fun hpl hn b hb => by
  have hbD := fpo b hb
  refine ⟨hn b hb, ltC hbD, fpStk b hb, .inl (List.mem_cons_of_mem _ hb), fun x c e => (hf b hb).2.2.2.2.1 x c (clF x c e), fun p hp z => hpl p (show p ∈ _ from hp) (z ▸ hb)⟩
 have dN : D ∉ Y.fs := fun q => absurd (stkLt _ q) (Nat.lt_irrefl _)
 have dFp : D ∉ fp := fun q => absurd (fpo _ q) (Nat.lt_irrefl _)
 have plD : ∀ (o : Obj), ∀ p ∈ [(D, o)], p.1 ∉ fp := fun o p hp => by
  have e : p = (D, o) := by simpa using hp
  rw [e]; exact dFp
 have keyC : ∀ (tk : Nat) (it' : Value), it' = .ref it → codeAny (model X.prog X.w) X.A (.compLoop (.ListComp elt [⟨tg, iter, ifs, 0⟩] scope pos) 0 it' (.ref D) Y.env) (RR (.ref D) C) { s₂ with heap := h₁, toks := tk } := by
  rintro tk _ rfl
  refine compLoop_own (fun n s' => ∃ i ys H' its, Inv Y [] (slotsY mp σ) H' s' ∧ tn i s'.heap ∧ (∀ b ∈ fp, H' b = none) ∧ H' D = none ∧ s'.heap.PlainList D its ∧ Vals ys its.toList ∧ W i n ys H') ?_ m0
   ⟨0, [], H, #[], I0 tk, T.keep 0 _ _ st fun b _ o e => k1 b o (k2 b o e), fun b hb => (hf b hb).1, fr D (Nat.le_refl _), accP, .nil, w0⟩
  rintro n s3 ⟨i, ys, H3, its, I3, st3, fr3, d3, ⟨kk, pl3⟩, rv3, w3⟩
  have I3' : Inv Y [(D, { cls := .type "list", data := .seq its kk })] (slotsY mp σ) H3 s3 := I3.pins_of fun p hp => by
   have e : p = (D, { cls := .type "list", data := .seq its kk }) := by simpa using hp
   subst e
   exact ⟨pl3, d3, hDC, dN, fun v z => nomatch (show Data.seq its kk = Data.cell v from z)⟩
  rcases turn i n ys H3 w3 with ⟨stop, qn⟩ | ⟨go, hsz, step⟩
  · refine thn (T.done Y rfl rfl rfl (hc ⟨C, { s₂ with heap := H2 }, H, D :: fp⟩ rfl) i _ s3 _ H3 _ I3' (stat (plD _) fr3) st3 stop) fun r s4 ⟨hr, I4⟩ => ?_
    subst hr
    have hD4 : s4.heap.get? D = some { cls := .type "list", data := .seq its kk } := (I4.pin (D, _) (by simp)).1
    have u : Un (frs X.stack) fp H H3 s₂.heap s4.heap := by
     have B : Un (frs X.stack) (D :: fp) H H3 H2 s4.heap := I4.base
     have nx : ∀ {b : Addr} {o : Obj}, s₂.heap.get? b = some o → b ∉ fp → b ∉ D :: fp := fun e hb z => by
      rcases List.mem_cons.mp z with z | z
      · have := hlt e; rw [z] at this; exact Nat.lt_irrefl _ this
      · exact hb z
     exact ⟨fun b o q n hb hx => B.keep b o (k2 b o q) n hb (nx q hx), fun b o q n hb hx => B.slot b o (k2 b o q) n hb (nx q hx), fun b o q n hx => B.free b o (k2 b o q) n (nx q hx), fun b o q hx => B.there b o (k2 b o q) (nx q hx), B.tups, B.frzs, B.tbls⟩
    have J4 : Inv X pins σ H3 s4 := I.call' I4.os u I4.hok I4.bare fun b hb => ⟨(hf b hb).2.2.2.1, (hf b hb).2.1, (hf b hb).2.2.2.2.1, (hf b hb).2.2.2.2.2⟩
    obtain ⟨m4, hn4, _⟩ := I4.loc
    refine fin s4 C m4 ys H3 qn d3 I4.free (Ne.symm hDC) hn4 (fun hz => ?_) ⟨(ltC locLt).symm, ?_, fun x c e => ?_, fun p hp => ?_⟩
    · refine J4.adopt d3 ?_ (ltD locLt).symm (fun x c e => ?_) (fun p hp => ?_) ⟨hz, its.toList, kk, rv3, hD4⟩
      · exact hDd ▸ I.sz
      · exact ltD (cellLt x c e)
      · exact ltD (pinLt p hp)
    · have : (X.s₀.heap.objs.size : Nat) ≤ D := hDd ▸ I.sz
      show (X.s₀.heap.objs.size : Nat) ≤ C
      omega
    · exact ltC (cellLt x c e)
    · exact ltC (pinLt p hp)
  · refine thn (T.item Y rfl rfl rfl (hc ⟨C, { s₂ with heap := H2 }, H, D :: fp⟩ rfl) i _ s3 _ H3 _ I3' (stat (plD _) fr3) st3 go) fun r s4 ⟨u, hr, h4⟩ => ?_
    subst hr
    refine thn h4 fun _ s5 ⟨x, H5, I5, r5, y5, st5, fr5⟩ => ?_
    have I5' := I5.pinned (stat (plD _) fr5) (T.obj _ _ st5)
    refine thn (hg _ _ s5 _ H5 x u _ I5' r5 (step x H5 y5)) fun _ s6 ⟨σ6, H6, I6, q6⟩ => ?_
    refine thn (ht _ _ s6 σ6 H6 _ I6 q6) fun ok s7 ⟨H7, I7, q7⟩ => ?_
    have back : ∀ {s8 : Shared} {σ8 : St} {H8 : Hp}, Inv Y ([(D, { cls := .type "list", data := .seq its kk })] ++ pinsAt fp s5.heap) σ8 H8 s8 →
      tn (i + 1) s8.heap ∧ (∀ b ∈ fp, H8 b = none) ∧ H8 D = none ∧ s8.heap.get? D = some { cls := .type "list", data := .seq its kk } := fun {s8 σ8 H8} I8 => by
     refine ⟨T.keep _ _ _ st5 fun b hb o e => (I8.pin (b, o) (List.mem_append_right _ (List.mem_append_right _ (mem_pinsAt hb e)))).1, fun b hb => ?_, ?_, ?_⟩
     · obtain ⟨o, e, d⟩ := T.obj _ _ st5 b hb
       exact (I8.pin (b, o) (List.mem_append_right _ (List.mem_append_right _ (mem_pinsAt hb e)))).2.1
     · exact (I8.pin (D, _) (List.mem_append_right _ (List.mem_append_left _ (List.mem_singleton.mpr rfl)))).2.1
     · exact (I8.pin (D, _) (List.mem_append_right _ (List.mem_append_left _ (List.mem_singleton.mpr rfl)))).1
    have drop : ∀ {s8 : Shared} {σ8 : St} {H8 : Hp} {pl : List (Addr × Obj)}, Inv Y pl σ8 H8 s8 → Inv Y [] (slotsY mp σ) H8 s8 := fun {s8 σ8 H8 pl} I8 => by
     obtain ⟨m8, hn8, _⟩ := I8.loc
     refine ⟨I8.ok, I8.os, I8.bare, I8.base, ⟨m8, hn8, fun i x v e1 e2 e3 => ?_⟩, I8.cell, I8.free, I8.freeC, fun p hp => absurd (show p ∈ ([] : List (Addr × Obj)) from hp) (by simp), I8.hok, lenY⟩
     obtain ⟨u, c, ru, hk, ec, ⟨oc, hoc, hocd⟩, hn, hx⟩ := capt i x v e1 e2
     rcases hn with hn | ⟨ob, ub, hn⟩
     · obtain ⟨sl, e⟩ := I8.base.any hoc hn hx
       exact ⟨u, ru, .inr ⟨hk, c, ec, _, e, hocd⟩⟩
     · obtain ⟨e1, _⟩ := I.hok c _ hn
       obtain ⟨e2, _⟩ := I8.hok c _ (I8.base.frzs c ob ub hn)
       have e3 := k2 _ _ e1
       rw [hoc] at e3; cases e3
       exact ⟨u, ru, .inr ⟨hk, c, ec, oc, e2, hocd⟩⟩
    cases ok with
    | false =>
      obtain ⟨m', hm', w'⟩ := q7
      obtain ⟨b1, b2, b3, b4⟩ := back I7
      exact ⟨m', hm', i + 1, ys, H7, its, drop I7, b1, b2, b3, ⟨kk, b4⟩, rv3, w'⟩
    | true =>
      refine thn (he _ _ s7 σ6 H7 _ I7 q7) fun y s8 ⟨yv, H8, I8, r8, q8⟩ => ?_
      obtain ⟨b1, b2, b3, b4⟩ := back I8
      have hl : ys.length = its.size := by simpa using rv3.length
      refine wpAny_list_append_plain (items := its) ⟨kk, b4⟩ (fun h' pl' sb => ?_) (by omega)
      obtain ⟨m', hm', w'⟩ := q8
      have I9 : Inv Y [] (slotsY mp σ) H8 { s8 with heap := h' } := (drop I8).turned (it := D) (t' := s8.toks) (fun b o hb e => (sb.2 b hb).trans e) b3 hDC (.inl List.mem_cons_self) (fun x c e => ltD (cellLt x c (clF x c e))) fun p hp => absurd (show p ∈ ([] : List (Addr × Obj)) from hp) (by simp)
      refine ⟨m', hm', i + 1, ys ++ [yv], H8, its.push y, I9, ?_, b2, b3, pl', ?_, w'⟩
      · exact T.keep _ _ _ b1 fun b hb o e => (sb.2 b (fun z => dFp (z ▸ hb))).trans e
      · rw [Array.toList_push]
        exact rv3.append (.cons r8 .nil)
 exact codeAny_compStart_list (keyC _ _ rfl) (T.self _ 0 _ _ _ (T.keep 0 _ _ st fun b _ o e => k1 b o (k2 b o e)) (keyC _ _ rfl))
theorem pe_compC {scope : Scope} {NY : List Str} {mp : List (Option Nat)} {tg iter elt : Expr} {ifs : List Expr} {pos : Pos} {wi : TI} {g : CI → TG} {tt : CI → TT} {te : CI → TE}
  {cm : Cx → Prop} (S : CompScope X scope NY mp) (hc : ∀ pins σ H s, Inv X pins σ H s → ∀ c : CI, c.H = H → cm (compCx X scope NY c)) (hi : PI X tg iter wi cm)
  (hg : ∀ c, PG (compCx X scope NY c) tg (g c)) (ht : ∀ c, PF (compCx X scope NY c) ifs (tt c)) (he : ∀ c, PE (compCx X scope NY c) elt (te c))
  (hs : ∀ x, foldedSetIterable iter X.env x = pure x := by intro _; rfl) : PE X (.ListComp elt [⟨tg, iter, ifs, 0⟩] scope pos) (tComp wi mp g tt te) := by
 intro pins s σ H Q I h
 rw [eval_ListComp]
 refine wpAny_comprehension_free (use := none) rfl hs (closureFor_of fun y hy hk => I.ok.has y.1 (S.free y hy hk)) S.kind S.names (thn (hi pins s σ H _ I h) fun v s1 h1 => thn h1 fun itv s2 h2 => ?_)
 obtain ⟨it, fp, tn, J, H2, e, I2, T, st2, f2, hk⟩ := h2
 subst e
 refine comp_block (RR := fun acc C => compPost (model X.prog X.w) X.A X.xe none (EP X pins σ Q) acc C) S (hc _ _ _ _ I2) I2 T st2 f2 hg ht he hk ?_
 intro s' C m ys H' q hD hC hCD hn hI hct
 refine ⟨m, hn, fun h' sb => ?_⟩
 have J' := hI q.1
 refine ⟨.ref s2.heap.objs.size, _, J'.turned (it := C) (t' := s'.toks) (fun b o hb e => (sb.2 b hb).trans e) (by rw [upd_ne hCD]; exact hC) hct.1 (.inr hct.2.1) hct.2.2.1 hct.2.2.2, rfl, q.2 _ hD⟩
theorem pe_comp {scope : Scope} {NY : List Str} {mp : List (Option Nat)} {tg iter elt : Expr} {ifs : List Expr} {pos : Pos} {wi : TI} {g : CI → TG} {tt : CI → TT} {te : CI → TE}
  (S : CompScope X scope NY mp) (hc : X.calm = true) (hi : PI X tg iter wi)
  (hg : ∀ c, PG (compCx X scope NY c) tg (g c)) (ht : ∀ c, PF (compCx X scope NY c) ifs (tt c)) (he : ∀ c, PE (compCx X scope NY c) elt (te c))
  (hs : ∀ x, foldedSetIterable iter X.env x = pure x := by intro _; rfl) : PE X (.ListComp elt [⟨tg, iter, ifs, 0⟩] scope pos) (tComp wi mp g tt te) := pe_compC S (fun _ _ _ _ _ _ _ => hc) hi hg ht he hs
end
end L2
namespace TS
open PySem PyProof.Rows
set_option autoImplicit false
noncomputable def ky (p : Keyed) : Int := numOf p.1
noncomputable def IsI (p : Keyed) : Prop := ∃ n t, p.1 = .int n t
structure TB (a₀ : Array Keyed) (st : SortSt) : Prop where
 pm : (arrOf st).Perm a₀
 kd : kindOf st = oneType'
 nf : failedOf st = none
noncomputable def Seg (xs : Array Keyed) (i j : Nat) : Prop := ∀ p q, i ≤ p → p ≤ q → q < j → K xs p ≤ K xs q
noncomputable def Dsc (xs : Array Keyed) (i j : Nat) : Prop := ∀ p q, i ≤ p → p ≤ q → q < j → K xs q ≤ K xs p
noncomputable def Ch (xs ys : Array Keyed) (i j : Nat) : Prop := xs.Perm ys ∧ ∀ k, (k < i ∨ j ≤ k) → K xs k = K ys k
theorem Ch.rfl' {xs : Array Keyed} {i j : Nat} : Ch xs xs i j := ⟨Array.Perm.refl _, fun _ _ => rfl⟩
theorem Ch.tr {xs ys zs : Array Keyed} {i j : Nat} (a : Ch xs ys i j) (b : Ch ys zs i j) : Ch xs zs i j :=
 ⟨a.1.trans b.1, fun k hk => (a.2 k hk).trans (b.2 k hk)⟩
theorem Ch.wide {xs ys : Array Keyed} {i j i' j' : Nat} (a : Ch xs ys i j) (h1 : i' ≤ i) (h2 : j ≤ j') : Ch xs ys i' j' :=
 ⟨a.1, fun k hk => a.2 k (by omega)⟩
theorem TB.arr {a₀ : Array Keyed} {st : SortSt} (h : TB a₀ st) {xs : Array Keyed} (hp : xs.Perm (arrOf st)) : TB a₀ (setArr st xs) := ⟨hp.trans h.pm, h.kd, h.nf⟩
theorem TB.sz {a₀ : Array Keyed} {st : SortSt} (h : TB a₀ st) : (arrOf st).size = a₀.size := h.pm.size_eq
theorem at_int {a₀ xs : Array Keyed} (hp : xs.Perm a₀) (h0 : IntKeys a₀) {i : Nat} (hi : i < a₀.size) : ∃ t q, xs[i]? = some (.int (K xs i) t, q) := by
 have hi' : i < xs.size := by rw [hp.size_eq]; exact hi
 obtain ⟨n, t, hn⟩ := h0 _ ((Array.perm_iff_toList_perm.mp hp).mem_iff.mp (show xs[i] ∈ xs.toList by simp))
 have e : xs[i]? = some xs[i] := getElem?_pos _ i hi'
 refine ⟨t, xs[i].2, ?_⟩
 unfold K
 rw [e]
 simp only [hn, numOf]
 exact congrArg some (Prod.ext hn rfl)
section
variable {prog : Program} {w : World} {A : Around} {E : Value → Shared → Prop} {s : Shared} {a₀ : Array Keyed}
theorem lt_at {st : SortSt} {i j : Nat} {Q : Option Bool → SortSt → Prop} (hB : TB a₀ st) (h0 : IntKeys a₀) (hi : i < a₀.size) (hj : j < a₀.size)
  (told : Q (some (decide (K (arrOf st) i < K (arrOf st) j))) st) : wpS (model prog w) A E s (ltAt' i j) Q st := by
 obtain ⟨t, p, e1⟩ := at_int hB.pm h0 hi
 obtain ⟨u, q, e2⟩ := at_int hB.pm h0 hj
 exact wpS_ltAt hB.kd e1 e2 told
theorem lt_in {st : SortSt} {xs : Array Keyed} {i j : Nat} {Q : Option Bool → SortSt → Prop} (hB : TB a₀ (setArr st xs)) (h0 : IntKeys a₀) (hi : i < a₀.size) (hj : j < a₀.size)
  (h : Q (some (decide (K xs i < K xs j))) (setArr st xs)) : wpS (model prog w) A E s (ltAt' i j) Q (setArr st xs) := lt_at hB h0 hi hj h
theorem flip_at {st : SortSt} {i j : Nat} {Q : Unit → SortSt → Prop} (hj : j ≤ (arrOf st).size)
  (h : ∀ xs, Ch xs (arrOf st) i j → (∀ k, i ≤ k → k < j → K xs k = K (arrOf st) (i + j - 1 - k)) → Q () (setArr st xs)) :
  wpS (model prog w) A E s (reverseSlice' i j) Q st := by
 rw [reverseSlice'_eq]
 refine wpS_modify (h _ ⟨mirror_perm _ _ _ _, fun k hk => ?_⟩ fun k h1 h2 => ?_)
 · rw [K_mirror hj, if_neg (by omega)]
 · rw [K_mirror hj, if_pos ⟨h1, h2⟩]
theorem flip_same {st : SortSt} {i j : Nat} {Q : Unit → SortSt → Prop} (hj : j ≤ (arrOf st).size) (he : ∀ k, i ≤ k → k < j → K (arrOf st) k = K (arrOf st) (j - 1))
  (h : ∀ xs, xs.Perm (arrOf st) → (∀ k, K xs k = K (arrOf st) k) → Q () (setArr st xs)) :
  wpS (model prog w) A E s (reverseSlice' i j) Q st := by
 refine flip_at hj fun xs c hk => h xs c.1 fun k => ?_
 by_cases hh : i ≤ k ∧ k < j
 · rw [hk k hh.1 hh.2, he _ (by omega) (by omega), he k hh.1 hh.2]
 · exact c.2 k (by omega)
noncomputable def dTail (lo m0 nrem : Nat) : StateT SortSt Sem (Option Nat) := do
 let mut m := m0
 reverseSlice' lo (lo + m)
 for _ in [m:nrem] do
  let some less ← ltAt' (lo + m) (lo + m - 1) | return none
  if less then break
  m := m + 1
 return some m
noncomputable def dPart (lo m0 nrem : Nat) : StateT SortSt Sem (Option Nat) := do
 let mut m := m0
 rule "list.sort.descending-run"
 m := m + 1
 let mut q := 0
 for _ in [m:nrem] do
  let some less ← ltAt' (lo + m) (lo + m - 1) | return none
  if less then
   if q > 0 then reverseSlice' (lo + m - (q + 1)) (lo + m)
   q := 0
  else
   let some more ← ltAt' (lo + m - 1) (lo + m) | return none
   if more then break
   q := q + 1
  m := m + 1
 if q > 0 then reverseSlice' (lo + m - (q + 1)) (lo + m)
 dTail lo m nrem
noncomputable def cRun (lo nrem : Nat) : StateT SortSt Sem (Option Nat) := do
 let mut m := 1
 for _ in [1:nrem] do
  let some less ← ltAt' (lo + m) (lo + m - 1) | return none
  if less then break
  m := m + 1
 if m == nrem then return some m
 if m > 1 then
  let some more ← ltAt' lo (lo + m - 1) | return none
  if more then return some m
  reverseSlice' lo (lo + m)
 dPart lo m nrem
theorem countRun_is (lo nrem : Nat) : countRun' lo nrem = cRun lo nrem := by
 rw [countRun'_eq]
 rfl
theorem seg_snoc {xs : Array Keyed} {i j : Nat} (hs : Seg xs i j) (h : i < j → K xs (j - 1) ≤ K xs j) : Seg xs i (j + 1) := by
 intro p q h1 h2 h3
 by_cases hq : q < j
 · exact hs p q h1 h2 hq
 · have : q = j := by omega
   subst this
   by_cases hp : p = q
   · subst hp; exact Int.le_refl _
   · exact Int.le_trans (hs p (q - 1) h1 (by omega) (by omega)) (h (by omega))
theorem dsc_snoc {xs : Array Keyed} {i j : Nat} (hs : Dsc xs i j) (h : i < j → K xs j ≤ K xs (j - 1)) : Dsc xs i (j + 1) := by
 intro p q h1 h2 h3
 by_cases hq : q < j
 · exact hs p q h1 h2 hq
 · have : q = j := by omega
   subst this
   by_cases hp : p = q
   · subst hp; exact Int.le_refl _
   · exact Int.le_trans (h (by omega)) (hs p (q - 1) h1 (by omega) (by omega))
theorem dsc_same {xs ys : Array Keyed} {i j : Nat} (hs : Dsc xs i j) (h : ∀ k, K ys k = K xs k) : Dsc ys i j := by
 intro p q h1 h2 h3; rw [h, h]; exact hs p q h1 h2 h3
theorem asc_loop {st : SortSt} {lo a nrem : Nat} {R : Option (Option Nat) × Nat → SortSt → Prop} (h0 : IntKeys a₀) (hn : lo + nrem ≤ a₀.size) (ha : 1 ≤ a) (han : a ≤ nrem) (hB : TB a₀ st) (hs : Seg (arrOf st) lo (lo + a))
  (h : ∀ n, a ≤ n → n ≤ nrem → Seg (arrOf st) lo (lo + n) → (n = nrem ∨ K (arrOf st) (lo + n) < K (arrOf st) (lo + n - 1)) → R (none, n) st) :
  wpS (model prog w) A E s (forIn [a:nrem] ((none, a) : Option (Option Nat) × Nat) fun _ c => do
        let x ← ltAt' (lo + c.snd) (lo + c.snd - 1)
        match x with
         | some less => if less = true then pure (ForInStep.done (none, c.snd)) else pure (ForInStep.yield (none, c.snd + 1))
         | _ => pure (ForInStep.done (some none, c.snd))) R st := by
 refine wpS_forRange (I := fun x c z => z = st ∧ c = (none, x) ∧ Seg (arrOf st) lo (lo + x)) ?_ ?_ ⟨rfl, rfl, hs⟩
 · rintro x c z hax hxn ⟨rfl, rfl, hz⟩
   dsimp only
   refine wpS_bind (lt_at hB h0 (by omega) (by omega) ?_)
   by_cases hl : K (arrOf z) (lo + x) < K (arrOf z) (lo + x - 1)
   · simp only [hl, decide_true, if_true]
     exact wpS_pure (h x hax (by omega) hz (.inr hl))
   · simp only [hl, decide_false, Bool.false_eq_true, if_false]
     exact wpS_pure ⟨rfl, rfl, seg_snoc hz fun _ => Int.not_lt.mp hl⟩
 · rintro c z ⟨rfl, rfl, hz⟩
   rw [show max a nrem = nrem by omega] at hz ⊢
   exact h nrem han (Nat.le_refl _) hz (.inl rfl)
theorem wp_tail {st : SortSt} {lo n nrem : Nat} {Q : Option Nat → SortSt → Prop} (h0 : IntKeys a₀) (hn : lo + nrem ≤ a₀.size) (h1 : 1 ≤ n) (hnn : n ≤ nrem) (hB : TB a₀ st) (hs : Dsc (arrOf st) lo (lo + n))
  (h : ∀ m xs, Ch xs (arrOf st) lo (lo + nrem) → 1 ≤ m → m ≤ nrem → Seg xs lo (lo + m) → Q (some m) (setArr st xs)) :
  wpS (model prog w) A E s (dTail lo n nrem) Q st := by
 unfold dTail
 refine wpS_bind (flip_at (by rw [hB.sz]; omega) fun xs c hk => ?_)
 refine wpS_bind (asc_loop h0 hn h1 hnn (hB.arr c.1) ?_ fun m hm1 hm2 hsm _ => wpS_pure (h m xs (c.wide (Nat.le_refl _) (by omega)) (by omega) hm2 hsm))
 intro p q g1 g2 g3
 show K xs p ≤ K xs q
 rw [hk p g1 (by omega), hk q (by omega) g3]
 exact hs _ _ (by omega) (by omega) (by omega)
theorem wp_part {st : SortSt} {lo n nrem : Nat} {Q : Option Nat → SortSt → Prop} (h0 : IntKeys a₀) (hn : lo + nrem ≤ a₀.size) (hnn : n + 1 ≤ nrem) (hB : TB a₀ st) (hs : Dsc (arrOf st) lo (lo + (n + 1)))
  (h : ∀ m xs, Ch xs (arrOf st) lo (lo + nrem) → 1 ≤ m → m ≤ nrem → Seg xs lo (lo + m) → Q (some m) (setArr st xs)) :
  wpS (model prog w) A E s (dPart lo n nrem) Q st := by
 unfold dPart
 refine wpS_bind (wpS_lift (wpAny_rule ⟨rfl, ?_⟩))
 refine wpS_bind (wpS_mono (wpS_forRange
  (I := fun x c z => ∃ q xs, c = (none, x, q) ∧ z = setArr st xs ∧ xs.Perm (arrOf st) ∧ (∀ k, K xs k = K (arrOf st) k) ∧ Dsc xs lo (lo + x) ∧ q + 1 ≤ x ∧ ∀ i, lo + x - (q + 1) ≤ i → i < lo + x → K xs i = K xs (lo + x - 1))
  (Q := fun c z => ∃ x q xs, n + 1 ≤ x ∧ x ≤ nrem ∧ c = (none, x, q) ∧ z = setArr st xs ∧ xs.Perm (arrOf st) ∧ (∀ k, K xs k = K (arrOf st) k) ∧ Dsc xs lo (lo + x) ∧ q + 1 ≤ x ∧ ∀ i, lo + x - (q + 1) ≤ i → i < lo + x → K xs i = K xs (lo + x - 1))
  ?step ?fin ⟨0, arrOf st, rfl, rfl, Array.Perm.refl _, fun _ => rfl, hs, by omega, fun i _ _ => by congr 1; omega⟩) ?post)
 case fin =>
  rintro c z ⟨q, xs, e1, e2, e3, e4, e5, e6, e7⟩
  rw [show max (n + 1) nrem = nrem by omega] at e1 e5 e6 e7
  exact ⟨nrem, q, xs, hnn, Nat.le_refl _, e1, e2, e3, e4, e5, e6, e7⟩
 case step =>
  rintro x c z hax hxn ⟨q, xs, rfl, rfl, hp, hk, hd, hq, he⟩
  have hB' : TB a₀ (setArr st xs) := hB.arr hp
  have hsz : lo + x ≤ (arrOf (setArr st xs)).size := by rw [hB'.sz]; omega
  dsimp only
  refine wpS_bind (lt_in hB' h0 (by omega) (by omega) ?_)
  by_cases hl : K xs (lo + x) < K xs (lo + x - 1)
  · simp only [hl, decide_true, if_true]
    have hd1 : Dsc xs lo (lo + x + 1) := dsc_snoc hd fun _ => Int.le_of_lt hl
    by_cases hq0 : q > 0
    · rw [if_pos hq0]
      refine wpS_bind (flip_same hsz he fun ys y1 y2 => wpS_pure ?_)
      exact ⟨0, ys, rfl, rfl, y1.trans hp, fun k => (y2 k).trans (hk k), dsc_same hd1 y2, by omega, fun i _ _ => by congr 1; omega⟩
    · rw [if_neg hq0]
      exact wpS_pure ⟨0, xs, rfl, rfl, hp, hk, hd1, by omega, fun i _ _ => by congr 1; omega⟩
  · simp only [hl, decide_false, Bool.false_eq_true, if_false]
    refine wpS_bind (lt_in hB' h0 (by omega) (by omega) ?_)
    by_cases hm : K xs (lo + x - 1) < K xs (lo + x)
    · simp only [hm, decide_true, if_true]
      exact wpS_pure ⟨x, q, xs, hax, by omega, rfl, rfl, hp, hk, hd, hq, he⟩
    · simp only [hm, decide_false, Bool.false_eq_true, if_false]
      have eq : K xs (lo + x) = K xs (lo + x - 1) := by omega
      refine wpS_pure ⟨q + 1, xs, rfl, rfl, hp, hk, dsc_snoc hd fun _ => Int.le_of_eq eq, by omega, fun i g1 g2 => ?_⟩
      rw [show lo + (x + 1) - 1 = lo + x by omega]
      by_cases hi : i = lo + x
      · rw [hi]
      · rw [eq]; exact he i (by omega) (by omega)
 case post =>
  rintro c z ⟨x, q, xs, hx1, hx2, rfl, rfl, hp, hk, hd, hq, he⟩
  have hB' : TB a₀ (setArr st xs) := hB.arr hp
  have hsz : lo + x ≤ (arrOf (setArr st xs)).size := by rw [hB'.sz]; omega
  have fin : ∀ ys : Array Keyed, ys.Perm xs → (∀ k, K ys k = K xs k) → wpS (model prog w) A E s (dTail lo x nrem) Q (setArr st ys) := fun ys y1 y2 =>
   wp_tail (st := setArr st ys) h0 hn (by omega) hx2 (hB.arr (y1.trans hp)) (dsc_same hd y2) fun m zs c z1 z2 z3 =>
    h m zs (c.tr ⟨y1.trans hp, fun k _ => (y2 k).trans (hk k)⟩) z1 z2 z3
  dsimp only
  by_cases hq0 : q > 0
  · rw [if_pos hq0]
    exact wpS_bind (flip_same hsz he fun ys y1 y2 => fin ys y1 y2)
  · rw [if_neg hq0]
    exact fin xs (Array.Perm.refl _) fun _ => rfl
theorem wp_run {st : SortSt} {lo nrem : Nat} {Q : Option Nat → SortSt → Prop} (h0 : IntKeys a₀) (hn : lo + nrem ≤ a₀.size) (h1 : 1 ≤ nrem) (hB : TB a₀ st)
  (h : ∀ m xs, Ch xs (arrOf st) lo (lo + nrem) → 1 ≤ m → m ≤ nrem → Seg xs lo (lo + m) → Q (some m) (setArr st xs)) :
  wpS (model prog w) A E s (countRun' lo nrem) Q st := by
 rw [countRun_is]
 unfold cRun
 refine wpS_bind (asc_loop h0 hn (Nat.le_refl 1) h1 hB (fun p q _ _ _ => by rw [show p = q by omega]; exact Int.le_refl _) fun n g1 g2 hs hor => ?_)
 dsimp only
 by_cases hnn : n = nrem
 · rw [if_pos (by simpa using hnn)]
   exact wpS_pure (h n _ Ch.rfl' g1 g2 hs)
 rw [if_neg (by simpa using hnn)]
 have hl := hor.resolve_left hnn
 by_cases hgt : n > 1
 · rw [if_pos hgt]
   refine wpS_bind (lt_at hB h0 (by omega) (by omega) ?_)
   by_cases hr : K (arrOf st) lo < K (arrOf st) (lo + n - 1)
   · simp only [hr, decide_true, if_true]
     exact wpS_pure (h n _ Ch.rfl' g1 g2 hs)
   · simp only [hr, decide_false, Bool.false_eq_true, if_false]
     have hall : ∀ k, lo ≤ k → k < lo + n → K (arrOf st) k = K (arrOf st) (lo + n - 1) := fun k k1 k2 => by
      have a1 := hs lo k (Nat.le_refl _) k1 k2
      have a2 := hs k (lo + n - 1) k1 (by omega) (by omega)
      omega
     refine wpS_bind (flip_same (by rw [hB.sz]; omega) hall fun ys y1 y2 => ?_)
     refine wp_part (st := setArr st ys) h0 hn (by omega) (hB.arr y1) ?_ fun m zs c z1 z2 z3 => h m zs (c.tr ⟨y1, fun k _ => y2 k⟩) z1 z2 z3
     refine dsc_same (xs := arrOf st) ?_ y2
     show Dsc (arrOf st) lo (lo + n + 1)
     refine dsc_snoc (fun p q k1 k2 k3 => ?_) fun _ => Int.le_of_lt hl
     rw [hall p k1 (by omega), hall q (by omega) k3]; exact Int.le_refl _
 · rw [if_neg hgt]
   have e : n = 1 := by omega
   subst e
   refine wp_part h0 hn (by omega) hB ?_ h
   exact dsc_snoc (fun p q _ _ _ => by rw [show p = q by omega]; exact Int.le_refl _) fun _ => Int.le_of_lt hl
theorem wp_ins {st : SortSt} {lo n ok : Nat} {Q : Bool → SortSt → Prop} (h0 : IntKeys a₀) (hn : lo + n ≤ a₀.size) (hok : ok ≤ n) (hB : TB a₀ st) (hs : Seg (arrOf st) lo (lo + ok))
  (h : ∀ xs, Ch xs (arrOf st) lo (lo + n) → Seg xs lo (lo + n) → Q true (setArr st xs)) : wpS (model prog w) A E s (binarySort' lo n ok) Q st := by
 rw [binarySort'_eq]
 refine wpS_bind (wpS_mono (wpS_forRange (I := fun k c z => ∃ xs, c = (none, ()) ∧ z = setArr st xs ∧ Ch xs (arrOf st) lo (lo + n) ∧ Seg xs lo (lo + min k n))
  (Q := fun c z => ∃ xs, c = (none, ()) ∧ z = setArr st xs ∧ Ch xs (arrOf st) lo (lo + n) ∧ Seg xs lo (lo + n)) ?step ?fin ?init) ?post)
 case post =>
  rintro c z ⟨xs, rfl, rfl, c, hz⟩
  exact wpS_pure (h xs c hz)
 case init =>
  refine ⟨arrOf st, rfl, rfl, Ch.rfl', fun p q k1 k2 k3 => ?_⟩
  by_cases g : ok = 0
  · have e : p = q := by omega
    rw [e]; exact Int.le_refl _
  · exact hs p q k1 k2 (by omega)
 case fin =>
  rintro c z ⟨xs, e1, e2, e3, e4⟩
  refine ⟨xs, e1, e2, e3, ?_⟩
  rwa [show min (max (max ok 1) n) n = n by omega] at e4
 case step =>
  rintro k c z hak hkn ⟨xs, rfl, rfl, c, hz⟩
  rw [show min k n = k by omega] at hz
  have hB' : TB a₀ (setArr st xs) := hB.arr c.1
  refine wpS_bind (wpS_mono (wpS_forRange (I := fun x e y => y = setArr st xs ∧ ∃ l r, e = (none, l, r) ∧ l ≤ r ∧ r ≤ k ∧ r - l ≤ k - x ∧
    (∀ i, i < l → K xs (lo + i) ≤ K xs (lo + k)) ∧ (∀ i, r ≤ i → i < k → K xs (lo + k) < K xs (lo + i)))
   (Q := fun e y => y = setArr st xs ∧ ∃ l r, e = (none, l, r) ∧ l ≤ k ∧
     (∀ i, i < l → K xs (lo + i) ≤ K xs (lo + k)) ∧ (∀ i, l ≤ i → i < k → K xs (lo + k) < K xs (lo + i))) ?a ?b ?c) ?d)
  case c => exact ⟨rfl, 0, k, rfl, by omega, by omega, by omega, fun i hi => by omega, fun i _ _ => by omega⟩
  case b =>
   rintro e y ⟨rfl, l, r, rfl, g1, g2, g3, g4, g5⟩
   have e : l = r := by omega
   subst e
   exact ⟨rfl, l, l, rfl, g2, g4, g5⟩
  case a =>
   rintro x e y _ hx ⟨rfl, l, r, rfl, g1, g2, g3, g4, g5⟩
   dsimp only
   by_cases hge : l ≥ r
   · rw [if_pos hge]
     have e : l = r := by omega
     subst e
     exact wpS_pure ⟨rfl, l, l, rfl, g2, g4, g5⟩
   · rw [if_neg hge]
     refine wpS_bind (lt_in hB' h0 (by omega) (by omega) ?_)
     by_cases hl : K xs (lo + k) < K xs (lo + (l + r) / 2)
     · simp only [hl, decide_true, if_true]
       exact wpS_pure ⟨rfl, l, (l + r) / 2, rfl, by omega, by omega, by omega, g4, fun i k1 k2 => Int.lt_of_lt_of_le hl (hz _ _ (by omega) (by omega) (by omega))⟩
     · simp only [hl, decide_false, Bool.false_eq_true, if_false]
       exact wpS_pure ⟨rfl, (l + r) / 2 + 1, r, rfl, by omega, by omega, by omega, fun i k1 => Int.le_trans (hz (lo + i) (lo + (l + r) / 2) (by omega) (by omega) (by omega)) (Int.not_lt.mp hl), g5⟩
  case d =>
   rintro e y ⟨rfl, l, r, rfl, g1, g2, g3⟩
   show wpS _ _ _ _ (do moveDown' (lo + k) (lo + l); pure (ForInStep.yield (none, ()))) _ _
   rw [moveDown'_eq]
   have hks : lo + k < xs.size := by have := hB'.sz; change xs.size = _ at this; omega
   have hkk : ∀ i, K (bubble xs (lo + k) (lo + k - (lo + l))) i = if i = lo + l then K xs (lo + k) else if lo + l < i ∧ i ≤ lo + k then K xs (i - 1) else K xs i := fun i => by
    rw [K_bubble hks (by omega), show lo + k - (lo + k - (lo + l)) = lo + l by omega]
   refine wpS_bind (wpS_modify (wpS_pure ⟨_, rfl, rfl, ⟨(bubble_perm _ _ _).trans c.1, fun i hi => ?_⟩, ?_⟩))
   · show K (bubble xs (lo + k) (lo + k - (lo + l))) i = _
     rw [hkk, if_neg (by omega), if_neg (by omega)]
     exact c.2 i hi
   · rw [show min (k + 1) n = k + 1 by omega]
     intro p q k1 k2 k3
     show K (bubble xs (lo + k) (lo + k - (lo + l))) p ≤ K (bubble xs (lo + k) (lo + k - (lo + l))) q
     rw [hkk, hkk]
     have lo' : ∀ i, lo ≤ i → i < lo + l → K xs i ≤ K xs (lo + k) := fun i a b => by have := g2 (i - lo) (by omega); rwa [show lo + (i - lo) = i by omega] at this
     have hi' : ∀ i, lo + l ≤ i → i < lo + k → K xs (lo + k) ≤ K xs i := fun i a b => by have := g3 (i - lo) (by omega) (by omega); rw [show lo + (i - lo) = i by omega] at this; exact Int.le_of_lt this
     repeat' split
     all_goals first
      | (exfalso; omega)
      | exact Int.le_refl _
      | exact lo' _ (by omega) (by omega)
      | exact hi' _ (by omega) (by omega)
      | exact hz _ _ (by omega) (by omega) (by omega)
end
set_option autoImplicit false
noncomputable def gallop' : Bool → Keyed → Array Keyed → Nat → Nat → Nat → StateT SortSt Sem (Option Nat) := sortPriv% PySem.Builtin.gallop
noncomputable def galB (ask : Nat → StateT SortSt Sem (Option Bool)) (n l₀ h₀ : Nat) : StateT SortSt Sem (Option Nat) := do
 let mut lo := l₀
 let mut hi := h₀
 for _ in [0:n] do
  if lo ≥ hi then break
  let mid := lo + (hi - lo) / 2
  let some yes ← ask mid | return none
  if yes then lo := mid + 1 else hi := mid
 return some hi
noncomputable def gal (ask : Nat → StateT SortSt Sem (Option Bool)) (n hint : Nat) : StateT SortSt Sem (Option Nat) := do
 let mut last := 0
 let mut off := 1
 let mut lo := 0
 let mut hi := 0
 let some right ← ask hint | return none
 if right then
  let top := n - hint
  for _ in [0:n] do
   if off ≥ top then break
   let some yes ← ask (hint + off) | return none
   if !yes then break
   last := off
   off := 2 * off + 1
  lo := hint + last + 1
  hi := hint + min off top
 else
  let top := hint + 1
  for _ in [0:n] do
   if off ≥ top then break
   let some yes ← ask (hint - off) | return none
   if yes then break
   last := off
   off := 2 * off + 1
  lo := hint + 1 - min off top
  hi := hint - last
 galB ask n lo hi
theorem gallop_is (left : Bool) (key : Keyed) (arr : Array Keyed) (base n hint : Nat) : gallop' left key arr base n hint = gal (fun i => do
  let x ← elem' arr (base + i)
  if left then lt' x key else return (← lt' key x).map (!·)) n hint := rfl
section
variable {prog : Program} {w : World} {A : Around} {E : Value → Shared → Prop} {s : Shared}
noncomputable def Cut (g : Nat → Bool) (n r : Nat) : Prop := r ≤ n ∧ (∀ i, i < r → g i = true) ∧ ∀ i, r ≤ i → i < n → g i = false
variable {st : SortSt} {ask : Nat → StateT SortSt Sem (Option Bool)} {g : Nat → Bool} {n : Nat}
 (hask : ∀ (i : Nat) (R : Option Bool → SortSt → Prop), i < n → R (some (g i)) st → wpS (model prog w) A E s (ask i) R st)
 (mono : ∀ i j, i ≤ j → j < n → g j = true → g i = true)
include hask mono
theorem wp_galB {l₀ h₀ : Nat} {Q : Option Nat → SortSt → Prop} (hle : l₀ ≤ h₀) (hh : h₀ ≤ n) (hl : ∀ i, i < l₀ → g i = true) (hg : ∀ i, h₀ ≤ i → i < n → g i = false)
  (h : ∀ r, Cut g n r → Q (some r) st) : wpS (model prog w) A E s (galB ask n l₀ h₀) Q st := by
 unfold galB
 refine wpS_bind (wpS_mono (wpS_forRange
  (I := fun x c z => z = st ∧ ∃ l r, c = (none, l, r) ∧ l ≤ r ∧ r ≤ n ∧ r - l ≤ n - x ∧ (∀ i, i < l → g i = true) ∧ (∀ i, r ≤ i → i < n → g i = false))
  (Q := fun c z => z = st ∧ ∃ l, ∃ r, c = (none, l, r) ∧ Cut g n r) ?a ?b ⟨rfl, l₀, h₀, rfl, hle, hh, by omega, hl, hg⟩) ?c)
 case c =>
  rintro c z ⟨rfl, l, r, rfl, hc⟩
  exact wpS_pure (h r hc)
 case b =>
  rintro c z ⟨rfl, l, r, rfl, g1, g2, g3, g4, g5⟩
  have e : l = r := by omega
  subst e
  exact ⟨rfl, l, l, rfl, g2, g4, g5⟩
 case a =>
  rintro x c z _ hx ⟨rfl, l, r, rfl, g1, g2, g3, g4, g5⟩
  dsimp only
  by_cases hge : l ≥ r
  · rw [if_pos hge]
    have e : l = r := by omega
    subst e
    exact wpS_pure ⟨rfl, l, l, rfl, g2, g4, g5⟩
  · rw [if_neg hge]
    refine wpS_bind (hask _ _ (by omega) ?_)
    dsimp only
    cases hy : g (l + (r - l) / 2) with
    | true =>
      simp only [if_true]
      exact wpS_pure ⟨rfl, l + (r - l) / 2 + 1, r, rfl, by omega, g2, by omega, fun i hi => mono i _ (by omega) (by omega) hy, g5⟩
    | false =>
      simp only [Bool.false_eq_true, if_false]
      refine wpS_pure ⟨rfl, l, l + (r - l) / 2, rfl, by omega, by omega, by omega, g4, fun i h1 h2 => ?_⟩
      cases hi : g i with
      | false => rfl
      | true => rw [mono _ i h1 h2 hi] at hy; cases hy
theorem wp_gal {hint : Nat} {Q : Option Nat → SortSt → Prop} (hhint : hint < n) (h : ∀ r, Cut g n r → Q (some r) st) : wpS (model prog w) A E s (gal ask n hint) Q st := by
 unfold gal
 refine wpS_bind (hask _ _ hhint ?_)
 dsimp only
 cases hr : g hint with
 | true =>
   simp only [if_true]
   refine wpS_bind (wpS_mono (wpS_forRange
    (I := fun x c z => z = st ∧ ∃ l o, c = (none, l, o) ∧ l < o ∧ x + 1 ≤ o ∧ hint + l < n ∧ g (hint + l) = true)
    (Q := fun c z => z = st ∧ ∃ l o, c = (none, l, o) ∧ l < o ∧ hint + l < n ∧ g (hint + l) = true ∧ (n - hint ≤ o ∨ (hint + o < n ∧ g (hint + o) = false))) ?a ?b ⟨rfl, 0, 1, rfl, by omega, by omega, hhint, hr⟩) ?c)
   case c =>
    rintro c z ⟨rfl, l, o, rfl, h1, h2, h3, h4⟩
    dsimp only
    refine wp_galB hask mono (by omega) (by omega) (fun i hi => mono i _ (by omega) h2 h3) (fun i i1 i2 => ?_) h
    rcases h4 with h4 | ⟨h4, h5⟩
    · omega
    · cases hi : g i with
      | false => rfl
      | true => rw [mono _ i (by omega) i2 hi] at h5; cases h5
   case b =>
    rintro c z ⟨rfl, l, o, rfl, h1, h2, h3, h4⟩
    exact ⟨rfl, l, o, rfl, h1, h3, h4, .inl (by omega)⟩
   case a =>
    rintro x c z _ hx ⟨rfl, l, o, rfl, h1, h2, h3, h4⟩
    dsimp only
    by_cases hge : o ≥ n - hint
    · rw [if_pos hge]
      exact wpS_pure ⟨rfl, l, o, rfl, h1, h3, h4, .inl hge⟩
    · rw [if_neg hge]
      refine wpS_bind (hask _ _ (by omega) ?_)
      dsimp only
      cases hy : g (hint + o) with
      | true =>
        simp only [Bool.not_true, Bool.false_eq_true, if_false]
        exact wpS_pure ⟨rfl, o, 2 * o + 1, rfl, by omega, by omega, by omega, hy⟩
      | false =>
        simp only [Bool.not_false, if_true]
        exact wpS_pure ⟨rfl, l, o, rfl, h1, h3, h4, .inr ⟨by omega, hy⟩⟩
 | false =>
   simp only [Bool.false_eq_true, if_false]
   refine wpS_bind (wpS_mono (wpS_forRange
    (I := fun x c z => z = st ∧ ∃ l o, c = (none, l, o) ∧ l < o ∧ x + 1 ≤ o ∧ l ≤ hint ∧ g (hint - l) = false)
    (Q := fun c z => z = st ∧ ∃ l o, c = (none, l, o) ∧ l < o ∧ l ≤ hint ∧ g (hint - l) = false ∧ (hint + 1 ≤ o ∨ (o ≤ hint ∧ g (hint - o) = true))) ?a ?b ⟨rfl, 0, 1, rfl, by omega, by omega, by omega, hr⟩) ?c)
   case c =>
    rintro c z ⟨rfl, l, o, rfl, h1, h2, h3, h4⟩
    dsimp only
    refine wp_galB hask mono (by omega) (by omega) (fun i hi => ?_) (fun i i1 i2 => ?_) h
    · rcases h4 with h4 | ⟨h4, h5⟩
      · omega
      · exact mono i _ (by omega) (by omega) h5
    · cases hi : g i with
      | false => rfl
      | true => rw [mono _ i i1 i2 hi] at h3; cases h3
   case b =>
    rintro c z ⟨rfl, l, o, rfl, h1, h2, h3, h4⟩
    exact ⟨rfl, l, o, rfl, h1, h3, h4, .inl (by omega)⟩
   case a =>
    rintro x c z _ hx ⟨rfl, l, o, rfl, h1, h2, h3, h4⟩
    dsimp only
    by_cases hge : o ≥ hint + 1
    · rw [if_pos hge]
      exact wpS_pure ⟨rfl, l, o, rfl, h1, h3, h4, .inl hge⟩
    · rw [if_neg hge]
      refine wpS_bind (hask _ _ (by omega) ?_)
      dsimp only
      cases hy : g (hint - o) with
      | true =>
        simp only [if_true]
        exact wpS_pure ⟨rfl, l, o, rfl, h1, h3, h4, .inr ⟨by omega, hy⟩⟩
      | false =>
        simp only [Bool.false_eq_true, if_false]
        exact wpS_pure ⟨rfl, o, 2 * o + 1, rfl, by omega, by omega, by omega, hy⟩
end
section
variable {prog : Program} {w : World} {A : Around} {E : Value → Shared → Prop} {s : Shared} {st : SortSt}
theorem wp_lt {x y : Keyed} {Q : Option Bool → SortSt → Prop} (hk : kindOf st = oneType') (hx : IsI x) (hy : IsI y) (h : Q (some (decide (ky x < ky y))) st) :
  wpS (model prog w) A E s (lt' x y) Q st := by
 obtain ⟨x1, x2⟩ := x
 obtain ⟨y1, y2⟩ := y
 obtain ⟨a, t, ha⟩ := hx
 obtain ⟨b, u, hb⟩ := hy
 simp only at ha hb
 subst ha hb
 rw [lt'_eq]
 refine wpS_bind (wpS_get ?_)
 rw [hk, keyLt'_oneType]
 refine wpS_bind (wpS_lift (wpAny_attempt (oneLt_int ⟨rfl, ?_⟩)))
 exact wpS_pure h
theorem wp_elem {arr : Array Keyed} {i : Nat} {p : Keyed} {Q : Keyed → SortSt → Prop} (hp : arr[i]? = some p) (h : Q p st) : wpS (model prog w) A E s (elem' arr i) Q st := by
 rw [elem'_eq, hp]
 exact wpS_pure h
theorem wp_gallop {left : Bool} {key : Keyed} {arr : Array Keyed} {base n hint : Nat} {Q : Option Nat → SortSt → Prop} (hk : kindOf st = oneType') (hkey : IsI key) (hI : ∀ p ∈ arr.toList, IsI p)
  (hb : base + n ≤ arr.size) (hs : Seg arr base (base + n)) (hhint : hint < n)
  (h : ∀ r, r ≤ n → (∀ i, base ≤ i → i < base + r → if left then K arr i < ky key else K arr i ≤ ky key) → (∀ i, base + r ≤ i → i < base + n → if left then ky key ≤ K arr i else ky key < K arr i) → Q (some r) st) :
  wpS (model prog w) A E s (gallop' left key arr base n hint) Q st := by
 rw [gallop_is]
 refine wp_gal (g := fun i => if left then decide (K arr (base + i) < ky key) else decide (K arr (base + i) ≤ ky key)) ?_ ?_ hhint ?_
 · intro i R hi hR
   have hi' : base + i < arr.size := by omega
   have e : arr[base + i]? = some arr[base + i] := getElem?_pos arr (base + i) hi'
   have hp : IsI arr[base + i] := hI _ (by simp)
   have eK : K arr (base + i) = ky arr[base + i] := K_eq hi'
   refine wpS_bind (wp_elem e ?_)
   cases left with
   | true =>
     simp only [if_true] at hR ⊢
     refine wp_lt hk hp hkey ?_
     rw [← eK]; exact hR
   | false =>
     simp only [Bool.false_eq_true, if_false] at hR ⊢
     refine wpS_bind (wp_lt hk hkey hp ?_)
     refine wpS_pure ?_
     have : (Option.map (fun x => !x) (some (decide (ky key < ky arr[base + i])))) = some (decide (K arr (base + i) ≤ ky key)) := by
      rw [eK]
      simp only [Option.map_some, Option.some.injEq]
      by_cases hlt : ky key < ky arr[base + i]
      · simp [hlt, Int.not_le.mpr hlt]
      · simp [hlt, Int.not_lt.mp hlt]
     rw [this]; exact hR
 · intro i j hij hj hg
   have := hs (base + i) (base + j) (by omega) (by omega) (by omega)
   cases left <;> simp only [Bool.false_eq_true, if_false, if_true, decide_eq_true_eq] at hg ⊢ <;> omega
 · rintro r ⟨h1, h2, h3⟩
   refine h r h1 (fun i i1 i2 => ?_) fun i i1 i2 => ?_
   · have := h2 (i - base) (by omega)
     dsimp only at this
     rw [show base + (i - base) = i by omega] at this
     cases left <;> simpa using this
   · have := h3 (i - base) (by omega) (by omega)
     dsimp only at this
     rw [show base + (i - base) = i by omega] at this
     cases left <;> simpa using this
end
set_option autoImplicit false
noncomputable def Sd (l : List Keyed) : Prop := l.Pairwise fun p q => ky p ≤ ky q
theorem Sd.app {l r : List Keyed} : Sd (l ++ r) ↔ Sd l ∧ Sd r ∧ ∀ p ∈ l, ∀ q ∈ r, ky p ≤ ky q := by
 unfold Sd; rw [List.pairwise_append]
theorem sd_seg {a : Array Keyed} (h : Sd a.toList) {i j : Nat} (hj : j ≤ a.size) : Seg a i j := by
 intro p q h1 h2 h3
 rw [K_eq (show p < a.size by omega), K_eq (show q < a.size by omega)]
 by_cases e : p = q
 · subst e; exact Int.le_refl _
 · have := List.pairwise_iff_getElem.mp h p q (by simp; omega) (by simp; omega) (by omega)
   simpa [ky] using this
theorem at_mem {a : Array Keyed} {i : Nat} {p : Keyed} (h : a.toList[i]? = some p) : i < a.size ∧ K a i = ky p := by
 obtain ⟨h1, h2⟩ := List.getElem?_eq_some_iff.mp h
 have h1' : i < a.size := by simpa using h1
 refine ⟨h1', ?_⟩
 rw [K_eq h1', ← h2]
 simp [ky]
theorem drop_mem {l : List Keyed} {x : Nat} {p : Keyed} (h : p ∈ l.drop x) : ∃ i, x ≤ i ∧ l[i]? = some p := by
 obtain ⟨i, hi, e⟩ := List.getElem_of_mem h
 refine ⟨x + i, by omega, ?_⟩
 rw [← List.getElem?_drop, List.getElem?_eq_getElem hi, e]
theorem take_drop_mem {l : List Keyed} {x k : Nat} {p : Keyed} (h : p ∈ (l.drop x).take k) : ∃ i, x ≤ i ∧ i < x + k ∧ l[i]? = some p := by
 obtain ⟨i, hi, e⟩ := List.getElem_of_mem h
 have hk : i < k := by rw [List.length_take] at hi; omega
 refine ⟨x + i, by omega, by omega, ?_⟩
 rw [← List.getElem?_drop, ← List.getElem?_take_of_lt hk, List.getElem?_eq_getElem hi, e]
theorem take_mem {l : List Keyed} {k : Nat} {p : Keyed} (h : p ∈ l.take k) : ∃ i, i < k ∧ l[i]? = some p := by
 obtain ⟨i, hi, e⟩ := List.getElem_of_mem h
 have hk : i < k := by rw [List.length_take] at hi; omega
 exact ⟨i, hk, by rw [← List.getElem?_take_of_lt hk, List.getElem?_eq_getElem hi, e]⟩
theorem sd_drop {a : Array Keyed} (h : Sd a.toList) {x : Nat} {p : Keyed} (hp : a.toList[x]? = some p) : ∀ q ∈ a.toList.drop x, ky p ≤ ky q := by
 intro q hq
 obtain ⟨i, h1, h2⟩ := drop_mem hq
 obtain ⟨g1, g2⟩ := at_mem hp
 obtain ⟨g3, g4⟩ := at_mem h2
 rw [← g2, ← g4]
 exact sd_seg h (Nat.le_refl _) x i (Nat.le_refl _) h1 g3
theorem sd_take {a : Array Keyed} (h : Sd a.toList) {x : Nat} {p : Keyed} (hp : a.toList[x]? = some p) : ∀ q ∈ a.toList.take (x + 1), ky q ≤ ky p := by
 intro q hq
 obtain ⟨i, h1, h2⟩ := take_mem hq
 obtain ⟨g1, g2⟩ := at_mem hp
 obtain ⟨g3, g4⟩ := at_mem h2
 rw [← g2, ← g4]
 exact sd_seg h (Nat.le_refl _) i x (Nat.zero_le _) (by omega) g1
structure Mg (a b : List Keyed) (o : List Keyed) (x y : Nat) : Prop where
 xa : x ≤ a.length
 yb : y ≤ b.length
 pm : (o ++ (a.drop x ++ b.drop y)).Perm (a ++ b)
 sd : Sd o
 le : ∀ p ∈ o, ∀ q, (q ∈ a.drop x ∨ q ∈ b.drop y) → ky p ≤ ky q
theorem Mg.stepA {a b o : List Keyed} {x y : Nat} (m : Mg a b o x y) (ha : Sd a) (t : List Keyed) (k : Nat) (ht : t = (a.drop x).take k) (hk : x + k ≤ a.length) (h : ∀ p ∈ t, ∀ q ∈ b.drop y, ky p ≤ ky q) :
  Mg a b (o ++ t) (x + k) y := by
 have e : a.drop x = t ++ a.drop (x + k) := by rw [ht, ← List.drop_drop, List.take_append_drop]
 have hs : Sd (t ++ a.drop (x + k)) := by rw [← e]; exact List.Pairwise.sublist (List.drop_sublist ..) ha
 obtain ⟨s1, s2, s3⟩ := Sd.app.mp hs
 refine ⟨hk, m.yb, ?_, ?_, ?_⟩
 · have := m.pm
   rw [e] at this
   rw [List.append_assoc, ← List.append_assoc t]
   exact this
 · exact Sd.app.mpr ⟨m.sd, s1, fun p hp q hq => m.le p hp q (.inl (by rw [e]; exact List.mem_append_left _ hq))⟩
 · intro p hp q hq
   rcases List.mem_append.mp hp with hp | hp
   · refine m.le p hp q ?_
     rcases hq with hq | hq
     · exact .inl (by rw [e]; exact List.mem_append_right _ hq)
     · exact .inr hq
   · rcases hq with hq | hq
     · exact s3 p hp q hq
     · exact h p hp q hq
theorem Mg.stepB {a b o : List Keyed} {x y : Nat} (m : Mg a b o x y) (hb : Sd b) (t : List Keyed) (k : Nat) (ht : t = (b.drop y).take k) (hk : y + k ≤ b.length) (h : ∀ p ∈ t, ∀ q ∈ a.drop x, ky p ≤ ky q) :
  Mg a b (o ++ t) x (y + k) := by
 have e : b.drop y = t ++ b.drop (y + k) := by rw [ht, ← List.drop_drop, List.take_append_drop]
 have hs : Sd (t ++ b.drop (y + k)) := by rw [← e]; exact List.Pairwise.sublist (List.drop_sublist ..) hb
 obtain ⟨s1, s2, s3⟩ := Sd.app.mp hs
 refine ⟨m.xa, hk, ?_, ?_, ?_⟩
 · refine List.Perm.trans ?_ m.pm
   rw [e, List.append_assoc]
   refine List.Perm.append_left _ ?_
   rw [← List.append_assoc, ← List.append_assoc]
   exact List.Perm.append_right _ List.perm_append_comm
 · exact Sd.app.mpr ⟨m.sd, s1, fun p hp q hq => m.le p hp q (.inr (by rw [e]; exact List.mem_append_left _ hq))⟩
 · intro p hp q hq
   rcases List.mem_append.mp hp with hp | hp
   · refine m.le p hp q ?_
     rcases hq with hq | hq
     · exact .inl hq
     · exact .inr (by rw [e]; exact List.mem_append_right _ hq)
   · rcases hq with hq | hq
     · exact h p hp q hq
     · exact s3 p hp q hq
noncomputable def Dn (a b : List Keyed) (r : List Keyed) : Prop := r.Perm (a ++ b) ∧ Sd r
theorem Mg.endF {a b o : List Keyed} {x y : Nat} (m : Mg a b o x y) (ha : Sd a) (hb : Sd b) (h : x = a.length ∨ y = b.length) : Dn a b (o ++ a.drop x ++ b.drop y) := by
 refine ⟨by rw [List.append_assoc]; exact m.pm, ?_⟩
 rw [List.append_assoc]
 refine Sd.app.mpr ⟨m.sd, ?_, fun p hp q hq => m.le p hp q (List.mem_append.mp hq)⟩
 rcases h with h | h
 · rw [h, List.drop_length, List.nil_append]; exact List.Pairwise.sublist (List.drop_sublist ..) hb
 · rw [h, List.drop_length, List.append_nil]; exact List.Pairwise.sublist (List.drop_sublist ..) ha
theorem Mg.endA {a b o : List Keyed} {x y : Nat} (m : Mg a b o x y) (hb : Sd b) (h : x + 1 = a.length) (hl : ∀ q ∈ b, ∀ p, a[a.length - 1]? = some p → ky q ≤ ky p) : Dn a b (o ++ b.drop y ++ a.drop x) := by
 obtain ⟨p, hp⟩ : ∃ p, a.drop x = [p] := by
  have hl : (a.drop x).length = 1 := by rw [List.length_drop]; omega
  match he : a.drop x, hl with
  | [p], _ => exact ⟨p, rfl⟩
 have hp' : a[a.length - 1]? = some p := by
  have := List.getElem?_drop (xs := a) (i := x) (j := 0)
  rw [hp] at this
  rw [show a.length - 1 = x + 0 by omega, ← this]; rfl
 refine ⟨?_, ?_⟩
 · refine List.Perm.trans ?_ m.pm
   rw [List.append_assoc]
   exact List.Perm.append_left _ List.perm_append_comm
 · rw [List.append_assoc]
   refine Sd.app.mpr ⟨m.sd, Sd.app.mpr ⟨List.Pairwise.sublist (List.drop_sublist ..) hb, ?_, ?_⟩, ?_⟩
   · rw [hp]; exact List.pairwise_singleton _ _
   · intro q hq r hr
     rw [hp] at hr
     rw [List.mem_singleton.mp hr]
     exact hl q (List.mem_of_mem_drop hq) p hp'
   · intro q hq r hr
     rcases List.mem_append.mp hr with hr | hr
     · exact m.le q hq r (.inr hr)
     · exact m.le q hq r (.inl hr)
noncomputable def mergeLo' : Array Keyed → Array Keyed → StateT SortSt Sem (Array Keyed) := sortPriv% PySem.Builtin.mergeLo
noncomputable def mergeHi' : Array Keyed → Array Keyed → StateT SortSt Sem (Array Keyed) := sortPriv% PySem.Builtin.mergeHi
noncomputable def setMG (g : Nat) : StateT SortSt Sem Unit := (sortPriv% PySem.Builtin.setMinGallop) g
abbrev gst (z : SortSt) (g : Nat) : SortSt := SortSt.mk' (kindOf z) (arrOf z) (pendingOf z) g (failedOf z)
theorem setMG_is (g : Nat) : setMG g = modify fun z => gst z g := rfl
abbrev GS := Option (Array Keyed) × Array Keyed × Nat × Nat × Nat × Nat × Nat
abbrev OS := Option (Array Keyed) × Array Keyed × Nat × Nat × Nat × Nat
abbrev TSt := Option (Array Keyed) × Array Keyed × Nat × Nat × Nat
noncomputable def fin (a b o : Array Keyed) (x y : Nat) : Array Keyed := o ++ a.extract x a.size ++ b.extract y b.size
noncomputable def finA (a b o : Array Keyed) (x y : Nat) : Array Keyed := o ++ b.extract y b.size ++ a.extract x a.size
noncomputable def lo3 (a b o : Array Keyed) (x y mg ca cb : Nat) : StateT SortSt Sem (ForInStep GS) := do
 let p ← elem' a x
 if (x + 1 + 1 == a.size) = true then pure (ForInStep.done (some (finA a b (o.push p) (x + 1) y), o.push p, x + 1, y, mg, ca, cb))
 else if (decide (ca < 7) && decide (cb < 7)) = true then pure (ForInStep.done (none, o.push p, x + 1, y, mg, ca, cb))
 else pure (ForInStep.yield (none, o.push p, x + 1, y, mg, ca, cb))
noncomputable def lo2 (a b o : Array Keyed) (x y mg ca cb : Nat) : StateT SortSt Sem (ForInStep GS) := do
 let p ← elem' b y
 if (y + 1 == b.size) = true then pure (ForInStep.done (some (fin a b (o.push p) x (y + 1)), o.push p, x, y + 1, mg, ca, cb))
 else do
  let q ← elem' a x
  let r ← gallop' true q b (y + 1) (b.size - (y + 1)) 0
  match r with
   | some k =>
     if k > 0 then
      if (y + 1 + k == b.size) = true then pure (ForInStep.done (some (fin a b (o.push p ++ b.extract (y + 1) (y + 1 + k)) x (y + 1 + k)), o.push p ++ b.extract (y + 1) (y + 1 + k), x, y + 1 + k, mg, ca, k))
      else lo3 a b (o.push p ++ b.extract (y + 1) (y + 1 + k)) x (y + 1 + k) mg ca k
     else lo3 a b (o.push p) x (y + 1) mg ca k
   | _ => pure (ForInStep.done (some (fin a b (o.push p) x (y + 1)), o.push p, x, y + 1, mg, ca, cb))
noncomputable def lo1 (a b o : Array Keyed) (x y mg ca cb : Nat) : StateT SortSt Sem (ForInStep GS) := do
 setMG mg
 let q ← elem' b y
 let r ← gallop' false q a x (a.size - x) 0
 match r with
  | some k =>
    if k > 0 then
     if (x + k + 1 == a.size) = true then pure (ForInStep.done (some (finA a b (o ++ a.extract x (x + k)) (x + k) y), o ++ a.extract x (x + k), x + k, y, mg, k, cb))
     else if (x + k == a.size) = true then pure (ForInStep.done (some (fin a b (o ++ a.extract x (x + k)) (x + k) y), o ++ a.extract x (x + k), x + k, y, mg, k, cb))
     else lo2 a b (o ++ a.extract x (x + k)) (x + k) y mg k cb
    else lo2 a b o x y mg k cb
  | _ => pure (ForInStep.done (some (fin a b o x y), o, x, y, mg, ca, cb))
noncomputable def loO (a b : Array Keyed) (mg : Nat) (c : OS) : StateT SortSt Sem (ForInStep OS) := do
 let p ← elem' b c.2.2.2.1
 let q ← elem' a c.2.2.1
 let r ← lt' p q
 match r with
  | some bw =>
    if bw = true then do
     let p ← elem' b c.2.2.2.1
     if (c.2.2.2.1 + 1 == b.size) = true then pure (ForInStep.done (some (fin a b (c.2.1.push p) c.2.2.1 (c.2.2.2.1 + 1)), c.2.1.push p, c.2.2.1, c.2.2.2.1 + 1, 0, c.2.2.2.2.2 + 1))
     else if c.2.2.2.2.2 + 1 ≥ mg then pure (ForInStep.done (none, c.2.1.push p, c.2.2.1, c.2.2.2.1 + 1, 0, c.2.2.2.2.2 + 1))
     else pure (ForInStep.yield (none, c.2.1.push p, c.2.2.1, c.2.2.2.1 + 1, 0, c.2.2.2.2.2 + 1))
    else do
     let p ← elem' a c.2.2.1
     if (c.2.2.1 + 1 + 1 == a.size) = true then pure (ForInStep.done (some (finA a b (c.2.1.push p) (c.2.2.1 + 1) c.2.2.2.1), c.2.1.push p, c.2.2.1 + 1, c.2.2.2.1, c.2.2.2.2.1 + 1, 0))
     else if c.2.2.2.2.1 + 1 ≥ mg then pure (ForInStep.done (none, c.2.1.push p, c.2.2.1 + 1, c.2.2.2.1, c.2.2.2.2.1 + 1, 0))
     else pure (ForInStep.yield (none, c.2.1.push p, c.2.2.1 + 1, c.2.2.2.1, c.2.2.2.2.1 + 1, 0))
  | _ => pure (ForInStep.done (some (fin a b c.2.1 c.2.2.1 c.2.2.2.1), c.2.1, c.2.2.1, c.2.2.2.1, c.2.2.2.2.1, c.2.2.2.2.2))
noncomputable def loT (a b : Array Keyed) (c : TSt) : StateT SortSt Sem (ForInStep TSt) := do
 let d ← forIn [0:a.size + b.size] ((none, c.2.1, c.2.2.1, c.2.2.2.1, 0, 0) : OS) fun _ d => loO a b c.2.2.2.2 d
 match d.1 with
  | some r => pure (ForInStep.done (some r, d.2.1, d.2.2.1, d.2.2.2.1, c.2.2.2.2))
  | none => do
    liftM (rule "list.sort.gallop")
    let e ← forIn [0:a.size + b.size] ((none, d.2.1, d.2.2.1, d.2.2.2.1, c.2.2.2.2 + 1, d.2.2.2.2.1, d.2.2.2.2.2) : GS) fun _ e =>
     if e.2.2.2.2.1 > 1 then lo1 a b e.2.1 e.2.2.1 e.2.2.2.1 (e.2.2.2.2.1 - 1) e.2.2.2.2.2.1 e.2.2.2.2.2.2 else lo1 a b e.2.1 e.2.2.1 e.2.2.2.1 e.2.2.2.2.1 e.2.2.2.2.2.1 e.2.2.2.2.2.2
    match e.1 with
     | some r => pure (ForInStep.done (some r, e.2.1, e.2.2.1, e.2.2.2.1, e.2.2.2.2.1))
     | none => do
       setMG (e.2.2.2.2.1 + 1)
       pure (ForInStep.yield (none, e.2.1, e.2.2.1, e.2.2.2.1, e.2.2.2.2.1 + 1))
noncomputable def mLo (a b : Array Keyed) : StateT SortSt Sem (Array Keyed) := do
 liftM (rule "list.sort.merge-lo")
 let p ← elem' b 0
 if (1 == b.size) = true then pure (fin a b #[p] 0 1)
 else if (0 + 1 == a.size) = true then pure (finA a b #[p] 0 1)
 else do
  let z ← get
  let c ← forIn [0:a.size + b.size] ((none, #[p], 0, 1, gallopOf z) : TSt) fun _ c => loT a b c
  match c.1 with
   | some r => pure r
   | none => liftM (unsupported "internal:list.sort.merge-bound" : Sem (Array Keyed))
theorem mergeLo_is (a b : Array Keyed) : mergeLo' a b = mLo a b := by kernel_rfl
structure Two (a b : Array Keyed) : Prop where
 sa : Sd a.toList
 sb : Sd b.toList
 ia : ∀ p ∈ a.toList, IsI p
 ib : ∀ p ∈ b.toList, IsI p
 na : 1 ≤ a.size
 nb : 1 ≤ b.size
 fst : ∀ p ∈ a.toList, ∀ q, b.toList[0]? = some q → ky q ≤ ky p
 lst : ∀ q ∈ b.toList, ∀ p, a.toList[a.toList.length - 1]? = some p → ky q ≤ ky p
theorem fin_list (a b o : Array Keyed) (x y : Nat) : (fin a b o x y).toList = o.toList ++ a.toList.drop x ++ b.toList.drop y := by
 unfold fin
 simp only [Array.toList_append, Array.toList_extract, List.extract_eq_drop_take]
 congr 1
 · congr 1
   rw [List.take_of_length_le (by simp)]
 · rw [List.take_of_length_le (by simp)]
theorem finA_list (a b o : Array Keyed) (x y : Nat) : (finA a b o x y).toList = o.toList ++ b.toList.drop y ++ a.toList.drop x := by
 unfold finA
 simp only [Array.toList_append, Array.toList_extract, List.extract_eq_drop_take]
 congr 1
 · congr 1
   rw [List.take_of_length_le (by simp)]
 · rw [List.take_of_length_le (by simp)]
theorem ext_list (a : Array Keyed) (x k : Nat) : (a.extract x (x + k)).toList = (a.toList.drop x).take k := by
 simp only [Array.toList_extract, List.extract_eq_drop_take]
 congr 1
 omega
theorem one_list {l : List Keyed} {x : Nat} {p : Keyed} (h : l[x]? = some p) : [p] = (l.drop x).take 1 := by
 obtain ⟨h1, h2⟩ := List.getElem?_eq_some_iff.mp h
 rw [List.drop_eq_getElem_cons h1, h2]; rfl
theorem at_some {a : Array Keyed} {x : Nat} (h : x < a.size) : ∃ p, a[x]? = some p ∧ a.toList[x]? = some p ∧ p ∈ a.toList :=
 ⟨a[x], getElem?_pos a x h, by rw [Array.getElem?_toList]; exact getElem?_pos a x h, by simp⟩
section
variable {prog : Program} {w : World} {A : Around} {E : Value → Shared → Prop} {s : Shared} {a b : Array Keyed}
structure In (a b o : Array Keyed) (x y : Nat) : Prop where
 mg : Mg a.toList b.toList o.toList x y
 x1 : x + 1 < a.size
 y1 : y < b.size
noncomputable def Told (a b : Array Keyed) (r : Array Keyed) : Prop := Dn a.toList b.toList r.toList
theorem Mg.pushA {o : Array Keyed} {x y : Nat} {p : Keyed} (T : Two a b) (m : Mg a.toList b.toList o.toList x y) (hp : a.toList[x]? = some p) (h : ∀ q ∈ b.toList.drop y, ky p ≤ ky q) :
  Mg a.toList b.toList (o.push p).toList (x + 1) y := by
 rw [Array.toList_push]
 refine m.stepA T.sa [p] 1 (one_list hp) ?_ fun q hq => by rw [List.mem_singleton.mp hq]; exact h
 obtain ⟨h1, _⟩ := List.getElem?_eq_some_iff.mp hp
 omega
theorem Mg.pushB {o : Array Keyed} {x y : Nat} {p : Keyed} (T : Two a b) (m : Mg a.toList b.toList o.toList x y) (hp : b.toList[y]? = some p) (h : ∀ q ∈ a.toList.drop x, ky p ≤ ky q) :
  Mg a.toList b.toList (o.push p).toList x (y + 1) := by
 rw [Array.toList_push]
 refine m.stepB T.sb [p] 1 (one_list hp) ?_ fun q hq => by rw [List.mem_singleton.mp hq]; exact h
 obtain ⟨h1, _⟩ := List.getElem?_eq_some_iff.mp hp
 omega
theorem Mg.told {o : Array Keyed} {x y : Nat} (T : Two a b) (m : Mg a.toList b.toList o.toList x y) (h : x = a.size ∨ y = b.size) : Told a b (fin a b o x y) := by
 unfold Told; rw [fin_list]; exact m.endF T.sa T.sb (by simpa using h)
theorem Mg.toldA {o : Array Keyed} {x y : Nat} (T : Two a b) (m : Mg a.toList b.toList o.toList x y) (h : x + 1 = a.size) : Told a b (finA a b o x y) := by
 unfold Told; rw [finA_list]; exact m.endA T.sb (by simpa using h) T.lst
noncomputable def GOk (a b : Array Keyed) (st : SortSt) (n : Nat) (c : GS) (z : SortSt) : Prop :=
 (∃ g, z = gst st g) ∧ ((∃ r o x y mg ca cb, c = (some r, o, x, y, mg, ca, cb) ∧ Told a b r) ∨ ∃ o x y mg ca cb, c = (none, o, x, y, mg, ca, cb) ∧ In a b o x y ∧ n ≤ x + y)
noncomputable def OOk (a b : Array Keyed) (st : SortSt) (n : Nat) (c : OS) (z : SortSt) : Prop :=
 (∃ g, z = gst st g) ∧ ((∃ r o x y ca cb, c = (some r, o, x, y, ca, cb) ∧ Told a b r) ∨ ∃ o x y ca cb, c = (none, o, x, y, ca, cb) ∧ In a b o x y ∧ n ≤ x + y)
theorem wp_lo3 {st : SortSt} {o : Array Keyed} {x y mg ca cb g n : Nat} {Q : ForInStep GS → SortSt → Prop} (T : Two a b) (m : In a b o x y) (hn : n ≤ x + y + 1) (hle : ∀ p, a.toList[x]? = some p → ∀ q ∈ b.toList.drop y, ky p ≤ ky q)
  (hd : ∀ c, GOk a b st n c (gst st g) → Q (.done c) (gst st g)) (hy : ∀ o x y mg ca cb, In a b o x y → n ≤ x + y → Q (.yield (none, o, x, y, mg, ca, cb)) (gst st g)) :
  wpS (model prog w) A E s (lo3 a b o x y mg ca cb) Q (gst st g) := by
 obtain ⟨p, p1, p2, p3⟩ := at_some (a := a) (x := x) (by have := m.x1; omega)
 have m' := m.mg.pushA T p2 (hle p p2)
 unfold lo3
 refine wpS_bind (wp_elem p1 ?_)
 by_cases h1 : x + 1 + 1 = a.size
 · rw [if_pos (by simpa using h1)]
   exact wpS_pure (hd _ ⟨⟨g, rfl⟩, .inl ⟨_, _, _, _, _, _, _, rfl, m'.toldA T h1⟩⟩)
 · rw [if_neg (by simpa using h1)]
   have hin : In a b (o.push p) (x + 1) y := ⟨m', by have := m.x1; omega, m.y1⟩
   split
   · exact wpS_pure (hd _ ⟨⟨g, rfl⟩, .inr ⟨_, _, _, _, _, _, rfl, hin, by omega⟩⟩)
   · exact wpS_pure (hy _ _ _ _ _ _ hin (by omega))
theorem wp_lo2 {st : SortSt} {o : Array Keyed} {x y mg ca cb g n : Nat} {Q : ForInStep GS → SortSt → Prop} (hk : kindOf st = oneType') (T : Two a b) (m : In a b o x y) (hn : n ≤ x + y + 1) (hle : ∀ p, b.toList[y]? = some p → ∀ q ∈ a.toList.drop x, ky p ≤ ky q)
  (hd : ∀ c, GOk a b st n c (gst st g) → Q (.done c) (gst st g)) (hy : ∀ o x y mg ca cb, In a b o x y → n ≤ x + y → Q (.yield (none, o, x, y, mg, ca, cb)) (gst st g)) :
  wpS (model prog w) A E s (lo2 a b o x y mg ca cb) Q (gst st g) := by
 obtain ⟨p, p1, p2, p3⟩ := at_some (a := b) (x := y) m.y1
 obtain ⟨q, q1, q2, q3⟩ := at_some (a := a) (x := x) (by have := m.x1; omega)
 have m' := m.mg.pushB T p2 (hle p p2)
 unfold lo2
 refine wpS_bind (wp_elem p1 ?_)
 by_cases h1 : y + 1 = b.size
 · rw [if_pos (by simpa using h1)]
   exact wpS_pure (hd _ ⟨⟨g, rfl⟩, .inl ⟨_, _, _, _, _, _, _, rfl, m'.told T (.inr h1)⟩⟩)
 · rw [if_neg (by simpa using h1)]
   have hy1 : y + 1 < b.size := by have := m.y1; omega
   refine wpS_bind (wp_elem q1 ?_)
   refine wpS_bind (wp_gallop hk (T.ia q q3) T.ib (by omega) (sd_seg T.sb (by omega)) (by omega) fun k k1 k2 k3 => ?_)
   simp only [if_true] at k2 k3
   dsimp only
   have hrest : ∀ j, j = y + 1 + k → ∀ p', a.toList[x]? = some p' → ∀ u ∈ b.toList.drop j, ky p' ≤ ky u := by
    rintro j rfl p' hp' u hu
    rw [q2] at hp'; cases hp'
    obtain ⟨i, i1, i2⟩ := drop_mem hu
    obtain ⟨i3, i4⟩ := at_mem i2
    rw [← i4]; exact k3 i i1 (by omega)
   by_cases hk0 : k > 0
   · rw [if_pos hk0]
     have m2 : Mg a.toList b.toList (o.push p ++ b.extract (y + 1) (y + 1 + k)).toList x (y + 1 + k) := by
      rw [Array.toList_append]
      refine m'.stepB T.sb _ k (ext_list b (y + 1) k) (by rw [Array.length_toList]; omega) fun u hu v hv => ?_
      rw [ext_list] at hu
      obtain ⟨i, i1, i2, i3⟩ := take_drop_mem hu
      obtain ⟨i4, i5⟩ := at_mem i3
      have := k2 i i1 i2
      have h2 := sd_drop T.sa q2 v hv
      omega
     by_cases h2 : y + 1 + k = b.size
     · rw [if_pos (by simpa using h2)]
       exact wpS_pure (hd _ ⟨⟨g, rfl⟩, .inl ⟨_, _, _, _, _, _, _, rfl, m2.told T (.inr h2)⟩⟩)
     · rw [if_neg (by simpa using h2)]
       exact wp_lo3 T ⟨m2, m.x1, by omega⟩ (by omega) (hrest _ rfl) hd hy
   · rw [if_neg hk0]
     exact wp_lo3 T ⟨m', m.x1, hy1⟩ (by omega) (hrest _ (by omega)) hd hy
theorem wp_lo1 {st : SortSt} {o : Array Keyed} {x y mg ca cb g n : Nat} {Q : ForInStep GS → SortSt → Prop} (hk : kindOf st = oneType') (T : Two a b) (m : In a b o x y) (hn : n ≤ x + y + 1)
  (hd : ∀ c z, GOk a b st n c z → Q (.done c) z) (hy : ∀ o x y mg ca cb g, In a b o x y → n ≤ x + y → Q (.yield (none, o, x, y, mg, ca, cb)) (gst st g)) :
  wpS (model prog w) A E s (lo1 a b o x y mg ca cb) Q (gst st g) := by
 obtain ⟨p, p1, p2, p3⟩ := at_some (a := b) (x := y) m.y1
 have hx1 := m.x1
 unfold lo1
 rw [setMG_is]
 refine wpS_bind (wpS_modify ?_)
 show wpS (model prog w) A E s _ _ (gst st mg)
 refine wpS_bind (wp_elem p1 ?_)
 refine wpS_bind (wp_gallop hk (T.ib p p3) T.ia (by omega) (sd_seg T.sa (by omega)) (by omega) fun k k1 k2 k3 => ?_)
 simp only [Bool.false_eq_true, if_false] at k2 k3
 dsimp only
 have hrest : ∀ j, j = x + k → ∀ p', b.toList[y]? = some p' → ∀ u ∈ a.toList.drop j, ky p' ≤ ky u := by
  rintro j rfl p' hp' u hu
  rw [p2] at hp'; cases hp'
  obtain ⟨i, i1, i2⟩ := drop_mem hu
  obtain ⟨i3, i4⟩ := at_mem i2
  rw [← i4]; exact Int.le_of_lt (k3 i i1 (by omega))
 by_cases hk0 : k > 0
 · rw [if_pos hk0]
   have m2 : Mg a.toList b.toList (o ++ a.extract x (x + k)).toList (x + k) y := by
    rw [Array.toList_append]
    refine m.mg.stepA T.sa _ k (ext_list a x k) (by rw [Array.length_toList]; omega) fun u hu v hv => ?_
    rw [ext_list] at hu
    obtain ⟨i, i1, i2, i3⟩ := take_drop_mem hu
    obtain ⟨i4, i5⟩ := at_mem i3
    have := k2 i i1 i2
    have h2 := sd_drop T.sb p2 v hv
    omega
   by_cases h1 : x + k + 1 = a.size
   · rw [if_pos (by simpa using h1)]
     exact wpS_pure (hd _ _ ⟨⟨_, rfl⟩, .inl ⟨_, _, _, _, _, _, _, rfl, m2.toldA T h1⟩⟩)
   rw [if_neg (by simpa using h1)]
   by_cases h2 : x + k = a.size
   · rw [if_pos (by simpa using h2)]
     exact wpS_pure (hd _ _ ⟨⟨_, rfl⟩, .inl ⟨_, _, _, _, _, _, _, rfl, m2.told T (.inl h2)⟩⟩)
   rw [if_neg (by simpa using h2)]
   exact wp_lo2 hk T ⟨m2, by omega, m.y1⟩ (by omega) (hrest _ rfl) (fun c h => hd c _ h) fun o x y mg' ca cb => hy o x y mg' ca cb mg
 · rw [if_neg hk0]
   exact wp_lo2 hk T m hn (hrest _ (by omega)) (fun c h => hd c _ h) fun o x y mg' ca cb => hy o x y mg' ca cb mg
theorem wp_loO {st : SortSt} {o : Array Keyed} {x y ca cb mg g n : Nat} {Q : ForInStep OS → SortSt → Prop} (hk : kindOf st = oneType') (T : Two a b) (m : In a b o x y) (hn : n ≤ x + y + 1)
  (hd : ∀ c, OOk a b st n c (gst st g) → Q (.done c) (gst st g)) (hy : ∀ o x y ca cb, In a b o x y → n ≤ x + y → Q (.yield (none, o, x, y, ca, cb)) (gst st g)) :
  wpS (model prog w) A E s (loO a b mg (none, o, x, y, ca, cb)) Q (gst st g) := by
 obtain ⟨p, p1, p2, p3⟩ := at_some (a := b) (x := y) m.y1
 obtain ⟨q, q1, q2, q3⟩ := at_some (a := a) (x := x) (by have := m.x1; omega)
 have hx1 := m.x1
 have hy1 := m.y1
 unfold loO
 dsimp only
 refine wpS_bind (wp_elem p1 (wpS_bind (wp_elem q1 ?_)))
 refine wpS_bind (wp_lt hk (T.ib p p3) (T.ia q q3) ?_)
 dsimp only
 by_cases hl : ky p < ky q
 · rw [if_pos (by simpa using hl)]
   have m' := m.mg.pushB T p2 fun u hu => Int.le_trans (Int.le_of_lt hl) (sd_drop T.sa q2 u hu)
   refine wpS_bind (wp_elem p1 ?_)
   by_cases h1 : y + 1 = b.size
   · rw [if_pos (by simpa using h1)]
     exact wpS_pure (hd _ ⟨⟨_, rfl⟩, .inl ⟨_, _, _, _, _, _, rfl, m'.told T (.inr h1)⟩⟩)
   rw [if_neg (by simpa using h1)]
   have hin : In a b (o.push p) x (y + 1) := ⟨m', hx1, by omega⟩
   split
   · exact wpS_pure (hd _ ⟨⟨_, rfl⟩, .inr ⟨_, _, _, _, _, rfl, hin, by omega⟩⟩)
   · exact wpS_pure (hy _ _ _ _ _ hin (by omega))
 · rw [if_neg (by simpa using hl)]
   have m' := m.mg.pushA T q2 fun u hu => Int.le_trans (Int.not_lt.mp hl) (sd_drop T.sb p2 u hu)
   refine wpS_bind (wp_elem q1 ?_)
   by_cases h1 : x + 1 + 1 = a.size
   · rw [if_pos (by simpa using h1)]
     exact wpS_pure (hd _ ⟨⟨_, rfl⟩, .inl ⟨_, _, _, _, _, _, rfl, m'.toldA T h1⟩⟩)
   rw [if_neg (by simpa using h1)]
   have hin : In a b (o.push q) (x + 1) y := ⟨m', by omega, hy1⟩
   split
   · exact wpS_pure (hd _ ⟨⟨_, rfl⟩, .inr ⟨_, _, _, _, _, rfl, hin, by omega⟩⟩)
   · exact wpS_pure (hy _ _ _ _ _ hin (by omega))
theorem wp_loT {st : SortSt} {o : Array Keyed} {x y mg g : Nat} {Q : ForInStep TSt → SortSt → Prop} (hk : kindOf st = oneType') (T : Two a b) (m : In a b o x y)
  (hd : ∀ r o x y mg g, Told a b r → Q (.done (some r, o, x, y, mg)) (gst st g)) (hy : ∀ o' x' y' mg g, In a b o' x' y' → x + y + 1 ≤ x' + y' → Q (.yield (none, o', x', y', mg)) (gst st g)) :
  wpS (model prog w) A E s (loT a b (none, o, x, y, mg)) Q (gst st g) := by
 have hna := T.na
 have hnb := T.nb
 unfold loT
 dsimp only
 refine wpS_bind (wpS_mono (wpS_forRange (I := fun i c z => ∃ o' x' y' ca cb g, c = (none, o', x', y', ca, cb) ∧ z = gst st g ∧ In a b o' x' y' ∧ x + y + i ≤ x' + y')
  (Q := fun c z => OOk a b st (x + y + 1) c z) ?s1 ?s2 ⟨o, x, y, 0, 0, g, rfl, rfl, m, by omega⟩) ?s3)
 case s2 =>
  rintro c z ⟨o', x', y', ca, cb, g', rfl, rfl, m', hle⟩
  exact ⟨⟨_, rfl⟩, .inr ⟨_, _, _, _, _, rfl, m', by omega⟩⟩
 case s1 =>
  rintro i c z _ hi ⟨o', x', y', ca, cb, g', rfl, rfl, m', hle⟩
  refine wp_loO (n := x + y + (i + 1)) hk T m' (by omega) (fun c hc => ?_) fun o2 x2 y2 ca cb m2 h2 => ⟨o2, x2, y2, ca, cb, g', rfl, rfl, m2, h2⟩
  obtain ⟨h1, h2⟩ := hc
  refine ⟨h1, ?_⟩
  rcases h2 with h2 | ⟨o2, x2, y2, ca, cb, e, m2, h2⟩
  · exact .inl h2
  · exact .inr ⟨o2, x2, y2, ca, cb, e, m2, by omega⟩
 case s3 =>
  rintro c z ⟨⟨g', rfl⟩, hc⟩
  rcases hc with ⟨r, o2, x2, y2, ca, cb, rfl, hr⟩ | ⟨o2, x2, y2, ca, cb, rfl, m2, h2⟩
  · dsimp only
    exact wpS_pure (hd _ _ _ _ _ _ hr)
  · dsimp only
    refine wpS_bind (wpS_lift (wpAny_rule ⟨rfl, ?_⟩))
    refine wpS_bind (wpS_mono (wpS_forRange (I := fun i c z => ∃ o' x' y' mg ca cb g, c = (none, o', x', y', mg, ca, cb) ∧ z = gst st g ∧ In a b o' x' y' ∧ x + y + 1 ≤ x' + y')
     (Q := fun c z => GOk a b st (x + y + 1) c z) ?s4 ?s5 ⟨o2, x2, y2, mg + 1, ca, cb, g', rfl, rfl, m2, h2⟩) ?s6)
    case s5 =>
     rintro c z ⟨o', x', y', mg', ca, cb, g', rfl, rfl, m', hle⟩
     exact ⟨⟨_, rfl⟩, .inr ⟨_, _, _, _, _, _, rfl, m', by omega⟩⟩
    case s4 =>
     rintro i c z _ hi ⟨o', x', y', mg', ca, cb, g', rfl, rfl, m', hle⟩
     dsimp only
     split
     · exact wp_lo1 (n := x + y + 1) hk T m' (by omega) (fun c z hc => hc) fun o2 x2 y2 mg ca cb g m2 h2 => ⟨o2, x2, y2, mg, ca, cb, g, rfl, rfl, m2, h2⟩
     · exact wp_lo1 (n := x + y + 1) hk T m' (by omega) (fun c z hc => hc) fun o2 x2 y2 mg ca cb g m2 h2 => ⟨o2, x2, y2, mg, ca, cb, g, rfl, rfl, m2, h2⟩
    case s6 =>
     rintro c z ⟨⟨g', rfl⟩, hc⟩
     rcases hc with ⟨r, o2, x2, y2, mg', ca, cb, rfl, hr⟩ | ⟨o2, x2, y2, mg', ca, cb, rfl, m2, h2⟩
     · dsimp only
       exact wpS_pure (hd _ _ _ _ _ _ hr)
     · dsimp only
       rw [setMG_is]
       exact wpS_bind (wpS_modify (wpS_pure (hy _ _ _ _ _ m2 h2)))
theorem wp_mergeLo {st : SortSt} {Q : Array Keyed → SortSt → Prop} (hk : kindOf st = oneType') (T : Two a b) (h : ∀ r g, Told a b r → Q r (gst st g)) :
  wpS (model prog w) A E s (mergeLo' a b) Q st := by
 have hna := T.na
 have hnb := T.nb
 obtain ⟨p, p1, p2, p3⟩ := at_some (a := b) (x := 0) (by omega)
 have m0 : Mg a.toList b.toList [] 0 0 := ⟨Nat.zero_le _, Nat.zero_le _, by simp, List.Pairwise.nil, fun p hp => absurd hp (by simp)⟩
 have m1 : Mg a.toList b.toList (#[] : Array Keyed).toList 0 0 := m0
 have m : Mg a.toList b.toList (#[p] : Array Keyed).toList 0 1 := m1.pushB T p2 fun q hq => T.fst q (List.mem_of_mem_drop hq) p p2
 rw [mergeLo_is]
 unfold mLo
 refine wpS_bind (wpS_lift (wpAny_rule ⟨rfl, ?_⟩))
 refine wpS_bind (wp_elem p1 ?_)
 by_cases h1 : 1 = b.size
 · rw [if_pos (by simpa using h1)]
   exact wpS_pure (h _ (gallopOf st) (m.told T (.inr h1)))
 rw [if_neg (by simpa using h1)]
 by_cases h2 : 0 + 1 = a.size
 · rw [if_pos (by simpa using h2)]
   exact wpS_pure (h _ (gallopOf st) (m.toldA T h2))
 rw [if_neg (by simpa using h2)]
 refine wpS_bind (wpS_get ?_)
 refine wpS_bind (wpS_mono (wpS_forRange (I := fun i c z => ∃ o x y mg g, c = (none, o, x, y, mg) ∧ z = gst st g ∧ In a b o x y ∧ i + 1 ≤ x + y)
  (Q := fun c z => ∃ r o x y mg g, c = (some r, o, x, y, mg) ∧ z = gst st g ∧ Told a b r) ?s1 ?s2 ⟨#[p], 0, 1, _, gallopOf st, rfl, rfl, ⟨m, by omega, by omega⟩, by omega⟩) ?s3)
 case s2 =>
  rintro c z ⟨o, x, y, mg, g, rfl, rfl, m, hle⟩
  have := m.x1
  have := m.y1
  omega
 case s1 =>
  rintro i c z _ hi ⟨o, x, y, mg, g, rfl, rfl, m, hle⟩
  exact wp_loT hk T m (fun r o x y mg g hr => ⟨r, o, x, y, mg, g, rfl, rfl, hr⟩) fun o x y mg g m h => ⟨o, x, y, mg, g, rfl, rfl, m, by omega⟩
 case s3 =>
  rintro c z ⟨r, o, x, y, mg, g, rfl, rfl, hr⟩
  exact wpS_pure (h r g hr)
end
set_option autoImplicit false
noncomputable def fiH (a b o : Array Keyed) (x y : Nat) : Array Keyed := a.extract 0 x ++ b.extract 0 y ++ o.reverse
noncomputable def fiB (a b o : Array Keyed) (x y : Nat) : Array Keyed := b.extract 0 y ++ a.extract 0 x ++ o.reverse
abbrev GH := Option (Array Keyed) × Nat × Nat × Array Keyed × Nat × Nat × Nat
abbrev OH := Option (Array Keyed) × Nat × Nat × Array Keyed × Nat × Nat
abbrev TH := Option (Array Keyed) × Nat × Nat × Array Keyed × Nat
noncomputable def hi3 (a b o : Array Keyed) (x y mg ca cb : Nat) : StateT SortSt Sem (ForInStep GH) := do
 let p ← elem' a (x - 1)
 if (x - 1 == 0) = true then pure (ForInStep.done (some (fiH a b (o.push p) (x - 1) y), x - 1, y, o.push p, mg, ca, cb))
 else if (decide (ca < 7) && decide (cb < 7)) = true then pure (ForInStep.done (none, x - 1, y, o.push p, mg, ca, cb))
 else pure (ForInStep.yield (none, x - 1, y, o.push p, mg, ca, cb))
noncomputable def hi2 (a b o : Array Keyed) (x y mg ca cb : Nat) : StateT SortSt Sem (ForInStep GH) := do
 let p ← elem' b (y - 1)
 if (y - 1 == 1) = true then pure (ForInStep.done (some (fiB a b (o.push p) x (y - 1)), x, y - 1, o.push p, mg, ca, cb))
 else do
  let q ← elem' a (x - 1)
  let r ← gallop' true q b 0 (y - 1) (y - 1 - 1)
  match r with
   | some t =>
     if y - 1 - t > 0 then
      if (t == 1) = true then pure (ForInStep.done (some (fiB a b (o.push p ++ (b.extract t (y - 1)).reverse) x t), x, t, o.push p ++ (b.extract t (y - 1)).reverse, mg, ca, y - 1 - t))
      else if (t == 0) = true then pure (ForInStep.done (some (fiH a b (o.push p ++ (b.extract t (y - 1)).reverse) x t), x, t, o.push p ++ (b.extract t (y - 1)).reverse, mg, ca, y - 1 - t))
      else hi3 a b (o.push p ++ (b.extract t (y - 1)).reverse) x t mg ca (y - 1 - t)
     else hi3 a b (o.push p) x (y - 1) mg ca (y - 1 - t)
   | _ => pure (ForInStep.done (some (fiH a b (o.push p) x (y - 1)), x, y - 1, o.push p, mg, ca, cb))
noncomputable def hi1 (a b o : Array Keyed) (x y mg ca cb : Nat) : StateT SortSt Sem (ForInStep GH) := do
 setMG mg
 let q ← elem' b (y - 1)
 let r ← gallop' false q a 0 x (x - 1)
 match r with
  | some t =>
    if x - t > 0 then
     if (t == 0) = true then pure (ForInStep.done (some (fiH a b (o ++ (a.extract t x).reverse) t y), t, y, o ++ (a.extract t x).reverse, mg, x - t, cb))
     else hi2 a b (o ++ (a.extract t x).reverse) t y mg (x - t) cb
    else hi2 a b o x y mg (x - t) cb
  | _ => pure (ForInStep.done (some (fiH a b o x y), x, y, o, mg, ca, cb))
noncomputable def hiO (a b : Array Keyed) (mg : Nat) (c : OH) : StateT SortSt Sem (ForInStep OH) := do
 let p ← elem' b (c.2.2.1 - 1)
 let q ← elem' a (c.2.1 - 1)
 let r ← lt' p q
 match r with
  | some aw =>
    if aw = true then do
     let p ← elem' a (c.2.1 - 1)
     if (c.2.1 - 1 == 0) = true then pure (ForInStep.done (some (fiH a b (c.2.2.2.1.push p) (c.2.1 - 1) c.2.2.1), c.2.1 - 1, c.2.2.1, c.2.2.2.1.push p, c.2.2.2.2.1 + 1, 0))
     else if c.2.2.2.2.1 + 1 ≥ mg then pure (ForInStep.done (none, c.2.1 - 1, c.2.2.1, c.2.2.2.1.push p, c.2.2.2.2.1 + 1, 0))
     else pure (ForInStep.yield (none, c.2.1 - 1, c.2.2.1, c.2.2.2.1.push p, c.2.2.2.2.1 + 1, 0))
    else do
     let p ← elem' b (c.2.2.1 - 1)
     if (c.2.2.1 - 1 == 1) = true then pure (ForInStep.done (some (fiB a b (c.2.2.2.1.push p) c.2.1 (c.2.2.1 - 1)), c.2.1, c.2.2.1 - 1, c.2.2.2.1.push p, 0, c.2.2.2.2.2 + 1))
     else if c.2.2.2.2.2 + 1 ≥ mg then pure (ForInStep.done (none, c.2.1, c.2.2.1 - 1, c.2.2.2.1.push p, 0, c.2.2.2.2.2 + 1))
     else pure (ForInStep.yield (none, c.2.1, c.2.2.1 - 1, c.2.2.2.1.push p, 0, c.2.2.2.2.2 + 1))
  | _ => pure (ForInStep.done (some (fiH a b c.2.2.2.1 c.2.1 c.2.2.1), c.2.1, c.2.2.1, c.2.2.2.1, c.2.2.2.2.1, c.2.2.2.2.2))
noncomputable def hiT (a b : Array Keyed) (c : TH) : StateT SortSt Sem (ForInStep TH) := do
 let d ← forIn [0:a.size + b.size] ((none, c.2.1, c.2.2.1, c.2.2.2.1, 0, 0) : OH) fun _ d => hiO a b c.2.2.2.2 d
 match d.1 with
  | some r => pure (ForInStep.done (some r, d.2.1, d.2.2.1, d.2.2.2.1, c.2.2.2.2))
  | none => do
    liftM (rule "list.sort.gallop")
    let e ← forIn [0:a.size + b.size] ((none, d.2.1, d.2.2.1, d.2.2.2.1, c.2.2.2.2 + 1, d.2.2.2.2.1, d.2.2.2.2.2) : GH) fun _ e =>
     if e.2.2.2.2.1 > 1 then hi1 a b e.2.2.2.1 e.2.1 e.2.2.1 (e.2.2.2.2.1 - 1) e.2.2.2.2.2.1 e.2.2.2.2.2.2 else hi1 a b e.2.2.2.1 e.2.1 e.2.2.1 e.2.2.2.2.1 e.2.2.2.2.2.1 e.2.2.2.2.2.2
    match e.1 with
     | some r => pure (ForInStep.done (some r, e.2.1, e.2.2.1, e.2.2.2.1, e.2.2.2.2.1))
     | none => do
       setMG (e.2.2.2.2.1 + 1)
       pure (ForInStep.yield (none, e.2.1, e.2.2.1, e.2.2.2.1, e.2.2.2.2.1 + 1))
noncomputable def mHi (a b : Array Keyed) : StateT SortSt Sem (Array Keyed) := do
 liftM (rule "list.sort.merge-hi")
 let p ← elem' a (a.size - 1)
 if (a.size - 1 == 0) = true then pure (fiH a b #[p] (a.size - 1) b.size)
 else if (b.size == 1) = true then pure (fiB a b #[p] (a.size - 1) b.size)
 else do
  let z ← get
  let c ← forIn [0:a.size + b.size] ((none, a.size - 1, b.size, #[p], gallopOf z) : TH) fun _ c => hiT a b c
  match c.1 with
   | some r => pure r
   | none => liftM (unsupported "internal:list.sort.merge-bound" : Sem (Array Keyed))
theorem mergeHi_is (a b : Array Keyed) : mergeHi' a b = mHi a b := by kernel_rfl
structure Mh (a b : List Keyed) (o : List Keyed) (x y : Nat) : Prop where
 xa : x ≤ a.length
 yb : y ≤ b.length
 pm : ((a.take x ++ b.take y) ++ o.reverse).Perm (a ++ b)
 sd : Sd o.reverse
 le : ∀ p ∈ o, ∀ q, (q ∈ a.take x ∨ q ∈ b.take y) → ky q ≤ ky p
theorem take_two (l : List Keyed) {j x : Nat} (h : j ≤ x) : l.take x = l.take j ++ (l.drop j).take (x - j) := by
 conv => lhs; rw [show x = j + (x - j) by omega, List.take_add]
theorem Mh.stepA {a b o : List Keyed} {x y : Nat} (m : Mh a b o x y) (ha : Sd a) (t : List Keyed) (j : Nat) (ht : t = (a.drop j).take (x - j)) (hj : j ≤ x) (h : ∀ p ∈ t, ∀ q ∈ b.take y, ky q ≤ ky p) :
  Mh a b (o ++ t.reverse) j y := by
 have e : a.take x = a.take j ++ t := by rw [ht]; exact take_two a hj
 have hs : Sd (a.take j ++ t) := by rw [← e]; exact List.Pairwise.sublist (List.take_sublist ..) ha
 obtain ⟨s1, s2, s3⟩ := Sd.app.mp hs
 refine ⟨Nat.le_trans hj m.xa, m.yb, ?_, ?_, ?_⟩
 · refine List.Perm.trans ?_ m.pm
   rw [e, List.reverse_append, List.reverse_reverse, ← List.append_assoc]
   refine List.Perm.append_right _ ?_
   rw [List.append_assoc, List.append_assoc]
   exact List.Perm.append_left _ List.perm_append_comm
 · rw [List.reverse_append, List.reverse_reverse]
   exact Sd.app.mpr ⟨s2, m.sd, fun q hq p hp => m.le p (List.mem_reverse.mp hp) q (.inl (by rw [e]; exact List.mem_append_right _ hq))⟩
 · intro p hp q hq
   rcases List.mem_append.mp hp with hp | hp
   · refine m.le p hp q ?_
     rcases hq with hq | hq
     · exact .inl (by rw [e]; exact List.mem_append_left _ hq)
     · exact .inr hq
   · rcases hq with hq | hq
     · exact s3 q hq p (List.mem_reverse.mp hp)
     · exact h p (List.mem_reverse.mp hp) q hq
theorem Mh.stepB {a b o : List Keyed} {x y : Nat} (m : Mh a b o x y) (hb : Sd b) (t : List Keyed) (j : Nat) (ht : t = (b.drop j).take (y - j)) (hj : j ≤ y) (h : ∀ p ∈ t, ∀ q ∈ a.take x, ky q ≤ ky p) :
  Mh a b (o ++ t.reverse) x j := by
 have e : b.take y = b.take j ++ t := by rw [ht]; exact take_two b hj
 have hs : Sd (b.take j ++ t) := by rw [← e]; exact List.Pairwise.sublist (List.take_sublist ..) hb
 obtain ⟨s1, s2, s3⟩ := Sd.app.mp hs
 refine ⟨m.xa, Nat.le_trans hj m.yb, ?_, ?_, ?_⟩
 · refine List.Perm.trans ?_ m.pm
   rw [e, List.reverse_append, List.reverse_reverse, ← List.append_assoc, ← List.append_assoc]
 · rw [List.reverse_append, List.reverse_reverse]
   exact Sd.app.mpr ⟨s2, m.sd, fun q hq p hp => m.le p (List.mem_reverse.mp hp) q (.inr (by rw [e]; exact List.mem_append_right _ hq))⟩
 · intro p hp q hq
   rcases List.mem_append.mp hp with hp | hp
   · refine m.le p hp q ?_
     rcases hq with hq | hq
     · exact .inl hq
     · exact .inr (by rw [e]; exact List.mem_append_left _ hq)
   · rcases hq with hq | hq
     · exact h p (List.mem_reverse.mp hp) q hq
     · exact s3 q hq p (List.mem_reverse.mp hp)
theorem Mh.endF {a b o : List Keyed} {x y : Nat} (m : Mh a b o x y) (ha : Sd a) (hb : Sd b) (h : x = 0 ∨ y = 0) : Dn a b (a.take x ++ b.take y ++ o.reverse) := by
 refine ⟨m.pm, Sd.app.mpr ⟨?_, m.sd, fun q hq p hp => m.le p (List.mem_reverse.mp hp) q (List.mem_append.mp hq)⟩⟩
 rcases h with h | h
 · rw [h, List.take_zero, List.nil_append]; exact List.Pairwise.sublist (List.take_sublist ..) hb
 · rw [h, List.take_zero, List.append_nil]; exact List.Pairwise.sublist (List.take_sublist ..) ha
theorem Mh.endB {a b o : List Keyed} {x y : Nat} (m : Mh a b o x y) (ha : Sd a) (h : y = 1) (hf : ∀ p ∈ a, ∀ q, b[0]? = some q → ky q ≤ ky p) : Dn a b (b.take y ++ a.take x ++ o.reverse) := by
 subst h
 refine ⟨?_, Sd.app.mpr ⟨Sd.app.mpr ⟨?_, List.Pairwise.sublist (List.take_sublist ..) ha, ?_⟩, m.sd, ?_⟩⟩
 · refine List.Perm.trans ?_ m.pm
   exact List.Perm.append_right _ List.perm_append_comm
 · match b with
   | [] => exact List.Pairwise.nil
   | q :: r => exact List.pairwise_singleton _ _
 · intro q hq p hp
   obtain ⟨i, i1, i2⟩ := take_mem hq
   have : i = 0 := by omega
   subst this
   exact hf p (List.mem_of_mem_take hp) q i2
 · intro q hq p hp
   refine m.le p (List.mem_reverse.mp hp) q ?_
   rcases List.mem_append.mp hq with h | h
   · exact .inr h
   · exact .inl h
theorem fiH_list (a b o : Array Keyed) (x y : Nat) : (fiH a b o x y).toList = a.toList.take x ++ b.toList.take y ++ o.toList.reverse := by
 unfold fiH
 simp only [Array.toList_append, Array.toList_extract, List.extract_eq_drop_take, Array.toList_reverse, List.drop_zero, Nat.sub_zero]
theorem fiB_list (a b o : Array Keyed) (x y : Nat) : (fiB a b o x y).toList = b.toList.take y ++ a.toList.take x ++ o.toList.reverse := by
 unfold fiB
 simp only [Array.toList_append, Array.toList_extract, List.extract_eq_drop_take, Array.toList_reverse, List.drop_zero, Nat.sub_zero]
theorem ext_list2 (a : Array Keyed) (j x : Nat) : (a.extract j x).toList = (a.toList.drop j).take (x - j) := by
 simp only [Array.toList_extract, List.extract_eq_drop_take]
section
variable {prog : Program} {w : World} {A : Around} {E : Value → Shared → Prop} {s : Shared} {a b : Array Keyed}
structure InH (a b o : Array Keyed) (x y : Nat) : Prop where
 mh : Mh a.toList b.toList o.toList x y
 x1 : 1 ≤ x
 y1 : 2 ≤ y
theorem Mh.pushA {o : Array Keyed} {x y : Nat} {p : Keyed} (T : Two a b) (m : Mh a.toList b.toList o.toList x y) (hx : 1 ≤ x) (hp : a.toList[x - 1]? = some p) (h : ∀ q ∈ b.toList.take y, ky q ≤ ky p) :
  Mh a.toList b.toList (o.push p).toList (x - 1) y := by
 rw [Array.toList_push]
 exact m.stepA T.sa [p] (x - 1) (by rw [show x - (x - 1) = 1 by omega]; exact one_list hp) (by omega) fun q hq => by rw [List.mem_singleton.mp hq]; exact h
theorem Mh.pushB {o : Array Keyed} {x y : Nat} {p : Keyed} (T : Two a b) (m : Mh a.toList b.toList o.toList x y) (hy : 1 ≤ y) (hp : b.toList[y - 1]? = some p) (h : ∀ q ∈ a.toList.take x, ky q ≤ ky p) :
  Mh a.toList b.toList (o.push p).toList x (y - 1) := by
 rw [Array.toList_push]
 exact m.stepB T.sb [p] (y - 1) (by rw [show y - (y - 1) = 1 by omega]; exact one_list hp) (by omega) fun q hq => by rw [List.mem_singleton.mp hq]; exact h
theorem Mh.told {o : Array Keyed} {x y : Nat} (T : Two a b) (m : Mh a.toList b.toList o.toList x y) (h : x = 0 ∨ y = 0) : Told a b (fiH a b o x y) := by
 unfold Told; rw [fiH_list]; exact m.endF T.sa T.sb h
theorem Mh.toldB {o : Array Keyed} {x y : Nat} (T : Two a b) (m : Mh a.toList b.toList o.toList x y) (h : y = 1) : Told a b (fiB a b o x y) := by
 unfold Told; rw [fiB_list]; exact m.endB T.sa h T.fst
noncomputable def GHok (a b : Array Keyed) (st : SortSt) (n : Nat) (c : GH) (z : SortSt) : Prop :=
 (∃ g, z = gst st g) ∧ ((∃ r x y o mg ca cb, c = (some r, x, y, o, mg, ca, cb) ∧ Told a b r) ∨ ∃ x y o mg ca cb, c = (none, x, y, o, mg, ca, cb) ∧ InH a b o x y ∧ x + y ≤ n)
noncomputable def OHok (a b : Array Keyed) (st : SortSt) (n : Nat) (c : OH) (z : SortSt) : Prop :=
 (∃ g, z = gst st g) ∧ ((∃ r x y o ca cb, c = (some r, x, y, o, ca, cb) ∧ Told a b r) ∨ ∃ x y o ca cb, c = (none, x, y, o, ca, cb) ∧ InH a b o x y ∧ x + y ≤ n)
theorem InH.xs {o : Array Keyed} {x y : Nat} (m : InH a b o x y) : x - 1 < a.size := by have := m.mh.xa; have := m.x1; rw [Array.length_toList] at *; omega
theorem InH.ys {o : Array Keyed} {x y : Nat} (m : InH a b o x y) : y - 1 < b.size := by have := m.mh.yb; have := m.y1; rw [Array.length_toList] at *; omega
theorem top_le {c : Array Keyed} (h : Sd c.toList) {x : Nat} {p : Keyed} (hx : 1 ≤ x) (hp : c.toList[x - 1]? = some p) : ∀ q ∈ c.toList.take x, ky q ≤ ky p := by
 have := sd_take h hp
 rwa [show x - 1 + 1 = x by omega] at this
theorem wp_hi3 {st : SortSt} {o : Array Keyed} {x y mg ca cb g n : Nat} {Q : ForInStep GH → SortSt → Prop} (T : Two a b) (m : InH a b o x y) (hn : x + y ≤ n + 1) (hle : ∀ p, a.toList[x - 1]? = some p → ∀ q ∈ b.toList.take y, ky q ≤ ky p)
  (hd : ∀ c, GHok a b st n c (gst st g) → Q (.done c) (gst st g)) (hy : ∀ x y o mg ca cb, InH a b o x y → x + y ≤ n → Q (.yield (none, x, y, o, mg, ca, cb)) (gst st g)) :
  wpS (model prog w) A E s (hi3 a b o x y mg ca cb) Q (gst st g) := by
 obtain ⟨p, p1, p2, p3⟩ := at_some (a := a) (x := x - 1) m.xs
 have hx := m.x1
 have m' := m.mh.pushA T hx p2 (hle p p2)
 unfold hi3
 refine wpS_bind (wp_elem p1 ?_)
 by_cases h1 : x - 1 = 0
 · rw [if_pos (by simpa using h1)]
   exact wpS_pure (hd _ ⟨⟨g, rfl⟩, .inl ⟨_, _, _, _, _, _, _, rfl, m'.told T (.inl h1)⟩⟩)
 · rw [if_neg (by simpa using h1)]
   have hin : InH a b (o.push p) (x - 1) y := ⟨m', by omega, m.y1⟩
   split
   · exact wpS_pure (hd _ ⟨⟨g, rfl⟩, .inr ⟨_, _, _, _, _, _, rfl, hin, by omega⟩⟩)
   · exact wpS_pure (hy _ _ _ _ _ _ hin (by omega))
theorem wp_hi2 {st : SortSt} {o : Array Keyed} {x y mg ca cb g n : Nat} {Q : ForInStep GH → SortSt → Prop} (hk : kindOf st = oneType') (T : Two a b) (m : InH a b o x y) (hn : x + y ≤ n + 1) (hle : ∀ p, b.toList[y - 1]? = some p → ∀ q ∈ a.toList.take x, ky q ≤ ky p)
  (hd : ∀ c, GHok a b st n c (gst st g) → Q (.done c) (gst st g)) (hy : ∀ x y o mg ca cb, InH a b o x y → x + y ≤ n → Q (.yield (none, x, y, o, mg, ca, cb)) (gst st g)) :
  wpS (model prog w) A E s (hi2 a b o x y mg ca cb) Q (gst st g) := by
 obtain ⟨p, p1, p2, p3⟩ := at_some (a := b) (x := y - 1) m.ys
 obtain ⟨q, q1, q2, q3⟩ := at_some (a := a) (x := x - 1) m.xs
 have hx := m.x1
 have hy2 := m.y1
 have hys := m.ys
 have m' := m.mh.pushB T (by omega) p2 (hle p p2)
 unfold hi2
 refine wpS_bind (wp_elem p1 ?_)
 by_cases h1 : y - 1 = 1
 · rw [if_pos (by simpa using h1)]
   exact wpS_pure (hd _ ⟨⟨g, rfl⟩, .inl ⟨_, _, _, _, _, _, _, rfl, m'.toldB T h1⟩⟩)
 · rw [if_neg (by simpa using h1)]
   refine wpS_bind (wp_elem q1 ?_)
   refine wpS_bind (wp_gallop hk (T.ia q q3) T.ib (by omega) (sd_seg T.sb (by omega)) (by omega) fun t k1 k2 k3 => ?_)
   simp only [if_true, Nat.zero_add] at k2 k3
   dsimp only
   have hrest : ∀ j, j = t → ∀ p', a.toList[x - 1]? = some p' → ∀ u ∈ b.toList.take j, ky u ≤ ky p' := by
    rintro j rfl p' hp' u hu
    rw [q2] at hp'; cases hp'
    obtain ⟨i, i1, i2⟩ := take_mem hu
    obtain ⟨i3, i4⟩ := at_mem i2
    rw [← i4]; exact Int.le_of_lt (k2 i (Nat.zero_le _) i1)
   by_cases hk0 : y - 1 - t > 0
   · rw [if_pos hk0]
     have m2 : Mh a.toList b.toList (o.push p ++ (b.extract t (y - 1)).reverse).toList x t := by
      rw [Array.toList_append, Array.toList_reverse]
      refine m'.stepB T.sb _ t (ext_list2 b t (y - 1)) k1 fun u hu v hv => ?_
      rw [ext_list2] at hu
      obtain ⟨i, i1, i2, i3⟩ := take_drop_mem hu
      obtain ⟨i4, i5⟩ := at_mem i3
      have := k3 i i1 (by omega)
      have h2 := top_le T.sa hx q2 v hv
      omega
     by_cases h2 : t = 1
     · rw [if_pos (by simpa using h2)]
       exact wpS_pure (hd _ ⟨⟨g, rfl⟩, .inl ⟨_, _, _, _, _, _, _, rfl, m2.toldB T h2⟩⟩)
     rw [if_neg (by simpa using h2)]
     by_cases h3 : t = 0
     · rw [if_pos (by simpa using h3)]
       exact wpS_pure (hd _ ⟨⟨g, rfl⟩, .inl ⟨_, _, _, _, _, _, _, rfl, m2.told T (.inr h3)⟩⟩)
     rw [if_neg (by simpa using h3)]
     exact wp_hi3 T ⟨m2, hx, by omega⟩ (by omega) (hrest _ rfl) hd hy
   · rw [if_neg hk0]
     exact wp_hi3 T ⟨m', hx, by omega⟩ (by omega) (hrest _ (by omega)) hd hy
theorem wp_hi1 {st : SortSt} {o : Array Keyed} {x y mg ca cb g n : Nat} {Q : ForInStep GH → SortSt → Prop} (hk : kindOf st = oneType') (T : Two a b) (m : InH a b o x y) (hn : x + y ≤ n + 1)
  (hd : ∀ c z, GHok a b st n c z → Q (.done c) z) (hy : ∀ x y o mg ca cb g, InH a b o x y → x + y ≤ n → Q (.yield (none, x, y, o, mg, ca, cb)) (gst st g)) :
  wpS (model prog w) A E s (hi1 a b o x y mg ca cb) Q (gst st g) := by
 obtain ⟨p, p1, p2, p3⟩ := at_some (a := b) (x := y - 1) m.ys
 have hx := m.x1
 have hy2 := m.y1
 have hxs := m.xs
 unfold hi1
 rw [setMG_is]
 refine wpS_bind (wpS_modify ?_)
 show wpS (model prog w) A E s _ _ (gst st mg)
 refine wpS_bind (wp_elem p1 ?_)
 refine wpS_bind (wp_gallop hk (T.ib p p3) T.ia (by omega) (sd_seg T.sa (by omega)) (by omega) fun t k1 k2 k3 => ?_)
 simp only [Bool.false_eq_true, if_false, Nat.zero_add] at k2 k3
 dsimp only
 have hrest : ∀ j, j = t → ∀ p', b.toList[y - 1]? = some p' → ∀ u ∈ a.toList.take j, ky u ≤ ky p' := by
  rintro j rfl p' hp' u hu
  rw [p2] at hp'; cases hp'
  obtain ⟨i, i1, i2⟩ := take_mem hu
  obtain ⟨i3, i4⟩ := at_mem i2
  rw [← i4]; exact k2 i (Nat.zero_le _) i1
 by_cases hk0 : x - t > 0
 · rw [if_pos hk0]
   have m2 : Mh a.toList b.toList (o ++ (a.extract t x).reverse).toList t y := by
    rw [Array.toList_append, Array.toList_reverse]
    refine m.mh.stepA T.sa _ t (ext_list2 a t x) k1 fun u hu v hv => ?_
    rw [ext_list2] at hu
    obtain ⟨i, i1, i2, i3⟩ := take_drop_mem hu
    obtain ⟨i4, i5⟩ := at_mem i3
    have := k3 i i1 (by omega)
    have h2 := top_le T.sb (by omega) p2 v hv
    omega
   by_cases h1 : t = 0
   · rw [if_pos (by simpa using h1)]
     exact wpS_pure (hd _ _ ⟨⟨_, rfl⟩, .inl ⟨_, _, _, _, _, _, _, rfl, m2.told T (.inl h1)⟩⟩)
   rw [if_neg (by simpa using h1)]
   exact wp_hi2 hk T ⟨m2, by omega, hy2⟩ (by omega) (hrest _ rfl) (fun c h => hd c _ h) fun x y o mg' ca cb => hy x y o mg' ca cb mg
 · rw [if_neg hk0]
   exact wp_hi2 hk T m hn (hrest _ (by omega)) (fun c h => hd c _ h) fun x y o mg' ca cb => hy x y o mg' ca cb mg
theorem wp_hiO {st : SortSt} {o : Array Keyed} {x y ca cb mg g n : Nat} {Q : ForInStep OH → SortSt → Prop} (hk : kindOf st = oneType') (T : Two a b) (m : InH a b o x y) (hn : x + y ≤ n + 1)
  (hd : ∀ c, OHok a b st n c (gst st g) → Q (.done c) (gst st g)) (hy : ∀ x y o ca cb, InH a b o x y → x + y ≤ n → Q (.yield (none, x, y, o, ca, cb)) (gst st g)) :
  wpS (model prog w) A E s (hiO a b mg (none, x, y, o, ca, cb)) Q (gst st g) := by
 obtain ⟨p, p1, p2, p3⟩ := at_some (a := b) (x := y - 1) m.ys
 obtain ⟨q, q1, q2, q3⟩ := at_some (a := a) (x := x - 1) m.xs
 have hx := m.x1
 have hy2 := m.y1
 unfold hiO
 dsimp only
 refine wpS_bind (wp_elem p1 (wpS_bind (wp_elem q1 ?_)))
 refine wpS_bind (wp_lt hk (T.ib p p3) (T.ia q q3) ?_)
 dsimp only
 by_cases hl : ky p < ky q
 · rw [if_pos (by simpa using hl)]
   have m' := m.mh.pushA T hx q2 fun u hu => Int.le_trans (top_le T.sb (by omega) p2 u hu) (Int.le_of_lt hl)
   refine wpS_bind (wp_elem q1 ?_)
   by_cases h1 : x - 1 = 0
   · rw [if_pos (by simpa using h1)]
     exact wpS_pure (hd _ ⟨⟨_, rfl⟩, .inl ⟨_, _, _, _, _, _, rfl, m'.told T (.inl h1)⟩⟩)
   rw [if_neg (by simpa using h1)]
   have hin : InH a b (o.push q) (x - 1) y := ⟨m', by omega, hy2⟩
   split
   · exact wpS_pure (hd _ ⟨⟨_, rfl⟩, .inr ⟨_, _, _, _, _, rfl, hin, by omega⟩⟩)
   · exact wpS_pure (hy _ _ _ _ _ hin (by omega))
 · rw [if_neg (by simpa using hl)]
   have m' := m.mh.pushB T (by omega) p2 fun u hu => Int.le_trans (top_le T.sa hx q2 u hu) (Int.not_lt.mp hl)
   refine wpS_bind (wp_elem p1 ?_)
   by_cases h1 : y - 1 = 1
   · rw [if_pos (by simpa using h1)]
     exact wpS_pure (hd _ ⟨⟨_, rfl⟩, .inl ⟨_, _, _, _, _, _, rfl, m'.toldB T h1⟩⟩)
   rw [if_neg (by simpa using h1)]
   have hin : InH a b (o.push p) x (y - 1) := ⟨m', hx, by omega⟩
   split
   · exact wpS_pure (hd _ ⟨⟨_, rfl⟩, .inr ⟨_, _, _, _, _, rfl, hin, by omega⟩⟩)
   · exact wpS_pure (hy _ _ _ _ _ hin (by omega))
theorem wp_hiT {st : SortSt} {o : Array Keyed} {x y mg g : Nat} {Q : ForInStep TH → SortSt → Prop} (hk : kindOf st = oneType') (T : Two a b) (m : InH a b o x y)
  (hd : ∀ r x y o mg g, Told a b r → Q (.done (some r, x, y, o, mg)) (gst st g)) (hy : ∀ x' y' o' mg g, InH a b o' x' y' → x' + y' + 1 ≤ x + y → Q (.yield (none, x', y', o', mg)) (gst st g)) :
  wpS (model prog w) A E s (hiT a b (none, x, y, o, mg)) Q (gst st g) := by
 have hna := T.na
 have hnb := T.nb
 have hx := m.x1
 unfold hiT
 dsimp only
 refine wpS_bind (wpS_mono (wpS_forRange (I := fun i c z => ∃ x' y' o' ca cb g, c = (none, x', y', o', ca, cb) ∧ z = gst st g ∧ InH a b o' x' y' ∧ x' + y' + i ≤ x + y)
  (Q := fun c z => OHok a b st (x + y - 1) c z) ?s1 ?s2 ⟨x, y, o, 0, 0, g, rfl, rfl, m, by omega⟩) ?s3)
 case s2 =>
  rintro c z ⟨x', y', o', ca, cb, g', rfl, rfl, m', hle⟩
  exact ⟨⟨_, rfl⟩, .inr ⟨_, _, _, _, _, rfl, m', by omega⟩⟩
 case s1 =>
  rintro i c z _ hi ⟨x', y', o', ca, cb, g', rfl, rfl, m', hle⟩
  have h1' := m'.x1
  refine wp_hiO (n := x' + y' - 1) hk T m' (by omega) (fun c hc => ?_) fun x2 y2 o2 ca cb m2 h2 => ⟨x2, y2, o2, ca, cb, g', rfl, rfl, m2, by omega⟩
  obtain ⟨h1, h2⟩ := hc
  refine ⟨h1, ?_⟩
  rcases h2 with h2 | ⟨x2, y2, o2, ca, cb, e, m2, h2⟩
  · exact .inl h2
  · exact .inr ⟨x2, y2, o2, ca, cb, e, m2, by omega⟩
 case s3 =>
  rintro c z ⟨⟨g', rfl⟩, hc⟩
  rcases hc with ⟨r, x2, y2, o2, ca, cb, rfl, hr⟩ | ⟨x2, y2, o2, ca, cb, rfl, m2, h2⟩
  · dsimp only
    exact wpS_pure (hd _ _ _ _ _ _ hr)
  · dsimp only
    refine wpS_bind (wpS_lift (wpAny_rule ⟨rfl, ?_⟩))
    refine wpS_bind (wpS_mono (wpS_forRange (I := fun i c z => ∃ x' y' o' mg ca cb g, c = (none, x', y', o', mg, ca, cb) ∧ z = gst st g ∧ InH a b o' x' y' ∧ x' + y' ≤ x + y - 1)
     (Q := fun c z => GHok a b st (x + y - 1) c z) ?s4 ?s5 ⟨x2, y2, o2, mg + 1, ca, cb, g', rfl, rfl, m2, h2⟩) ?s6)
    case s5 =>
     rintro c z ⟨x', y', o', mg', ca, cb, g', rfl, rfl, m', hle⟩
     exact ⟨⟨_, rfl⟩, .inr ⟨_, _, _, _, _, _, rfl, m', by omega⟩⟩
    case s4 =>
     rintro i c z _ hi ⟨x', y', o', mg', ca, cb, g', rfl, rfl, m', hle⟩
     dsimp only
     split
     · exact wp_hi1 (n := x + y - 1) hk T m' (by omega) (fun c z hc => hc) fun x2 y2 o2 mg ca cb g m2 h2 => ⟨x2, y2, o2, mg, ca, cb, g, rfl, rfl, m2, h2⟩
     · exact wp_hi1 (n := x + y - 1) hk T m' (by omega) (fun c z hc => hc) fun x2 y2 o2 mg ca cb g m2 h2 => ⟨x2, y2, o2, mg, ca, cb, g, rfl, rfl, m2, h2⟩
    case s6 =>
     rintro c z ⟨⟨g', rfl⟩, hc⟩
     rcases hc with ⟨r, x2, y2, o2, mg', ca, cb, rfl, hr⟩ | ⟨x2, y2, o2, mg', ca, cb, rfl, m2, h2⟩
     · dsimp only
       exact wpS_pure (hd _ _ _ _ _ _ hr)
     · dsimp only
       rw [setMG_is]
       exact wpS_bind (wpS_modify (wpS_pure (hy _ _ _ _ _ m2 (by omega))))
theorem wp_mergeHi {st : SortSt} {Q : Array Keyed → SortSt → Prop} (hk : kindOf st = oneType') (T : Two a b) (h : ∀ r g, Told a b r → Q r (gst st g)) :
  wpS (model prog w) A E s (mergeHi' a b) Q st := by
 have hna := T.na
 have hnb := T.nb
 obtain ⟨p, p1, p2, p3⟩ := at_some (a := a) (x := a.size - 1) (by omega)
 have m1 : Mh a.toList b.toList (#[] : Array Keyed).toList a.size b.size := by
  refine ⟨by simp, by simp, ?_, List.Pairwise.nil, fun p hp => absurd hp (by simp)⟩
  rw [List.take_of_length_le (by simp), List.take_of_length_le (by simp)]
  simp
 have m : Mh a.toList b.toList (#[p] : Array Keyed).toList (a.size - 1) b.size := m1.pushA T (by omega) p2 fun q hq => T.lst q (List.mem_of_mem_take hq) p (by rw [Array.length_toList]; exact p2)
 rw [mergeHi_is]
 unfold mHi
 refine wpS_bind (wpS_lift (wpAny_rule ⟨rfl, ?_⟩))
 refine wpS_bind (wp_elem p1 ?_)
 by_cases h1 : a.size - 1 = 0
 · rw [if_pos (by simpa using h1)]
   exact wpS_pure (h _ (gallopOf st) (m.told T (.inl h1)))
 rw [if_neg (by simpa using h1)]
 by_cases h2 : b.size = 1
 · rw [if_pos (by simpa using h2)]
   exact wpS_pure (h _ (gallopOf st) (m.toldB T h2))
 rw [if_neg (by simpa using h2)]
 refine wpS_bind (wpS_get ?_)
 refine wpS_bind (wpS_mono (wpS_forRange (I := fun i c z => ∃ x y o mg g, c = (none, x, y, o, mg) ∧ z = gst st g ∧ InH a b o x y ∧ x + y + i + 1 ≤ a.size + b.size)
  (Q := fun c z => ∃ r x y o mg g, c = (some r, x, y, o, mg) ∧ z = gst st g ∧ Told a b r) ?s1 ?s2 ⟨a.size - 1, b.size, #[p], _, gallopOf st, rfl, rfl, ⟨m, by omega, by omega⟩, by omega⟩) ?s3)
 case s2 =>
  rintro c z ⟨x, y, o, mg, g, rfl, rfl, m, hle⟩
  have := m.x1
  have := m.y1
  omega
 case s1 =>
  rintro i c z _ hi ⟨x, y, o, mg, g, rfl, rfl, m, hle⟩
  exact wp_hiT hk T m (fun r x y o mg g hr => ⟨r, x, y, o, mg, g, rfl, rfl, hr⟩) fun x y o mg g m h => ⟨x, y, o, mg, g, rfl, rfl, m, by omega⟩
 case s3 =>
  rintro c z ⟨r, x, y, o, mg, g, rfl, rfl, hr⟩
  exact wpS_pure (h r g hr)
end
set_option autoImplicit false
noncomputable def mAt (i : Nat) : StateT SortSt Sem Bool := do
 let z ← get
 let (some (sa, na, pw), some (sb, nb, _)) := ((pendingOf z)[i]?, (pendingOf z)[i + 1]?) | unsupported "internal:list.sort.pending"
 set (setPending z (((pendingOf z).setIfInBounds i (sa, na + nb, pw)).eraseIdxIfInBounds (i + 1)))
 let some k ← gallop' false (← elem' (arrOf z) sb) (arrOf z) sa na 0 | return false
 let (sa, na) := (sa + k, na - k)
 if na == 0 then return true
 let some nb ← gallop' true (← elem' (arrOf z) (sa + na - 1)) (arrOf z) sb nb (nb - 1) | return false
 if nb == 0 then return true
 let x := (arrOf z).extract sa sb
 let y := (arrOf z).extract sb (sb + nb)
 let r ← if na ≤ nb then mergeLo' x y else mergeHi' x y
 modify fun z => setArr z (r.toList.zipIdx.foldl (fun a (p, j) => a.setIfInBounds (sa + j) p) (arrOf z))
 return (failedOf (← get)).isNone
theorem mergeAt_is (i : Nat) : mergeAt' i = mAt i := by kernel_rfl
noncomputable def lay (xs : Array Keyed) (sa : Nat) (r : List Keyed) : Array Keyed := r.zipIdx.foldl (fun a (p, j) => a.setIfInBounds (sa + j) p) xs
theorem lay_at' (sa i : Nat) : ∀ (r : List Keyed) (n : Nat) (xs : Array Keyed), sa + n + r.length ≤ xs.size →
  ((r.zipIdx n).foldl (fun a (p, j) => a.setIfInBounds (sa + j) p) xs)[i]? = if sa + n ≤ i ∧ i < sa + n + r.length then r[i - (sa + n)]? else xs[i]?
 | [], n, xs, h => by
   rw [if_neg (by simp)]; rfl
 | p :: r, n, xs, h => by
   rw [List.zipIdx_cons, List.foldl_cons]
   have h' : sa + (n + 1) + r.length ≤ (xs.setIfInBounds (sa + n) p).size := by simp only [Array.size_setIfInBounds]; simp only [List.length_cons] at h; omega
   rw [lay_at' sa i r (n + 1) _ h', Array.getElem?_setIfInBounds]
   simp only [List.length_cons] at h ⊢
   by_cases h1 : sa + n = i
   · subst h1
     rw [if_neg (by omega), if_pos rfl, if_pos (by omega), if_pos (by omega)]
     simp
   · by_cases h2 : sa + (n + 1) ≤ i ∧ i < sa + (n + 1) + r.length
     · rw [if_pos h2, if_pos (by omega), show i - (sa + n) = (i - (sa + (n + 1))) + 1 by omega, List.getElem?_cons_succ]
     · rw [if_neg h2, if_neg h1, if_neg (by omega)]
theorem lay_at {xs : Array Keyed} {sa : Nat} {r : List Keyed} (h : sa + r.length ≤ xs.size) (i : Nat) : (lay xs sa r)[i]? = if sa ≤ i ∧ i < sa + r.length then r[i - sa]? else xs[i]? :=
 lay_at' sa i r 0 xs h
theorem lay_list {xs : Array Keyed} {sa : Nat} {r : List Keyed} (h : sa + r.length ≤ xs.size) : (lay xs sa r).toList = xs.toList.take sa ++ r ++ xs.toList.drop (sa + r.length) := by
 apply List.ext_getElem?
 intro i
 rw [Array.getElem?_toList, lay_at h, List.append_assoc]
 have hl : (xs.toList.take sa).length = sa := by rw [List.length_take, Array.length_toList]; omega
 by_cases h1 : i < sa
 · rw [if_neg (by omega), List.getElem?_append_left (by omega), List.getElem?_take_of_lt h1, Array.getElem?_toList]
 · rw [List.getElem?_append_right (by omega), hl]
   by_cases h2 : i < sa + r.length
   · rw [if_pos ⟨by omega, h2⟩, List.getElem?_append_left (by omega)]
   · rw [if_neg (by omega), List.getElem?_append_right (by omega), List.getElem?_drop, Array.getElem?_toList]
     congr 1
     omega
theorem lay_perm {xs : Array Keyed} {sa : Nat} {r : List Keyed} (h : sa + r.length ≤ xs.size) (hp : r.Perm ((xs.toList.drop sa).take r.length)) : (lay xs sa r).Perm xs := by
 rw [Array.perm_iff_toList_perm, lay_list h]
 have e : xs.toList = xs.toList.take sa ++ (xs.toList.drop sa).take r.length ++ xs.toList.drop (sa + r.length) := by
  rw [List.append_assoc, ← List.drop_drop, List.take_append_drop, List.take_append_drop]
 conv => rhs; rw [e]
 exact List.Perm.append_right _ (List.Perm.append_left _ hp)
theorem lay_K {xs : Array Keyed} {sa : Nat} {r : List Keyed} (h : sa + r.length ≤ xs.size) {i : Nat} : (sa ≤ i → i < sa + r.length → ∃ p, r[i - sa]? = some p ∧ K (lay xs sa r) i = ky p) ∧ ((i < sa ∨ sa + r.length ≤ i) → K (lay xs sa r) i = K xs i) := by
 have e := lay_at h i
 refine ⟨fun h1 h2 => ?_, fun h1 => ?_⟩
 · rw [if_pos ⟨h1, h2⟩] at e
   refine ⟨r[i - sa], List.getElem?_eq_getElem (by omega), ?_⟩
   unfold K
   rw [e, List.getElem?_eq_getElem (by omega)]
   rfl
 · rw [if_neg (by omega)] at e
   exact K_congr e
theorem seg_join {xs : Array Keyed} {i j k : Nat} (h1 : Seg xs i j) (h2 : Seg xs j k) (h : i < j → j < k → K xs (j - 1) ≤ K xs j) : Seg xs i k := by
 intro p q a b c
 by_cases hp : p < j
 · by_cases hq : q < j
   · exact h1 p q a b hq
   · exact Int.le_trans (h1 p (j - 1) a (by omega) (by omega)) (Int.le_trans (h (by omega) (by omega)) (h2 j q (Nat.le_refl _) (by omega) c))
 · exact h2 p q (by omega) b c
theorem seg_sd {xs : Array Keyed} {i j : Nat} (h : Seg xs i j) (hj : j ≤ xs.size) : Sd (xs.extract i j).toList := by
 refine List.pairwise_iff_getElem.mpr fun p q h1 h2 hpq => ?_
 rw [Array.length_toList, Array.size_extract] at h1 h2
 have := h (i + p) (i + q) (by omega) (by omega) (by omega)
 rw [K_eq (show i + p < xs.size by omega), K_eq (show i + q < xs.size by omega)] at this
 simpa [ky] using this
theorem ext_mem {xs : Array Keyed} {i j : Nat} {p : Keyed} (hj : j ≤ xs.size) (h : p ∈ (xs.extract i j).toList) : ∃ k, i ≤ k ∧ k < j ∧ K xs k = ky p ∧ p ∈ xs.toList := by
 rw [ext_list2] at h
 obtain ⟨k, k1, k2, k3⟩ := take_drop_mem h
 exact ⟨k, k1, by omega, (at_mem k3).2, List.mem_of_getElem? k3⟩
section
variable {prog : Program} {w : World} {A : Around} {E : Value → Shared → Prop} {s : Shared} {a₀ : Array Keyed}
theorem wpS_set {σ : Type} {M : Model} {x : σ} {Q : PUnit → σ → Prop} {st : σ} (h : Q ⟨⟩ x) : wpS M A E s (set x : StateT σ Sem PUnit) Q st := by
 unfold wpS; rw [StateT.run_set]; exact wpAny_pure ⟨rfl, h⟩
theorem pend_at {P : Array (Nat × Nat × Nat)} {pre post : List (Nat × Nat × Nat)} {u v : Nat × Nat × Nat} (h : P.toList = pre ++ u :: v :: post) (c : Nat × Nat × Nat) :
  P[pre.length]? = some u ∧ P[pre.length + 1]? = some v ∧ ((P.setIfInBounds pre.length c).eraseIdxIfInBounds (pre.length + 1)).toList = pre ++ c :: post := by
 obtain ⟨l⟩ := P
 simp only at h
 subst h
 refine ⟨by simp, by simp, ?_⟩
 simp [Array.eraseIdxIfInBounds, List.eraseIdx_append_of_length_le]
theorem wp_mergeAt {st : SortSt} {i sa na pw sb nb pw2 : Nat} {pre post : List (Nat × Nat × Nat)} {Q : Bool → SortSt → Prop} (h0 : IntKeys a₀) (hB : TB a₀ st)
  (hP : (pendingOf st).toList = pre ++ (sa, na, pw) :: (sb, nb, pw2) :: post) (hi : i = pre.length) (hsb : sb = sa + na) (hna : 1 ≤ na) (hnb : 1 ≤ nb) (hsz : sb + nb ≤ a₀.size)
  (s1 : Seg (arrOf st) sa sb) (s2 : Seg (arrOf st) sb (sb + nb))
  (h : ∀ st', TB a₀ st' → (pendingOf st').toList = pre ++ (sa, na + nb, pw) :: post → (∀ k, (k < sa ∨ sb + nb ≤ k) → K (arrOf st') k = K (arrOf st) k) → Seg (arrOf st') sa (sb + nb) → Q true st') :
  wpS (model prog w) A E s (mergeAt' i) Q st := by
 subst hi
 obtain ⟨e1, e2, e3⟩ := pend_at hP (sa, na + nb, pw)
 have hs := hB.sz
 have hI : ∀ p ∈ (arrOf st).toList, IsI p := fun p hp => h0 p ((Array.perm_iff_toList_perm.mp hB.pm).mem_iff.mp hp)
 rw [mergeAt_is]
 unfold mAt
 refine wpS_bind (wpS_get ?_)
 rw [e1, e2]
 dsimp only
 refine wpS_bind (wpS_set ?_)
 generalize hP' : ((pendingOf st).setIfInBounds pre.length (sa, na + nb, pw)).eraseIdxIfInBounds (pre.length + 1) = P' at e3 ⊢
 have hB1 : TB a₀ (setPending st P') := ⟨hB.pm, hB.kd, hB.nf⟩
 obtain ⟨p, p1, p2, p3⟩ := at_some (a := arrOf st) (x := sb) (by omega)
 have pK : K (arrOf st) sb = ky p := (at_mem p2).2
 refine wpS_bind (wp_elem p1 ?_)
 refine wpS_bind (wp_gallop (st := setPending st P') hB.kd (hI p p3) hI (by omega) (by rw [← hsb]; exact s1) (by omega) fun k k1 k2 k3 => ?_)
 simp only [Bool.false_eq_true, if_false] at k2 k3
 dsimp only
 by_cases hz : na - k = 0
 · rw [if_pos (by simpa using hz)]
   refine wpS_pure (h _ hB1 e3 (fun _ _ => rfl) (seg_join s1 s2 fun _ _ => ?_))
   show K (arrOf st) (sb - 1) ≤ K (arrOf st) sb
   rw [pK]
   exact k2 _ (by omega) (by omega)
 rw [if_neg (by simpa using hz)]
 have hlast : sa + k + (na - k) - 1 = sb - 1 := by omega
 obtain ⟨q, q1, q2, q3⟩ := at_some (a := arrOf st) (x := sb - 1) (by omega)
 have qK : K (arrOf st) (sb - 1) = ky q := (at_mem q2).2
 rw [hlast]
 refine wpS_bind (wp_elem q1 ?_)
 refine wpS_bind (wp_gallop (st := setPending st P') hB.kd (hI q q3) hI (by omega) s2 (by omega) fun m m1 m2 m3 => ?_)
 simp only [if_true] at m2 m3
 dsimp only
 by_cases hm : m = 0
 · rw [if_pos (by simpa using hm)]
   refine wpS_pure (h _ hB1 e3 (fun _ _ => rfl) (seg_join s1 s2 fun _ _ => ?_))
   show K (arrOf st) (sb - 1) ≤ K (arrOf st) sb
   rw [qK]
   exact m3 _ (by omega) (by omega)
 rw [if_neg (by simpa using hm)]
 have T : Two ((arrOf st).extract (sa + k) sb) ((arrOf st).extract sb (sb + m)) := by
  refine ⟨seg_sd (fun a b c d e => s1 a b (by omega) d e) (by omega), seg_sd (fun a b c d e => s2 a b (by omega) d (by omega)) (by omega), fun u hu => ?_, fun u hu => ?_, ?_, ?_, fun u hu v hv => ?_, fun u hu v hv => ?_⟩
  · obtain ⟨_, _, _, _, hh⟩ := ext_mem (by omega) hu; exact hI u hh
  · obtain ⟨_, _, _, _, hh⟩ := ext_mem (by omega) hu; exact hI u hh
  · rw [Array.size_extract]; omega
  · rw [Array.size_extract]; omega
  · obtain ⟨j, j1, j2, j3, _⟩ := ext_mem (by omega) hu
    rw [Array.getElem?_toList, Array.getElem?_extract] at hv
    rw [if_pos (by omega), Nat.add_zero, p1] at hv
    cases hv
    rw [← j3]
    exact Int.le_of_lt (k3 j j1 (by omega))
  · obtain ⟨j, j1, j2, j3, _⟩ := ext_mem (by omega) hu
    rw [Array.getElem?_toList, Array.length_toList, Array.size_extract, Array.getElem?_extract] at hv
    rw [if_pos (by omega), show sa + k + (min sb (arrOf st).size - (sa + k) - 1) = sb - 1 by omega, q1] at hv
    cases hv
    rw [← j3]
    exact Int.le_of_lt (m2 j j1 j2)
 have fin : ∀ r g, Told ((arrOf st).extract (sa + k) sb) ((arrOf st).extract sb (sb + m)) r →
   wpS (model prog w) A E s (do
    modify fun z => setArr z (r.toList.zipIdx.foldl (fun a (p, j) => a.setIfInBounds (sa + k + j) p) (arrOf z))
    return (failedOf (← get)).isNone) Q (gst (setPending st P') g) := by
  rintro r g ⟨r1, r2⟩
  have hlen : r.toList.length = sb + m - (sa + k) := by
   rw [r1.length_eq, List.length_append, Array.length_toList, Array.length_toList, Array.size_extract, Array.size_extract]; omega
  have hfit : sa + k + r.toList.length ≤ (arrOf st).size := by omega
  have hpm : (lay (arrOf st) (sa + k) r.toList).Perm (arrOf st) := by
   refine lay_perm hfit (r1.trans (List.Perm.of_eq ?_))
   rw [ext_list2, ext_list2, hlen, show sb + m - (sa + k) = (sb - (sa + k)) + m by omega, List.take_add, List.drop_drop, show sa + k + (sb - (sa + k)) = sb by omega, show sb + m - sb = m by omega]
  have rmem : ∀ u ∈ r.toList, K (arrOf st) sb ≤ ky u ∧ ky u ≤ K (arrOf st) (sb - 1) := fun u hu => by
   rcases List.mem_append.mp (r1.mem_iff.mp hu) with hu | hu
   · obtain ⟨j, j1, j2, j3, _⟩ := ext_mem (by omega) hu
     rw [← j3]
     have a1 := k3 j j1 (by omega)
     have a2 := s1 j (sb - 1) (by omega) (by omega) (by omega)
     omega
   · obtain ⟨j, j1, j2, j3, _⟩ := ext_mem (by omega) hu
     rw [← j3]
     have a1 := m2 j j1 j2
     have a2 := s2 sb j (Nat.le_refl _) j1 (by omega)
     omega
  refine wpS_bind (wpS_modify (wpS_bind (wpS_get (wpS_pure ?_))))
  show Q (failedOf st).isNone (setArr (gst (setPending st P') g) (lay (arrOf st) (sa + k) r.toList))
  rw [hB.nf]
  have hin : ∀ i, sa + k ≤ i → i < sb + m → ∃ u, r.toList[i - (sa + k)]? = some u ∧ K (lay (arrOf st) (sa + k) r.toList) i = ky u := fun i i1 i2 => (lay_K hfit).1 i1 (by omega)
  have hout : ∀ i, (i < sa + k ∨ sb + m ≤ i) → K (lay (arrOf st) (sa + k) r.toList) i = K (arrOf st) i := fun i i1 => (lay_K hfit).2 (by omega)
  refine h _ ⟨hpm.trans hB.pm, hB.kd, hB.nf⟩ e3 (fun j hj => hout j (by omega)) ?_
  intro x y x1 xy y1
  show K (lay (arrOf st) (sa + k) r.toList) x ≤ K (lay (arrOf st) (sa + k) r.toList) y
  by_cases hx1 : x < sa + k
  · rw [hout x (.inl hx1)]
    by_cases hy1 : y < sa + k
    · rw [hout y (.inl hy1)]; exact s1 x y x1 xy (by omega)
    · have hxk := k2 x x1 hx1
      by_cases hy2 : y < sb + m
      · obtain ⟨u, u1, u2⟩ := hin y (by omega) hy2
        rw [u2]
        have := (rmem u (List.mem_of_getElem? u1)).1
        omega
      · rw [hout y (.inr (by omega))]
        have := s2 sb y (Nat.le_refl _) (by omega) y1
        omega
  · by_cases hx2 : x < sb + m
    · obtain ⟨u, u1, u2⟩ := hin x (by omega) hx2
      rw [u2]
      by_cases hy2 : y < sb + m
      · obtain ⟨v, v1, v2⟩ := hin y (by omega) hy2
        rw [v2]
        by_cases hxy : x = y
        · subst hxy; rw [u1] at v1; cases v1; exact Int.le_refl _
        · obtain ⟨g1, g2⟩ := List.getElem?_eq_some_iff.mp u1
          obtain ⟨g3, g4⟩ := List.getElem?_eq_some_iff.mp v1
          have := List.pairwise_iff_getElem.mp r2 _ _ g1 g3 (by omega)
          rwa [g2, g4] at this
      · rw [hout y (.inr (by omega))]
        have a1 := (rmem u (List.mem_of_getElem? u1)).2
        have a2 := m3 y (by omega) y1
        omega
    · rw [hout x (.inr (by omega)), hout y (.inr (by omega))]
      exact s2 x y (by omega) xy y1
 split
 · exact wpS_bind (wp_mergeLo hB.kd T fun r g hr => fin r g hr)
 · exact wpS_bind (wp_mergeHi hB.kd T fun r g hr => fin r g hr)
end
set_option autoImplicit false
abbrev PQ := Nat × Nat × Nat
noncomputable def Rn (xs : Array Keyed) : List PQ → Nat → Nat → Prop
 | [], s, e => s = e
 | (a, n, _) :: r, s, e => a = s ∧ 1 ≤ n ∧ Seg xs s (s + n) ∧ Rn xs r (s + n) e
theorem rn_app {xs : Array Keyed} {r : List PQ} {e : Nat} : ∀ {l : List PQ} {s : Nat}, Rn xs (l ++ r) s e ↔ ∃ m, Rn xs l s m ∧ Rn xs r m e
 | [], s => ⟨fun h => ⟨s, rfl, h⟩, fun ⟨m, h1, h2⟩ => by cases h1; exact h2⟩
 | (a, n, p) :: l, s => by
   constructor
   · rintro ⟨h1, h2, h3, h4⟩
     obtain ⟨m, g1, g2⟩ := rn_app.mp h4
     exact ⟨m, ⟨h1, h2, h3, g1⟩, g2⟩
   · rintro ⟨m, ⟨h1, h2, h3, g1⟩, g2⟩
     exact ⟨h1, h2, h3, rn_app.mpr ⟨m, g1, g2⟩⟩
theorem rn_le {xs : Array Keyed} {e : Nat} : ∀ {l : List PQ} {s : Nat}, Rn xs l s e → s + l.length ≤ e
 | [], s, h => by cases h; simp
 | (a, n, p) :: l, s, ⟨h1, h2, h3, h4⟩ => by have := rn_le h4; simp only [List.length_cons]; omega
theorem rn_same {xs ys : Array Keyed} {e : Nat} : ∀ {l : List PQ} {s : Nat}, Rn xs l s e → (∀ k, s ≤ k → k < e → K ys k = K xs k) → Rn ys l s e
 | [], s, h, _ => h
 | (a, n, p) :: l, s, ⟨h1, h2, h3, h4⟩, h => by
   have hle := rn_le h4
   exact ⟨h1, h2, fun i j a b c => by rw [h i a (by omega), h j (by omega) (by omega)]; exact h3 i j a b c, rn_same h4 fun k k1 k2 => h k (by omega) k2⟩
noncomputable def rsOld (pw : Nat) (_ : Option Unit × Unit) : StateT SortSt Sem (ForInStep (Option Unit × Unit)) := do
 let z ← get
 match if (pendingOf z).size > 1 then (pendingOf z)[(pendingOf z).size - 2]? else none with
  | some (_, _, older) =>
    if older ≤ pw then pure (ForInStep.done (none, ()))
    else do
     let b ← mergeAt' ((pendingOf z).size - 2)
     if (!b) = true then pure (ForInStep.done (some (), ())) else pure (ForInStep.yield (none, ()))
  | _ => pure (ForInStep.done (none, ()))
noncomputable def rsPush (size lo n : Nat) : StateT SortSt Sem (ForInStep (Option Unit × Nat)) := do
 let z ← get
 match (pendingOf z).back? with
  | some (s1, n1, _) => do
    let c ← forIn [0:size] (none, ()) fun _ c => rsOld (power' size (2 * s1 + n1) (2 * s1 + n1 + n1 + n) size) c
    match c.1 with
     | some r => pure (ForInStep.done (some r, lo))
     | none => do
       modify fun z => setPending z ((pendingOf z).modify ((pendingOf z).size - 1) fun x => match x with | (a, l, _) => (a, l, power' size (2 * s1 + n1) (2 * s1 + n1 + n1 + n) size))
       modify fun z => setPending z ((pendingOf z).push (lo, n, 0))
       pure (ForInStep.yield (none, lo + n))
  | _ => do
    modify fun z => setPending z ((pendingOf z).push (lo, n, 0))
    pure (ForInStep.yield (none, lo + n))
noncomputable def rsTurn (size mr : Nat) (c : Option Unit × Nat) : StateT SortSt Sem (ForInStep (Option Unit × Nat)) :=
 if c.2 ≥ size then pure (ForInStep.done (none, c.2))
 else do
  let x ← countRun' c.2 (size - c.2)
  match x with
   | some n =>
     if n < mr then do
      liftM (rule "list.sort.binary-insertion")
      let b ← binarySort' c.2 (min (size - c.2) mr) n
      if (!b) = true then pure (ForInStep.done (some (), c.2)) else rsPush size c.2 (min (size - c.2) mr)
     else rsPush size c.2 n
   | _ => pure (ForInStep.done (some (), c.2))
noncomputable def pick (p : Array PQ) : Nat :=
 if Option.any (fun x => decide (x < p[p.size - 2 + 1]?.elim 0 fun x => x.2.1)) (if p.size - 2 > 0 then Option.map (fun x => x.2.1) p[p.size - 2 - 1]? else none) = true then p.size - 2 - 1 else p.size - 2
noncomputable def rsEnd (_ : Option Unit × Unit) : StateT SortSt Sem (ForInStep (Option Unit × Unit)) := do
 let z ← get
 if (pendingOf z).size ≤ 1 then pure (ForInStep.done (none, ()))
 else do
  let b ← mergeAt' (pick (pendingOf z))
  if (!b) = true then pure (ForInStep.done (some (), ())) else pure (ForInStep.yield (none, ()))
noncomputable def sR : StateT SortSt Sem Unit := do
 let z ← get
 let c ← forIn [0:(arrOf z).size] (none, 0) fun _ c => rsTurn (arrOf z).size (minRun' (arrOf z).size (arrOf z).size 0) c
 match c.1 with
  | some r => pure r
  | none => do
    let d ← forIn [0:(arrOf z).size] (none, ()) fun _ d => rsEnd d
    match d.1 with
     | some r => pure r
     | none => pure ()
theorem sortRuns_is : sortRuns' = sR := by kernel_rfl
section
variable {prog : Program} {w : World} {A : Around} {E : Value → Shared → Prop} {s : Shared} {a₀ : Array Keyed}
structure RS (a₀ : Array Keyed) (st : SortSt) (lo : Nat) : Prop where
 tb : TB a₀ st
 rn : Rn (arrOf st) (pendingOf st).toList 0 lo
 le : lo ≤ a₀.size
theorem wp_mergeRn {st : SortSt} {lo i : Nat} {Q : Bool → SortSt → Prop} (h0 : IntKeys a₀) (R : RS a₀ st lo) (hi : i + 1 < (pendingOf st).size)
  (h : ∀ st', RS a₀ st' lo → (pendingOf st').size + 1 = (pendingOf st).size → (∀ k, lo ≤ k → K (arrOf st') k = K (arrOf st) k) → Q true st') : wpS (model prog w) A E s (mergeAt' i) Q st := by
 have hlen : (pendingOf st).toList.length = (pendingOf st).size := Array.length_toList
 obtain ⟨pre, u, v, post, e, hpl⟩ : ∃ pre u v post, (pendingOf st).toList = pre ++ u :: v :: post ∧ pre.length = i := by
  refine ⟨(pendingOf st).toList.take i, (pendingOf st).toList[i]'(by omega), (pendingOf st).toList[i + 1]'(by omega), (pendingOf st).toList.drop (i + 2), ?_, by rw [List.length_take]; omega⟩
  conv => lhs; rw [← List.take_append_drop i (pendingOf st).toList]
  rw [List.drop_eq_getElem_cons (by omega), List.drop_eq_getElem_cons (by omega)]
 have hr := R.rn
 obtain ⟨sa, na, pw⟩ := u
 obtain ⟨sb, nb, pw2⟩ := v
 rw [e] at hr
 obtain ⟨m, g1, g2, g3, g4, g5, g6, g7, g8⟩ := rn_app.mp hr
 subst g2
 have hle := rn_le g8
 have hlo := R.le
 refine wp_mergeAt (sb := sb) h0 R.tb e hpl.symm g5 g3 g6 (by omega) (by rw [g5]; exact g4) (by rw [g5]; exact g7) fun st' b1 b2 b3 b4 => h st' ⟨b1, ?_, hlo⟩ ?_ fun k hk => b3 k (.inr (by omega))
 · rw [b2]
   refine rn_app.mpr ⟨sa, rn_same g1 fun k _ k2 => b3 k (.inl k2), rfl, by omega, by rw [← Nat.add_assoc, ← g5]; exact b4, ?_⟩
   rw [← Nat.add_assoc]
   exact rn_same g8 fun k k1 _ => b3 k (.inr (by omega))
 · have l1 : (pendingOf st').toList.length = (pendingOf st').size := Array.length_toList
   rw [b2] at l1
   rw [e] at hlen
   simp only [List.length_append, List.length_cons] at l1 hlen
   omega
theorem pick_lt {p : Array PQ} (h : 2 ≤ p.size) : pick p + 1 < p.size := by
 have : ∀ c : Bool, (if c = true then p.size - 2 - 1 else p.size - 2) + 1 < p.size := fun c => by cases c <;> simp <;> omega
 exact this _
theorem mod_last (f : PQ → PQ) : ∀ (l : List PQ) (u : PQ), (l ++ [u]).modify l.length f = l ++ [f u]
 | [], u => rfl
 | a :: l, u => by
   rw [List.cons_append, List.length_cons, List.modify_succ_cons, mod_last f l u]; rfl
theorem wp_push {st : SortSt} {lo n : Nat} {Q : ForInStep (Option Unit × Nat) → SortSt → Prop} (h0 : IntKeys a₀) (R : RS a₀ st lo) (hn : 1 ≤ n) (hle : lo + n ≤ a₀.size) (hs : Seg (arrOf st) lo (lo + n))
  (h : ∀ st', RS a₀ st' (lo + n) → Q (.yield (none, lo + n)) st') : wpS (model prog w) A E s (rsPush a₀.size lo n) Q st := by
 have fin : ∀ st' : SortSt, TB a₀ st' → Rn (arrOf st') (pendingOf st').toList 0 lo → (∀ k, lo ≤ k → K (arrOf st') k = K (arrOf st) k) →
   wpS (model prog w) A E s (do
    modify fun z => setPending z ((pendingOf z).push (lo, n, 0))
    pure (ForInStep.yield ((none, lo + n) : Option Unit × Nat))) Q st' := fun st' tb rn kk => by
  refine wpS_bind (wpS_modify (wpS_pure (h _ ⟨⟨tb.pm, tb.kd, tb.nf⟩, ?_, hle⟩)))
  show Rn (arrOf st') ((pendingOf st').push (lo, n, 0)).toList 0 (lo + n)
  rw [Array.toList_push]
  exact rn_app.mpr ⟨lo, rn, rfl, hn, fun i j a b c => by rw [kk i a, kk j (by omega)]; exact hs i j a b c, rfl⟩
 unfold rsPush
 refine wpS_bind (wpS_get ?_)
 cases hb : (pendingOf st).back? with
 | none => exact fin st R.tb R.rn fun _ _ => rfl
 | some u =>
   obtain ⟨s1, n1, u3⟩ := u
   dsimp only
   generalize power' a₀.size (2 * s1 + n1) (2 * s1 + n1 + n1 + n) a₀.size = pw
   refine wpS_bind (wpS_mono (wpS_forRange (I := fun _ c z => c = (none, ()) ∧ RS a₀ z lo ∧ (∀ k, lo ≤ k → K (arrOf z) k = K (arrOf st) k))
    (Q := fun c z => c = (none, ()) ∧ RS a₀ z lo ∧ (∀ k, lo ≤ k → K (arrOf z) k = K (arrOf st) k)) ?s1 (fun _ _ hh => hh) ⟨rfl, R, fun _ _ => rfl⟩) ?s3)
   case s1 =>
    rintro i c z _ _ ⟨rfl, Rz, kz⟩
    unfold rsOld
    refine wpS_bind (wpS_get ?_)
    by_cases hsz : (pendingOf z).size > 1
    · rw [if_pos hsz, getElem?_pos (pendingOf z) ((pendingOf z).size - 2) (by omega)]
      dsimp only
      split
      · exact wpS_pure ⟨rfl, Rz, kz⟩
      · refine wpS_bind (wp_mergeRn h0 Rz (by omega) fun st' R' _ k' => ?_)
        simp only [Bool.not_true, Bool.false_eq_true, if_false]
        exact wpS_pure ⟨rfl, R', fun k hk => (k' k hk).trans (kz k hk)⟩
    · rw [if_neg hsz]
      exact wpS_pure ⟨rfl, Rz, kz⟩
   case s3 =>
    rintro c z ⟨rfl, Rz, kz⟩
    dsimp only
    refine wpS_bind (wpS_modify ?_)
    refine fin _ ⟨Rz.tb.pm, Rz.tb.kd, Rz.tb.nf⟩ ?_ kz
    show Rn (arrOf z) ((pendingOf z).modify ((pendingOf z).size - 1) _).toList 0 lo
    have hr := Rz.rn
    have e : ∀ (P : Array PQ) (pw : Nat), Rn (arrOf z) P.toList 0 lo → Rn (arrOf z) (P.modify (P.size - 1) fun x => match x with | (a, l, _) => (a, l, pw)).toList 0 lo := by
     rintro ⟨l⟩ pw hl
     simp only [List.size_toArray] at hl ⊢
     rcases List.eq_nil_or_concat l with rfl | ⟨l', u, rfl⟩
     · simpa using hl
     · obtain ⟨u1, u2, u3⟩ := u
       rw [List.concat_eq_append] at hl ⊢
       obtain ⟨m, m1, m2, m3, m4, m5⟩ := rn_app.mp hl
       have e2 : (Array.modify (l' ++ [(u1, u2, u3)]).toArray ((l' ++ [(u1, u2, u3)]).length - 1) fun x => match x with | (a, l, _) => (a, l, pw)).toList = l' ++ [(u1, u2, pw)] := by
        simp [mod_last]
       simp only at e2 ⊢
       rw [e2]
       exact rn_app.mpr ⟨m, m1, m2, m3, m4, m5⟩
    exact e _ _ hr
theorem wp_turn {st : SortSt} {lo mr : Nat} {Q : ForInStep (Option Unit × Nat) → SortSt → Prop} (h0 : IntKeys a₀) (R : RS a₀ st lo) (hd : lo = a₀.size → Q (.done (none, lo)) st)
  (h : ∀ st' lo', lo + 1 ≤ lo' → RS a₀ st' lo' → Q (.yield (none, lo')) st') : wpS (model prog w) A E s (rsTurn a₀.size mr (none, lo)) Q st := by
 unfold rsTurn
 dsimp only
 have hlo := R.le
 by_cases hge : lo ≥ a₀.size
 · rw [if_pos hge]
   exact wpS_pure (hd (by omega))
 rw [if_neg hge]
 refine wpS_bind (wp_run h0 (by omega) (by omega) R.tb fun n xs c n1 n2 sg => ?_)
 have R' : RS a₀ (setArr st xs) lo := ⟨R.tb.arr c.1, rn_same R.rn fun k _ k2 => c.2 k (.inl k2), hlo⟩
 dsimp only
 split
 · refine wpS_bind (wpS_lift (wpAny_rule ⟨rfl, ?_⟩))
   refine wpS_bind (wp_ins h0 (by omega) (by omega) R'.tb sg fun ys c2 sg2 => ?_)
   simp only [Bool.not_true, Bool.false_eq_true, if_false]
   refine wp_push h0 (⟨R'.tb.arr c2.1, rn_same R'.rn fun k _ k2 => c2.2 k (.inl k2), hlo⟩ : RS a₀ (setArr (setArr st xs) ys) lo) (by omega) (by omega) sg2 fun st' r' => h st' _ (by omega) r'
 · exact wp_push h0 R' n1 (by omega) sg fun st' r' => h st' _ (by omega) r'
theorem wp_sortRuns {st : SortSt} {Q : Unit → SortSt → Prop} (h0 : IntKeys a₀) (hB : TB a₀ st) (hp : pendingOf st = #[])
  (h : ∀ st', (arrOf st').Perm a₀ → failedOf st' = none → Seg (arrOf st') 0 a₀.size → Q () st') : wpS (model prog w) A E s sortRuns' Q st := by
 rw [sortRuns_is]
 unfold sR
 refine wpS_bind (wpS_get ?_)
 rw [hB.sz]
 have R0 : RS a₀ st 0 := ⟨hB, by rw [hp]; rfl, Nat.zero_le _⟩
 refine wpS_bind (wpS_mono (wpS_forRange (I := fun i c z => ∃ lo, c = (none, lo) ∧ i ≤ lo ∧ RS a₀ z lo) (Q := fun c z => c = (none, a₀.size) ∧ RS a₀ z a₀.size) ?s1 ?s2 ⟨0, rfl, Nat.le_refl _, R0⟩) ?s3)
 case s2 =>
  rintro c z ⟨lo, rfl, h1, R⟩
  have := R.le
  have e : lo = a₀.size := by omega
  subst e
  exact ⟨rfl, R⟩
 case s1 =>
  rintro i c z _ hi ⟨lo, rfl, h1, R⟩
  refine wp_turn h0 R (fun e => ?_) fun st' lo' h2 R' => ⟨lo', rfl, by omega, R'⟩
  subst e
  exact ⟨rfl, R⟩
 case s3 =>
  rintro c z ⟨rfl, R⟩
  dsimp only
  have hfirst := rn_le R.rn
  rw [Array.length_toList] at hfirst
  refine wpS_bind (wpS_mono (wpS_forRange (I := fun i c z => c = (none, ()) ∧ RS a₀ z a₀.size ∧ (pendingOf z).size + i ≤ a₀.size + 1 ∧ (pendingOf z).size + i ≤ max a₀.size (1 + i))
   (Q := fun c z => c = (none, ()) ∧ RS a₀ z a₀.size ∧ (pendingOf z).size ≤ 1) ?s4 ?s5 ⟨rfl, R, by omega, by omega⟩) ?s6)
  case s5 =>
   rintro c z ⟨rfl, R, h1, h2⟩
   exact ⟨rfl, R, by omega⟩
  case s4 =>
   rintro i c z _ hi ⟨rfl, R, h1, h2⟩
   unfold rsEnd
   refine wpS_bind (wpS_get ?_)
   by_cases hsz : (pendingOf z).size ≤ 1
   · rw [if_pos hsz]
     exact wpS_pure ⟨rfl, R, hsz⟩
   · rw [if_neg hsz]
     refine wpS_bind (wp_mergeRn h0 R (pick_lt (by omega)) fun st' R' e' _ => ?_)
     simp only [Bool.not_true, Bool.false_eq_true, if_false]
     exact wpS_pure ⟨rfl, R', by omega, by omega⟩
  case s6 =>
   rintro c z ⟨rfl, R, h1⟩
   dsimp only
   refine wpS_pure (h z R.tb.pm R.tb.nf ?_)
   have hr := R.rn
   rw [← Array.length_toList] at h1
   match hl : (pendingOf z).toList, h1 with
   | [], _ =>
     rw [hl] at hr
     have e : 0 = a₀.size := hr
     intro i j _ _ hj
     omega
   | [(u, n, v)], _ =>
     rw [hl] at hr
     obtain ⟨g1, g2, g3, g4⟩ := hr
     have e : 0 + n = a₀.size := g4
     rw [e] at g3
     exact g3
end
section
variable {prog : Program} {w : World} {A : Around} {E : Value → Shared → Prop} {s : Shared}
theorem sort_any {a : Addr} {vs : List Value} {ns : List Int} {n : Nat} {R : PySem.Fin → Shared → Prop} (ho : s.heap.get? a = some (seqObj "list" vs.toArray n))
  (hI : IntsAre vs ns) (hsl : vs.length ≤ sizeLine)
  (h : ∀ (us : Array Value) (ms : List Int), IntsAre us.toList ms → ms.Perm ns → ms.Pairwise (· ≤ ·) → R (.done (.ret .none)) { s with heap := sortedHeap s.heap a vs us }) :
  wpAny (model prog w) A (Builtin.«list.sort» ⟨[.ref a], []⟩) R E s := by
 rw [list_sort_plain]
 have ha : a < s.heap.objs.size := Heap.lt_size ho
 have hsz : vs.toArray.size = vs.length := by simp
 refine wpAny_bind (listItems_at ho rfl ?_)
 refine wpAny_bind (listUpdate_at ho rfl ?_ (by rw [hsz]; exact hsl) (Nat.zero_le _))
 obtain ⟨ep, ho1⟩ : ∃ ep, (s.heap.update a (Obj.mapSeq fun _ => #[])).get? a = some (seqObj "list" #[] ep) := ⟨_, get?_update_seq ho (fun _ => #[])⟩
 refine wpAny_bind (seqEpoch_at ho1 rfl (wpAny_bind (wpAny_newTuple (wpAny_bind (wpAny_newList (wpAny_holding ?_))))))
 have ho6 : (((s.heap.update a (Obj.mapSeq fun _ => #[])).push (seqObj "tuple" vs.toArray 0)).push (seqObj "list" #[] 0)).get? a = some (seqObj "list" #[] ep) := by
  have h1 := Heap.get?_push_of_some (seqObj "tuple" vs.toArray 0) ho1
  exact Heap.get?_push_of_some (seqObj "list" #[] 0) h1
 change wpAny (model prog w) A _ R E { s with heap := ((s.heap.update a (Obj.mapSeq fun _ => #[])).push (seqObj "tuple" vs.toArray 0)).push (seqObj "list" #[] 0) }
 dsimp only
 have last : ∀ z : SortSt, (arrOf z).Perm (pairsOf vs) → Seg (arrOf z) 0 (pairsOf vs).size → R (.done (.ret .none)) { s with heap := sortedHeap s.heap a vs ((arrOf z).map (·.2)) } := fun z g1 g2 => by
  obtain ⟨ns', u1, u2, u3⟩ := sorted_out hI g1 fun i j hij hj => g2 i j (Nat.zero_le _) hij hj
  exact h _ ns' u1 u2 u3
 by_cases hlt : vs.toArray.size < 2
 · rw [if_pos hlt, if_pos hlt]
   refine wpAny_bind (wpAny_pure ?_)
   rw [StateT.run_pure]
   refine wpAny_bind (wpAny_pure ?_)
   dsimp only
   refine wpAny_bind (seqEpoch_at ho6 rfl (wpAny_bind (listUpdate_at ho6 rfl ?_ (Nat.zero_le _) ?_)))
   · simp only [bne_self_eq_false, Bool.false_eq_true, if_false]
     refine wpAny_pure (last (SortSt.mk' general' (vs.toArray.zip vs.toArray) #[] 7 none) (Array.Perm.refl _) ?_)
     intro i j _ hij hj
     rw [pairsOf_size] at hj
     have e : i = j := by omega
     rw [e]; exact Int.le_refl _
   · rw [Array.size_map]; show (pairsOf vs).size ≤ _; rw [pairsOf_size]; omega
 · rw [if_neg hlt, if_neg hlt]
   obtain ⟨x, y, r, rfl⟩ : ∃ x y r, vs = x :: y :: r := by
    match vs, hsz, hlt with
    | [], _, h2 => simp at h2
    | [_], _, h2 => simp at h2
    | x :: y :: r, _, _ => exact ⟨x, y, r, rfl⟩
   rw [keyKind_ints hI]
   refine wpAny_bind (wpAny_pure ?_)
   refine wpAny_bind (wpAny_mono (wp_sortRuns (a₀ := pairsOf (x :: y :: r)) (st := SortSt.mk' oneType' ((x :: y :: r).toArray.zip (x :: y :: r).toArray) #[] 7 none)
    (Q := fun _ z => (arrOf z).Perm (pairsOf (x :: y :: r)) ∧ failedOf z = none ∧ Seg (arrOf z) 0 (pairsOf (x :: y :: r)).size)
    hI.intKeys ⟨Array.Perm.refl _, rfl, rfl⟩ rfl fun z g1 g2 g3 => ⟨g1, g2, g3⟩) ?_ fun _ _ e => e)
   rintro ⟨⟨⟩, z⟩ s' ⟨rfl, hp, hf, hs⟩
   dsimp only
   refine wpAny_bind (seqEpoch_at ho6 rfl (wpAny_bind (listUpdate_at ho6 rfl ?_ (Nat.zero_le _) ?_)))
   · rw [hf]
     simp only [bne_self_eq_false, Bool.false_eq_true, if_false]
     exact wpAny_pure (last z hp hs)
   · refine Nat.le_trans (Nat.le_of_eq ((Array.size_map ..).trans (hp.size_eq.trans (pairsOf_size _)))) (by omega)
end
set_option autoImplicit false
noncomputable def Rise (xs : Array Nat) : Prop := xs.toList.Pairwise (· < ·)
theorem Rise.lt {xs : Array Nat} (h : Rise xs) {i k : Nat} (hik : i < k) (hk : k < xs.size) (d : Nat) : xs.getD i d < xs.getD k d := by
 have := List.pairwise_iff_getElem.mp h i k (by simp; omega) (by simpa using hk) hik
 simp only [Array.getD_eq_getD_getElem?, getElem?_pos xs i (by omega), getElem?_pos xs k hk, Option.getD_some]
 simpa using this
theorem below_go {xs : Array Nat} {j : Nat} (hr : Rise xs) : ∀ (fuel lo hi : Nat), lo ≤ hi → hi ≤ xs.size → hi - lo ≤ fuel → (∀ i, i < lo → xs.getD i j < j) → (∀ i, hi ≤ i → i < xs.size → j ≤ xs.getD i j) →
  SetTable.below.go xs j fuel lo hi ≤ xs.size ∧ (∀ i, i < SetTable.below.go xs j fuel lo hi → xs.getD i j < j) ∧ ∀ i, SetTable.below.go xs j fuel lo hi ≤ i → i < xs.size → j ≤ xs.getD i j
 | 0, lo, hi, h1, h2, h3, h4, h5 => by
   unfold SetTable.below.go
   have e : lo = hi := by omega
   subst e
   exact ⟨h2, h4, h5⟩
 | fuel + 1, lo, hi, h1, h2, h3, h4, h5 => by
   unfold SetTable.below.go
   by_cases hlt : lo < hi
   · rw [if_pos hlt]
     dsimp only
     by_cases hm : xs.getD ((lo + hi) / 2) j < j
     · rw [if_pos hm]
       refine below_go hr fuel _ hi (by omega) h2 (by omega) (fun i hi' => ?_) h5
       by_cases e : i = (lo + hi) / 2
       · rw [e]; exact hm
       · exact Nat.lt_trans (hr.lt (by omega) (by omega) j) hm
     · rw [if_neg hm]
       refine below_go hr fuel lo _ (by omega) (by omega) (by omega) h4 fun i i1 i2 => ?_
       by_cases e : i = (lo + hi) / 2
       · rw [e]; omega
       · have := hr.lt (show (lo + hi) / 2 < i by omega) i2 j
         omega
   · rw [if_neg hlt]
     have e : lo = hi := by omega
     subst e
     exact ⟨h2, h4, h5⟩
theorem below_is {xs : Array Nat} (hr : Rise xs) (j : Nat) :
  SetTable.below xs j ≤ xs.size ∧ (∀ i, i < SetTable.below xs j → xs.getD i j < j) ∧ ∀ i, SetTable.below xs j ≤ i → i < xs.size → j ≤ xs.getD i j :=
 below_go hr xs.size 0 xs.size (Nat.zero_le _) (Nat.le_refl _) (by omega) (fun i hi => absurd hi (Nat.not_lt_zero _)) fun i i1 i2 => by omega
noncomputable def Tidy (t : SetTable) : Prop := Rise t.place ∧ t.dummies = #[]
theorem insert_list {α : Type} (xs : Array α) (p : Nat) (x : α) : (SetTable.insertAt xs p x).toList = xs.toList.take p ++ x :: xs.toList.drop p := by
 unfold SetTable.insertAt
 simp only [Array.toList_append, Array.toList_push, Array.toList_extract, List.extract_eq_drop_take, List.drop_zero, Nat.sub_zero, List.append_assoc, List.singleton_append]
 congr 2
 rw [List.take_of_length_le (by simp)]
theorem put_tidy {t : SetTable} (h : Tidy t) {j : Nat} (hj : t.place[SetTable.below t.place j]? ≠ some j) : Tidy (t.put j).1 := by
 obtain ⟨b1, b2, b3⟩ := below_is h.1 j
 refine ⟨?_, ?_⟩
 · show Rise (SetTable.insertAt t.place (SetTable.below t.place j) j)
   unfold Rise
   rw [insert_list, List.pairwise_append]
   have gt : ∀ q ∈ t.place.toList.drop (SetTable.below t.place j), j < q := fun q hq => by
    obtain ⟨i, hi, e⟩ := List.getElem_of_mem hq
    rw [List.length_drop, Array.length_toList] at hi
    have hlt : SetTable.below t.place j + i < t.place.size := by omega
    have eq : t.place.getD (SetTable.below t.place j + i) j = q := by
     rw [← e, Array.getD_eq_getD_getElem?, getElem?_pos t.place (SetTable.below t.place j + i) hlt]; simp
    have h3 := b3 (SetTable.below t.place j + i) (by omega) hlt
    rw [eq] at h3
    by_cases hi0 : i = 0
    · subst hi0
      rw [getElem?_pos t.place (SetTable.below t.place j) (by omega)] at hj
      rw [Array.getD_eq_getD_getElem?, Nat.add_zero, getElem?_pos t.place (SetTable.below t.place j) (by omega)] at eq
      simp only [Option.getD_some] at eq
      rw [eq] at hj
      have : q ≠ j := fun z => hj (by rw [z])
      omega
    · have h4 := h.1.lt (i := SetTable.below t.place j) (k := SetTable.below t.place j + i) (by omega) hlt j
      rw [eq] at h4
      have h5 := b3 (SetTable.below t.place j) (Nat.le_refl _) (by omega)
      omega
   have lt : ∀ q ∈ t.place.toList.take (SetTable.below t.place j), q < j := fun q hq => by
    obtain ⟨i, hi, e⟩ := List.getElem_of_mem hq
    rw [List.length_take, Array.length_toList] at hi
    have eq : t.place.getD i j = q := by
     rw [← e, Array.getD_eq_getD_getElem?, getElem?_pos t.place i (by omega)]; simp
    rw [← eq]
    exact b2 i (by omega)
   refine ⟨List.Pairwise.sublist (List.take_sublist ..) h.1, List.pairwise_cons.mpr ⟨gt, List.Pairwise.sublist (List.drop_sublist ..) h.1⟩, fun a ha b hb => ?_⟩
   rcases List.mem_cons.mp hb with rfl | hb
   · exact lt a ha
   · exact Nat.lt_trans (lt a ha) (gt b hb)
 · show (if SetTable.has t.dummies j then SetTable.eraseAt t.dummies (SetTable.below t.dummies j) else t.dummies) = #[]
   rw [h.2]
   rw [if_neg]
   unfold SetTable.has
   simp
theorem probe_go {t : SetTable} (h : t.dummies = #[]) (f : Nat → Int) (hs : Int) : ∀ (fuel : Nat) (p : SetTable.Probe), p.dummy = none → ∀ j d, SetTable.probe.go t f hs fuel p = some (.empty j d) → d = none ∧ t.slot j = .empty
 | 0, p, _, j, d, e => by unfold SetTable.probe.go at e; cases e
 | fuel + 1, p, hp, j, d, e => by
   have ha : ∀ q : SetTable.Probe, (t.advance q).dummy = q.dummy := fun q => by
    unfold SetTable.advance
    split <;> rfl
   unfold SetTable.probe.go at e
   cases hsl : t.slot p.j with
   | empty =>
     rw [hsl] at e
     simp only [Option.some.injEq, SetTable.Met.empty.injEq] at e
     obtain ⟨rfl, rfl⟩ := e
     exact ⟨hp, hsl⟩
   | dummy =>
     exfalso
     unfold SetTable.slot at hsl
     dsimp only at hsl
     split at hsl
     · cases hsl
     · rw [h] at hsl
       split at hsl
       · rename_i hh
         unfold SetTable.has at hh
         simp at hh
       · cases hsl
   | live i =>
     rw [hsl] at e
     dsimp only at e
     split at e
     · cases e
     · exact probe_go h f hs fuel _ (by rw [ha]; exact hp) j d e
theorem slot_empty {t : SetTable} {j : Nat} (h : t.slot j = .empty) : t.place[SetTable.below t.place j]? ≠ some j := by
 intro hh
 unfold SetTable.slot at h
 dsimp only at h
 rw [if_pos (by rw [hh]; simp)] at h
 cases h
theorem free_is {t : SetTable} (h : Tidy t) {hs : Int} {j : Nat} {d : Bool} (e : t.freeSlot hs = some (j, d)) : t.place[SetTable.below t.place j]? ≠ some j := by
 unfold SetTable.freeSlot at e
 split at e
 · rename_i j' d' he
   obtain ⟨rfl, h2⟩ := probe_go h.2 _ hs _ _ rfl j' d' he
   simp only [Option.some.injEq, Prod.mk.injEq] at e
   obtain ⟨rfl, rfl⟩ := e
   exact slot_empty h2
 · cases e
noncomputable def Okt (bt : Bool) (t : SetTable) : Prop := t.led = !bt ∧ (t.plain = true → Tidy t)
theorem layNew_okt {bt : Bool} {t : SetTable} (h : Okt bt t) (es : Array (Int × Value)) (hs : Int) (x : Value) : Okt bt (layNew t es hs x).2.1 := by
 unfold layNew
 split
 · rename_i j d he
   dsimp only
   unfold SetTable.orStandIn
   split
   · exact ⟨h.1, fun hp => put_tidy (h.2 hp) (free_is (h.2 hp) he)⟩
   · exact ⟨h.1, fun hp => by cases hp⟩
 · exact ⟨h.1, fun hp => by cases hp⟩
theorem laid_okt {bt : Bool} {mask finger moves : Nat} {led plain : Bool} {hs : Array Int} {t : SetTable} {o : Array Nat} (hl : led = !bt) (e : SetTable.laid mask finger moves led plain hs = some (t, o)) : Okt bt t := by
 unfold SetTable.laid at e
 cases ho : SetTable.layClean mask hs with
 | none => rw [ho] at e; cases e
 | some owner =>
   rw [ho] at e
   simp only [Option.bind_eq_bind, Option.bind_some, Option.pure_def, Option.some.injEq, Prod.mk.injEq] at e
   obtain ⟨rfl, rfl⟩ := e
   refine ⟨hl, fun _ => ⟨?_, rfl⟩⟩
   unfold Rise
   simp only
   have key : ∀ l : List Nat, l.Pairwise (· < ·) → ((l.filterMap fun j => (owner.getD j none).map (j, ·)).map (·.1)).Pairwise (· < ·) := by
    intro l hl
    refine List.Pairwise.sublist (?_ : List.Sublist _ l) hl
    clear hl
    induction l with
    | nil => exact List.Sublist.refl _
    | cons a l ih =>
      rw [List.filterMap_cons]
      cases owner.getD a none with
      | none => exact List.Sublist.cons _ ih
      | some b => exact List.Sublist.cons₂ _ ih
   exact key _ List.pairwise_lt_range
theorem relayAll_okt {bt : Bool} {t : SetTable} (h : Okt bt t) (es : Array (Int × Value)) (n : Nat) : Okt bt (relayAll t es n).2.1 := by
 unfold relayAll
 split
 · rename_i t' o he
   dsimp only
   split
   · exact laid_okt h.1 he
   · exact ⟨h.1, fun hp => by cases hp⟩
 · exact ⟨h.1, fun hp => by cases hp⟩
section
variable {prog : Program} {w : World} {A : Around} {E : Value → Shared → Prop} {s : Shared}
noncomputable def bt (w : World) : Bool := w.params.followText "set-order"
noncomputable def SI (prog : Program) (w : World) (h : Heap) (a : Addr) (ns : List Int) : Prop :=
 ∃ o es ep t ks, h.get? a = some o ∧ o.ExactSet ∧ o.data = .set es ep t ∧ ElemsOf (intKind prog w) es.toList ∧ IntsAre (es.toList.map (·.2)) ks ∧ ks.Nodup ∧ (∀ k, k ∈ ks ↔ k ∈ ns)
  ∧ es.size < scanBound ∧ t.fits es.size = true ∧ Okt (bt w) t
theorem ints_perm : ∀ {us vs : List Value} {ns : List Int}, IntsAre vs ns → us.Perm vs → ∃ ms, IntsAre us ms ∧ ms.Perm ns := by
 intro us vs ns hI hp
 refine ⟨us.map numOf, intsAre_map us fun v hv => hI.all v (hp.mem_iff.mp hv), ?_⟩
 have := hp.map numOf
 rwa [hI.nums] at this
theorem ints_snoc : ∀ {vs : List Value} {ns : List Int}, IntsAre vs ns → ∀ (k : Int) (t : Tok), IntsAre (vs ++ [.int k t]) (ns ++ [k])
 | _, _, .nil, k, t => .cons k t .nil
 | _, _, .cons n u h, k, t => .cons n u (ints_snoc h k t)
theorem ints_mem : ∀ {vs : List Value} {ns : List Int}, IntsAre vs ns → ∀ k, k ∈ ns ↔ ∃ v ∈ vs, Value.isInt k v = true
 | _, _, .nil, k => by simp
 | _, _, .cons n u h, k => by
   rw [List.mem_cons, ints_mem h k]
   constructor
   · rintro (rfl | ⟨v, h1, h2⟩)
     · exact ⟨_, .head _, by simp [Value.isInt]⟩
     · exact ⟨v, .tail _ h1, h2⟩
   · rintro ⟨v, h1, h2⟩
     rcases List.mem_cons.mp h1 with rfl | h1
     · have e : n = k := by simpa [Value.isInt] using h2
       exact .inl e.symm
     · exact .inr ⟨v, h1, h2⟩
theorem add_one {a : Addr} {ns : List Int} {k : Int} {tk : Tok} {Q : Bool → Shared → Prop} (hS : SI prog w s.heap a ns) (hroom : ∀ o es ep t, s.heap.get? a = some o → o.data = .set es ep t → es.size + 1 < scanBound)
  (h : ∀ h' b, Heap.SameBut a s.heap h' → SI prog w h' a (ns ++ [k]) → (∀ o es ep t o' es' ep' t', s.heap.get? a = some o → o.data = .set es ep t → h'.get? a = some o' → o'.data = .set es' ep' t' → es'.size ≤ es.size + 1) → Q b { s with heap := h' }) :
  wpAny (model prog w) A (setAddHashed a (.int k tk) (hashInt k)) Q E s := by
 obtain ⟨o, es, ep, t, ks, ho, hex, hd, hel, hI, hnd, hmem, hb, hf, hok⟩ := hS
 have hb1 : es.size + 1 < scanBound := hroom o es ep t ho hd
 have hkey : (intKind prog w).is k (.int k tk) = true := intKind_is _ _ _ _
 have old : ∀ o₂ es₂ ep₂ t₂, s.heap.get? a = some o₂ → o₂.data = .set es₂ ep₂ t₂ → es₂ = es := fun o₂ es₂ ep₂ t₂ e1 e2 => by
  rw [ho] at e1; cases e1; rw [hd] at e2; cases e2; rfl
 unfold setAddHashed setAddHashedIn
 refine wpAny_holding (wpAny_bind (wpAny_setState_of ho hd hf ?_))
 dsimp only
 rw [byScan_of (knd := intKind prog w) rfl hb hel]
 simp only [↓reduceIte]
 unfold setAddByScan
 refine wpAny_bind (wpAny_bind (wpAny_rule (wpAny_bind (wpAny_setScan_of (knd := intKind prog w) hkey ho hd hf hel ?_))))
 have hks : k ∈ ks ↔ ∃ e ∈ es.toList, (intKind prog w).is k e.2 = true := by
  rw [ints_mem hI k]
  constructor
  · rintro ⟨v, h1, h2⟩
    obtain ⟨e, he, rfl⟩ := List.mem_map.mp h1
    exact ⟨e, he, h2⟩
  · rintro ⟨e, he, h2⟩
    exact ⟨e.2, List.mem_map.mpr ⟨e, he, rfl⟩, h2⟩
 cases hr : List.findIdx? (fun e => (intKind prog w).is k e.2) es.toList with
 | some j =>
   dsimp only
   obtain ⟨hj, hpj, _⟩ := List.findIdx?_eq_some_iff_getElem.mp hr
   have hin : k ∈ ks := hks.mpr ⟨es.toList[j], List.getElem_mem hj, hpj⟩
   refine wpAny_pure (wpAny_pure ?_)
   have := h s.heap false (Heap.SameBut.refl a s.heap) ⟨o, es, ep, t, ks, ho, hex, hd, hel, hI, hnd, fun z => ?_, hb, hf, hok⟩ fun o₁ es₁ ep₁ t₁ o₂ es₂ ep₂ t₂ e1 e2 e3 e4 => by
    rw [old _ _ _ _ e1 e2, old _ _ _ _ e3 e4]; omega
   · exact this
   · rw [List.mem_append, List.mem_singleton, ← hmem z]
     exact ⟨.inl, fun q => q.elim id fun e => e ▸ hin⟩
 | none =>
   dsimp only
   have hout : k ∉ ks := fun hin => by
    obtain ⟨e, he, hp⟩ := hks.mp hin
    have := List.findIdx?_eq_none_iff.mp hr e he
    rw [hp] at this; cases this
   have said : ∀ (way : Bool) {z : Shared} {T : Unit → Shared → Prop}, T () z → wpAny (model prog w) A (match way with | true => rule "set.scan.the-table-gave-way" | false => pure ()) T E z := fun way z T q => match way with
    | true => wpAny_rule q
    | false => wpAny_pure q
   have hperm := layNew_perm t es (hashInt k) (.int k tk)
   have hfits := layNew_fits t es (hashInt k) (.int k tk)
   have hokt := layNew_okt hok es (hashInt k) (.int k tk)
   change wpAny (model prog w) A (do
    let x := layNew t es (hashInt k) (.int k tk)
    _) _ _ _
   generalize hL : layNew t es (hashInt k) (.int k tk) = L at hperm hfits hokt ⊢
   obtain ⟨es1, t1, wd, gave⟩ := L
   dsimp only at hperm hfits hokt ⊢
   rw [Array.toList_push] at hperm
   have mk : ∀ es2 : Array (Int × Value), es2.toList.Perm es1.toList → ElemsOf (intKind prog w) es2.toList ∧ (∃ ks2, IntsAre (es2.toList.map (·.2)) ks2 ∧ ks2.Nodup ∧ ∀ z, z ∈ ks2 ↔ z ∈ ns ++ [k]) ∧ es2.size = es.size + 1 := fun es2 hp2 => by
    have hp3 := hp2.trans hperm
    refine ⟨(hel.push (knd := intKind prog w) hkey rfl).perm hp3, ?_, ?_⟩
    · have e1 : IntsAre ((es.toList ++ [(hashInt k, Value.int k tk)]).map (·.2)) (ks ++ [k]) := by
       rw [List.map_append]; exact ints_snoc hI k tk
      obtain ⟨ks2, g1, g2⟩ := ints_perm e1 (hp3.map (·.2))
      refine ⟨ks2, g1, g2.nodup_iff.mpr ?_, fun z => ?_⟩
      · rw [List.nodup_append]
        exact ⟨hnd, by simp, fun x hx y hy => by rw [List.mem_singleton.mp hy]; exact fun e => hout (e ▸ hx)⟩
      · rw [g2.mem_iff, List.mem_append, List.mem_append, hmem z]
    · have := hp3.length_eq
      simpa using this
   obtain ⟨hel1, ⟨ks1, hI1, hnd1, hm1⟩, hsz1⟩ := mk es1 (List.Perm.refl _)
   refine wpAny_bind (said _ ?_)
   have fin : ∀ (t2 : SetTable), t2.fits es1.size = true → Okt (bt w) t2 → wpAny (model prog w) A (do
     storeSet a es1 t2
     if (!wd && t2.tooFull) = true then do
         (match (relayAll t2 es1 (SetTable.grown es1.size)).2.2 with | true => rule "set.scan.the-table-gave-way" | false => pure () : Sem Unit)
         storeSet a (relayAll t2 es1 (SetTable.grown es1.size)).1 (relayAll t2 es1 (SetTable.grown es1.size)).2.1; pure (some true)
      else pure (some true)) (fun r s' => wpAny (model prog w) A (match r with | some added => pure added | none => setAddHashedIn a (.int k tk) (hashInt k) 99999) Q E s') E s := fun t2 hf2 ok2 => by
    refine wpAny_bind (wpAny_storeSet_of ho hd ?_ (fits_of_scanBound (by omega)))
    have hg1 : (s.heap.update a (Obj.putSet es1 t2)).get? a = some { o with data := .set es1 (ep + 1) t2 } := by
     have := Heap.get?_update_self (Obj.putSet es1 t2) ho (by rw [putSet_of es1 t2 hd]; rfl)
     rw [putSet_of es1 t2 hd] at this; exact this
    have sb1 := Heap.SameBut.update s.heap a (Obj.putSet es1 t2)
    split
    · have hp := relayAll_perm t2 es1 (SetTable.grown es1.size)
      have hfr := relayAll_fits t2 es1 (SetTable.grown es1.size)
      have hor := relayAll_okt ok2 es1 (SetTable.grown es1.size)
      generalize relayAll t2 es1 (SetTable.grown es1.size) = Rl at hp hfr hor ⊢
      obtain ⟨es2, t3, g2⟩ := Rl
      dsimp only at hp hfr hor ⊢
      obtain ⟨hel2, ⟨ks2, hI2, hnd2, hm2⟩, hsz2⟩ := mk es2 hp
      refine wpAny_bind (said _ ?_)
      refine wpAny_bind (wpAny_storeSet_of hg1 rfl ?_ (fits_of_scanBound (by omega)))
      have hg2 : ((s.heap.update a (Obj.putSet es1 t2)).update a (Obj.putSet es2 t3)).get? a = some { o with data := .set es2 (ep + 1 + 1) t3 } := by
       have := Heap.get?_update_self (Obj.putSet es2 t3) hg1 (by rw [putSet_of es2 t3 rfl]; rfl)
       rw [putSet_of es2 t3 rfl] at this; exact this
      refine wpAny_pure (wpAny_pure (h _ true (sb1.trans (Heap.SameBut.update _ a _)) ⟨_, es2, _, t3, ks2, hg2, hex, rfl, hel2, hI2, hnd2, hm2, by omega, hfr, hor⟩ fun o₁ es₁ ep₁ t₁ o₂ es₂ ep₂ t₂ e1 e2 e3 e4 => ?_))
      rw [old _ _ _ _ e1 e2]
      rw [hg2] at e3; cases e3; cases e4; omega
    · refine wpAny_pure (wpAny_pure (h _ true sb1 ⟨_, es1, _, t2, ks1, hg1, hex, rfl, hel1, hI1, hnd1, hm1, by omega, hf2, ok2⟩ fun o₁ es₁ ep₁ t₁ o₂ es₂ ep₂ t₂ e1 e2 e3 e4 => ?_))
      rw [old _ _ _ _ e1 e2]
      rw [hg1] at e3; cases e3; cases e4; omega
   split
   · refine wpAny_bind ?_
     rw [hashByValue_scannable 8 rfl]
     refine wpAny_pure ?_
     exact fin t1 hfits hokt
   · refine wpAny_bind (wpAny_pure ?_)
     exact fin t1 hfits hokt
end
set_option autoImplicit false
section
variable {prog : Program} {w : World}
noncomputable def SIm (prog : Program) (w : World) (h : Heap) (a : Addr) (ns : List Int) (m : Nat) : Prop :=
 SI prog w h a ns ∧ ∀ o es ep t, h.get? a = some o → o.data = .set es ep t → es.size ≤ m
theorem SIm.at {h h' : Heap} {a : Addr} {ns : List Int} {m : Nat} (hS : SIm prog w h a ns m) (k : ∀ o, h.get? a = some o → h'.get? a = some o) : SIm prog w h' a ns m := by
 obtain ⟨⟨o, es, ep, t, ks, ho, r⟩, hm⟩ := hS
 refine ⟨⟨o, es, ep, t, ks, k o ho, r⟩, fun o' es' ep' t' e1 e2 => ?_⟩
 rw [k o ho] at e1
 cases e1
 exact hm o es' ep' t' ho e2
section
variable {A : Around} {R : Result → Shared → Prop} {J : Addr} {feet hand : List Addr} {G : Array GenState → Array GenState → Prop} {n : Nat} {P : Nat → Value → Prop} {Z : Nat → Shared → Prop}
theorem upd_step {c : Addr} {z : Shared} (h : wpAny (model prog w) A.in1 (pyNext (.ref J)) (fun r z' => match r with
   | none => R (.ok (.ret .none)) z'
   | some v => wpAny (model prog w) A.in1 (setAdd c v) (fun _ z2 => codeAny (model prog w) A (.builtin "set.update.loop" ⟨[.ref c, .ref J], []⟩) R z2) (fun e z2 => R (.error e) z2) z') (fun e z2 => R (.error e) z2) z) :
  codeAny (model prog w) A (.builtin "set.update.loop" ⟨[.ref c, .ref J], []⟩) R z := by
 have pl := F.plain_set_update_loop
 refine codeAny_builtin F.entry_set_update_loop (Eq.mpr (congrArg (fun B => wpAny _ B _ _ _ z) (Around.under_plainId pl _)) ?_)
 show wpAny _ A.in1 (pyNext (.ref J) >>= _) _ _ z
 refine wpAny_bind (wpAny_mono h (fun r z' q => ?_) fun _ _ q => q)
 cases r with
 | none => exact wpAny_pure q
 | some v =>
   show wpAny _ A.in1 (holding [v] (setAdd c v) >>= _) _ _ z'
   exact wpAny_bind (wpAny_holding (wpAny_mono q (fun _ z2 q2 => wpAny_pure ⟨plainId_quiet pl _, q2⟩) fun _ _ q2 => q2))
theorem upd_loop (W : WalksS prog w A.in1 J feet hand G n P Z) (c : Addr) (off : c ∉ feet) (num : Nat → Int) (isn : ∀ i v, P i v → ∃ t, v = .int (num i) t) (few : n + 1 < scanBound) :
  ∀ (k i : Nat) (z : Shared), n - i = k → i ≤ n → Z i z → SIm prog w z.heap c ((List.range i).map num) i →
   (∀ z', Moved (c :: hand) G z z' → SIm prog w z'.heap c ((List.range n).map num) n → R (.ok (.ret .none)) z') →
   codeAny (model prog w) A (.builtin "set.update.loop" ⟨[.ref c, .ref J], []⟩) R z := by
 have away : c ∉ hand := fun q => off (W.sub c q)
 have more : ∀ b, b ∈ hand → b ∈ c :: hand := fun b q => .tail _ q
 intro k
 induction k with
 | zero =>
   intro i z hk hi here hS done
   have e : i = n := by omega
   subst e
   refine upd_step (W.done z _ _ here fun z' mv => ?_)
   exact done z' (mv.mono more) (hS.at fun o e => mv.heap c o away e)
 | succ k ih =>
   intro i z hk hi here hS done
   have hlt : i < n := by omega
   refine upd_step (W.item i z _ _ hlt here fun v z' hv here' mv => ?_)
   obtain ⟨t, rfl⟩ := isn i v hv
   have hS' := hS.at fun o e => mv.heap c o away e
   dsimp only
   unfold setAdd
   refine wpAny_holding (wpAny_bind ((intKind prog w).pyHash (k := num i) (intKind_is _ _ _ _) ?_))
   refine add_one (s := { z' with toks := z'.toks + 1 }) hS'.1 (fun o es ep t e1 e2 => ?_) fun h' b same hS2 hsz => ?_
   · have := hS'.2 o es ep t e1 e2
     omega
   have rest : ∀ b, b ≠ c → h'.get? b = z'.heap.get? b := same.2
   have hS3 : SIm prog w h' c ((List.range (i + 1)).map num) (i + 1) := by
    refine ⟨by rw [List.range_succ, List.map_append]; exact hS2, fun o es ep t e1 e2 => ?_⟩
    obtain ⟨⟨o₀, es₀, ep₀, t₀, _, ho₀, _, hd₀, _⟩, hm₀⟩ := hS'
    have := hsz o₀ es₀ ep₀ t₀ o es ep t ho₀ hd₀ e1 e2
    have := hm₀ o₀ es₀ ep₀ t₀ ho₀ hd₀
    omega
   refine ih (i + 1) _ (by omega) hlt (W.frame _ z' _ _ here' (Nat.le_succ _) fun b q o e => (rest b fun y => off (y ▸ q)).trans e) hS3 fun z2 mv2 hS4 => done z2 (Moved.trans W.gtrans ((mv.mono more).then_heap (Nat.le_succ _) fun b o q e => (rest b fun y => q (y ▸ .head _)).trans e) mv2) hS4
end
section
variable {A : Around} {E : Value → Shared → Prop} {s : Shared}
abbrev nset (led : Bool) : Obj := { cls := .type "set", dict := none, data := .set #[] 0 (.fresh 0 0 led) }
theorem new_set1 (x : Value) {Q : Value → Shared → Prop} (h : Q (.ref s.heap.objs.size) { s with heap := s.heap.push (nset (!bt w)) }) :
  codeAny (model prog w) A (.call (.builtin "set.__new__") ⟨[.type "set", x], []⟩) (wants Q E) s := by
 have own := sub_set_self
 have pl := PySem.F.plain_set_new
 refine codeAny_of_tree ?_
 show wpAny _ A.in1 (checkBuiltinCall "set.__new__" ⟨[.type "set", x], []⟩ >>= fun _ => again (.builtin "set.__new__" ⟨[.type "set", x], []⟩)) _ _ s
 refine wpAny_bind (wpAny_of_eq (PySem.F.newCall_set_1 x) (wpAny_pure ⟨plainId_quiet pl _, codeAny_builtin PySem.F.entry_set_new ?_⟩))
 rw [Around.under_plainId pl _]
 obtain ⟨hp, gens, dr, toks, sys⟩ := s
 unfold Builtin.«set.__new__»
 unfold Builtin.Frozenset.newClass
 wp_walk
 exact wpAny_askSetting (wpAny_pure (wpAny_bind (wpAny_alloc (wpAny_pure (wpAny_pure h)))))
theorem si_new (h : Heap) : SIm prog w (h.push (nset (!bt w))) h.objs.size [] 0 := by
 have hg : (h.push (nset (!bt w))).get? h.objs.size = some (nset (!bt w)) := Heap.get?_push_size _ rfl
 refine ⟨⟨_, #[], 0, _, [], hg, ⟨rfl, rfl, rfl⟩, rfl, fun e he => by simp at he, .nil, List.nodup_nil, fun _ => Iff.rfl, by decide, by rfl, rfl, fun _ => ⟨List.Pairwise.nil, rfl⟩⟩, fun o es ep t e1 e2 => ?_⟩
 rw [hg] at e1
 cases e1
 cases e2
 exact Nat.le_refl _
theorem nums_all {items : Array Value} {ns : List Int} (hi : IntsAre items.toList ns) : (List.range items.size).map (fun i => ns.getD i 0) = ns := by
 have hlen : items.size = ns.length := by rw [← IntsAre.length hi, Array.length_toList]
 apply List.ext_getElem?
 intro i
 rw [List.getElem?_map]
 by_cases hi' : i < ns.length
 · rw [List.getElem?_range (by omega)]
   simp [List.getD_eq_getElem?_getD, List.getElem?_eq_getElem hi']
 · rw [List.getElem?_eq_none (by simp; omega), List.getElem?_eq_none (by omega)]; rfl
theorem init_set {l : Addr} {items : Array Value} {ns : List Int} {Q : Value → Shared → Prop} (free : A.handled = none) (hl : s.heap.IsList l items) (hi : IntsAre items.toList ns) (few : items.size + 1 < scanBound)
  (h : ∀ (h' : Heap) (tk : Nat), SIm prog w h' s.heap.objs.size ns items.size → (∀ b o, s.heap.get? b = some o → h'.get? b = some o) → Q .none { s with heap := h', toks := tk }) :
  codeAny (model prog w) A (.call (.builtin "set.__init__") ⟨[.ref s.heap.objs.size, .ref l], []⟩) (wants Q E) { s with heap := s.heap.push (nset (!bt w)) } := by
 have hS : (s.heap.push (nset (!bt w))).get? s.heap.objs.size = some (nset (!bt w)) := Heap.get?_push_size _ rfl
 refine codeAny_call_builtin PySem.F.called_set.init.plain PySem.F.entry_set_init (check_set_init_1 ⟨_, hS, rfl⟩ ?_)
 obtain ⟨lo, hlo, c1, nl, d1⟩ := hl
 obtain ⟨k1, k2, k3, k4⟩ := lo
 cases c1
 cases d1
 have old : (s.heap.push (nset (!bt w))).get? l = some { cls := .type "list", dict := k2, data := .seq items nl, slots := k4 } := Heap.get?_push_of_some _ hlo
 have no1 := PySem.F.sub_list_set
 have no2 := PySem.F.sub_list_frozenset
 have no3 : (Value.type "list" == Value.type "dict") = false := rfl
 have hl1 : (s.heap.push (nset (!bt w))).IsList l items := ⟨_, old, rfl, nl, rfl⟩
 have lS := Heap.lt_size hlo
 have sz : (s.heap.push (nset (!bt w))).objs.size = s.heap.objs.size + 1 := size_push' _ _
 have far : ∀ b : Addr, b < s.heap.objs.size → b ≠ (s.heap.push (nset (!bt w))).objs.size := fun b hb => by rw [sz]; exact Nat.ne_of_lt (Nat.lt_succ_of_lt hb)
 unfold Builtin.«set.__init__» noKeywords
 unfold Builtin.Frozenset.updateFrom
 generalize walker : pyIter = PI
 wp_walk
 subst walker
 refine wpAny_pyIter_list hl1 (wpAny_bind (wpAny_runValue ?_))
 refine upd_loop ((Walks.list (by simp [free]) _ l (far l lS) items).toS) s.heap.objs.size ?off (fun i => ns.getD i 0) (fun i v hv => IntsAre.int_at hi i v (by rw [Array.getElem?_toList]; exact hv)) few items.size 0 _ rfl (Nat.zero_le _)
  ⟨⟨_, Heap.get?_push_size _ rfl, rfl, rfl⟩, hl1.push _⟩ ((si_new s.heap).at fun o e => Heap.get?_push_of_some _ e) ?fin
 case off =>
  rw [sz]
  intro q
  rcases List.mem_cons.mp q with e | q
  · exact Nat.ne_of_lt (Nat.lt_succ_self _) e
  · exact Nat.ne_of_gt lS (List.mem_singleton.mp q)
 case fin =>
  rintro ⟨h2, g2, d2, t2, s2⟩ mv full
  have eg : g2 = s.gens := mv.gens
  have ed : d2 = s.drawn := mv.drawn
  have es : s2 = s.os := mv.os
  rw [nums_all hi] at full
  subst eg ed es
  refine wpAny_pure (wpAny_pure (h h2 t2 full fun b o e => ?_))
  have hb := Heap.lt_size e
  refine mv.heap b o (fun q => ?_) (Heap.get?_push_of_some _ (Heap.get?_push_of_some _ e))
  rcases List.mem_cons.mp q with y | q
  · exact Nat.ne_of_lt hb y
  · exact far b hb (List.mem_singleton.mp q)
set_option maxHeartbeats 4000000 in
theorem call_set {l : Addr} {items : Array Value} {ns : List Int} {Q : Value → Shared → Prop} (free : A.handled = none) (hl : s.heap.IsList l items) (hi : IntsAre items.toList ns) (few : items.size + 1 < scanBound)
  (h : ∀ (h' : Heap) (tk : Nat), SIm prog w h' s.heap.objs.size ns items.size → (∀ b o, s.heap.get? b = some o → h'.get? b = some o) → Q (.ref s.heap.objs.size) { s with heap := h', toks := tk }) :
  wpAny (model prog w) A (call (.type "set") [.ref l]) Q E s := by
 have C := PySem.F.called_set
 obtain ⟨top, above, order⟩ := C.mro
 have made := C.made
 have below := C.sub
 have nt := C.notType
 have can := C.canCreate
 have fits := PySem.F.typeCall_set_1 (.ref l)
 refine wpAny_call (codeAny_of_tree (show wpAny _ _ (callAny (.type "set") _) _ _ _ from wpAny_pure ⟨Code.quiet_builtin _ (by decide +kernel), codeAny_builtin PySem.F.entry_type_call ?_⟩))
 rw [Around.under_plain (weight_type_call_type _ _ _) rfl]
 repeat (any_goals first | assumption | wp_step)
 refine codeAny_mono (new_set1 (.ref l) (E := E) (Q := fun v z => v = .ref s.heap.objs.size ∧ z = { s with heap := s.heap.push (nset (!bt w)) }) ⟨rfl, rfl⟩) fun r z q => ?_
 rcases r with e | fl
 · exact q
 cases fl <;> try exact q.elim
 obtain ⟨rfl, rfl⟩ := q
 have at' : Shared.TypeIs { s with heap := s.heap.push (nset (!bt w)) } (.ref s.heap.objs.size) "set" := ⟨_, Heap.get?_push_size _ rfl, rfl⟩
 have look := C.init.lookup
 have bound := C.init.bind (.ref s.heap.objs.size)
 repeat (any_goals first | assumption | wp_step)
 refine codeAny_mono (init_set (E := E) (Q := fun v z => v = .none ∧ ∃ h' tk, z = { s with heap := h', toks := tk } ∧ SIm prog w h' s.heap.objs.size ns items.size ∧ ∀ b o, s.heap.get? b = some o → h'.get? b = some o) (by simp [free]) hl hi few
  fun h' tk q1 q2 => ⟨rfl, h', tk, rfl, q1, q2⟩) fun r z q => ?_
 rcases r with e | fl
 · exact q
 cases fl <;> try exact q.elim
 obtain ⟨rfl, h', tk, rfl, q1, q2⟩ := q
 repeat (any_goals first | assumption | wp_step)
 exact h h' tk q1 q2
end
end
set_option autoImplicit false
theorem slot_set_iter : Slot "set" "__iter__" "set.__iter__" :=
 .of (owner := "set") (n := "__iter__") (by rw [typeLookup_type, builtinLookup_eq_fast]; kernel_rfl) (by decide +kernel) (by decide +kernel) (by decide +kernel) (by first | exact .inl (by decide +kernel) | exact .inr (by decide +kernel)) (by rw [isSubtype_type]; kernel_rfl)
theorem slot_setit_next : Slot "set_iterator" "__next__" "set_iterator.__next__" :=
 .of (owner := "set_iterator") (n := "__next__") (by rw [typeLookup_type, builtinLookup_eq_fast]; kernel_rfl) (by decide +kernel) (by decide +kernel) (by decide +kernel) (by first | exact .inl (by decide +kernel) | exact .inr (by decide +kernel)) (by rw [isSubtype_type]; kernel_rfl)
theorem slot_setit_iter : Slot "set_iterator" "__iter__" "set_iterator.__iter__" :=
 .of (owner := "set_iterator") (n := "__iter__") (by rw [typeLookup_type, builtinLookup_eq_fast]; kernel_rfl) (by decide +kernel) (by decide +kernel) (by decide +kernel) (by first | exact .inl (by decide +kernel) | exact .inr (by decide +kernel)) (by rw [isSubtype_type]; kernel_rfl)
theorem entry_set_iter : entryFor table "set.__iter__" = some Builtin.«frozenset.__iter__» := entryFor_alias (id' := "frozenset.__iter__") (by kernel_rfl) rfl (by decide +kernel) (by kernel_rfl)
theorem entry_setit_iter : entryFor table "set_iterator.__iter__" = some Builtin.«dict_keyiterator.__iter__» := entryFor_alias (id' := "dict_keyiterator.__iter__") (by kernel_rfl) rfl (by decide +kernel) (by kernel_rfl)
theorem args_setit_iter (a : Value) : argsOk "set_iterator.__iter__" ⟨[a], []⟩ := by unfold argsOk; kernel_rfl
theorem cons_erase {α : Type} : ∀ {l : List α} {i : Nat} (h : i < l.length), (l[i] :: l.eraseIdx i).Perm l
 | a :: l, 0, h => List.Perm.refl _
 | a :: l, i + 1, h => by
   rw [List.eraseIdx_cons_succ, List.getElem_cons_succ]
   exact (List.Perm.swap _ _ _).trans (List.Perm.cons _ (cons_erase (by simpa using h)))
theorem entry_setit_next : entryFor table "set_iterator.__next__" = some Builtin.«set_iterator.__next__» := entryFor_of_fast (by kernel_rfl)
theorem args_set_iter (a : Value) : argsOk "set.__iter__" ⟨[a], []⟩ := by unfold argsOk; kernel_rfl
theorem args_setit_next (a : Value) : argsOk "set_iterator.__next__" ⟨[a], []⟩ := by unfold argsOk; kernel_rfl
theorem set_has_len : typeLookup (.type "set") "__len__" = pure (some (.builtin "set.__len__")) := by rw [typeLookup_type, builtinLookup_eq_fast]; kernel_rfl
theorem pick_go {α : Type} (next : Nat → Nat) : ∀ (fuel k : Nat) (left : List α) (out : Array α), left.length = fuel → (pickOrder.go next fuel k left out).toList.Perm (out.toList ++ left)
 | 0, k, left, out, h => by
   have e : left = [] := List.length_eq_zero_iff.mp h
   subst e
   unfold pickOrder.go
   simp
 | fuel + 1, k, left, out, h => by
   unfold pickOrder.go
   have hi : next k % left.length < left.length := Nat.mod_lt _ (by omega)
   rw [List.getElem?_eq_getElem hi]
   dsimp only
   refine (pick_go next fuel (k + 1) _ _ (by rw [List.length_eraseIdx_of_lt hi]; omega)).trans ?_
   rw [Array.toList_push, List.append_assoc]
   exact List.Perm.append_left _ (cons_erase hi)
theorem pick_perm {α : Type} (next : Nat → Nat) (xs : Array α) : (pickOrder next xs).toList.Perm xs.toList := by
 have := pick_go next xs.size 0 xs.toList #[] (by simp)
 simpa [pickOrder] using this
section
variable {prog : Program} {w : World} {A : Around} {E : Value → Shared → Prop} {s : Shared}
theorem wp_choose {M : Model} {src : Source} {n : Nat} {Q : Nat → Shared → Prop} (hn : n ≠ 0) (h : ∀ i d, i < n → Q i { s with drawn := d }) : wpAny M A (choose src n) Q E s := by
 intro Γ p hΓ
 unfold choose
 rw [Sem.wp]
 refine ⟨hn, ?_⟩
 rw [Sem.wp]
 exact h _ _ (Nat.mod_lt _ (by omega))
theorem wp_draw {α : Type} {M : Model} : ∀ (n : Nat) (xs : List α) (z : Shared) {Q : List α → Shared → Prop}, xs.length = n → (∀ ys d, ys.Perm xs → Q ys { z with drawn := d }) → wpAny M A (drawOrder n xs) Q E z
 | 0, xs, z, Q, hl, h => by
   have e : xs = [] := List.length_eq_zero_iff.mp hl
   subst e
   unfold drawOrder
   exact wpAny_pure (h [] z.drawn (List.Perm.refl _))
 | n + 1, [], z, Q, hl, h => by simp at hl
 | n + 1, x :: xs, z, Q, hl, h => by
   unfold drawOrder
   refine wpAny_bind (wp_choose (by simp) fun i d hi => ?_)
   rw [List.getElem?_eq_getElem hi]
   dsimp only
   refine wpAny_bind (wp_draw n _ _ (by rw [List.length_eraseIdx_of_lt hi, hl]; rfl) fun ys d' hp => wpAny_pure ?_)
   exact h _ d' ((List.Perm.cons _ hp).trans (cons_erase hi))
theorem wp_byText {Q : Bool → Shared → Prop} (h : Q (bt w) s) : wpAny (model prog w) A setsByText Q E s := by
 unfold setsByText
 exact wpAny_bind (wpAny_askSetting (wpAny_pure h))
abbrev sit (f : Value) (i : Nat) (a : Addr) (n ep : Nat) : Obj := { cls := .type "set_iterator", data := .fields #[f, .int i 0, .ref a, .int n 0, .int ep 0] }
theorem stop_now {M : Model} {it : Addr} {Q : Value → Shared → Prop} (hh : A.handled = none) (h : ∀ h' e, (∀ b o, s.heap.get? b = some o → h'.get? b = some o) → Shared.TypeIs { s with heap := h' } e "StopIteration" → E e { s with heap := h' }) :
  wpAny M A (do raiseNew (← newExc (.type "StopIteration") []) : Sem PySem.Fin) (fun r s' => ∃ v, r = .done (.ret v) ∧ Q v s') E s := by
 refine wpAny_bind ?_
 simp only [newExc, newTuple]
 refine wpAny_bind (wpAny_newObj_type ?_ (by size_fits))
 refine wpAny_bind (m := firstArgMember _ _) (wpAny_of_eq (a := Value.none) rfl ?_)
 refine wpAny_newObj_type ?_ (by size_fits)
 simp only [raiseNew]
 refine wpAny_bind (wpAny_handled ?_)
 rw [hh]
 refine wpAny_bind (wpAny_pure (wpAny_throw ?_))
 refine h _ _ (fun b o e => Heap.get?_push_of_some _ (Heap.get?_push_of_some _ e)) ⟨_, Heap.get?_push_size _ rfl, rfl⟩
theorem next_via {it a : Addr} {f : Value} {i n ep : Nat} {Q : Option Value → Shared → Prop} (hit : s.heap.get? it = some (sit f i a n ep))
  (h : wpAny (model prog w) A.in1 (Builtin.«set_iterator.__next__» ⟨[.ref it], []⟩) (fun r s' => ∃ v, r = .done (.ret v) ∧ Q (some v) s')
    (fun e s' => s'.TypeIs e "StopIteration" ∧ Q none s') s) : wpAny (model prog w) A (pyNext (.ref it)) Q E s := by
 unfold pyNext
 refine wpAny_bind (wpAny_attempt (wpAny_callSpecial?_slot (name := Str.ofString "__next__") ⟨_, hit, rfl⟩ slot_setit_next
  (wpAny_call_entry slot_setit_next ⟨_, hit, rfl⟩ entry_setit_next (wpAny_mono h (fun r s' ⟨v, e, q⟩ => ⟨v, e, wpAny_pure q⟩) fun e s' ⟨ht, q⟩ => ?_) (args_setit_next _))))
 refine wpAny_bind (wpAny_isInstance (T := "StopIteration") (b := true) ht isSubtype_stop ?_)
 exact wpAny_pure q
theorem read_it {it a : Addr} {o : Obj} {f : Value} {es : Array (Int × Value)} {i n ep : Nat} {t : SetTable} {Q : PySem.Fin → Shared → Prop} {E' : Value → Shared → Prop} (hit : s.heap.get? it = some (sit f i a n ep)) (ho : s.heap.get? a = some o)
  (hd : o.data = .set es ep t) (hf : t.fits es.size = true) (hn : es.size = n)
  (h : wpAny (model prog w) A (
    if let .int slot _ := f then do
     match ← setNext a slot.toNat i ep with
     | some (x, next) =>
       setField (.ref it) 0 (rawInt next)
       setField (.ref it) 1 (rawInt ((i : Int) + 1))
       ret x
     | none => setField (.ref it) 2 .none; raiseNew (← newExc (.type "StopIteration") [])
    else do
     let some places ← seqItems? f | unsupported "internal:set_iterator"
     match places[i]? with
     | some (.int place _) =>
       let x ← setNextDrawn a place.toNat ep
       setField (.ref it) 1 (rawInt ((i : Int) + 1))
       ret x
     | some _ => unsupported "internal:set_iterator"
     | none => setField (.ref it) 0 (rawInt 0); setField (.ref it) 2 .none; raiseNew (← newExc (.type "StopIteration") [])) Q E' s) :
  wpAny (model prog w) A (Builtin.«set_iterator.__next__» ⟨[.ref it], []⟩) Q E' s := by
 unfold Builtin.«set_iterator.__next__»
 show wpAny (model prog w) A (fieldsOf (.ref it) >>= _) Q E' s
 unfold fieldsOf
 refine wpAny_bind (wpAny_bind (wpAny_load hit (wpAny_pure ?_)))
 dsimp only
 refine wpAny_bind (wpAny_setEntries_of ho hd hf ?_)
 rw [if_neg (by simp [hn])]
 exact h
theorem iter_setit {it a : Addr} {f : Value} {i n ep : Nat} {Q : Value → Shared → Prop} (hit : s.heap.get? it = some (sit f i a n ep)) (h : Q (.ref it) s) : wpAny (model prog w) A (pyIter (.ref it)) Q E s := by
 refine wpAny_pyIter_slot ⟨_, hit, rfl⟩ slot_setit_iter (wpAny_call_entry slot_setit_iter ⟨_, hit, rfl⟩ entry_setit_iter ?_ (args_setit_iter _))
 unfold Builtin.«dict_keyiterator.__iter__»
 exact wpAny_pure ⟨_, rfl, "set_iterator", _, ⟨_, hit, rfl⟩, slot_setit_next.lookup, h⟩
theorem sit_up0 {h : Heap} {it a : Addr} {f g : Value} {i n ep : Nat} (hit : h.get? it = some (sit f i a n ep)) : (h.update it (Obj.mapFields (·.setIfInBounds 0 g))).get? it = some (sit g i a n ep) :=
 Heap.get?_update_self _ hit rfl
theorem sit_up1 {h : Heap} {it a : Addr} {f : Value} {i n ep : Nat} (hit : h.get? it = some (sit f i a n ep)) : (h.update it (Obj.mapFields (·.setIfInBounds 1 (rawInt ((i : Int) + 1))))).get? it = some (sit f (i + 1) a n ep) := by
 have := Heap.get?_update_self (Obj.mapFields (·.setIfInBounds 1 (rawInt ((i : Int) + 1)))) hit rfl
 rw [this]
 have e : ((i + 1 : Nat) : Int) = (i : Int) + 1 := by omega
 unfold sit
 rw [e]
 rfl
theorem walk_int {it a : Addr} {o : Obj} {es : Array (Int × Value)} {ep : Nat} {t : SetTable} {sl : Nat → Nat} {ord : List Value} (hh : A.in1.handled = none) (hne : a ≠ it) (hd : o.data = .set es ep t) (hf : t.fits es.size = true) (hn : ord.length = es.size)
  (hx : ∀ (i : Nat) (z : Shared) (Q : Option (Value × Nat) → Shared → Prop) (E : Value → Shared → Prop), z.heap.get? a = some o → i ≤ es.size → Q (ord[i]?.map fun x => (x, sl (i + 1))) z → wpAny (model prog w) A.in1 (setNext a (sl i) i ep) Q E z) :
  WalksS prog w A it [it, a] [it] (fun a b => b = a) es.size (fun i v => ord[i]? = some v) (fun i z => z.heap.get? it = some (sit (.int (sl i) 0) i a es.size ep) ∧ z.heap.get? a = some o) where
 sub := fun b hb => by simp at hb; simp [hb]
 grefl := fun _ => rfl
 gtrans := fun _ _ _ h1 h2 => h2.trans h1
 frame := fun i z h' tk st _ hk => ⟨hk it (by simp) _ st.1, hk a (by simp) _ st.2⟩
 self := fun i z Q E st h => iter_setit st.1 h
 item := fun i z Q E hi st h => by
  refine next_via st.1 (read_it st.1 st.2 hd hf rfl ?_)
  dsimp only
  refine wpAny_bind (hx i z _ _ st.2 (by omega) ?_)
  rw [List.getElem?_eq_getElem (by omega)]
  dsimp only [Option.map_some]
  refine wpAny_bind (wpAny_setField st.1 rfl (by simp) ?_)
  have s1 := sit_up0 (g := rawInt (sl (i + 1) : Int)) st.1
  refine wpAny_bind (wpAny_setField s1 rfl (by simp) (wpAny_pure ⟨_, rfl, ?_⟩))
  have s2 := sit_up1 s1
  refine h _ _ (List.getElem?_eq_getElem (by omega)) ⟨s2, ?_⟩ ⟨fun b o' hb e => ?_, rfl, rfl, rfl, Nat.le_refl _⟩
  · exact (Heap.get?_update_other _ _ (Ne.symm hne)).trans ((Heap.get?_update_other _ _ (Ne.symm hne)).trans st.2)
  · have hb' : it ≠ b := fun z => hb (by simp [z])
    exact (Heap.get?_update_other _ _ hb').trans ((Heap.get?_update_other _ _ hb').trans e)
 done := fun z Q E st h => by
  refine next_via st.1 (read_it st.1 st.2 hd hf rfl ?_)
  dsimp only
  refine wpAny_bind (hx es.size z _ _ st.2 (Nat.le_refl _) ?_)
  rw [List.getElem?_eq_none (by omega)]
  dsimp only [Option.map_none]
  refine wpAny_bind (wpAny_setField st.1 rfl (by simp) ?_)
  refine stop_now (it := it) hh fun h' e hk ht => ⟨ht, h _ ⟨fun b o' hb e => hk b o' ?_, rfl, rfl, rfl, Nat.le_refl _⟩⟩
  exact (Heap.get?_update_other _ _ (fun z => hb (by simp [z]))).trans e
theorem walk_drawn {it a T : Addr} {o oT : Obj} {es : Array (Int × Value)} {ep : Nat} {t : SetTable} {pl : List Nat} {n0 : Nat} (hh : A.in1.handled = none) (hne : a ≠ it) (hnT : T ≠ it) (hd : o.data = .set es ep t) (hf : t.fits es.size = true)
  (hT : oT = seqObj "tuple" (pl.map fun (i : Nat) => rawInt i).toArray n0) (hp : pl.Perm (List.range es.size)) :
  WalksS prog w A it [it, a, T] [it] (fun a b => b = a) es.size (fun i v => ((pl.map fun i => (es.toList.map (·.2)).getD i .none))[i]? = some v)
   (fun i z => z.heap.get? it = some (sit (.ref T) i a es.size ep) ∧ z.heap.get? a = some o ∧ z.heap.get? T = some oT) where
 sub := fun b hb => by simp at hb; simp [hb]
 grefl := fun _ => rfl
 gtrans := fun _ _ _ h1 h2 => h2.trans h1
 frame := fun i z h' tk st _ hk => ⟨hk it (by simp) _ st.1, hk a (by simp) _ st.2.1, hk T (by simp) _ st.2.2⟩
 self := fun i z Q E st h => iter_setit st.1 h
 item := fun i z Q E hi st h => by
  have hl : pl.length = es.size := by rw [hp.length_eq]; simp
  have hpi : pl[i]? = some (pl[i]'(by omega)) := List.getElem?_eq_getElem (by omega)
  have hlt : pl[i]'(by omega) < es.size := List.mem_range.mp (hp.mem_iff.mp (List.getElem_mem _))
  refine next_via st.1 (read_it st.1 st.2.1 hd hf rfl ?_)
  dsimp only
  refine wpAny_bind (wpAny_seqItems st.2.2 (by rw [hT]) ?_)
  dsimp only
  have e1 : (pl.map fun (i : Nat) => rawInt i).toArray[i]? = some (rawInt (pl[i]'(by omega) : Int)) := by
   rw [List.getElem?_toArray, List.getElem?_map, hpi]; rfl
  rw [e1]
  dsimp only [rawInt]
  unfold setNextDrawn
  refine wpAny_bind (wpAny_bind (wpAny_setState_of st.2.1 hd hf ?_))
  dsimp only
  rw [if_neg (by simp)]
  rw [Int.toNat_natCast, getElem?_pos es (pl[i]'(by omega)) hlt]
  dsimp only
  refine wpAny_pure (wpAny_bind (wpAny_setField st.1 rfl (by simp) (wpAny_pure ⟨_, rfl, ?_⟩)))
  refine h _ _ ?_ ⟨sit_up1 st.1, (Heap.get?_update_other _ _ (Ne.symm hne)).trans st.2.1, (Heap.get?_update_other _ _ (Ne.symm hnT)).trans st.2.2⟩ ⟨fun b o' hb e => (Heap.get?_update_other _ _ (fun z => hb (by simp [z]))).trans e, rfl, rfl, rfl, Nat.le_refl _⟩
  rw [List.getElem?_map, hpi]
  simp [List.getD_eq_getElem?_getD, hlt]
 done := fun z Q E st h => by
  have hl : pl.length = es.size := by rw [hp.length_eq]; simp
  refine next_via st.1 (read_it st.1 st.2.1 hd hf rfl ?_)
  dsimp only
  refine wpAny_bind (wpAny_seqItems st.2.2 (by rw [hT]) ?_)
  dsimp only
  have e1 : (pl.map fun (i : Nat) => rawInt i).toArray[es.size]? = none := by
   rw [List.getElem?_toArray, List.getElem?_eq_none (by simp; omega)]
  rw [e1]
  dsimp only
  refine wpAny_bind (wpAny_setField st.1 rfl (by simp) ?_)
  refine wpAny_bind (wpAny_setField (sit_up0 st.1) rfl (by simp) ?_)
  refine stop_now (it := it) hh fun h' e hk ht => ⟨ht, h _ ⟨fun b o' hb e => hk b o' ?_, rfl, rfl, rfl, Nat.le_refl _⟩⟩
  have hb' : it ≠ b := fun z => hb (by simp [z])
  exact (Heap.get?_update_other _ _ hb').trans ((Heap.get?_update_other _ _ hb').trans e)
end
set_option autoImplicit false
section
variable {prog : Program} {w : World} {A : Around} {E : Value → Shared → Prop} {s : Shared}
noncomputable def slOf (pl : Array Nat) (i : Nat) : Nat := if i = 0 then 0 else pl.getD (i - 1) 0 + 1
theorem below_sl {pl : Array Nat} (h : Rise pl) {i : Nat} (hi : i ≤ pl.size) : SetTable.below pl (slOf pl i) = i := by
 obtain ⟨b1, b2, b3⟩ := below_is h (slOf pl i)
 have gd : ∀ k d d', k < pl.size → pl.getD k d = pl.getD k d' := fun k d d' hk => by
  simp only [Array.getD_eq_getD_getElem?, getElem?_pos pl k hk, Option.getD_some]
 rcases Nat.lt_trichotomy (SetTable.below pl (slOf pl i)) i with hlt | he | hgt
 · exfalso
   have h3 := b3 (i - 1) (by omega) (by omega)
   rw [gd (i - 1) _ 0 (by omega)] at h3
   unfold slOf at h3
   rw [if_neg (by omega)] at h3
   omega
 · exact he
 · exfalso
   have h2 := b2 i hgt
   by_cases hi0 : i = 0
   · subst hi0
     unfold slOf at h2
     simp at h2
   · have h4 := h.lt (i := i - 1) (k := i) (by omega) (by omega) 0
     rw [gd i _ 0 (by omega)] at h2
     unfold slOf at h2
     rw [if_neg hi0] at h2
     omega
theorem next_text {a : Addr} {o : Obj} {es : Array (Int × Value)} {ep : Nat} {t : SetTable} (hd : o.data = .set es ep t) (hf : t.fits es.size = true) (hb : bt w = true) (i : Nat) (z : Shared) (Q : Option (Value × Nat) → Shared → Prop) (E : Value → Shared → Prop)
  (ho : z.heap.get? a = some o) (h : Q ((((pickOrder (w.params.setOrder a ep) es).toList.map (·.2))[i]?).map fun x => (x, 0)) z) : wpAny (model prog w) A (setNext a 0 i ep) Q E z := by
 unfold setNext
 refine wpAny_bind (wpAny_setState_of ho hd hf ?_)
 dsimp only
 refine wpAny_bind (wp_byText ?_)
 rw [hb]
 simp only [if_true, bne_self_eq_false, Bool.false_eq_true, if_false]
 unfold setWalk
 refine wpAny_bind (wpAny_bind (wpAny_setState_of ho hd hf ?_))
 dsimp only
 refine wpAny_bind (wp_byText ?_)
 rw [hb]
 simp only [if_true]
 refine wpAny_bind (wpAny_askSetting (wpAny_pure (wpAny_pure ?_)))
 rw [List.getElem?_map, Array.getElem?_toList, Option.map_map] at h
 exact h
theorem next_place {a : Addr} {o : Obj} {es : Array (Int × Value)} {ep : Nat} {t : SetTable} (hd : o.data = .set es ep t) (hf : t.fits es.size = true) (hb : bt w = false) (hl : t.led = true) (hnd : (!t.plain && decide (es.size > 1)) = false) (hr : Rise t.place) (i : Nat) (z : Shared)
  (Q : Option (Value × Nat) → Shared → Prop) (E : Value → Shared → Prop) (ho : z.heap.get? a = some o) (hi : i ≤ es.size) (h : Q (((es.toList.map (·.2))[i]?).map fun x => (x, slOf t.place (i + 1))) z) : wpAny (model prog w) A (setNext a (slOf t.place i) i ep) Q E z := by
 have hps : t.place.size = es.size := by
  simp only [SetTable.fits, Bool.and_eq_true, beq_iff_eq] at hf
  exact hf.1
 unfold setNext
 refine wpAny_bind (wpAny_setState_of ho hd hf ?_)
 dsimp only
 refine wpAny_bind (wp_byText ?_)
 rw [hb]
 simp only [Bool.false_eq_true, if_false]
 split
 · rename_i hh
   have hh' : (!t.plain && decide (es.size > 1)) = true := hh
   rw [hnd] at hh'
   cases hh'
 · refine wpAny_bind ?_
   show wpAny (model prog w) A (if (!t.led && !es.isEmpty) = true then unsupported "set:maker-not-led" else pure ()) _ _ _
   rw [hl]
   simp only [Bool.not_true, Bool.false_and, Bool.false_eq_true, if_false]
   refine wpAny_pure (wpAny_pure ?_)
   rw [below_sl hr (by omega)]
   by_cases hlt : i < es.size
   · rw [getElem?_pos es i hlt, getElem?_pos t.place i (by omega)]
     rw [List.getElem?_eq_getElem (by simpa using hlt)] at h
     have e : slOf t.place (i + 1) = t.place[i] + 1 := by
      unfold slOf
      rw [if_neg (by omega), Nat.add_sub_cancel, Array.getD_eq_getD_getElem?, getElem?_pos t.place i (by omega)]; rfl
     rw [e] at h
     simpa using h
   · rw [getElem?_neg es i hlt, getElem?_neg t.place i (by omega)]
     rw [List.getElem?_eq_none (by simp; omega)] at h
     exact h
theorem iter_set {a : Addr} {o : Obj} {es : Array (Int × Value)} {ep : Nat} {t : SetTable} {Q : Value → Shared → Prop} (hh : A.in1.handled = none) (ho : s.heap.get? a = some o) (hex : o.ExactSet) (hd : o.data = .set es ep t) (hf : t.fits es.size = true) (hok : Okt (bt w) t)
  (hb : es.size < scanBound)
  (h : ∀ (I : Addr) (fp : List Addr) (ord : List Value) (St : Nat → Shared → Prop) (h' : Heap) (d : Drawn), WalksS prog w A I fp [I] (fun a b => b = a) es.size (fun i v => ord[i]? = some v) St → St 0 { s with heap := h', drawn := d } →
    ord.length = es.size → ord.Perm (es.toList.map (·.2)) → s.heap.objs.size ≤ I → (∀ b ∈ fp, b = a ∨ s.heap.objs.size ≤ b) → (∀ b u, s.heap.get? b = some u → h'.get? b = some u) → Q (.ref I) { s with heap := h', drawn := d }) :
  wpAny (model prog w) A (pyIter (.ref a)) Q E s := by
 have haL := Heap.lt_size ho
 have hps : t.place.size = es.size := by
  have hf' := hf
  simp only [SetTable.fits, Bool.and_eq_true, beq_iff_eq] at hf'
  exact hf'.1
 refine wpAny_pyIter_slot ⟨_, ho, hex.1⟩ slot_set_iter (wpAny_call_entry slot_set_iter ⟨_, ho, hex.1⟩ entry_set_iter ?_ (args_set_iter _))
 unfold Builtin.«frozenset.__iter__»
 show wpAny (model prog w) A.in1 (Builtin.Frozenset.sizeOf a >>= _) _ _ s
 unfold Builtin.Frozenset.sizeOf
 refine wpAny_bind (wpAny_bind (wpAny_setEntries_of ho hd hf (wpAny_pure ?_)))
 refine wpAny_bind ?_
 unfold setDrawn
 refine wpAny_bind (wpAny_setState_of ho hd hf ?_)
 dsimp only
 refine wpAny_bind (wp_byText (wpAny_pure ?_))
 have hlen : (es.toList.map (·.2)).length = es.size := by simp
 split
 · rename_i hD
   refine wpAny_bind (wp_draw es.size (List.range es.size) s (by simp) fun pl d hp => ?_)
   refine wpAny_bind (wpAny_newTuple ?_ (hsz := by rw [List.length_map, hp.length_eq, List.length_range]; exact fits_of_scanBound hb))
   refine wpAny_bind (wpAny_setEpoch_of (o := o) (es := es) (ep := ep) (t := t) (Heap.get?_push_of_some _ ho) hd hf ?_)
   refine wpAny_bind (wpAny_newObj_type (wpAny_pure ⟨_, rfl, "set_iterator", _, ⟨_, Heap.get?_push_size _ rfl, rfl⟩, slot_setit_next.lookup, ?_⟩))
   have hsz1 : ∀ u : Obj, (s.heap.push u).objs.size = s.heap.objs.size + 1 := fun u => size_push' _ _
   refine h _ _ _ _ _ d (walk_drawn (prog := prog) (w := w) (A := A) (a := a) (T := s.heap.objs.size) (o := o) (es := es) (ep := ep) (t := t) (pl := pl) (n0 := 0) hh ?_ ?_ hd hf rfl hp) ⟨Heap.get?_push_size _ rfl, ?_, ?_⟩ ?_ ?_ ?_ ?_ ?_
   · dsimp only; rw [hsz1]; exact Nat.ne_of_lt (Nat.lt_succ_of_lt haL)
   · dsimp only; rw [hsz1]; exact Nat.ne_of_lt (Nat.lt_succ_self _)
   · exact Heap.get?_push_of_some _ (Heap.get?_push_of_some _ ho)
   · exact Heap.get?_push_of_some _ (Heap.get?_push_size _ rfl)
   · rw [List.length_map, hp.length_eq]; simp
   · refine (hp.map _).trans (List.Perm.of_eq ?_)
     apply List.ext_getElem?
     intro i
     rw [List.getElem?_map]
     by_cases hi : i < es.size
     · rw [List.getElem?_range hi, List.getElem?_eq_getElem (by simpa using hi)]
       simp [List.getD_eq_getElem?_getD, hi]
     · rw [List.getElem?_eq_none (by simp; omega), List.getElem?_eq_none (by simp; omega)]; rfl
   · dsimp only; rw [hsz1]; exact Nat.le_succ _
   · intro b hb
     dsimp only at hb
     rw [hsz1] at hb
     simp only [List.mem_cons, List.not_mem_nil, or_false] at hb
     rcases hb with rfl | rfl | rfl
     · exact .inr (Nat.le_succ _)
     · exact .inl rfl
     · exact .inr (Nat.le_refl _)
   · exact fun b u e => Heap.get?_push_of_some _ (Heap.get?_push_of_some _ e)
 · rename_i hD
   have hD' : ¬ ((!bt w && (!t.plain && decide (es.size > 1))) = true) := hD
   refine wpAny_bind (wpAny_pure ?_)
   refine wpAny_bind (wpAny_setEpoch_of (o := o) (es := es) (ep := ep) (t := t) ho hd hf ?_)
   refine wpAny_bind (wpAny_newObj_type (wpAny_pure ⟨_, rfl, "set_iterator", _, ⟨_, Heap.get?_push_size _ rfl, rfl⟩, slot_setit_next.lookup, ?_⟩))
   have hfp : ∀ b ∈ [s.heap.objs.size, a], b = a ∨ s.heap.objs.size ≤ b := fun b hb => by
    simp only [List.mem_cons, List.not_mem_nil, or_false] at hb
    rcases hb with rfl | rfl
    · exact .inr (Nat.le_refl _)
    · exact .inl rfl
   cases hb : bt w with
   | true =>
     have hpk := pick_perm (w.params.setOrder a ep) es
     refine h _ _ _ _ _ s.drawn (walk_int (prog := prog) (w := w) (A := A) (it := s.heap.objs.size) (a := a) (o := o) (es := es) (ep := ep) (t := t) (sl := fun _ => 0) (ord := (pickOrder (w.params.setOrder a ep) es).toList.map (·.2)) hh (Nat.ne_of_lt haL) hd hf (by rw [List.length_map, hpk.length_eq, Array.length_toList])
      fun i z Q' E' hz _ hq => next_text hd hf hb i z Q' E' hz hq) ⟨Heap.get?_push_size _ rfl, Heap.get?_push_of_some _ ho⟩ ?_ (hpk.map _) (Nat.le_refl _) hfp fun b u e => Heap.get?_push_of_some _ e
     rw [List.length_map, hpk.length_eq, Array.length_toList]
   | false =>
     have hnd : (!t.plain && decide (es.size > 1)) = false := by
      rw [hb] at hD'
      simpa using hD'
     have hr : Rise t.place := by
      cases hp : t.plain with
      | true => exact (hok.2 hp).1
      | false =>
        have h1 : es.size ≤ 1 := by
         rw [hp] at hnd
         simpa using hnd
        unfold Rise
        have hl : t.place.toList.length ≤ 1 := by rw [Array.length_toList]; omega
        match t.place.toList, hl with
        | [], _ => exact List.Pairwise.nil
        | [x], _ => exact List.pairwise_singleton _ _
     refine h _ _ _ _ _ s.drawn (walk_int (prog := prog) (w := w) (A := A) (it := s.heap.objs.size) (a := a) (o := o) (es := es) (ep := ep) (t := t) (sl := slOf t.place) (ord := es.toList.map (·.2)) hh (Nat.ne_of_lt haL) hd hf hlen
      fun i z Q' E' hz hi hq => next_place hd hf hb (by rw [hok.1, hb]; rfl) hnd hr i z Q' E' hz hi hq) ⟨Heap.get?_push_size _ rfl, Heap.get?_push_of_some _ ho⟩ hlen (List.Perm.refl _) (Nat.le_refl _) hfp fun b u e => Heap.get?_push_of_some _ e
theorem items_all {ord : List Value} {acc : Array Value} {n : Nat} (h : ItemsOf (fun i v => ord[i]? = some v) acc n) (hl : ord.length = n) : acc.toList = ord := by
 apply List.ext_getElem?
 intro i
 by_cases hi : i < n
 · have hi' : i < acc.size := by rw [h.1]; exact hi
   have e : acc.toList[i]? = some acc[i] := by rw [Array.getElem?_toList]; exact getElem?_pos acc i hi'
   rw [e]
   exact (h.2 i acc[i] (getElem?_pos acc i hi')).symm
 · rw [List.getElem?_eq_none (by rw [Array.length_toList, h.1]; omega), List.getElem?_eq_none (by omega)]
theorem wp_if {α : Type} {M : Model} {c : Prop} [Decidable c] {x y : Sem α} {Q : α → Shared → Prop} (hc : c) (h : wpAny M A x Q E s) : wpAny M A (if c then x else y) Q E s := by
 rw [if_pos hc]; exact h
theorem split_set_len : splitId "set.__len__" = some ("set", "__len__") := by kernel_rfl
theorem collect_set {a : Addr} {ns : List Int} {m : Nat} {Q : List Value → Shared → Prop} (hh : A.handled = none) (hS : SIm prog w s.heap a ns m)
  (h : ∀ h' d tk ord ks, IntsAre ord ks → ks.Nodup → (∀ k, k ∈ ks ↔ k ∈ ns) → ord.length ≤ m → (∀ b o, s.heap.get? b = some o → h'.get? b = some o) → Q ord { s with heap := h', drawn := d, toks := tk }) :
  wpAny (model prog w) A (collect (.ref a)) Q E s := by
 obtain ⟨⟨o, es, ep, t, ks, ho, hex, hd, hel, hI, hnd, hmem, hb, hf, hok⟩, hm⟩ := hS
 have hsz := hm o es ep t ho hd
 have haL := Heap.lt_size ho
 have hline : es.size ≤ sizeLine := fits_of_scanBound hb
 unfold collect
 refine wpAny_bind (wpAny_runValue (codeAny_builtin PySem.F.entry_proto_collect ?_))
 rw [Around.under_plainId PySem.F.plain_proto_collect _]
 show wpAny _ A.in1 (newList [] >>= fun l => again (.builtin "list.__iadd__" ⟨[l, .ref a], []⟩)) _ _ s
 refine wpAny_bind (wpAny_newObj_type ?_)
 refine wpAny_pure ⟨plainId_quiet PySem.F.plain_list_iadd _, codeAny_builtin PySem.F.entry_list_iadd ?_⟩
 rw [Around.under_plainId PySem.F.plain_list_iadd _]
 generalize hL : s.heap.objs.size = L
 have hLs : s.heap.objs.size = L := hL
 show wpAny _ A.in1 (Builtin.List.listExtendWith (.ref L) (.ref a) (.ref L)) _ _ { s with heap := s.heap.push { cls := .type "list", data := .seq ([] : List Value).toArray } }
 unfold Builtin.List.listExtendWith
 have ho1 : (s.heap.push { cls := .type "list", data := .seq ([] : List Value).toArray }).get? a = some o := Heap.get?_push_of_some _ ho
 have hL1 : (s.heap.push { cls := .type "list", data := .seq ([] : List Value).toArray }).get? L = some { cls := .type "list", data := .seq ([] : List Value).toArray } := by rw [← hL]; exact Heap.get?_push_size _ rfl
 have hz1 : (s.heap.push { cls := .type "list", data := .seq ([] : List Value).toArray }).objs.size = L + 1 := by rw [size_push', hL]
 refine wpAny_bind (wpAny_typeOf (T := "set") ⟨_, ho1, hex.1⟩ ?_)
 have g1 : Builtin.List.listSameRef (.ref L) (.ref a) = false := by simp [Builtin.List.listSameRef]; rw [← hL]; exact Nat.ne_of_gt haL
 have g2 : (Value.type "set" == Value.type "list") = false := by decide
 have g3 : (Value.type "set" == Value.type "tuple") = false := by decide
 simp only [g1, g2, g3, Bool.or_false, Bool.false_eq_true, if_false]
 refine wpAny_bind (iter_set (s := { s with heap := s.heap.push { cls := .type "list", data := .seq ([] : List Value).toArray } }) (by simp [hh]) ho1 hex hd hf hok hb fun I fp ord St h1 d W st0 hlo hpo hI1 hfp hk1 => ?_)
 dsimp only at hI1 hfp hk1
 rw [hz1] at hI1
 have hoz := hk1 _ _ ho1
 have hLz := hk1 _ _ hL1
 have hSf : L ∉ fp := fun z => by
  rw [hz1] at hfp
  rcases hfp L z with e | e
  · rw [← e, ← hL] at haL
    exact Nat.lt_irrefl _ haL
  · exact Nat.lt_irrefl _ e
 refine wpAny_bind (wpAny_holding ?_)
 unfold Builtin.List.listLengthHint
 refine wpAny_bind (wpAny_specialOf (T := "set") ⟨_, hoz, hex.1⟩ set_has_len ?_)
 dsimp only
 rw [split_set_len]
 dsimp only
 refine wpAny_bind (wpAny_isInstance (T := "set") ⟨_, hoz, hex.1⟩ sub_set_self ?_)
 rw [if_neg (show ¬ ((!true) = true) by decide)]
 refine wp_if (by kernel_rfl) ?_
 refine wpAny_bind (wpAny_typeOf (T := "set") ⟨_, hoz, hex.1⟩ (wpAny_pure ?_))
 refine wp_if (by kernel_rfl) ?_
 refine wpAny_bind (wpAny_rule ?_)
 refine wpAny_bind ?_
 show wpAny _ A.in1 (updateSeq L (·.push .none) >>= fun _ => updateSeq L (·.pop)) _ _ _
 refine wpAny_bind (wpAny_updateSeq hLz rfl ?_)
 have hL2 := Heap.get?_update_self (Obj.mapSeq (·.push Value.none)) hLz rfl
 refine wpAny_updateSeq hL2 rfl ?_
 have hL3 := Heap.get?_update_self (Obj.mapSeq (·.pop)) hL2 rfl
 have oth : ∀ b u, b ≠ L → h1.get? b = some u → ((h1.update L (Obj.mapSeq (·.push Value.none))).update L (Obj.mapSeq (·.pop))).get? b = some u :=
  fun b u hb e => (Heap.get?_update_other _ _ (Ne.symm hb)).trans ((Heap.get?_update_other _ _ (Ne.symm hb)).trans e)
 refine wpAny_pure ⟨plainId_quiet PySem.F.plain_extend_loop _, codeAny_extend_loopS W hline _ hSf _ es.size 0 _ _ _ rfl (Nat.zero_le _)
  (W.frame 0 ({ s with heap := h1, drawn := d } : Shared) _ s.toks st0 (Nat.le_refl _) fun b hb u e => oth b u (fun z => hSf (z ▸ hb)) e) hL3 (ItemsOf.nil _) fun z' acc c' hmv hS' hacc => ?_⟩
 show wpAny _ A (load L >>= _) _ _ z'
 refine wpAny_bind (wpAny_load hS' (wpAny_pure ?_))
 rw [items_all hacc hlo]
 obtain ⟨h2, gs, d2, tk, os2⟩ := z'
 have eg : gs = s.gens := hmv.gens
 have ed : d2 = d := hmv.drawn
 have eo : os2 = s.os := hmv.os
 subst eg ed eo
 obtain ⟨kk, q1, q2⟩ := ints_perm hI hpo
 refine h h2 d2 tk ord kk q1 (q2.nodup_iff.mpr hnd) (fun k => q2.mem_iff.trans (hmem k)) (by omega) fun b u e => ?_
 have hbs : b < s.heap.objs.size := Heap.lt_size e
 have hbL : b ≠ L := by rw [← hL]; exact Nat.ne_of_lt hbs
 have hbI : b ≠ I := Nat.ne_of_lt (Nat.lt_of_lt_of_le (by rw [← hL]; exact Nat.lt_succ_of_lt hbs) hI1)
 exact hmv.heap b u (by simp [hbL, hbI]) (oth b u hbL (hk1 b u (Heap.get?_push_of_some _ e)))
theorem sorted_end {vs : List Value} {ns : List Int} {Q : Value → Shared → Prop} (hI : IntsAre vs ns) (hsl : vs.length ≤ sizeLine)
  (h : ∀ (h2 : Heap) (vs' : List Value) (ns' : List Int) (e : Nat), (∀ b o, s.heap.get? b = some o → h2.get? b = some o) → h2.get? s.heap.objs.size = some (seqObj "list" vs'.toArray e) → IntsAre vs' ns' → ns'.Perm ns → ns'.Pairwise (· ≤ ·) →
    Q (.ref s.heap.objs.size) { s with heap := h2 }) :
  wpAny (model prog w) A.in1 (do
   let l ← newList vs
   let _ ← holding [l] (call (.builtin "list.sort") [l] [])
   ret l) (fun r z => ∃ v, r = .done (.ret v) ∧ Q v z) E s := by
 refine wpAny_bind (wpAny_newList ?_ (hsz := hsl))
 have hoL : (s.heap.push (seqObj "list" vs.toArray 0)).get? s.heap.objs.size = some (seqObj "list" vs.toArray 0) := Heap.get?_push_size _ rfl
 refine wpAny_bind (wpAny_holding (wpAny_call_entry slot_list_sort ⟨_, hoL, rfl⟩ entry_list_sort (sort_any hoL hI hsl fun out ns' a1 a2 a3 => ⟨_, rfl, ?_⟩) (args_list_sort _)))
 obtain ⟨e, he⟩ := sortedHeap_at (out := out) hoL
 refine wpAny_pure ⟨_, rfl, h _ out.toList ns' e (fun b o q => ?_) (by simpa using he) a1 a2 a3⟩
 have hb := Heap.lt_size q
 have q1 := Heap.get?_push_of_some (seqObj "list" vs.toArray 0) q
 show (sortedHeap (s.heap.push (seqObj "list" vs.toArray 0)) s.heap.objs.size vs out).get? b = some o
 rw [sortedHeap_old (Nat.ne_of_lt hb) (by rw [size_push']; exact Nat.lt_succ_of_lt hb)]
 exact q1
theorem sorted_set {a : Addr} {ns : List Int} {m : Nat} {Q : Value → Shared → Prop} (hh : A.handled = none) (hS : SIm prog w s.heap a ns m) (hm : m ≤ sizeLine)
  (h : ∀ (h1 h2 : Heap) (d : Drawn) (tk : Nat) (vs : List Value) (ks : List Int) (e : Nat), (∀ b o, s.heap.get? b = some o → h1.get? b = some o) → (∀ b o, h1.get? b = some o → h2.get? b = some o) → h2.get? h1.objs.size = some (seqObj "list" vs.toArray e) →
    IntsAre vs ks → ks.Pairwise (· < ·) → (∀ k, k ∈ ks ↔ k ∈ ns) → vs.length ≤ m → Q (.ref h1.objs.size) { s with heap := h2, drawn := d, toks := tk }) :
  wpAny (model prog w) A (call (.builtin "sorted") [.ref a]) Q E s := by
 refine Calls.call_function_entry (A := A) kind_sorted plain_sorted entry_sorted (args_sorted1 _) ?_
 show wpAny _ _ (checkCount "sorted" 1 1 1 >>= _) _ _ s
 refine wpAny_bind (wpAny_pure (wpAny_bind (collect_set (by simp [hh]) hS fun h1 d tk ord ks q1 q2 q3 q4 q5 => ?_)))
 refine sorted_end (s := { s with heap := h1, drawn := d, toks := tk }) q1 (Nat.le_trans q4 hm) fun h2 vs ks' e p1 p2 p3 p4 p5 => ?_
 have hlt : ks'.Pairwise (· < ·) := by
  have hnd : ks'.Nodup := p4.nodup_iff.mpr q2
  exact List.Pairwise.imp₂ (fun a b h1 h2 => Int.lt_iff_le_and_ne.mpr ⟨h1, h2⟩) p5 hnd
 refine h h1 h2 d tk vs ks' e q5 p1 p2 p3 hlt (fun k => p4.mem_iff.trans (q3 k)) ?_
 have l1 := IntsAre.length p3
 have l2 := IntsAre.length q1
 have l3 := p4.length_eq
 omega
end
end TS
namespace FL
open PySem PySem.Spec PyProof.Rows L2
abbrev Frag := PySem.W.Frag
noncomputable def KLst (K : Frag) (a : Addr) (xs : List V) : Prop := ∃ (o : Obj) (its : Array Value) (n : Nat), K.lookup a = some o ∧ o.cls = .type "list" ∧ o.dict = none ∧ o.data = .seq its n ∧ its.size ≤ sizeLine ∧ Vals xs its.toList
noncomputable def KTup (K : Frag) (a : Addr) (xs : List V) : Prop := ∃ (o : Obj) (its : Array Value) (n : Nat), K.lookup a = some o ∧ o.cls = .type "tuple" ∧ o.data = .seq its n ∧ its.size ≤ sizeLine ∧ Vals xs its.toList
structure LamT where
 qual : Str
 params : Arguments
 body : FuncBody
 scope : Scope
noncomputable def lamsE (q : Str) : Nat → Expr → List LamT
 | 0, _ => []
 | n + 1, e => match e with
   | .Lambda a b sc _ => [⟨q ++ "<lambda>", a, .expr b, sc⟩]
   | .Call _ as _ _ => as.flatMap (lamsE q n)
   | .Compare l _ cs _ => lamsE q n l ++ cs.flatMap (lamsE q n)
   | .BoolOp _ vs _ => vs.flatMap (lamsE q n)
   | .UnaryOp _ o _ => lamsE q n o
   | .BinOp l _ r _ => lamsE q n l ++ lamsE q n r
   | .IfExp t b o _ => lamsE q n t ++ (lamsE q n b ++ lamsE q n o)
   | .List es _ => es.flatMap (lamsE q n)
   | .Tuple es _ _ => es.flatMap (lamsE q n)
   | .Subscript v i _ => lamsE q n v ++ lamsE q n i
   | _ => []
noncomputable def lamsS (q : Str) : Nat → Stmt → List LamT
 | 0, _ => []
 | n + 1, s => match s with
   | .FunctionDef x a b _ _ _ sc _ _ _ => [⟨q ++ x, a, .stmts b, sc⟩]
   | .Assign _ e _ => lamsE q 12 e
   | .Return (some e) _ => lamsE q 12 e
   | .Expr e _ => lamsE q 12 e
   | .If t a b _ => lamsE q 12 t ++ (a.flatMap (lamsS q n) ++ b.flatMap (lamsS q n))
   | .For _ _ a _ _ => a.flatMap (lamsS q n)
   | .While _ a _ _ => a.flatMap (lamsS q n)
   | _ => []
noncomputable def lamsOf (x : Str) (b : List Stmt) : List LamT := b.flatMap (lamsS (x ++ ".<locals>.") 8)
noncomputable def textIn (K : PySem.W.Frag) (m n : Nat) : Option LamT := (makers[m]?).bind fun x => match PySem.W.nsIn K mainGlobals x with
 | some (some (.ref f)) => (match K.lookup f with
   | some ⟨_, _, .func fd, _⟩ => (match fd.body with
     | .stmts b => (lamsOf x b)[n]?
     | _ => none)
   | _ => none)
 | _ => none
noncomputable def freeR (l : List (Str × NameKind)) : List Str := ((l.filter fun y => y.2 == NameKind.free).map (·.1)).reverse
inductive ClosOk (H : Hp) (O : Addr → Prop) : List (Str × Addr) → List V → Prop
 | nil : ClosOk H O [] []
 | cons {n : Str} {c : Addr} {o : Obj} {u : HO} {w : Value} {x : V} {cl : List (Str × Addr)} {xs : List V} (no : ¬ O c) (h : H c = some (.frz o u)) (d : o.data = .cell (some w)) (r : RelV x w) (t : ClosOk H O cl xs) : ClosOk H O ((n, c) :: cl) (x :: xs)
noncomputable def LamAt (H : Hp) (O : Addr → Prop) (f : Addr) (t : LamT) (cl : List (Str × Addr)) : Prop := ¬ O f ∧ ∃ (o oc : Obj) (u uc : HO) (fd : FuncData) (c : Addr) (vs : Array Value) (tq : Tok),
 H f = some (.frz o u) ∧ o.cls = .type "function" ∧ o.data = .func fd ∧ fd.qualname = t.qual ∧ fd.params = t.params ∧ fd.body = t.body ∧ fd.scope = t.scope ∧ fd.globals = mainGlobals ∧ fd.closure = cl ∧ fd.defaults = .none ∧ fd.kwdefaults = .none ∧ fd.code = .ref c ∧ fd.builtins = builtinsNs ∧
 ¬ O c ∧ H c = some (.frz oc uc) ∧ oc.data = .fields vs ∧ vs[1]? = some (.str t.qual tq)
mutual
inductive Rep (K : Frag) (H : Hp) (O : Addr → Prop) : V → D → Prop
 | non : Rep K H O .non .non
 | bl (b : Bool) : Rep K H O (.bl b) (.bl b)
 | int (i : Int) : Rep K H O (.int i) (.int i)
 | str (x : Str) : Rep K H O (.str x) (.str x)
 | tup {a : Addr} {xs : List V} {ds : List D} (n : ¬ O a) (h : Rd H a (.tup xs)) (r : Reps K H O xs ds) : Rep K H O (.ref a) (.tup ds)
 | tupK {a : Addr} {xs : List V} {ds : List D} (h : KTup K a xs) (r : Reps K H O xs ds) : Rep K H O (.ref a) (.tup ds)
 | lst {a : Addr} {xs : List V} {ds : List D} (n : ¬ O a) (h : Rd H a (.lst xs)) (r : Reps K H O xs ds) : Rep K H O (.ref a) (.lst ds)
 | lstK {a : Addr} {xs : List V} {ds : List D} (h : KLst K a xs) (r : Reps K H O xs ds) : Rep K H O (.ref a) (.lst ds)
 | dct {a : Addr} {kvs : List (Key × V)} {ks : List Key} {ds : List D} (n : ¬ O a) (h : H a = some (.dK kvs)) (e : kvs.map (·.1) = ks) (r : Reps K H O (kvs.map (·.2)) ds) : Rep K H O (.ref a) (.dct ks ds)
 | dcf {a : Addr} {o : Obj} {kvs : List (Key × V)} {ks : List Key} {ds : List D} (n : ¬ O a) (h : H a = some (.frz o (.dK kvs))) (e : kvs.map (·.1) = ks) (r : Reps K H O (kvs.map (·.2)) ds) : Rep K H O (.ref a) (.dcf ks ds)
 | ins {a C dx : Addr} {t : Nat} {kvs : List (Str × V)} {ds : List D} (c : PySem.W.nsIn K mainGlobals (clsName t) = some (some (.ref C))) (n : ¬ O a) (h : H a = some (.ins C dx kvs)) (e : kvs.map (·.1) = clsFlds t) (r : Reps K H O (kvs.map (·.2)) ds) : Rep K H O (.ref a) (.ins t ds)
 | clo {f : Addr} {m n : Nat} {t : LamT} {cl : List (Str × Addr)} {xs : List V} {ds : List D} (tx : textIn K m n = some t) (h : LamAt H O f t cl) (e : cl.map (·.1) = freeR t.scope.names) (nd : (cl.map (·.2)).Nodup) (c : ClosOk H O cl xs) (r : Reps K H O xs ds) : Rep K H O (.ref f) (.clo m n ds)
 | fnK {f : Addr} {k : Nat} (h : PySem.W.nsIn K mainGlobals (fnName k) = some (some (.ref f))) : Rep K H O (.ref f) (.clo 1000 k [])
inductive Reps (K : Frag) (H : Hp) (O : Addr → Prop) : List V → List D → Prop
 | nil : Reps K H O [] []
 | cons {x : V} {d : D} {xs : List V} {ds : List D} (h : Rep K H O x d) (t : Reps K H O xs ds) : Reps K H O (x :: xs) (d :: ds)
end
section
variable {K : Frag} {H H' : Hp} {O O' : Addr → Prop}
noncomputable def Keep (O : Addr → Prop) (H H' : Hp) : Prop := ∀ b o, ¬ O b → H b = some o → H' b = some o
theorem Keep.of_same (h : Same H H') : Keep O H H' := fun b o _ e => h b o e
theorem Keep.rd {a : Addr} {u : HO} (k : Keep O H H') (n : ¬ O a) (h : Rd H a u) : Rd H' a u := by
 rcases h with h | ⟨o, h⟩
 · exact .inl (k _ _ n h)
 · exact .inr ⟨o, k _ _ n h⟩
theorem ClosOk.keep (k : Keep O H H') : ∀ {cl : List (Str × Addr)} {xs : List V}, ClosOk H O cl xs → ClosOk H' O cl xs
 | _, _, .nil => .nil
 | _, _, .cons no h d r t => .cons no (k _ _ no h) d r (ClosOk.keep k t)
theorem LamAt.keep {f : Addr} {t : LamT} {cl : List (Str × Addr)} (k : Keep O H H') (h : LamAt H O f t cl) : LamAt H' O f t cl := by
 obtain ⟨n, o, oc, u, uc, fd, c, vs, tq, h1, h2, h3, h4, h5, h6, h7, h8, h9, h10, h11, h12, h13, h14, h15, h16, h17⟩ := h
 exact ⟨n, o, oc, u, uc, fd, c, vs, tq, k _ _ n h1, h2, h3, h4, h5, h6, h7, h8, h9, h10, h11, h12, h13, h14, k _ _ h14 h15, h16, h17⟩
theorem ClosOk.nots (k : ∀ a, O' a → O a) : ∀ {cl : List (Str × Addr)} {xs : List V}, ClosOk H O cl xs → ClosOk H O' cl xs
 | _, _, .nil => .nil
 | _, _, .cons no h d r t => .cons (fun z => no (k _ z)) h d r (ClosOk.nots k t)
theorem LamAt.nots {f : Addr} {t : LamT} {cl : List (Str × Addr)} (k : ∀ a, O' a → O a) (h : LamAt H O f t cl) : LamAt H O' f t cl := by
 obtain ⟨n, o, oc, u, uc, fd, c, vs, tq, h1, h2, h3, h4, h5, h6, h7, h8, h9, h10, h11, h12, h13, h14, h15, h16, h17⟩ := h
 exact ⟨fun z => n (k _ z), o, oc, u, uc, fd, c, vs, tq, h1, h2, h3, h4, h5, h6, h7, h8, h9, h10, h11, h12, h13, fun z => h14 (k _ z), h15, h16, h17⟩
noncomputable def ins1 (p : Addr) (O : Addr → Prop) : Addr → Prop := fun b => b = p ∨ O b
theorem ClosOk.ins {p : Addr} (hp : H p = none) : ∀ {cl : List (Str × Addr)} {xs : List V}, ClosOk H O cl xs → ClosOk H (ins1 p O) cl xs
 | _, _, .nil => .nil
 | _, _, .cons no h d r t => .cons (fun z => z.elim (fun e => by rw [e, hp] at h; cases h) no) h d r (ClosOk.ins hp t)
theorem LamAt.ins {p f : Addr} {t : LamT} {cl : List (Str × Addr)} (hp : H p = none) (h : LamAt H O f t cl) : LamAt H (ins1 p O) f t cl := by
 obtain ⟨n, o, oc, u, uc, fd, c, vs, tq, h1, h2, h3, h4, h5, h6, h7, h8, h9, h10, h11, h12, h13, h14, h15, h16, h17⟩ := h
 exact ⟨fun z => z.elim (fun e => by rw [e, hp] at h1; cases h1) n, o, oc, u, uc, fd, c, vs, tq, h1, h2, h3, h4, h5, h6, h7, h8, h9, h10, h11, h12, h13, fun z => z.elim (fun e => by rw [e, hp] at h15; cases h15) h14, h15, h16, h17⟩
mutual
theorem Rep.keep (k : Keep O H H') : ∀ {v : V} {d : D}, Rep K H O v d → Rep K H' O v d
 | _, _, .non => .non
 | _, _, .bl b => .bl b
 | _, _, .int i => .int i
 | _, _, .str x => .str x
 | _, _, .tup n h r => .tup n (k.rd n h) (Reps.keep k r)
 | _, _, .tupK h r => .tupK h (Reps.keep k r)
 | _, _, .lst n h r => .lst n (k.rd n h) (Reps.keep k r)
 | _, _, .lstK h r => .lstK h (Reps.keep k r)
 | _, _, .dct n h e r => .dct n (k _ _ n h) e (Reps.keep k r)
 | _, _, .dcf n h e r => .dcf n (k _ _ n h) e (Reps.keep k r)
 | _, _, .ins c n h e r => .ins c n (k _ _ n h) e (Reps.keep k r)
 | _, _, .clo tx h e nd c r => .clo tx (h.keep k) e nd (c.keep k) (Reps.keep k r)
 | _, _, .fnK h => .fnK h
theorem Reps.keep (k : Keep O H H') : ∀ {vs : List V} {ds : List D}, Reps K H O vs ds → Reps K H' O vs ds
 | _, _, .nil => .nil
 | _, _, .cons h t => .cons (Rep.keep k h) (Reps.keep k t)
end
theorem Rep.mono (k : Same H H') {v : V} {d : D} (h : Rep K H O v d) : Rep K H' O v d := h.keep (.of_same k)
theorem Reps.mono (k : Same H H') {v : List V} {d : List D} (h : Reps K H O v d) : Reps K H' O v d := h.keep (.of_same k)
mutual
theorem Rep.less (k : ∀ a, O' a → O a) : ∀ {v : V} {d : D}, Rep K H O v d → Rep K H O' v d
 | _, _, .non => .non
 | _, _, .bl b => .bl b
 | _, _, .int i => .int i
 | _, _, .str x => .str x
 | _, _, .tup n h r => .tup (fun z => n (k _ z)) h (Reps.less k r)
 | _, _, .tupK h r => .tupK h (Reps.less k r)
 | _, _, .lst n h r => .lst (fun z => n (k _ z)) h (Reps.less k r)
 | _, _, .lstK h r => .lstK h (Reps.less k r)
 | _, _, .dct n h e r => .dct (fun z => n (k _ z)) h e (Reps.less k r)
 | _, _, .dcf n h e r => .dcf (fun z => n (k _ z)) h e (Reps.less k r)
 | _, _, .ins c n h e r => .ins c (fun z => n (k _ z)) h e (Reps.less k r)
 | _, _, .clo tx h e nd c r => .clo tx (h.nots k) e nd (c.nots k) (Reps.less k r)
 | _, _, .fnK h => .fnK h
theorem Reps.less (k : ∀ a, O' a → O a) : ∀ {vs : List V} {ds : List D}, Reps K H O vs ds → Reps K H O' vs ds
 | _, _, .nil => .nil
 | _, _, .cons h t => .cons (Rep.less k h) (Reps.less k t)
end
theorem Rd.some {a : Addr} {u : HO} (h : Rd H a u) : H a ≠ none := by
 rcases h with h | ⟨o, h⟩ <;> (rw [h]; simp)
mutual
theorem Rep.more {p : Addr} (hp : H p = none) : ∀ {v : V} {d : D}, Rep K H O v d → Rep K H (ins1 p O) v d
 | _, _, .non => .non
 | _, _, .bl b => .bl b
 | _, _, .int i => .int i
 | _, _, .str x => .str x
 | _, _, .tup n h r => .tup (fun z => z.elim (fun e => Rd.some h (e ▸ hp)) n) h (Reps.more hp r)
 | _, _, .tupK h r => .tupK h (Reps.more hp r)
 | _, _, .lst n h r => .lst (fun z => z.elim (fun e => Rd.some h (e ▸ hp)) n) h (Reps.more hp r)
 | _, _, .lstK h r => .lstK h (Reps.more hp r)
 | _, _, .dct n h e r => .dct (fun z => z.elim (fun e => by rw [e, hp] at h; cases h) n) h e (Reps.more hp r)
 | _, _, .dcf n h e r => .dcf (fun z => z.elim (fun e => by rw [e, hp] at h; cases h) n) h e (Reps.more hp r)
 | _, _, .ins c n h e r => .ins c (fun z => z.elim (fun e => by rw [e, hp] at h; cases h) n) h e (Reps.more hp r)
 | _, _, .clo tx h e nd c r => .clo tx (h.ins hp) e nd (c.ins hp) (Reps.more hp r)
 | _, _, .fnK h => .fnK h
theorem Reps.more {p : Addr} (hp : H p = none) : ∀ {vs : List V} {ds : List D}, Reps K H O vs ds → Reps K H (ins1 p O) vs ds
 | _, _, .nil => .nil
 | _, _, .cons h t => .cons (Rep.more hp h) (Reps.more hp t)
end
noncomputable def mutO : HO → Bool
 | .lst _ | .dK _ | .dT _ | .set _ _ | .ins _ _ _ => true
 | _ => false
noncomputable def MutHO := { u : HO // mutO u = true }
noncomputable def Old (H : Hp) : Addr → Prop := fun a => ∃ o, H a = some o ∧ mutO o = true
theorem Old.mono (k : Same H H') {a : Addr} (h : Old H a) : Old H' a := let ⟨o, e, m⟩ := h; ⟨o, k _ _ e, m⟩
noncomputable def none0 : Addr → Prop := fun _ => False
mutual
theorem Rep.flatten (ho : ∀ a, O a → Old H a) : ∀ {v : V} {d : D}, flat d = true → Rep K H O' v d → Rep K H O v d
 | _, _, _, .non => .non
 | _, _, _, .bl b => .bl b
 | _, _, _, .int i => .int i
 | _, _, _, .str x => .str x
 | _, _, f, .tup (a := a) n h r => .tup (fun z => by
    obtain ⟨u, e, m⟩ := ho a z
    rcases h with h | ⟨o, h⟩
    · rw [e] at h; cases h; cases m
    · rw [e] at h; cases h; cases m) h (Reps.flatten ho (by simpa [flat] using f) r)
 | _, _, f, .tupK h r => .tupK h (Reps.flatten ho (by simpa [flat] using f) r)
 | _, _, f, .lst _ _ _ => by simp [flat] at f
 | _, _, f, .lstK _ _ => by simp [flat] at f
 | _, _, f, .dct _ _ _ _ => by simp [flat] at f
 | _, _, f, .dcf _ _ _ _ => by simp [flat] at f
 | _, _, f, .ins _ _ _ _ _ => by simp [flat] at f
 | _, _, f, .clo _ _ _ _ _ _ => by simp [flat] at f
 | _, _, f, .fnK _ => by simp [flat] at f
theorem Reps.flatten (ho : ∀ a, O a → Old H a) : ∀ {vs : List V} {ds : List D}, flats ds = true → Reps K H O' vs ds → Reps K H O vs ds
 | _, _, _, .nil => .nil
 | _, _, f, .cons h t => by
   simp only [flats, Bool.and_eq_true] at f
   exact .cons (Rep.flatten ho f.1 h) (Reps.flatten ho f.2 t)
end
theorem Reps.length : ∀ {vs : List V} {ds : List D}, Reps K H O vs ds → vs.length = ds.length
 | _, _, .nil => rfl
 | _, _, .cons _ t => by simp [Reps.length t]
theorem Reps.get : ∀ {vs : List V} {ds : List D} {i : Nat} {d : D}, Reps K H O vs ds → ds[i]? = some d → ∃ v, vs[i]? = some v ∧ Rep K H O v d
 | _, _, _, _, .nil, e => by simp at e
 | _, _, 0, _, .cons h _, e => by simp at e; subst e; exact ⟨_, rfl, h⟩
 | _, _, i + 1, d, .cons _ t, e => by
   obtain ⟨v, h1, h2⟩ := Reps.get (i := i) (d := d) t (by simpa using e)
   exact ⟨v, by simpa using h1, h2⟩
theorem Reps.append : ∀ {xs ys : List V} {ds es : List D}, Reps K H O xs ds → Reps K H O ys es → Reps K H O (xs ++ ys) (ds ++ es)
 | _, _, _, _, .nil, s => s
 | _, _, _, _, .cons r t, s => .cons r (Reps.append t s)
theorem Reps.set {x : V} {d : D} (r : Rep K H O x d) : ∀ {xs : List V} {ds : List D} (i : Nat), Reps K H O xs ds → Reps K H O (xs.set i x) (ds.set i d)
 | _, _, _, .nil => .nil
 | _, _, 0, .cons _ t => .cons r t
 | _, _, i + 1, .cons q t => .cons q (Reps.set r i t)
theorem Reps.drop : ∀ {xs : List V} {ds : List D} (n : Nat), Reps K H O xs ds → Reps K H O (xs.drop n) (ds.drop n)
 | _, _, 0, r => r
 | _, _, _ + 1, .nil => .nil
 | _, _, n + 1, .cons _ t => Reps.drop n t
theorem Reps.take : ∀ {xs : List V} {ds : List D} (n : Nat), Reps K H O xs ds → Reps K H O (xs.take n) (ds.take n)
 | _, _, 0, _ => .nil
 | _, _, _ + 1, .nil => .nil
 | _, _, n + 1, .cons r t => .cons r (Reps.take n t)
theorem Reps.ints : ∀ (ns : List Int), Reps K H O (ns.map V.int) (ns.map D.int)
 | [] => .nil
 | n :: r => .cons (.int n) (Reps.ints r)
noncomputable def WRep (K : Frag) (H : Hp) (O : Addr → Prop) (v : V) (d : D) : Prop := Rep K H O v d ∨ ∃ a xs l, v = .ref a ∧ d = .lst l ∧ O a ∧ H a = some (.lst xs) ∧ Reps K H O xs l
theorem WRep.mono (k : Same H H') {v : V} {d : D} (h : WRep K H O v d) : WRep K H' O v d := by
 rcases h with h | ⟨a, xs, l, e1, e2, ho, h, r⟩
 · exact .inl (h.mono k)
 · exact .inr ⟨a, xs, l, e1, e2, ho, k _ _ h, r.mono k⟩
theorem WRep.any {v : V} {d : D} (h : WRep K H O v d) : Rep K H none0 v d := by
 rcases h with h | ⟨a, xs, l, rfl, rfl, ho, h, r⟩
 · exact h.less (fun _ z => z.elim)
 · exact .lst (fun z => z.elim) (.inl h) (r.less fun _ z => z.elim)
theorem WRep.seqL {v : V} {l : List D} (h : WRep K H O v (.lst l)) : ∃ a xs, v = .ref a ∧ SqL K H a xs ∧ Reps K H O xs l := by
 rcases h with h | ⟨a, xs, l', rfl, e, ho, h, r⟩
 · cases h with
   | lst n h r => exact ⟨_, _, rfl, .inl h, r⟩
   | lstK h r => exact ⟨_, _, rfl, .inr h, r⟩
 · cases e; exact ⟨a, xs, rfl, .inl (.inl h), r⟩
theorem WRep.seqT {v : V} {l : List D} (h : WRep K H O v (.tup l)) : ∃ a xs, v = .ref a ∧ SqT K H a xs ∧ Reps K H O xs l := by
 rcases h with h | ⟨a, xs, l', rfl, e, ho, h, r⟩
 · cases h with
   | tup n h r => exact ⟨_, _, rfl, .inl h, r⟩
   | tupK h r => exact ⟨_, _, rfl, .inr h, r⟩
 · cases e
theorem WRep.int' {v : V} {i : Int} (h : WRep K H O v (.int i)) : v = .int i := by
 rcases h with h | ⟨a, xs, l', rfl, e, _⟩
 · cases h; rfl
 · cases e
theorem WRep.str' {v : V} {i : Str} (h : WRep K H O v (.str i)) : v = .str i := by
 rcases h with h | ⟨a, xs, l', rfl, e, _⟩
 · cases h; rfl
 · cases e
end
mutual
inductive RepO (K : Frag) (H : Hp) (O : Addr → Prop) : V → OT → List Addr → Prop
 | val {v : V} {d : D} (r : Rep K H O v d) : RepO K H O v (.val d) []
 | lst {a : Addr} {xs : List V} {ts : List OT} {fs : List Addr} (n : O a) (h : H a = some (.lst xs)) (r : RepsO K H O xs ts fs) : RepO K H O (.ref a) (.lst ts) (a :: fs)
 | tup {a : Addr} {xs : List V} {ts : List OT} {fs : List Addr} (n : ¬ O a) (h : Rd H a (.tup xs)) (r : RepsO K H O xs ts fs) : RepO K H O (.ref a) (.tup ts) fs
 | dct {a : Addr} {kvs : List (Key × V)} {ks : List Key} {ts : List OT} {fs : List Addr} (n : O a) (h : H a = some (.dK kvs)) (e : kvs.map (·.1) = ks) (r : RepsO K H O (kvs.map (·.2)) ts fs) : RepO K H O (.ref a) (.dct ks ts) (a :: fs)
 | ins {a C dx : Addr} {t : Nat} {kvs : List (Str × V)} {ts : List OT} {fs : List Addr} (c : PySem.W.nsIn K mainGlobals (clsName t) = some (some (.ref C))) (n : O a) (h : H a = some (.ins C dx kvs)) (e : kvs.map (·.1) = clsFlds t) (r : RepsO K H O (kvs.map (·.2)) ts fs) : RepO K H O (.ref a) (.ins t ts) (a :: fs)
inductive RepsO (K : Frag) (H : Hp) (O : Addr → Prop) : List V → List OT → List Addr → Prop
 | nil : RepsO K H O [] [] []
 | cons {x : V} {t : OT} {xs : List V} {ts : List OT} {fs gs : List Addr} (h : RepO K H O x t fs) (r : RepsO K H O xs ts gs) : RepsO K H O (x :: xs) (t :: ts) (fs ++ gs)
end
section
variable {K : Frag} {H H' : Hp} {O O' : Addr → Prop}
mutual
theorem RepO.keep (k : Keep O H H') : ∀ {v : V} {t : OT} {fs : List Addr}, RepO K H O v t fs → (∀ b ∈ fs, ∀ u, H b = some u → H' b = some u) → RepO K H' O v t fs
 | _, _, _, .val r, _ => .val (r.keep k)
 | _, _, _, .lst n h r, hb => .lst n (hb _ (.head _) _ h) (RepsO.keep k r fun b z => hb b (.tail _ z))
 | _, _, _, .tup n h r, hb => .tup n (k.rd n h) (RepsO.keep k r hb)
 | _, _, _, .dct n h e r, hb => .dct n (hb _ (.head _) _ h) e (RepsO.keep k r fun b z => hb b (.tail _ z))
 | _, _, _, .ins c n h e r, hb => .ins c n (hb _ (.head _) _ h) e (RepsO.keep k r fun b z => hb b (.tail _ z))
theorem RepsO.keep (k : Keep O H H') : ∀ {v : List V} {t : List OT} {fs : List Addr}, RepsO K H O v t fs → (∀ b ∈ fs, ∀ u, H b = some u → H' b = some u) → RepsO K H' O v t fs
 | _, _, _, .nil, _ => .nil
 | _, _, _, .cons h r, hb => .cons (RepO.keep k h fun b z => hb b (List.mem_append_left _ z)) (RepsO.keep k r fun b z => hb b (List.mem_append_right _ z))
end
theorem RepO.mono (k : Same H H') {v : V} {t : OT} {fs : List Addr} (h : RepO K H O v t fs) : RepO K H' O v t fs := h.keep (.of_same k) fun b _ u e => k b u e
theorem RepsO.mono (k : Same H H') {v : List V} {t : List OT} {fs : List Addr} (h : RepsO K H O v t fs) : RepsO K H' O v t fs := h.keep (.of_same k) fun b _ u e => k b u e
mutual
theorem RepO.less (k : ∀ a, O' a → O a) : ∀ {v : V} {t : OT} {fs : List Addr}, RepO K H O v t fs → (∀ b ∈ fs, O' b) → RepO K H O' v t fs
 | _, _, _, .val r, _ => .val (r.less k)
 | _, _, _, .lst n h r, hb => .lst (hb _ (.head _)) h (RepsO.less k r fun b z => hb b (.tail _ z))
 | _, _, _, .tup n h r, hb => .tup (fun z => n (k _ z)) h (RepsO.less k r hb)
 | _, _, _, .dct n h e r, hb => .dct (hb _ (.head _)) h e (RepsO.less k r fun b z => hb b (.tail _ z))
 | _, _, _, .ins c n h e r, hb => .ins c (hb _ (.head _)) h e (RepsO.less k r fun b z => hb b (.tail _ z))
theorem RepsO.less (k : ∀ a, O' a → O a) : ∀ {v : List V} {t : List OT} {fs : List Addr}, RepsO K H O v t fs → (∀ b ∈ fs, O' b) → RepsO K H O' v t fs
 | _, _, _, .nil, _ => .nil
 | _, _, _, .cons h r, hb => .cons (RepO.less k h fun b z => hb b (List.mem_append_left _ z)) (RepsO.less k r fun b z => hb b (List.mem_append_right _ z))
end
mutual
theorem RepO.more {p : Addr} (hp : H p = none) : ∀ {v : V} {t : OT} {fs : List Addr}, RepO K H O v t fs → RepO K H (ins1 p O) v t fs
 | _, _, _, .val r => .val (r.more hp)
 | _, _, _, .lst n h r => .lst (.inr n) h (RepsO.more hp r)
 | _, _, _, .tup n h r => .tup (fun z => z.elim (fun e => Rd.some h (e ▸ hp)) n) h (RepsO.more hp r)
 | _, _, _, .dct n h e r => .dct (.inr n) h e (RepsO.more hp r)
 | _, _, _, .ins c n h e r => .ins c (.inr n) h e (RepsO.more hp r)
theorem RepsO.more {p : Addr} (hp : H p = none) : ∀ {v : List V} {t : List OT} {fs : List Addr}, RepsO K H O v t fs → RepsO K H (ins1 p O) v t fs
 | _, _, _, .nil => .nil
 | _, _, _, .cons h r => .cons (RepO.more hp h) (RepsO.more hp r)
end
mutual
theorem RepO.owns : ∀ {v : V} {t : OT} {fs : List Addr}, RepO K H O v t fs → ∀ b ∈ fs, O b ∧ ∃ u : MutHO, H b = some u.1
 | _, _, _, .val r, b, z => nomatch z
 | _, _, _, .lst (xs := xs) n h r, b, z => by
   rcases List.mem_cons.mp z with rfl | z
   · exact ⟨n, ⟨.lst xs, rfl⟩, h⟩
   · exact RepsO.owns r b z
 | _, _, _, .tup n h r, b, z => RepsO.owns r b z
 | _, _, _, .dct (kvs := kvs) n h e r, b, z => by
   rcases List.mem_cons.mp z with rfl | z
   · exact ⟨n, ⟨.dK kvs, rfl⟩, h⟩
   · exact RepsO.owns r b z
 | _, _, _, .ins (C := C) (dx := dx) (kvs := kvs) c n h e r, b, z => by
   rcases List.mem_cons.mp z with rfl | z
   · exact ⟨n, ⟨.ins C dx kvs, rfl⟩, h⟩
   · exact RepsO.owns r b z
theorem RepsO.owns : ∀ {v : List V} {t : List OT} {fs : List Addr}, RepsO K H O v t fs → ∀ b ∈ fs, O b ∧ ∃ u : MutHO, H b = some u.1
 | _, _, _, .nil, b, z => nomatch z
 | _, _, _, .cons h r, b, z => (List.mem_append.mp z).elim (RepO.owns h b) (RepsO.owns r b)
end
mutual
theorem RepO.any : ∀ {v : V} {t : OT} {fs : List Addr}, RepO K H O v t fs → Rep K H none0 v (otD t)
 | _, _, _, .val r => r.less fun _ z => z.elim
 | _, _, _, .lst n h r => by unfold otD; exact .lst (fun z => z) (.inl h) (RepsO.any r)
 | _, _, _, .tup n h r => by unfold otD; exact .tup (fun z => z) h (RepsO.any r)
 | _, _, _, .dct n h e r => by unfold otD; exact .dct (fun z => z) h e (RepsO.any r)
 | _, _, _, .ins c n h e r => by unfold otD; exact .ins c (fun z => z) h e (RepsO.any r)
theorem RepsO.any : ∀ {v : List V} {t : List OT} {fs : List Addr}, RepsO K H O v t fs → Reps K H none0 v (otDs t)
 | _, _, _, .nil => by unfold otDs; exact .nil
 | _, _, _, .cons h r => by unfold otDs; exact .cons (RepO.any h) (RepsO.any r)
end
end
noncomputable def SlOk (K : Frag) (H₀ H : Hp) (O : Addr → Prop) : Option V → Sl → Prop
 | _, .no => True
 | some x, .v d => Rep K H O x d
 | some (.ref a), .own l => O a ∧ ∃ xs, H a = some (.lst xs) ∧ Reps K H O xs l
 | some (.ref a), .fr l => ¬ O a ∧ H₀ a = none ∧ ∃ xs, H a = some (.lst xs) ∧ Reps K H O xs l
 | _, .ob _ _ => True
 | some (.ref a), .exc t => ∃ C o u, PySem.W.nsIn K mainGlobals (xName t) = some (some (.ref C)) ∧ H a = some (.frz o u) ∧ o.cls = .ref C
 | _, _ => False
noncomputable def IsOwn (ds : List Sl) (i : Nat) : Prop := ∃ l, ds[i]? = some (.own l)
inductive HI where
 | rep (v : V) (d : D) | base (B : Addr → Prop) | root (k a : Nat) | fz (a : Addr) (o : Obj) (kvs : List (Key × V)) (l : List D)
abbrev Hold := List HI
noncomputable def HOk (K : Frag) (H₀ H : Hp) (O : Addr → Prop) : HI → Prop
 | .rep v d => Rep K H O v d
 | .base B => ∀ a, B a → O a ∧ H₀ a ≠ none
 | .root _ _ => True
 | .fz a o kvs l => ¬ O a ∧ H a = some (.frz o (.dK kvs)) ∧ Reps K H O (kvs.map (·.2)) l
noncomputable def Obs (K : Frag) (H₀ H : Hp) (O : Addr → Prop) (σ : L2.St) (ds : List Sl) (hd : Hold) : Prop := ∃ F : Nat → List Addr, ∀ (i : Nat) (r : Option Nat) (t : OT), ds[i]? = some (.ob r t) → ∃ v, σ[i]? = some (some v) ∧ RepO K H O v t (F i) ∧ (∀ k a, r = some k → HI.root k a ∈ hd → v = .ref a) ∧ (F i).Nodup ∧
 ∀ b ∈ F i, H₀ b = none ∧ (∀ j r' t', j ≠ i → ds[j]? = some (.ob r' t') → b ∉ F j) ∧ ∀ j, IsOwn ds j → σ[j]? ≠ some (some (.ref b))
structure Ok (K : Frag) (H₀ H : Hp) (O : Addr → Prop) (σ : L2.St) (ds : List Sl) (hd : Hold) : Prop where
 same : Same H₀ H
 fresh : ∀ (i : Nat) (l : List D) (a : Addr), ds[i]? = some (.own l) → σ[i]? = some (some (.ref a)) → H₀ a = none
 dom : ∀ a, O a → ∃ u : MutHO, H a = some u.1
 len : σ.length = ds.length
 sl : ∀ (i : Nat) (s : Sl), ds[i]? = some s → SlOk K H₀ H O (σ[i]?.join) s
 apart : ∀ (i j : Nat) (a : Addr), i ≠ j → IsOwn ds i → IsOwn ds j → σ[i]? = some (some (.ref a)) → σ[j]? = some (some (.ref a)) → False
 hold : ∀ p ∈ hd, HOk K H₀ H O p
 obs : Obs K H₀ H O σ ds hd
section
variable {K : Frag} {H₀ H H' : Hp} {O O' : Addr → Prop} {σ : L2.St} {ds : List Sl} {hd : Hold}
theorem HOk.mono (k : Same H H') : ∀ {p : HI}, HOk K H₀ H O p → HOk K H₀ H' O p
 | .rep _ _, h => Rep.mono k h
 | .base _, h => h
 | .root _ _, h => h
 | .fz _ _ _ _, h => ⟨h.1, k _ _ h.2.1, Reps.mono k h.2.2⟩
theorem HOk.keep (k : Keep O H H') : ∀ {p : HI}, HOk K H₀ H O p → HOk K H₀ H' O p
 | .rep _ _, h => Rep.keep k h
 | .base _, h => h
 | .root _ _, h => h
 | .fz _ _ _ _, h => ⟨h.1, k _ _ h.1 h.2.1, Reps.keep k h.2.2⟩
theorem Obs.tr {σ' : L2.St} {ds' : List Sl} (h : Obs K H₀ H O σ ds hd) (tr : ∀ v t fs, RepO K H O v t fs → (∀ b ∈ fs, H₀ b = none ∧ ∀ j, IsOwn ds j → σ[j]? ≠ some (some (.ref b))) → RepO K H' O' v t fs)
  (hob : ∀ (i : Nat) (r : Option Nat) (t : OT), ds'[i]? = some (.ob r t) → ds[i]? = some (.ob r t) ∧ σ'[i]? = σ[i]?)
  (hown : ∀ (j : Nat) (b : Addr), IsOwn ds' j → σ'[j]? = some (some (.ref b)) → (IsOwn ds j ∧ σ[j]? = some (some (.ref b))) ∨ H b = none) : Obs K H₀ H' O' σ' ds' hd := by
 obtain ⟨F, hF⟩ := h
 refine ⟨F, fun i r t e => ?_⟩
 obtain ⟨e1, e2⟩ := hob i r t e
 obtain ⟨v, h1, h2, h3, h4, h5⟩ := hF i r t e1
 refine ⟨v, e2.trans h1, tr v t _ h2 fun b hb => ⟨(h5 b hb).1, (h5 b hb).2.2⟩, h3, h4, fun b hb => ⟨(h5 b hb).1, fun j r' t' hj ej => (h5 b hb).2.1 j r' t' hj (hob j r' t' ej).1, fun j oj ej => ?_⟩⟩
 rcases hown j b oj ej with ⟨o1, o2⟩ | hn
 · exact (h5 b hb).2.2 j o1 o2
 · obtain ⟨_, xs, z⟩ := h2.owns b hb
   rw [hn] at z; cases z
theorem Obs.no (h : ∀ (i : Nat) (r : Option Nat) (t : OT), ds[i]? ≠ some (.ob r t)) : Obs K H₀ H O σ ds hd := ⟨fun _ => [], fun i r t e => (h i r t e).elim⟩
theorem Obs.mono (k : Same H H') (h : Obs K H₀ H O σ ds hd) : Obs K H₀ H' O σ ds hd := h.tr (fun _ _ _ r _ => r.mono k) (fun _ _ _ e => ⟨e, rfl⟩) fun _ _ o e => .inl ⟨o, e⟩
theorem ob_set {i : Nat} {s : Sl} (hs : ∀ r t, s ≠ .ob r t) {j : Nat} {r : Option Nat} {t : OT} (e : (ds.set i s)[j]? = some (.ob r t)) : ds[j]? = some (.ob r t) ∧ j ≠ i := by
 by_cases hj : j = i
 · subst hj
   by_cases hl : j < ds.length
   · rw [List.getElem?_set_self hl] at e
     cases e
     exact (hs r t rfl).elim
   · rw [List.getElem?_eq_none (by simpa using hl)] at e; cases e
 · rw [List.getElem?_set_ne (Ne.symm hj)] at e
   exact ⟨e, hj⟩
theorem own_set {i : Nat} {s : Sl} (hs : ∀ l, s ≠ .own l) {j : Nat} (e : IsOwn (ds.set i s) j) : IsOwn ds j ∧ j ≠ i := by
 obtain ⟨l, e⟩ := e
 by_cases hj : j = i
 · subst hj
   by_cases hl : j < ds.length
   · rw [List.getElem?_set_self hl] at e
     cases e
     exact (hs l rfl).elim
   · rw [List.getElem?_eq_none (by simpa using hl)] at e; cases e
 · rw [List.getElem?_set_ne (Ne.symm hj)] at e
   exact ⟨⟨l, e⟩, hj⟩
theorem SlOk.mono (k : Same H H') : ∀ {x : Option V} {s : Sl}, SlOk K H₀ H O x s → SlOk K H₀ H' O x s
 | none, .no, _ => trivial
 | some (.ref _), .no, _ => trivial
 | some _, .no, _ => by simp [SlOk]
 | x, .ob _ _, _ => by cases x with
   | none => trivial
   | some x => cases x <;> trivial
 | some x, .v d, h => by
   have h : Rep K H O x d := by cases x <;> exact h
   show SlOk K H₀ H' O (some x) (.v d)
   have := h.mono k
   cases x <;> exact this
 | some (.ref a), .own l, ⟨ho, xs, h, r⟩ => ⟨ho, xs, k _ _ h, r.mono k⟩
 | some (.ref a), .fr l, ⟨ho, h0, xs, h, r⟩ => ⟨ho, h0, xs, k _ _ h, r.mono k⟩
 | some (.ref a), .exc t, ⟨C, o, u, h1, h2, h3⟩ => ⟨C, o, u, h1, k _ _ h2, h3⟩
theorem Ok.old (o : Ok K H₀ H O σ ds hd) {a : Addr} (h : O a) : Old H a := let ⟨xs, e⟩ := o.dom a h; ⟨_, e, xs.2⟩
theorem Ok.mono (k : Same H H') (o : Ok K H₀ H O σ ds hd) : Ok K H₀ H' O σ ds hd :=
 ⟨o.same.trans k, o.fresh, fun a h => let ⟨xs, e⟩ := o.dom a h; ⟨xs, k _ _ e⟩, o.len, fun i s e => (o.sl i s e).mono k, o.apart, fun p hp => (o.hold p hp).mono k, o.obs.mono k⟩
theorem Ok.free {p : Addr} (o : Ok K H₀ H O σ ds hd) (h : H p = none) : ¬ O p := fun z => by
 obtain ⟨xs, e⟩ := o.dom p z
 rw [h] at e; cases e
theorem Ok.read {i : Nat} {d : D} (o : Ok K H₀ H O σ ds hd) (e : ds[i]? = some (.v d)) : ∃ v, σ[i]? = some (some v) ∧ Rep K H O v d := by
 have h := o.sl i _ e
 cases q : σ[i]? with
 | none => rw [q] at h; exact h.elim
 | some x =>
   rw [q] at h
   cases x with
   | none => exact h.elim
   | some x => exact ⟨x, rfl, by cases x <;> exact h⟩
theorem Ok.readO {i : Nat} {l : List D} (o : Ok K H₀ H O σ ds hd) (e : ds[i]? = some (.own l)) : ∃ a xs, σ[i]? = some (some (.ref a)) ∧ O a ∧ H a = some (.lst xs) ∧ Reps K H O xs l := by
 have h := o.sl i _ e
 cases q : σ[i]? with
 | none => rw [q] at h; exact h.elim
 | some x =>
   rw [q] at h
   cases x with
   | none => exact h.elim
   | some x =>
     cases x with
     | ref a => obtain ⟨ho, xs, h1, h2⟩ := h; exact ⟨a, xs, rfl, ho, h1, h2⟩
     | _ => exact h.elim
theorem Ok.readX {i t : Nat} (o : Ok K H₀ H O σ ds hd) (e : ds[i]? = some (.exc t)) : ∃ a C ob u, σ[i]? = some (some (.ref a)) ∧ PySem.W.nsIn K mainGlobals (xName t) = some (some (.ref C)) ∧ H a = some (.frz ob u) ∧ ob.cls = .ref C := by
 have h := o.sl i _ e
 cases q : σ[i]? with
 | none => rw [q] at h; exact h.elim
 | some x =>
   rw [q] at h
   cases x with
   | none => exact h.elim
   | some x =>
     cases x with
     | ref a => obtain ⟨C, ob, u, h1, h2, h3⟩ := h; exact ⟨a, C, ob, u, rfl, h1, h2, h3⟩
     | _ => exact h.elim
theorem Ok.readF {i : Nat} {l : List D} (o : Ok K H₀ H O σ ds hd) (e : ds[i]? = some (.fr l)) : ∃ a xs, σ[i]? = some (some (.ref a)) ∧ ¬ O a ∧ H₀ a = none ∧ H a = some (.lst xs) ∧ Reps K H O xs l := by
 have h := o.sl i _ e
 cases q : σ[i]? with
 | none => rw [q] at h; exact h.elim
 | some x =>
   rw [q] at h
   cases x with
   | none => exact h.elim
   | some x =>
     cases x with
     | ref a => obtain ⟨ho, h0, xs, h1, h2⟩ := h; exact ⟨a, xs, rfl, ho, h0, h1, h2⟩
     | _ => exact h.elim
theorem slOk_no {x : Option V} : SlOk K H₀ H O x .no := by
 cases x with
 | none => trivial
 | some x => cases x <;> trivial
theorem slOk_ob {x : Option V} {r : Option Nat} {t : OT} : SlOk K H₀ H O x (.ob r t) := by
 cases x with
 | none => trivial
 | some x => cases x <;> trivial
theorem slOk_v {x : V} {d : D} (h : Rep K H O x d) : SlOk K H₀ H O (some x) (.v d) := by
 cases x <;> exact h
theorem Ok.set {i : Nat} {v : V} {d : D} (o : Ok K H₀ H O σ ds hd) (r : Rep K H O v d) : Ok K H₀ H O (σ.set i (some v)) (ds.set i (.v d)) hd := by
 have own' : ∀ {j : Nat}, IsOwn (ds.set i (.v d)) j → j ≠ i ∧ IsOwn ds j := fun {j} ⟨l, e⟩ => by
  by_cases hj : j = i
  · subst hj
    by_cases hl : j < ds.length
    · rw [List.getElem?_set_self hl] at e; cases e
    · rw [List.getElem?_eq_none (by simpa using hl)] at e; cases e
  · rw [List.getElem?_set_ne (Ne.symm hj)] at e
    exact ⟨hj, l, e⟩
 refine ⟨o.same, fun j l a e1 e2 => ?_, o.dom, by simpa using o.len, fun j s e => ?_, fun j k a hjk hj hk e1 e2 => ?_, o.hold, o.obs.tr (fun _ _ _ r _ => r) (fun j r t e => by
  obtain ⟨e1, hj⟩ := ob_set (fun r t => by intro z; cases z) e
  exact ⟨e1, by rw [List.getElem?_set_ne (Ne.symm hj)]⟩) (fun j b oj ej => by
  obtain ⟨o1, hj⟩ := own_set (fun l => by intro z; cases z) oj
  rw [List.getElem?_set_ne (Ne.symm hj)] at ej
  exact .inl ⟨o1, ej⟩)⟩
 · obtain ⟨n1, h1⟩ := own' ⟨l, e1⟩
   rw [List.getElem?_set_ne (Ne.symm n1)] at e1 e2
   exact o.fresh j l a e1 e2
 · by_cases hj : j = i
   · subst hj
     by_cases hl : j < ds.length
     · rw [List.getElem?_set_self hl] at e
       cases e
       rw [List.getElem?_set_self (by rw [o.len]; exact hl)]
       exact slOk_v r
     · rw [List.getElem?_eq_none (by simpa using hl)] at e; cases e
   · rw [List.getElem?_set_ne (Ne.symm hj)] at e
     rw [List.getElem?_set_ne (Ne.symm hj)]
     exact o.sl j s e
 · obtain ⟨n1, h1⟩ := own' hj
   obtain ⟨n2, h2⟩ := own' hk
   rw [List.getElem?_set_ne (Ne.symm n1)] at e1
   rw [List.getElem?_set_ne (Ne.symm n2)] at e2
   exact o.apart j k a hjk h1 h2 e1 e2
theorem Ok.setO {i : Nat} {a : Addr} {xs : List V} {l : List D} (o : Ok K H₀ H O σ ds hd) (k : Same H H') (hn : H a = none) (e : H' a = some (.lst xs)) (r : Reps K H' (ins1 a O) xs l) :
  Ok K H₀ H' (ins1 a O) (σ.set i (some (.ref a))) (ds.set i (.own l)) hd := by
 have up : ∀ {v : V} {d : D}, Rep K H O v d → Rep K H' (ins1 a O) v d := fun h => (h.more hn).mono k
 have ups : ∀ {v : List V} {d : List D}, Reps K H O v d → Reps K H' (ins1 a O) v d := fun h => (h.more hn).mono k
 have other : ∀ j : Nat, IsOwn ds j → σ[j]? = some (some (.ref a)) → False := fun j ⟨l', e'⟩ q => by
  obtain ⟨b, ys, h1, h2, h3, _⟩ := o.readO e'
  rw [q] at h1; cases h1
  rw [hn] at h3; cases h3
 have own' : ∀ {j : Nat}, j ≠ i → IsOwn (ds.set i (.own l)) j → IsOwn ds j := fun {j} hj ⟨l', e'⟩ => ⟨l', by rwa [List.getElem?_set_ne (Ne.symm hj)] at e'⟩
 refine ⟨o.same.trans k, fun j l' b e1 e2 => ?_, fun b hb => ?_, by simpa using o.len, fun j s es => ?_, fun j m b hjm hj hm e1 e2 => ?_, fun p hp => ?_, o.obs.tr (fun _ _ _ r _ => (r.more hn).mono k) (fun j r t e => by
  obtain ⟨e1, hj⟩ := ob_set (fun r t => by intro z; cases z) e
  exact ⟨e1, by rw [List.getElem?_set_ne (Ne.symm hj)]⟩) (fun j b oj ej => by
  by_cases hj : j = i
  · subst hj
    by_cases hl : j < σ.length
    · rw [List.getElem?_set_self hl] at ej; cases ej; exact .inr hn
    · rw [List.getElem?_eq_none (by simpa using hl)] at ej; cases ej
  · rw [List.getElem?_set_ne (Ne.symm hj)] at ej
    obtain ⟨l', e'⟩ := oj
    rw [List.getElem?_set_ne (Ne.symm hj)] at e'
    exact .inl ⟨⟨l', e'⟩, ej⟩)⟩
 rotate_left 4
 · have := o.hold p hp
   cases p with
   | rep v d => exact up this
   | base B => exact fun b hb => ⟨.inr (this b hb).1, (this b hb).2⟩
   | root k a => exact True.intro
   | fz a' o' kvs' l' => exact ⟨fun z => z.elim (fun z => by have := this.2.1; rw [z, hn] at this; cases this) this.1, k _ _ this.2.1, (Reps.more hn this.2.2).mono k⟩
 · by_cases hj : j = i
   · subst hj
     by_cases hl : j < σ.length
     · rw [List.getElem?_set_self hl] at e2
       cases e2
       exact o.same.free hn
     · rw [List.getElem?_eq_none (by simpa using hl)] at e2; cases e2
   · rw [List.getElem?_set_ne (Ne.symm hj)] at e1 e2
     exact o.fresh j l' b e1 e2
 · rcases hb with rfl | hb
   · exact ⟨⟨.lst xs, rfl⟩, e⟩
   · obtain ⟨ys, q⟩ := o.dom b hb
     exact ⟨ys, k _ _ q⟩
 · by_cases hj : j = i
   · subst hj
     by_cases hl : j < ds.length
     · rw [List.getElem?_set_self hl] at es
       cases es
       rw [List.getElem?_set_self (by rw [o.len]; exact hl)]
       exact ⟨.inl rfl, xs, e, r⟩
     · rw [List.getElem?_eq_none (by simpa using hl)] at es; cases es
   · rw [List.getElem?_set_ne (Ne.symm hj)] at es
     rw [List.getElem?_set_ne (Ne.symm hj)]
     cases s with
     | no => exact slOk_no
     | ob r t => exact slOk_ob
     | exc t =>
       obtain ⟨a', C', ob', u', q1, q2, q3, q4⟩ := o.readX es
       rw [q1]
       exact ⟨C', ob', u', q2, k _ _ q3, q4⟩
     | fr l' =>
       obtain ⟨a', xs', q1, q2, q0, q3, q4⟩ := o.readF es
       rw [q1]
       exact ⟨fun z => z.elim (fun e' => by rw [e', hn] at q3; cases q3) q2, q0, xs', k _ _ q3, ups q4⟩
     | v d =>
       obtain ⟨v, h1, h2⟩ := o.read es
       rw [h1]
       exact slOk_v (up h2)
     | own l' =>
       obtain ⟨b, ys, h1, h2, h3, h4⟩ := o.readO es
       rw [h1]
       exact ⟨.inr h2, ys, k _ _ h3, ups h4⟩
 · have hs : ∀ {q : Nat}, q = i → (σ.set i (some (V.ref a)))[q]? = some (some (.ref b)) → b = a := fun {q} hq eq => by
    subst hq
    by_cases hl : q < σ.length
    · rw [List.getElem?_set_self hl] at eq
      cases eq; rfl
    · rw [List.getElem?_eq_none (by simpa using hl)] at eq; cases eq
   by_cases h1 : j = i
   · have hb := hs h1 e1
     have h2 : m ≠ i := fun z => hjm (h1.trans z.symm)
     rw [List.getElem?_set_ne (Ne.symm h2), hb] at e2
     exact other m (own' h2 hm) e2
   · by_cases h2 : m = i
     · have hb := hs h2 e2
       rw [List.getElem?_set_ne (Ne.symm h1), hb] at e1
       exact other j (own' h1 hj) e1
     · rw [List.getElem?_set_ne (Ne.symm h1)] at e1
       rw [List.getElem?_set_ne (Ne.symm h2)] at e2
       exact o.apart j m b hjm (own' h1 hj) (own' h2 hm) e1 e2
theorem Ok.release {i : Nat} {l : List D} (o : Ok K H₀ H O σ ds hd) (e : ds[i]? = some (.own l)) : ∃ O', Ok K H₀ H O' σ (ds.set i (.v (.lst l))) hd := by
 obtain ⟨a, xs, h1, h2, h3, h4⟩ := o.readO e
 have hl : i < ds.length := (List.getElem?_eq_some_iff.mp e).1
 let O' : Addr → Prop := fun b => O b ∧ b ≠ a
 have sub : ∀ b, O' b → O b := fun b hb => hb.1
 have na : ¬ O' a := fun hb => hb.2 rfl
 have own0 : ∀ {j : Nat} {l' : List D}, (ds.set i (.v (.lst l)))[j]? = some (.own l') → ds[j]? = some (.own l') := fun {j l'} e' => by
  by_cases hj : j = i
  · subst hj
    rw [List.getElem?_set_self hl] at e'; cases e'
  · rwa [List.getElem?_set_ne (Ne.symm hj)] at e'
 refine ⟨O', o.same, fun j l' b e1 e2 => o.fresh j l' b (own0 e1) e2, fun b hb => o.dom b (sub b hb), by simpa using o.len, fun j s es => ?_, fun j m b hjm hj hm e1 e2 => ?_, fun p hp => ?_, o.obs.tr (fun _ _ _ r hb => r.less sub fun b z => ⟨(r.owns b z).1, fun q => (hb b z).2 i ⟨l, e⟩ (by rw [q]; exact h1)⟩) (fun j r t ej => by
  obtain ⟨e1, hj⟩ := ob_set (fun r t => by intro z; cases z) ej
  exact ⟨e1, rfl⟩) (fun j b oj ej => .inl ⟨(own_set (fun l => by intro z; cases z) oj).1, ej⟩)⟩
 rotate_left 2
 · have := o.hold p hp
   cases p with
   | rep v d => exact Rep.less sub this
   | base B => exact fun b hb => ⟨⟨(this b hb).1, fun z => (this b hb).2 (z ▸ o.fresh i l a e h1)⟩, (this b hb).2⟩
   | root k a => exact True.intro
   | fz a' o' kvs' l' => exact ⟨fun z => this.1 (sub _ z), this.2.1, Reps.less sub this.2.2⟩
 · by_cases hj : j = i
   · subst hj
     rw [List.getElem?_set_self hl] at es
     cases es
     rw [h1]
     exact slOk_v (.lst na (.inl h3) (h4.less sub))
   · rw [List.getElem?_set_ne (Ne.symm hj)] at es
     cases s with
     | no => exact slOk_no
     | ob r t => exact slOk_ob
     | exc t =>
       obtain ⟨a', C', ob', u', q1, q2, q3, q4⟩ := o.readX es
       rw [q1]
       exact ⟨C', ob', u', q2, q3, q4⟩
     | fr l' =>
       obtain ⟨a', xs', q1, q2, q0, q3, q4⟩ := o.readF es
       rw [q1]
       exact ⟨fun z => q2 (sub _ z), q0, xs', q3, q4.less sub⟩
     | v d =>
       obtain ⟨v, q1, q2⟩ := o.read es
       rw [q1]
       exact slOk_v (q2.less sub)
     | own l' =>
       obtain ⟨b, ys, q1, q2, q3, q4⟩ := o.readO es
       rw [q1]
       refine ⟨⟨q2, fun z => ?_⟩, ys, q3, q4.less sub⟩
       subst z
       exact o.apart j i b hj ⟨l', es⟩ ⟨l, e⟩ q1 h1
 · have own' : ∀ {j : Nat}, IsOwn (ds.set i (.v (.lst l))) j → IsOwn ds j := fun {j} ⟨l', e'⟩ => by
    by_cases hj : j = i
    · subst hj
      rw [List.getElem?_set_self hl] at e'; cases e'
    · rw [List.getElem?_set_ne (Ne.symm hj)] at e'; exact ⟨l', e'⟩
   exact o.apart j m b hjm (own' hj) (own' hm) e1 e2
theorem Ok.modify {i : Nat} {l l' : List D} {a : Addr} {xs' : List V} (o : Ok K H₀ H O σ ds hd) (e : ds[i]? = some (.own l)) (ea : σ[i]? = some (some (.ref a))) (r : Reps K H O xs' l') :
  Ok K H₀ (upd H a (.lst xs')) O σ (ds.set i (.own l')) hd := by
 obtain ⟨a', xs, h1, h2, h3, h4⟩ := o.readO e
 rw [ea] at h1; cases h1
 have hl : i < ds.length := (List.getElem?_eq_some_iff.mp e).1
 have k : Keep O H (upd H a (.lst xs')) := fun b u hb eb => by
  rw [upd_ne (fun (z : b = a) => hb (z.symm ▸ h2))]; exact eb
 refine ⟨fun b u eb => ?_, fun j l2 b e1 e2 => ?_, fun b hb => ?_, by simpa using o.len, fun j s es => ?_, fun j m b hjm hj hm e1 e2 => ?_, fun p hp => (o.hold p hp).keep k, o.obs.tr (fun _ _ _ r hb => r.keep k fun b z u eu => by rw [upd_ne (fun q => (hb b z).2 i ⟨l, e⟩ (by rw [q]; exact ea))]; exact eu) (fun j r t ej => by
  obtain ⟨e1, hj⟩ := ob_set (fun r t => by intro z; cases z) ej
  exact ⟨e1, rfl⟩) (fun j b oj ej => by
  by_cases hj : j = i
  · subst hj; exact .inl ⟨⟨l, e⟩, ej⟩
  · obtain ⟨l', e'⟩ := oj
    rw [List.getElem?_set_ne (Ne.symm hj)] at e'
    exact .inl ⟨⟨l', e'⟩, ej⟩)⟩
 rotate_left 1
 · by_cases hj : j = i
   · subst hj; exact o.fresh j l b e e2
   · rw [List.getElem?_set_ne (Ne.symm hj)] at e1; exact o.fresh j l2 b e1 e2
 rotate_right 1
 · rw [upd_ne (fun z => by rw [z, o.fresh i l a e ea] at eb; cases eb)]
   exact o.same b u eb
 · by_cases hba : b = a
   · subst hba; exact ⟨⟨.lst xs', rfl⟩, upd_same⟩
   · rw [upd_ne hba]; exact o.dom b hb
 · by_cases hj : j = i
   · subst hj
     rw [List.getElem?_set_self hl] at es
     cases es
     rw [ea]
     exact ⟨h2, xs', upd_same, r.keep k⟩
   · rw [List.getElem?_set_ne (Ne.symm hj)] at es
     cases s with
     | no => exact slOk_no
     | ob r t => exact slOk_ob
     | exc t =>
       obtain ⟨a', C', ob', u', q1, q2, q3, q4⟩ := o.readX es
       rw [q1]
       exact ⟨C', ob', u', q2, by rw [upd_ne (fun z => by rw [z, h3] at q3; cases q3)]; exact q3, q4⟩
     | fr l' =>
       obtain ⟨a', xs'', q1, q2, q0, q3, q4⟩ := o.readF es
       rw [q1]
       exact ⟨q2, q0, xs'', by rw [upd_ne (fun z => q2 (by rw [z]; exact h2))]; exact q3, q4.keep k⟩
     | v d =>
       obtain ⟨v, q1, q2⟩ := o.read es
       rw [q1]
       exact slOk_v (q2.keep k)
     | own l'' =>
       obtain ⟨b, ys, q1, q2, q3, q4⟩ := o.readO es
       rw [q1]
       refine ⟨q2, ys, ?_, q4.keep k⟩
       rw [upd_ne (fun z => ?_)]
       · exact q3
       · subst z
         exact o.apart j i b hj ⟨_, es⟩ ⟨l, e⟩ q1 ea
 · have own' : ∀ {j : Nat}, IsOwn (ds.set i (.own l')) j → IsOwn ds j := fun {j} ⟨l'', e'⟩ => by
    by_cases hj : j = i
    · subst hj; exact ⟨l, e⟩
    · rw [List.getElem?_set_ne (Ne.symm hj)] at e'; exact ⟨l'', e'⟩
   exact o.apart j m b hjm (own' hj) (own' hm) e1 e2
theorem Ok.holdMore {p : HI} (o : Ok K H₀ H O σ ds hd) (r : HOk K H₀ H O p) (hp : ∀ k a, HI.root k a ≠ p := by intro _ _ z; cases z) : Ok K H₀ H O σ ds (p :: hd) :=
 ⟨o.same, o.fresh, o.dom, o.len, o.sl, o.apart, fun q hq => (List.mem_cons.mp hq).elim (fun e => e ▸ r) (o.hold q), let ⟨F, hF⟩ := o.obs; ⟨F, fun i r t e => let ⟨v, h1, h2, h3, h4⟩ := hF i r t e; ⟨v, h1, h2, fun k a z y => (List.mem_cons.mp y).elim (fun y => (hp k a y).elim) (h3 k a z), h4⟩⟩⟩
theorem Ok.holdLess {p : HI} (o : Ok K H₀ H O σ ds (p :: hd)) : Ok K H₀ H O σ ds hd :=
 ⟨o.same, o.fresh, o.dom, o.len, o.sl, o.apart, fun q hq => o.hold q (List.mem_cons_of_mem _ hq), let ⟨F, hF⟩ := o.obs; ⟨F, fun i r t e => let ⟨v, h1, h2, h3, h4⟩ := hF i r t e; ⟨v, h1, h2, fun k a z y => h3 k a z (List.mem_cons_of_mem _ y), h4⟩⟩⟩
end
section
variable (X : Cx)
noncomputable def PV (e : Expr) (f : FE) : Prop := ∃ t, PE X e t ∧ ∀ H₀ H O σ ds hd d Q, Ok X.K H₀ H O σ ds hd → f ds = some d → (∀ v H', Same H H' → Rep X.K H' O v d → Q v H') → t σ H Q
noncomputable def PVw (e : Expr) (f : FE) : Prop := ∃ t, PE X e t ∧ ∀ H₀ H O σ ds hd d Q, Ok X.K H₀ H O σ ds hd → f ds = some d → (∀ v H', Same H H' → WRep X.K H' O v d → Q v H') → t σ H Q
noncomputable def PVf (e : Expr) (f : FA) : Prop := ∃ t, PE X e t ∧ ∀ H₀ H O σ ds hd l Q, Ok X.K H₀ H O σ ds hd → f ds = some l →
 (∀ a xs H', Same H H' → H a = none → H' a = some (.lst xs) → Reps X.K H' (ins1 a O) xs l → Q (.ref a) H') → t σ H Q
noncomputable def PTv (e : Expr) (c : FT) : Prop := ∃ t, PT X e t ∧ ∀ H₀ H O σ ds hd b Q, Ok X.K H₀ H O σ ds hd → c ds = some b → (∀ H', Same H H' → Q b H') → t σ H Q
noncomputable def PWv (e : Expr) (c : FT) : Prop := ∃ t, PW X e t ∧ ∀ H₀ H O σ ds hd b Q, Ok X.K H₀ H O σ ds hd → c ds = some b → (∀ H', Same H H' → Q b H') → t σ H Q
noncomputable def PAv (es : List Expr) (f : FA) : Prop := ∃ t, PA X es t ∧ ∀ H₀ H O σ ds hd l Q, Ok X.K H₀ H O σ ds hd → f ds = some l → (∀ vs H', Same H H' → Paired (WRep X.K H' O) vs l → Q vs H') → t σ H Q
noncomputable def PAs (es : List Expr) (f : FA) : Prop := ∃ t, PA X es t ∧ ∀ H₀ H O σ ds hd l Q, Ok X.K H₀ H O σ ds hd → f ds = some l → (∀ vs H', Same H H' → Reps X.K H' O vs l → Q vs H') → t σ H Q
end
section
variable {X : Cx}
theorem PV.w {e : Expr} {f : FE} (h : PV X e f) : PVw X e f := by
 obtain ⟨t, ht, hf⟩ := h
 exact ⟨t, ht, fun H₀ H O σ ds hd d Q o e q => hf H₀ H O σ ds hd d Q o e fun v H' s r => q v H' s (.inl r)⟩
theorem PVf.s {e : Expr} {f : FA} (h : PVf X e f) : PV X e (mkL f) := by
 obtain ⟨t, ht, hf⟩ := h
 refine ⟨t, ht, fun H₀ H O σ ds hd d Q o e q => ?_⟩
 unfold mkL at e
 obtain ⟨l, hl, rfl⟩ := mpd e
 rw [hl] at e; cases e
 refine hf H₀ H O σ ds hd l Q o hl fun a xs H' s hn he r => q _ _ s ?_
 exact .lst (o.free hn) (.inl he) (r.less fun _ z => .inr z)
theorem pv_var (i : Nat) {x : Str} {pos : Pos} (hN : X.N[i]? = some x := by rfl) (hv : Vis X.env.scope x := by first | exact Or.inl rfl | exact Or.inr (Or.inl rfl) | exact Or.inr (Or.inr rfl)) (hd : (x == ("__debug__" : Str)) = false := by decide)
  (hcd : (x == ("__classdict__" : Str)) = false := by decide) : PV X (.Name x pos) (getV i) := by
 refine ⟨_, pe_var hN hv hd hcd, fun H₀ H O σ ds hd d Q o e q => ?_⟩
 unfold getV at e
 cases hs : ds[i]? with
 | none => rw [hs] at e; cases e
 | some s =>
   rw [hs] at e
   cases s with
   | v d' =>
     cases e
     obtain ⟨v, h1, h2⟩ := o.read hs
     exact ⟨v, h1, q v H (Same.refl _) h2⟩
   | no => cases e
   | exc _ => cases e
   | fr _ => cases e
   | ob _ _ => cases e
   | own l => cases e
theorem pw_var (i : Nat) {x : Str} {pos : Pos} (hN : X.N[i]? = some x := by rfl) (hv : Vis X.env.scope x := by first | exact Or.inl rfl | exact Or.inr (Or.inl rfl) | exact Or.inr (Or.inr rfl)) (hd : (x == ("__debug__" : Str)) = false := by decide)
  (hcd : (x == ("__classdict__" : Str)) = false := by decide) : PVw X (.Name x pos) (getW i) := by
 refine ⟨_, pe_var hN hv hd hcd, fun H₀ H O σ ds hd d Q o e q => ?_⟩
 unfold getW at e
 cases hs : ds[i]? with
 | none => rw [hs] at e; cases e
 | some s =>
   rw [hs] at e
   cases s with
   | v d' =>
     cases e
     obtain ⟨v, h1, h2⟩ := o.read hs
     exact ⟨v, h1, q v H (Same.refl _) (.inl h2)⟩
   | no => cases e
   | exc _ => cases e
   | fr _ => cases e
   | ob _ _ => cases e
   | own l =>
     cases e
     obtain ⟨a, xs, h1, h2, h3, h4⟩ := o.readO hs
     exact ⟨.ref a, h1, q _ H (Same.refl _) (.inr ⟨a, xs, l, rfl, rfl, h2, h3, h4⟩)⟩
theorem pv_int {i : Int} {j pos} : PV X (.Constant (.int i) j pos) (konst (.int i)) := ⟨_, pe_int, fun _ H _ _ _ _ _ _ _ e q => by cases e; exact q _ H (Same.refl _) (.int i)⟩
theorem pv_bl {b : Bool} {j pos} : PV X (.Constant (.bool b) j pos) (konst (.bl b)) := ⟨_, pe_bl, fun _ H _ _ _ _ _ _ _ e q => by cases e; exact q _ H (Same.refl _) (.bl b)⟩
theorem pv_non {j pos} : PV X (.Constant .none j pos) (konst .non) := ⟨_, pe_non, fun _ H _ _ _ _ _ _ _ e q => by cases e; exact q _ H (Same.refl _) .non⟩
noncomputable def OpS (X : Cx) (r : R2) (op : D → D → Option D) : Prop := ∀ H O x y dx dy d Q, (∀ a, O a → ∃ u : MutHO, H a = some u.1) → WRep X.K H O x dx → WRep X.K H O y dy → op dx dy = some d → (∀ v H', Same H H' → Rep X.K H' O v d → Q v H') → r x y H Q
theorem pv_tOp {r : R2} {op : D → D → Option D} (hs : OpS X r op) {a b : Expr} {fa fb : FE} {ta tb : TE} (ha : ∀ H₀ H O σ ds hd d Q, Ok X.K H₀ H O σ ds hd → fa ds = some d → (∀ v H', Same H H' → WRep X.K H' O v d → Q v H') → ta σ H Q)
  (hb : ∀ H₀ H O σ ds hd d Q, Ok X.K H₀ H O σ ds hd → fb ds = some d → (∀ v H', Same H H' → WRep X.K H' O v d → Q v H') → tb σ H Q) :
  ∀ H₀ H O σ ds hd d Q, Ok X.K H₀ H O σ ds hd → bin2 op fa fb ds = some d → (∀ v H', Same H H' → Rep X.K H' O v d → Q v H') → tOp r ta tb σ H Q := by
 intro H₀ H O σ ds hd d Q o e q
 unfold bin2 at e
 obtain ⟨dx, h1, e⟩ := bnd e
 obtain ⟨dy, h2, e⟩ := bnd e
 refine ha H₀ H O σ ds hd dx _ o h1 fun x H1 s1 r1 => ?_
 refine hb H₀ H1 O σ ds hd dy _ (o.mono s1) h2 fun y H2 s2 r2 => ?_
 exact hs H2 O x y dx dy d Q ((o.mono s1).mono s2).dom (r1.mono s2) r2 e fun v H' s r => q v H' ((s1.trans s2).trans s) r
theorem pv_bin {op : Operator} {r : R2} {opD : D → D → Option D} {a b : Expr} {fa fb : FE} {pos : Pos} (ho : OpR X (binaryOp op) r) (hs : OpS X r opD) (ha : PVw X a fa) (hb : PVw X b fb) : PV X (.BinOp a op b pos) (bin2 opD fa fb) := by
 obtain ⟨ta, pa, ha⟩ := ha
 obtain ⟨tb, pb, hb⟩ := hb
 exact ⟨_, pe_op ho pa pb, pv_tOp hs (a := a) (b := b) ha hb⟩
theorem pv_cmp {op : CmpOp} {r : R2} {opD : D → D → Option D} {a b : Expr} {fa fb : FE} {pos : Pos} (ho : OpR X (compareOp op) r) (hs : OpS X r opD) (ha : PVw X a fa) (hb : PVw X b fb) (hm : behindInMarks op b = false) : PV X (.Compare a [op] [b] pos) (bin2 opD fa fb) := by
 obtain ⟨ta, pa, ha⟩ := ha
 obtain ⟨tb, pb, hb⟩ := hb
 exact ⟨_, pe_cmpR ho pa pb hm, pv_tOp hs (a := a) (b := b) ha hb⟩
theorem pt_cmpV {op : CmpOp} {r : R2} {opD : D → D → Option D} {a b : Expr} {fa fb : FE} {pos : Pos} (ho : OpR X (compareOp op) r) (hs : OpS X r opD) (ha : PVw X a fa) (hb : PVw X b fb) (hm : behindInMarks op b = false) : PTv X (.Compare a [op] [b] pos) (testB (bin2 opD fa fb)) := by
 obtain ⟨ta, pa, ha⟩ := ha
 obtain ⟨tb, pb, hb⟩ := hb
 refine ⟨_, pt_cmpR ho pa pb hm, fun H₀ H O σ ds hd k Q o e q => ?_⟩
 unfold testB at e
 obtain ⟨d, h, e⟩ := bnd e
 refine pv_tOp hs (a := a) (b := b) ha hb H₀ H O σ ds hd d _ o h fun v H' s r => ?_
 cases d with
 | bl c => cases e; cases r; exact ⟨_, rfl, q H' s⟩
 | _ => cases e
theorem os_add : OpS X (fun x y H Q => rI0 (fun i j => .int (i + j)) x y H Q ∨ ∃ i j, x = .str i ∧ y = .str j ∧ i.length + j.length ≤ sizeLine ∧ Q (.str (i ++ j)) H) addD := by
 intro H O x y dx dy d Q ho rx ry e q
 cases dx <;> cases dy <;> first | (simp [addD] at e; done) | skip
 · cases e
   rw [rx.int', ry.int']
   exact .inl ⟨_, _, rfl, rfl, q _ H (Same.refl _) (.int _)⟩
 · rename_i x y
   simp only [addD] at e
   split at e
   · rename_i hl
     cases e
     rw [rx.str', ry.str']
     exact .inr ⟨_, _, rfl, rfl, hl, q _ H (Same.refl _) (.str _)⟩
   · cases e
theorem op_addU : OpR X (binaryOp .Add) (fun x y H Q => rI0 (fun i j => .int (i + j)) x y H Q ∨ ∃ i j, x = .str i ∧ y = .str j ∧ i.length + j.length ≤ sizeLine ∧ Q (.str (i ++ j)) H) := op_add.or op_add_str
theorem os_sub : OpS X (rI0 fun i j => .int (i - j)) subD := by
 intro H O x y dx dy d Q ho rx ry e q
 cases dx <;> cases dy <;> first | (simp [subD] at e; done) | skip
 cases e
 rw [rx.int', ry.int']
 exact ⟨_, _, rfl, rfl, q _ H (Same.refl _) (.int _)⟩
noncomputable def CDivB (i j : Int) : Prop := divOk j
theorem op_fdivB : OpR X (binaryOp .FloorDiv) (rI CDivB fun i j => .int (i / j)) := opI fun i j _ _ _ _ _ hc q => by
 have e : i.fdiv j = i / j := Int.fdiv_eq_ediv_of_nonneg _ (Int.le_of_lt hc.1)
 refine floordiv_int (by have := hc.1; omega) ?_ (.inl (PyProof.noPylong_of_log2 hc.2))
 rw [e]; exact q
theorem os_fdiv : OpS X (rI CDivB fun i j => .int (i / j)) fdivD := by
 intro H O x y dx dy d Q ho rx ry e q
 cases dx <;> cases dy <;> first | (simp [fdivD] at e; done) | skip
 simp only [fdivD] at e
 split at e
 · rename_i hc
   cases e
   rw [rx.int', ry.int']
   exact ⟨_, _, rfl, rfl, hc, q _ H (Same.refl _) (.int _)⟩
 · cases e
theorem os_mod : OpS X (rI (fun _ j => 0 < j) fun i j => .int (i % j)) modD := by
 intro H O x y dx dy d Q ho rx ry e q
 cases dx <;> cases dy <;> first | (simp [modD] at e; done) | skip
 simp only [modD] at e
 split at e
 · rename_i hc
   cases e
   rw [rx.int', ry.int']
   exact ⟨_, _, rfl, rfl, hc, q _ H (Same.refl _) (.int _)⟩
 · cases e
theorem os_cmpI {p : Int → Int → Bool} : OpS X (rI0 fun i j => .bl (p i j)) (cmpI p) := by
 intro H O x y dx dy d Q ho rx ry e q
 cases dx <;> cases dy <;> first | (simp [cmpI] at e; done) | skip
 cases e
 rw [rx.int', ry.int']
 exact ⟨_, _, rfl, rfl, q _ H (Same.refl _) (.bl _)⟩
end
section
variable {X : Cx}
theorem PV.t {e : Expr} {f : FE} (h : PV X e f) (he : ∀ whole, isTrue e X.env whole = (do let v ← whole; standAt e.pos; holding [v] (truthy v)) := by intro _; rfl) : PTv X e (testB f) := by
 obtain ⟨t, ht, hf⟩ := h
 refine ⟨_, pt_val ht he, fun H₀ H O σ ds hd k Q o e q => ?_⟩
 unfold testB at e
 obtain ⟨d, h, e⟩ := bnd e
 refine hf H₀ H O σ ds hd d _ o h fun v H' s r => ?_
 cases d with
 | bl c => cases e; cases r; exact ⟨_, rfl, q H' s⟩
 | _ => cases e
theorem pwv_and1 {a : Expr} {pos : Pos} {c : FT} (ha : PTv X a c) : PWv X (.BoolOp .And [a] pos) c := by
 obtain ⟨t, ht, hf⟩ := ha
 exact ⟨_, pw_and1 ht, hf⟩
theorem pwv_or1 {a : Expr} {pos : Pos} {c : FT} (ha : PTv X a c) : PWv X (.BoolOp .Or [a] pos) c := by
 obtain ⟨t, ht, hf⟩ := ha
 exact ⟨_, pw_or1 ht, hf⟩
theorem pwv_and {a b : Expr} {rest : List Expr} {pos : Pos} {c d : FT} (ha : PTv X a c) (hb : PWv X (.BoolOp .And (b :: rest) pos) d) : PWv X (.BoolOp .And (a :: b :: rest) pos) (andT c d) := by
 obtain ⟨t, ht, hf⟩ := ha
 obtain ⟨u, hu, hg⟩ := hb
 refine ⟨_, pw_and ht hu, fun H₀ H O σ ds hd k Q o e q => ?_⟩
 unfold andT at e
 obtain ⟨b, h, e⟩ := bnd e
 refine hf H₀ H O σ ds hd b _ o h fun H' s => ?_
 cases b with
 | true => exact iteT (hg H₀ H' O σ ds hd k Q (o.mono s) (by simpa using e) fun H'' s' => q H'' (s.trans s'))
 | false =>
   have : false = k := by simpa using e
   subst this
   exact iteF (q H' s)
theorem pwv_or {a b : Expr} {rest : List Expr} {pos : Pos} {c d : FT} (ha : PTv X a c) (hb : PWv X (.BoolOp .Or (b :: rest) pos) d) : PWv X (.BoolOp .Or (a :: b :: rest) pos) (orT c d) := by
 obtain ⟨t, ht, hf⟩ := ha
 obtain ⟨u, hu, hg⟩ := hb
 refine ⟨_, pw_or ht hu, fun H₀ H O σ ds hd k Q o e q => ?_⟩
 unfold orT at e
 obtain ⟨b, h, e⟩ := bnd e
 refine hf H₀ H O σ ds hd b _ o h fun H' s => ?_
 cases b with
 | false => exact iteF (hg H₀ H' O σ ds hd k Q (o.mono s) (by simpa using e) fun H'' s' => q H'' (s.trans s'))
 | true =>
   have : true = k := by simpa using e
   subst this
   exact iteT (q H' s)
theorem PWv.t {e : Expr} {c : FT} (h : PWv X e c) : PTv X e c := by
 obtain ⟨t, ht, hf⟩ := h
 exact ⟨t, ht.pt, hf⟩
theorem ptv_not {a : Expr} {pos : Pos} {c : FT} (ha : PTv X a c) : PTv X (.UnaryOp .Not a pos) (notT c) := by
 obtain ⟨t, ht, hf⟩ := ha
 refine ⟨_, pt_not ht, fun H₀ H O σ ds hd k Q o e q => ?_⟩
 unfold notT at e
 obtain ⟨b, h, rfl⟩ := mpd e
 exact hf H₀ H O σ ds hd b _ o h fun H' s => q H' s
theorem pv_one {a : Expr} {op} {pos : Pos} {f : FE} (ha : PV X a f) : PV X (.BoolOp op [a] pos) f := by
 obtain ⟨t, ht, hf⟩ := ha
 exact ⟨_, pe_one ht, hf⟩
theorem pv_and {a b : Expr} {rest : List Expr} {pos : Pos} {f g : FE} (ha : PV X a f) (hb : PV X (.BoolOp .And (b :: rest) pos) g) : PV X (.BoolOp .And (a :: b :: rest) pos) (andV f g) := by
 obtain ⟨t, ht, hf⟩ := ha
 obtain ⟨u, hu, hg⟩ := hb
 refine ⟨_, pe_and ht hu, fun H₀ H O σ ds hd d Q o e q => ?_⟩
 unfold andV at e
 obtain ⟨dd, h, e⟩ := bnd e
 refine hf H₀ H O σ ds hd dd _ o h fun v H' s r => ?_
 cases dd with
 | bl c =>
   cases r
   cases c with
   | true => exact ⟨true, rfl, iteT (hg H₀ H' O σ ds hd d Q (o.mono s) e fun v H'' s' => q v H'' (s.trans s'))⟩
   | false =>
     have : D.bl false = d := Option.some.inj e
     subst this
     exact ⟨false, rfl, iteF (q _ H' s (.bl false))⟩
 | _ => cases e
theorem pv_not {a : Expr} {pos : Pos} {f : FE} (ha : PV X a f) : PV X (.UnaryOp .Not a pos) (notV f) := by
 obtain ⟨t, ht, hf⟩ := ha
 refine ⟨_, pe_not ht, fun H₀ H O σ ds hd d Q o e q => ?_⟩
 unfold notV at e
 obtain ⟨dd, h, e⟩ := bnd e
 refine hf H₀ H O σ ds hd dd _ o h fun v H' s r => ?_
 cases dd with
 | bl c => cases r; cases e; exact ⟨c, rfl, q _ H' s (.bl _)⟩
 | _ => cases e
theorem pav_nil : PAv X [] nilA := ⟨_, pa_nil, fun _ H _ _ _ _ _ _ _ e q => by cases e; exact q _ H (Same.refl _) .nil⟩
theorem pas_nil : PAs X [] nilA := ⟨_, pa_nil, fun _ H _ _ _ _ _ _ _ e q => by cases e; exact q _ H (Same.refl _) .nil⟩
theorem pav_cons {e : Expr} {es : List Expr} {f : FE} {g : FA} (ha : PVw X e f) (hr : PAv X es g) (hs : starEach (e :: es) X.env = (false, eval e X.env) :: starEach es X.env := by rfl) : PAv X (e :: es) (consA f g) := by
 obtain ⟨t, ht, hf⟩ := ha
 obtain ⟨u, hu, hg⟩ := hr
 refine ⟨_, pa_cons ht hu hs, fun H₀ H O σ ds hd l Q o e q => ?_⟩
 unfold consA at e
 obtain ⟨x, h, e⟩ := bnd e
 obtain ⟨r, h2, rfl⟩ := mpd e
 refine hf H₀ H O σ ds hd x _ o h fun v H1 s1 r1 => ?_
 refine hg H₀ H1 O σ ds hd r _ (o.mono s1) h2 fun vs H2 s2 r2 => ?_
 exact q _ H2 (s1.trans s2) (.cons (r1.mono s2) r2)
theorem pas_cons {e : Expr} {es : List Expr} {f : FE} {g : FA} (ha : PV X e f) (hr : PAs X es g) (hs : starEach (e :: es) X.env = (false, eval e X.env) :: starEach es X.env := by rfl) : PAs X (e :: es) (consA f g) := by
 obtain ⟨t, ht, hf⟩ := ha
 obtain ⟨u, hu, hg⟩ := hr
 refine ⟨_, pa_cons ht hu hs, fun H₀ H O σ ds hd l Q o e q => ?_⟩
 unfold consA at e
 obtain ⟨x, h, e⟩ := bnd e
 obtain ⟨r, h2, rfl⟩ := mpd e
 refine hf H₀ H O σ ds hd x _ o h fun v H1 s1 r1 => ?_
 refine hg H₀ H1 O σ ds hd r _ (o.mono s1) h2 fun vs H2 s2 r2 => ?_
 exact q _ H2 (s1.trans s2) (.cons (r1.mono s2) r2)
theorem same_upd {H : Hp} {p : Addr} (h : H p = none) (o : HO) : Same H (upd H p o) := fun b u q => by rw [upd_ne (ne_of_none q h)]; exact q
theorem pvf_lst {es : List Expr} {pos : Pos} {g : FA} (h : PAs X es g) : PVf X (.List es pos) (sized g) := by
 obtain ⟨t, ht, hf⟩ := h
 refine ⟨_, pe_lst ht, fun H₀ H O σ ds hd l Q o e q => ?_⟩
 unfold sized at e
 cases h : g ds with
 | none => rw [h] at e; cases e
 | some l' =>
   rw [h] at e
   simp only [Option.bind_some] at e
   split at e
   · rename_i hl
     cases e
     refine hf H₀ H O σ ds hd l _ o h fun vs H1 s1 r1 => ⟨by rw [r1.length]; exact hl, fun p hp => ?_⟩
     refine q p vs _ (s1.trans (same_upd hp _)) (s1.free hp) upd_same ?_
     exact (r1.more hp).mono (same_upd hp _)
   · cases e
theorem pv_tup {es : List Expr} {x1} {pos : Pos} {g : FA} (h : PAs X es g) : PV X (.Tuple es x1 pos) (mkT (sized g)) := by
 obtain ⟨t, ht, hf⟩ := h
 refine ⟨_, pe_tup ht, fun H₀ H O σ ds hd d Q o e q => ?_⟩
 unfold mkT sized at e
 cases h : g ds with
 | none => rw [h] at e; cases e
 | some l' =>
   rw [h] at e
   simp only [Option.bind_some] at e
   split at e
   · rename_i hl
     cases e
     refine hf H₀ H O σ ds hd l' _ o h fun vs H1 s1 r1 => ⟨by rw [r1.length]; exact hl, fun p hp => ?_⟩
     refine q _ _ (s1.trans (same_upd hp _)) ?_
     exact .tup ((o.mono s1).free hp) (.inl upd_same) (r1.mono (same_upd hp _))
   · cases e
theorem atI_rep {K : Frag} {H : Hp} {O : Addr → Prop} {xs : List V} {l : List D} {i : Int} {d : D} (r : Reps K H O xs l) (e : atI l i = some d) : ∃ v, atI xs i = some v ∧ Rep K H O v d := by
 unfold atI at e ⊢
 rw [r.length]
 cases h : ixN l.length i with
 | none => rw [h] at e; cases e
 | some j =>
   rw [h] at e
   exact r.get e
theorem ix_sem {K : Frag} {H : Hp} {O : Addr → Prop} {x y : V} {dx dy d : D} {Q : VK} (rx : WRep K H O x dx) (ry : WRep K H O y dy) (e : ixD dx dy = some d) (q : ∀ v H', Same H H' → Rep K H' O v d → Q v H') : rIx K x y H Q := by
 cases dx <;> cases dy <;> first | (simp [ixD] at e; done) | skip
 · simp only [ixD] at e
   split at e
   · rename_i hl
     rw [rx.str', ry.int']
     rename_i z i
     obtain ⟨c, hc, rfl⟩ := mpd e
     exact .inr (.inr ⟨_, _, c, rfl, rfl, hl, hc, q _ H (Same.refl _) (.str _)⟩)
   · cases e
 · obtain ⟨a, xs, rfl, hs, r⟩ := rx.seqT
   rw [ry.int']
   obtain ⟨v, h1, h2⟩ := atI_rep r e
   exact .inr (.inl ⟨a, xs, _, v, rfl, rfl, hs, h1, q _ H (Same.refl _) h2⟩)
 · obtain ⟨a, xs, rfl, hs, r⟩ := rx.seqL
   rw [ry.int']
   obtain ⟨v, h1, h2⟩ := atI_rep r e
   exact .inl ⟨a, xs, _, v, rfl, rfl, hs, h1, q _ H (Same.refl _) h2⟩
theorem os_ix : OpS X (rIx X.K) ixD := fun H O x y dx dy d Q ho rx ry e q => ix_sem rx ry e q
theorem pv_ix {a b : Expr} {fa fb : FE} {pos : Pos} (ha : PVw X a fa) (hb : PVw X b fb) (hs : PlainIx b := by exact fun _ _ => rfl) : PV X (.Subscript a b pos) (bin2 ixD fa fb) := by
 obtain ⟨ta, pa, ha⟩ := ha
 obtain ⟨tb, pb, hb⟩ := hb
 exact ⟨_, pe_ix ix_seq pa pb hs, pv_tOp os_ix (a := a) (b := b) ha hb⟩
end
noncomputable def RetOk (K : Frag) (H H' : Hp) (v : V) : Ret → Prop
 | .val d => Rep K H' (Old H) v d
 | .fresh l => ∃ a xs, v = .ref a ∧ H a = none ∧ H' a = some (.lst xs) ∧ Reps K H' (ins1 a (Old H)) xs l
 | .any d => Rep K H' none0 v d
 | .obj t => ∃ fs, RepO K H' (fun b => b ∈ fs ∨ Old H b) v t fs ∧ fs.Nodup ∧ ∀ b ∈ fs, H b = none
noncomputable def RetB (K : Frag) (H : Hp) (hd : Hold) (v : V) : Ret → Prop
 | .any d => ∀ B, HI.base B ∈ hd → Rep K H B v d
 | _ => True
noncomputable def spF (K : Frag) (n : Nat) (F : List D → Option Ret) : Sp := fun vs H Q _ => vs.length = n ∧ ∃ ds r, Reps K H none0 vs ds ∧ F ds = some r ∧ ∀ v H', Same H H' → RetOk K H H' v r → Q v H'
section
variable {X : Cx}
mutual
theorem RepO.val' {K : Frag} {H : Hp} {O O' : Addr → Prop} : ∀ {v : V} {t : OT} {fs : List Addr}, RepO K H O v t fs → (∀ a, O' a → O a ∧ a ∉ fs) → Rep K H O' v (otD t)
 | _, _, _, .val r, k => r.less fun a z => (k a z).1
 | _, _, _, .lst n h r, k => by unfold otD; exact .lst (fun z => (k _ z).2 (.head _)) (.inl h) (RepsO.val' r fun a z => ⟨(k a z).1, fun q => (k a z).2 (.tail _ q)⟩)
 | _, _, _, .tup n h r, k => by unfold otD; exact .tup (fun z => n (k _ z).1) h (RepsO.val' r k)
 | _, _, _, .dct n h e r, k => by unfold otD; exact .dct (fun z => (k _ z).2 (.head _)) h e (RepsO.val' r fun a z => ⟨(k a z).1, fun q => (k a z).2 (.tail _ q)⟩)
 | _, _, _, .ins c n h e r, k => by unfold otD; exact .ins c (fun z => (k _ z).2 (.head _)) h e (RepsO.val' r fun a z => ⟨(k a z).1, fun q => (k a z).2 (.tail _ q)⟩)
theorem RepsO.val' {K : Frag} {H : Hp} {O O' : Addr → Prop} : ∀ {v : List V} {t : List OT} {fs : List Addr}, RepsO K H O v t fs → (∀ a, O' a → O a ∧ a ∉ fs) → Reps K H O' v (otDs t)
 | _, _, _, .nil, _ => by unfold otDs; exact .nil
 | _, _, _, .cons h r, k => by unfold otDs; exact .cons (RepO.val' h fun a z => ⟨(k a z).1, fun q => (k a z).2 (List.mem_append_left _ q)⟩) (RepsO.val' r fun a z => ⟨(k a z).1, fun q => (k a z).2 (List.mem_append_right _ q)⟩)
end
theorem retV_ok {K : Frag} {H H' : Hp} {O : Addr → Prop} {v : V} {r : Ret} {d : D} (h : RetOk K H H' v r) (e : retV r = some d) (ho : ∀ a, O a → Old H a) : Rep K H' O v d := by
 cases r with
 | any d' => cases e
 | val d' => cases e; exact h.less ho
 | obj t =>
   cases e
   obtain ⟨fs, h1, h2, h3⟩ := h
   refine h1.val' fun a z => ⟨.inr (ho a z), fun q => ?_⟩
   obtain ⟨o, e, _⟩ := ho a z
   rw [h3 a q] at e; cases e
 | fresh l =>
   cases e
   obtain ⟨a, xs, rfl, h1, h2, h3⟩ := h
   refine .lst (fun z => ?_) (.inl h2) (h3.less fun b z => .inr (ho b z))
   obtain ⟨o, e, _⟩ := ho a z
   rw [h1] at e; cases e
theorem retF_ok {K : Frag} {H H' : Hp} {O : Addr → Prop} {v : V} {r : Ret} {l : List D} (h : RetOk K H H' v r) (e : retF r = some l) (ho : ∀ a, O a → Old H a) : ∃ a xs, v = .ref a ∧ H a = none ∧ H' a = some (.lst xs) ∧ Reps K H' (ins1 a O) xs l := by
 cases r with
 | any d' => cases e
 | val d' => cases e
 | obj t => cases e
 | fresh l' =>
   cases e
   obtain ⟨a, xs, rfl, h1, h2, h3⟩ := h
   exact ⟨a, xs, rfl, h1, h2, h3.less fun b z => z.elim .inl fun z => .inr (ho b z)⟩
section
variable {k : Nat} {f : Addr} {fd : FuncData} {ps : List Str} {n : Nat} {F : List D → Option Ret} {x : Str} {p pos : Pos} {e : Expr} {es : List Expr} {g : FA}
end
noncomputable def CallS (X : Cx) (r : List V → Hp → VK → Prop) (F : List D → Option D) : Prop := ∀ H O vs l d Q, (∀ a, O a → ∃ u : MutHO, H a = some u.1) → Paired (WRep X.K H O) vs l → F l = some d → (∀ v H', Same H H' → Rep X.K H' O v d → Q v H') → r vs H Q
theorem pv_callB {x : Str} {p pos : Pos} {e : Expr} {es : List Expr} {id : String} {r : List V → Hp → VK → Prop} {F : List D → Option D} {g : FA} (hc : CallR X (.builtin id) r) (hs : CallS X r F) (hm : X.mg x = none) (hv : bootBuiltins x = some (.builtin id)) (ha : PAv X (e :: es) g)
  (hg : Gl X x) (hn : x ≠ "__name__" := by decide) (hdb : (x == ("__debug__" : Str)) = false := by decide) (he : starEach (e :: es) X.env = (false, eval e X.env) :: starEach es X.env := by rfl) (hpl : (backTo pos (starEach es X.env)).any (·.1) = false := by rfl) :
  PV X (.Call (.Name x p) (e :: es) [] pos) (callB F g) := by
 obtain ⟨t, ht, hf⟩ := ha
 refine ⟨_, pe_callB hc hg hm hv ht hn hdb he hpl, fun H₀ H O σ ds hd d Q o e q => ?_⟩
 unfold callB at e
 obtain ⟨l, h, e⟩ := bnd e
 refine hf H₀ H O σ ds hd l _ o h fun vs H1 s1 r1 => ?_
 exact hs H1 O vs l d Q (o.mono s1).dom r1 e fun v H' s' r => q v H' (s1.trans s') r
theorem call_lenU : CallR X (.builtin "len") (fun xs H Q => (∃ p ys, xs = [.ref p] ∧ (SqL X.K H p ys ∨ SqT X.K H p ys) ∧ Q (.int ys.length) H) ∨ ∃ z, xs = [.str z] ∧ z.length ≤ sizeLine ∧ Q (.int z.length) H) := call_len_seq.or call_len_str
theorem cs_len : CallS X (fun xs H Q => (∃ p ys, xs = [.ref p] ∧ (SqL X.K H p ys ∨ SqT X.K H p ys) ∧ Q (.int ys.length) H) ∨ ∃ z, xs = [.str z] ∧ z.length ≤ sizeLine ∧ Q (.int z.length) H) lenD := by
 intro H O vs l d Q ho r e q
 match l, r, e with
 | [.lst l], .cons r .nil, e =>
   cases e
   obtain ⟨a, xs, rfl, hs, rs⟩ := r.seqL
   refine .inl ⟨a, xs, rfl, .inl hs, ?_⟩
   rw [rs.length]
   exact q _ H (Same.refl _) (.int _)
 | [.tup l], .cons r .nil, e =>
   cases e
   obtain ⟨a, xs, rfl, hs, rs⟩ := r.seqT
   refine .inl ⟨a, xs, rfl, .inr hs, ?_⟩
   rw [rs.length]
   exact q _ H (Same.refl _) (.int _)
 | [.str x], .cons r .nil, e =>
   simp only [lenD] at e
   split at e
   · rename_i hl
     cases e
     rw [r.str']
     exact .inr ⟨x, rfl, hl, q _ H (Same.refl _) (.int _)⟩
   · cases e
theorem pv_len {p pos : Pos} {e : Expr} {g : FA} (hm : X.mg "len" = none) (ha : PAv X [e] g) (hg : Gl X "len" := by rfl) (he : starEach [e] X.env = [(false, eval e X.env)] := by rfl) :
  PV X (.Call (.Name "len" p) [e] [] pos) (callB lenD g) := pv_callB call_lenU cs_len hm PySem.boot_len ha hg (by decide) (by decide) he rfl
noncomputable def After (X : Cx) (H₀ : Hp) (hd : Hold) (E : Ends) : Out → Prop
 | .nx ds => ∀ σ H O, Ok X.K H₀ H O σ ds hd → E.nx σ H
 | .bk ds => ∀ σ H O, Ok X.K H₀ H O σ ds hd → E.bk σ H
 | .ct ds => ∀ σ H O, Ok X.K H₀ H O σ ds hd → E.ct σ H
 | .rt r => ∀ v H, Same H₀ H → RetOk X.K H₀ H v r → RetB X.K H hd v r → E.rt v H
variable (X) in
noncomputable def PSv (st : Stmt) (g : FS) : Prop := ∃ t, PS X st t ∧ ∀ H₀ H O σ ds hd out E, Ok X.K H₀ H O σ ds hd → g ds = some out → After X H₀ hd E out → t E σ H
variable (X) in
noncomputable def PSsv (st : List Stmt) (g : FS) : Prop := ∃ t, PSs X st t ∧ ∀ H₀ H O σ ds hd out E, Ok X.K H₀ H O σ ds hd → g ds = some out → After X H₀ hd E out → t E σ H
theorem pssv_nil : PSsv X [] nextG := ⟨_, pss_nil, fun _ H O σ ds hd out E o e h => by cases e; exact h σ H O o⟩
theorem pssv_cons {st : Stmt} {rest : List Stmt} {f g : FS} (h1 : PSv X st f) (h2 : PSsv X rest g) : PSsv X (st :: rest) (seqG f g) := by
 obtain ⟨t, ht, hf⟩ := h1
 obtain ⟨u, hu, hg⟩ := h2
 refine ⟨_, pss_cons ht hu, fun H₀ H O σ ds hd out E o e h => ?_⟩
 unfold seqG at e
 obtain ⟨o1, h1, e⟩ := bnd e
 refine hf H₀ H O σ ds hd o1 _ o h1 ?_
 cases o1 with
 | nx ds' => exact fun σ' H' O' o' => hg H₀ H' O' σ' ds' hd out E o' e h
 | rt r => cases e; exact h
 | bk ds' => cases e; exact h
 | ct ds' => cases e; exact h
theorem pssv_one {st : Stmt} {f : FS} (h1 : PSv X st f) : PSsv X [st] f := by
 obtain ⟨t, ht, hf⟩ := h1
 exact ⟨_, pss_one ht, hf⟩
theorem psv_continue {pos : Pos} : PSv X (.Continue pos) (fun ds => some (.ct ds)) := ⟨_, ps_continue, fun _ H O σ ds hd out E o e h => by cases e; exact h σ H O o⟩
theorem psv_if {c : Expr} {a b : List Stmt} {pos : Pos} {fc : FT} {f g : FS} (hc : PTv X c fc) (ha : PSsv X a f) (hb : PSsv X b g) : PSv X (.If c a b pos) (ifG fc f g) := by
 obtain ⟨tc, pc, hc⟩ := hc
 obtain ⟨t, ht, hf⟩ := ha
 obtain ⟨u, hu, hg⟩ := hb
 refine ⟨_, ps_if pc ht hu, fun H₀ H O σ ds hd out E o e h => ?_⟩
 unfold ifG at e
 obtain ⟨k, h1, e⟩ := bnd e
 refine hc H₀ H O σ ds hd k _ o h1 fun H' s => ?_
 cases k with
 | true => exact iteT (hf H₀ H' O σ ds hd out E (o.mono s) (by simpa using e) h)
 | false => exact iteF (hg H₀ H' O σ ds hd out E (o.mono s) (by simpa using e) h)
theorem psv_set {i : Nat} {x : Str} {e : Expr} {pos pos' : Pos} {f : FE} (hN : X.N.Nodup) (he : PV X e f) (hi : X.N[i]? = some x := by rfl) (hx : Loc X.env.scope x := by first | exact Or.inl rfl | exact Or.inr rfl) (hs : swapsWith e (some (.Name x pos')) pos.line X.env = pure false := by rfl)
  (hf : X.fn x = true ∨ X.env.scope.names.lookup x = some .local := by first | exact .inl rfl | exact .inr rfl) : PSv X (.Assign [.Name x pos'] e pos) (setG i f) := by
 obtain ⟨t, ht, hg⟩ := he
 refine ⟨_, ps_set hN hi hx ht hs hf, fun H₀ H O σ ds hd out E o e h => ?_⟩
 unfold setG at e
 obtain ⟨d, h1, rfl⟩ := mpd e
 exact hg H₀ H O σ ds hd d _ o h1 fun v H' s r => h _ _ _ ((o.mono s).set r)
theorem psv_setO {i : Nat} {x : Str} {e : Expr} {pos pos' : Pos} {f : FA} (hN : X.N.Nodup) (he : PVf X e f) (hi : X.N[i]? = some x := by rfl) (hx : Loc X.env.scope x := by first | exact Or.inl rfl | exact Or.inr rfl) (hs : swapsWith e (some (.Name x pos')) pos.line X.env = pure false := by rfl)
  (hf : X.fn x = true ∨ X.env.scope.names.lookup x = some .local := by first | exact .inl rfl | exact .inr rfl) : PSv X (.Assign [.Name x pos'] e pos) (setOG i f) := by
 obtain ⟨t, ht, hg⟩ := he
 refine ⟨_, ps_set hN hi hx ht hs hf, fun H₀ H O σ ds hd out E o e h => ?_⟩
 unfold setOG at e
 obtain ⟨l, h1, rfl⟩ := mpd e
 exact hg H₀ H O σ ds hd l _ o h1 fun a xs H' s hn he r => h _ _ _ (o.setO s hn he r)
theorem psv_ret {e : Expr} {pos : Pos} {f : FE} (he : PVw X e f) : PSv X (.Return (some e) pos) (retG f) := by
 obtain ⟨t, ht, hg⟩ := he
 refine ⟨_, ps_ret ht, fun H₀ H O σ ds hd out E o e h => ?_⟩
 unfold retG at e
 obtain ⟨d, h1, e⟩ := bnd e
 simp only [Option.bind_some, flatR] at e
 split at e
 · rename_i hf
   cases e
   exact hg H₀ H O σ ds hd d _ o h1 fun v H' s r => h _ _ (o.same.trans s) (Rep.flatten (fun a z => Old.mono (o.same.trans s) z) hf r.any) True.intro
 · cases e
theorem psv_retF {e : Expr} {pos : Pos} {f : FA} (he : PVf X e f) : PSv X (.Return (some e) pos) (retOG f) := by
 obtain ⟨t, ht, hg⟩ := he
 refine ⟨_, ps_ret ht, fun H₀ H O σ ds hd out E o e h => ?_⟩
 unfold retOG at e
 obtain ⟨l, h1, e⟩ := bnd e
 simp only [Option.bind_some, flatF] at e
 split at e
 · rename_i hf
   cases e
   refine hg H₀ H O σ ds hd l _ o h1 fun a xs H' s hn he r => h _ _ (o.same.trans s) ⟨a, xs, rfl, o.same.free hn, he, Reps.flatten (fun b z => ?_) hf r⟩ True.intro
   rcases z with rfl | z
   · exact ⟨_, he, rfl⟩
   · exact Old.mono (o.same.trans s) z
 · cases e
theorem psv_retX (i : Nat) {x : Str} {pos pos' : Pos} (hN : X.N[i]? = some x := by rfl) (hv : Vis X.env.scope x := by first | exact Or.inl rfl | exact Or.inr (Or.inl rfl) | exact Or.inr (Or.inr rfl)) (hd : (x == ("__debug__" : Str)) = false := by decide)
  (hcd : (x == ("__classdict__" : Str)) = false := by decide) : PSv X (.Return (some (.Name x pos')) pos) (retXG i) := by
 refine ⟨_, ps_ret (pe_var hN hv hd hcd), fun H₀ H O σ ds hd out E o e h => ?_⟩
 unfold retXG at e
 cases hs : ds[i]? with
 | none => rw [hs] at e; cases e
 | some s =>
   rw [hs] at e
   cases s with
   | v d' => cases e
   | no => cases e
   | exc _ => cases e
   | fr _ => cases e
   | ob _ _ => cases e
   | own l =>
     simp only [flatF] at e
     split at e
     · rename_i hf
       cases e
       obtain ⟨a, xs, h1, h2, h3, h4⟩ := o.readO hs
       refine ⟨.ref a, h1, h _ _ o.same ⟨a, xs, rfl, o.fresh i l a hs h1, h3, Reps.flatten (fun b z => ?_) hf h4⟩ True.intro⟩
       rcases z with rfl | z
       · exact ⟨_, h3, rfl⟩
       · exact Old.mono o.same z
     · cases e
theorem psv_put {i : Nat} {x : Str} {e ek : Expr} {pos p1 p2 : Pos} {fk fe : FE} (he : PV X e fe) (hk : PV X ek fk) (hN : X.N[i]? = some x := by rfl) (hv : Vis X.env.scope x := by first | exact Or.inl rfl | exact Or.inr (Or.inl rfl) | exact Or.inr (Or.inr rfl)) (hd : (x == ("__debug__" : Str)) = false := by decide)
  (hcd : (x == ("__classdict__" : Str)) = false := by decide)
  (ha : ∀ v, assign (.Subscript (.Name x p1) ek p2) X.env v = (do
    let ov ← holding [v] (eval (.Name x p1) X.env)
    let iv ← holding [v, ov] (eval ek X.env)
    standAt p2
    holding [v, ov, iv] (setItem ov iv v)
    release [v, ov, iv] []) := by intro _; rfl)
  (hs : swapsWithSole [.Subscript (.Name x p1) ek p2] e pos.line X.env = pure false := by rfl) (hw : swappedStores [.Subscript (.Name x p1) ek p2] e X.env = pure none := by rfl)
  (h1 : (assignEach [.Subscript (.Name x p1) ek p2] X.env).map (·.2) = [assign (.Subscript (.Name x p1) ek p2) X.env] := by rfl) : PSv X (.Assign [.Subscript (.Name x p1) ek p2] e pos) (putG i fk fe) := by
 obtain ⟨te, pe, he⟩ := he
 obtain ⟨tk, pk, hk⟩ := hk
 refine ⟨_, ps_asg pe (pg_sub (pe_var hN hv hd hcd) pk set_list ha) hs hw h1, fun H₀ H O σ ds hd out E o e h => ?_⟩
 unfold putG at e
 cases hsl : ds[i]? with
 | none => rw [hsl] at e; cases e
 | some s =>
   rw [hsl] at e
   cases s with
   | v d' => cases e
   | no => cases e
   | exc _ => cases e
   | fr _ => cases e
   | ob _ _ => cases e
   | own l =>
     simp only at e
     obtain ⟨d, h1, e⟩ := bnd e
     obtain ⟨kd, h2, e⟩ := bnd e
     cases kd with
     | int n =>
       simp only at e
       obtain ⟨j, h3, rfl⟩ := mpd e
       refine he H₀ H O σ ds hd d _ o h1 fun v H1 s1 r1 => ?_
       obtain ⟨a, xs, q1, q2, q3, q4⟩ := (o.mono s1).readO hsl
       refine ⟨.ref a, q1, ?_⟩
       refine hk H₀ H1 O σ ds hd _ _ (o.mono s1) h2 fun kv H2 s2 r2 => ?_
       cases r2
       refine ⟨a, xs, n, j, rfl, rfl, s2 _ _ q3, by rw [q4.length]; exact h3, ?_⟩
       exact h _ _ _ (((o.mono s1).mono s2).modify hsl q1 ((q4.mono s2).set (r1.mono s2) j))
     | _ => cases e
theorem psv_app {i : Nat} {x : Str} {e : Expr} {pos p1 p2 p3 : Pos} {fe : FE} (he : PV X e fe) (hN : X.N[i]? = some x := by rfl) (hv : Vis X.env.scope x := by first | exact Or.inl rfl | exact Or.inr (Or.inl rfl) | exact Or.inr (Or.inr rfl)) (hd : (x == ("__debug__" : Str)) = false := by decide)
  (hcd : (x == ("__classdict__" : Str)) = false := by decide)
  (hfew : ((backTo p3 (starEach [e] X.env)).all (fun x => !x.1) && (backToKw p3 (keywordEach [] X.env)).all (fun x => x.1.isSome)
    && decide ([e].length + ([] : List Keyword).length + (if ([] : List Keyword).isEmpty then 0 else 1) < 30)) = true := by rfl)
  (hline : (p2.endLine == p3.line) = true := by rfl) (hs : starEach [e] X.env = (false, eval e X.env) :: starEach [] X.env := by rfl)
  (hbase : attributeBase (.Name x p1) "append" X.env (eval (.Name x p1) X.env) = eval (.Name x p1) X.env := by rfl) (hsw : swapsWith (.Call (.Attribute (.Name x p1) "append" p2) [e] [] p3) none pos.line X.env = pure false := by rfl) :
  PSv X (.Expr (.Call (.Attribute (.Name x p1) "append" p2) [e] [] p3) pos) (appG i fe) := by
 obtain ⟨te, pe, he⟩ := he
 refine ⟨_, ps_expr (pe_bm PySem.F.plainAttrs_list PySem.F.slot_list_append PySem.F.type_list_append mt_append (pe_var hN hv hd hcd) (pa_cons pe pa_nil hs) hbase hfew hline hs rfl) hsw, fun H₀ H O σ ds hd out E o e h => ?_⟩
 unfold appG at e
 cases hsl : ds[i]? with
 | none => rw [hsl] at e; cases e
 | some s =>
   rw [hsl] at e
   cases s with
   | v d' => cases e
   | no => cases e
   | exc _ => cases e
   | fr _ => cases e
   | ob _ _ => cases e
   | own l =>
     simp only at e
     obtain ⟨d, h1, e⟩ := bnd e
     split at e
     · rename_i hl
       cases e
       obtain ⟨a, xs, q1, q2, q3, q4⟩ := o.readO hsl
       refine ⟨.ref a, q1, .inl ⟨rfl, xs, SqL.of q3⟩, ?_⟩
       refine he H₀ H O σ ds hd d _ o h1 fun v H1 s1 r1 => ?_
       refine ⟨a, xs, v, rfl, rfl, s1 _ _ q3, by rw [q4.length]; exact hl, ?_⟩
       exact h _ _ _ ((o.mono s1).modify hsl q1 ((q4.mono s1).append (.cons r1 .nil)))
     · cases e
theorem args_ob (n : Nat) (ds : List D) (i : Nat) (r : Option Nat) (t : OT) : (args n ds)[i]? ≠ some (.ob r t) := fun e => by
 unfold args at e
 by_cases hi : i < ds.length
 · rw [List.getElem?_append_left (by simpa using hi), List.getElem?_map] at e
   cases h : ds[i]? with
   | none => rw [h] at e; cases e
   | some d => rw [h] at e; cases e
 · rw [List.getElem?_append_right (by simpa using hi), List.getElem?_replicate] at e
   split at e <;> cases e
theorem ok_start {K : Frag} {H : Hp} {N : List Str} {vs : List V} {ds : List D} (r : Reps K H none0 vs ds) : Ok K H H none0 (L2.start N vs) (args N.length ds) [] := by
 have hl := r.length
 have no : ∀ i, IsOwn (args N.length ds) i → False := fun i ⟨l, e⟩ => by
  unfold args at e
  by_cases hi : i < ds.length
  · rw [List.getElem?_append_left (by simpa using hi), List.getElem?_map] at e
    cases h : ds[i]? with
    | none => rw [h] at e; cases e
    | some d => rw [h] at e; cases e
  · rw [List.getElem?_append_right (by simpa using hi), List.getElem?_replicate] at e
    split at e <;> cases e
 refine ⟨Same.refl _, fun i l a e _ => (no i ⟨l, e⟩).elim, fun _ z => z.elim, by simp [L2.start, args, hl], fun i s e => ?_, fun i j a _ hi _ _ _ => no i hi, (fun p hp => nomatch hp), .no (args_ob _ _)⟩
 unfold args at e
 unfold L2.start
 by_cases hi : i < ds.length
 · rw [List.getElem?_append_left (by simpa using hi), List.getElem?_map] at e
   rw [List.getElem?_append_left (by simpa [hl] using hi), List.getElem?_map]
   obtain ⟨d, h, rfl⟩ := mpd e
   obtain ⟨v, h1, h2⟩ := r.get h
   rw [h1]
   exact slOk_v h2
 · rw [List.getElem?_append_right (by simpa using hi), List.getElem?_replicate] at e
   split at e
   · cases e; exact slOk_no
   · cases e
noncomputable def Does (g : FS) (n : Nat) (ds : List D) (r : Ret) : Prop := g (args n ds) = some (.rt r) ∨ (r = .val .non ∧ ∃ ds', g (args n ds) = some (.nx ds'))
theorem fun_ok {P : Program} {w : World} {K : Frag} {mg : Str → Option Value} {base : Heap} {x qual : Str} {st : Stmt} {f : Addr} {fd : FuncData} {N ps : List Str} {k : Nat} {F : List D → Option Ret} (Fn : Fun K x qual st f fd) (S : FnScope N ps (defScope st))
  {g : FS} (hbody : ∀ (cdv : Value) (A : Around) (outer : List Env) (s : Shared) (H : Hp) (E : XK), Room k (A.deeper (envOfC qual (defScope st) s.heap.objs.size f cdv)) → PSsv (cxOf CX0 P w K mg base N qual (defScope st) f cdv A outer s H E).nox (defBody st) g)
  (hg : ∀ ds r, ds.length = ps.length → F ds = some r → Does g N.length ds r) : FnOk P w K mg base CX0 (k + 1) f fd ps (spF K ps.length F) := by
 refine Fn.ok S (fun vs H Q E h => h.1) (fun cdv A outer s H vs Q E hr h => ?_)
 obtain ⟨hl, ds, r, rv, e, q⟩ := h
 obtain ⟨t, ht, hf⟩ := hbody cdv A outer s H E hr
 refine ⟨t, ht, ?_⟩
 have o := ok_start (N := N) rv
 rcases hg ds r (by rw [← rv.length]; exact hl) e with e' | ⟨rfl, ds', e'⟩
 · exact hf H H none0 _ _ [] _ _ o e' (fun v H' s r _ => q v H' s r)
 · exact hf H H none0 _ _ [] _ _ o e' (fun σ H' O o' => q .non H' o'.same .non)
end
end FL
namespace L2
open PySem PySem.Spec PyProof.Rows
section
variable {X : Cx} {tg : Expr}
end
end L2
namespace FL
open PySem PySem.Spec PyProof.Rows L2
noncomputable def Wlk (K : Frag) (J : It) (p : V × D) (items : List D) : Prop := ∀ H O, (∀ a, O a → ∃ u : MutHO, H a = some u.1) → Rep K H O p.1 p.2 →
 (∀ i d, items[i]? = some d → J.go i H ∧ ∀ x H', J.yld i H x H' → Same H H' ∧ Rep K H' O x d) ∧ J.stop items.length H
section
variable {X : Cx}
variable (X) in
noncomputable def PIv (tg iter : Expr) (fi : FA) : Prop := ∃ wi, PI X tg iter wi ∧ ∀ H₀ H O σ ds hd items R, Ok X.K H₀ H O σ ds hd → fi ds = some items →
 (∀ J p H', Same H H' → Rep X.K H' O p.1 p.2 → Wlk X.K J p items → R J H') → wi σ H R
theorem wlk_list {K : Frag} {a : Addr} {l : List D} : Wlk K (Itl K a) (.ref a, .lst l) l := by
 intro H O _ r
 obtain ⟨b, xs, e, hs, rs⟩ := WRep.seqL (.inl r)
 cases e
 refine ⟨fun i d hd => ?_, ⟨xs, hs, by rw [rs.length]; exact Nat.le_refl _⟩⟩
 obtain ⟨v, h1, h2⟩ := rs.get hd
 refine ⟨⟨xs, v, hs, h1⟩, fun x H' y => ?_⟩
 obtain ⟨rfl, y⟩ := y
 have := y xs hs
 rw [h1] at this; cases this
 exact ⟨Same.refl _, h2⟩
theorem wlk_tup {K : Frag} {a : Addr} {l : List D} : Wlk K (Itt K a) (.ref a, .tup l) l := by
 intro H O _ r
 obtain ⟨b, xs, e, hs, rs⟩ := WRep.seqT (.inl r)
 cases e
 refine ⟨fun i d hd => ?_, ⟨xs, hs, by rw [rs.length]; exact Nat.le_refl _⟩⟩
 obtain ⟨v, h1, h2⟩ := rs.get hd
 refine ⟨⟨xs, v, hs, h1⟩, fun x H' y => ?_⟩
 obtain ⟨rfl, y⟩ := y
 have := y xs hs
 rw [h1] at this; cases this
 exact ⟨Same.refl _, h2⟩
theorem wlk_range {K : Frag} {lo : Int} {n : Nat} : Wlk K (Itr lo n) (.non, .non) (rangeD lo n) := by
 intro H O _ r
 have hl : (rangeD lo n).length = n := by simp [rangeD]
 refine ⟨fun i d hd => ?_, show n ≤ _ by rw [hl]; exact Nat.le_refl _⟩
 have hi : i < n := by
  have := (List.getElem?_eq_some_iff.mp hd).1
  rwa [hl] at this
 refine ⟨hi, fun x H' y => ?_⟩
 obtain ⟨rfl, rfl⟩ := y
 have : d = D.int (lo + (i : Int)) := by
  simp only [rangeD, List.getElem?_map, List.getElem?_range hi, Option.map_some] at hd
  exact (Option.some.inj hd).symm
 subst this
 exact ⟨Same.refl _, .int _⟩
theorem piv_range1 {tg e : Expr} {p pos : Pos} {f : FE} (hm : X.mg "range" = none) (h : PV X e f) (hg : Gl X "range" := by rfl) (hs : starEach [e] X.env = [(false, eval e X.env)] := by rfl) : PIv X tg (.Call (.Name "range" p) [e] [] pos) (rng1 f) := by
 obtain ⟨t, ht, hf⟩ := h
 refine ⟨_, pi_range1 hg hm (pa_cons ht pa_nil hs) hs, fun H₀ H O σ ds hd items R o e q => ?_⟩
 unfold rng1 at e
 obtain ⟨d, h1, e⟩ := bnd e
 cases d with
 | int j =>
   simp only at e
   split at e
   · rename_i hj
     cases e
     refine hf H₀ H O σ ds hd _ _ o h1 fun v H' s r => ?_
     cases r
     exact ⟨j, rfl, hj.1, hj.2, q _ (.non, .non) H' s .non wlk_range⟩
   · cases e
 | _ => cases e
variable (X) in
noncomputable def PGv (tg : Expr) (ga : D → List Sl → Option (List Sl)) : Prop := ∃ g, PG X tg g ∧ ∀ H₀ H O σ ds hd v d ds' Q, Ok X.K H₀ H O σ ds hd → Rep X.K H O v d → ga d ds = some ds' → (∀ σ', Ok X.K H₀ H O σ' ds' hd → Q σ' H) → g v σ H Q
variable (X) in
noncomputable def PGsv (tgs : List Expr) (ga : List D → List Sl → Option (List Sl)) : Prop := ∃ g, PGs X tgs g ∧ ∀ H₀ H O σ ds hd vs l ds' Q, Ok X.K H₀ H O σ ds hd → Reps X.K H O vs l → ga l ds = some ds' → (∀ σ', Ok X.K H₀ H O σ' ds' hd → Q σ' H) → g vs σ H Q
theorem pgv_name {i : Nat} {x : Str} {pos : Pos} (hN : X.N.Nodup) (hi : X.N[i]? = some x := by rfl) (hx : Loc X.env.scope x := by first | exact Or.inl rfl | exact Or.inr rfl)
  (hf : X.fn x = true ∨ X.env.scope.names.lookup x = some .local := by first | exact .inl rfl | exact .inr rfl) : PGv X (.Name x pos) (nameG i) :=
 ⟨_, pg_name hN hi hx hf, fun H₀ H O σ ds hd v d ds' Q o r e q => by cases e; exact q _ (o.set r)⟩
theorem pgsv_nil : PGsv X [] tgNil := ⟨_, pgs_nil, fun H₀ H O σ ds hd vs l ds' Q o r e q => by
 cases r with
 | nil => cases e; exact ⟨rfl, q _ o⟩
 | cons _ _ => cases e⟩
theorem pgsv_cons {e : Expr} {es : List Expr} {g : D → List Sl → Option (List Sl)} {h : List D → List Sl → Option (List Sl)} (h1 : PGv X e g) (h2 : PGsv X es h)
  (hs : (assignEach (e :: es) X.env).map (·.2) = assign e X.env :: (assignEach es X.env).map (·.2) := by rfl) : PGsv X (e :: es) (tgCons g h) := by
 obtain ⟨t, ht, hf⟩ := h1
 obtain ⟨u, hu, hg⟩ := h2
 refine ⟨_, pgs_cons ht hu hs, fun H₀ H O σ ds hd vs l ds' Q o r e q => ?_⟩
 cases r with
 | nil => cases e
 | cons r1 rr =>
   rename_i v d vr dr
   simp only [tgCons] at e
   obtain ⟨ds1, h1, e⟩ := bnd e
   exact ⟨v, vr, rfl, hf H₀ H O σ ds hd v d ds1 _ o r1 h1 fun σ' o' => hg H₀ H O σ' ds1 hd vr dr ds' Q o' rr e q⟩
theorem pgv_tup {es : List Expr} {k : Nat} {pos : Pos} {h : List D → List Sl → Option (List Sl)} {n : Nat} (hc : X.calm = true) (hh : PGsv X es h)
  (hn : (assignEach es X.env).length = n := by rfl) (hst : (assignEach es X.env).findIdx? (·.1) = none := by rfl) : PGv X (.Tuple es k pos) (tupG n h) := by
 obtain ⟨t, ht, hf⟩ := hh
 refine ⟨_, pg_tup hc ht hn hst, fun H₀ H O σ ds hd v d ds' Q o r e q => ?_⟩
 cases d with
 | tup l =>
   simp only [tupG] at e
   split at e
   · rename_i hl
     obtain ⟨a, xs, rfl, hs, rs⟩ := WRep.seqT (.inl r)
     exact ⟨a, xs, rfl, hs, by rw [rs.length]; exact hl, hf H₀ H O σ ds hd xs l ds' Q o rs e q⟩
   · cases e
 | _ => cases e
theorem retB_less {K : Frag} {H : Hp} {hd : Hold} {q : HI} {v : V} {r : Ret} (h : RetB K H (q :: hd) v r) : RetB K H hd v r := by
 cases r with
 | any d => exact fun B hB => h B (List.mem_cons_of_mem _ hB)
 | _ => exact True.intro
theorem psv_for {tg iter : Expr} {body : List Stmt} {pos : Pos} {fi : FA} {ga : D → List Sl → Option (List Sl)} {g : FS} (hp : PassesOwn (model X.prog X.w) X.A X.env X.xe) (hc : X.calm = true) (hi : PIv X tg iter fi) (hg : PGv X tg ga) (hb : PSsv X body g)
  (hs : ∀ x, foldedSetIterable iter X.env x = pure x := by intro _; rfl) : PSv X (.For tg iter body [] pos) (forG fi ga g) := by
 obtain ⟨wi, pi, hi⟩ := hi
 obtain ⟨tg', pg, hg⟩ := hg
 obtain ⟨tb, pb, hb⟩ := hb
 refine ⟨_, ps_for hp hc pi pg pb hs, fun H₀ H O σ ds hd out E o e h => ?_⟩
 unfold forG at e
 obtain ⟨items, h1, e⟩ := bnd e
 refine hi H₀ H O σ ds hd items _ o h1 fun J p H' s r wk => ?_
 refine ⟨fun i m σ' H' => i ≤ items.length ∧ m = items.length - i ∧ ∃ O' ds', Ok X.K H₀ H' O' σ' ds' (HI.rep p.1 p.2 :: hd) ∧ loopG ga g (items.drop i) ds' = some out, ⟨items.length, Nat.zero_le _, rfl, O, ds, (o.mono s).holdMore (p := HI.rep p.1 p.2) r, by simpa using e⟩, ?_⟩
 rintro i m σ1 H1 ⟨hi1, rfl, O1, ds1, o1, e1⟩
 obtain ⟨go, stop⟩ := wk H1 O1 o1.dom (o1.hold (HI.rep p.1 p.2) List.mem_cons_self)
 by_cases hlt : i < items.length
 · right
   have hd0 : items[i]? = some items[i] := List.getElem?_eq_getElem hlt
   obtain ⟨hgo, hy⟩ := go i _ hd0
   rw [List.drop_eq_getElem_cons hlt, loopG] at e1
   refine ⟨hgo, fun σ' H' => i + 1 ≤ items.length ∧ ∃ O' ds', Ok X.K H₀ H' O' σ' ds' (HI.rep p.1 p.2 :: hd) ∧ loopG ga g (items.drop (i + 1)) ds' = some out, fun σ' H' ⟨q1, q2⟩ => ⟨items.length - (i + 1), by omega, q1, rfl, q2⟩, fun x H2 y => ?_⟩
   obtain ⟨s2, r2⟩ := hy x H2 y
   obtain ⟨ds2, h2, e1⟩ := bnd e1
   obtain ⟨o3, h3, e1⟩ := bnd e1
   refine hg H₀ H2 O1 σ1 ds1 (HI.rep p.1 p.2 :: hd) x _ ds2 _ (o1.mono s2) r2 h2 fun σ' o' => ?_
   refine hb H₀ H2 O1 σ' ds2 (HI.rep p.1 p.2 :: hd) o3 _ o' h3 ?_
   cases o3 with
   | nx ds3 => exact fun σ3 H3 O3 ok3 => ⟨hlt, O3, ds3, ok3, e1⟩
   | ct ds3 => exact fun σ3 H3 O3 ok3 => ⟨hlt, O3, ds3, ok3, e1⟩
   | bk ds3 => cases e1; exact fun σ3 H3 O3 ok3 => h σ3 H3 O3 ok3.holdLess
   | rt rr => cases e1; exact fun v H s r b => h v H s r (retB_less b)
 · left
   have ei : i = items.length := by omega
   subst ei
   rw [List.drop_length, loopG] at e1
   cases e1
   exact ⟨stop, h σ1 H1 O1 o1.holdLess⟩
variable (X) in
noncomputable def PFv (ifs : List Expr) (c : FT) : Prop := ∃ t, PF X ifs t ∧ ∀ H₀ H O σ ds hd b Q, Ok X.K H₀ H O σ ds hd → c ds = some b → (∀ H', Same H H' → Q b H') → t σ H Q
theorem pfv_nil : PFv X [] (fun _ => some true) := ⟨_, pf_nil, fun _ H _ _ _ _ _ _ _ e q => by cases e; exact q H (Same.refl _)⟩
theorem Ok.inner {K : Frag} {H₀ H : Hp} {O : Addr → Prop} {σ : L2.St} {ds : List Sl} {hd : Hold} (o : Ok K H₀ H O σ ds hd) (mp : List (Option Nat)) : Ok K H₀ H O (slotsY mp σ) (slotsD mp ds) hd := by
 have no : ∀ {i : Nat} {l : List D}, (slotsD mp ds)[i]? = some (.own l) → False := fun {i l} e => by
  unfold slotsD at e
  rw [List.getElem?_map] at e
  cases hm : mp[i]? with
  | none => rw [hm] at e; cases e
  | some m =>
    rw [hm] at e
    simp only [Option.map_some, Option.some.injEq] at e
    cases m with
    | none => cases e
    | some j =>
      simp only at e
      split at e <;> cases e
 refine ⟨o.same, fun i l a e _ => (no e).elim, o.dom, by simp [slotsY, slotsD], fun i s e => ?_, fun i j a hij hi hj e1 e2 => ?_, o.hold, .no fun i r t e => by
  unfold slotsD at e
  rw [List.getElem?_map] at e
  cases hm : mp[i]? with
  | none => rw [hm] at e; cases e
  | some m =>
    rw [hm] at e
    simp only [Option.map_some, Option.some.injEq] at e
    cases m with
    | none => cases e
    | some j =>
      simp only at e
      split at e <;> cases e⟩
 · unfold slotsD at e
   unfold slotsY
   rw [List.getElem?_map] at e ⊢
   cases hm : mp[i]? with
   | none => rw [hm] at e; cases e
   | some m =>
     rw [hm] at e
     simp only [Option.map_some, Option.some.injEq] at e
     cases m with
     | none =>
       simp only at e
       subst e; exact slOk_no
     | some j =>
       simp only at e
       cases hj : ds[j]? with
       | none => rw [hj] at e; subst e; exact slOk_no
       | some s' =>
         rw [hj] at e
         cases s' with
         | no => subst e; exact slOk_no
         | exc _ => subst e; exact slOk_no
         | fr _ => subst e; exact slOk_no
         | ob _ _ => subst e; exact slOk_no
         | own l => subst e; exact slOk_no
         | v d =>
           simp only at e
           subst e
           obtain ⟨v, h1, h2⟩ := o.read hj
           simp only [Option.map_some, Option.bind_some, h1, Option.join_some]
           exact slOk_v h2
 · obtain ⟨l, e⟩ := hi
   unfold slotsD at e
   rw [List.getElem?_map] at e
   cases hm : mp[i]? with
   | none => rw [hm] at e; cases e
   | some m =>
     rw [hm] at e
     simp only [Option.map_some, Option.some.injEq] at e
     cases m with
     | none => cases e
     | some j =>
       simp only at e
       cases hj : ds[j]? with
       | none => rw [hj] at e; cases e
       | some s' => rw [hj] at e; cases s' <;> cases e
section
variable {scope : Scope} {NY : List Str} {mp : List (Option Nat)} {tg iter elt : Expr} {ifs : List Expr} {pos : Pos} {fi : FA} {ga : D → List Sl → Option (List Sl)} {tt : FT} {fe : FE}
theorem comp_sem {wi : TI} {g : CI → TG} {t1 : CI → TT} {t2 : CI → TE}
  (hi : ∀ H₀ H O σ ds hd items R, Ok X.K H₀ H O σ ds hd → fi ds = some items → (∀ J p H', Same H H' → Rep X.K H' O p.1 p.2 → Wlk X.K J p items → R J H') → wi σ H R)
  (hg : ∀ c H₀ H O σ ds hd v d ds' Q, Ok X.K H₀ H O σ ds hd → Rep X.K H O v d → ga d ds = some ds' → (∀ σ', Ok X.K H₀ H O σ' ds' hd → Q σ' H) → g c v σ H Q)
  (ht : ∀ c H₀ H O σ ds hd b Q, Ok X.K H₀ H O σ ds hd → tt ds = some b → (∀ H', Same H H' → Q b H') → t1 c σ H Q)
  (he : ∀ c H₀ H O σ ds hd d Q, Ok X.K H₀ H O σ ds hd → fe ds = some d → (∀ v H', Same H H' → Rep X.K H' O v d → Q v H') → t2 c σ H Q) :
  ∀ H₀ H O σ ds hd l Q, Ok X.K H₀ H O σ ds hd → compG fi mp ga tt fe ds = some l →
   (∀ a xs H', Same H H' → H a = none → H' a = some (.lst xs) → Reps X.K H' (ins1 a O) xs l → Q (.ref a) H') → tComp wi mp g t1 t2 σ H Q := by
 intro H₀ H O σ ds hd l Q o e q
 unfold compG at e
 obtain ⟨items, h1, e⟩ := bnd e
 split at e
 · rename_i hsz
   refine hi H₀ H O σ ds hd items _ o h1 fun J p H1 s1 r1 wk => fun c => ?_
   have oI : Ok X.K H₀ H1 O (slotsY mp σ) (slotsD mp ds) (HI.rep p.1 p.2 :: hd) := ((o.mono s1).holdMore (p := HI.rep p.1 p.2) r1).inner mp
   refine ⟨fun i m ys H2 => i ≤ items.length ∧ m = items.length - i ∧ Same H1 H2 ∧ ys.length ≤ i ∧ ∃ l' rest, Reps X.K H2 O ys l' ∧ compL ga tt fe (slotsD mp ds) (items.drop i) = some rest ∧ l = l' ++ rest,
    ⟨items.length, Nat.zero_le _, rfl, Same.refl _, Nat.le_refl _, [], l, .nil, by simpa using e, rfl⟩, ?_⟩
   rintro i m ys H2 ⟨hi1, rfl, s2, hy, l', rest, ry, er, el⟩
   have o2 := oI.mono s2
   obtain ⟨go, stop⟩ := wk H2 O o2.dom (o2.hold (HI.rep p.1 p.2) List.mem_cons_self)
   by_cases hlt : i < items.length
   · right
     have hd0 : items[i]? = some items[i] := List.getElem?_eq_getElem hlt
     obtain ⟨hgo, hyl⟩ := go i _ hd0
     refine ⟨hgo, by omega, fun x H3 y => ?_⟩
     obtain ⟨s3, r3⟩ := hyl x H3 y
     rw [List.drop_eq_getElem_cons hlt, compL] at er
     obtain ⟨ds1, h2, er⟩ := bnd er
     refine hg c H₀ H3 O _ _ (HI.rep p.1 p.2 :: hd) x _ ds1 _ (o2.mono s3) r3 h2 fun σ' o3 => ?_
     obtain ⟨b, h3, er⟩ := bnd er
     refine ht c H₀ H3 O σ' ds1 (HI.rep p.1 p.2 :: hd) b _ o3 h3 fun H4 s4 => ?_
     cases b with
     | false =>
       refine iteF ⟨items.length - (i + 1), by omega, hlt, rfl, (s2.trans s3).trans s4, Nat.le_succ_of_le hy, l', rest, (ry.mono s3).mono s4, by simpa using er, el⟩
     | true =>
       refine iteT ?_
       simp only [if_true] at er
       obtain ⟨yd, h4, er⟩ := bnd er
       cases h5 : compL ga tt fe (slotsD mp ds) (items.drop (i + 1)) with
       | none => rw [h5] at er; cases er
       | some rest' =>
         rw [h5] at er
         cases er
         refine he c H₀ H4 O σ' ds1 (HI.rep p.1 p.2 :: hd) yd _ (o3.mono s4) h4 fun v H5 s5 r5 => ?_
         refine ⟨items.length - (i + 1), by omega, hlt, rfl, ((s2.trans s3).trans s4).trans s5, by simp; omega, l' ++ [yd], rest', (((ry.mono s3).mono s4).mono s5).append (.cons r5 .nil), h5, ?_⟩
         rw [el]; simp
   · left
     have ei : i = items.length := by omega
     subst ei
     rw [List.drop_length, compL] at er
     cases er
     rw [List.append_nil] at el
     subst el
     refine ⟨stop, by omega, fun a ha => ?_⟩
     refine q a ys _ ((s1.trans s2).trans (same_upd ha _)) ((s1.trans s2).free ha) upd_same ?_
     exact (ry.more ha).mono (same_upd ha _)
 · cases e
theorem pvf_comp (S : CompScope X scope NY mp) (hc : X.calm = true) (hi : PIv X tg iter fi) (hg : ∀ c, PGv (compCx X scope NY c) tg ga) (ht : ∀ c, PFv (compCx X scope NY c) ifs tt) (he : ∀ c, PV (compCx X scope NY c) elt fe)
  (hs : ∀ x, foldedSetIterable iter X.env x = pure x := by intro _; rfl) : PVf X (.ListComp elt [⟨tg, iter, ifs, 0⟩] scope pos) (compG fi mp ga tt fe) := by
 obtain ⟨wi, pi, hi⟩ := hi
 refine ⟨_, pe_comp S hc pi (fun c => (Classical.choose_spec (hg c)).1) (fun c => (Classical.choose_spec (ht c)).1) (fun c => (Classical.choose_spec (he c)).1) hs, ?_⟩
 exact comp_sem hi (fun c => (Classical.choose_spec (hg c)).2) (fun c => (Classical.choose_spec (ht c)).2) (fun c => (Classical.choose_spec (he c)).2)
end
end
end FL
namespace L2
open PySem PySem.Spec PyProof.Rows
section
variable {X : Cx}
inductive TyV (K : PySem.W.Frag) (H : Hp) : V → Value → Prop where
 | of {x : V} {t : Value} (h : TyOf K H x t) : TyV K H x t
 | lstK {a : Addr} {o : Obj} (h : K.lookup a = some o) (c : o.cls = .type "list") : TyV K H (.ref a) (.type "list")
 | tupK {a : Addr} {o : Obj} (h : K.lookup a = some o) (c : o.cls = .type "tuple") : TyV K H (.ref a) (.type "tuple")
 | tupF {a : Addr} {o : Obj} {xs : List V} (h : H a = some (.frz o (.tup xs))) : TyV K H (.ref a) (.type "tuple")
noncomputable def clsV : V → Value → Prop
 | .ty n, u => u = .type n
 | .ref a, u => u = .ref a
 | _, _ => False
theorem call_isi : CallR X (.builtin "isinstance") (fun xs H Q => ∃ x c cv t b, xs = [x, c] ∧ clsV c cv ∧ TyV X.K H x t ∧ PySem.W.kitOne X.K t cv = some b ∧ Q (.bl b) H) := by
 intro pins s σ H xs us Q I r h
 obtain ⟨x, c, cv, t, b, rfl, hc, ty, e, q⟩ := h
 obtain ⟨u, u2, rfl, ru, ru2⟩ := vals2 r
 have e2 : u2 = cv := by
  cases c with
  | ty n => cases (show cv = .type n from hc); cases (show u2 = .type n from ru2); rfl
  | ref a => cases (show cv = .ref a from hc); cases (show u2 = .ref a from ru2); rfl
  | _ => exact (show False from hc).elim
 subst e2
 have fin : ∀ tk, EP X pins σ Q (.bool b) { s with toks := tk } := fun tk => ⟨.bl b, H, I.tok tk, rfl, q⟩
 cases ty with
 | of h => exact isinst_ok I ru h e fin
 | @lstK a o h c =>
   cases (show u = Value.ref a from ru)
   exact PySem.W.kia_one PySem.W.kitx_list I.kIn ⟨o, I.kIn _ _ h, c⟩ e (fun z => nomatch z) fin
 | @tupK a o h c =>
   cases (show u = Value.ref a from ru)
   exact PySem.W.kia_one PySem.W.kitx_tuple I.kIn ⟨o, I.kIn _ _ h, c⟩ e (fun z => nomatch z) fin
 | @tupF a o xs ea =>
   cases (show u = Value.ref a from ru)
   obtain ⟨e0, _, _, _, p⟩ := (show ObjOk X.prog X.w H s.heap a (.frz o (.tup xs)) from I.hok a _ ea)
   obtain ⟨o', h1, h2, _⟩ := p
   exact PySem.W.kia_one PySem.W.kitx_tuple I.kIn ⟨o', h1, h2⟩ e (fun z => nomatch z) fin
theorem bools_of : ∀ {bs : List Bool} {us : List Value}, Vals (bs.map V.bl) us → LSm.BoolsAre us bs
 | [], _, .nil => .nil
 | b :: r, _, .cons h t => by
   cases (show _ = Value.bool b from h)
   exact .cons b (bools_of t)
theorem call_allB (hc : X.calm = true) : CallR X (.builtin "all") (fun xs H Q => ∃ (p : Addr) (bs : List Bool), xs = [.ref p] ∧ SqL X.K H p (bs.map V.bl) ∧ Q (.bl (bs.all id)) H) := by
 intro pins s σ H xs us Q I r h
 obtain ⟨p, bs, rfl, hq, q⟩ := h
 obtain ⟨u, rfl, ru⟩ := vals1 r
 cases ru
 obtain ⟨its, rv, pl, hz⟩ := I.list hq
 have hlt : p < s.heap.objs.size := by obtain ⟨_, e, _⟩ := pl.isList; exact Heap.lt_size e
 have hb := bools_of rv
 refine call_all_walk (wpAny_pyIter_list pl.isList ?_)
 refine ⟨s.heap.objs.size, [s.heap.objs.size, p], [s.heap.objs.size], its.toArray.size, _, _, fun i => (bs[i]?).getD true, rfl, Walks.list (A := X.A.in1) (I.ok.hd hc) _ p (Nat.ne_of_lt hlt) its.toArray,
  ⟨⟨_, Heap.get?_push_size _ rfl, rfl, rfl⟩, pl.isList.push _⟩, fun i v s' Q' E' hP hQ => ?_, fun h' tk hk => ?_⟩
 · obtain ⟨b, e, rfl⟩ := hb.get i v (by simpa using hP)
   simp only [e, Option.getD_some] at hQ
   exact wpAny_truthy_bool hQ
 · have e : ((List.range its.toArray.size).all fun i => (bs[i]?).getD true) = bs.all id := by
    rw [List.size_toArray, hb.length]; exact LSm.range_all bs
   rw [e]
   exact ⟨.bl _, H, I.kept (LSm.kept_iter hk), rfl, q⟩
end
end L2
namespace FL
open PySem PySem.Spec PyProof.Rows L2
section
variable {X : Cx}
noncomputable def kitO (t T : String) : Option Bool := if ((Value.type t) == (Value.type T)) = true then some true else if PySem.W.kitMeta T = true then (fastBuiltinMro t).map (·.contains (.type T)) else none
theorem kit_all : ∀ t ∈ kitN, ∀ T ∈ kitT, kitO t T = some (t == T || (t == "bool" && T == "int")) := by decide +kernel
theorem kit_of {K : Frag} {t T : String} {b : Bool} (h : kitF t T = some b) : PySem.W.kitOne K (.type t) (.type T) = some b := by
 unfold kitF at h
 split at h
 · rename_i hm
   cases h
   exact kit_all t hm.1 T hm.2
 · cases h
theorem ty_of {K : Frag} {H : Hp} {O : Addr → Prop} {v : V} {d : D} {t : String} (r : WRep K H O v d) (e : tyD d = some t) : TyV K H v (.type t) := by
 rcases r with r | ⟨a, xs, l, rfl, rfl, ho, h, rs⟩
 · cases r with
   | non => cases e; exact .of .non
   | bl b => cases e; exact .of (.bl b)
   | int i => cases e; exact .of (.int i)
   | str x => cases e; exact .of (.str x)
   | tup n h r =>
     cases e
     rcases h with h | ⟨o, h⟩
     · exact .of (.tup h)
     · exact .tupF h
   | tupK h r => cases e; obtain ⟨o, its, m, hk, hc, _⟩ := h; exact .tupK hk hc
   | lst n h r =>
     cases e
     rcases h with h | ⟨o, h⟩
     · exact .of (.lst h)
     · exact .of (.frz h)
   | lstK h r => cases e; obtain ⟨o, its, m, hk, hc, _⟩ := h; exact .lstK hk hc
   | dct n h e' r => cases e; exact .of (.dK h)
   | dcf n h e' r => cases e
   | ins c n h e' r => cases e
   | clo tx h e' nd c r => cases e
   | fnK h => cases e
 · cases e; exact .of (.lst h)
theorem pv_isi {p pT pos : Pos} {e : Expr} {f : FE} {x : Str} {T : String} (hm : X.mg "isinstance" = none) (hT : X.mg x = none) (hv : bootBuiltins x = some (.type T)) (he : PVw X e f) (hg : Gl X "isinstance" := by rfl) (hgT : Gl X x := by rfl)
  (h1 : starEach [e, .Name x pT] X.env = (false, eval e X.env) :: starEach [.Name x pT] X.env := by rfl) (h2 : starEach [.Name x pT] X.env = (false, eval (.Name x pT) X.env) :: starEach [] X.env := by rfl) (h3 : (backTo pos (starEach [.Name x pT] X.env)).any (·.1) = false := by rfl)
  (hn : x ≠ "__name__" := by decide) (hd : (x == ("__debug__" : Str)) = false := by decide) : PV X (.Call (.Name "isinstance" p) [e, .Name x pT] [] pos) (isiG T f) := by
 obtain ⟨t, ht, hf⟩ := he
 refine ⟨_, pe_callB call_isi hg hm (by decide +kernel) (pa_cons ht (pa_cons (pe_bltn (v := .ty T) hgT hT hv rfl hn hd) pa_nil h2) h1) (by decide) (by decide) h1 h3, fun H₀ H O σ ds hd d Q o e q => ?_⟩
 unfold isiG at e
 obtain ⟨dx, hh, e⟩ := bnd e
 simp only [Option.bind_some, isiD] at e
 obtain ⟨t, ht, e⟩ := bnd e
 obtain ⟨b, hk, rfl⟩ := mpd e
 refine hf H₀ H O σ ds hd dx _ o hh fun v H' s r => ?_
 exact ⟨v, .ty T, .type T, .type t, b, rfl, rfl, ty_of r ht, kit_of hk, q _ H' s (.bl b)⟩
theorem bls_rep {K : Frag} {H : Hp} {O : Addr → Prop} : ∀ {xs : List V} {l : List D} {bs : List Bool}, Reps K H O xs l → blsD l = some bs → xs = bs.map V.bl
 | _, _, _, .nil, e => by cases e; rfl
 | _, _, bs, .cons (d := d) h t, e => by
   cases d with
   | bl b =>
     rename_i ds
     simp only [blsD] at e
     obtain ⟨r, hr, rfl⟩ := mpd e
     cases h
     rw [bls_rep t hr]
     rfl
   | _ => cases e
theorem cs_all : CallS X (fun xs H Q => ∃ (p : Addr) (bs : List Bool), xs = [.ref p] ∧ SqL X.K H p (bs.map V.bl) ∧ Q (.bl (bs.all id)) H) allD := by
 intro H O vs l d Q ho r e q
 match l, r, e with
 | [.lst l], .cons r .nil, e =>
   simp only [allD] at e
   obtain ⟨bs, hb, rfl⟩ := mpd e
   obtain ⟨a, xs, rfl, hs, rs⟩ := r.seqL
   refine ⟨a, bs, rfl, ?_, q _ H (Same.refl _) (.bl _)⟩
   rw [← bls_rep rs hb]
   exact hs
theorem pv_all {p pos : Pos} {e : Expr} {g : FA} (hc : X.calm = true) (hm : X.mg "all" = none) (ha : PAv X [e] g) (hg : Gl X "all" := by rfl) (he : starEach [e] X.env = [(false, eval e X.env)] := by rfl) :
  PV X (.Call (.Name "all" p) [e] [] pos) (callB allD g) := pv_callB (call_allB hc) cs_all hm (by decide +kernel) ha hg (by decide) (by decide) he rfl
theorem pv_neg {a : Expr} {pos : Pos} {f : FE} (ha : PV X a f) : PV X (.UnaryOp .USub a pos) (un1 negD f) := by
 obtain ⟨ta, pa, ha⟩ := ha
 refine ⟨_, pe_un un_neg pa, fun H₀ H O σ ds hd d Q o e q => ?_⟩
 unfold un1 at e
 obtain ⟨dx, h1, e⟩ := bnd e
 cases dx with
 | int i =>
   cases e
   refine ha H₀ H O σ ds hd _ _ o h1 fun x H1 s1 r1 => ?_
   cases r1
   exact ⟨i, rfl, q _ H1 s1 (.int _)⟩
 | _ => cases e
variable (X) in
noncomputable def PVd (e : Expr) (f : FE) : Prop := ∃ t, PE X e t ∧ ∀ H₀ H O σ ds hd d Q, Ok X.K H₀ H O σ ds hd → f ds = some d → (∀ v H', Same H H' → Rep X.K H' (Old H) v d → Q v H') → t σ H Q
end
section
variable {X : Cx}
noncomputable def compOk (sc scope : Scope) (N NY : List Str) (mp : List (Option Nat)) : Bool :=
 scope.kind == .function && scope.names.all (fun y => y.2 != .cell) && scope.names.all (fun y => y.2 != .local || scope.names.lookup y.1 == some .local)
 && scope.names.all (fun y => y.2 != .free || (sc.names.lookup y.1 == some .cell || sc.names.lookup y.1 == some .free)) && mp.length == NY.length
 && (List.range NY.length).all (fun i => match NY[i]?, mp[i]? with | some x, some (some j) => N[j]? == some x && scope.names.lookup x == some .free | _, _ => true)
theorem comp_scope {scope : Scope} {NY : List Str} {mp : List (Option Nat)} (h : compOk X.env.scope scope X.N NY mp = true) : CompScope X scope NY mp := by
 unfold compOk at h
 simp only [Bool.and_eq_true, List.all_eq_true, beq_iff_eq] at h
 obtain ⟨⟨⟨⟨⟨h1, h2⟩, h3⟩, h4⟩, h5⟩, h6⟩ := h
 refine ⟨h1, fun y hy => by simpa using h2 y hy, fun y hy hk => ?_, fun y hy hk => ?_, h5, fun i x j e1 e2 => ?_⟩
 · have := h3 y hy
   simpa [hk] using this
 · have := h4 y hy
   simp only [hk, bne_self_eq_false, Bool.false_or, Bool.or_eq_true, beq_iff_eq] at this
   exact this
 · have hi : i ∈ List.range NY.length := List.mem_range.mpr (List.getElem?_eq_some_iff.mp e1).1
   have := h6 i hi
   rw [e1, e2] at this
   simpa using this
end
theorem does_run {g : FS} {n : Nat} {ds : List D} {r : Ret} (e : runG g n ds = some r) : Does g n ds r := by
 unfold runG at e
 cases h : g (args n ds) with
 | none => rw [h] at e; cases e
 | some o =>
   rw [h] at e
   cases o with
   | rt r' => cases e; exact .inl h
   | nx ds' => cases e; exact .inr ⟨rfl, ds', h⟩
   | bk ds' => cases e
   | ct ds' => cases e
end FL
namespace L2
open PySem PySem.Spec PyProof.Rows
section
variable {X : Cx}
theorem op_mulB : OpR X (binaryOp .Mult) (rI IntMulOk fun i j => .int (i * j)) := opI fun _ _ _ _ _ _ _ hc q => mul_int q hc
theorem op_powB : OpR X (binaryOp .Pow) (rI FL.CPowB fun i j => .int (i ^ j.toNat)) := opI fun _ _ _ _ _ _ _ hc q => pow_int hc.1 hc.2 q
noncomputable def rCatS (K : PySem.W.Frag) : R2 := fun x y H Q => ∃ l b xs zs, x = .ref l ∧ y = .ref b ∧ SqL K H l xs ∧ SqL K H b zs ∧ xs.length + zs.length ≤ sizeLine ∧ ∀ p, H p = none → Q (.ref p) (upd H p (.lst (xs ++ zs)))
theorem op_catS : OpR X (binaryOp .Add) (rCatS X.K) := by
 intro pins s σ H x y v u Q I rx ry h
 obtain ⟨l, b, xs, zs, rfl, rfl, hH, hB, hz, q⟩ := h
 cases rx
 cases ry
 obtain ⟨its, r, pl, z⟩ := I.list hH
 obtain ⟨its2, r2, pl2, z2⟩ := I.list hB
 obtain ⟨⟨cls, dd, data, sl⟩, ho, hc, n, hd⟩ := pl.isList
 obtain ⟨⟨cls2, dd2, data2, sl2⟩, ho2, hc2, n2, hd2⟩ := pl2.isList
 simp only at hc hd hc2 hd2
 subst hc hd hc2 hd2
 have hl := r.length
 have hl2 := r2.length
 refine concat_meets ⟨_, ho, rfl⟩ ⟨_, ho2, rfl⟩ noFill_list_add seq_list_add PySem.F.slot_list_add PySem.F.entry_list_add (PySem.F.args_list_add_2 _ _) (list_addW l b its.toArray its2.toArray n n2 dd dd2 sl sl2 (by simp only [List.size_toArray]; omega)) ⟨ho, ho2, ?_⟩
 have ea : its.toArray ++ its2.toArray = (its ++ its2).toArray := by simp
 rw [ea]
 exact ⟨.ref _, _, I.lnew (t' := s.toks) (r.append r2) (by rw [List.length_append]; omega), rfl, q _ I.fresh⟩
end
end L2
namespace FL
open PySem PySem.Spec PyProof.Rows L2
section
variable {X : Cx}
variable (X) in
noncomputable def PVn (e : Expr) (f : FE) : Prop := ∃ t, PE X e t ∧ ∀ H₀ H O σ ds hd d Q, Ok X.K H₀ H O σ ds hd → f ds = some d → (∀ v H', Same H H' → Rep X.K H' none0 v d → Q v H') → t σ H Q
variable (X) in
noncomputable def PAn (es : List Expr) (f : FA) : Prop := ∃ t, PA X es t ∧ ∀ H₀ H O σ ds hd l Q, Ok X.K H₀ H O σ ds hd → f ds = some l → (∀ vs H', Same H H' → Reps X.K H' none0 vs l → Q vs H') → t σ H Q
theorem PVw.n {e : Expr} {f : FE} (h : PVw X e f) : PVn X e f := by
 obtain ⟨t, ht, hf⟩ := h
 exact ⟨t, ht, fun H₀ H O σ ds hd d Q o e q => hf H₀ H O σ ds hd d Q o e fun v H' s r => q v H' s r.any⟩
theorem PV.n {e : Expr} {f : FE} (h : PV X e f) : PVn X e f := h.w.n
theorem pan_nil : PAn X [] nilA := ⟨_, pa_nil, fun _ H _ _ _ _ _ _ _ e q => by cases e; exact q _ H (Same.refl _) .nil⟩
theorem pan_cons {e : Expr} {es : List Expr} {f : FE} {g : FA} (ha : PVn X e f) (hr : PAn X es g) (hs : starEach (e :: es) X.env = (false, eval e X.env) :: starEach es X.env := by rfl) : PAn X (e :: es) (consA f g) := by
 obtain ⟨t, ht, hf⟩ := ha
 obtain ⟨u, hu, hg⟩ := hr
 refine ⟨_, pa_cons ht hu hs, fun H₀ H O σ ds hd l Q o e q => ?_⟩
 unfold consA at e
 obtain ⟨x, h, e⟩ := bnd e
 obtain ⟨r, h2, rfl⟩ := mpd e
 refine hf H₀ H O σ ds hd x _ o h fun v H1 s1 r1 => ?_
 refine hg H₀ H1 O σ ds hd r _ (o.mono s1) h2 fun vs H2 s2 r2 => ?_
 exact q _ H2 (s1.trans s2) (.cons (r1.mono s2) r2)
section
variable {k : Nat} {f : Addr} {fd : FuncData} {ps : List Str} {n : Nat} {F : List D → Option Ret} {x : Str} {p pos : Pos} {e : Expr} {es : List Expr} {g : FA}
theorem pv_callN (Fn : FnOk X.prog X.w X.K X.mg X.base CX0 k f fd ps (spF X.K n F)) (hr : Room k X.A) (hm : X.mg x = some (.ref f)) (hk : PySem.W.keepIn X.K (.ref f) = true) (hb : Binds X.K fd ps []) (ha : PAn X (e :: es) g)
  (hg : Gl X x := by rfl) (hdb : (x == ("__debug__" : Str)) = false := by decide) (he : starEach (e :: es) X.env = (false, eval e X.env) :: starEach es X.env := by rfl) (hpl : (backTo pos (starEach es X.env)).any (·.1) = false := by rfl) :
  PV X (.Call (.Name x p) (e :: es) [] pos) (callV n F g) := by
 obtain ⟨t, ht, hf⟩ := ha
 refine ⟨_, pe_call (CX := CX0) (E := E0) Fn hr hg hm hk hb .nil pass0 ht hdb he hpl, fun H₀ H O σ ds hd d Q o e q => ?_⟩
 unfold callV at e
 obtain ⟨l, h, e⟩ := bnd e
 split at e
 · rename_i hln
   obtain ⟨r, h2, e⟩ := bnd e
   refine hf H₀ H O σ ds hd l _ o h fun vs H1 s1 r1 => ?_
   have hl := r1.length
   refine ⟨by simp only [List.append_nil]; omega, l, r, by simpa using r1, h2, fun v H' s' ro => q v H' (s1.trans s') ?_⟩
   exact retV_ok ro e fun a ha => (o.mono s1).old ha
 · cases e
theorem pvf_callN (Fn : FnOk X.prog X.w X.K X.mg X.base CX0 k f fd ps (spF X.K n F)) (hr : Room k X.A) (hm : X.mg x = some (.ref f)) (hk : PySem.W.keepIn X.K (.ref f) = true) (hb : Binds X.K fd ps []) (ha : PAn X (e :: es) g)
  (hg : Gl X x := by rfl) (hdb : (x == ("__debug__" : Str)) = false := by decide) (he : starEach (e :: es) X.env = (false, eval e X.env) :: starEach es X.env := by rfl) (hpl : (backTo pos (starEach es X.env)).any (·.1) = false := by rfl) :
  PVf X (.Call (.Name x p) (e :: es) [] pos) (callF n F g) := by
 obtain ⟨t, ht, hf⟩ := ha
 refine ⟨_, pe_call (CX := CX0) (E := E0) Fn hr hg hm hk hb .nil pass0 ht hdb he hpl, fun H₀ H O σ ds hd d Q o e q => ?_⟩
 unfold callF at e
 obtain ⟨l, h, e⟩ := bnd e
 split at e
 · rename_i hln
   obtain ⟨r, h2, e⟩ := bnd e
   refine hf H₀ H O σ ds hd l _ o h fun vs H1 s1 r1 => ?_
   have hl := r1.length
   refine ⟨by simp only [List.append_nil]; omega, l, r, by simpa using r1, h2, fun v H' s' ro => ?_⟩
   obtain ⟨a, xs, rfl, h3, h4, h5⟩ := retF_ok ro e fun a ha => (o.mono s1).old ha
   exact q a xs H' (s1.trans s') (s1.free h3) h4 h5
 · cases e
end
noncomputable def OpN (X : Cx) (r : R2) (op : D → D → Option D) : Prop := ∀ H O x y dx dy d Q, Rep X.K H none0 x dx → Rep X.K H none0 y dy → op dx dy = some d → (∀ v H', Same H H' → Rep X.K H' O v d → Q v H') → r x y H Q
theorem pvn_tOp {r : R2} {op : D → D → Option D} (hs : OpN X r op) {fa fb : FE} {ta tb : TE} (ha : ∀ H₀ H O σ ds hd d Q, Ok X.K H₀ H O σ ds hd → fa ds = some d → (∀ v H', Same H H' → Rep X.K H' none0 v d → Q v H') → ta σ H Q)
  (hb : ∀ H₀ H O σ ds hd d Q, Ok X.K H₀ H O σ ds hd → fb ds = some d → (∀ v H', Same H H' → Rep X.K H' none0 v d → Q v H') → tb σ H Q) :
  ∀ H₀ H O σ ds hd d Q, Ok X.K H₀ H O σ ds hd → bin2 op fa fb ds = some d → (∀ v H', Same H H' → Rep X.K H' O v d → Q v H') → tOp r ta tb σ H Q := by
 intro H₀ H O σ ds hd d Q o e q
 unfold bin2 at e
 obtain ⟨dx, h1, e⟩ := bnd e
 obtain ⟨dy, h2, e⟩ := bnd e
 refine ha H₀ H O σ ds hd dx _ o h1 fun x H1 s1 r1 => ?_
 refine hb H₀ H1 O σ ds hd dy _ (o.mono s1) h2 fun y H2 s2 r2 => ?_
 exact hs H2 O x y dx dy d Q (r1.mono s2) r2 e fun v H' s r => q v H' ((s1.trans s2).trans s) r
theorem pv_cmpN {op : CmpOp} {r : R2} {opD : D → D → Option D} {a b : Expr} {fa fb : FE} {pos : Pos} (ho : OpR X (compareOp op) r) (hs : OpN X r opD) (ha : PVn X a fa) (hb : PVn X b fb) (hm : behindInMarks op b = false) : PV X (.Compare a [op] [b] pos) (bin2 opD fa fb) := by
 obtain ⟨ta, pa, ha⟩ := ha
 obtain ⟨tb, pb, hb⟩ := hb
 exact ⟨_, pe_cmpR ho pa pb hm, pvn_tOp hs ha hb⟩
theorem pt_cmpN {op : CmpOp} {r : R2} {opD : D → D → Option D} {a b : Expr} {fa fb : FE} {pos : Pos} (ho : OpR X (compareOp op) r) (hs : OpN X r opD) (ha : PVn X a fa) (hb : PVn X b fb) (hm : behindInMarks op b = false) : PTv X (.Compare a [op] [b] pos) (testB (bin2 opD fa fb)) := by
 obtain ⟨ta, pa, ha⟩ := ha
 obtain ⟨tb, pb, hb⟩ := hb
 refine ⟨_, pt_cmpR ho pa pb hm, fun H₀ H O σ ds hd k Q o e q => ?_⟩
 unfold testB at e
 obtain ⟨d, h, e⟩ := bnd e
 refine pvn_tOp hs ha hb H₀ H O σ ds hd d _ o h fun v H' s r => ?_
 cases d with
 | bl c => cases e; cases r; exact ⟨_, rfl, q H' s⟩
 | _ => cases e
mutual
theorem Rep.reads {pins : List (Addr × Obj)} {σ : L2.St} {H : Hp} {s : Shared} {O : Addr → Prop} (I : Inv X pins σ H s) : ∀ {v : V} {d : D} {u : Value} {n : Nat}, Rep X.K H O v d → RelV v u → shal n d = true → ∃ as, Reads s.heap u (toPy d) as ∧ (toPy d).canLay0 = true ∧ (toPy d).depth ≤ n + 1
 | _, _, _, _, .non, r, _ => by cases r; exact ⟨[], .none, rfl, Nat.zero_le _⟩
 | _, _, _, _, .bl b, r, _ => by cases r; exact ⟨[], .bool b, rfl, Nat.zero_le _⟩
 | _, _, _, _, .int i, r, _ => by obtain ⟨t, rfl⟩ := r; exact ⟨[], .int i t, rfl, Nat.zero_le _⟩
 | _, _, _, _, .str x, r, h => by obtain ⟨t, rfl⟩ := r; exact ⟨[], .str x t, by simpa [toPy, PyData.canLay0, shal] using h, Nat.zero_le _⟩
 | _, _, _, n, .tup m h q, r, hs => by
   cases r
   obtain ⟨its, rv, ⟨o, ho, hc, k, hd⟩, hz⟩ := I.tuple (.inl h)
   obtain ⟨as, h1, h2, h3⟩ := Reps.reads I q rv (by simpa [shal] using hs)
   exact ⟨as, .tuple ho hc hd (by simpa using h1), by simpa [toPy, PyData.canLay0] using h2, by simpa [toPy, PyData.depth] using h3⟩
 | _, _, _, n, .tupK h q, r, hs => by
   cases r
   obtain ⟨its, rv, ⟨o, ho, hc, k, hd⟩, hz⟩ := I.tuple (.inr h)
   obtain ⟨as, h1, h2, h3⟩ := Reps.reads I q rv (by simpa [shal] using hs)
   exact ⟨as, .tuple ho hc hd (by simpa using h1), by simpa [toPy, PyData.canLay0] using h2, by simpa [toPy, PyData.depth] using h3⟩
 | _, _, _, n, .lst m h q, r, hs => by
   cases r
   obtain ⟨its, rv, pl, hz⟩ := I.list (.inl h)
   obtain ⟨o, ho, hc, k, hd⟩ := pl.isList
   obtain ⟨as, h1, h2, h3⟩ := Reps.reads I q rv (by simpa [shal] using hs)
   exact ⟨_, .list ho hc hd (by simpa using h1), by simpa [toPy, PyData.canLay0] using h2, by simpa [toPy, PyData.depth] using h3⟩
 | _, _, _, n, .lstK h q, r, hs => by
   cases r
   obtain ⟨its, rv, pl, hz⟩ := I.list (.inr h)
   obtain ⟨o, ho, hc, k, hd⟩ := pl.isList
   obtain ⟨as, h1, h2, h3⟩ := Reps.reads I q rv (by simpa [shal] using hs)
   exact ⟨_, .list ho hc hd (by simpa using h1), by simpa [toPy, PyData.canLay0] using h2, by simpa [toPy, PyData.depth] using h3⟩
 | _, _, _, _, .dct _ _ _ _, _, hs => by simp [shal] at hs
 | _, _, _, _, .dcf _ _ _ _, _, hs => by simp [shal] at hs
 | _, _, _, _, .ins _ _ _ _ _, _, hs => by simp [shal] at hs
 | _, _, _, _, .clo _ _ _ _ _ _, _, hs => by simp [shal] at hs
 | _, _, _, _, .fnK _, _, hs => by simp [shal] at hs
theorem Reps.reads {pins : List (Addr × Obj)} {σ : L2.St} {H : Hp} {s : Shared} {O : Addr → Prop} (I : Inv X pins σ H s) : ∀ {vs : List V} {ds : List D} {us : List Value} {n : Nat}, Reps X.K H O vs ds → Vals vs us → shals n ds = true → ∃ as, ReadsAll s.heap us (toPys ds) as ∧ PyData.canLayAll0 (toPys ds) = true ∧ PyData.depthAll (toPys ds) ≤ n
 | _, _, _, _, .nil, r, _ => by cases r; exact ⟨[], .nil, rfl, Nat.zero_le _⟩
 | _, _, _, 0, .cons h t, _, hs => by simp [shals] at hs
 | _, _, _, n + 1, .cons h t, r, hs => by
   cases r with
   | cons r1 r2 =>
     simp only [shals, Bool.and_eq_true] at hs
     obtain ⟨as, h1, h2, h3⟩ := Rep.reads I h r1 hs.1
     obtain ⟨bs, k1, k2, k3⟩ := Reps.reads I t r2 hs.2
     exact ⟨_, .cons h1 k1, by simp [toPys, PyData.canLayAll0, h2, k2], by simp only [toPys, PyData.depthAll]; omega⟩
end
noncomputable def rEqD (X : Cx) (neg : Bool) : R2 := fun x y H Q => ∃ dx dy, Rep X.K H none0 x dx ∧ Rep X.K H none0 y dy ∧ shal 40 dx = true ∧ shal 40 dy = true ∧ Q (.bl (if neg then !eqvD dx dy else eqvD dx dy)) H
theorem op_eqD (hu : X.A.units + 100 < cLine) : OpR X (compareOp .Eq) (rEqD X false) := by
 intro pins s σ H x y v u Q I rx ry h
 obtain ⟨dx, dy, r1, r2, s1, s2, q⟩ := h
 obtain ⟨as, a1, a2, a3⟩ := r1.reads I rx s1
 obtain ⟨bs, b1, b2, b3⟩ := r2.reads I ry s2
 exact SeqAt.compareEq_reads a1 b1 a2 b2 (by omega) ⟨.bl _, H, I, rfl, q⟩
theorem op_neD (hu : X.A.units + 100 < cLine) : OpR X (compareOp .NotEq) (rEqD X true) := by
 intro pins s σ H x y v u Q I rx ry h
 obtain ⟨dx, dy, r1, r2, s1, s2, q⟩ := h
 obtain ⟨as, a1, a2, a3⟩ := r1.reads I rx s1
 obtain ⟨bs, b1, b2, b3⟩ := r2.reads I ry s2
 exact SeqAt.compareNe_reads a1 b1 a2 b2 (by omega) ⟨.bl _, H, I, rfl, q⟩
theorem on_eqD : OpN X (rEqD X false) eqD := by
 intro H O x y dx dy d Q rx ry e q
 unfold eqD at e
 split at e
 · rename_i hs
   cases e
   exact ⟨dx, dy, rx, ry, hs.1, hs.2, q _ H (Same.refl _) (.bl _)⟩
 · cases e
theorem on_neD : OpN X (rEqD X true) neD := by
 intro H O x y dx dy d Q rx ry e q
 unfold neD at e
 split at e
 · rename_i hs
   cases e
   exact ⟨dx, dy, rx, ry, hs.1, hs.2, q _ H (Same.refl _) (.bl _)⟩
 · cases e
theorem hu100 {k : Nat} {A : Around} (hr : Room k A) : A.units + 100 < cLine := by have := hr.un; omega
theorem pv_eq {a b : Expr} {fa fb : FE} {pos : Pos} {k : Nat} (hr : Room k X.A) (ha : PVn X a fa) (hb : PVn X b fb) : PV X (.Compare a [.Eq] [b] pos) (bin2 eqD fa fb) := pv_cmpN (op_eqD (hu100 hr)) on_eqD ha hb (nomark _)
theorem pt_eq {a b : Expr} {fa fb : FE} {pos : Pos} {k : Nat} (hr : Room k X.A) (ha : PVn X a fa) (hb : PVn X b fb) : PTv X (.Compare a [.Eq] [b] pos) (testB (bin2 eqD fa fb)) := pt_cmpN (op_eqD (hu100 hr)) on_eqD ha hb (nomark _)
theorem pt_ne {a b : Expr} {fa fb : FE} {pos : Pos} {k : Nat} (hr : Room k X.A) (ha : PVn X a fa) (hb : PVn X b fb) : PTv X (.Compare a [.NotEq] [b] pos) (testB (bin2 neD fa fb)) := pt_cmpN (op_neD (hu100 hr)) on_neD ha hb (nomark _)
theorem non_iff {K : Frag} {H : Hp} {O : Addr → Prop} {v : V} {d : D} (r : Rep K H O v d) : decide (v = .non) = (match d with | .non => true | _ => false) := by
 cases r <;> rfl
theorem on_is : OpN X (fun x y H Q => y = .non ∧ Q (.bl (decide (x = .non))) H) isD := by
 intro H O x y dx dy d Q rx ry e q
 cases dy <;> first | (cases dx <;> simp [isD] at e; done) | skip
 cases ry
 refine ⟨rfl, ?_⟩
 rw [non_iff rx]
 cases dx <;> (simp only [isD, Option.some.injEq] at e; subst e; exact q _ H (Same.refl _) (.bl _))
theorem on_not : OpN X (fun x y H Q => y = .non ∧ Q (.bl (!decide (x = .non))) H) notD := by
 intro H O x y dx dy d Q rx ry e q
 cases dy <;> first | (cases dx <;> simp [notD] at e; done) | skip
 cases ry
 refine ⟨rfl, ?_⟩
 rw [non_iff rx]
 cases dx <;> (simp only [notD, Option.some.injEq] at e; subst e; exact q _ H (Same.refl _) (.bl _))
theorem pv_isnot {a b : Expr} {fa fb : FE} {pos : Pos} (ha : PVn X a fa) (hb : PVn X b fb) : PV X (.Compare a [.IsNot] [b] pos) (bin2 notD fa fb) := pv_cmpN op_notN on_not ha hb (nomark _)
theorem pt_is {a b : Expr} {fa fb : FE} {pos : Pos} (ha : PVn X a fa) (hb : PVn X b fb) : PTv X (.Compare a [.Is] [b] pos) (testB (bin2 isD fa fb)) := pt_cmpN op_isN on_is ha hb (nomark _)
theorem pt_isnot {a b : Expr} {fa fb : FE} {pos : Pos} (ha : PVn X a fa) (hb : PVn X b fb) : PTv X (.Compare a [.IsNot] [b] pos) (testB (bin2 notD fa fb)) := pt_cmpN op_notN on_not ha hb (nomark _)
theorem scl_flat {K : Frag} {H : Hp} {O : Addr → Prop} {v : V} {d : D} (r : Rep K H O v d) (h : sclD d = true) : flatV v = true := by
 cases r <;> first | rfl | (simp [sclD] at h; done)
theorem scl_eq {K : Frag} {H : Hp} {O O' : Addr → Prop} {v v' : V} {d d' : D} (r : Rep K H O v d) (h : sclD d = true) (r' : Rep K H O' v' d') (h' : sclD d' = true) : eqV v v' = eqvD d d' := by
 cases r <;> first | (simp [sclD] at h; done) | skip
 all_goals (cases r' <;> first | (simp [sclD] at h'; done) | rfl)
theorem scl_all {K : Frag} {H : Hp} {O O' : Addr → Prop} {x : V} {dx : D} (rx : Rep K H O' x dx) (hx : sclD dx = true) : ∀ {xs : List V} {l : List D}, Reps K H O xs l → l.all sclD = true → xs.all flatV = true ∧ inV x xs = l.any fun z => eqvD z dx
 | _, _, .nil, _ => ⟨rfl, rfl⟩
 | _, _, .cons r t, h => by
   rw [List.all_cons, Bool.and_eq_true] at h
   obtain ⟨h1, h2⟩ := scl_all rx hx t h.2
   refine ⟨by rw [List.all_cons, scl_flat r h.1, h1]; rfl, ?_⟩
   unfold inV at h2 ⊢
   rw [List.any_cons, List.any_cons, h2, scl_eq r h.1 rx hx]
theorem on_in {neg : Bool} : OpN X (rIn X.K neg) (inD neg) := by
 intro H O x y dx dy d Q rx ry e q
 unfold inD at e
 obtain ⟨l, hl, e⟩ := bnd e
 split at e
 · rename_i hs
   cases e
   cases dy with
   | lst l' =>
     cases hl
     obtain ⟨a, xs, rfl, hq, rs⟩ := WRep.seqL (.inl ry)
     obtain ⟨h1, h2⟩ := scl_all rx hs.1 rs hs.2
     refine ⟨a, xs, rfl, .inl hq, scl_flat rx hs.1, h1, ?_⟩
     rw [h2]
     exact q _ H (Same.refl _) (.bl _)
   | tup l' =>
     cases hl
     obtain ⟨a, xs, rfl, hq, rs⟩ := WRep.seqT (.inl ry)
     obtain ⟨h1, h2⟩ := scl_all rx hs.1 rs hs.2
     refine ⟨a, xs, rfl, .inr hq, scl_flat rx hs.1, h1, ?_⟩
     rw [h2]
     exact q _ H (Same.refl _) (.bl _)
   | _ => cases hl
 · cases e
theorem pt_in {a b : Expr} {fa fb : FE} {pos : Pos} (ha : PVn X a fa) (hb : PVn X b fb) (hm : behindInMarks .In b = false := by rfl) : PTv X (.Compare a [.In] [b] pos) (testB (bin2 (inD false) fa fb)) := pt_cmpN op_in_seq on_in ha hb hm
theorem os_mul : OpS X (rI IntMulOk fun i j => .int (i * j)) mulD := by
 intro H O x y dx dy d Q ho rx ry e q
 cases dx <;> cases dy <;> first | (simp [mulD] at e; done) | skip
 simp only [mulD] at e
 split at e
 · rename_i hc
   cases e
   rw [rx.int', ry.int']
   exact ⟨_, _, rfl, rfl, hc, q _ H (Same.refl _) (.int _)⟩
 · cases e
theorem os_pow : OpS X (rI CPowB fun i j => .int (i ^ j.toNat)) powD := by
 intro H O x y dx dy d Q ho rx ry e q
 cases dx <;> cases dy <;> first | (simp [powD] at e; done) | skip
 simp only [powD] at e
 split at e
 · rename_i hc
   cases e
   rw [rx.int', ry.int']
   exact ⟨_, _, rfl, rfl, hc, q _ H (Same.refl _) (.int _)⟩
 · cases e
theorem pvf_cat {a b : Expr} {fa fb : FE} {pos : Pos} (ha : PVw X a fa) (hb : PVw X b fb) : PVf X (.BinOp a .Add b pos) (catA fa fb) := by
 obtain ⟨ta, pa, ha⟩ := ha
 obtain ⟨tb, pb, hb⟩ := hb
 refine ⟨_, pe_op op_catS pa pb, fun H₀ H O σ ds hd l Q o e q => ?_⟩
 unfold catA at e
 obtain ⟨dx, h1, e⟩ := bnd e
 obtain ⟨dy, h2, e⟩ := bnd e
 cases dx <;> cases dy <;> first | (simp at e; done) | skip
 simp only at e
 split at e
 · rename_i hz
   cases e
   refine ha H₀ H O σ ds hd _ _ o h1 fun x H1 s1 r1 => ?_
   refine hb H₀ H1 O σ ds hd _ _ (o.mono s1) h2 fun y H2 s2 r2 => ?_
   obtain ⟨a1, xs, rfl, hq1, rs1⟩ := (r1.mono s2).seqL
   obtain ⟨a2, ys, rfl, hq2, rs2⟩ := r2.seqL
   refine ⟨a1, a2, xs, ys, rfl, rfl, hq1, hq2, by rw [rs1.length, rs2.length]; exact hz, fun p hp => ?_⟩
   refine q p _ _ ((s1.trans s2).trans (same_upd hp _)) ((s1.trans s2).free hp) upd_same ?_
   exact ((rs1.append rs2).more hp).mono (same_upd hp _)
 · cases e
variable (X) in
noncomputable def POv (e : Option Expr) (f : List Sl → Option (Option Int)) : Prop := ∃ t, PO X e t ∧ ∀ H₀ H O σ ds hd i Q, Ok X.K H₀ H O σ ds hd → f ds = some i → (∀ H', Same H H' → Q i H') → t σ H Q
theorem pov_no : POv X none noP := ⟨_, po_none, fun _ H _ _ _ _ _ _ _ e q => by cases e; exact q H (Same.refl _)⟩
theorem pov_so {e : Expr} {f : FE} (h : PVw X e f) : POv X (some e) (soP f) := by
 obtain ⟨t, ht, hf⟩ := h
 refine ⟨_, po_some ht, fun H₀ H O σ ds hd i Q o e q => ?_⟩
 unfold soP at e
 obtain ⟨d, h1, e⟩ := bnd e
 cases d <;> first | (cases e; done) | skip
 cases e
 refine hf H₀ H O σ ds hd _ _ o h1 fun v H' s r => ?_
 rw [r.int']
 exact ⟨_, rfl, q H' s⟩
theorem cut_reps {K : Frag} {H : Hp} {O : Addr → Prop} {xs : List V} {l : List D} {a b : Option Int} (rs : Reps K H O xs l) : Reps K H O (cutV xs a b) (cutD l a b) := by
 unfold cutV cutD
 rw [rs.length]
 exact (rs.drop _).take _
theorem pvf_slice {e : Expr} {lo hi : Option Expr} {f : FE} {gl gh : List Sl → Option (Option Int)} {p2 pos : Pos} (he : PVw X e f) (hl : POv X lo gl) (hh : POv X hi gh) : PVf X (.Subscript e (.Slice lo hi none p2) pos) (sliA f gl gh) := by
 obtain ⟨te, pe, he⟩ := he
 obtain ⟨tl, pl, hl⟩ := hl
 obtain ⟨th, ph, hh⟩ := hh
 refine ⟨_, pe_slice sl_list pe pl ph, fun H₀ H O σ ds hd l Q o e q => ?_⟩
 unfold sliA at e
 obtain ⟨d, h1, e⟩ := bnd e
 obtain ⟨a, h2, e⟩ := bnd e
 obtain ⟨b, h3, e⟩ := bnd e
 cases d <;> first | (cases e; done) | skip
 cases e
 refine he H₀ H O σ ds hd _ _ o h1 fun v H1 s1 r1 => ?_
 refine hl H₀ H1 O σ ds hd _ _ (o.mono s1) h2 fun H2 s2 => ?_
 refine hh H₀ H2 O σ ds hd _ _ ((o.mono s1).mono s2) h3 fun H3 s3 => ?_
 obtain ⟨a1, xs, rfl, hq, rs⟩ := ((r1.mono s2).mono s3).seqL
 refine ⟨a1, xs, rfl, hq, fun p hp => ?_⟩
 have ss := (s1.trans s2).trans s3
 refine q p _ _ (ss.trans (same_upd hp _)) (ss.free hp) upd_same ?_
 exact ((cut_reps rs).more hp).mono (same_upd hp _)
theorem pvf_list {e : Expr} {f : FE} {p pos : Pos} (hm : X.mg "list" = none) (he : PVw X e f) (hg : Gl X "list" := by rfl) (hs : starEach [e] X.env = [(false, eval e X.env)] := by rfl) : PVf X (.Call (.Name "list" p) [e] [] pos) (lisA f) := by
 obtain ⟨te, pe, he⟩ := he
 refine ⟨_, pe_callTy call_list_of hg hm (by decide +kernel) (pa_cons pe pa_nil hs) (by decide) (by decide) hs rfl, fun H₀ H O σ ds hd l Q o e q => ?_⟩
 unfold lisA at e
 obtain ⟨d, h1, e⟩ := bnd e
 refine he H₀ H O σ ds hd _ _ o h1 fun v H1 s1 r1 => ?_
 cases d <;> first | (cases e; done) | skip
 · cases e
   obtain ⟨a1, xs, rfl, hq, rs⟩ := r1.seqT
   refine ⟨a1, xs, rfl, .inr hq, fun p hp => ?_⟩
   exact q p _ _ (s1.trans (same_upd hp _)) (s1.free hp) upd_same ((rs.more hp).mono (same_upd hp _))
 · cases e
   obtain ⟨a1, xs, rfl, hq, rs⟩ := r1.seqL
   refine ⟨a1, xs, rfl, .inl hq, fun p hp => ?_⟩
   exact q p _ _ (s1.trans (same_upd hp _)) (s1.free hp) upd_same ((rs.more hp).mono (same_upd hp _))
theorem cs_max : CallS X (fun xs H Q => ∃ i j, xs = [.int i, .int j] ∧ Q (.int (if j > i then j else i)) H) mxD := by
 intro H O vs l d Q ho r e q
 match l, r, e with
 | [.int i, .int j], .cons r1 (.cons r2 .nil), e =>
   cases e
   exact ⟨i, j, by rw [r1.int', r2.int'], q _ H (Same.refl _) (.int _)⟩
theorem cs_min : CallS X (fun xs H Q => ∃ i j, xs = [.int i, .int j] ∧ Q (.int (if j < i then j else i)) H) mnD := by
 intro H O vs l d Q ho r e q
 match l, r, e with
 | [.int i, .int j], .cons r1 (.cons r2 .nil), e =>
   cases e
   exact ⟨i, j, by rw [r1.int', r2.int'], q _ H (Same.refl _) (.int _)⟩
theorem pv_max2 {p pos : Pos} {a b : Expr} {g : FA} (hc : X.calm = true) (hm : X.mg "max" = none) (ha : PAv X [a, b] g) (hg : Gl X "max" := by rfl) (he : starEach [a, b] X.env = (false, eval a X.env) :: starEach [b] X.env := by rfl) (hpl : (backTo pos (starEach [b] X.env)).any (·.1) = false := by rfl) :
  PV X (.Call (.Name "max" p) [a, b] [] pos) (callB mxD g) := pv_callB (call_max2 hc) cs_max hm (by decide +kernel) ha hg (by decide) (by decide) he hpl
theorem pv_min2 {p pos : Pos} {a b : Expr} {g : FA} (hc : X.calm = true) (hm : X.mg "min" = none) (ha : PAv X [a, b] g) (hg : Gl X "min" := by rfl) (he : starEach [a, b] X.env = (false, eval a X.env) :: starEach [b] X.env := by rfl) (hpl : (backTo pos (starEach [b] X.env)).any (·.1) = false := by rfl) :
  PV X (.Call (.Name "min" p) [a, b] [] pos) (callB mnD g) := pv_callB (call_min2 hc) cs_min hm (by decide +kernel) ha hg (by decide) (by decide) he hpl
theorem isEmpty_len {α β : Type} {xs : List α} {ys : List β} (h : xs.length = ys.length) : xs.isEmpty = ys.isEmpty := by
 cases xs <;> cases ys <;> simp_all
theorem PVn.t {e : Expr} {f : FE} (h : PVn X e f) (he : ∀ whole, isTrue e X.env whole = (do let v ← whole; standAt e.pos; holding [v] (truthy v)) := by intro _; rfl) : PTv X e (testT f) := by
 obtain ⟨t, ht, hf⟩ := h
 refine ⟨_, pt_truth ht he, fun H₀ H O σ ds hd k Q o e q => ?_⟩
 unfold testT at e
 obtain ⟨d, h, e⟩ := bnd e
 refine hf H₀ H O σ ds hd d _ o h fun v H' s r => ⟨k, ?_, q H' s⟩
 cases d with
 | non => cases e; cases r; exact rfl
 | bl b => cases e; cases r; exact rfl
 | int i => cases e; cases r; exact rfl
 | str x =>
   simp only [truD] at e
   split at e
   · rename_i hz; cases e; cases r; exact ⟨hz, rfl⟩
   · cases e
 | tup l =>
   cases e
   obtain ⟨a, xs, rfl, hq, rs⟩ := WRep.seqT (.inl r)
   exact .inr (.inl ⟨xs, hq, by rw [isEmpty_len rs.length]⟩)
 | lst l =>
   cases e
   obtain ⟨a, xs, rfl, hq, rs⟩ := WRep.seqL (.inl r)
   exact .inl ⟨xs, hq, by rw [isEmpty_len rs.length]⟩
 | _ => cases e
theorem psv_rel (i : Nat) {st : Stmt} {g : FS} (h : PSv X st g) : PSv X st (fun ds => g (relS i ds)) := by
 obtain ⟨t, ht, hf⟩ := h
 refine ⟨t, ht, fun H₀ H O σ ds hd out E o e q => ?_⟩
 have e : g (relS i ds) = some out := e
 by_cases hs : ∃ l, ds[i]? = some (.own l)
 · obtain ⟨l, hl⟩ := hs
   have e' : relS i ds = ds.set i (.v (.lst l)) := by unfold relS; rw [hl]
   rw [e'] at e
   obtain ⟨O', o'⟩ := o.release hl
   exact hf H₀ H O' σ _ hd out E o' e q
 · have e' : relS i ds = ds := by
    unfold relS
    split
    · rename_i l hl; exact (hs ⟨l, hl⟩).elim
    · rfl
   rw [e'] at e
   exact hf H₀ H O σ ds hd out E o e q
theorem psv_while (n : Nat) {c : Expr} {body : List Stmt} {pos : Pos} {fc : FT} {g : FS} (hp : PassesOwn (model X.prog X.w) X.A X.env X.xe) (hc : PTv X c fc) (hb : PSsv X body g) : PSv X (.While c body [] pos) (whileN fc g n) := by
 obtain ⟨tc, pc, hc⟩ := hc
 obtain ⟨tb, pb, hb⟩ := hb
 refine ⟨_, ps_while hp pc pb, fun H₀ H O σ ds hd out E o e h => ?_⟩
 refine ⟨fun m σ' H' => ∃ O' ds', Ok X.K H₀ H' O' σ' ds' hd ∧ whileN fc g m ds' = some out, ⟨n, O, ds, o, e⟩, ?_⟩
 rintro m σ1 H1 ⟨O1, ds1, o1, e1⟩
 cases m with
 | zero => cases e1
 | succ m =>
   simp only [whileN] at e1
   obtain ⟨k, h1, e1⟩ := bnd e1
   refine hc H₀ H1 O1 σ1 ds1 hd k _ o1 h1 fun H2 s2 => ?_
   cases k with
   | false =>
     simp only [Bool.false_eq_true, if_false, Option.some.injEq] at e1
     subst e1
     exact iteF (h σ1 H2 O1 (o1.mono s2))
   | true =>
     simp only [if_true] at e1
     refine iteT ⟨fun σ' H' => ∃ O' ds', Ok X.K H₀ H' O' σ' ds' hd ∧ whileN fc g m ds' = some out, fun σ' H' q => ⟨m, Nat.lt_succ_self _, q⟩, ?_⟩
     obtain ⟨o3, h2, e1⟩ := bnd e1
     refine hb H₀ H2 O1 σ1 ds1 hd o3 _ (o1.mono s2) h2 ?_
     cases o3 with
     | nx ds3 => exact fun σ3 H3 O3 ok3 => ⟨O3, ds3, ok3, e1⟩
     | ct ds3 => exact fun σ3 H3 O3 ok3 => ⟨O3, ds3, ok3, e1⟩
     | bk ds3 => cases e1; exact fun σ3 H3 O3 ok3 => h σ3 H3 O3 ok3
     | rt rr => cases e1; exact h
theorem psv_asg {tg e : Expr} {pos : Pos} {f : FE} {ga : D → List Sl → Option (List Sl)} (he : PV X e f) (hg : PGv X tg ga) (hs : swapsWithSole [tg] e pos.line X.env = pure false := by rfl) (hw : swappedStores [tg] e X.env = pure none := by rfl)
  (h1 : (assignEach [tg] X.env).map (·.2) = [assign tg X.env] := by rfl) : PSv X (.Assign [tg] e pos) (asgG ga f) := by
 obtain ⟨te, pe, he⟩ := he
 obtain ⟨tg', pg, hg⟩ := hg
 refine ⟨_, ps_asg pe pg hs hw h1, fun H₀ H O σ ds hd out E o e h => ?_⟩
 unfold asgG at e
 obtain ⟨d, h2, e⟩ := bnd e
 cases h3 : ga d ds with
 | none => rw [h3] at e; cases e
 | some ds' =>
   rw [h3] at e
   cases e
   refine he H₀ H O σ ds hd d _ o h2 fun v H1 s1 r1 => ?_
   exact hg H₀ H1 O σ ds hd v d ds' _ (o.mono s1) r1 h3 fun σ' o' => h σ' H1 O o'
theorem psv_ext {i : Nat} {x : Str} {e : Expr} {pos p1 p2 p3 : Pos} {fe : FA} (he : PVf X e fe) (hN : X.N[i]? = some x := by rfl) (hv : Vis X.env.scope x := by first | exact Or.inl rfl | exact Or.inr (Or.inl rfl) | exact Or.inr (Or.inr rfl)) (hd : (x == ("__debug__" : Str)) = false := by decide)
  (hcd : (x == ("__classdict__" : Str)) = false := by decide)
  (hfew : ((backTo p3 (starEach [e] X.env)).all (fun x => !x.1) && (backToKw p3 (keywordEach [] X.env)).all (fun x => x.1.isSome)
    && decide ([e].length + ([] : List Keyword).length + (if ([] : List Keyword).isEmpty then 0 else 1) < 30)) = true := by rfl)
  (hline : (p2.endLine == p3.line) = true := by rfl) (hs : starEach [e] X.env = (false, eval e X.env) :: starEach [] X.env := by rfl)
  (hbase : attributeBase (.Name x p1) "extend" X.env (eval (.Name x p1) X.env) = eval (.Name x p1) X.env := by rfl) (hsw : swapsWith (.Call (.Attribute (.Name x p1) "extend" p2) [e] [] p3) none pos.line X.env = pure false := by rfl) :
  PSv X (.Expr (.Call (.Attribute (.Name x p1) "extend" p2) [e] [] p3) pos) (extG i fe) := by
 obtain ⟨te, pe, he⟩ := he
 refine ⟨_, ps_expr (pe_bm PySem.F.plainAttrs_list PySem.F.slot_list_extend PySem.F.type_list_extend mt_extend (pe_var hN hv hd hcd) (pa_cons pe pa_nil hs) hbase hfew hline hs rfl) hsw, fun H₀ H O σ ds hd out E o e h => ?_⟩
 unfold extG at e
 cases hsl : ds[i]? with
 | none => rw [hsl] at e; cases e
 | some s =>
   rw [hsl] at e
   cases s with
   | v d' => cases e
   | no => cases e
   | exc _ => cases e
   | fr _ => cases e
   | ob _ _ => cases e
   | own l =>
     simp only at e
     obtain ⟨d, h1, e⟩ := bnd e
     split at e
     · rename_i hl
       cases e
       obtain ⟨a, xs, q1, q2, q3, q4⟩ := o.readO hsl
       refine ⟨.ref a, q1, .inl ⟨rfl, xs, SqL.of q3⟩, ?_⟩
       refine he H₀ H O σ ds hd d _ o h1 fun b ys H1 s1 hn hb r1 => ?_
       refine ⟨a, b, xs, ys, rfl, rfl, s1 _ _ q3, hb, by rw [q4.length, r1.length]; exact hl, ?_⟩
       exact h _ _ _ ((o.mono s1).modify hsl q1 ((q4.mono s1).append (r1.less fun a z => .inr z)))
     · cases e
end
end FL
namespace L2
open PySem PySem.Spec PyProof.Rows
section
variable {X : Cx}
end
end L2
namespace Att
open PySem PySem.W PySem.Calls PyProof.Rows
theorem bits_script : ∀ {ns : List Int} {b : Nat}, WData.weightAll (ns.map WData.int) ≤ b → ∀ c ∈ ns, Builtin.Int.intBits c ≤ b
 | [], _, _ => fun c hc => by cases hc
 | n :: r, b, h => fun c hc => by
   simp only [List.map_cons, WData.weightAll, WData.weight] at h
   rcases List.mem_cons.mp hc with rfl | hc
   · unfold Builtin.Int.intBits
     omega
   · exact bits_script (ns := r) (b := b) (by omega) c hc
theorem attach_callB {l : OpenLaw} {n : Nat} {q : Program} {loose : List Str} {XP : (Str → Option Value) → Heap → Prop} {YP : World → Heap → Prop} {d : DefRec}
  (hn : l.most = some n) (hdf : d.params.defaults = [])
  (call : ∀ (w : World) (s₀ s₁ : Shared) (mg mb : Str → Option Value) (fa : Addr) (o : Obj) (pm cd doc : Value) (a : Addr) (vs : List Value) (ns : List Int),
    Ground q loose [] XP w s₀ mg mb s₁.heap → YP w s₁.heap →
    s₁.heap.get? fa = some o → o.data = .func (docDef d.name d.params d.body d.scope pm cd doc) → s₁.heap.CodeRec cd d.name → mg d.name = some (.ref fa) →
    s₁.heap.get? a = some { cls := .type "list", data := .seq vs.toArray } → IntsAre vs ns → ns.length ≤ n → (∀ c ∈ ns, Builtin.Int.intBits c ≤ 1048576) → s₁.gens = #[] →
    codeAny (model l.prog w) callerA (.call (.ref fa) ⟨[.ref a], []⟩) (fun r s' => r = .ok (.ret (.bool true)) ∧ OldK s₁.heap s'.heap ∧ s'.os = s₁.os ∧ AllBare s'.gens) s₁) :
  WalkO q loose XP YP l.row.toRowW d [] (fun f vs => PySem.call f vs) := by
 intro w s₀ s₁ mg mb G Y fa o pm cd doc dV kV ho hd hcd hD hmg hg args vals as hpre hlay hrd hwl hlo
 obtain rfl : dV = .none := Dflts.none hD hdf
 obtain rfl : kV = .none := Dflts.noKw hD
 obtain ⟨a, vs, ns, rfl, rfl, hobj, hints, hlen⟩ := script_of hn hpre hwl
 have hb : ∀ c ∈ ns, Builtin.Int.intBits c ≤ 1048576 := by
  have h1 := (layableW_iff.mp (layW_cons hlay).1).2.2
  simp only [WData.weight] at h1
  exact bits_script (Nat.le_trans h1 (by decide))
 refine enter_call (codeAny_mono (call w s₀ s₁ mg mb fa o pm cd doc a vs ns G Y ho (fd_plain hd) hcd hmg hobj hints hlen hb hg) fun r s' hq => ?_)
 obtain ⟨rfl, h2, h3, h4⟩ := hq
 exact ⟨.inl ⟨.bool true, .bool true, [], rfl, fun _ => rfl, .bool true, post_true l _, fun _ => ⟨List.Pairwise.nil, fun _ hm => (nomatch hm)⟩⟩, h2, h3, h4⟩
end Att
namespace FL
open PySem PySem.Spec PyProof.Rows L2
noncomputable def spLawB (K : Frag) (n : Nat) : Sp := fun vs H Q _ => ∃ (a : Addr) (ns : List Int), vs = [.ref a] ∧ SqL K H a (ns.map V.int) ∧ ns.length ≤ n ∧ (∀ c ∈ ns, Builtin.Int.intBits c ≤ 1048576) ∧ ∀ H', Q (.bl true) H'
theorem law_ofB {P : Program} {w : World} {K : Frag} {mg : Str → Option Value} {base : Heap} {k : Nat} {f : Addr} {fd : FuncData} {x : Str} {n : Nat} {F : List D → Option Ret} (Fn : FnOk P w K mg base CX0 k f fd [x] (spF K 1 F))
  (h : ∀ ns : List Int, ns.length ≤ n → (∀ c ∈ ns, Builtin.Int.intBits c ≤ 1048576) → F [.lst (ns.map D.int)] = some (.val (.bl true))) : FnOk P w K mg base CX0 k f fd [x] (spLawB K n) := by
 refine Fn.imp fun vs H Q E hq => ?_
 obtain ⟨a, ns, rfl, hS, hl, hb, q⟩ := hq
 refine ⟨rfl, [.lst (ns.map D.int)], .val (.bl true), .cons ?_ .nil, h ns hl hb, fun v H' s r => ?_⟩
 · rcases hS with hS | hS
   · exact .lst (fun z => z.elim) hS (Reps.ints ns)
   · exact .lstK hS (Reps.ints ns)
 · cases r; exact q H'
open PySem.W (tabIn CodeHd tabObj noTabs tab_of) in
inductive TabL (K : Frag) (q : Program) : List Str → List (Str × Addr × Addr) → Prop
 | nil : TabL K q [] []
 | yes {x : Str} {xs : List Str} {c P : Addr} {tl : List (Str × Addr × Addr)} (h : PySem.W.tabIn K x = some (c, P)) (r : ((recsOf q).find? (fun e => e.name == x)).isSome = true) (ap : (tl.all fun p => p.2.2 != P) = true) (t : TabL K q xs tl) : TabL K q (x :: xs) ((x, c, P) :: tl)
 | no {x : Str} {xs : List Str} {tl : List (Str × Addr × Addr)} (h : PySem.W.tabIn K x = none) (t : TabL K q xs tl) : TabL K q (x :: xs) tl
theorem tabL_no {K : Frag} {q : Program} {x : Str} {xs : List Str} {tl : List (Str × Addr × Addr)} (h : PySem.W.nsIn K mainGlobals x = some none) (t : TabL K q xs tl) : TabL K q (x :: xs) tl := .no (by unfold PySem.W.tabIn; rw [h]) t
theorem tabL_yes {K : Frag} {q : Program} {x : Str} {xs : List Str} {c P f : Addr} {fd : FuncData} {oc oc' : Value} {od od' : Option Addr} {sl sl' : Array (Option Value)} {vs : Array Value} {tl : List (Str × Addr × Addr)} (h1 : PySem.W.nsIn K mainGlobals x = some (some (.ref f))) (h2 : K.lookup f = some ⟨oc, od, .func fd, sl⟩)
  (h3 : fd.code = .ref c) (h4 : K.lookup c = some ⟨oc', od', .fields vs, sl'⟩) (h5 : (vs[11]? : Option Value) = some (.ref P)) (r : ((recsOf q).find? (fun e => e.name == x)).isSome = true) (t : TabL K q xs tl) (ap : (tl.all fun p => p.2.2 != P) = true) : TabL K q (x :: xs) ((x, c, P) :: tl) :=
 .yes (by unfold PySem.W.tabIn; simp only [h1, h2, h3, h4, h5]) r ap t
section
variable {K : Frag} {q : Program} {xs : List Str} {tl : List (Str × Addr × Addr)}
theorem TabL.get (h : TabL K q xs tl) : ∀ {x : Str} {c P : Addr}, x ∈ xs → PySem.W.tabIn K x = some (c, P) → (x, c, P) ∈ tl := by
 induction h with
 | nil => intro x c P hx; cases hx
 | yes h r ap t ih =>
   intro x c P hx ht
   rcases List.mem_cons.mp hx with e | e
   · subst e
     rw [h] at ht
     cases ht
     exact List.mem_cons_self
   · exact List.mem_cons_of_mem _ (ih e ht)
 | no h t ih =>
   intro x c P hx ht
   rcases List.mem_cons.mp hx with e | e
   · subst e
     rw [h] at ht
     cases ht
   · exact ih e ht
theorem TabL.fact (h : TabL K q xs tl) : ∀ p ∈ tl, PySem.W.tabIn K p.1 = some (p.2.1, p.2.2) ∧ ((recsOf q).find? (fun e => e.name == p.1)).isSome = true := by
 induction h with
 | nil => intro p hp; cases hp
 | yes h r ap t ih =>
   intro p hp
   rcases List.mem_cons.mp hp with e | e
   · subst e; exact ⟨h, r⟩
   · exact ih p e
 | no h t ih => exact ih
noncomputable def tabH (K : Frag) (tl : List (Str × Addr × Addr)) : Hp := fun b => (tl.find? fun p => p.2.2 == b).map fun p => .tbl (innerQ K p.1)
theorem tabH_of {b : Addr} {u : HO} (e : tabH K tl b = some u) : ∃ p ∈ tl, b = p.2.2 ∧ u = .tbl (innerQ K p.1) := by
 unfold tabH at e
 obtain ⟨p, h, rfl⟩ := mpd e
 exact ⟨p, List.mem_of_find?_eq_some h, (beq_iff_eq.mp (List.find?_some (p := fun p : Str × Addr × Addr => p.2.2 == b) h)).symm, rfl⟩
theorem TabL.at (h : TabL K q xs tl) : ∀ p ∈ tl, tabH K tl p.2.2 = some (.tbl (innerQ K p.1)) := by
 induction h with
 | nil => intro p hp; cases hp
 | yes h r ap t ih =>
   intro p hp
   rename_i x xs c P tl
   unfold tabH
   rcases List.mem_cons.mp hp with e | e
   · subst e
     simp
   · have : (P == p.2.2) = false := by
      have := List.all_eq_true.mp ap p e
      simp only [bne_iff_ne, ne_eq] at this
      exact beq_eq_false_iff_ne.mpr (Ne.symm this)
     rw [List.find?_cons, this]
     exact ih p e
 | no h t ih => exact ih
end
theorem no_cls {K : Frag} {h : Heap} {b : Addr} {o : Obj} {ps : Array Value} (X : K.In h) (hK : PySem.W.noTabs K = true) (e : K.lookup b = some o) (hb : h.get? b = some (PySem.W.tabObj ps)) : False := by
 have q := X b o e
 rw [hb] at q
 cases q
 have h2 := List.all_eq_true.mp hK (b, _) (PySem.W.mem_of_lookupK e)
 exact absurd (show false = true from h2) Bool.false_ne_true
theorem law_callT {P : Program} {w : World} {K : Frag} {q : Program} {loose : List Str} {mean : ExcName → Option Value} {mg mb : Str → Option Value} {k : Nat} {fa a : Addr} {fd : FuncData} {x : Str} {sp : Sp} {s₁ : Shared} {vs : List Value} {ns : List Int} {tl : List (Str × Addr × Addr)}
  (KX : K.In s₁.heap) (T : Top q loose mean mg mb s₁.heap) (hT : TabL K q makers tl) (hK : PySem.W.noTabs K = true) (hg : s₁.gens = #[]) (ha : s₁.heap.get? a = some { cls := .type "list", data := .seq vs.toArray }) (hi : IntsAre vs ns) (hl : ns.length ≤ sizeLine) (hr : Room k callerA)
  (F : ∀ base : Heap, K.In base → base.Ns mainGlobals mg → FnOk P w K mg base CX0 k fa fd [x] sp) (hbind : ∀ (s : Shared) (u : Value), BindsTo s fd ⟨[u], []⟩ [(x, u)])
  (hsp : ∀ H : Hp, SqL K H a (ns.map V.int) → sp [.ref a] H (fun v _ => v = .bl true) fun _ _ _ => False) :
  codeAny (model P w) callerA (.call (.ref fa) ⟨[.ref a], []⟩) (fun r s' => r = .ok (.ret (.bool true)) ∧ OldK s₁.heap s'.heap ∧ s'.os = s₁.os ∧ AllBare s'.gens) s₁ := by
 have rv := vals_ints hi
 have tf : ∀ p ∈ tl, PySem.W.CodeHd s₁.heap p.2.1 p.2.2 ∧ s₁.heap.get? p.2.2 = some (PySem.W.tabObj #[]) := fun p hp => by
  obtain ⟨h1, h2⟩ := hT.fact p hp
  obtain ⟨d, hd⟩ := Option.isSome_iff_exists.mp h2
  exact PySem.W.tab_of T KX hd h1
 have core : ∀ H : Hp, SqL K H a (ns.map V.int) → L2.HOk P w H s₁.heap → (∀ b u, H b = some u → (b = a ∧ K.lookup a = none ∧ ∃ o xs, u = .frz o (.lst xs)) ∨ ∃ p ∈ tl, b = p.2.2 ∧ u = .tbl (innerQ K p.1)) → (∀ p ∈ tl, H p.2.2 = some (.tbl (innerQ K p.1))) →
   codeAny (model P w) callerA (.call (.ref fa) ⟨[.ref a], []⟩) (fun r s' => r = .ok (.ret (.bool true)) ∧ OldK s₁.heap s'.heap ∧ s'.os = s₁.os ∧ AllBare s'.gens) s₁ := by
  intro H hS hok hA hP
  have free_of : ∀ {b : Addr} {o : Obj}, s₁.heap.get? b = some o → (∀ its n, o.data ≠ .seq its n) → o.data ≠ .fields #[] → H b = none := fun {b o} e n1 n2 => by
   cases qb : H b with
   | none => rfl
   | some u =>
     rcases hA b u qb with ⟨rfl, _, _⟩ | ⟨p, hp, rfl, _⟩
     · rw [ha] at e; cases e; exact (n1 _ _ rfl).elim
     · rw [(tf p hp).2] at e; cases e; exact (n2 rfl).elim
  have base_of : ∀ {b : Addr} {o : Obj}, s₁.heap.get? b = some o → (∀ its n, o.data ≠ .seq its n) → o.data ≠ .fields #[] → (hidT s₁.heap H).get? b = some o := fun e n1 n2 => hidT_get e (free_of e n1 n2)
  have nsK : ∀ {b : Addr} {m : Str → Option Value}, s₁.heap.Ns b m → (hidT s₁.heap H).Ns b m := fun {b m} ⟨o, es, ep, e, d, r⟩ => ⟨o, es, ep, base_of e (fun _ _ z => by rw [d] at z; cases z) (fun z => by rw [d] at z; cases z), d, r⟩
  have hKb : K.In (hidT s₁.heap H) := fun b o e => hidT_get (KX b o e) (by
   cases qb : H b with
   | none => rfl
   | some u =>
     rcases hA b u qb with ⟨rfl, z, _⟩ | ⟨p, hp, rfl, _⟩
     · rw [z] at e; cases e
     · exact (no_cls KX hK e (tf p hp).2).elim)
  have hM : Mod K mg (hidT s₁.heap H) := ⟨hKb, nsK T.g, ⟨mb, nsK T.b, T.builtins⟩, let ⟨mc, h1, h2⟩ := T.nolimit; ⟨mc, nsK h1, h2⟩⟩
  have hTab : TabsK K mg (hidT s₁.heap H) H := by
   refine ⟨?_, fun y c P' hy ht => ?_⟩
   · obtain ⟨bm, ob, b1, b2, b3, b4, b5, b6⟩ := T.bmain
     exact ⟨bm, ob, b1, b2, base_of b3 (fun _ _ z => by rw [b6] at z; cases z) (fun z => by rw [b6] at z; cases z), b4, b5, b6⟩
   · have hm := hT.get hy ht
     refine ⟨?_, hP _ hm⟩
     obtain ⟨o, ws, file, tf', flags, tg, inF, text, tt, e1, r1, r2, r3, rest⟩ := (tf _ hm).1
     refine ⟨o, ws, file, tf', flags, tg, inF, text, tt, base_of e1 (fun _ _ z => by rw [r2] at z; cases z) (fun z => ?_), r1, r2, r3, rest⟩
     rw [r2] at z
     cases z
     cases r3
  have e0 : Env0 P w K mg (hidT s₁.heap H) callerA [] s₁ H := ⟨rfl, hM, fun b o e => of_hidT e, ⟨Nat.le_of_eq (hidT_size _ _), hTab⟩, trivial, fun b hb => absurd (show b ∈ ([] : List Addr) from hb) (by simp), hok, .of_eq hg⟩
  refine codeAny_mono ((F _ hKb (nsK T.g)).run callerA [] s₁ H ⟨[.ref a], []⟩ [.ref a] [.ref a] _ _ hr e0 (hbind s₁ (.ref a)) (.cons rfl .nil) (hsp H hS)) fun r s' h => ?_
  cases r with
  | error e => exact False.elim h
  | ok fl =>
    cases fl with
    | next => exact False.elim h
    | brk => exact False.elim h
    | cont => exact False.elim h
    | ret u =>
      obtain ⟨v, H', os, bare, un, hok', r', hv⟩ := h
      have hv' : v = .bl true := hv
      subst hv'
      obtain rfl : u = Value.bool true := r'
      refine ⟨rfl, ⟨fun b o e => ?_, fun b o e => un.there b o e (by simp)⟩, os, bare⟩
      cases qb : H b with
      | none => exact .inl (un.keep b o e qb (by intro z; exact absurd (show b ∈ ([] : List Addr) from z) (by simp)) (by simp))
      | some u =>
        rcases hA b u qb with ⟨_, _, ob, xs, rfl⟩ | ⟨p, hp, rfl, rfl⟩
        · obtain ⟨e1, _⟩ := hok b _ qb
          obtain ⟨e2, _⟩ := hok' b _ (un.frzs b ob _ qb)
          rw [e] at e1; cases e1
          exact .inl e2
        · have t2 := (tf p hp).2
          rw [e] at t2
          cases t2
          obtain ⟨ps, e2, _⟩ := hok' _ _ (un.tbls _ _ qb)
          exact .inr (.inl ⟨((tf p hp).1.tab (tf p hp).2).isCodeTable, rfl, #[], ps, rfl, by rw [Array.empty_append]; exact e2⟩)
 have tabOk : ∀ (H : Hp) (p : Str × Addr × Addr), p ∈ tl → ObjOk P w H s₁.heap p.2.2 (.tbl (innerQ K p.1)) := fun H p hp => ⟨#[], (tf p hp).2, trivial, fun pos v z => by cases z⟩
 cases hk : K.lookup a with
 | some o =>
   have e := KX a o hk
   rw [ha] at e
   cases e
   refine core (tabH K tl) (.inr ⟨_, vs.toArray, _, hk, rfl, rfl, rfl, by rw [List.size_toArray, hi.length]; exact hl, by simpa using rv⟩) (fun b u z => ?_) (fun b u z => .inr (tabH_of z)) fun p hp => hT.at p hp
   obtain ⟨p, hp, rfl, rfl⟩ := tabH_of z
   exact tabOk _ p hp
 | none =>
   have na : ∀ p ∈ tl, p.2.2 ≠ a := fun p hp z => by
    have := (tf p hp).2
    rw [z, ha] at this; cases this
   refine core (upd (tabH K tl) a (.frz { cls := .type "list", data := .seq vs.toArray } (.lst (ns.map V.int)))) (.inl (.inr ⟨_, upd_same⟩)) (fun b u z => ?_) (fun b u z => ?_) fun p hp => by rw [upd_ne (na p hp)]; exact hT.at p hp
   · by_cases hb : b = a
     · subst hb
       rw [upd_same] at z
       cases z
       exact ⟨ha, by rw [List.length_map]; exact hl, vs, _, rv, ha⟩
     · rw [upd_ne hb] at z
       obtain ⟨p, hp, rfl, rfl⟩ := tabH_of z
       exact tabOk _ p hp
   · by_cases hb : b = a
     · subst hb
       rw [upd_same] at z
       cases z
       exact .inl ⟨rfl, hk, _, _, rfl⟩
     · rw [upd_ne hb] at z
       exact .inr (tabH_of z)
theorem walkB {l : PySem.W.OpenLaw} {q : Program} {loose : List Str} {XP : (Str → Option Value) → Heap → Prop} {YP : World → Heap → Prop} {d : DefRec} {K : Params → PySem.W.Frag} {k : Nat} {tl : List (Str × Addr × Addr)} (hn : l.most = some 63) (hdf : d.params.defaults = []) (hr : Room k callerA)
  (hY : ∀ (w : World) (h : Heap), YP w h → (K w.params).In h) (hK : ∀ w : World, PySem.W.noTabs (K w.params) = true) (hT : ∀ w : World, TabL (K w.params) q makers tl)
  (F : ∀ (w : World) (mg : Str → Option Value) (fa : Addr) (h : Heap), (K w.params).In h → h.Ns mainGlobals mg → mg d.name = some (.ref fa) →
    ∃ fd : FuncData, (∀ (s : Shared) (u : Value), BindsTo s fd ⟨[u], []⟩ [("_law_script", u)]) ∧ ∀ base : Heap, (K w.params).In base → base.Ns mainGlobals mg → FnOk l.prog w (K w.params) mg base CX0 k fa fd ["_law_script"] (spLawB (K w.params) 63)) :
  PySem.W.WalkO q loose XP YP l.row.toRowW d [] (fun f vs => PySem.call f vs) := by
 refine Att.attach_callB hn hdf fun w s₀ s₁ mg mb fa o pm cd doc a vs ns G Y ho hd hcd hmg hobj hints hlen hb hg => ?_
 have KX := hY w _ Y
 obtain ⟨fd, hbd, hF⟩ := F w mg fa _ KX G.T.g hmg
 exact law_callT KX G.T (hT w) (hK w) hg hobj hints (Nat.le_trans hlen (by decide)) hr hF hbd fun H hS => ⟨a, ns, rfl, hS, hlen, hb, fun _ => rfl⟩
structure Cal (P : Program) (w : World) (K : Frag) (mg : Str → Option Value) (base : Heap) (x : Str) (k n : Nat) (F : List D → Option Ret) : Prop where
 ex : ∃ (f : Addr) (fd : FuncData) (ps : List Str), FnOk P w K mg base CX0 k f fd ps (spF K n F) ∧ Binds K fd ps [] ∧ PySem.W.keepIn K (.ref f) = true ∧ mg x = some (.ref f)
section
variable {X : Cx}
section
variable {k j : Nat} {n : Nat} {F : List D → Option Ret} {x : Str} {p pos : Pos} {e : Expr} {es : List Expr} {g : FA}
theorem pv_callC (C : Cal X.prog X.w X.K X.mg X.base x k n F) (hr : Room j X.A) (ha : PAn X (e :: es) g) (hj : k ≤ j := by decide)
  (hg : Gl X x := by rfl) (hdb : (x == ("__debug__" : Str)) = false := by decide) (he : starEach (e :: es) X.env = (false, eval e X.env) :: starEach es X.env := by rfl) (hpl : (backTo pos (starEach es X.env)).any (·.1) = false := by rfl) :
  PV X (.Call (.Name x p) (e :: es) [] pos) (callV n F g) := by
 obtain ⟨f, fd, ps, Fn, hb, hk, hm⟩ := C.ex
 exact pv_callN Fn (hr.mono hj) hm hk hb ha hg hdb he hpl
theorem pvf_callC (C : Cal X.prog X.w X.K X.mg X.base x k n F) (hr : Room j X.A) (ha : PAn X (e :: es) g) (hj : k ≤ j := by decide)
  (hg : Gl X x := by rfl) (hdb : (x == ("__debug__" : Str)) = false := by decide) (he : starEach (e :: es) X.env = (false, eval e X.env) :: starEach es X.env := by rfl) (hpl : (backTo pos (starEach es X.env)).any (·.1) = false := by rfl) :
  PVf X (.Call (.Name x p) (e :: es) [] pos) (callF n F g) := by
 obtain ⟨f, fd, ps, Fn, hb, hk, hm⟩ := C.ex
 exact pvf_callN Fn (hr.mono hj) hm hk hb ha hg hdb he hpl
end
end
section
variable {X : Cx} {a b : Expr} {fa fb : FE} {pos : Pos}
theorem pv_le (ha : PVw X a fa) (hb : PVw X b fb) : PV X (.Compare a [.LtE] [b] pos) (bin2 leD fa fb) := pv_cmp op_le os_cmpI ha hb (nomark _)
theorem pt_lt (ha : PVw X a fa) (hb : PVw X b fb) : PTv X (.Compare a [.Lt] [b] pos) (testB (bin2 ltD fa fb)) := pt_cmpV op_lt os_cmpI ha hb (nomark _)
theorem pt_le (ha : PVw X a fa) (hb : PVw X b fb) : PTv X (.Compare a [.LtE] [b] pos) (testB (bin2 leD fa fb)) := pt_cmpV op_le os_cmpI ha hb (nomark _)
theorem pt_gt (ha : PVw X a fa) (hb : PVw X b fb) : PTv X (.Compare a [.Gt] [b] pos) (testB (bin2 gtD fa fb)) := pt_cmpV op_gt os_cmpI ha hb (nomark _)
theorem pt_ge (ha : PVw X a fa) (hb : PVw X b fb) : PTv X (.Compare a [.GtE] [b] pos) (testB (bin2 geD fa fb)) := pt_cmpV op_ge os_cmpI ha hb (nomark _)
theorem pv_addI (ha : PVw X a fa) (hb : PVw X b fb) : PV X (.BinOp a .Add b pos) (bin2 addD fa fb) := pv_bin op_addU os_add ha hb
theorem pv_subI (ha : PVw X a fa) (hb : PVw X b fb) : PV X (.BinOp a .Sub b pos) (bin2 subD fa fb) := pv_bin op_sub os_sub ha hb
theorem pv_mulI (ha : PVw X a fa) (hb : PVw X b fb) : PV X (.BinOp a .Mult b pos) (bin2 mulD fa fb) := pv_bin op_mulB os_mul ha hb
theorem pv_powI (ha : PVw X a fa) (hb : PVw X b fb) : PV X (.BinOp a .Pow b pos) (bin2 powD fa fb) := pv_bin op_powB os_pow ha hb
theorem pv_modI (ha : PVw X a fa) (hb : PVw X b fb) : PV X (.BinOp a .Mod b pos) (bin2 modD fa fb) := pv_bin op_mod os_mod ha hb
theorem pv_divI (ha : PVw X a fa) (hb : PVw X b fb) : PV X (.BinOp a .FloorDiv b pos) (bin2 fdivD fa fb) := pv_bin op_fdivB os_fdiv ha hb
end
end FL
namespace L2
open PySem PySem.Spec PyProof.Rows
section
variable {X : Cx} {tg : Expr}
theorem pi_seq {l : Expr} {tl : TE} (hl : PE X l tl) : PI X tg l (fun σ H R => iList X.K tl σ H R ∨ iTup X.K tl σ H R) := by
 intro pins s σ H R I h
 rcases h with h | h
 · exact pi_list hl pins s σ H R I h
 · exact pi_tup hl pins s σ H R I h
end
end L2
namespace FL
open PySem PySem.Spec PyProof.Rows L2
section
variable {X : Cx}
theorem piv_seq {tg e : Expr} {f : FE} (h : PV X e f) : PIv X tg e (viaA f asLT) := by
 obtain ⟨t, ht, hf⟩ := h
 refine ⟨_, pi_seq ht, fun H₀ H O σ ds hd items R o e q => ?_⟩
 unfold viaA at e
 obtain ⟨d, h1, e⟩ := bnd e
 cases d with
 | lst l =>
   cases e
   refine .inl (hf H₀ H O σ ds hd _ _ o h1 fun v H' s r => ?_)
   obtain ⟨a, xs, rfl, hs, rs⟩ := WRep.seqL (.inl r)
   exact ⟨a, rfl, ⟨xs, hs⟩, q _ (.ref a, .lst items) H' s r wlk_list⟩
 | tup l =>
   cases e
   refine .inr (hf H₀ H O σ ds hd _ _ o h1 fun v H' s r => ?_)
   obtain ⟨a, xs, rfl, hs, rs⟩ := WRep.seqT (.inl r)
   exact ⟨a, rfl, ⟨xs, hs⟩, q _ (.ref a, .tup items) H' s r wlk_tup⟩
 | _ => cases e
end
end FL
namespace L2
open PySem PySem.Spec PyProof.Rows
section
variable {X : Cx} {tg : Expr}
noncomputable def Itv (K : PySem.W.Frag) (a : Addr) (n : Nat) : It :=
 ⟨fun i H => ∃ xs x, SqL K H a xs ∧ xs.length = n ∧ i < n ∧ xs[n - 1 - i]? = some x, fun i H x H' => H' = H ∧ ∀ xs, SqL K H a xs → xs[n - 1 - i]? = some x, fun i _ => i = n⟩
theorem turn_rev {P : Program} {w : World} {K : PySem.W.Frag} {tg : Expr} (a it : Addr) (n : Nat) : Turn P w K tg (Itv K a n) [it] it (fun i h => i ≤ n ∧ h.IsRevIter it a ((n : Int) - 1 - (i : Int))) where
 mem := by simp
 obj := fun i h st b hb => by
  have e : b = it := by simpa using hb
  subst e
  obtain ⟨_, o, e, c, d⟩ := st
  exact ⟨o, e, fun v z => by rw [d] at z; cases z⟩
 keep := fun i h h' st k => ⟨st.1, st.2.at fun o e => k it (by simp) o e⟩
 item := by
  intro X hP hw hK hc i pins s σ H E I hf st hg
  subst hP hw hK
  obtain ⟨xs, x, hq, hn, hi, hx⟩ := hg
  obtain ⟨its, rv, p, hz⟩ := I.list hq
  obtain ⟨u, hu, ru⟩ := rv.get hx
  obtain ⟨f0, f1, f2, f3, f4, f5⟩ := hf it (by simp)
  have e : (n : Int) - 1 - (i : Int) = ((n - 1 - i : Nat) : Int) := by omega
  have hit := st.2
  rw [e] at hit
  refine wpAny_pyNext_rev_item hit p.isList (x := u) (by simpa using hu) fun h' st' sb => ?_
  have I1 : Inv X pins σ H { s with heap := h' } := I.turned (t' := s.toks) (fun b o hb e => (sb.2 b hb).trans e) f0 f1 f3 f4 f5
  have e2 : ((n - 1 - i : Nat) : Int) - 1 = (n : Int) - 1 - ((i + 1 : Nat) : Int) := by omega
  rw [e2] at st'
  obtain ⟨o, eo, co, d⟩ := id st'
  exact ⟨u, rfl, go_of (s := { s with heap := h' }) eo co d (by decide) ⟨x, H, I1, ru, ⟨rfl, fun ys hy => by rw [I.list_inj hy hq]; exact hx⟩, ⟨hi, st'⟩, fun b hb => (hf b hb).1⟩⟩
 done := by
  intro X hP hw hK hc i pins s σ H E I hf st hg
  subst hP hw hK
  have hg' : i = n := hg
  subst hg'
  obtain ⟨f0, f1, f2, f3, f4, f5⟩ := hf it (by simp)
  have e : (i : Int) - 1 - (i : Int) = -1 := by omega
  have hit := st.2
  rw [e] at hit
  exact wpAny_pyNext_rev_end (I.ok.hd hc) hit fun h' eb => ⟨rfl, I.turned (t' := s.toks) (fun b o hb e => eb b o hb e) f0 f1 f3 f4 f5⟩
 self := fun _ _ _ _ _ st h => wpAny_pyIter_revIter st.2 h
noncomputable def iRev (K : PySem.W.Frag) (ta : TA) : TI := fun σ H R => ta σ H fun vs H1 => ∃ a xs, vs = [.ref a] ∧ SqL K H1 a xs ∧ R (Itv K a xs.length) H1
theorem pi_rev {l : Expr} {ta : TA} {p pos : Pos} (hg : Gl X "reversed") (hm : X.mg "reversed" = none) (ha : PA X [l] ta) (hs : starEach [l] X.env = [(false, eval l X.env)] := by rfl) : PI X tg (.Call (.Name "reversed" p) [l] [] pos) (iRev X.K ta) := by
 intro pins s σ H R I h
 refine Call_ (ld_blt I hg hm (show bootBuiltins "reversed" = some (.type "reversed") by decide +kernel) (PyProof.Rows.callWith_type1 (thn (ha pos pins s σ H _ I h) fun us s1 ⟨vs, H1, I1, r1, q1⟩ => ?_) hs rfl))
 obtain ⟨a, xs, e, hq, q⟩ := q1
 subst e
 obtain ⟨u, rfl, ru⟩ := vals1 r1
 cases ru
 obtain ⟨its, rv, pl, hz⟩ := I1.list hq
 have hlen := rv.length
 refine call_reversed_list pl.isList ?_
 have hst : Heap.IsRevIter (s1.heap.push (revObj a ((its.toArray.size : Int) - 1))) s1.heap.objs.size a ((its.toArray.size : Int) - 1) := ⟨_, Heap.get?_push_size _ rfl, rfl, rfl⟩
 refine wpAny_pyIter_revIter hst ?_
 refine ⟨s1.heap.objs.size, [s1.heap.objs.size], _, _, H1, rfl, I1.kept (t' := s1.toks) fun b o e => Heap.get?_push_of_some _ e, turn_rev a _ xs.length, ⟨Nat.zero_le _, ?_⟩, fun b hb => ?_, q⟩
 · have e1 : ((its.toArray.size : Nat) : Int) - 1 = (xs.length : Int) - 1 - ((0 : Nat) : Int) := by simp only [List.size_toArray]; omega
   show Heap.IsRevIter _ _ a ((xs.length : Int) - 1 - ((0 : Nat) : Int))
   rw [← e1]
   exact hst
 · have e : b = s1.heap.objs.size := by simpa using hb
   subst e
   exact I1.fpOk (Nat.le_refl _) (I1.hok.fresh (Nat.le_refl _))
end
end L2
namespace FL
open PySem PySem.Spec PyProof.Rows L2
section
variable {X : Cx}
theorem wlk_rev {K : Frag} {a : Addr} {l : List D} : Wlk K (Itv K a l.length) (.ref a, .lst l) l.reverse := by
 intro H O _ r
 obtain ⟨b, xs, e, hs, rs⟩ := WRep.seqL (.inl r)
 cases e
 have hlen := rs.length
 refine ⟨fun i d hd => ?_, show _ = l.length from List.length_reverse⟩
 have hi : i < l.length := by
  have := (List.getElem?_eq_some_iff.mp hd).1
  rwa [List.length_reverse] at this
 rw [List.getElem?_reverse hi] at hd
 obtain ⟨v, h1, h2⟩ := rs.get hd
 refine ⟨⟨xs, v, hs, hlen, hi, h1⟩, fun x H' y => ?_⟩
 obtain ⟨rfl, y⟩ := y
 have := y xs hs
 rw [h1] at this; cases this
 exact ⟨Same.refl _, h2⟩
theorem piv_rev {tg e : Expr} {p pos : Pos} {f : FE} (hc : True) (hm : X.mg "reversed" = none) (h : PV X e f) (hg : Gl X "reversed" := by rfl) (hs : starEach [e] X.env = [(false, eval e X.env)] := by rfl) : PIv X tg (.Call (.Name "reversed" p) [e] [] pos) (revA f) := by
 obtain ⟨t, ht, hf⟩ := pas_cons h pas_nil hs
 refine ⟨_, pi_rev hg hm ht hs, fun H₀ H O σ ds hd items R o e q => ?_⟩
 unfold revA at e
 obtain ⟨d, h1, e⟩ := bnd e
 cases d <;> first | (cases e; done) | skip
 rename_i l
 cases e
 refine hf H₀ H O σ ds hd [.lst l] _ o (by simp [consA, h1, nilA]) fun vs H' s r => ?_
 cases r with
 | cons r1 rr =>
   cases rr
   obtain ⟨a, xs, rfl, hq, rs⟩ := WRep.seqL (.inl r1)
   refine ⟨a, xs, rfl, hq, ?_⟩
   rw [rs.length]
   exact q _ (.ref a, .lst l) H' s r1 wlk_rev
theorem ints_rep {K : Frag} {H : Hp} {O : Addr → Prop} : ∀ {xs : List V} {l : List D} {bs : List Int}, Reps K H O xs l → intsD l = some bs → xs = bs.map V.int
 | _, _, _, .nil, e => by cases e; rfl
 | _, _, bs, .cons (d := d) h t, e => by
   cases d with
   | int b =>
     rename_i ds
     simp only [intsD] at e
     obtain ⟨r, hr, rfl⟩ := mpd e
     cases h
     rw [ints_rep t hr]
     rfl
   | _ => cases e
end
end FL
namespace L2
open PySem PySem.Spec PyProof.Rows
section
variable {X : Cx} {pins : List (Addr × Obj)} {σ : St} {H : Hp} {s : Shared} {h' : Heap}
end
section
variable {X : Cx}
end
end L2
namespace FL
open PySem PySem.Spec PyProof.Rows L2
section
variable {X : Cx}
section
variable {scope : Scope} {NY : List Str} {mp : List (Option Nat)} {tg iter elt : Expr} {ifs : List Expr} {pos : Pos} {fi : FA} {ga : D → List Sl → Option (List Sl)} {tt : FT} {fe : FE}
end
end
end FL
namespace L2
open PySem PySem.Spec PyProof.Rows
section
variable {X : Cx}
end
end L2
namespace FL
open PySem PySem.Spec PyProof.Rows L2
section
variable {X : Cx}
end
section
variable {X : Cx}
end
section
variable {X : Cx}
end
end FL
namespace L2
open PySem PySem.Spec PyProof.Rows
section
variable {X : Cx}
end
end L2
namespace FL
open PySem PySem.Spec PyProof.Rows L2
section
variable {X : Cx}
end
end FL
namespace L2
open PySem PySem.Spec PyProof.Rows
section
variable {X : Cx}
end
end L2
namespace FL
open PySem PySem.Spec PyProof.Rows L2
section
variable {X : Cx}
theorem PVd.v {e : Expr} {f : FE} (h : PVd X e f) : PV X e f := by
 obtain ⟨t, ht, hf⟩ := h
 exact ⟨t, ht, fun H₀ H O σ ds hd d Q o e q => hf H₀ H O σ ds hd d Q o e fun v H' s r => q v H' s (r.less fun a z => o.old z)⟩
section
variable {m : Str} {k j n : Nat} {cs : List Nat} {F : Nat → List D → Option Ret} {o e : Expr} {es : List Expr} {apos pos : Pos} {fo : FE} {g : FA}
end
end
noncomputable def Keepx (x : Addr) (H H' : Hp) : Prop := ∀ b o, b ≠ x → H b = some o → H' b = some o
theorem Keepx.trans {x : Addr} {H H1 H2 : Hp} (a : Keepx x H H1) (b : Keepx x H1 H2) : Keepx x H H2 := fun c o n e => b c o n (a c o n e)
section
variable {K : Frag} {H H' : Hp} {O : Addr → Prop} {x : Addr}
end
section
variable {X : Cx}
end
section
variable {X : Cx} {t k j n : Nat} {G : List D → Option (List D)} {x : Str} {p pos : Pos} {e : Expr} {es : List Expr} {g : FA}
end
section
variable {X : Cx}
end
section
variable {X : Cx}
end
section
variable {X : Cx}
end
section
variable {X : Cx} {k j n : Nat} {F : List D → Option Ret} {x : Str} {p pos : Pos} {e : Expr} {es : List Expr} {g : FA}
end
end FL
namespace PySem
open Sem (wp)
section
variable {prog : Program} {w : World} {A : Around} {R : Result → Shared → Prop} {I : Addr} {fp wr : List Addr} {n : Nat} {P : Nat → Value → Prop} {St : Nat → Heap → Prop} {kw : List (Str × Value)}
end
section
variable {prog : Program} {w : World} {A : Around} {E : Value → Shared → Prop} {s : Shared}
end
end PySem
namespace FL
open PySem PySem.Spec PyProof.Rows L2
section
variable {X : Cx}
end
end FL
namespace FL
open PySem PySem.Spec PyProof.Rows L2
open PySem.Calls PySem.Builtin PySem.Builtin.ObjectAttr PySem.Builtin.Getset_descriptor
open PySem.W (Looks looks_findIn looks_mroIn findIn mroIn specialIn takesIn KitX)
section
variable {prog : Program} {w : World} {A : Around} {E : Value → Shared → Prop} {h : Heap} {g : Array GenState} {d : Drawn} {t : Nat} {os : OsState} {a C : Addr} {o : Obj} {K : Frag}
end
end FL
namespace FL
open PySem PySem.Spec PyProof.Rows L2
noncomputable def Fl2 (B : Heap) (l : List Env) (e : Addr) (cls a0 fl : Value) (h : Heap) : Prop := B.StaysIn h ∧ B.get? e = none ∧ h.FunFrames B l ∧
 ∃ oe vs T oT ts, h.get? e = some oe ∧ (oe.cls = cls ∧ vs[0]? = some a0 ∧ vs[2]? = some .none) ∧ oe.data = .fields vs ∧ vs[1]? = some (.ref T) ∧ B.get? T = none ∧ T ≠ e ∧ h.get? T = some oT ∧ oT.data = .fields ts ∧ ts[3]? = some fl
section
variable {M : Model} {A : Around} {E : Value → Shared → Prop} {s : Shared} {B : Heap} {l outer : List Env} {env : Env} {e L : Addr} {cls a0 fl : Value} {oe : Obj} {vs : Array Value} {Q : Unit → Shared → Prop}
end
end FL
namespace FL
open PySem PySem.Spec PyProof.Rows L2
open PySem.W (hideAll hideAll_get of_hideAll hideAll_none funFrames_hide excIn tail_of_in nsMap_none_of_in isNs_of_in)
theorem obj_get {P : Program} {w : World} {H : Hp} {h : Heap} {a : Addr} {o : HO} (x : ObjOk P w H h a o) : ∃ u, h.get? a = some u := by
 cases o with
 | lst xs => obtain ⟨_, _, _, _, e⟩ := x; exact ⟨_, e⟩
 | tup xs => obtain ⟨_, _, _, _, e, _⟩ := x; exact ⟨_, e⟩
 | dK kvs => obtain ⟨_, _, _, _, o, _, _, e, _⟩ := x; exact ⟨_, e⟩
 | dT kvs => obtain ⟨_, _, _, _, o, _, _, e, _⟩ := x; exact ⟨_, e⟩
 | set S n => obtain ⟨o, _, _, _, e, _⟩ := x; exact ⟨_, e⟩
 | ins C dx fs => obtain ⟨_, _, _, e, _⟩ := x; exact ⟨_, e⟩
 | own y => obtain ⟨_, e⟩ := x; exact ⟨_, e⟩
 | xd fs => obtain ⟨_, ⟨_, _, _, e, _⟩, _⟩ := x; exact ⟨_, e⟩
 | rng lo hi => obtain ⟨_, _, _, e⟩ := x; exact ⟨_, e⟩
 | frz ob u => obtain ⟨e, _⟩ := x; exact ⟨_, e⟩
 | tbl ps => obtain ⟨_, e, _⟩ := x; exact ⟨_, e⟩
 | met f y => exact ⟨_, (show h.get? a = some _ from x)⟩
 | ext φ => obtain ⟨_, ⟨_, e⟩, _⟩ := x; exact ⟨_, e⟩
structure Thrown (P : Program) (w : World) (outer : List Env) (H : Hp) (s : Shared) (cls : Value) (ea : Addr) (a0 : Value) (B : Heap) (H' : Hp) (h : Heap) : Prop where
 fly : Fl2 B outer ea cls a0 .none h
 keep : ∀ b o, s.heap.get? b = some o → H b = none → b ∉ frs outer → B.get? b = some o
 there : ∀ b o, s.heap.get? b = some o → b ∉ frs outer → ∃ o', B.get? b = some o'
 slot : ∀ b o, s.heap.get? b = some o → b ∈ frs outer → ∃ sl, h.get? b = some { o with slots := sl }
 free : ∀ b o, s.heap.get? b = some o → H b = none → H' b = none
 tups : ∀ b xs, H b = some (.tup xs) → H' b = some (.tup xs)
 frzs : ∀ b o u, H b = some (.frz o u) → H' b = some (.frz o u)
 tbls : ∀ b ps, H b = some (.tbl ps) → H' b = some (.tbl ps)
 hok : L2.HOk P w H' B
section
variable {P : Program} {w : World} {outer : List Env} {H H' : Hp} {s : Shared} {cls a0 : Value} {ea : Addr} {B h h' : Heap}
theorem Thrown.no (t : Thrown P w outer H s cls ea a0 B H' h) : H' ea = none := by
 cases q : H' ea with
 | none => rfl
 | some u =>
   obtain ⟨o, e⟩ := obj_get (t.hok _ _ q)
   rw [t.fly.2.1] at e; cases e
end
section
variable (X : Cx) (C : Addr)
end
section
variable {X : Cx} {C : Addr}
end
end FL
namespace FL
open PySem PySem.Spec PyProof.Rows L2
open PySem.W (Looks looks_mroIn mroIn)
section
variable {X : Cx} {pins : List (Addr × Obj)} {σ : L2.St} {H : Hp} {s : Shared} {ea : Addr} {oe : Obj} {xe : Value → Shared → Prop}
end
section
variable {X : Cx} {k j n : Nat} {R : List D → Bool} {C : Addr} {x : Str} {p pos : Pos} {e : Expr} {es : List Expr} {g : FA}
end
end FL
namespace FL
open PySem PySem.Spec PyProof.Rows L2
open PySem.W (Looks looks_mroIn mroIn clsIn)
section
variable {prog : Program} {w : World} {A : Around} {E : Value → Shared → Prop} {h : Heap} {g : Array GenState} {d : Drawn} {t : Nat} {os : OsState} {a C S : Addr} {o : Obj} {K : Frag}
end
section
variable {X : Cx}
end
end FL
namespace FL
open PySem PySem.Spec PyProof.Rows L2
section
variable {X : Cx}
section
variable {en : Str} {i : Nat} {p pe pT pos : Pos} {tb : List (Nat × Bool)}
end
end
section
variable {X : Cx} {m : Str} {k j : Nat} {cs : List Nat} {F : Nat → List D → Option Ret} {o : Expr} {apos pos : Pos} {fo : FE}
end
section
variable {X : Cx} {C : Addr} {x : Str} {p pos : Pos}
end
section
variable {K : Frag} {H : Hp} {O : Addr → Prop} {a : Addr} {xs ys : List V}
end
section
variable {X : Cx}
end
section
variable (X : Cx) (E : XK) (C : Addr)
noncomputable def PSsAny (st : List Stmt) : Prop := ∃ t, PSs X st t
end
section
variable {X : Cx} {E : XK} {C : Addr}
theorem PSsv.any {st : List Stmt} {g : FS} (h : PSsv X st g) : PSsAny X st := let ⟨t, ht, _⟩ := h; ⟨t, ht⟩
section
variable {k j n : Nat} {R : List D → Bool} {x : Str} {p pos : Pos} {e : Expr} {es : List Expr} {g : FA}
end
end
section
variable {X : Cx} {E : XK} {C : Addr} {t k j n : Nat} {R : List D → Bool} {x : Str} {p pos : Pos} {e : Expr} {es : List Expr} {g : FA}
end
section
variable {X : Cx}
end
section
variable {X : Cx} {k j i : Nat} {F : Nat → Option Ret} {x en : Str} {p pe pos : Pos}
end
end FL
namespace L2
open PySem PySem.Spec PyProof.Rows
section
variable {X : Cx}
end
end L2
namespace FL
open PySem PySem.Spec PyProof.Rows L2
section
variable {X : Cx}
end
section
variable {X : Cx}
end
end FL
namespace L2
open PySem PySem.Spec PyProof.Rows
section
variable {X : Cx}
theorem Inv.drw {pins : List (Addr × Obj)} {s : Shared} {σ} {H : Hp} (I : Inv X pins σ H s) (d : Drawn) : Inv X pins σ H { s with drawn := d } :=
 I.step (h' := s.heap) (H' := H) (g' := s.gens) (t' := s.toks) (d' := d) (ch := []) (fun _ z => nomatch z) (fun b o _ _ _ e _ => e) (fun b o _ _ _ e _ => ⟨o.slots, e⟩) (fun _ _ _ _ n => n) (fun b o _ e => ⟨o, e⟩)
  (fun _ _ e => e) (fun _ _ _ e => e) (fun _ _ e => e) (fun m hm => hm) I.hok I.bare
theorem vals_nums : ∀ {us : List Value} {ns : List Int}, IntsAre us ns → Vals (ns.map V.int) us
 | _, _, .nil => .nil
 | _, _, .cons n t h => .cons ⟨t, rfl⟩ (vals_nums h)
noncomputable def tSrtS (ta : TA) (K : PySem.W.Frag) : TE := fun σ H Q => ta σ H fun vs H1 => ∃ (p : Addr) (ns : List Int), vs = [.ref p] ∧ SqL K H1 p (ns.map V.int) ∧ ns.length + 1 < 4096 ∧ ∀ l, H1 l = none → Q (.ref l) (upd H1 l (.lst ((FL.srtU ns).map V.int)))
theorem pe_srtS {a : Expr} {ta : TA} {p p2 pos pos2 : Pos} (hc : X.calm = true) (hgl : Gl X "sorted") (hml : X.mg "sorted" = none) (hg : Gl X "set") (hm : X.mg "set" = none) (ha : PA X [a] ta)
  (hl : starEach [.Call (.Name "set" p2) [a] [] pos2] X.env = [(false, eval (.Call (.Name "set" p2) [a] [] pos2) X.env)] := by rfl)
  (hs : starEach [a] X.env = [(false, eval a X.env)] := by rfl) :
  PE X (.Call (.Name "sorted" p) [.Call (.Name "set" p2) [a] [] pos2] [] pos) (tSrtS ta X.K) := by
 intro pins s σ H Q I h
 refine wpAny_Call_Name_kw (ld_blt I hgl hml (show bootBuiltins "sorted" = some (.builtin "sorted") by decide +kernel) ?_)
 refine PyProof.Rows.callWith_builtin1 ?_ hl rfl
 rw [hl]
 show wpAny _ _ (spliced ((false, eval (.Call (.Name "set" p2) [a] [] pos2) X.env) :: backTo pos [])) _ _ s
 refine Calls.spliced_cons ?_
 refine Call_ (ld_blt I hg hm (show bootBuiltins "set" = some (.type "set") by decide +kernel) (PyProof.Rows.callWith_type1 (thn (ha pos2 pins s σ H _ I h) fun us s1 ⟨vs, H1, I1, r1, q1⟩ => ?_) hs rfl))
 obtain ⟨l, ns, e, hq, hz0, q⟩ := q1
 subst e
 obtain ⟨u, rfl, ru⟩ := vals1 r1
 cases ru
 obtain ⟨its, rv, pl, hz⟩ := I1.list hq
 have hi : IntsAre its ns := intsAre_of rv
 have hlen := rv.length
 have hil := IntsAre.length hi
 refine TS.call_set (I.ok.hd hc) pl.isList (by simpa using hi) (by simp only [List.size_toArray]; unfold scanBound; omega) fun h' tk hS hk => ?_
 have I2 : Inv X pins σ H1 { s1 with heap := h', toks := tk } := I1.kept hk
 refine Calls.spliced_nil ?_
 refine TS.sorted_set (s := { s1 with heap := h', toks := tk }) (I.ok.hd hc) hS (by simp only [List.size_toArray]; rw [sizeLine_eq]; omega) fun h1 h2 d tk2 vs' ks e k1 k2 hL hI' hlt hm hle => ?_
 have en : ks = FL.srtU ns := FL.lt_unique _ _ (fun k => (hm k).trans (FL.mem_srtU k ns).symm) hlt (FL.srtU_lt ns)
 have I3 : Inv X pins σ H1 { s1 with heap := h1, drawn := d, toks := tk2 } := Inv.kept (s := { s1 with heap := h', drawn := d, toks := tk }) (I2.drw d) k1
 refine ⟨.ref h1.objs.size, _, Inv.laid (s := { s1 with heap := h1, drawn := d, toks := tk2 }) I3 (t' := tk2) k2 (Nat.le_refl _) (show ObjOk X.prog X.w _ h2 _ (.lst ((FL.srtU ns).map V.int)) from ⟨?_, vs', e, ?_, hL⟩), rfl, q _ (I3.hok.fresh (Nat.le_refl _))⟩
 · have h1 := IntsAre.length hI'
   rw [← en, List.length_map]
   simp only [List.size_toArray] at hle
   rw [sizeLine_eq]
   omega
 · rw [← en]; exact vals_nums hI'
end
end L2
namespace FL
open PySem PySem.Spec PyProof.Rows L2
section
variable {X : Cx}
theorem reps_ints {K : Frag} {H : Hp} {O : Addr → Prop} : ∀ ns : List Int, Reps K H O (ns.map V.int) (ns.map D.int)
 | [] => .nil
 | n :: ns => .cons (.int n) (reps_ints ns)
theorem pvf_sortedSet {e : Expr} {f : FE} {p p2 pos pos2 : Pos} (hc : X.calm = true) (hml : X.mg "sorted" = none) (hm : X.mg "set" = none) (he : PVw X e f) (hgl : Gl X "sorted" := by rfl) (hg : Gl X "set" := by rfl)
  (hl : starEach [.Call (.Name "set" p2) [e] [] pos2] X.env = [(false, eval (.Call (.Name "set" p2) [e] [] pos2) X.env)] := by rfl) (hs : starEach [e] X.env = [(false, eval e X.env)] := by rfl) :
  PVf X (.Call (.Name "sorted" p) [.Call (.Name "set" p2) [e] [] pos2] [] pos) (srtSA f) := by
 obtain ⟨te, pe, he⟩ := he
 refine ⟨_, pe_srtS hc hgl hml hg hm (pa_cons pe pa_nil hs) hl hs, fun H₀ H O σ ds hd l Q o e q => ?_⟩
 unfold srtSA at e
 obtain ⟨d, h1, e⟩ := bnd e
 refine he H₀ H O σ ds hd _ _ o h1 fun v H1 s1 r1 => ?_
 cases d <;> first | (cases e; done) | skip
 rename_i l'
 simp only at e
 obtain ⟨ns, hb, e⟩ := bnd e
 split at e
 · rename_i hz
   cases e
   obtain ⟨a1, xs, rfl, hq, rs⟩ := r1.seqL
   refine ⟨a1, ns, rfl, ?_, hz, fun p hp => ?_⟩
   · rw [← ints_rep rs hb]; exact hq
   · exact q p _ _ (s1.trans (same_upd hp _)) (s1.free hp) upd_same (reps_ints _)
 · cases e
end
end FL
namespace L2
open PySem PySem.Spec PyProof.Rows
section
variable {prog : Program} {w : World} {A : Around} {E : Value → Shared → Prop} {s : Shared}
open HT in
theorem getItem_whole {t sl : Addr} {items : Array Value} {vl vu : Value} {lo hi : Option Int} {Q : Value → Shared → Prop} (ht : IsTup s.heap t items) (hs : s.heap.IsSliceOf sl vl vu .none) (pl : IsPart vl lo) (pu : IsPart vu hi)
  (hw : sIx items.size 0 lo = 0 ∧ sIx items.size items.size hi = items.size) (h : Q (.ref t) s) : wpAny (model prog w) A (getItem (.ref t) (.ref sl)) Q E s := by
 obtain ⟨os, hos, hcs, hds⟩ := id hs
 have hTs : s.TypeIs (.ref sl) "slice" := ⟨os, hos, hcs⟩
 unfold getItem
 try with_reducible refine wpAny_holding ?_
 first | refine wpAny_bind (wpAny_pure ?_) | skip
 refine wpAny_bind (wpAny_sequenceKey ht.typeIs (by decide) ?_)
 refine wpAny_bind (wpAny_callSpecial?_slot (name := Str.ofString "__getitem__") ht.typeIs PyProof.Rows.slot_tuple_getitem
  (wpAny_call_entry PyProof.Rows.slot_tuple_getitem ht.typeIs entry_tuple_getitem ?_ (args_tuple_getitem _ _)))
 show wpAny _ _ (Builtin.Tuple.tupleItemsOf (.ref t) >>= _) _ _ s
 refine wpAny_bind (tupleItemsOf_ ht (wpAny_bind (wpAny_typeOf hTs ?_)))
 rw [if_pos (by decide)]
 refine wpAny_bind (sliceApplied_gen hs pl pu ?_)
 show wpAny _ _ (if (((sIx items.size 0 lo : Nat) : Int) == 0 && (1 : Int) == 1 && (sIx items.size items.size hi - sIx items.size 0 lo) == items.size) = true then _ else _) _ _ s
 rw [if_pos (by rw [hw.1, hw.2]; simp)]
 refine wpAny_bind ?_
 unfold Builtin.Tuple.tupleIsExact
 refine wpAny_bind (wpAny_typeOf (T := "tuple") ht.typeIs (wpAny_pure ?_))
 rw [if_pos (by decide)]
 exact wpAny_bind (wpAny_rule (wpAny_pure ⟨_, rfl, wpAny_pure h⟩))
end
section
variable {X : Cx}
noncomputable def rSlW (K : PySem.W.Frag) : V → Option Int → Option Int → Hp → VK → Prop := fun x lo hi H Q => ∃ a xs, x = .ref a ∧ SqT K H a xs ∧
 ((¬ (HT.sIx xs.length 0 lo = 0 ∧ HT.sIx xs.length xs.length hi = xs.length) ∧ ∀ p, H p = none → Q (.ref p) (upd H p (.tup (cutV xs lo hi)))) ∨
   ((HT.sIx xs.length 0 lo = 0 ∧ HT.sIx xs.length xs.length hi = xs.length) ∧ Q (.ref a) H))
theorem sl_tupW : SlR X (rSlW X.K) := by
 intro pins s σ H x v vl vu lo hi sl Q I rx hs pl pu h
 obtain ⟨a, xs, rfl, hx, h⟩ := h
 rcases h with ⟨hw, q⟩ | ⟨hw, q⟩
 · exact sl_tup pins s σ H _ v vl vu lo hi sl Q I rx hs pl pu ⟨a, xs, rfl, hx, hw, q⟩
 · cases rx
   obtain ⟨its, r, ht, hz⟩ := I.tuple hx
   have hlen : its.toArray.size = xs.length := by rw [List.size_toArray]; exact r.length.symm
   refine ⟨"tuple", _, PyProof.Rows.slot_tuple_getitem.lookup, ht.typeIs, ?_⟩
   exact getItem_whole ht hs pl pu (by rw [hlen]; exact hw) ⟨.ref a, H, I, rfl, q⟩
end
end L2
namespace FL
open PySem PySem.Spec PyProof.Rows L2
section
variable {X : Cx}
theorem cutD_whole (l : List D) (a b : Option Int) (h : HT.sIx l.length 0 a = 0 ∧ HT.sIx l.length l.length b = l.length) : cutD l a b = l := by
 unfold cutD
 rw [h.1, h.2]
 simp
theorem pv_sltw {e : Expr} {lo hi : Option Expr} {f : FE} {gl gh : List Sl → Option (Option Int)} {p2 pos : Pos} (he : PVw X e f) (hl : POv X lo gl) (hh : POv X hi gh) : PV X (.Subscript e (.Slice lo hi none p2) pos) (sltW f gl gh) := by
 obtain ⟨te, pe, he⟩ := he
 obtain ⟨tl, pl, hl⟩ := hl
 obtain ⟨th, ph, hh⟩ := hh
 refine ⟨_, pe_slice sl_tupW pe pl ph, fun H₀ H O σ ds hd d' Q o e q => ?_⟩
 unfold sltW at e
 obtain ⟨d, h1, e⟩ := bnd e
 obtain ⟨a, h2, e⟩ := bnd e
 obtain ⟨b, h3, e⟩ := bnd e
 cases d <;> first | (cases e; done) | skip
 simp only at e
 cases e
 refine he H₀ H O σ ds hd _ _ o h1 fun v H1 s1 r1 => ?_
 refine hl H₀ H1 O σ ds hd _ _ (o.mono s1) h2 fun H2 s2 => ?_
 refine hh H₀ H2 O σ ds hd _ _ ((o.mono s1).mono s2) h3 fun H3 s3 => ?_
 have rr := (r1.mono s2).mono s3
 obtain ⟨a1, xs, rfl, hq, rs⟩ := rr.seqT
 have ss := (s1.trans s2).trans s3
 refine ⟨a1, xs, rfl, hq, ?_⟩
 by_cases hw : HT.sIx xs.length 0 a = 0 ∧ HT.sIx xs.length xs.length b = xs.length
 · refine .inr ⟨hw, ?_⟩
   rw [rs.length] at hw
   rw [cutD_whole _ _ _ hw] at q
   refine q _ _ ss ?_
   rcases rr with rr | ⟨_, _, _, _, e, _⟩
   · exact rr
   · cases e
 · refine .inl ⟨hw, fun p hp => ?_⟩
   refine q _ _ (ss.trans (same_upd hp _)) ?_
   exact .tup (((o.mono ss).free hp)) (.inl upd_same) ((cut_reps rs).mono (same_upd hp _))
end
end FL
namespace FL
open PySem PySem.Spec PyProof.Rows L2
open PySem.W (tabIn CodeHd tabObj kla_eval kla_makeFunction kla_makeFunctionHit kla_obj kla_fn kla_callFunE kla_codeExpr FnAt callWith_F envX)
section
variable {X : Cx}
end
section
variable {X : Cx} {pins : List (Addr × Obj)} {σ : L2.St} {H H' : Hp} {s s' : Shared} {cs : List Addr}
end
section
variable {K : Frag} {H : Hp} {O : Addr → Prop} {cs : List Addr}
end
section
variable {X : Cx}
end
end FL
namespace FL
open PySem PySem.Spec PyProof.Rows L2
open PySem.W (tabIn CodeHd tabObj kla_callFunE kla_codeExpr FnAt callWith_F envX)
section
variable {X : Cx}
section
variable {k j' n m j : Nat} {F : List D → Option Ret} {x y : Str} {p pos : Pos} {e : Expr} {es : List Expr} {g : FA} {is : List Nat} {t : LamT} {st : Stmt} {f c P : Addr}
end
end
theorem ClosOk.length {H : Hp} {O : Addr → Prop} : ∀ {cl : List (Str × Addr)} {xs : List V}, ClosOk H O cl xs → cl.length = xs.length
 | _, _, .nil => rfl
 | _, _, .cons no h d r t => by simp [t.length]
noncomputable def FnIn (K : Frag) (j : Nat) : Prop := ∃ (f : Addr) (oc : Value) (od : Option Addr) (fd : FuncData) (osl : Array (Option Value)), PySem.W.nsIn K mainGlobals (fnName j) = some (some (.ref f)) ∧ K.lookup f = some ⟨oc, od, .func fd, osl⟩
structure CalV (P : Program) (w : World) (K : Frag) (mg : Str → Option Value) (base : Heap) (j k n : Nat) (F : List D → Option Ret) : Prop where
 ex : ∃ (f : Addr) (fd : FuncData) (ps : List Str) (oc : Value) (od : Option Addr) (osl : Array (Option Value)), FnOk P w K mg base CX0 k f fd ps (spF K n F) ∧ Binds K fd ps [] ∧ PySem.W.nsIn K mainGlobals (fnName j) = some (some (.ref f)) ∧ K.lookup f = some ⟨oc, od, .func fd, osl⟩
theorem CalV.fin {P : Program} {w : World} {K : Frag} {mg : Str → Option Value} {base : Heap} {j k n : Nat} {F : List D → Option Ret} (C : CalV P w K mg base j k n F) : FnIn K j := by
 obtain ⟨f, fd, ps, oc, od, osl, _, _, h1, h2⟩ := C.ex
 exact ⟨f, oc, od, fd, osl, h1, h2⟩
section
variable {X : Cx} {k j i : Nat} {Φ : Fun2} {x : Str} {p pos : Pos} {e : Expr} {es : List Expr} {g : FA}
end
end FL
namespace FL
open PySem PySem.Spec PyProof.Rows L2
section
variable {X : Cx}
end
end FL
namespace FL
open PySem PySem.Spec PyProof.Rows L2
open PySem.W (tabIn CodeHd tabObj makeFunction_K makeFunction_hit fnMade fnX nestDef_K kla_callFunE envX)
section
variable {X : Cx} {pins : List (Addr × Obj)} {σ : L2.St} {H : Hp} {s : Shared}
end
section
variable {X : Cx}
end
section
variable {X : Cx} {pins : List (Addr × Obj)} {σ : L2.St} {H : Hp} {s : Shared} {cs : List Addr}
end
section
variable {X : Cx}
end
end FL
namespace FL
open PySem PySem.Spec PyProof.Rows L2
section
variable {X : Cx} {tg : Expr}
end
section
variable {X : Cx}
end
end FL
namespace FL
open PySem PySem.Spec PyProof.Rows L2
open PySem.W (tabIn CodeHd)
section
variable {X : Cx}
end
section
variable {X : Cx} {E : XK} {C : Addr}
end
section
variable {X : Cx} {k j : Nat} {n : Nat} {F : List D → Option Ret} {x : Str} {p pos : Pos} {e : Expr} {es : List Expr} {g : FA}
end
end FL
namespace FL
open PySem PySem.Spec PyProof.Rows L2
section
variable {X : Cx} {E : XK} {C : Addr}
end
section
variable {X : Cx} {E : XK} {C : Addr}
end
end FL
namespace L2
open PySem PySem.Spec PyProof.Rows
section
variable {X : Cx}
end
end L2
namespace FL
open PySem PySem.Spec PyProof.Rows L2
section
variable {X : Cx} {E : XK} {C : Addr}
end
section
variable {X : Cx}
end
end FL
namespace L2
open PySem PySem.Spec PyProof.Rows
open Builtin Builtin.Str
section
variable {X : Cx}
end
end L2
namespace FL
open PySem PySem.Spec PyProof.Rows L2
section
variable {X : Cx}
section
variable {o e : Expr} {apos cpos : Pos} {f g : FE} {name : Str} {id : String}
end
end
section
variable {X : Cx} {E : XK} {C : Addr}
section
variable {x : Str} {p pos : Pos} {e : Expr} {t k j : Nat} {G : List D → Option (List D)} {y : List Sl → Bool}
end
end
end FL
namespace L2
open PySem PySem.Spec PyProof.Rows
section
variable {prog : Program} {w : World} {A : Around} {E : Value → Shared → Prop} {s : Shared}
end
section
variable {X : Cx} {pos : Pos}
end
end L2
namespace FL
open PySem PySem.Spec PyProof.Rows L2
section
variable {X : Cx}
end
section
variable {K : Frag} {H H' H₀ : Hp} {O O' : Addr → Prop}
abbrev orL (fs : List Addr) (O : Addr → Prop) : Addr → Prop := fun b => b ∈ fs ∨ O b
theorem Rep.moreL {v : V} {d : D} : ∀ {ps : List Addr}, (∀ p ∈ ps, H p = none) → Rep K H O v d → Rep K H (orL ps O) v d
 | [], _, h => h.less fun a z => z.elim (fun q => nomatch q) id
 | p :: ps, hp, h => ((Rep.moreL (ps := ps) (fun q hq => hp q (.tail _ hq)) h).more (p := p) (hp p (.head _))).less fun a z => z.elim (fun q => (List.mem_cons.mp q).elim .inl fun q => .inr (.inl q)) fun q => .inr (.inr q)
theorem Reps.moreL {v : List V} {d : List D} : ∀ {ps : List Addr}, (∀ p ∈ ps, H p = none) → Reps K H O v d → Reps K H (orL ps O) v d
 | [], _, h => h.less fun a z => z.elim (fun q => nomatch q) id
 | p :: ps, hp, h => ((Reps.moreL (ps := ps) (fun q hq => hp q (.tail _ hq)) h).more (p := p) (hp p (.head _))).less fun a z => z.elim (fun q => (List.mem_cons.mp q).elim .inl fun q => .inr (.inl q)) fun q => .inr (.inr q)
theorem RepO.moreL {v : V} {t : OT} {fs : List Addr} : ∀ {ps : List Addr}, (∀ p ∈ ps, H p = none) → RepO K H O v t fs → RepO K H (orL ps O) v t fs
 | [], _, h => h.less (fun a z => z.elim (fun q => nomatch q) id) fun b hb => .inr (h.owns b hb).1
 | p :: ps, hp, h => ((RepO.moreL (ps := ps) (fun q hq => hp q (.tail _ hq)) h).more (p := p) (hp p (.head _))).less (fun a z => z.elim (fun q => (List.mem_cons.mp q).elim .inl fun q => .inr (.inl q)) fun q => .inr (.inr q)) fun b hb => .inr (h.owns b hb).1
theorem Ok.moreL {σ : L2.St} {ds : List Sl} {hd : Hold} {fs : List Addr} (o : Ok K H₀ H O σ ds hd) (s : Same H H') (hn : ∀ b ∈ fs, H b = none) (hl : ∀ b ∈ fs, ∃ u : MutHO, H' b = some u.1) : Ok K H₀ H' (orL fs O) σ ds hd := by
 refine ⟨o.same.trans s, o.fresh, fun b hb => hb.elim (hl b) fun z => let ⟨xs, e⟩ := o.dom b z; ⟨xs, s _ _ e⟩, o.len, fun i sl e => ?_, o.apart, fun p hp => ?_, o.obs.tr (fun _ _ _ r _ => (r.moreL hn).mono s) (fun _ _ _ e => ⟨e, rfl⟩) fun _ _ oj ej => .inl ⟨oj, ej⟩⟩
 · cases sl with
   | no => exact slOk_no
   | ob r t => exact slOk_ob
   | exc t =>
     obtain ⟨a', C', ob', u', q1, q2, q3, q4⟩ := o.readX e
     rw [q1]
     exact ⟨C', ob', u', q2, s _ _ q3, q4⟩
   | fr l' =>
     obtain ⟨a', xs', q1, q2, q0, q3, q4⟩ := o.readF e
     rw [q1]
     exact ⟨fun z => z.elim (fun z => by rw [hn _ z] at q3; cases q3) q2, q0, xs', s _ _ q3, (q4.moreL hn).mono s⟩
   | v d =>
     obtain ⟨v, h1, h2⟩ := o.read e
     rw [h1]
     exact slOk_v ((h2.moreL hn).mono s)
   | own l' =>
     obtain ⟨b, ys, h1, h2, h3, h4⟩ := o.readO e
     rw [h1]
     exact ⟨.inr h2, ys, s _ _ h3, (h4.moreL hn).mono s⟩
 · have := o.hold p hp
   cases p with
   | rep v d => exact (Rep.moreL hn this).mono s
   | base B => exact fun b hb => ⟨.inr (this b hb).1, (this b hb).2⟩
   | root k a => exact True.intro
   | fz a' o' kvs' l' => exact ⟨fun z => z.elim (fun z => by have := this.2.1; rw [hn _ z] at this; cases this) this.1, s _ _ this.2.1, (Reps.moreL hn this.2.2).mono s⟩
theorem Ok.setOb {σ : L2.St} {ds : List Sl} {hd : Hold} {fs : List Addr} {i : Nat} {v : V} {t : OT} (o : Ok K H₀ H O σ ds hd) (s : Same H H') (r : RepO K H' (orL fs O) v t fs) (nd : fs.Nodup) (hn : ∀ b ∈ fs, H b = none) :
  Ok K H₀ H' (orL fs O) (σ.set i (some v)) (ds.set i (.ob none t)) hd := by
 have o1 : Ok K H₀ H' (orL fs O) σ ds hd := o.moreL s hn fun b hb => (r.owns b hb).2
 have own' : ∀ {j : Nat}, IsOwn (ds.set i (.ob none t)) j → IsOwn ds j ∧ j ≠ i := fun h => own_set (fun l => by intro z; cases z) h
 refine ⟨o1.same, fun j l a e1 e2 => ?_, o1.dom, by simpa using o1.len, fun j sl e => ?_, fun j k a hjk hj hk e1 e2 => ?_, o1.hold, ?_⟩
 · obtain ⟨⟨l', e'⟩, n1⟩ := own' ⟨l, e1⟩
   rw [List.getElem?_set_ne (Ne.symm n1)] at e2
   exact o1.fresh j l' a e' e2
 · by_cases hj : j = i
   · subst hj
     by_cases hl : j < ds.length
     · rw [List.getElem?_set_self hl] at e
       cases e
       exact slOk_ob
     · rw [List.getElem?_eq_none (by simpa using hl)] at e; cases e
   · rw [List.getElem?_set_ne (Ne.symm hj)] at e
     rw [List.getElem?_set_ne (Ne.symm hj)]
     exact o1.sl j sl e
 · obtain ⟨h1, n1⟩ := own' hj
   obtain ⟨h2, n2⟩ := own' hk
   rw [List.getElem?_set_ne (Ne.symm n1)] at e1
   rw [List.getElem?_set_ne (Ne.symm n2)] at e2
   exact o1.apart j k a hjk h1 h2 e1 e2
 · obtain ⟨F, hF⟩ := o.obs
   have ne : ∀ {j : Nat} {r' : Option Nat} {t' : OT}, ds[j]? = some (.ob r' t') → ∀ b ∈ F j, b ∉ fs := fun {j r' t'} e b hb z => by
    obtain ⟨w, _, q, _⟩ := hF j r' t' e
    obtain ⟨_, xs, ex⟩ := q.owns b hb
    rw [hn b z] at ex; cases ex
   refine ⟨fun j => if j = i then fs else F j, fun j r' t' e => ?_⟩
   by_cases hj : j = i
   · subst hj
     by_cases hl : j < ds.length
     · rw [List.getElem?_set_self hl] at e
       cases e
       refine ⟨v, by rw [List.getElem?_set_self (by rw [o.len]; exact hl)], by simpa using r, (fun k a z => by cases z), by simpa using nd, fun b hb => ?_⟩
       have hb : b ∈ fs := by simpa using hb
       refine ⟨o.same.free (hn b hb), fun k r2 t2 hk e2 z => ?_, fun k ok ek => ?_⟩
       · simp only [hk, if_false] at z
         rw [List.getElem?_set_ne (Ne.symm hk)] at e2
         exact ne e2 b z hb
       · obtain ⟨⟨l2, e2⟩, hk⟩ := own' ok
         rw [List.getElem?_set_ne (Ne.symm hk)] at ek
         obtain ⟨b', ys, q1, _, q3, _⟩ := o.readO e2
         rw [ek] at q1; cases q1
         rw [hn b hb] at q3; cases q3
     · rw [List.getElem?_eq_none (by simpa using hl)] at e; cases e
   · rw [List.getElem?_set_ne (Ne.symm hj)] at e
     obtain ⟨w, h1, h2, h3, h4, h5⟩ := hF j r' t' e
     refine ⟨w, by rw [List.getElem?_set_ne (Ne.symm hj)]; exact h1, by simp only [hj, if_false]; exact (h2.moreL hn).mono s, h3, by simpa [hj] using h4, fun b hb => ?_⟩
     have hb : b ∈ F j := by simpa [hj] using hb
     refine ⟨(h5 b hb).1, fun k r2 t2 hk e2 z => ?_, fun k ok ek => ?_⟩
     · by_cases hki : k = i
       · simp only [hki, if_true] at z
         exact ne e b hb z
       · simp only [hki, if_false] at z
         rw [List.getElem?_set_ne (Ne.symm hki)] at e2
         exact (h5 b hb).2.1 k r2 t2 hk e2 z
     · obtain ⟨ok', hk⟩ := own' ok
       rw [List.getElem?_set_ne (Ne.symm hk)] at ek
       exact (h5 b hb).2.2 k ok' ek
inductive Kid (H : Hp) (b : Addr) : List V → Prop
 | tup {xs : List V} (h : Rd H b (.tup xs)) : Kid H b xs
 | lst {xs : List V} (h : H b = some (.lst xs)) : Kid H b xs
 | dct {kvs : List (Key × V)} (h : H b = some (.dK kvs)) : Kid H b (kvs.map (·.2))
 | ins {C dx : Addr} {kvs : List (Str × V)} (h : H b = some (.ins C dx kvs)) : Kid H b (kvs.map (·.2))
noncomputable def PathV (H : Hp) : V → List Nat → V → Prop
 | v, [], w => w = v
 | v, k :: p, w => ∃ b xs x, v = .ref b ∧ Kid H b xs ∧ xs[k]? = some x ∧ PathV H x p w
theorem Kid.det {b : Addr} {xs ys : List V} (h : Kid H b xs) (g : Kid H b ys) : xs = ys := by
 have rd : ∀ {zs ws : List V}, Rd H b (.tup zs) → Rd H b (.tup ws) → zs = ws := fun h g => by
  rcases h with h | ⟨o, h⟩ <;> rcases g with g | ⟨o', g⟩ <;> rw [h] at g <;> cases g <;> rfl
 have no : ∀ {zs : List V} {u : HO}, Rd H b (.tup zs) → H b = some u → (∀ ws, u ≠ .tup ws) → (∀ o w, u ≠ .frz o w) → False := fun h g n1 n2 => by
  rcases h with h | ⟨o, h⟩ <;> rw [h] at g <;> cases g
  · exact n1 _ rfl
  · exact n2 _ _ rfl
 cases h with
 | tup h => cases g with
   | tup g => exact rd h g
   | lst g => exact (no h g (fun _ z => by cases z) (fun _ _ z => by cases z)).elim
   | dct g => exact (no h g (fun _ z => by cases z) (fun _ _ z => by cases z)).elim
   | ins g => exact (no h g (fun _ z => by cases z) (fun _ _ z => by cases z)).elim
 | lst h => cases g with
   | tup g => exact (no g h (fun _ z => by cases z) (fun _ _ z => by cases z)).elim
   | lst g => rw [h] at g; cases g; rfl
   | dct g => rw [h] at g; cases g
   | ins g => rw [h] at g; cases g
 | dct h => cases g with
   | tup g => exact (no g h (fun _ z => by cases z) (fun _ _ z => by cases z)).elim
   | lst g => rw [h] at g; cases g
   | dct g => rw [h] at g; cases g; rfl
   | ins g => rw [h] at g; cases g
 | ins h => cases g with
   | tup g => exact (no g h (fun _ z => by cases z) (fun _ _ z => by cases z)).elim
   | lst g => rw [h] at g; cases g
   | dct g => rw [h] at g; cases g
   | ins g => rw [h] at g; cases g; rfl
theorem pathV_det : ∀ {p : List Nat} {v x y : V}, PathV H v p x → PathV H v p y → x = y
 | [], v, x, y, h, g => h.trans g.symm
 | k :: p, v, x, y, ⟨b, xs, z, h1, h2, h3, h4⟩, ⟨b', xs', z', g1, g2, g3, g4⟩ => by
   rw [h1] at g1
   cases g1
   cases h2.det g2
   rw [h3] at g3
   cases g3
   exact pathV_det h4 g4
theorem RepsO.length : ∀ {xs : List V} {ts : List OT} {fs : List Addr}, RepsO K H O xs ts fs → xs.length = ts.length
 | _, _, _, .nil => rfl
 | _, _, _, .cons _ r => by simp [RepsO.length r]
theorem RepsO.pick : ∀ {xs : List V} {ts : List OT} {fs : List Addr} {k : Nat} {t : OT}, RepsO K H O xs ts fs → ts[k]? = some t → ∃ (x : V) (pre f post : List Addr), xs[k]? = some x ∧ fs = pre ++ (f ++ post) ∧ RepO K H O x t f ∧
  ∀ {H' : Hp} {O' : Addr → Prop} {g : OT → OT} {f' : List Addr}, RepO K H' O' x (g t) f' → (∀ y s e, RepO K H O y s e → (∀ b ∈ e, b ∈ pre ∨ b ∈ post) → RepO K H' O' y s e) → RepsO K H' O' xs (ts.modify k g) (pre ++ (f' ++ post))
 | _, _, _, 0, t, .cons (x := x) (fs := f) (gs := gs) h r, e => by
   simp only [List.getElem?_cons_zero, Option.some.injEq] at e
   subst e
   refine ⟨x, [], f, gs, rfl, rfl, h, fun {H' O' g f'} h' ho => ?_⟩
   have : ∀ {xs : List V} {ts : List OT} {gs' : List Addr}, RepsO K H O xs ts gs' → (∀ b ∈ gs', b ∈ gs) → RepsO K H' O' xs ts gs' := by
    intro xs ts gs' h
    induction xs generalizing ts gs' with
    | nil => intro _; cases h; exact .nil
    | cons y ys ih =>
      intro hb
      cases h with
      | cons h1 h2 => exact .cons (ho _ _ _ h1 fun b z => .inr (hb b (List.mem_append_left _ z))) (ih h2 fun b z => hb b (List.mem_append_right _ z))
   show RepsO K H' O' _ _ (f' ++ gs)
   exact .cons h' (this r fun _ z => z)
 | _, _, _, k + 1, t, .cons (x := x) (t := t0) (fs := f0) (gs := gs) h r, e => by
   obtain ⟨y, pre, f, post, h1, h2, h3, h4⟩ := RepsO.pick (k := k) (t := t) r (by simpa using e)
   refine ⟨y, f0 ++ pre, f, post, by simpa using h1, by rw [h2]; simp, h3, fun {H' O' g f'} h' ho => ?_⟩
   have q := h4 h' fun z s e' hz hb => ho z s e' hz fun b hb' => (hb b hb').elim (fun z => .inl (List.mem_append_right _ z)) .inr
   have := RepsO.cons (ho _ _ _ h fun b hb => .inl (List.mem_append_left _ hb)) q
   simpa [List.append_assoc] using this
theorem nodup_mid {pre f post : List Addr} (nd : (pre ++ (f ++ post)).Nodup) : f.Nodup ∧ (∀ b ∈ f, b ∉ pre ∧ b ∉ post) ∧ ∀ (f' : List Addr), f'.Nodup → (∀ b ∈ f', b ∈ f ∨ (b ∉ pre ∧ b ∉ post)) → (pre ++ (f' ++ post)).Nodup := by
 rw [List.nodup_append] at nd
 obtain ⟨n1, n2, n3⟩ := nd
 rw [List.nodup_append] at n2
 obtain ⟨n4, n5, n6⟩ := n2
 have ap : ∀ b ∈ f, b ∉ pre ∧ b ∉ post := fun b hb => ⟨fun z => n3 b z b (List.mem_append_left _ hb) rfl, fun z => n6 b hb b z rfl⟩
 refine ⟨n4, ap, fun f' hf hs => ?_⟩
 have ap' : ∀ b ∈ f', b ∉ pre ∧ b ∉ post := fun b hb => (hs b hb).elim (ap b) id
 rw [List.nodup_append]
 refine ⟨n1, ?_, fun a ha b hb e => ?_⟩
 · rw [List.nodup_append]
   exact ⟨hf, n5, fun a ha b hb e => (ap' a ha).2 (e ▸ hb)⟩
 · rcases List.mem_append.mp hb with z | z
   · exact (ap' b z).1 (e ▸ ha)
   · exact n3 a ha b (List.mem_append_right _ z) e
structure Chg (H H' : Hp) (O O' : Addr → Prop) (f : List Addr) (f' : List Addr) : Prop where
 keep : ∀ b u, ¬ O b → H b = some u → H' b = some u
 rest : ∀ b u, O b → b ∉ f → H b = some u → H' b = some u
 sub : ∀ b, O b → b ∉ f → O' b
 new : ∀ b, O' b → O b ∨ (b ∈ f' ∧ H b = none)
 fp : ∀ b ∈ f', b ∈ f ∨ H b = none
theorem Chg.rep {f f' : List Addr} (c : Chg H H' O O' f f') {v : V} {d : D} (r : Rep K H O v d) : Rep K H' O' v d := by
 have hn : ∀ p ∈ f'.filter (fun b => (H b).isNone), H p = none := fun p hp => by simpa using (List.mem_filter.mp hp).2
 have r1 := (r.moreL hn).keep (H' := H') fun b u hb e => c.keep b u (fun z => hb (.inr z)) e
 exact r1.less (O' := O') fun a z => (c.new a z).elim .inr fun q => .inl (List.mem_filter.mpr ⟨q.1, by rw [q.2]; rfl⟩)
theorem Chg.reps {f f' : List Addr} (c : Chg H H' O O' f f') {v : List V} {d : List D} (r : Reps K H O v d) : Reps K H' O' v d := by
 have hn : ∀ p ∈ f'.filter (fun b => (H b).isNone), H p = none := fun p hp => by simpa using (List.mem_filter.mp hp).2
 have r1 := (r.moreL hn).keep (H' := H') fun b u hb e => c.keep b u (fun z => hb (.inr z)) e
 exact r1.less (O' := O') fun a z => (c.new a z).elim .inr fun q => .inl (List.mem_filter.mpr ⟨q.1, by rw [q.2]; rfl⟩)
theorem Chg.repO {f f' : List Addr} (c : Chg H H' O O' f f') {v : V} {t : OT} {e : List Addr} (r : RepO K H O v t e) (he : ∀ b ∈ e, b ∉ f) : RepO K H' O' v t e := by
 have hn : ∀ p ∈ f'.filter (fun b => (H b).isNone), H p = none := fun p hp => by simpa using (List.mem_filter.mp hp).2
 have r1 := (r.moreL hn).keep (H' := H') (fun b u hb e => c.keep b u (fun z => hb (.inr z)) e) fun b hb u eb => c.rest b u (r.owns b hb).1 (he b hb) eb
 exact r1.less (O' := O') (fun a z => (c.new a z).elim .inr fun q => .inl (List.mem_filter.mpr ⟨q.1, by rw [q.2]; rfl⟩)) fun b hb => c.sub b (r.owns b hb).1 (he b hb)
theorem RepO.modAt : ∀ (p : List Nat) {v : V} {t u : OT} {fs : List Addr}, RepO K H O v t fs → fs.Nodup → subO p t = some u → ∃ w f, PathV H v p w ∧ RepO K H O w u f ∧ f.Nodup ∧ (∀ b ∈ f, b ∈ fs) ∧
  ∀ {H' : Hp} {O' : Addr → Prop} {u' : OT} {f' : List Addr}, Chg H H' O O' f f' → RepO K H' O' w u' f' → f'.Nodup → ∃ fs', RepO K H' O' v (putO u' p t) fs' ∧ fs'.Nodup ∧ (∀ b ∈ fs', b ∈ fs ∨ b ∈ f') ∧ ∀ b ∈ f', b ∈ fs'
 | [], v, t, u, fs, r, nd, e => by
   cases e
   exact ⟨v, fs, rfl, r, nd, fun _ h => h, fun {H' O' u' f'} c r' nd' => ⟨f', r', nd', fun b hb => .inr hb, fun b hb => hb⟩⟩
 | k :: p, v, t, u, fs, r, nd, e => by
   -- of the parts
   have core : ∀ {xs : List V} {ts : List OT} {gs : List Addr}, RepsO K H O xs ts gs → gs.Nodup → (ts[k]?).bind (subO p) = some u → ∃ x w f, xs[k]? = some x ∧ PathV H x p w ∧ RepO K H O w u f ∧ f.Nodup ∧ (∀ b ∈ f, b ∈ gs) ∧
     ∀ {H' : Hp} {O' : Addr → Prop} {u' : OT} {f' : List Addr}, Chg H H' O O' f f' → RepO K H' O' w u' f' → f'.Nodup → ∃ gs', RepsO K H' O' xs (ts.modify k (putO u' p)) gs' ∧ gs'.Nodup ∧ (∀ b ∈ gs', b ∈ gs ∨ b ∈ f') ∧ ∀ b ∈ f', b ∈ gs' := by
    intro xs ts gs rs nds es
    obtain ⟨t1, ht, es⟩ := bnd es
    obtain ⟨x, pre, f0, post, h1, rfl, h3, h4⟩ := rs.pick ht
    obtain ⟨nf, nfr, nre⟩ := nodup_mid nds
    obtain ⟨w, f, g1, g2, g3, g4, g5⟩ := RepO.modAt p h3 nf es
    have inn : ∀ b ∈ f, b ∈ pre ++ (f0 ++ post) := fun b hb => List.mem_append_right _ (List.mem_append_left _ (g4 b hb))
    refine ⟨x, w, f, h1, g1, g2, g3, inn, fun {H' O' u' f'} c r' nd' => ?_⟩
    obtain ⟨f1, q1, q2, q3, q4⟩ := g5 c r' nd'
    have old : ∀ b, b ∈ pre ++ (f0 ++ post) → H b ≠ none := fun b hb z => by
     obtain ⟨_, y, ey⟩ := rs.owns b hb
     rw [z] at ey; cases ey
    refine ⟨pre ++ (f1 ++ post), h4 (g := putO u' p) q1 fun y s e hy hb => c.repO hy fun b hb' z => ?_, nre f1 q2 fun b hb => ?_, fun b hb => ?_, fun b hb => List.mem_append_right _ (List.mem_append_left _ (q4 b hb))⟩
    · exact (hb b hb').elim (nfr b (g4 b z)).1 (nfr b (g4 b z)).2
    · rcases q3 b hb with z | z
      · exact .inl z
      · rcases c.fp b z with y | y
        · exact .inl (g4 b y)
        · exact .inr ⟨fun q => old b (List.mem_append_left _ q) y, fun q => old b (List.mem_append_right _ (List.mem_append_right _ q)) y⟩
    · rcases List.mem_append.mp hb with z | z
      · exact .inl (List.mem_append_left _ z)
      · rcases List.mem_append.mp z with z | z
        · exact (q3 b z).imp (fun z => List.mem_append_right _ (List.mem_append_left _ z)) id
        · exact .inl (List.mem_append_right _ (List.mem_append_right _ z))
   -- an object that has the address a0, and parts
   have head : ∀ {a0 : Addr} {gs gs' f f' : List Addr} {H' : Hp} {O' : Addr → Prop}, (a0 :: gs).Nodup → O a0 → H a0 ≠ none → Chg H H' O O' f f' → gs'.Nodup → (∀ b ∈ gs', b ∈ gs ∨ b ∈ f') → (∀ b ∈ f, b ∈ gs) → (a0 :: gs').Nodup ∧ (∀ b ∈ a0 :: gs', b ∈ a0 :: gs ∨ b ∈ f') ∧ a0 ∉ f := by
    intro a0 gs gs' f f' H' O' nd0 oa ha c ndg hg hf
    obtain ⟨n0, _⟩ := List.nodup_cons.mp nd0
    refine ⟨List.nodup_cons.mpr ⟨fun z => ?_, ndg⟩, fun b hb => ?_, fun z => n0 (hf a0 z)⟩
    · rcases hg a0 z with y | y
      · exact n0 y
      · exact (c.fp a0 y).elim (fun q => n0 (hf a0 q)) ha
    · rcases List.mem_cons.mp hb with rfl | z
      · exact .inl (.head _)
      · exact (hg b z).imp (fun y => .tail _ y) id
   cases r with
   | val r => simp [subO] at e
   | tup n h r =>
     obtain ⟨x, w, f, h1, g1, g2, g3, g4, g5⟩ := core r nd e
     refine ⟨w, f, ⟨_, _, x, rfl, .tup h, h1, g1⟩, g2, g3, g4, fun {H' O' u' f'} c r' nd' => ?_⟩
     obtain ⟨gs', q1, q2, q3, q4⟩ := g5 c r' nd'
     refine ⟨gs', ?_, q2, q3, q4⟩
     have kk : Keep O H H' := fun b u hb eb => c.keep b u hb eb
     exact .tup (fun z => (c.new _ z).elim n fun q => Rd.some h q.2) (kk.rd n h) q1
   | lst n h r =>
     obtain ⟨x, w, f, h1, g1, g2, g3, g4, g5⟩ := core r (List.nodup_cons.mp nd).2 e
     refine ⟨w, f, ⟨_, _, x, rfl, .lst h, h1, g1⟩, g2, g3, fun b hb => .tail _ (g4 b hb), fun {H' O' u' f'} c r' nd' => ?_⟩
     obtain ⟨gs', q1, q2, q3, q4⟩ := g5 c r' nd'
     obtain ⟨k1, k2, k3⟩ := head nd n (by rw [h]; simp) c q2 q3 g4
     exact ⟨_ :: gs', .lst (c.sub _ n k3) (c.rest _ _ n k3 h) q1, k1, k2, fun b hb => .tail _ (q4 b hb)⟩
   | dct n h he r =>
     obtain ⟨x, w, f, h1, g1, g2, g3, g4, g5⟩ := core r (List.nodup_cons.mp nd).2 e
     refine ⟨w, f, ⟨_, _, x, rfl, .dct h, h1, g1⟩, g2, g3, fun b hb => .tail _ (g4 b hb), fun {H' O' u' f'} c r' nd' => ?_⟩
     obtain ⟨gs', q1, q2, q3, q4⟩ := g5 c r' nd'
     obtain ⟨k1, k2, k3⟩ := head nd n (by rw [h]; simp) c q2 q3 g4
     exact ⟨_ :: gs', .dct (c.sub _ n k3) (c.rest _ _ n k3 h) he q1, k1, k2, fun b hb => .tail _ (q4 b hb)⟩
   | ins hc n h he r =>
     obtain ⟨x, w, f, h1, g1, g2, g3, g4, g5⟩ := core r (List.nodup_cons.mp nd).2 e
     refine ⟨w, f, ⟨_, _, x, rfl, .ins h, h1, g1⟩, g2, g3, fun b hb => .tail _ (g4 b hb), fun {H' O' u' f'} c r' nd' => ?_⟩
     obtain ⟨gs', q1, q2, q3, q4⟩ := g5 c r' nd'
     obtain ⟨k1, k2, k3⟩ := head nd n (by rw [h]; simp) c q2 q3 g4
     exact ⟨_ :: gs', .ins hc (c.sub _ n k3) (c.rest _ _ n k3 h) he q1, k1, k2, fun b hb => .tail _ (q4 b hb)⟩
theorem Ok.modAt {σ : L2.St} {ds : List Sl} {hd : Hold} {i : Nat} {r : Option Nat} {t u : OT} {p : List Nat} (o : Ok K H₀ H O σ ds hd) (e : ds[i]? = some (.ob r t)) (hs : subO p t = some u) :
  ∃ v w f, σ[i]? = some (some v) ∧ PathV H v p w ∧ RepO K H O w u f ∧ f.Nodup ∧ (∀ b ∈ f, H₀ b = none) ∧
   ∀ {H' : Hp} {O' : Addr → Prop} {u' : OT} {f' : List Addr}, Chg H H' O O' f f' → (∀ b ∈ f, O' b → ∃ y : MutHO, H' b = some y.1) → RepO K H' O' w u' f' → f'.Nodup → Ok K H₀ H' O' σ (ds.set i (.ob r (putO u' p t))) hd := by
 obtain ⟨F, hF⟩ := o.obs
 obtain ⟨v, h1, h2, h3, h4, h5⟩ := hF i r t e
 obtain ⟨w, f, g1, g2, g3, g4, g5⟩ := h2.modAt p h4 hs
 have hl : i < ds.length := (List.getElem?_eq_some_iff.mp e).1
 refine ⟨v, w, f, h1, g1, g2, g3, fun b hb => (h5 b (g4 b hb)).1, fun {H' O' u' f'} c hf r' nd' => ?_⟩
 obtain ⟨fs', q1, q2, q3, q4⟩ := g5 c r' nd'
 have own' : ∀ {j : Nat}, IsOwn (ds.set i (.ob r (putO u' p t))) j → IsOwn ds j ∧ j ≠ i := fun h => own_set (fun l => by intro z; cases z) h
 have nown : ∀ {j : Nat} {b : Addr}, IsOwn ds j → σ[j]? = some (some (.ref b)) → b ∉ f := fun {j b} oj ej z => (h5 b (g4 b z)).2.2 j oj ej
 have free0 : ∀ b, H b = none → H₀ b = none := fun b hb => o.same.free hb
 refine ⟨fun b x eb => ?_, fun j l b e1 e2 => ?_, fun b hb => ?_, by simpa using o.len, fun j sl es => ?_, fun j m b hjm hj hm e1 e2 => o.apart j m b hjm (own' hj).1 (own' hm).1 e1 e2, fun q hq => ?_, ?_⟩
 · have hb := o.same b x eb
   by_cases ob : O b
   · by_cases bf : b ∈ f
     · rw [(h5 b (g4 b bf)).1] at eb; cases eb
     · exact c.rest b x ob bf hb
   · exact c.keep b x ob hb
 · obtain ⟨⟨l', e'⟩, _⟩ := own' ⟨l, e1⟩
   exact o.fresh j l' b e' e2
 · rcases c.new b hb with z | z
   · by_cases bf : b ∈ f
     · exact hf b bf hb
     · obtain ⟨y, ey⟩ := o.dom b z
       exact ⟨y, c.rest b _ z bf ey⟩
   · exact (r'.owns b z.1).2
 · by_cases hj : j = i
   · subst hj
     rw [List.getElem?_set_self hl] at es
     cases es
     exact slOk_ob
   · rw [List.getElem?_set_ne (Ne.symm hj)] at es
     cases sl with
     | no => exact slOk_no
     | ob r t => exact slOk_ob
     | exc t =>
       obtain ⟨a', C', ob', x', q1, q2, q3, q4⟩ := o.readX es
       rw [q1]
       refine ⟨C', ob', x', q2, c.keep _ _ (fun z => ?_) q3, q4⟩
       obtain ⟨y, ey⟩ := o.dom _ z
       rw [q3] at ey
       have h2 := y.2
       rw [← Option.some.inj ey] at h2
       cases h2
     | fr l' =>
       obtain ⟨a', xs'', q1, q2, q0, q3, q4⟩ := o.readF es
       rw [q1]
       exact ⟨fun z => (c.new _ z).elim q2 (fun y => by rw [y.2] at q3; cases q3), q0, xs'', c.keep _ _ q2 q3, c.reps q4⟩
     | v d =>
       obtain ⟨v, q1, q2⟩ := o.read es
       rw [q1]
       exact slOk_v (c.rep q2)
     | own l'' =>
       obtain ⟨b, ys, q1, q2, q3, q4⟩ := o.readO es
       rw [q1]
       exact ⟨c.sub _ q2 (nown ⟨l'', es⟩ q1), ys, c.rest _ _ q2 (nown ⟨l'', es⟩ q1) q3, c.reps q4⟩
 · have := o.hold q hq
   cases q with
   | rep v d => exact c.rep this
   | base B => exact fun b hb => ⟨c.sub _ (this b hb).1 (fun z => (this b hb).2 (h5 b (g4 b z)).1), (this b hb).2⟩
   | root k a => exact True.intro
   | fz a' o' kvs' l' => exact ⟨fun z => (c.new _ z).elim this.1 (fun y => by have z := this.2.1; rw [y.2] at z; cases z), c.keep _ _ this.1 this.2.1, c.reps this.2.2⟩
 · refine ⟨fun j => if j = i then fs' else F j, fun j r2 t2 ej => ?_⟩
   have fsOld : ∀ b ∈ fs', b ∈ F i ∨ H b = none := fun b hb => (q3 b hb).elim .inl fun z => (c.fp b z).imp (g4 b) id
   by_cases hj : j = i
   · subst hj
     rw [List.getElem?_set_self hl] at ej
     cases ej
     refine ⟨v, h1, by simpa using q1, h3, by simpa using q2, fun b hb => ?_⟩
     have hb : b ∈ fs' := by simpa using hb
     rcases fsOld b hb with z | z
     · refine ⟨(h5 b z).1, fun m r3 t3 hm e3 y => ?_, fun m om em => (h5 b z).2.2 m (own' om).1 em⟩
       simp only [hm, if_false] at y
       rw [List.getElem?_set_ne (Ne.symm hm)] at e3
       exact (h5 b z).2.1 m r3 t3 hm e3 y
     · refine ⟨free0 b z, fun m r3 t3 hm e3 y => ?_, fun m om em => ?_⟩
       · simp only [hm, if_false] at y
         rw [List.getElem?_set_ne (Ne.symm hm)] at e3
         obtain ⟨_, _, w3, _⟩ := hF m r3 t3 e3
         obtain ⟨_, x3, ex3⟩ := w3.owns b y
         rw [z] at ex3; cases ex3
       · obtain ⟨⟨l3, e3⟩, _⟩ := own' om
         obtain ⟨b3, ys, y1, _, y3, _⟩ := o.readO e3
         rw [em] at y1; cases y1
         rw [z] at y3; cases y3
   · rw [List.getElem?_set_ne (Ne.symm hj)] at ej
     obtain ⟨w2, y1, y2, y3, y4, y5⟩ := hF j r2 t2 ej
     have apart : ∀ b ∈ F j, b ∉ f := fun b hb z => (h5 b (g4 b z)).2.1 j r2 t2 hj ej hb
     refine ⟨w2, y1, by simp only [hj, if_false]; exact c.repO y2 apart, y3, by simpa [hj] using y4, fun b hb => ?_⟩
     have hb : b ∈ F j := by simpa [hj] using hb
     refine ⟨(y5 b hb).1, fun m r3 t3 hm e3 z => ?_, fun m om em => (y5 b hb).2.2 m (own' om).1 em⟩
     by_cases hmi : m = i
     · simp only [hmi, if_true] at z
       rcases fsOld b z with x | x
       · exact (y5 b hb).2.1 i r t (fun z => hj z.symm) e x
       · obtain ⟨_, x3, ex3⟩ := y2.owns b hb
         rw [x] at ex3; cases ex3
     · simp only [hmi, if_false] at z
       rw [List.getElem?_set_ne (Ne.symm hmi)] at e3
       exact (y5 b hb).2.1 m r3 t3 hm e3 z
end
section
variable (X : Cx)
noncomputable def PVo (e : Expr) (f : FO) : Prop := ∃ t, PE X e t ∧ ∀ H₀ H O σ ds hd T Q, Ok X.K H₀ H O σ ds hd → f ds = some T → (∀ v H' fs, Same H H' → RepO X.K H' (orL fs O) v T fs → fs.Nodup → (∀ b ∈ fs, H b = none) → Q v H') → t σ H Q
noncomputable def PAo (es : List Expr) (f : FOs) : Prop := ∃ t, PA X es t ∧ ∀ H₀ H O σ ds hd T Q, Ok X.K H₀ H O σ ds hd → f ds = some T → (∀ vs H' fs, Same H H' → RepsO X.K H' (orL fs O) vs T fs → fs.Nodup → (∀ b ∈ fs, H b = none) → Q vs H') → t σ H Q
noncomputable def PVp (e : Expr) (f : FP) : Prop := ∃ t, PE X e t ∧ ∀ H₀ H O σ ds hd q Q, Ok X.K H₀ H O σ ds hd → f ds = some q → (∀ r T v w fs, ds[q.1]? = some (.ob r T) → subO q.2.1 T = some q.2.2 → σ[q.1]? = some (some v) → PathV H v q.2.1 w → RepO X.K H O w q.2.2 fs → Q w H) → t σ H Q
end
section
variable {X : Cx}
theorem pao_nil : PAo X [] nilO := ⟨_, pa_nil, fun _ H _ _ _ _ _ _ _ e q => by cases e; exact q [] H [] (Same.refl _) .nil .nil (fun b hb => nomatch hb)⟩
theorem pvo_s {es : List Expr} {pos : Pos} {g : FOs} (h : PAo X es g) : PVo X (.List es pos) (sO g) := by
 obtain ⟨t, ht, hf⟩ := h
 refine ⟨_, pe_lst ht, fun H₀ H O σ ds hd T Q o e q => ?_⟩
 unfold sO at e
 obtain ⟨l, h1, e⟩ := bnd e
 split at e
 · rename_i hl
   cases e
   refine hf H₀ H O σ ds hd l _ o h1 fun vs H1 fs s1 r1 nd n1 => ⟨by rw [r1.length]; exact hl, fun p hp => ?_⟩
   have r2 : RepsO X.K (upd H1 p (.lst vs)) (orL (p :: fs) O) vs l fs := by
    have e1 : ∀ a, orL (p :: fs) O a → orL [p] (orL fs O) a := fun a z => z.elim (fun z => (List.mem_cons.mp z).elim (fun z => .inl (by rw [z]; exact .head _)) fun z => .inr (.inl z)) fun z => .inr (.inr z)
    have mm : RepsO X.K H1 (ins1 p (orL fs O)) vs l fs := r1.more hp
    exact (mm.mono (same_upd hp _)).less (fun a z => (e1 a z).elim (fun z => .inl (List.mem_singleton.mp z)) .inr) fun b hb => .inl (.tail _ hb)
   refine q _ _ (p :: fs) (s1.trans (same_upd hp _)) (.lst (.inl (.head _)) upd_same r2) (List.nodup_cons.mpr ⟨fun z => ?_, nd⟩) fun b hb => ?_
   · obtain ⟨_, xs, ex⟩ := r1.owns p z
     rw [hp] at ex; cases ex
   · rcases List.mem_cons.mp hb with z | z
     · rw [z]; exact s1.free hp
     · exact n1 b z
 · cases e
theorem psv_setB {i : Nat} {x : Str} {e : Expr} {pos pos' : Pos} {f : FO} (hN : X.N.Nodup) (he : PVo X e f) (hi : X.N[i]? = some x := by rfl) (hx : Loc X.env.scope x := by first | exact Or.inl rfl | exact Or.inr rfl) (hs : swapsWith e (some (.Name x pos')) pos.line X.env = pure false := by rfl)
  (hf : X.fn x = true ∨ X.env.scope.names.lookup x = some .local := by first | exact .inl rfl | exact .inr rfl) : PSv X (.Assign [.Name x pos'] e pos) (setB i f) := by
 obtain ⟨t, ht, hg⟩ := he
 refine ⟨_, ps_set hN hi hx ht hs hf, fun H₀ H O σ ds hd out E o e h => ?_⟩
 unfold setB at e
 obtain ⟨T, h1, rfl⟩ := mpd e
 exact hg H₀ H O σ ds hd T _ o h1 fun v H' fs s r nd n => h _ _ _ (o.setOb s r nd n)
theorem pvp_var (i : Nat) {x : Str} {pos : Pos} (hN : X.N[i]? = some x := by rfl) (hv : Vis X.env.scope x := by first | exact Or.inl rfl | exact Or.inr (Or.inl rfl) | exact Or.inr (Or.inr rfl)) (hd : (x == ("__debug__" : Str)) = false := by decide)
  (hcd : (x == ("__classdict__" : Str)) = false := by decide) : PVp X (.Name x pos) (varP i) := by
 refine ⟨_, pe_var hN hv hd hcd, fun H₀ H O σ ds hd q Q o e h => ?_⟩
 unfold varP at e
 cases hs : ds[i]? with
 | none => rw [hs] at e; cases e
 | some s =>
   rw [hs] at e
   cases s with
   | ob r t =>
     cases e
     obtain ⟨F, hF⟩ := o.obs
     obtain ⟨v, h1, h2, _⟩ := hF i r t hs
     exact ⟨v, h1, h r t v v _ hs rfl h1 rfl h2⟩
   | _ => cases e
theorem Chg.ofUpd {H : Hp} {O : Addr → Prop} {a : Addr} {y : HO} {f f' : List Addr} (oa : O a) (ha : a ∈ f) (hf : ∀ b ∈ f', b ∈ f) : Chg H (upd H a y) O O f f' :=
 ⟨fun b u nb e => by have z : b ≠ a := fun z => nb (by rw [z]; exact oa); rw [L2.upd_ne z]; exact e, fun b u _ nb e => by have z : b ≠ a := fun z => nb (by rw [z]; exact ha); rw [L2.upd_ne z]; exact e, fun _ z _ => z, fun _ z => .inl z, fun b hb => .inl (hf b hb)⟩
section
variable {x : Str} {k j n : Nat} {F : List D → Option Ret} {p pos : Pos} {e : Expr} {es : List Expr} {g : FA}
end
mutual
theorem RepO.flatten {K : Frag} {H : Hp} {O O' : Addr → Prop} (ho : ∀ a, O a → Old H a) : ∀ {v : V} {t : OT} {fs : List Addr}, flatO t = true → RepO K H O' v t fs → (∀ b ∈ fs, O b) → RepO K H O v t fs
 | _, _, _, f, .val r, _ => .val (Rep.flatten ho (by simpa [flatO] using f) r)
 | _, _, _, f, .lst n h r, hb => .lst (hb _ (.head _)) h (RepsO.flatten ho (by simpa [flatO] using f) r fun b z => hb b (.tail _ z))
 | _, _, _, f, .dct n h e r, hb => .dct (hb _ (.head _)) h e (RepsO.flatten ho (by simpa [flatO] using f) r fun b z => hb b (.tail _ z))
 | _, _, _, f, .ins c n h e r, hb => .ins c (hb _ (.head _)) h e (RepsO.flatten ho (by simpa [flatO] using f) r fun b z => hb b (.tail _ z))
 | _, _, _, f, .tup (a := a) n h r, hb => .tup (fun z => by
    obtain ⟨u, e, m⟩ := ho a z
    rcases h with h | ⟨o, h⟩
    · rw [e] at h; cases h; cases m
    · rw [e] at h; cases h; cases m) h (RepsO.flatten ho (by simpa [flatO] using f) r hb)
theorem RepsO.flatten {K : Frag} {H : Hp} {O O' : Addr → Prop} (ho : ∀ a, O a → Old H a) : ∀ {v : List V} {t : List OT} {fs : List Addr}, flatOs t = true → RepsO K H O' v t fs → (∀ b ∈ fs, O b) → RepsO K H O v t fs
 | _, _, _, _, .nil, _ => .nil
 | _, _, _, f, .cons h r, hb => by
   simp only [flatOs, Bool.and_eq_true] at f
   exact .cons (RepO.flatten ho f.1 h fun b z => hb b (List.mem_append_left _ z)) (RepsO.flatten ho f.2 r fun b z => hb b (List.mem_append_right _ z))
end
end
section
variable {X : Cx}
end
section
variable {K : Frag} {H H' H₀ : Hp} {O O' : Addr → Prop}
theorem Kid.mono (s : Same H H') {b : Addr} {xs : List V} (h : Kid H b xs) : Kid H' b xs := by
 cases h with
 | tup h => exact .tup (Keep.rd (O := none0) (.of_same s) (fun z => z) h)
 | lst h => exact .lst (s _ _ h)
 | dct h => exact .dct (s _ _ h)
 | ins h => exact .ins (s _ _ h)
theorem pathV_mono (s : Same H H') : ∀ {p : List Nat} {v w : V}, PathV H v p w → PathV H' v p w
 | [], _, _, h => h
 | _ :: _, _, _, ⟨b, xs, x, h1, h2, h3, h4⟩ => ⟨b, xs, x, h1, h2.mono s, h3, pathV_mono s h4⟩
theorem RepsO.put : ∀ {xs : List V} {ts : List OT} {fs : List Addr} {k : Nat} {t : OT}, RepsO K H O xs ts fs → ts[k]? = some t → ∃ (pre f post : List Addr), fs = pre ++ (f ++ post) ∧
  ∀ {H' : Hp} {O' : Addr → Prop} {v : V} {T : OT} {f' : List Addr}, RepO K H' O' v T f' → (∀ y s e, RepO K H O y s e → (∀ b ∈ e, b ∈ pre ∨ b ∈ post) → RepO K H' O' y s e) → RepsO K H' O' (xs.set k v) (ts.set k T) (pre ++ (f' ++ post))
 | _, _, _, 0, t, .cons (x := x) (fs := f) (gs := gs) h r, e => by
   refine ⟨[], f, gs, rfl, fun {H' O' v T f'} h' ho => ?_⟩
   have : ∀ {xs : List V} {ts : List OT} {gs' : List Addr}, RepsO K H O xs ts gs' → (∀ b ∈ gs', b ∈ gs) → RepsO K H' O' xs ts gs' := by
    intro xs ts gs' h
    induction xs generalizing ts gs' with
    | nil => intro _; cases h; exact .nil
    | cons y ys ih =>
      intro hb
      cases h with
      | cons h1 h2 => exact .cons (ho _ _ _ h1 fun b z => .inr (hb b (List.mem_append_left _ z))) (ih h2 fun b z => hb b (List.mem_append_right _ z))
   show RepsO K H' O' (v :: _) (T :: _) (f' ++ gs)
   exact .cons h' (this r fun _ z => z)
 | _, _, _, k + 1, t, .cons (x := x) (t := t0) (fs := f0) (gs := gs) h r, e => by
   obtain ⟨pre, f, post, h2, h4⟩ := RepsO.put (k := k) (t := t) r (by simpa using e)
   refine ⟨f0 ++ pre, f, post, by rw [h2]; simp, fun {H' O' v T f'} h' ho => ?_⟩
   have q := h4 h' fun z s e' hz hb => ho z s e' hz fun b hb' => (hb b hb').elim (fun z => .inl (List.mem_append_right _ z)) .inr
   have := RepsO.cons (ho _ _ _ h fun b hb => .inl (List.mem_append_left _ hb)) q
   simpa [List.append_assoc] using this
end
section
variable {X : Cx}
theorem RepsO.snoc {K : Frag} {H : Hp} {O : Addr → Prop} : ∀ {xs : List V} {ts : List OT} {fs : List Addr} {v : V} {d : D}, RepsO K H O xs ts fs → Rep K H O v d → RepsO K H O (xs ++ [v]) (ts ++ [.val d]) fs
 | _, _, _, _, _, .nil, r => .cons (fs := []) (gs := []) (.val r) .nil
 | _, _, _, _, _, .cons h t, r => .cons h (RepsO.snoc t r)
theorem Ok.putL {K : Frag} {H₀ H : Hp} {O : Addr → Prop} {σ : L2.St} {ds : List Sl} {hd : Hold} {i : Nat} {r : Option Nat} {T : OT} {p : List Nat} {l l' : List OT} {a : Addr} {v : V} {ys : List V} (o : Ok K H₀ H O σ ds hd) (e : ds[i]? = some (.ob r T)) (hs : subO p T = some (.lst l)) (hv : σ[i]? = some (some v)) (hp : PathV H v p (.ref a))
  (h : ∀ xs fs, H a = some (.lst xs) → O a → RepsO K H O xs l fs → fs.Nodup → a ∉ fs → ∃ fs', (∀ b ∈ fs', b ∈ fs) ∧ fs'.Nodup ∧ ∀ {H' : Hp}, Chg H H' O O [a] [a] → RepsO K H' O ys l' fs') : Ok K H₀ (upd H a (.lst ys)) O σ (ds.set i (.ob r (putO (.lst l') p T))) hd := by
 obtain ⟨v', w', f, y1, y2, y3, y4, y5, y6⟩ := o.modAt e hs
 rw [hv] at y1
 cases y1
 cases pathV_det hp y2
 cases y3 with
 | @lst _ xs _ fs n hb rs =>
   obtain ⟨n3, n4⟩ := List.nodup_cons.mp y4
   obtain ⟨fs', w1, w2, w3⟩ := h xs fs hb n rs n4 n3
   refine y6 (f' := a :: fs') (.ofUpd n (.head _) fun b z => (List.mem_cons.mp z).elim (fun z => by rw [z]; exact .head _) fun z => .tail _ (w1 b z)) (fun b z _ => ?_) (.lst n upd_same (w3 (.ofUpd n (.head _) fun _ z => z))) (List.nodup_cons.mpr ⟨fun z => n3 (w1 _ z), w2⟩)
   by_cases z' : b = a
   · rw [z', upd_same]; exact ⟨⟨.lst ys, rfl⟩, rfl⟩
   · rw [upd_ne z']
     rcases List.mem_cons.mp z with q' | q'
     · exact (z' q').elim
     · exact (rs.owns b q').2
theorem Chg.repsO {K : Frag} {H H' : Hp} {O O' : Addr → Prop} {f f' : List Addr} (c : Chg H H' O O' f f') : ∀ {v : List V} {t : List OT} {e : List Addr}, RepsO K H O v t e → (∀ b ∈ e, b ∉ f) → RepsO K H' O' v t e
 | _, _, _, .nil, _ => .nil
 | _, _, _, .cons h r, he => .cons (c.repO h fun b z => he b (List.mem_append_left _ z)) (Chg.repsO c r fun b z => he b (List.mem_append_right _ z))
theorem psv_appP {oe e : Expr} {pos p2 p3 : Pos} {f : FP} {fe : FE} (ho : PVp X oe f) (he : PV X e fe)
  (hfew : ((backTo p3 (starEach [e] X.env)).all (fun x => !x.1) && (backToKw p3 (keywordEach [] X.env)).all (fun x => x.1.isSome)
    && decide ([e].length + ([] : List Keyword).length + (if ([] : List Keyword).isEmpty then 0 else 1) < 30)) = true := by rfl)
  (hline : (p2.endLine == p3.line) = true := by rfl) (hs : starEach [e] X.env = (false, eval e X.env) :: starEach [] X.env := by rfl)
  (hbase : attributeBase oe "append" X.env (eval oe X.env) = eval oe X.env := by rfl) (hsw : swapsWith (.Call (.Attribute oe "append" p2) [e] [] p3) none pos.line X.env = pure false := by rfl) :
  PSv X (.Expr (.Call (.Attribute oe "append" p2) [e] [] p3) pos) (appP f fe) := by
 obtain ⟨tp, hp, hf⟩ := ho
 obtain ⟨te, pe, he⟩ := he
 refine ⟨_, ps_expr (pe_bm PySem.F.plainAttrs_list PySem.F.slot_list_append PySem.F.type_list_append mt_append hp (pa_cons pe pa_nil hs) hbase hfew hline hs rfl) hsw, fun H₀ H O σ ds hd out E o e h => ?_⟩
 unfold appP at e
 obtain ⟨q, h1, e⟩ := bnd e
 obtain ⟨d, h2, e⟩ := bnd e
 refine hf H₀ H O σ ds hd q _ o h1 fun r T v w fs g1 g2 g3 g4 g5 => ?_
 cases hq : q.2.2 with
 | lst l =>
   rw [hq] at e g2 g5
   simp only at e
   split at e
   · rename_i hl
     cases e
     cases g5 with
     | @lst a xs _ fs' n hb rs =>
       refine ⟨.inl ⟨rfl, xs, SqL.of hb⟩, ?_⟩
       refine he H₀ H O σ ds hd d _ o h2 fun v1 H1 s1 r1 => ?_
       refine ⟨a, xs, v1, rfl, rfl, s1 _ _ hb, by rw [rs.length]; exact hl, ?_⟩
       have ok := (o.mono s1).putL (l' := l ++ [.val d]) (ys := xs ++ [v1]) g1 g2 g3 (pathV_mono s1 g4) fun xs2 fs2 k1 k2 k3 k4 k5 => ⟨fs2, fun _ z => z, k4, fun {H'} c => by
        rw [s1 _ _ hb] at k1
        cases k1
        exact (c.repsO k3 fun b z y => k5 (List.mem_singleton.mp y ▸ z)).snoc (c.rep r1)⟩
       have e' : putP q (.lst (l ++ [.val d])) ds = ds.set q.1 (.ob r (putO (.lst (l ++ [.val d])) q.2.1 T)) := by simp [putP, g1]
       rw [e'] at h
       exact h _ _ _ ok
   · cases e
 | _ => rw [hq] at e; cases e
end
section
variable {K : Frag} {H H' H₀ : Hp} {O O' : Addr → Prop}
mutual
theorem RepO.frz : ∀ {v : V} {t : OT} {fs : List Addr}, RepO K H O v t fs → (∀ a, O' a → O a ∧ a ∉ fs) → Rep K H O' v (otD t)
 | _, _, _, .val r, h => r.less fun a z => (h a z).1
 | _, _, _, .lst n hh r, h => by unfold otD; exact .lst (fun z => (h _ z).2 (.head _)) (.inl hh) (RepsO.frz r fun a z => ⟨(h a z).1, fun y => (h a z).2 (.tail _ y)⟩)
 | _, _, _, .tup n hh r, h => by unfold otD; exact .tup (fun z => n (h _ z).1) hh (RepsO.frz r h)
 | _, _, _, .dct n hh e r, h => by unfold otD; exact .dct (fun z => (h _ z).2 (.head _)) hh e (RepsO.frz r fun a z => ⟨(h a z).1, fun y => (h a z).2 (.tail _ y)⟩)
 | _, _, _, .ins c n hh e r, h => by unfold otD; exact .ins c (fun z => (h _ z).2 (.head _)) hh e (RepsO.frz r fun a z => ⟨(h a z).1, fun y => (h a z).2 (.tail _ y)⟩)
theorem RepsO.frz : ∀ {v : List V} {t : List OT} {fs : List Addr}, RepsO K H O v t fs → (∀ a, O' a → O a ∧ a ∉ fs) → Reps K H O' v (otDs t)
 | _, _, _, .nil, _ => by unfold otDs; exact .nil
 | _, _, _, .cons hh r, h => by unfold otDs; exact .cons (RepO.frz hh fun a z => ⟨(h a z).1, fun y => (h a z).2 (List.mem_append_left _ y)⟩) (RepsO.frz r fun a z => ⟨(h a z).1, fun y => (h a z).2 (List.mem_append_right _ y)⟩)
end
theorem Ok.frz {σ : L2.St} {ds : List Sl} {hd : Hold} {i : Nat} {r : Option Nat} {T : OT} (o : Ok K H₀ H O σ ds hd) (e : ds[i]? = some (.ob r T)) : ∃ O', Ok K H₀ H O' σ (ds.set i (.v (otD T))) hd := by
 obtain ⟨F, hF⟩ := o.obs
 obtain ⟨v, h1, h2, h3, h4, h5⟩ := hF i r T e
 have hl : i < ds.length := (List.getElem?_eq_some_iff.mp e).1
 let O' : Addr → Prop := fun b => O b ∧ b ∉ F i
 have sub : ∀ b, O' b → O b := fun b hb => hb.1
 have own' : ∀ {j : Nat}, IsOwn (ds.set i (.v (otD T))) j → IsOwn ds j ∧ j ≠ i := fun h => own_set (fun l => by intro z; cases z) h
 refine ⟨O', o.same, fun j l' b e1 e2 => ?_, fun b hb => o.dom b (sub b hb), by simpa using o.len, fun j s es => ?_, fun j m b hjm hj hm e1 e2 => o.apart j m b hjm (own' hj).1 (own' hm).1 e1 e2, fun p hp => ?_, ?_⟩
 · obtain ⟨⟨l2, e2'⟩, _⟩ := own' ⟨l', e1⟩
   exact o.fresh j l2 b e2' e2
 · by_cases hj : j = i
   · subst hj
     rw [List.getElem?_set_self hl] at es
     cases es
     rw [h1]
     exact slOk_v (h2.frz fun a z => z)
   · rw [List.getElem?_set_ne (Ne.symm hj)] at es
     cases s with
     | no => exact slOk_no
     | ob r t => exact slOk_ob
     | exc t =>
       obtain ⟨a', C', ob', u', q1, q2, q3, q4⟩ := o.readX es
       rw [q1]
       exact ⟨C', ob', u', q2, q3, q4⟩
     | fr l' =>
       obtain ⟨a', xs', q1, q2, q0, q3, q4⟩ := o.readF es
       rw [q1]
       exact ⟨fun z => q2 (sub _ z), q0, xs', q3, q4.less sub⟩
     | v d =>
       obtain ⟨v, q1, q2⟩ := o.read es
       rw [q1]
       exact slOk_v (q2.less sub)
     | own l' =>
       obtain ⟨b, ys, q1, q2, q3, q4⟩ := o.readO es
       rw [q1]
       exact ⟨⟨q2, fun z => (h5 b z).2.2 j ⟨l', es⟩ q1⟩, ys, q3, q4.less sub⟩
 · have := o.hold p hp
   cases p with
   | rep v d => exact Rep.less sub this
   | base B => exact fun b hb => ⟨⟨(this b hb).1, fun z => (this b hb).2 (h5 b z).1⟩, (this b hb).2⟩
   | root k a => exact True.intro
   | fz a' o' kvs' l' => exact ⟨fun z => this.1 (sub _ z), this.2.1, Reps.less sub this.2.2⟩
 · refine ⟨F, fun j r' t' ej => ?_⟩
   obtain ⟨ej, hj⟩ := ob_set (fun r t => by intro z; cases z) ej
   obtain ⟨w, g1, g2, g3, g4, g5⟩ := hF j r' t' ej
   refine ⟨w, g1, g2.less sub fun b hb => ⟨(g2.owns b hb).1, fun z => (h5 b z).2.1 j r' t' hj ej hb⟩, g3, g4, fun b hb => ⟨(g5 b hb).1, fun m r2 t2 hm em => (g5 b hb).2.1 m r2 t2 hm (ob_set (fun r t => by intro z; cases z) em).1, fun m om em => (g5 b hb).2.2 m (own' om).1 em⟩⟩
end
section
variable {X : Cx}
end
noncomputable def cutH (fs : List Addr) (H : Hp) : Hp := fun b => if b ∈ fs then none else H b
theorem cutH_in {fs : List Addr} {H : Hp} {b : Addr} (h : b ∈ fs) : cutH fs H b = none := if_pos h
theorem cutH_out {fs : List Addr} {H : Hp} {b : Addr} (h : b ∉ fs) : cutH fs H b = H b := if_neg h
theorem cutH_none {fs : List Addr} {H : Hp} {b : Addr} (h : cutH fs H b = none) : b ∈ fs ∨ H b = none := by
 by_cases z : b ∈ fs
 · exact .inl z
 · rw [cutH_out z] at h; exact .inr h
section
variable {X : Cx} {m : Str} {k j n : Nat} {cs : List Nat} {F : Nat → OT → List D → Option OT} {oe e : Expr} {es : List Expr} {apos pos pos' : Pos} {f : FP} {g : FA}
end
section
variable {K : Frag} {H H' H₀ : Hp} {O O' : Addr → Prop}
end
section
variable {X : Cx} {i : Nat}
end
end FL
namespace L2
open PySem PySem.Spec PyProof.Rows
section
variable {X : Cx}
end
section
variable {X : Cx}
end
end L2
namespace FL
open PySem PySem.Spec PyProof.Rows L2
section
variable {K : Frag} {H H' H₀ : Hp} {O O' : Addr → Prop}
end
section
variable {X : Cx}
end
section
variable {K : Frag} {H H' H₀ : Hp} {O O' : Addr → Prop}
end
section
variable {X : Cx}
section
variable {t k j n m : Nat} {F : OT → List D → Option OT} {x : Str} {p pos : Pos} {e : Expr} {es : List Expr} {g : FA}
end
end
section
variable {X : Cx}
variable (X) in
noncomputable def PVx (e : Expr) (f : FX) : Prop := ∃ t, PE X e t ∧ ∀ H₀ H O σ ds hd d ds' Q, Ok X.K H₀ H O σ ds hd → f ds = some (d, ds') → (∀ v H' O', Ok X.K H₀ H' O' σ ds' hd → Rep X.K H' O' v d → Q v H') → t σ H Q
theorem RepsO.last {K : Frag} {H : Hp} {O : Addr → Prop} : ∀ {l : List OT} {xs : List V} {fs : List Addr} {d : D}, RepsO K H O xs (l ++ [.val d]) fs → ∃ ys y, xs = ys ++ [y] ∧ RepsO K H O ys l fs ∧ Rep K H O y d
 | [], _, _, _, .cons (x := x) (.val r) .nil => ⟨[], x, rfl, .nil, r⟩
 | _ :: l, _, _, _, .cons (x := x) h t => by
   obtain ⟨ys, y, rfl, h1, h2⟩ := RepsO.last t
   exact ⟨x :: ys, y, rfl, .cons h h1, h2⟩
section
variable {m : Str} {k j n : Nat} {cs : List Nat} {F : Nat → OT → List D → Option OT} {oe e : Expr} {es : List Expr} {apos pos pos' : Pos} {f : FP} {g : FA}
end
end
end FL
namespace L2
open PySem PySem.Spec PyProof.Rows
section
variable {X : Cx}
end
end L2
namespace FL
open PySem PySem.Spec PyProof.Rows L2
section
variable {X : Cx}
end
end FL
namespace L2
open PySem PySem.Spec PyProof.Rows
section
variable {X : Cx}
end
end L2
namespace FL
open PySem PySem.Spec PyProof.Rows L2
section
variable {X : Cx}
end
section
variable {X : Cx}
theorem Ok.look {K : Frag} {H₀ H : Hp} {O : Addr → Prop} {σ : L2.St} {ds : List Sl} {hd : Hold} (o : Ok K H₀ H O σ ds hd) (i : Nat) : ∃ O', Ok K H₀ H O' σ (relO i ds) hd := by
 by_cases hs : ∃ r T, ds[i]? = some (.ob r T)
 · obtain ⟨r, T, hl⟩ := hs
   have e' : relO i ds = ds.set i (.v (otD T)) := by unfold relO; rw [hl]
   rw [e']
   exact o.frz hl
 · have e' : relO i ds = ds := by
    unfold relO
    split
    · rename_i r T hl; exact (hs ⟨r, T, hl⟩).elim
    · rfl
   rw [e']
   exact ⟨O, o⟩
theorem pv_relO (i : Nat) {e : Expr} {f : FE} (h : PV X e f) : PV X e (relVO i f) := by
 obtain ⟨t, ht, hf⟩ := h
 refine ⟨t, ht, fun H₀ H O σ ds hd d Q o e q => ?_⟩
 obtain ⟨O', o'⟩ := o.look i
 unfold relVO at e
 cases h1 : f (relO i ds) with
 | none => rw [h1] at e; cases e
 | some d' =>
   rw [h1] at e
   simp only [Option.bind_some, flV'] at e
   split at e
   · rename_i hfl
     cases e
     exact hf H₀ H O' σ _ hd _ Q o' h1 fun v H' s r => q v H' s (Rep.flatten (fun a z => ((o.mono s).dom a z).elim fun u e => ⟨_, e, u.2⟩) hfl r)
   · cases e
theorem pvf_relO (i : Nat) {e : Expr} {f : FA} (h : PVf X e f) : PVf X e (relFO i f) := by
 obtain ⟨t, ht, hf⟩ := h
 refine ⟨t, ht, fun H₀ H O σ ds hd l Q o e q => ?_⟩
 obtain ⟨O', o'⟩ := o.look i
 unfold relFO at e
 cases h1 : f (relO i ds) with
 | none => rw [h1] at e; cases e
 | some l' =>
   rw [h1] at e
   simp only [Option.bind_some] at e
   split at e
   · rename_i hfl
     cases e
     refine hf H₀ H O' σ _ hd _ Q o' h1 fun a xs H' s hn he r => q a xs H' s hn he (Reps.flatten (fun b z => ?_) hfl r)
     rcases z with rfl | z
     · exact ⟨_, he, rfl⟩
     · obtain ⟨u, eu⟩ := (o.mono s).dom b z
       exact ⟨_, eu, u.2⟩
   · cases e
end
abbrev LkF (K : Frag) (f : Addr) (oc : Value) (od : Option Addr) (nm q : Str) (st : Stmt) (dV kV dc pm : Value) (an : Option Addr) (cd ct : Value) (sl : Array (Option Value)) : Prop := K.lookup f = some ⟨oc, od, .func (PySem.W.fnOf nm q (defArgs st) (defBody st) (defScope st) dV kV dc pm an cd ct), sl⟩
section
variable {P : Program} {w : World} {K : Frag} {mg : Str → Option Value} {base : Heap} {x qual : Str} {st : Stmt} {f : Addr} {fd : FuncData} {its : Array Value}
theorem len0 {P : List Value → Prop} (h : P []) : ∀ us : List Value, us.length = 0 → P us := fun us hl => by cases us with | nil => exact h | cons _ _ => cases hl
theorem len1 {P : List Value → Prop} (h : ∀ a0, P [a0]) : ∀ us : List Value, us.length = 1 → P us := fun us hl => by
 cases us with
 | nil => cases hl
 | cons x0 r0 =>
   cases r0 with
   | nil => exact h x0
   | cons _ _ => simp at hl
theorem len2 {P : List Value → Prop} (h : ∀ a0 a1, P [a0, a1]) : ∀ us : List Value, us.length = 2 → P us := fun us hl => by
 cases us with
 | nil => cases hl
 | cons x0 r0 =>
   cases r0 with
   | nil => cases hl
   | cons x1 r1 =>
     cases r1 with
     | nil => exact h x0 x1
     | cons _ _ => simp at hl
theorem len3 {P : List Value → Prop} (h : ∀ a0 a1 a2, P [a0, a1, a2]) : ∀ us : List Value, us.length = 3 → P us := fun us hl => by
 cases us with
 | nil => cases hl
 | cons x0 r0 =>
   cases r0 with
   | nil => cases hl
   | cons x1 r1 =>
     cases r1 with
     | nil => cases hl
     | cons x2 r2 =>
       cases r2 with
       | nil => exact h x0 x1 x2
       | cons _ _ => simp at hl
theorem len4 {P : List Value → Prop} (h : ∀ a0 a1 a2 a3, P [a0, a1, a2, a3]) : ∀ us : List Value, us.length = 4 → P us := fun us hl => by
 cases us with
 | nil => cases hl
 | cons x0 r0 =>
   cases r0 with
   | nil => cases hl
   | cons x1 r1 =>
     cases r1 with
     | nil => cases hl
     | cons x2 r2 =>
       cases r2 with
       | nil => cases hl
       | cons x3 r3 =>
         cases r3 with
         | nil => exact h x0 x1 x2 x3
         | cons _ _ => simp at hl
theorem len5 {P : List Value → Prop} (h : ∀ a0 a1 a2 a3 a4, P [a0, a1, a2, a3, a4]) : ∀ us : List Value, us.length = 5 → P us := fun us hl => by
 cases us with
 | nil => cases hl
 | cons x0 r0 =>
   cases r0 with
   | nil => cases hl
   | cons x1 r1 =>
     cases r1 with
     | nil => cases hl
     | cons x2 r2 =>
       cases r2 with
       | nil => cases hl
       | cons x3 r3 =>
         cases r3 with
         | nil => cases hl
         | cons x4 r4 =>
           cases r4 with
           | nil => exact h x0 x1 x2 x3 x4
           | cons _ _ => simp at hl
noncomputable def DefM (K : Frag) (x : Str) (st : Stmt) (f : Addr) : Prop := ∃ (oc : Value) (od : Option Addr) (kV dc pm : Value) (an : Option Addr) (cd ct : Value) (sl : Array (Option Value)), PySem.W.nsIn K mainGlobals x = some (some (.ref f)) ∧ LkF K f oc od x x st .none kV dc pm an cd ct sl ∧ PySem.W.codeIn K cd x = true ∧ PySem.W.keepIn K (.ref f) = true
noncomputable def DefC (K : Frag) (C : Addr) (m q : Str) (st : Stmt) (f : Addr) : Prop := ∃ (oc : Value) (od : Option Addr) (kV dc pm : Value) (an : Option Addr) (cd ct : Value) (sl : Array (Option Value)), PySem.W.findIn K (.ref C) m = some (some (.ref f)) ∧ LkF K f oc od m q st .none kV dc pm an cd ct sl ∧ PySem.W.codeIn K cd q = true ∧ PySem.W.keepIn K (.ref f) = true ∧ PySem.W.isFn K (.ref f) = true
theorem DefM.get {x : Str} {st : Stmt} {f : Addr} (h : DefM K x st f) : ∃ fd, Fun K x x st f fd ∧ PySem.W.nsIn K mainGlobals x = some (some (.ref f)) ∧ PySem.W.keepIn K (.ref f) = true :=
 let ⟨_, _, _, _, _, _, _, _, _, a, l, c, k⟩ := h; ⟨_, fun_mk l c k, a, k⟩
theorem cal_mk {k n : Nat} {x : Str} {f : Addr} {fd : FuncData} {ps : List Str} {F : List D → Option Ret} (G : FnOk P w K mg base CX0 k f fd ps (spF K n F)) (b : Binds K fd ps []) (h : PySem.W.keepIn K (.ref f) = true) (m : mg x = some (.ref f)) : Cal P w K mg base x k n F := ⟨f, _, _, G, b, h, m⟩
theorem DefM.cal {k n : Nat} {x : Str} {st : Stmt} {f : Addr} {ps : List Str} {F : List D → Option Ret} {h : Heap} (d : DefM K x st f) (X : K.In h) (G : h.Ns mainGlobals mg) (hf : ∀ {fd}, Fun K x x st f fd → FnOk P w K mg base CX0 k f fd ps (spF K n F))
  (hb : ∀ (kV doc pm : Value) (an : Option Addr) (cdv ct : Value) (us : List Value), us.length = ps.length → bindArgs (PySem.W.fnOf x x (defArgs st) (defBody st) (defScope st) .none kV doc pm an cdv ct) ⟨us, []⟩ = pure (ps.zip us) := by
    intro _ _ _ _ _ _; first | exact len0 rfl | exact len1 fun _ => rfl | exact len2 fun _ _ => rfl | exact len3 fun _ _ _ => rfl | exact len4 fun _ _ _ _ => rfl | exact len5 fun _ _ _ _ _ => rfl) : Cal P w K mg base x k n F :=
 let ⟨_, F1, a, c⟩ := d.get; cal_mk (hf F1) (F1.binds hb) c (PySem.W.mg_of X G a)
end
section
variable {X : Cx}
end
section
variable {X : Cx} {m : Str} {k j : Nat} {cs : List Nat} {F : Nat → List D → Option Ret} {o : Expr} {apos pos : Pos} {fo : FE}
end
end FL
namespace L2
open PySem PySem.Spec PyProof.Rows
section
variable {prog : Program} {w : World} {A : Around} {E : Value → Shared → Prop} {s : Shared}
end
section
variable {X : Cx}
end
section
variable {X : Cx}
end
section
variable {X : Cx}
end
end L2
namespace FL
open PySem PySem.Spec PyProof.Rows L2
section
variable {X : Cx}
end
section
variable {X : Cx}
section
variable {scope : Scope} {NY : List Str} {mp : List (Option Nat)} {tg iter elt : Expr} {ifs : List Expr} {pos : Pos} {fi : FA} {ga : D → List Sl → Option (List Sl)} {tt : FT} {fe : FE}
end
theorem PVo.n {e : Expr} {f : FO} (h : PVo X e f) : PVn X e (seeO f) := by
 obtain ⟨t, ht, hf⟩ := h
 refine ⟨t, ht, fun H₀ H O σ ds hd d Q o e q => ?_⟩
 unfold seeO at e
 obtain ⟨T, h1, rfl⟩ := mpd e
 exact hf H₀ H O σ ds hd T Q o h1 fun v H' fs s r nd hn => q v H' s (r.frz fun a z => z.elim)
end
section
variable {X : Cx}
end
end FL
namespace L2
open PySem PySem.Spec PyProof.Rows
section
variable {X : Cx}
end
end L2
namespace FL
open PySem PySem.Spec PyProof.Rows L2
section
variable {X : Cx}
end
section
variable {prog : Program} {w : World} {A : Around} {E : Value → Shared → Prop} {s : Shared}
end
section
variable {X : Cx} {tg : Expr}
end
section
variable {K : Frag} {H H' H₀ : Hp} {O O' : Addr → Prop}
theorem ok_lend {σ : L2.St} {ds : List Sl} {p : Nat} {a : Addr} {T : OT} {fs : List Addr} {B : Addr → Prop} (rt : RepO K H (orL fs B) (.ref a) T fs) (nd : fs.Nodup) (hB : ∀ b, B b → b ∉ fs ∧ ∃ u : MutHO, H b = some u.1)
  (hl : σ.length = ds.length) (hp : ds[p]? = some (.ob (some p) T)) (ha : σ[p]? = some (some (.ref a)))
  (ho : ∀ (j : Nat) (s : Sl), j ≠ p → ds[j]? = some s → s = .no ∨ ∃ d v, s = .v d ∧ σ[j]? = some (some v) ∧ Rep K H (orL fs B) v d) :
  Ok K (cutH fs H) H (orL fs B) σ ds [.root p a, .base B] := by
 have no : ∀ {j : Nat}, ¬ IsOwn ds j := fun {j} ⟨l, e⟩ => by
  by_cases hj : j = p
  · subst hj; rw [hp] at e; cases e
  · rcases ho j _ hj e with h | ⟨d, v, h, _⟩ <;> cases h
 have nob : ∀ {j : Nat} {r : Option Nat} {t : OT}, ds[j]? = some (.ob r t) → j = p := fun {j r t} e => by
  by_cases hj : j = p
  · exact hj
  · rcases ho j _ hj e with h | ⟨d, v, h, _⟩ <;> cases h
 refine ⟨fun b u e => ?_, fun i l' a' e _ => (no ⟨l', e⟩).elim, fun b hb => hb.elim (fun z => (rt.owns b z).2) fun z => (hB b z).2, hl, fun i s e => ?_, fun i j a _ hi _ _ _ => (no hi).elim, fun q hq => ?_, ?_⟩
 · by_cases z : b ∈ fs
   · rw [cutH_in z] at e; cases e
   · rwa [cutH_out z] at e
 · by_cases hi : i = p
   · subst hi; rw [hp] at e; cases e; exact slOk_ob
   · rcases ho i s hi e with rfl | ⟨d, v, rfl, e2, r⟩
     · exact slOk_no
     · rw [e2]; exact slOk_v r
 · rcases List.mem_cons.mp hq with rfl | hq
   · exact True.intro
   · cases List.mem_singleton.mp hq
     refine fun b hb => ⟨.inr hb, fun z => ?_⟩
     obtain ⟨n, u, e⟩ := hB b hb
     rw [cutH_out n, e] at z; cases z
 · refine ⟨fun _ => fs, fun i r' t' e => ?_⟩
   cases nob e
   rw [hp] at e
   cases e
   refine ⟨.ref a, ha, rt, fun k a' ek h => ?_, nd, fun b hb => ⟨cutH_in hb, fun j r2 t2 hj e2 => (hj (nob e2)).elim, fun j oj => (no oj).elim⟩⟩
   cases ek
   rcases List.mem_cons.mp h with h | h
   · cases h; rfl
   · cases List.mem_singleton.mp h
theorem Ok.lendEnd {σ : L2.St} {ds : List Sl} {hd : Hold} {p : Nat} {a : Addr} {T : OT} {fs : List Addr} {B : Addr → Prop} (o : Ok K (cutH fs H) H' O' σ ds hd) (e : ds[p]? = some (.ob (some p) T)) (h1 : HI.root p a ∈ hd) (h2 : HI.base B ∈ hd) :
  ∃ fs', (∀ b u, b ∉ fs → H b = some u → H' b = some u) ∧ RepO K H' (orL fs' B) (.ref a) T fs' ∧ fs'.Nodup ∧ (∀ b ∈ fs', b ∈ fs ∨ H b = none) ∧ ∀ b, orL fs' B b → O' b := by
 obtain ⟨F', hF⟩ := o.obs
 obtain ⟨v, y1, y2, y3, y4, y5⟩ := hF p _ _ e
 cases y3 p a rfl h1
 have hb := o.hold (.base B) h2
 have sub : ∀ b, orL (F' p) B b → O' b := fun b z => z.elim (fun z => (y2.owns b z).1) fun z => (hb b z).1
 exact ⟨F' p, fun b u nb eb => o.same b u (by rw [cutH_out nb]; exact eb), y2.less sub fun b z => .inl z, y4, fun b z => cutH_none (y5 b z).1, sub⟩
theorem chg_lend {fs fs' : List Addr} {B : Addr → Prop} (h1 : ∀ b, O b → b ∈ fs ∨ B b) (h2 : ∀ b ∈ fs, O b) (h3 : ∀ b, B b → O b) (k1 : ∀ b u, b ∉ fs → H b = some u → H' b = some u) (k4 : ∀ b ∈ fs', b ∈ fs ∨ H b = none) : Chg H H' O (orL fs' B) fs fs' :=
 ⟨fun b u nb eb => k1 b u (fun z => nb (h2 b z)) eb, fun b u _ nb eb => k1 b u nb eb, fun b z nb => .inr ((h1 b z).resolve_left nb), fun b z => z.elim (fun z => (k4 b z).elim (fun y => .inl (h2 b y)) fun y => .inr ⟨z, y⟩) fun z => .inl (h3 b z), k4⟩
theorem Ok.lendAt {σ : L2.St} {ds : List Sl} {hd : Hold} {i : Nat} {r : Option Nat} {T : OT} (o : Ok K H₀ H O σ ds hd) (e : ds[i]? = some (.ob r T)) (hT : refO T = true) :
  ∃ (a : Addr) (fs : List Addr), σ[i]? = some (some (.ref a)) ∧ RepO K H O (.ref a) T fs ∧ fs.Nodup ∧ (∀ b ∈ fs, O b) ∧
   ∀ {H' : Hp} {T' : OT} {fs' : List Addr}, (∀ b u, b ∉ fs → H b = some u → H' b = some u) → RepO K H' (orL fs' (fun b => O b ∧ b ∉ fs)) (.ref a) T' fs' → fs'.Nodup → (∀ b ∈ fs', b ∈ fs ∨ H b = none) →
    Ok K H₀ H' (orL fs' (fun b => O b ∧ b ∉ fs)) σ (ds.set i (.ob r T')) hd := by
 obtain ⟨v, w, f, y1, y2, y3, y4, y5, y6⟩ := o.modAt (p := []) e rfl
 cases y2
 have ow : ∀ b ∈ f, O b := fun b z => (y3.owns b z).1
 have hv : ∃ a, v = .ref a := by
  cases y3 with
  | val _ => cases hT
  | lst _ _ _ => exact ⟨_, rfl⟩
  | tup _ _ _ => exact ⟨_, rfl⟩
  | dct _ _ _ _ => exact ⟨_, rfl⟩
  | ins _ _ _ _ _ => exact ⟨_, rfl⟩
 obtain ⟨a, rfl⟩ := hv
 refine ⟨a, f, y1, y3, y4, ow, fun {H' T' fs'} k1 k2 k3 k4 => ?_⟩
 have := y6 (chg_lend (B := fun b => O b ∧ b ∉ f) (fun b z => (Classical.em (b ∈ f)).imp id fun y => ⟨z, y⟩) ow (fun b z => z.1) k1 k4) (fun b z y => y.elim (fun y => (k2.owns b y).2) fun y => (y.2 z).elim) k2 k3
 exact this
end
noncomputable def spR (K : Frag) (n p : Nat) (F : OT → List D → Option (D × OT)) : Sp := fun vs H Q _ => vs.length = n ∧ ∃ (a : Addr) (T T' : OT) (d : D) (fs : List Addr) (B : Addr → Prop) (l : List D), vs[p]? = some (.ref a) ∧ l.length = n ∧ RepO K H (orL fs B) (.ref a) T fs ∧ fs.Nodup ∧
 (∀ b, B b → b ∉ fs ∧ ∃ u : MutHO, H b = some u.1) ∧ (∀ (j : Nat) (d : D), j ≠ p → l[j]? = some d → ∃ v, vs[j]? = some v ∧ Rep K H (orL fs B) v d) ∧ F T l = some (d, T') ∧
 ∀ v H' fs', (∀ b u, b ∉ fs → H b = some u → H' b = some u) → RepO K H' (orL fs' B) (.ref a) T' fs' → fs'.Nodup → (∀ b ∈ fs', b ∈ fs ∨ H b = none) → Rep K H' (orL fs' B) v d → Q v H'
section
variable {X : Cx}
variable (X) in
noncomputable def PRv (ss : List Stmt) (f : FX) : Prop := ∃ t, PSs X ss t ∧ ∀ H₀ H O σ ds hd d ds' (E : Ends), Ok X.K H₀ H O σ ds hd → f ds = some (d, ds') → (∀ v σ' H' O', Ok X.K H₀ H' O' σ' ds' hd → Rep X.K H' O' v d → E.rt v H') → t E σ H
theorem pvx_v {e : Expr} {f : FE} (h : PV X e f) : PVx X e (vR f) := by
 obtain ⟨t, ht, hf⟩ := h
 refine ⟨t, ht, fun H₀ H O σ ds hd d ds' Q o e q => ?_⟩
 unfold vR at e
 obtain ⟨d, h1, e⟩ := mpd e
 cases e
 exact hf H₀ H O σ ds hd _ _ o h1 fun v H' s r => q v H' O (o.mono s) r
theorem prv_ret {e : Expr} {pos : Pos} {f : FX} (h : PVx X e f) : PRv X [.Return (some e) pos] f := by
 obtain ⟨t, ht, hf⟩ := h
 refine ⟨_, pss_one (ps_ret ht), fun H₀ H O σ ds hd d ds' E o e q => ?_⟩
 exact hf H₀ H O σ ds hd d ds' _ o e fun v H' O' o' r => q v σ H' O' o' r
theorem prv_cons {st : Stmt} {rest : List Stmt} {g : FS} {f : FX} (h1 : PSv X st g) (h2 : PRv X rest f) : PRv X (st :: rest) (seqR g f) := by
 obtain ⟨t, ht, hg⟩ := h1
 obtain ⟨u, hu, hf⟩ := h2
 refine ⟨_, pss_cons ht hu, fun H₀ H O σ ds hd d ds' E o e q => ?_⟩
 unfold seqR at e
 obtain ⟨out, h1, e⟩ := bnd e
 cases out with
 | nx ds2 =>
   simp only at e
   refine hg H₀ H O σ ds hd _ _ o h1 fun σ' H' O' o' => ?_
   exact hf H₀ H' O' σ' ds2 hd d ds' E o' e q
 | _ => cases e
theorem prv_if {c : Expr} {a rest : List Stmt} {pos : Pos} {fc : FT} {f g : FX} (hc : PTv X c fc) (ha : PRv X a f) (hb : PRv X rest g) : PRv X (.If c a [] pos :: rest) (ifR fc f g) := by
 obtain ⟨tc, pc, hc⟩ := hc
 obtain ⟨t, ht, hf⟩ := ha
 obtain ⟨u, hu, hg⟩ := hb
 refine ⟨_, pss_cons (ps_if pc ht pss_nil) hu, fun H₀ H O σ ds hd d ds' E o e q => ?_⟩
 unfold ifR at e
 obtain ⟨k, h1, e⟩ := bnd e
 refine hc H₀ H O σ ds hd k _ o h1 fun H' s => ?_
 cases k with
 | true => exact iteT (hf H₀ H' O σ ds hd d ds' _ (o.mono s) (by simpa using e) q)
 | false => exact iteF (hg H₀ H' O σ ds hd d ds' E (o.mono s) (by simpa using e) q)
theorem prv_rel (i : Nat) {ss : List Stmt} {f : FX} (h : PRv X ss f) : PRv X ss (relR i f) := by
 obtain ⟨t, ht, hf⟩ := h
 refine ⟨t, ht, fun H₀ H O σ ds hd d ds' E o e q => ?_⟩
 have e : f (relS i ds) = some (d, ds') := e
 by_cases hs : ∃ l, ds[i]? = some (.own l)
 · obtain ⟨l, hl⟩ := hs
   have e' : relS i ds = ds.set i (.v (.lst l)) := by unfold relS; rw [hl]
   rw [e'] at e
   obtain ⟨O', o'⟩ := o.release hl
   exact hf H₀ H O' σ _ hd d ds' E o' e q
 · have e' : relS i ds = ds := by
    unfold relS
    split
    · rename_i l hl; exact (hs ⟨l, hl⟩).elim
    · rfl
   rw [e'] at e
   exact hf H₀ H O σ _ hd d ds' E o e q
end
theorem fun_okR {P : Program} {w : World} {K : Frag} {mg : Str → Option Value} {base : Heap} {x qual : Str} {st : Stmt} {f : Addr} {fd : FuncData} {N ps : List Str} {k p : Nat} {F : OT → List D → Option (D × OT)} (Fn : Fun K x qual st f fd) (S : FnScope N ps (defScope st))
  {g : FX} (hbody : ∀ (cdv : Value) (A : Around) (outer : List Env) (s : Shared) (H : Hp) (E : XK), Room k (A.deeper (envOfC qual (defScope st) s.heap.objs.size f cdv)) → PRv (cxOf CX0 P w K mg base N qual (defScope st) f cdv A outer s H E).nox (defBody st) g)
  (hg : ∀ T l q, l.length = ps.length → F T l = some q → lentR g N.length p T l = some q) (hp : p < ps.length := by decide) (hN : ps.length ≤ N.length := by decide) : FnOk P w K mg base CX0 (k + 1) f fd ps (spR K ps.length p F) := by
 refine Fn.ok S (fun vs H Q E h => h.1) (fun cdv A outer s H vs Q E hr h => ?_)
 obtain ⟨hl, a, T, T', d, fs, B, l, ha, ll, rt, nd, hB, ra, e, q⟩ := h
 obtain ⟨t, ht, hf⟩ := hbody cdv A outer s H E hr
 refine ⟨t, ht, ?_⟩
 have hlen : (args N.length l).length = N.length := by simp [args]; omega
 have o : Ok K (cutH fs H) H (orL fs B) (L2.start N vs) ((args N.length l).set p (.ob (some p) T)) [.root p a, .base B] := by
  refine ok_lend rt nd hB ?_ ?_ ?_ fun j s' hj es => ?_
  · rw [List.length_set, hlen]; simp only [L2.start, List.length_append, List.length_map, List.length_replicate]; omega
  · rw [List.getElem?_set_self (by rw [hlen]; omega)]
  · simp only [L2.start]
    rw [List.getElem?_append_left (by simp; omega), List.getElem?_map, ha]; rfl
  · rw [List.getElem?_set_ne (Ne.symm hj)] at es
    unfold args at es
    by_cases hjl : j < l.length
    · rw [List.getElem?_append_left (by simpa using hjl), List.getElem?_map, List.getElem?_eq_getElem hjl] at es
      cases es
      obtain ⟨v, h1, h2⟩ := ra j _ hj (List.getElem?_eq_getElem hjl)
      refine .inr ⟨_, v, rfl, ?_, h2⟩
      simp only [L2.start]
      rw [List.getElem?_append_left (by simp; omega), List.getElem?_map, h1]; rfl
    · rw [List.getElem?_append_right (by simpa using hjl), List.getElem?_replicate] at es
      split at es
      · cases es; exact .inl rfl
      · cases es
 have e := hg T l _ ll e
 unfold lentR at e
 cases h1 : g ((args N.length l).set p (.ob (some p) T)) with
 | none => rw [h1] at e; cases e
 | some z =>
   obtain ⟨d2, ds2⟩ := z
   rw [h1] at e
   simp only [Option.bind_some] at e
   cases h2 : ds2[p]? with
   | none => rw [h2] at e; cases e
   | some s0 =>
     rw [h2] at e
     cases s0 with
     | ob r T2 =>
       cases r with
       | none => cases e
       | some i =>
         simp only [obAt] at e
         split at e
         · rename_i hi
           subst hi
           cases e
           refine hf _ H _ _ _ _ _ _ _ o h1 fun v σ' H' O' o' r => ?_
           obtain ⟨fs', k1, k2, k3, k4, k5⟩ := o'.lendEnd h2 (.head _) (.tail _ (.head _))
           exact q v H' fs' k1 k2 k3 k4 (r.less k5)
         · cases e
     | _ => cases e
structure CalR (P : Program) (w : World) (K : Frag) (mg : Str → Option Value) (base : Heap) (x : Str) (k n p : Nat) (F : OT → List D → Option (D × OT)) : Prop where
 ex : ∃ (f : Addr) (fd : FuncData) (ps : List Str), FnOk P w K mg base CX0 k f fd ps (spR K n p F) ∧ Binds K fd ps [] ∧ PySem.W.keepIn K (.ref f) = true ∧ mg x = some (.ref f)
section
variable {X : Cx}
variable (X) in
noncomputable def PAx (i p : Nat) (es : List Expr) (g : FA) : Prop := ∃ t, PA X es t ∧ ∀ H₀ H O σ ds hd l r T v0 Q, Ok X.K H₀ H O σ ds hd → g ds = some l → ds[i]? = some (.ob r T) → σ[i]? = some (some v0) →
 (∀ vs H', Same H H' → vs.length = l.length → vs[p]? = some v0 → (∀ (j : Nat) (d : D), j ≠ p → l[j]? = some d → ∃ v, vs[j]? = some v ∧ Rep X.K H' O v d) → Q vs H') → t σ H Q
theorem pax_here {i : Nat} {x : Str} {px : Pos} {es : List Expr} {g : FA} (hr : PAs X es g) (hN : X.N[i]? = some x := by rfl) (hv : Vis X.env.scope x := by first | exact Or.inl rfl | exact Or.inr (Or.inl rfl) | exact Or.inr (Or.inr rfl)) (hd : (x == ("__debug__" : Str)) = false := by decide) (hcd : (x == ("__classdict__" : Str)) = false := by decide)
  (hs : starEach (.Name x px :: es) X.env = (false, eval (.Name x px) X.env) :: starEach es X.env := by rfl) : PAx X i 0 (.Name x px :: es) (hereA g) := by
 obtain ⟨t, ht, hg⟩ := hr
 refine ⟨_, pa_cons (pe_var hN hv hd hcd) ht hs, fun H₀ H O σ ds hd l r T v0 Q o e e1 e2 q => ?_⟩
 unfold hereA at e
 obtain ⟨l1, h1, rfl⟩ := mpd e
 refine ⟨v0, e2, hg H₀ H O σ ds hd l1 _ o h1 fun vs H' s rs => ?_⟩
 refine q (v0 :: vs) H' s (by simp [rs.length]) rfl fun j d hj ej => ?_
 cases j with
 | zero => exact (hj rfl).elim
 | succ j => exact rs.get ej
theorem pax_cons {i p : Nat} {e : Expr} {es : List Expr} {f : FE} {g : FA} (ha : PV X e f) (hr : PAx X i p es g) (hs : starEach (e :: es) X.env = (false, eval e X.env) :: starEach es X.env := by rfl) : PAx X i (p + 1) (e :: es) (consA f g) := by
 obtain ⟨t, ht, hf⟩ := ha
 obtain ⟨u, hu, hg⟩ := hr
 refine ⟨_, pa_cons ht hu hs, fun H₀ H O σ ds hd l r T v0 Q o e e1 e2 q => ?_⟩
 unfold consA at e
 obtain ⟨d1, h1, e⟩ := bnd e
 obtain ⟨l1, h2, rfl⟩ := mpd e
 refine hf H₀ H O σ ds hd d1 _ o h1 fun v H1 s1 r1 => ?_
 refine hg H₀ H1 O σ ds hd l1 r T v0 _ (o.mono s1) h2 e1 e2 fun vs H2 s2 hl hp rs => ?_
 refine q (v :: vs) H2 (s1.trans s2) (by simp [hl]) (by simpa using hp) fun j d hj ej => ?_
 cases j with
 | zero => cases ej; exact ⟨v, rfl, r1.mono s2⟩
 | succ j => exact rs j d (fun z => hj (by rw [z])) ej
theorem pvx_callR {k j n i p : Nat} {F : OT → List D → Option (D × OT)} {x : Str} {pp pos : Pos} {e : Expr} {es : List Expr} {g : FA} (C : CalR X.prog X.w X.K X.mg X.base x k n p F) (hr : Room j X.A) (ha : PAx X i p (e :: es) g) (hj : k ≤ j := by decide)
  (hg : Gl X x := by rfl) (hdb : (x == ("__debug__" : Str)) = false := by decide) (he : starEach (e :: es) X.env = (false, eval e X.env) :: starEach es X.env := by rfl) (hpl : (backTo pos (starEach es X.env)).any (·.1) = false := by rfl) :
  PVx X (.Call (.Name x pp) (e :: es) [] pos) (callR n i F g) := by
 obtain ⟨t, ht, hf⟩ := ha
 obtain ⟨f, fd, ps, Fn, hb, hk, hm⟩ := C.ex
 refine ⟨_, pe_call (CX := CX0) (E := E0) Fn (hr.mono hj) hg hm hk hb .nil pass0 ht hdb he hpl, fun H₀ H O σ ds hd d ds' Q o e q => ?_⟩
 unfold callR at e
 obtain ⟨l, h, e⟩ := bnd e
 cases hs : ds[i]? with
 | none => rw [hs] at e; cases e
 | some s =>
   rw [hs] at e
   cases s with
   | ob r T =>
     simp only at e
     split at e
     · rename_i hc
       obtain ⟨z, h2, e⟩ := mpd e
       cases e
       obtain ⟨a0, _, ea, _⟩ := o.lendAt hs hc.1
       refine hf H₀ H O σ ds hd l r T _ _ o h hs ea fun vs H1 s1 hl hp rs => ?_
       have o1 := o.mono s1
       obtain ⟨a, fs, ea', rt, nd, ow, back⟩ := o1.lendAt hs hc.1
       rw [ea] at ea'
       cases ea'
       have toO : ∀ b, orL fs (fun b => O b ∧ b ∉ fs) b → O b := fun b z => z.elim (ow b) fun z => z.1
       refine ⟨by simp only [List.append_nil]; rw [hl]; exact hc.2, a0, T, z.2, z.1, fs, fun b => O b ∧ b ∉ fs, l, by simpa using hp, hc.2, rt.less toO (fun b z => .inl z), nd, fun b z => ⟨z.2, o1.dom b z.1⟩, fun j d hj ej => ?_, h2, fun v H' fs' k1 k2 k3 k4 k5 => ?_⟩
       · obtain ⟨v, e1, e2⟩ := rs j d hj ej
         exact ⟨v, by simpa using e1, e2.less toO⟩
       · exact q v H' _ (back k1 k2 k3 k4) k5
     · cases e
   | _ => cases e
theorem psv_setR {i : Nat} {x : Str} {e : Expr} {pos pos' : Pos} {f : FX} (hN : X.N.Nodup) (he : PVx X e f) (hi : X.N[i]? = some x := by rfl) (hx : Loc X.env.scope x := by first | exact Or.inl rfl | exact Or.inr rfl) (hs : swapsWith e (some (.Name x pos')) pos.line X.env = pure false := by rfl)
  (hf : X.fn x = true ∨ X.env.scope.names.lookup x = some .local := by first | exact .inl rfl | exact .inr rfl) : PSv X (.Assign [.Name x pos'] e pos) (setR i f) := by
 obtain ⟨t, ht, hg⟩ := he
 refine ⟨_, ps_set hN hi hx ht hs hf, fun H₀ H O σ ds hd out E o e h => ?_⟩
 unfold setR at e
 obtain ⟨q, h1, rfl⟩ := mpd e
 exact hg H₀ H O σ ds hd q.1 q.2 _ o h1 fun v H' O' o' r => h _ _ _ (o'.set r)
theorem psv_appR {i : Nat} {x : Str} {e : Expr} {pos p1 p2 p3 : Pos} {fe : FX} (he : PVx X e fe) (hN : X.N[i]? = some x := by rfl) (hv : Vis X.env.scope x := by first | exact Or.inl rfl | exact Or.inr (Or.inl rfl) | exact Or.inr (Or.inr rfl)) (hd : (x == ("__debug__" : Str)) = false := by decide)
  (hcd : (x == ("__classdict__" : Str)) = false := by decide)
  (hfew : ((backTo p3 (starEach [e] X.env)).all (fun x => !x.1) && (backToKw p3 (keywordEach [] X.env)).all (fun x => x.1.isSome)
    && decide ([e].length + ([] : List Keyword).length + (if ([] : List Keyword).isEmpty then 0 else 1) < 30)) = true := by rfl)
  (hline : (p2.endLine == p3.line) = true := by rfl) (hs : starEach [e] X.env = (false, eval e X.env) :: starEach [] X.env := by rfl)
  (hbase : attributeBase (.Name x p1) "append" X.env (eval (.Name x p1) X.env) = eval (.Name x p1) X.env := by rfl) (hsw : swapsWith (.Call (.Attribute (.Name x p1) "append" p2) [e] [] p3) none pos.line X.env = pure false := by rfl) :
  PSv X (.Expr (.Call (.Attribute (.Name x p1) "append" p2) [e] [] p3) pos) (appR i fe) := by
 obtain ⟨te, pe, he⟩ := he
 refine ⟨_, ps_expr (pe_bm PySem.F.plainAttrs_list PySem.F.slot_list_append PySem.F.type_list_append mt_append (pe_var hN hv hd hcd) (pa_cons pe pa_nil hs) hbase hfew hline hs rfl) hsw, fun H₀ H O σ ds hd out E o e h => ?_⟩
 unfold appR at e
 cases hsl : ds[i]? with
 | none => rw [hsl] at e; cases e
 | some s =>
   rw [hsl] at e
   cases s with
   | own l0 =>
     simp only at e
     obtain ⟨q, h1, e⟩ := bnd e
     cases hs2 : q.2[i]? with
     | none => rw [hs2] at e; cases e
     | some s2 =>
       rw [hs2] at e
       cases s2 with
       | own l =>
         simp only at e
         split at e
         · rename_i hl
           cases e
           obtain ⟨a, xs, q1, q2, q3, q4⟩ := o.readO hsl
           refine ⟨.ref a, q1, .inl ⟨rfl, xs, SqL.of q3⟩, ?_⟩
           refine he H₀ H O σ ds hd q.1 q.2 _ o h1 fun v1 H1 O1 o1 r1 => ?_
           obtain ⟨a', xs', q1', q2', q3', q4'⟩ := o1.readO hs2
           rw [q1] at q1'
           cases q1'
           refine ⟨a, xs', v1, rfl, rfl, q3', by rw [q4'.length]; exact hl, ?_⟩
           exact h _ _ _ (o1.modify hs2 q1 (q4'.append (.cons r1 .nil)))
         · cases e
       | _ => cases e
   | _ => cases e
section
variable {scope : Scope} {NY : List Str} {mp : List (Option Nat)} {tg iter elt : Expr} {pos : Pos} {fi : FA} {ga : D → List Sl → Option (List Sl)} {fe : FX} {i p : Nat}
theorem pvx_comp (S : CompScope X scope NY mp) (hc : X.calm = true) (hi : PIv X tg iter fi) (hg : ∀ c, PGv (compCx X scope NY c) tg ga) (he : ∀ c, PVx (compCx X scope NY c) elt fe)
  (hm : mp[p]? = some (some i) := by rfl) (hs : ∀ x, foldedSetIterable iter X.env x = pure x := by intro _; rfl) : PVx X (.ListComp elt [⟨tg, iter, [], 0⟩] scope pos) (compR fi mp i p ga fe) := by
 obtain ⟨wi, pi, hi⟩ := hi
 refine ⟨_, pe_comp S hc pi (fun c => (Classical.choose_spec (hg c)).1) (fun c => pf_nil) (fun c => (Classical.choose_spec (he c)).1) hs, fun H₀ H O σ ds hd d ds' Q o e q => ?_⟩
 have hg := fun c => (Classical.choose_spec (hg c)).2
 have he := fun c => (Classical.choose_spec (he c)).2
 unfold compR at e
 obtain ⟨items, h1, e⟩ := bnd e
 cases hsl : ds[i]? with
 | none => rw [hsl] at e; cases e
 | some s =>
   rw [hsl] at e
   cases s with
   | ob r T =>
     simp only at e
     split at e
     · rename_i hsz
       obtain ⟨z, h2, e⟩ := mpd e
       cases e
       refine hi H₀ H O σ ds hd items _ o h1 fun J pv H1 s1 r1 wk => fun c => ?_
       have o1 := o.mono s1
       obtain ⟨a, fs, ea, rt, nd, ow, back⟩ := o1.lendAt hsl hsz.2
       let B : Addr → Prop := fun b => O b ∧ b ∉ fs
       have toO : ∀ b, orL fs B b → O b := fun b z => z.elim (ow b) fun z => z.1
       have hlen : (slotsD mp ds).length = mp.length := by simp [slotsD]
       have hpl : p < mp.length := (List.getElem?_eq_some_iff.mp hm).1
       refine ⟨fun n m ys H2 => n ≤ items.length ∧ m = items.length - n ∧ ys.length ≤ n ∧ ∃ T2 fs2 l' z2, (∀ b u, b ∉ fs → H1 b = some u → H2 b = some u) ∧ RepO X.K H2 (orL fs2 B) (.ref a) T2 fs2 ∧ fs2.Nodup ∧ (∀ b ∈ fs2, b ∈ fs ∨ H1 b = none) ∧ Reps X.K H2 (orL fs2 B) ys l' ∧
         compLX ga fe (fun T => (slotsD mp ds).set p (.ob (some p) T)) p T2 (items.drop n) = some z2 ∧ z = (l' ++ z2.1, z2.2),
        ⟨items.length, Nat.zero_le _, rfl, Nat.le_refl _, T, fs, [], z, fun _ _ _ e => e, rt.less toO (fun b z => .inl z), nd, fun b z => .inl z, .nil, by simpa using h2, by simp⟩, ?_⟩
       rintro n m ys H2 ⟨hn, rfl, hy, T2, fs2, l', z2, k1, k2, k3, k4, ry, er, el⟩
       have ch : Chg H1 H2 O (orL fs2 B) fs fs2 := chg_lend (fun b z => (Classical.em (b ∈ fs)).imp id fun y => ⟨z, y⟩) ow (fun b z => z.1) k1 k4
       have nB : ∀ b, B b → b ∉ fs2 ∧ ∃ u : MutHO, H2 b = some u.1 := fun b hb => by
        obtain ⟨u, eu⟩ := o1.dom b hb.1
        refine ⟨fun z => (k4 b z).elim hb.2 fun y => ?_, u, k1 b _ hb.2 eu⟩
        rw [y] at eu; cases eu
       have oI : Ok X.K (cutH fs2 H2) H2 (orL fs2 B) (slotsY mp σ) ((slotsD mp ds).set p (.ob (some p) T2)) [HI.rep pv.1 pv.2, .root p a, .base B] := by
        refine Ok.holdMore (p := HI.rep pv.1 pv.2) (ok_lend k2 k3 nB ?_ ?_ ?_ fun j s hj es => ?_) (ch.rep r1)
        · rw [List.length_set, hlen]; simp [slotsY]
        · rw [List.getElem?_set_self (by rw [hlen]; exact hpl)]
        · simp only [slotsY, List.getElem?_map, hm, Option.map_some, Option.bind_some, ea, Option.join_some]
        · rw [List.getElem?_set_ne (Ne.symm hj)] at es
          unfold slotsD at es
          rw [List.getElem?_map] at es
          cases hmj : mp[j]? with
          | none => rw [hmj] at es; cases es
          | some mj =>
            rw [hmj] at es
            simp only [Option.map_some, Option.some.injEq] at es
            cases mj with
            | none => exact .inl es.symm
            | some i' =>
              simp only at es
              cases hd' : ds[i']? with
              | none => rw [hd'] at es; exact .inl es.symm
              | some s' =>
                rw [hd'] at es
                cases s' with
                | v d' =>
                  obtain ⟨v, g1, g2⟩ := o1.read hd'
                  refine .inr ⟨d', v, es.symm, ?_, ch.rep g2⟩
                  simp only [slotsY, List.getElem?_map, hmj, Option.map_some, Option.bind_some, g1, Option.join_some]
                | _ => exact .inl es.symm
       obtain ⟨go, stop⟩ := wk H2 _ oI.dom (oI.hold (HI.rep pv.1 pv.2) List.mem_cons_self)
       by_cases hlt : n < items.length
       · right
         have hd0 : items[n]? = some items[n] := List.getElem?_eq_getElem hlt
         obtain ⟨hgo, hyl⟩ := go n _ hd0
         refine ⟨hgo, by have := hsz.1; omega, fun x H3 y => ?_⟩
         obtain ⟨s3, r3⟩ := hyl x H3 y
         rw [List.drop_eq_getElem_cons hlt, compLX] at er
         obtain ⟨ds1, h3, er⟩ := bnd er
         refine hg c _ H3 _ _ _ _ x _ ds1 _ (oI.mono s3) r3 h3 fun σ' o3 => ?_
         unfold tNoIf; refine iteT ?_
         obtain ⟨yd, h4, er⟩ := bnd er
         obtain ⟨T3, h5, er⟩ := bnd er
         have h6 : yd.2[p]? = some (.ob (some p) T3) := by
          cases hy2 : yd.2[p]? with
          | none => rw [hy2] at h5; cases h5
          | some s2 =>
            rw [hy2] at h5
            cases s2 with
            | ob r2 t2 =>
              cases r2 with
              | none => cases h5
              | some q2 =>
                simp only [obAt] at h5
                split at h5
                · rename_i hq; subst hq; cases h5; rfl
                · cases h5
            | _ => cases h5
         obtain ⟨z3, h7, rfl⟩ := mpd er
         refine he c _ H3 _ σ' ds1 _ yd.1 yd.2 _ o3 h4 fun v H5 O5 o5 r5 => ?_
         obtain ⟨fs3, j1, j2, j3, j4, j5⟩ := o5.lendEnd h6 (.tail _ (.head _)) (.tail _ (.tail _ (.head _)))
         have ch2 : Chg H2 H5 (orL fs2 B) (orL fs3 B) fs2 fs3 := chg_lend (fun b z => z) (fun b z => .inl z) (fun b z => .inr z) j1 j4
         refine ⟨items.length - (n + 1), by omega, hlt, rfl, by simp; omega, T3, fs3, l' ++ [yd.1], z3, fun b u nb eb => j1 b u (fun z => (k4 b z).elim nb fun y => by rw [y] at eb; cases eb) (k1 b u nb eb), j2, j3, fun b z => (j4 b z).elim (k4 b) fun y => ?_, (ch2.reps ry).append (.cons (r5.less j5) .nil), h7, ?_⟩
         · by_cases bf : b ∈ fs
           · exact .inl bf
           · right
             cases hb : H1 b with
             | none => rfl
             | some u => rw [k1 b u bf hb] at y; cases y
         · rw [el]; simp
       · left
         have ei : n = items.length := by omega
         subst ei
         rw [List.drop_length, compLX] at er
         cases er
         rw [List.append_nil] at el
         subst el
         refine ⟨stop, by have := hsz.1; omega, fun a' ha' => ?_⟩
         have o2 := back k1 k2 k3 k4
         refine q (.ref a') _ (orL fs2 B) (o2.mono (same_upd ha' _)) ?_
         refine .lst (fun z => ?_) (.inl upd_same) (ry.mono (same_upd ha' _))
         obtain ⟨u, eu⟩ := o2.dom a' z
         rw [ha'] at eu; cases eu
     · cases e
   | _ => cases e
end
end
section
variable {P : Program} {w : World} {K : Frag} {mg : Str → Option Value} {base : Heap}
theorem calR_mk {k n p : Nat} {x : Str} {f : Addr} {fd : FuncData} {ps : List Str} {F : OT → List D → Option (D × OT)} (G : FnOk P w K mg base CX0 k f fd ps (spR K n p F)) (b : Binds K fd ps []) (h : PySem.W.keepIn K (.ref f) = true) (m : mg x = some (.ref f)) : CalR P w K mg base x k n p F := ⟨f, _, _, G, b, h, m⟩
theorem DefM.calR {k n p : Nat} {x : Str} {st : Stmt} {f : Addr} {ps : List Str} {F : OT → List D → Option (D × OT)} {h : Heap} (d : DefM K x st f) (X : K.In h) (G : h.Ns mainGlobals mg) (hf : ∀ {fd}, Fun K x x st f fd → FnOk P w K mg base CX0 k f fd ps (spR K n p F))
  (hb : ∀ (kV doc pm : Value) (an : Option Addr) (cdv ct : Value) (us : List Value), us.length = ps.length → bindArgs (PySem.W.fnOf x x (defArgs st) (defBody st) (defScope st) .none kV doc pm an cdv ct) ⟨us, []⟩ = pure (ps.zip us) := by
    intro _ _ _ _ _ _; first | exact len0 rfl | exact len1 fun _ => rfl | exact len2 fun _ _ => rfl | exact len3 fun _ _ _ => rfl | exact len4 fun _ _ _ _ => rfl | exact len5 fun _ _ _ _ _ => rfl) : CalR P w K mg base x k n p F :=
 let ⟨_, F1, a, c⟩ := d.get; calR_mk (hf F1) (F1.binds hb) c (PySem.W.mg_of X G a)
end
noncomputable def oi : Option Int → D
 | none => .non
 | some i => .int i
@[simp] theorem oi_none : oi none = .non := rfl
@[simp] theorem oi_some (i : Int) : oi (some i) = .int i := rfl
noncomputable def andK (r : Option D) : D → Option D := fun d => match d with | .bl true => r | .bl false => some (.bl false) | _ => none
noncomputable def orK (r : Option D) : D → Option D := fun d => match d with | .bl true => some (.bl true) | .bl false => r | _ => none
@[simp] theorem andK_bl (r : Option D) (b : Bool) : andK r (.bl b) = if b = true then r else some (.bl false) := by cases b <;> rfl
@[simp] theorem orK_bl (r : Option D) (b : Bool) : orK r (.bl b) = if b = true then some (.bl true) else r := by cases b <;> rfl
@[simp] theorem ite_andD (b c : Bool) : (if b = true then some (D.bl c) else some (D.bl false)) = some (.bl (b && c)) := by cases b <;> rfl
@[simp] theorem ite_orD (b c : Bool) : (if b = true then some (D.bl true) else some (D.bl c)) = some (.bl (b || c)) := by cases b <;> rfl
@[simp] theorem ite_andB (b c : Bool) : (if b = true then some c else some false) = some (b && c) := by cases b <;> rfl
@[simp] theorem ite_orB (b c : Bool) : (if b = true then some true else some c) = some (b || c) := by cases b <;> rfl
@[simp] theorem ite_andB' (p : Prop) [Decidable p] (c : Bool) : (if p then some c else some false) = some (decide p && c) := by by_cases h : p <;> simp [h]
@[simp] theorem ite_orB' (p : Prop) [Decidable p] (c : Bool) : (if p then some true else some c) = some (decide p || c) := by by_cases h : p <;> simp [h]
@[simp] theorem szl : sizeLine = 16777216 := sizeLine_eq
section
variable (ds : List Sl)
@[simp] theorem getV_eq (i : Nat) : getV i ds = match ds[i]? with | some (.v d) => some d | _ => none := rfl
@[simp] theorem getW_eq (i : Nat) : getW i ds = match ds[i]? with | some (.v d) => some d | some (.own l) => some (.lst l) | _ => none := rfl
@[simp] theorem konst_eq (d : D) : konst d ds = some d := rfl
@[simp] theorem bin2_eq (op : D → D → Option D) (fa fb : FE) : bin2 op fa fb ds = (fa ds).bind fun x => (fb ds).bind fun y => op x y := rfl
@[simp] theorem un1_eq (op : D → Option D) (f : FE) : un1 op f ds = (f ds).bind op := rfl
@[simp] theorem callB_eq (F : List D → Option D) (g : FA) : callB F g ds = (g ds).bind F := rfl
@[simp] theorem callV_eq (n : Nat) (F : List D → Option Ret) (g : FA) : callV n F g ds = (g ds).bind fun l => if l.length = n then (F l).bind retV else none := rfl
@[simp] theorem callF_eq (n : Nat) (F : List D → Option Ret) (g : FA) : callF n F g ds = (g ds).bind fun l => if l.length = n then (F l).bind retF else none := rfl
@[simp] theorem retV_val (d : D) : retV (.val d) = some d := rfl
@[simp] theorem retV_fresh (l : List D) : retV (.fresh l) = some (.lst l) := rfl
@[simp] theorem retF_val (d : D) : retF (.val d) = none := rfl
@[simp] theorem retF_fresh (l : List D) : retF (.fresh l) = some l := rfl
@[simp] theorem consA_eq (f : FE) (g : FA) : consA f g ds = (f ds).bind fun x => (g ds).map fun r => x :: r := rfl
@[simp] theorem nilA_eq : nilA ds = some [] := rfl
@[simp] theorem sized_eq (f : FA) : sized f ds = (f ds).bind fun l => if l.length ≤ sizeLine then some l else none := rfl
@[simp] theorem mkL_eq (f : FA) : mkL f ds = (f ds).map D.lst := rfl
@[simp] theorem mkT_eq (f : FA) : mkT f ds = (f ds).map D.tup := rfl
@[simp] theorem testB_eq (f : FE) : testB f ds = (f ds).bind isB := rfl
@[simp] theorem testT_eq (f : FE) : testT f ds = (f ds).bind truD := rfl
@[simp] theorem isB_bl (b : Bool) : isB (.bl b) = some b := rfl
@[simp] theorem andT_eq (c d : FT) : andT c d ds = (c ds).bind fun b => if b = true then d ds else some false := rfl
@[simp] theorem orT_eq (c d : FT) : orT c d ds = (c ds).bind fun b => if b = true then some true else d ds := rfl
@[simp] theorem notT_eq (c : FT) : notT c ds = (c ds).map not := rfl
@[simp] theorem andV_eq (f g : FE) : andV f g ds = (f ds).bind (andK (g ds)) := rfl
@[simp] theorem orV_eq (f g : FE) : orV f g ds = (f ds).bind (orK (g ds)) := rfl
@[simp] theorem notV_eq (f : FE) : notV f ds = (f ds).bind fun d => match d with | .bl b => some (.bl (!b)) | _ => none := rfl
@[simp] theorem ifV_eq (c : FT) (f g : FE) : ifV c f g ds = (c ds).bind fun b => if b = true then f ds else g ds := rfl
@[simp] theorem seqG_eq (f g : FS) : seqG f g ds = (f ds).bind fun o => match o with | .nx ds' => g ds' | o => some o := rfl
@[simp] theorem ifG_eq (c : FT) (f g : FS) : ifG c f g ds = (c ds).bind fun b => if b = true then f ds else g ds := rfl
@[simp] theorem setG_eq (i : Nat) (f : FE) : setG i f ds = (f ds).map fun d => .nx (ds.set i (.v d)) := rfl
@[simp] theorem setOG_eq (i : Nat) (f : FA) : setOG i f ds = (f ds).map fun l => .nx (ds.set i (.own l)) := rfl
@[simp] theorem retG_eq (f : FE) : retG f ds = (f ds).bind flatR := rfl
@[simp] theorem retOG_eq (f : FA) : retOG f ds = (f ds).bind flatF := rfl
@[simp] theorem retXG_eq (i : Nat) : retXG i ds = match ds[i]? with | some (.own l) => flatF l | _ => none := rfl
@[simp] theorem nextG_eq : nextG ds = some (.nx ds) := rfl
@[simp] theorem appG_eq (i : Nat) (fe : FE) : appG i fe ds = match ds[i]? with
 | some (.own l) => (fe ds).bind fun d => if l.length < sizeLine then some (.nx (ds.set i (.own (l ++ [d])))) else none
 | _ => none := rfl
@[simp] theorem extG_eq (i : Nat) (fe : FA) : extG i fe ds = match ds[i]? with
 | some (.own l) => (fe ds).bind fun d => if l.length + d.length ≤ sizeLine then some (.nx (ds.set i (.own (l ++ d)))) else none
 | _ => none := rfl
@[simp] theorem putG_eq (i : Nat) (fk fe : FE) : putG i fk fe ds = match ds[i]? with
 | some (.own l) => (fe ds).bind fun d => (fk ds).bind fun k => match k with
   | .int n => (ixN l.length n).map fun j => .nx (ds.set i (.own (l.set j d)))
   | _ => none
 | _ => none := rfl
@[simp] theorem clrG_eq (i : Nat) : clrG i ds = match ds[i]? with
 | some (.own l) => some (.nx (ds.set i (.own [])))
 | _ => none := rfl
@[simp] theorem asgG_eq (ga : D → List Sl → Option (List Sl)) (f : FE) : asgG ga f ds = (f ds).bind fun d => (ga d ds).map .nx := rfl
@[simp] theorem relS_eq (i : Nat) : relS i ds = match ds[i]? with | some (.own l) => ds.set i (.v (.lst l)) | _ => ds := rfl
@[simp] theorem viaA_eq (f : FE) (k : D → Option (List D)) : viaA f k ds = (f ds).bind k := rfl
@[simp] theorem asLT_lst (l : List D) : asLT (.lst l) = some l := rfl
@[simp] theorem asLT_tup (l : List D) : asLT (.tup l) = some l := rfl
@[simp] theorem catA_eq (fa fb : FE) : catA fa fb ds = (fa ds).bind fun x => (fb ds).bind fun y => match x, y with
 | .lst a, .lst b => if a.length + b.length ≤ sizeLine then some (a ++ b) else none
 | _, _ => none := rfl
@[simp] theorem sliA_eq (f : FE) (lo hi : List Sl → Option (Option Int)) : sliA f lo hi ds = (f ds).bind fun d => (lo ds).bind fun a => (hi ds).bind fun b => match d with
 | .lst l => some (cutD l a b)
 | _ => none := rfl
@[simp] theorem lisA_eq (f : FE) : lisA f ds = (f ds).bind asLT := rfl
@[simp] theorem noP_eq : noP ds = some none := rfl
@[simp] theorem soP_eq (f : FE) : soP f ds = (f ds).bind fun d => match d with | .int i => some (some i) | _ => none := rfl
@[simp] theorem forG_eq (fi : FA) (ga : D → List Sl → Option (List Sl)) (body : FS) : forG fi ga body ds = (fi ds).bind fun items => loopG ga body items ds := rfl
@[simp] theorem nameG_eq (i : Nat) (d : D) : nameG i d ds = some (ds.set i (.v d)) := rfl
@[simp] theorem tupG_eq (n : Nat) (h : List D → List Sl → Option (List Sl)) (l : List D) : tupG n h (.tup l) ds = if l.length = n then h l ds else none := rfl
@[simp] theorem tgCons_eq (g : D → List Sl → Option (List Sl)) (h : List D → List Sl → Option (List Sl)) (d : D) (r : List D) : tgCons g h (d :: r) ds = (g d ds).bind fun ds' => h r ds' := rfl
@[simp] theorem tgNil_eq : tgNil [] ds = some ds := rfl
@[simp] theorem isiG_eq (T : String) (f : FE) : isiG T f ds = (f ds).bind (isiD T) := rfl
@[simp] theorem chain_eq (op op' : D → D → Option D) (fa fb fc : FE) : chain op op' fa fb fc ds = (fa ds).bind fun x => (fb ds).bind fun y => (op x y).bind fun z => match z with
 | .bl true => (fc ds).bind fun w => op' y w
 | .bl false => some (.bl false)
 | _ => none := rfl
end
@[simp] theorem addD_int (i j : Int) : addD (.int i) (.int j) = some (.int (i + j)) := rfl
@[simp] theorem subD_int (i j : Int) : subD (.int i) (.int j) = some (.int (i - j)) := rfl
@[simp] theorem negD_int (i : Int) : negD (.int i) = some (.int (-i)) := rfl
@[simp] theorem ltD_int (i j : Int) : ltD (.int i) (.int j) = some (.bl (decide (i < j))) := rfl
@[simp] theorem leD_int (i j : Int) : leD (.int i) (.int j) = some (.bl (decide (i ≤ j))) := rfl
@[simp] theorem gtD_int (i j : Int) : gtD (.int i) (.int j) = some (.bl (decide (j < i))) := rfl
@[simp] theorem geD_int (i j : Int) : geD (.int i) (.int j) = some (.bl (decide (j ≤ i))) := rfl
@[simp] theorem modD_pos {j : Int} (i : Int) (h : 0 < j) : modD (.int i) (.int j) = some (.int (i % j)) := if_pos h
theorem divOk_small {j : Int} (h : 0 < j) (h2 : j < 1000000000) : divOk j := ⟨h, by
 have h3 : j.natAbs < 2 ^ 30 := by
  have : (2 : Nat) ^ 30 = 1073741824 := by decide
  omega
 have h4 : j.natAbs ≠ 0 := by omega
 have := (Nat.log2_lt h4).mpr h3
 omega⟩
@[simp] theorem fdivD_small {j : Int} (i : Int) (h : 0 < j) (h2 : j < 1000000000) : fdivD (.int i) (.int j) = some (.int (i / j)) := if_pos (divOk_small h h2)
theorem mulD_ok {i j : Int} (h : IntMulOk i j) : mulD (.int i) (.int j) = some (.int (i * j)) := if_pos h
theorem powD_ok {i j : Int} (h : CPowB i j) : powD (.int i) (.int j) = some (.int (i ^ j.toNat)) := if_pos h
theorem cpow_of {i j : Int} {n m : Nat} (h : i.natAbs < 2 ^ n) (h0 : 0 ≤ j) (h1 : j ≤ m) (h2 : n * m ≤ 134217728) : CPowB i j := by
 refine ⟨h0, ?_⟩
 have hb : Builtin.Int.intBits i ≤ n := intBits_le_iff.mpr h
 have h3 : (Builtin.Int.intBits i : Int) * j ≤ (n : Int) * (m : Int) := Int.mul_le_mul (by omega) h1 h0 (by omega)
 have h4 : ((n * m : Nat) : Int) ≤ 134217728 := by omega
 have e : ((n * m : Nat) : Int) = (n : Int) * (m : Int) := Int.natCast_mul n m
 have e2 : (2 : Int) ^ 27 = 134217728 := by decide
 rw [e2]
 omega
@[simp] theorem pow10 {j : Int} (h0 : 0 ≤ j) (h1 : j ≤ 1000) : powD (.int 10) (.int j) = some (.int (10 ^ j.toNat)) := powD_ok (cpow_of (n := 4) (m := 1000) (by decide) h0 h1 (by decide))
@[simp] theorem mxD_int (i j : Int) : mxD [.int i, .int j] = some (.int (max i j)) := by
 show some (D.int (if j > i then j else i)) = _
 congr 2
 split <;> omega
@[simp] theorem mnD_int (i j : Int) : mnD [.int i, .int j] = some (.int (min i j)) := by
 show some (D.int (if j < i then j else i)) = _
 congr 2
 split <;> omega
@[simp] theorem lenD_lst (l : List D) : lenD [.lst l] = some (.int l.length) := rfl
@[simp] theorem lenD_tup (l : List D) : lenD [.tup l] = some (.int l.length) := rfl
@[simp] theorem isD_non : isD .non .non = some (.bl true) := rfl
@[simp] theorem isD_int (i : Int) : isD (.int i) .non = some (.bl false) := rfl
@[simp] theorem isD_bl (i : Bool) : isD (.bl i) .non = some (.bl false) := rfl
@[simp] theorem isD_tup (i : List D) : isD (.tup i) .non = some (.bl false) := rfl
@[simp] theorem isD_lst (i : List D) : isD (.lst i) .non = some (.bl false) := rfl
@[simp] theorem isD_oi (o : Option Int) : isD (oi o) .non = some (.bl o.isNone) := by cases o <;> rfl
@[simp] theorem notD_non : notD .non .non = some (.bl false) := rfl
@[simp] theorem notD_int (i : Int) : notD (.int i) .non = some (.bl true) := rfl
@[simp] theorem notD_bl (i : Bool) : notD (.bl i) .non = some (.bl true) := rfl
@[simp] theorem notD_tup (i : List D) : notD (.tup i) .non = some (.bl true) := rfl
@[simp] theorem notD_lst (i : List D) : notD (.lst i) .non = some (.bl true) := rfl
@[simp] theorem notD_oi (o : Option Int) : notD (oi o) .non = some (.bl o.isSome) := by cases o <;> rfl
@[simp] theorem truD_bl (b : Bool) : truD (.bl b) = some b := rfl
@[simp] theorem truD_non : truD .non = some false := rfl
@[simp] theorem truD_lst (l : List D) : truD (.lst l) = some (!l.isEmpty) := rfl
@[simp] theorem truD_tup (l : List D) : truD (.tup l) = some (!l.isEmpty) := rfl
theorem ixN_pos {n : Nat} {i : Int} (h : 0 ≤ i) (h2 : i < n) : ixN n i = some i.toNat := by
 unfold ixN
 rw [if_pos h, if_pos h2]
theorem ixL_pos (l : List D) {i : Int} (h : 0 ≤ i) (h2 : i < l.length) : ixD (.lst l) (.int i) = l[i.toNat]? := by
 show atI l i = _
 unfold atI
 rw [ixN_pos h h2]
 rfl
theorem ixT_pos (l : List D) {i : Int} (h : 0 ≤ i) (h2 : i < l.length) : ixD (.tup l) (.int i) = l[i.toNat]? := by
 show atI l i = _
 unfold atI
 rw [ixN_pos h h2]
 rfl
@[simp] theorem ixT0 (a : D) (l : List D) : ixD (.tup (a :: l)) (.int 0) = some a := by
 rw [ixT_pos _ (by decide) (by rw [List.length_cons]; omega)]
 rfl
@[simp] theorem ixT1 (a b : D) (l : List D) : ixD (.tup (a :: b :: l)) (.int 1) = some b := by
 rw [ixT_pos _ (by decide) (by rw [List.length_cons, List.length_cons]; omega)]
 rfl
@[simp] theorem ixT2 (a b c : D) (l : List D) : ixD (.tup (a :: b :: c :: l)) (.int 2) = some c := by
 rw [ixT_pos _ (by decide) (by rw [List.length_cons, List.length_cons, List.length_cons]; omega)]
 rfl
@[simp] theorem ixL0 (a : D) (l : List D) : ixD (.lst (a :: l)) (.int 0) = some a := by
 rw [ixL_pos _ (by decide) (by rw [List.length_cons]; omega)]
 rfl
@[simp] theorem ixL1 (a b : D) (l : List D) : ixD (.lst (a :: b :: l)) (.int 1) = some b := by
 rw [ixL_pos _ (by decide) (by rw [List.length_cons, List.length_cons]; omega)]
 rfl
theorem ixL_last (l : List D) (a : D) : ixD (.lst (l ++ [a])) (.int (-1)) = some a := by
 show atI (l ++ [a]) (-1) = _
 unfold atI ixN
 rw [if_neg (by decide), if_pos (by rw [List.length_append, List.length_singleton]; omega), List.length_append, List.length_singleton]
 have e : (-1 + ((l.length + 1 : Nat) : Int)).toNat = l.length := by omega
 rw [e]
 simp
@[simp] theorem flat_non : flat .non = true := by simp [flat]
@[simp] theorem flat_bl (b : Bool) : flat (.bl b) = true := by simp [flat]
@[simp] theorem flat_int (i : Int) : flat (.int i) = true := by simp [flat]
@[simp] theorem flat_tup (l : List D) : flat (.tup l) = flats l := by simp [flat]
@[simp] theorem flats_nil : flats [] = true := by simp [flats]
@[simp] theorem flats_cons (d : D) (l : List D) : flats (d :: l) = (flat d && flats l) := by simp [flats]
@[simp] theorem flat_oi (o : Option Int) : flat (oi o) = true := by cases o <;> simp
theorem flatR_of {d : D} (h : flat d = true) : flatR d = some (.rt (.val d)) := if_pos h
@[simp] theorem flatR_non : flatR .non = some (.rt (.val .non)) := flatR_of (by simp)
@[simp] theorem flatR_bl (b : Bool) : flatR (.bl b) = some (.rt (.val (.bl b))) := flatR_of (by simp)
@[simp] theorem flatR_int (i : Int) : flatR (.int i) = some (.rt (.val (.int i))) := flatR_of (by simp)
@[simp] theorem flatR_oi (o : Option Int) : flatR (oi o) = some (.rt (.val (oi o))) := flatR_of (by simp)
@[simp] theorem flatR_tup (l : List D) (h : flats l = true) : flatR (.tup l) = some (.rt (.val (.tup l))) := flatR_of (by simpa using h)
@[simp] theorem flatF_of (l : List D) (h : flats l = true) : flatF l = some (.rt (.fresh l)) := if_pos h
@[simp] theorem shal_int (n : Nat) (i : Int) : shal n (.int i) = true := by simp [shal]
@[simp] theorem shal_non (n : Nat) : shal n .non = true := by simp [shal]
@[simp] theorem shal_oi (n : Nat) (o : Option Int) : shal n (oi o) = true := by cases o <;> simp
@[simp] theorem shal_tup (n : Nat) (l : List D) : shal n (.tup l) = shals n l := by simp [shal]
@[simp] theorem shal_lst (n : Nat) (l : List D) : shal n (.lst l) = shals n l := by simp [shal]
@[simp] theorem shals_nil (n : Nat) : shals n [] = true := by cases n <;> simp [shals]
@[simp] theorem shals_cons (n : Nat) (d : D) (l : List D) : shals (n + 1) (d :: l) = (shal n d && shals (n + 1) l) := by simp [shals]
theorem shals_all {n : Nat} {l : List D} (h : ∀ d ∈ l, shal n d = true) : shals (n + 1) l = true := by
 induction l with
 | nil => simp
 | cons d r ih =>
   rw [shals_cons, h d List.mem_cons_self, ih fun x hx => h x (List.mem_cons_of_mem _ hx)]
   rfl
theorem eqD_ok {x y : D} (h : shal 40 x = true) (h2 : shal 40 y = true) : eqD x y = some (.bl (eqvD x y)) := if_pos ⟨h, h2⟩
theorem neD_ok {x y : D} (h : shal 40 x = true) (h2 : shal 40 y = true) : neD x y = some (.bl (!eqvD x y)) := if_pos ⟨h, h2⟩
@[simp] theorem eqvD_int (i j : Int) : eqvD (.int i) (.int j) = decide (i = j) := by
 show (i == j) = _
 rw [Bool.eq_iff_iff]; simp
@[simp] theorem eqvD_non : eqvD .non .non = true := rfl
@[simp] theorem eqvD_non_int (j : Int) : eqvD .non (.int j) = false := rfl
@[simp] theorem eqvD_int_non (j : Int) : eqvD (.int j) .non = false := rfl
@[simp] theorem eqvD_oi (o p : Option Int) : eqvD (oi o) (oi p) = decide (o = p) := by cases o <;> cases p <;> simp
@[simp] theorem eqvD_tup (a b : List D) : eqvD (.tup a) (.tup b) = eqvs a b := by simp [eqvD, eqvs, toPy, PyData.eqv]
@[simp] theorem eqvD_lst (a b : List D) : eqvD (.lst a) (.lst b) = eqvs a b := by simp [eqvD, eqvs, toPy, PyData.eqv]
@[simp] theorem eqvs_nil : eqvs [] [] = true := by simp [eqvs, toPys, PyData.eqvAll]
@[simp] theorem eqvs_cons (x y : D) (a b : List D) : eqvs (x :: a) (y :: b) = (eqvD x y && eqvs a b) := by simp [eqvs, eqvD, toPys, PyData.eqvAll]
@[simp] theorem eqvs_nil_cons (y : D) (b : List D) : eqvs [] (y :: b) = false := by simp [eqvs, toPys, PyData.eqvAll]
@[simp] theorem eqvs_cons_nil (y : D) (b : List D) : eqvs (y :: b) [] = false := by simp [eqvs, toPys, PyData.eqvAll]
@[simp] theorem eqD_int (i j : Int) : eqD (.int i) (.int j) = some (.bl (decide (i = j))) := by rw [eqD_ok (by simp) (by simp)]; simp
@[simp] theorem neD_int (i j : Int) : neD (.int i) (.int j) = some (.bl (!decide (i = j))) := by rw [neD_ok (by simp) (by simp)]; simp
@[simp] theorem eqD_oi (i j : Option Int) : eqD (oi i) (oi j) = some (.bl (decide (i = j))) := by rw [eqD_ok (by simp) (by simp)]; simp
theorem eqvs_nil_r (l : List D) : eqvs l [] = l.isEmpty := by cases l <;> simp
theorem neD_nil {l : List D} (h : shals 40 l = true) : neD (.lst l) (.lst []) = some (.bl (!l.isEmpty)) := by rw [neD_ok (by simpa using h) (by simp), eqvD_lst, eqvs_nil_r]
theorem shals_ints (n : Nat) (l : List Int) : shals (n + 1) (l.map D.int) = true := shals_all fun d hd => by obtain ⟨i, _, rfl⟩ := List.mem_map.mp hd; simp
theorem flats_ints (l : List Int) : flats (l.map D.int) = true := by
 induction l with
 | nil => simp
 | cons a r ih => simp [ih]
theorem cutD_from (l : List D) (k : Nat) : cutD l (some (k : Int)) none = l.drop k := by
 unfold cutD HT.sIx
 simp only [show ¬ ((k : Int) < 0) by omega, if_false, Int.toNat_natCast]
 rw [List.take_of_length_le (by rw [List.length_drop]; omega)]
 by_cases h : k ≤ l.length
 · rw [Nat.min_eq_left h]
 · rw [Nat.min_eq_right (by omega), List.drop_length, List.drop_of_length_le (by omega)]
theorem kits : kitF "int" "int" = some true ∧ kitF "NoneType" "int" = some false ∧ kitF "bool" "int" = some true ∧ kitF "tuple" "int" = some false ∧ kitF "list" "int" = some false ∧ kitF "str" "int" = some false ∧
  kitF "bool" "bool" = some true ∧ kitF "int" "bool" = some false ∧ kitF "NoneType" "bool" = some false ∧ kitF "tuple" "tuple" = some true ∧ kitF "list" "tuple" = some false ∧ kitF "NoneType" "tuple" = some false ∧
  kitF "list" "list" = some true ∧ kitF "tuple" "list" = some false ∧ kitF "NoneType" "list" = some false := by
 refine ⟨?_, ?_, ?_, ?_, ?_, ?_, ?_, ?_, ?_, ?_, ?_, ?_, ?_, ?_, ?_⟩ <;> decide +kernel
@[simp] theorem isi_int_int (i : Int) : isiD "int" (.int i) = some (.bl true) := by simp [isiD, tyD, kits.1]
@[simp] theorem isi_int_non : isiD "int" .non = some (.bl false) := by simp [isiD, tyD, kits.2.1]
@[simp] theorem isi_bool_int (i : Int) : isiD "bool" (.int i) = some (.bl false) := by simp [isiD, tyD, kits.2.2.2.2.2.2.2.1]
@[simp] theorem isi_bool_non : isiD "bool" .non = some (.bl false) := by simp [isiD, tyD, kits.2.2.2.2.2.2.2.2.1]
@[simp] theorem isi_tup_tup (l : List D) : isiD "tuple" (.tup l) = some (.bl true) := by simp [isiD, tyD, kits.2.2.2.2.2.2.2.2.2.1]
@[simp] theorem isi_lst_lst (l : List D) : isiD "list" (.lst l) = some (.bl true) := by simp [isiD, tyD, kits.2.2.2.2.2.2.2.2.2.2.2.2.1]
@[simp] theorem bind_ite {α β : Type} {c : Prop} [Decidable c] (a b : Option α) (f : α → Option β) : (if c then a else b).bind f = if c then a.bind f else b.bind f := by split <;> rfl
@[simp] theorem map_ite {α β : Type} {c : Prop} [Decidable c] (a b : Option α) (f : α → β) : (if c then a else b).map f = if c then a.map f else b.map f := by split <;> rfl
theorem loop_inv {ga : D → List Sl → Option (List Sl)} {body : FS} (P : List Sl → Prop) : ∀ (items : List D) (ds : List Sl), P ds →
  (∀ d ∈ items, ∀ ds, P ds → ∃ ds1 ds2, ga d ds = some ds1 ∧ (body ds1 = some (.nx ds2) ∨ body ds1 = some (.ct ds2)) ∧ P ds2) → ∃ ds', loopG ga body items ds = some (.nx ds') ∧ P ds'
 | [], ds, h, _ => ⟨ds, rfl, h⟩
 | d :: r, ds, h, H => by
   obtain ⟨ds1, ds2, e1, e2, h2⟩ := H d List.mem_cons_self ds h
   obtain ⟨ds', e3, h3⟩ := loop_inv P r ds2 h2 fun x hx => H x (List.mem_cons_of_mem _ hx)
   refine ⟨ds', ?_, h3⟩
   rcases e2 with e2 | e2 <;> simp only [loopG, e1, e2, Option.bind_some, e3]
theorem compG_ok {fi : FA} {mp : List (Option Nat)} {ga : D → List Sl → Option (List Sl)} {tt : FT} {fe : FE} {ds : List Sl} {items l : List D} (h : fi ds = some items) (hl : items.length ≤ sizeLine) (hc : compL ga tt fe (slotsD mp ds) items = some l) : compG fi mp ga tt fe ds = some l := by
 unfold compG
 rw [h]
 show (if items.length ≤ sizeLine then compL ga tt fe (slotsD mp ds) items else none) = _
 rw [if_pos hl]
 exact hc
theorem blsD_map : ∀ bs : List Bool, blsD (bs.map D.bl) = some bs
 | [] => rfl
 | b :: r => by simp [blsD, blsD_map r]
@[simp] theorem allD_bls (bs : List Bool) : allD [.lst (bs.map D.bl)] = some (.bl (bs.all id)) := by simp [allD, blsD_map]
@[simp] theorem ixL2 (a b c : D) (l : List D) : ixD (.lst (a :: b :: c :: l)) (.int 2) = some c := by
 rw [ixL_pos _ (by decide) (by rw [List.length_cons, List.length_cons, List.length_cons]; omega)]
 rfl
@[simp] theorem ixL3 (a b c d : D) (l : List D) : ixD (.lst (a :: b :: c :: d :: l)) (.int 3) = some d := by
 rw [ixL_pos _ (by decide) (by rw [List.length_cons, List.length_cons, List.length_cons, List.length_cons]; omega)]
 rfl
@[simp] theorem rng3_eq (fa fb fc : FE) (ds : List Sl) : rng3 fa fb fc ds = (fa ds).bind fun x => (fb ds).bind fun y => (fc ds).bind fun z => match x, y, z with
 | .int i, .int j, .int c => if okR3 i j c then some (range3D i c (steps3 i j c)) else none
 | _, _, _ => none := rfl
@[simp] theorem rng2_eq (fa fb : FE) (ds : List Sl) : rng2 fa fb ds = (fa ds).bind fun x => (fb ds).bind fun y => match x, y with
 | .int i, .int j => if okR i ∧ okR j then some (rangeD i (j - i).toNat) else none
 | _, _ => none := rfl
@[simp] theorem rng1_eq (f : FE) (ds : List Sl) : rng1 f ds = (f ds).bind fun d => match d with | .int j => if okR j then some (rangeD 0 j.toNat) else none | _ => none := rfl
theorem okR_small {j : Int} (h : -1000000000 ≤ j) (h2 : j ≤ 1000000000) : okR j := ⟨Int.le_trans (by decide) h, Int.lt_of_le_of_lt h2 (by decide)⟩
theorem intsD_map : ∀ bs : List Int, intsD (bs.map D.int) = some bs
 | [] => rfl
 | b :: r => by simp [intsD, intsD_map r]
@[simp] theorem absD_int (i : Int) : absD [.int i] = some (.int (if i < 0 then -i else i)) := rfl
@[simp] theorem int1D_int (i : Int) : int1D [.int i] = some (.int i) := rfl
@[simp] theorem int1D_bl (b : Bool) : int1D [.bl b] = some (.int (if b then 1 else 0)) := rfl
@[simp] theorem augA_eq (i : Nat) (f : FE) (ds : List Sl) : augA i f ds = (getV i ds).bind fun x => (f ds).bind fun y => match x, y with
 | .int a, .int b => some (.nx (ds.set i (.v (.int (a + b)))))
 | _, _ => none := rfl
@[simp] theorem parG_eq (i j : Nat) (f : FA) (ds : List Sl) : parG i j f ds = (f ds).bind fun l => match l with
 | [a, b] => some (.nx ((ds.set i (.v a)).set j (.v b)))
 | _ => none := rfl
@[simp] theorem revA_eq (f : FE) (ds : List Sl) : revA f ds = (f ds).bind fun d => match d with
 | .lst l => some l.reverse
 | _ => none := rfl
theorem mem_rangeD {d : D} {lo : Int} {n : Nat} (h : d ∈ rangeD lo n) : ∃ k : Nat, k < n ∧ d = .int (lo + (k : Int)) := by
 obtain ⟨k, hk, rfl⟩ := List.mem_map.mp h
 exact ⟨k, List.mem_range.mp hk, rfl⟩
theorem seq_nx {f g : FS} {ds ds' : List Sl} (h : f ds = some (.nx ds')) : seqG f g ds = g ds' := by simp [h]
theorem run_rt {g : FS} {n : Nat} {ds : List D} {r : Ret} (h : g (args n ds) = some (.rt r)) : runG g n ds = some r := by unfold runG; rw [h]
end FL
section
open PySem PyProof.Rows L2 FL
noncomputable def GP.ends_ahead.g : FS := (retG (andV (bin2 notD (getW 0) (konst .non)) (andV (bin2 notD (getW 1) (konst .non)) (bin2 leD (getW 0) (getW 1)))))
noncomputable def GP.ends_ahead.f : List D → Option Ret := runG GP.ends_ahead.g 2
noncomputable def GP.length.g : FS := (seqG (ifG (orT (testB (bin2 isD (bin2 ixD (getW 0) (konst (.int 0))) (konst .non))) (testB (bin2 isD (bin2 ixD (getW 0) (konst (.int 1))) (konst .non)))) (retG (konst .non)) nextG)
 (retG (bin2 subD (bin2 ixD (getW 0) (konst (.int 1))) (bin2 ixD (getW 0) (konst (.int 0))))))
noncomputable def GP.length.f : List D → Option Ret := runG GP.length.g 1
noncomputable def GP.later_low.g : FS := (seqG (ifG (testB (bin2 isD (getW 0) (konst .non))) (retG (getW 1)) nextG)
 (seqG (ifG (testB (bin2 isD (getW 1) (konst .non))) (retG (getW 0)) nextG)
 (retG (callB mxD (consA (getW 0) (consA (getW 1) nilA))))))
noncomputable def GP.later_low.f : List D → Option Ret := runG GP.later_low.g 2
noncomputable def GP.earlier_behind.g : FS := (seqG (ifG (testB (bin2 isD (getW 0) (konst .non))) (retG (getW 1)) nextG)
 (seqG (ifG (testB (bin2 isD (getW 1) (konst .non))) (retG (getW 0)) nextG)
 (retG (callB mnD (consA (getW 0) (consA (getW 1) nilA))))))
noncomputable def GP.earlier_behind.f : List D → Option Ret := runG GP.earlier_behind.g 2
noncomputable def GP.meet.g : FS := (seqG (setG 2 (callV 2 GP.later_low.f (consA (bin2 ixD (getW 0) (konst (.int 0))) (consA (bin2 ixD (getW 1) (konst (.int 0))) nilA))))
 (seqG (setG 3 (callV 2 GP.earlier_behind.f (consA (bin2 ixD (getW 0) (konst (.int 1))) (consA (bin2 ixD (getW 1) (konst (.int 1))) nilA))))
 (seqG (ifG (testT (callV 2 GP.ends_ahead.f (consA (getW 3) (consA (getW 2) nilA)))) (retG (konst .non)) nextG)
 (retG (mkT (sized (consA (getV 2) (consA (getV 3) nilA))))))))
noncomputable def GP.meet.f : List D → Option Ret := runG GP.meet.g 4
noncomputable def GP.knit.b1 : FS := (seqG (ifG (testB (bin2 isD (getW 4) (konst .non))) (fun ds => some (.ct ds)) nextG)
 (ifG (andT (testT (getW 1)) (andT (testB (bin2 eqD (bin2 ixD (bin2 ixD (getW 1) (un1 negD (konst (.int 1)))) (konst (.int 1))) (getW 2))) (testB (bin2 eqD (bin2 ixD (bin2 ixD (getW 1) (un1 negD (konst (.int 1)))) (konst (.int 2))) (getW 4))))) (putG 1 (un1 negD (konst (.int 1))) (mkT (sized (consA (bin2 ixD (bin2 ixD (getW 1) (un1 negD (konst (.int 1)))) (konst (.int 0))) (consA (getV 3) (consA (getV 4) nilA)))))) (appG 1 (mkT (sized (consA (getV 2) (consA (getV 3) (consA (getV 4) nilA))))))))
noncomputable def GP.knit.g : FS := (seqG (setOG 1 (sized nilA))
 (seqG (forG (viaA (getV 0) asLT) (tupG 3 (tgCons (nameG 2) (tgCons (nameG 3) (tgCons (nameG 4) tgNil)))) GP.knit.b1)
 (retXG 1)))
noncomputable def GP.knit.f : List D → Option Ret := runG GP.knit.g 5
noncomputable def GP.parts_in.b1 : FS := (seqG (setG 6 (callV 2 GP.meet.f (consA (mkT (sized (consA (getV 3) (consA (getV 4) nilA)))) (consA (getW 1) nilA))))
 (ifG (testB (bin2 notD (getW 6) (konst .non))) (appG 2 (mkT (sized (consA (bin2 ixD (getW 6) (konst (.int 0))) (consA (bin2 ixD (getW 6) (konst (.int 1))) (consA (getV 5) nilA)))))) nextG))
noncomputable def GP.parts_in.g : FS := (seqG (setOG 2 (sized nilA))
 (seqG (forG (viaA (getV 0) asLT) (tupG 3 (tgCons (nameG 3) (tgCons (nameG 4) (tgCons (nameG 5) tgNil)))) GP.parts_in.b1)
 (retXG 2)))
noncomputable def GP.parts_in.f : List D → Option Ret := runG GP.parts_in.g 7
noncomputable def GP.rows_over.g : FS := (seqG (setOG 3 (sized nilA))
 (seqG (ifG (testB (bin2 notD (bin2 ixD (getW 1) (konst (.int 0))) (konst .non))) (extG 3 (callF 2 GP.parts_in.f (consA (getW 0) (consA (mkT (sized (consA (konst .non) (consA (bin2 ixD (getW 1) (konst (.int 0))) nilA)))) nilA)))) nextG)
 (seqG (appG 3 (mkT (sized (consA (bin2 ixD (getW 1) (konst (.int 0))) (consA (bin2 ixD (getW 1) (konst (.int 1))) (consA (getV 2) nilA))))))
 (seqG (ifG (testB (bin2 notD (bin2 ixD (getW 1) (konst (.int 1))) (konst .non))) (extG 3 (callF 2 GP.parts_in.f (consA (getW 0) (consA (mkT (sized (consA (bin2 ixD (getW 1) (konst (.int 1))) (consA (konst .non) nilA)))) nilA)))) nextG)
 (retXG 3)))))
noncomputable def GP.rows_over.f : List D → Option Ret := runG GP.rows_over.g 4
noncomputable def GP.formed.b1 : FS := (setOG 1 (callF 1 GP.knit.f (consA (callV 3 GP.rows_over.f (consA (getW 1) (consA (getW 2) (consA (getW 3) nilA)))) nilA)))
noncomputable def GP.formed.g : FS := (seqG (setOG 1 (sized nilA))
 (seqG (forG (viaA (getV 0) asLT) (tupG 2 (tgCons (nameG 2) (tgCons (nameG 3) tgNil))) GP.formed.b1)
 (retXG 1)))
noncomputable def GP.formed.f : List D → Option Ret := runG GP.formed.g 4
noncomputable def GP.some_place.g : FS := (seqG (ifG (testB (bin2 notD (bin2 ixD (getW 0) (konst (.int 0))) (konst .non))) (retG (bin2 ixD (getW 0) (konst (.int 0)))) nextG)
 (seqG (ifG (testB (bin2 notD (bin2 ixD (getW 0) (konst (.int 1))) (konst .non))) (retG (bin2 subD (bin2 ixD (getW 0) (konst (.int 1))) (konst (.int 1)))) nextG)
 (retG (konst (.int 0)))))
noncomputable def GP.some_place.f : List D → Option Ret := runG GP.some_place.g 1
noncomputable def GP.put.g : FS := (retOG (callF 1 GP.knit.f (consA (callV 3 GP.rows_over.f (consA (getW 0) (consA (getW 1) (consA (getW 2) nilA)))) nilA)))
noncomputable def GP.put.f : List D → Option Ret := runG GP.put.g 3
noncomputable def GL.whole.g : FS := (retG (andV (isiG "int" (getW 0)) (notV (isiG "bool" (getW 0)))))
noncomputable def GL.whole.f : List D → Option Ret := runG GL.whole.g 1
noncomputable def GL.great.g : FS := (seqG (setG 1 (bin2 powD (bin2 powD (konst (.int 10)) (konst (.int 60))) (konst (.int 8))))
 (retG (bin2 subD (bin2 modD (getW 0) (bin2 addD (bin2 mulD (konst (.int 2)) (getW 1)) (konst (.int 1)))) (getW 1))))
noncomputable def GL.great.f : List D → Option Ret := runG GL.great.g 2
noncomputable def GL.is_map.b1 : FS := (seqG (ifG (orT (notT (testT (isiG "tuple" (bin2 ixD (getW 0) (getW 1))))) (orT (testB (bin2 neD (callB lenD (consA (bin2 ixD (getW 0) (getW 1)) nilA)) (konst (.int 3)))) (notT (testT (callV 1 GL.whole.f (consA (bin2 ixD (bin2 ixD (getW 0) (getW 1)) (konst (.int 2))) nilA)))))) (retG (konst (.bl false))) nextG)
 (seqG (asgG (tupG 3 (tgCons (nameG 2) (tgCons (nameG 3) (tgCons (nameG 4) tgNil)))) (bin2 ixD (getW 0) (getW 1)))
 (seqG (ifG (andT (notT (testT (callV 1 GL.whole.f (consA (getW 2) nilA)))) (orT (testB (bin2 notD (getW 2) (konst .non))) (testB (bin2 gtD (getW 1) (konst (.int 0)))))) (retG (konst (.bl false))) nextG)
 (seqG (ifG (andT (notT (testT (callV 1 GL.whole.f (consA (getW 3) nilA)))) (orT (testB (bin2 notD (getW 3) (konst .non))) (testB (bin2 ltD (getW 1) (bin2 subD (callB lenD (consA (getW 0) nilA)) (konst (.int 1))))))) (retG (konst (.bl false))) nextG)
 (seqG (ifG (andT (testB (bin2 notD (getW 2) (konst .non))) (andT (testB (bin2 notD (getW 3) (konst .non))) (testB (bin2 geD (getW 2) (getW 3))))) (retG (konst (.bl false))) nextG)
 (seqG (setG 5 (bin2 ixD (getW 0) (callB mxD (consA (bin2 subD (getW 1) (konst (.int 1))) (consA (konst (.int 0)) nilA)))))
 (ifG (andT (testB (bin2 gtD (getW 1) (konst (.int 0)))) (orT (testB (bin2 gtD (bin2 ixD (getW 5) (konst (.int 1))) (getW 2))) (testB (bin2 eqD (sltW (getW 5) (soP (konst (.int 1))) noP) (mkT (sized (consA (getV 2) (consA (getV 4) nilA)))))))) (retG (konst (.bl false))) nextG)))))))
noncomputable def GL.is_map.g : FS := (seqG (ifG (notT (testT (isiG "list" (getW 0)))) (retG (konst (.bl false))) nextG)
 (seqG (forG (rng1 (callB lenD (consA (getW 0) nilA))) (nameG 1) GL.is_map.b1)
 (retG (konst (.bl true)))))
noncomputable def GL.is_map.f : List D → Option Ret := runG GL.is_map.g 6
noncomputable def GL.values.b1 : FS := (setG 3 (bin2 addD (getW 3) (konst (.int 1))))
noncomputable def GL.values.b2 : FS := (seqG (whileN (andT (testB (bin2 ltD (getW 3) (callB lenD (consA (getW 0) nilA)))) (andT (testB (bin2 notD (bin2 ixD (bin2 ixD (getW 0) (getW 3)) (konst (.int 1))) (konst .non))) (testB (bin2 leD (bin2 ixD (bin2 ixD (getW 0) (getW 3)) (konst (.int 1))) (getW 4))))) GL.values.b1 100000)
 (ifG (andT (testB (bin2 ltD (getW 3) (callB lenD (consA (getW 0) nilA)))) (orT (testB (bin2 isD (bin2 ixD (bin2 ixD (getW 0) (getW 3)) (konst (.int 0))) (konst .non))) (testB (bin2 leD (bin2 ixD (bin2 ixD (getW 0) (getW 3)) (konst (.int 0))) (getW 4))))) (appG 2 (bin2 ixD (bin2 ixD (getW 0) (getW 3)) (konst (.int 2)))) (appG 2 (konst .non))))
noncomputable def GL.values.g : FS := (seqG (setOG 2 (sized nilA))
 (seqG (setG 3 (konst (.int 0)))
 (seqG (forG (viaA (getV 1) asLT) (nameG 4) GL.values.b2)
 (retXG 2))))
noncomputable def GL.values.f : List D → Option Ret := runG GL.values.g 5
noncomputable def GL.places2.b1 : FS := (ifG (testB (bin2 notD (getW 3) (konst .non))) (seqG (appG 2 (bin2 subD (getW 3) (konst (.int 1))))
 (appG 2 (getV 3))) nextG)
noncomputable def GL.places2.g : FS := (seqG (setOG 2 (sized (consA (konst (.int 0)) nilA)))
 (seqG (forG (viaA (mkL (catA (mkL (catA (getW 1) (mkL (compG (viaA (getV 0) asLT) [none] (nameG 0) (fun _ => some true) (bin2 ixD (getW 0) (konst (.int 0))))))) (mkL (compG (viaA (getV 0) asLT) [none] (nameG 0) (fun _ => some true) (bin2 ixD (getW 0) (konst (.int 1))))))) asLT) (nameG 3) GL.places2.b1)
 (retOG (srtSA (getW 2)))))
noncomputable def GL.places2.f : List D → Option Ret := runG GL.places2.g 4
end
namespace FL
open PySem PySem.Spec PyProof.Rows L2
abbrev Spn := Option Int × Option Int
noncomputable def spD (s : Spn) : D := .tup [oi s.1, oi s.2]
noncomputable def oS : Option Spn → D
 | none => .non
 | some s => spD s
noncomputable def hasS (s : Spn) (p : Int) : Bool := (match s.1 with | none => true | some a => decide (a ≤ p)) && (match s.2 with | none => true | some b => decide (p < b))
noncomputable def okS (s : Spn) : Prop := ∀ a b, s.1 = some a → s.2 = some b → a < b
@[simp] theorem spD_0 (s : Spn) : ixD (spD s) (.int 0) = some (oi s.1) := ixT0 _ _
@[simp] theorem spD_1 (s : Spn) : ixD (spD s) (.int 1) = some (oi s.2) := ixT1 _ _ _
@[simp] theorem spD_isD (s : Spn) : isD (spD s) .non = some (.bl false) := rfl
@[simp] theorem spD_notD (s : Spn) : notD (spD s) .non = some (.bl true) := rfl
@[simp] theorem spD_asLT (s : Spn) : asLT (spD s) = some [oi s.1, oi s.2] := rfl
@[simp] theorem oS_isD (o : Option Spn) : isD (oS o) .non = some (.bl o.isNone) := by cases o <;> rfl
@[simp] theorem oS_notD (o : Option Spn) : notD (oS o) .non = some (.bl o.isSome) := by cases o <;> rfl
theorem length_eq (s : Spn) : GP.length.f [spD s] = some (.val (oi (match s.1, s.2 with | some a, some b => some (b - a) | _, _ => none))) := by
 obtain ⟨a, b⟩ := s
 unfold GP.length.f runG GP.length.g
 cases a <;> cases b <;> simp [args]
noncomputable def lateL : Option Int → Option Int → Option Int
 | none, b => b
 | a, none => a
 | some a, some b => some (max a b)
noncomputable def earlB : Option Int → Option Int → Option Int
 | none, b => b
 | a, none => a
 | some a, some b => some (min a b)
noncomputable def aheadE : Option Int → Option Int → Bool
 | some b, some l => decide (b ≤ l)
 | _, _ => false
theorem lateL_eq (a b : Option Int) : GP.later_low.f [oi a, oi b] = some (.val (oi (lateL a b))) := by
 unfold GP.later_low.f runG GP.later_low.g
 cases a <;> cases b <;> simp [args, lateL]
theorem earlB_eq (a b : Option Int) : GP.earlier_behind.f [oi a, oi b] = some (.val (oi (earlB a b))) := by
 unfold GP.earlier_behind.f runG GP.earlier_behind.g
 cases a <;> cases b <;> simp [args, earlB]
theorem aheadE_eq (a b : Option Int) : GP.ends_ahead.f [oi a, oi b] = some (.val (.bl (aheadE a b))) := by
 unfold GP.ends_ahead.f runG GP.ends_ahead.g
 cases a <;> cases b <;> simp [args, aheadE]
noncomputable def meetS (s t : Spn) : Option Spn := if aheadE (earlB s.2 t.2) (lateL s.1 t.1) = true then none else some (lateL s.1 t.1, earlB s.2 t.2)
theorem meet_eq (s t : Spn) : GP.meet.f [spD s, spD t] = some (.val (oS (meetS s t))) := by
 unfold GP.meet.f runG GP.meet.g
 cases h : aheadE (earlB s.2 t.2) (lateL s.1 t.1) <;> simp [args, lateL_eq, earlB_eq, aheadE_eq, h, meetS, oS, spD]
noncomputable def HasS (s : Spn) (p : Int) : Prop := (∀ a, s.1 = some a → a ≤ p) ∧ (∀ b, s.2 = some b → p < b)
theorem hasS_iff (s : Spn) (p : Int) : hasS s p = true ↔ HasS s p := by
 obtain ⟨a, b⟩ := s
 cases a <;> cases b <;> simp [hasS, HasS]
theorem lateL_le {a c : Option Int} {p : Int} : (∀ x, lateL a c = some x → x ≤ p) ↔ (∀ x, a = some x → x ≤ p) ∧ (∀ x, c = some x → x ≤ p) := by
 cases a <;> cases c <;> simp [lateL]
 omega
theorem earlB_lt {a c : Option Int} {p : Int} : (∀ x, earlB a c = some x → p < x) ↔ (∀ x, a = some x → p < x) ∧ (∀ x, c = some x → p < x) := by
 cases a <;> cases c <;> simp [earlB]
 omega
theorem aheadE_no {b l : Option Int} {p : Int} (h : aheadE b l = true) (h1 : ∀ x, l = some x → x ≤ p) (h2 : ∀ x, b = some x → p < x) : False := by
 cases b <;> cases l <;> simp [aheadE] at h
 have := h1 _ rfl
 have := h2 _ rfl
 omega
noncomputable def hasO (o : Option Spn) (p : Int) : Bool := match o with
 | none => false
 | some u => hasS u p
theorem hasO_meet (s t : Spn) (p : Int) : hasO (meetS s t) p = (hasS s p && hasS t p) := by
 rw [Bool.eq_iff_iff, Bool.and_eq_true, hasS_iff, hasS_iff]
 unfold meetS
 by_cases h : aheadE (earlB s.2 t.2) (lateL s.1 t.1) = true
 · rw [if_pos h]
   refine ⟨fun z => by simp [hasO] at z, fun z => (aheadE_no h (lateL_le.mpr ⟨z.1.1, z.2.1⟩) (earlB_lt.mpr ⟨z.1.2, z.2.2⟩)).elim⟩
 · rw [if_neg h]
   show hasS _ p = true ↔ _
   rw [hasS_iff]
   show (∀ x, lateL s.1 t.1 = some x → x ≤ p) ∧ (∀ x, earlB s.2 t.2 = some x → p < x) ↔ _
   rw [lateL_le, earlB_lt]
   exact ⟨fun ⟨⟨a, b⟩, c, d⟩ => ⟨⟨a, c⟩, b, d⟩, fun ⟨⟨a, c⟩, b, d⟩ => ⟨⟨a, b⟩, c, d⟩⟩
theorem meetS_ok {s t u : Spn} (h : meetS s t = some u) : okS u := by
 unfold meetS at h
 split at h
 · cases h
 · rename_i hn
   cases h
   intro a b h1 h2
   simp only at h1 h2
   rw [h1, h2] at hn
   simp [aheadE] at hn
   omega
end FL
namespace FL
open PySem PySem.Spec PyProof.Rows L2
open Builtin.Int (intBits)
noncomputable def cel (ns : List Int) (k : Nat) : Int := ns.getD k 0
theorem bits_nat {a : Int} {m : Nat} (h : a.natAbs < 2 ^ m) : intBits a ≤ m := intBits_le_iff.mpr h
theorem pow1060 : powD (.int (10 ^ 60)) (.int 8) = some (.int ((10 ^ 60) ^ 8)) := powD_ok (cpow_of (n := 200) (m := 8) (by decide) (by decide) (by decide) (by decide))
@[simp] theorem eqS_put_put : eqD (.str "put") (.str "put") = some (.bl true) := by kernel_rfl
@[simp] theorem neS_put_put : neD (.str "put") (.str "put") = some (.bl false) := by kernel_rfl
@[simp] theorem eqS_put_widen : eqD (.str "put") (.str "widen") = some (.bl false) := by kernel_rfl
@[simp] theorem neS_put_widen : neD (.str "put") (.str "widen") = some (.bl true) := by kernel_rfl
@[simp] theorem eqS_put_narrow : eqD (.str "put") (.str "narrow") = some (.bl false) := by kernel_rfl
@[simp] theorem neS_put_narrow : neD (.str "put") (.str "narrow") = some (.bl true) := by kernel_rfl
@[simp] theorem eqS_put_move : eqD (.str "put") (.str "move") = some (.bl false) := by kernel_rfl
@[simp] theorem neS_put_move : neD (.str "put") (.str "move") = some (.bl true) := by kernel_rfl
@[simp] theorem eqS_put_stretch : eqD (.str "put") (.str "stretch") = some (.bl false) := by kernel_rfl
@[simp] theorem neS_put_stretch : neD (.str "put") (.str "stretch") = some (.bl true) := by kernel_rfl
@[simp] theorem eqS_put_mirror : eqD (.str "put") (.str "mirror") = some (.bl false) := by kernel_rfl
@[simp] theorem neS_put_mirror : neD (.str "put") (.str "mirror") = some (.bl true) := by kernel_rfl
@[simp] theorem eqS_widen_put : eqD (.str "widen") (.str "put") = some (.bl false) := by kernel_rfl
@[simp] theorem neS_widen_put : neD (.str "widen") (.str "put") = some (.bl true) := by kernel_rfl
@[simp] theorem eqS_widen_widen : eqD (.str "widen") (.str "widen") = some (.bl true) := by kernel_rfl
@[simp] theorem neS_widen_widen : neD (.str "widen") (.str "widen") = some (.bl false) := by kernel_rfl
@[simp] theorem eqS_widen_narrow : eqD (.str "widen") (.str "narrow") = some (.bl false) := by kernel_rfl
@[simp] theorem neS_widen_narrow : neD (.str "widen") (.str "narrow") = some (.bl true) := by kernel_rfl
@[simp] theorem eqS_widen_move : eqD (.str "widen") (.str "move") = some (.bl false) := by kernel_rfl
@[simp] theorem neS_widen_move : neD (.str "widen") (.str "move") = some (.bl true) := by kernel_rfl
@[simp] theorem eqS_widen_stretch : eqD (.str "widen") (.str "stretch") = some (.bl false) := by kernel_rfl
@[simp] theorem neS_widen_stretch : neD (.str "widen") (.str "stretch") = some (.bl true) := by kernel_rfl
@[simp] theorem eqS_widen_mirror : eqD (.str "widen") (.str "mirror") = some (.bl false) := by kernel_rfl
@[simp] theorem neS_widen_mirror : neD (.str "widen") (.str "mirror") = some (.bl true) := by kernel_rfl
@[simp] theorem eqS_narrow_put : eqD (.str "narrow") (.str "put") = some (.bl false) := by kernel_rfl
@[simp] theorem neS_narrow_put : neD (.str "narrow") (.str "put") = some (.bl true) := by kernel_rfl
@[simp] theorem eqS_narrow_widen : eqD (.str "narrow") (.str "widen") = some (.bl false) := by kernel_rfl
@[simp] theorem neS_narrow_widen : neD (.str "narrow") (.str "widen") = some (.bl true) := by kernel_rfl
@[simp] theorem eqS_narrow_narrow : eqD (.str "narrow") (.str "narrow") = some (.bl true) := by kernel_rfl
@[simp] theorem neS_narrow_narrow : neD (.str "narrow") (.str "narrow") = some (.bl false) := by kernel_rfl
@[simp] theorem eqS_narrow_move : eqD (.str "narrow") (.str "move") = some (.bl false) := by kernel_rfl
@[simp] theorem neS_narrow_move : neD (.str "narrow") (.str "move") = some (.bl true) := by kernel_rfl
@[simp] theorem eqS_narrow_stretch : eqD (.str "narrow") (.str "stretch") = some (.bl false) := by kernel_rfl
@[simp] theorem neS_narrow_stretch : neD (.str "narrow") (.str "stretch") = some (.bl true) := by kernel_rfl
@[simp] theorem eqS_narrow_mirror : eqD (.str "narrow") (.str "mirror") = some (.bl false) := by kernel_rfl
@[simp] theorem neS_narrow_mirror : neD (.str "narrow") (.str "mirror") = some (.bl true) := by kernel_rfl
@[simp] theorem eqS_move_put : eqD (.str "move") (.str "put") = some (.bl false) := by kernel_rfl
@[simp] theorem neS_move_put : neD (.str "move") (.str "put") = some (.bl true) := by kernel_rfl
@[simp] theorem eqS_move_widen : eqD (.str "move") (.str "widen") = some (.bl false) := by kernel_rfl
@[simp] theorem neS_move_widen : neD (.str "move") (.str "widen") = some (.bl true) := by kernel_rfl
@[simp] theorem eqS_move_narrow : eqD (.str "move") (.str "narrow") = some (.bl false) := by kernel_rfl
@[simp] theorem neS_move_narrow : neD (.str "move") (.str "narrow") = some (.bl true) := by kernel_rfl
@[simp] theorem eqS_move_move : eqD (.str "move") (.str "move") = some (.bl true) := by kernel_rfl
@[simp] theorem neS_move_move : neD (.str "move") (.str "move") = some (.bl false) := by kernel_rfl
@[simp] theorem eqS_move_stretch : eqD (.str "move") (.str "stretch") = some (.bl false) := by kernel_rfl
@[simp] theorem neS_move_stretch : neD (.str "move") (.str "stretch") = some (.bl true) := by kernel_rfl
@[simp] theorem eqS_move_mirror : eqD (.str "move") (.str "mirror") = some (.bl false) := by kernel_rfl
@[simp] theorem neS_move_mirror : neD (.str "move") (.str "mirror") = some (.bl true) := by kernel_rfl
@[simp] theorem eqS_stretch_put : eqD (.str "stretch") (.str "put") = some (.bl false) := by kernel_rfl
@[simp] theorem neS_stretch_put : neD (.str "stretch") (.str "put") = some (.bl true) := by kernel_rfl
@[simp] theorem eqS_stretch_widen : eqD (.str "stretch") (.str "widen") = some (.bl false) := by kernel_rfl
@[simp] theorem neS_stretch_widen : neD (.str "stretch") (.str "widen") = some (.bl true) := by kernel_rfl
@[simp] theorem eqS_stretch_narrow : eqD (.str "stretch") (.str "narrow") = some (.bl false) := by kernel_rfl
@[simp] theorem neS_stretch_narrow : neD (.str "stretch") (.str "narrow") = some (.bl true) := by kernel_rfl
@[simp] theorem eqS_stretch_move : eqD (.str "stretch") (.str "move") = some (.bl false) := by kernel_rfl
@[simp] theorem neS_stretch_move : neD (.str "stretch") (.str "move") = some (.bl true) := by kernel_rfl
@[simp] theorem eqS_stretch_stretch : eqD (.str "stretch") (.str "stretch") = some (.bl true) := by kernel_rfl
@[simp] theorem neS_stretch_stretch : neD (.str "stretch") (.str "stretch") = some (.bl false) := by kernel_rfl
@[simp] theorem eqS_stretch_mirror : eqD (.str "stretch") (.str "mirror") = some (.bl false) := by kernel_rfl
@[simp] theorem neS_stretch_mirror : neD (.str "stretch") (.str "mirror") = some (.bl true) := by kernel_rfl
@[simp] theorem eqS_mirror_put : eqD (.str "mirror") (.str "put") = some (.bl false) := by kernel_rfl
@[simp] theorem neS_mirror_put : neD (.str "mirror") (.str "put") = some (.bl true) := by kernel_rfl
@[simp] theorem eqS_mirror_widen : eqD (.str "mirror") (.str "widen") = some (.bl false) := by kernel_rfl
@[simp] theorem neS_mirror_widen : neD (.str "mirror") (.str "widen") = some (.bl true) := by kernel_rfl
@[simp] theorem eqS_mirror_narrow : eqD (.str "mirror") (.str "narrow") = some (.bl false) := by kernel_rfl
@[simp] theorem neS_mirror_narrow : neD (.str "mirror") (.str "narrow") = some (.bl true) := by kernel_rfl
@[simp] theorem eqS_mirror_move : eqD (.str "mirror") (.str "move") = some (.bl false) := by kernel_rfl
@[simp] theorem neS_mirror_move : neD (.str "mirror") (.str "move") = some (.bl true) := by kernel_rfl
@[simp] theorem eqS_mirror_stretch : eqD (.str "mirror") (.str "stretch") = some (.bl false) := by kernel_rfl
@[simp] theorem neS_mirror_stretch : neD (.str "mirror") (.str "stretch") = some (.bl true) := by kernel_rfl
@[simp] theorem eqS_mirror_mirror : eqD (.str "mirror") (.str "mirror") = some (.bl true) := by kernel_rfl
@[simp] theorem neS_mirror_mirror : neD (.str "mirror") (.str "mirror") = some (.bl false) := by kernel_rfl
@[simp] theorem fldG_eq (ix : List (Nat × Nat)) (f : FE) (ds : List Sl) : fldG ix f ds = (f ds).bind (fldD ix) := rfl
@[simp] theorem fldD_ins (ix : List (Nat × Nat)) (t : Nat) (es : List D) : fldD ix (.ins t es) = (ix.lookup t).bind fun i => es[i]? := rfl
@[simp] theorem methV_eq (n : Nat) (cs : List Nat) (F : Nat → List D → Option Ret) (fo : FE) (g : FA) (ds : List Sl) : methV n cs F fo g ds = (fo ds).bind fun o => (g ds).bind fun l => (methR n cs F o l).bind retV := rfl
@[simp] theorem methF_eq (n : Nat) (cs : List Nat) (F : Nat → List D → Option Ret) (fo : FE) (g : FA) (ds : List Sl) : methF n cs F fo g ds = (fo ds).bind fun o => (g ds).bind fun l => (methR n cs F o l).bind retF := rfl
@[simp] theorem makeG_eq (t n : Nat) (G : List D → Option (List D)) (g : FA) (ds : List Sl) : makeG t n G g ds = (g ds).bind fun l => if l.length = n ∧ flats l = true then (G l).map (D.ins t) else none := rfl
@[simp] theorem retDG_eq (f : FE) (ds : List Sl) : retDG f ds = (f ds).map fun d => .rt (.val d) := rfl
end FL
namespace FL
open PySem PySem.Spec PyProof.Rows L2
abbrev Rw := Option Int × Option Int × Option Int
noncomputable def rwD (r : Rw) : D := .tup [oi r.1, oi r.2.1, oi r.2.2]
noncomputable def has3 (r : Rw) (p : Int) : Bool := hasS (r.1, r.2.1) p
noncomputable def ok3 (r : Rw) : Prop := okS (r.1, r.2.1)
@[simp] theorem rwD_0 (r : Rw) : ixD (rwD r) (.int 0) = some (oi r.1) := ixT0 _ _
@[simp] theorem rwD_1 (r : Rw) : ixD (rwD r) (.int 1) = some (oi r.2.1) := ixT1 _ _ _
@[simp] theorem rwD_2 (r : Rw) : ixD (rwD r) (.int 2) = some (oi r.2.2) := ixT2 _ _ _ _
@[simp] theorem rwD_flat (r : Rw) : flat (rwD r) = true := by simp [rwD]
@[simp] theorem rwD_shal (r : Rw) (n : Nat) : shal (n + 1) (rwD r) = true := by simp [rwD]
@[simp] theorem rwD_isi (r : Rw) : isiD "tuple" (rwD r) = some (.bl true) := by simp [rwD]
@[simp] theorem rwD_len (r : Rw) : lenD [rwD r] = some (.int 3) := by simp [rwD]
@[simp] theorem rwD_tupG (h : List D → List Sl → Option (List Sl)) (r : Rw) (ds : List Sl) : tupG 3 h (rwD r) ds = h [oi r.1, oi r.2.1, oi r.2.2] ds := by simp [rwD]
@[simp] theorem rwD_eqv (r t : Rw) : eqvD (rwD r) (rwD t) = decide (r = t) := by
 obtain ⟨a, b, c⟩ := r
 obtain ⟨x, y, z⟩ := t
 rw [Bool.eq_iff_iff]
 simp [rwD]
theorem flats_rw (l : List Rw) : flats (l.map rwD) = true := by
 induction l with
 | nil => simp
 | cons a r ih => simp [ih]
theorem shals_rw (n : Nat) (l : List Rw) : shals (n + 2) (l.map rwD) = true := shals_all fun d hd => by obtain ⟨r, _, rfl⟩ := List.mem_map.mp hd; simp
theorem eqvs_rw : ∀ a b : List Rw, eqvs (a.map rwD) (b.map rwD) = decide (a = b)
 | [], [] => by simp
 | [], y :: b => by simp
 | x :: a, [] => by simp
 | x :: a, y :: b => by
   simp only [List.map_cons, eqvs_cons, rwD_eqv, eqvs_rw a b]
   rw [Bool.eq_iff_iff]
   simp
theorem eqD_rw (a b : List Rw) : eqD (.lst (a.map rwD)) (.lst (b.map rwD)) = some (.bl (decide (a = b))) := by rw [eqD_ok (by simpa using shals_rw 38 a) (by simpa using shals_rw 38 b), eqvD_lst, eqvs_rw]
theorem neD_rw (a b : List Rw) : neD (.lst (a.map rwD)) (.lst (b.map rwD)) = some (.bl (!decide (a = b))) := by rw [neD_ok (by simpa using shals_rw 38 a) (by simpa using shals_rw 38 b), eqvD_lst, eqvs_rw]
theorem neD_rw_nil (a : List Rw) : neD (.lst (a.map rwD)) (.lst []) = some (.bl (!a.isEmpty)) := by
 have := neD_rw a []
 simp only [List.map_nil] at this
 rw [this]
 cases a <;> simp
theorem ixN_last {n : Nat} (h : 0 < n) : ixN n (-1) = some (n - 1) := by
 unfold ixN
 rw [if_neg (by decide), if_pos (by omega)]
 congr 1
 omega
noncomputable def ahead (a b : Rw) : Prop := ∃ x y, a.2.1 = some x ∧ b.1 = some y ∧ x ≤ y
structure Ord (rows : List Rw) : Prop where
 ok : ∀ r ∈ rows, ok3 r
 pw : rows.Pairwise ahead
noncomputable def Tel (rows : List Rw) (p v : Int) : Prop := ∃ r ∈ rows, has3 r p = true ∧ r.2.2 = some v
noncomputable def knit1 (acc : List Rw) (r : Rw) : List Rw := match r.2.2 with
 | none => acc
 | some v => match acc with
   | [] => [r]
   | q :: t => if q.2.1 = r.1 ∧ q.2.2 = some v then (q.1, r.2.1, some v) :: t else r :: q :: t
noncomputable def knitF (rows : List Rw) : List Rw := (rows.foldl knit1 []).reverse
theorem knit_turn (acc : List Rw) (r : Rw) (R a b c : Sl) (hl : acc.length < 16777216) :
  GP.knit.b1 [R, .own (acc.map rwD).reverse, .v (oi r.1), .v (oi r.2.1), .v (oi r.2.2)] = some (.nx [R, .own ((knit1 acc r).map rwD).reverse, .v (oi r.1), .v (oi r.2.1), .v (oi r.2.2)]) ∨
  GP.knit.b1 [R, .own (acc.map rwD).reverse, .v (oi r.1), .v (oi r.2.1), .v (oi r.2.2)] = some (.ct [R, .own ((knit1 acc r).map rwD).reverse, .v (oi r.1), .v (oi r.2.1), .v (oi r.2.2)]) := by
 obtain ⟨lo, bh, v⟩ := r
 unfold GP.knit.b1
 cases v with
 | none => right; simp [knit1]
 | some v =>
   left
   cases acc with
   | nil =>
     have e : D.tup [oi lo, oi bh, .int v] = rwD (lo, bh, some v) := rfl
     simp [knit1, e]
   | cons q t =>
     have last : ixD (.lst ((t.map rwD).reverse ++ [rwD q])) (.int (-1)) = some (rwD q) := ixL_last _ _
     have le : ixN (t.length + 1) (-1) = some t.length := by rw [ixN_last (by omega)]; rfl
     have hl' : t.length + 1 < 16777216 := by simpa using hl
     have e2 : ∀ x : Option Int, eqD (oi x) (D.int v) = some (.bl (decide (x = some v))) := fun x => eqD_oi x (some v)
     by_cases h1 : q.2.1 = lo
     · by_cases h2 : q.2.2 = some v
       · have e : D.tup [oi q.1, oi bh, .int v] = rwD (q.1, bh, some v) := rfl
         simp [knit1, h1, h2, last, le, e2, e]
       · have e : D.tup [oi lo, oi bh, .int v] = rwD (lo, bh, some v) := rfl
         simp [knit1, h1, h2, last, le, e2, hl', e]
     · have e : D.tup [oi lo, oi bh, .int v] = rwD (lo, bh, some v) := rfl
       simp [knit1, h1, last, le, hl', e]
theorem knit1_len (acc : List Rw) (r : Rw) : (knit1 acc r).length ≤ acc.length + 1 := by
 unfold knit1
 split
 · omega
 · split
   · simp
   · split <;> simp
theorem knit_loop (R : Sl) : ∀ (rows acc : List Rw) (a b c : Sl), acc.length + rows.length < 16777216 →
  ∃ a' b' c', loopG (tupG 3 (tgCons (nameG 2) (tgCons (nameG 3) (tgCons (nameG 4) tgNil)))) GP.knit.b1 (rows.map rwD) [R, .own (acc.map rwD).reverse, a, b, c] = some (.nx [R, .own ((rows.foldl knit1 acc).map rwD).reverse, a', b', c'])
 | [], acc, a, b, c, _ => ⟨a, b, c, rfl⟩
 | r :: rows, acc, a, b, c, h => by
   simp only [List.length_cons] at h
   have hl := knit1_len acc r
   obtain ⟨a', b', c', ih⟩ := knit_loop R rows (knit1 acc r) (.v (oi r.1)) (.v (oi r.2.1)) (.v (oi r.2.2)) (by omega)
   refine ⟨a', b', c', ?_⟩
   rcases knit_turn acc r R a b c (by omega) with e | e <;> simp [loopG, e, ih]
theorem knit_eq (rows : List Rw) (h : rows.length < 16777216) : GP.knit.f [.lst (rows.map rwD)] = some (.fresh ((knitF rows).map rwD)) := by
 obtain ⟨a, b, c, e⟩ := knit_loop (.v (.lst (rows.map rwD))) rows [] .no .no .no (by simpa using h)
 simp only [List.reverse_nil, List.map_nil] at e
 unfold GP.knit.f runG GP.knit.g
 have fl := flats_rw (knitF rows)
 unfold knitF at fl ⊢
 rw [List.map_reverse] at fl ⊢
 simp [args, e, fl]
theorem knitF_len (rows : List Rw) : (knitF rows).length ≤ rows.length := by
 unfold knitF
 rw [List.length_reverse]
 have : ∀ (rows acc : List Rw), (rows.foldl knit1 acc).length ≤ acc.length + rows.length := by
  intro rows
  induction rows with
  | nil => intro acc; simp
  | cons r t ih =>
    intro acc
    have := ih (knit1 acc r)
    have := knit1_len acc r
    simp only [List.foldl_cons, List.length_cons]
    omega
 have := this rows []
 simpa using this
noncomputable def adjOk : List Rw → Prop
 | b :: a :: t => ¬ (a.2.1 = b.1 ∧ a.2.2 = b.2.2) ∧ adjOk (a :: t)
 | _ => True
structure KI (acc : List Rw) : Prop where
 ok : ∀ r ∈ acc, ok3 r
 pw : acc.Pairwise fun b a => ahead a b
 val : ∀ r ∈ acc, r.2.2 ≠ none
 adj : adjOk acc
theorem KI.nil : KI [] := ⟨(fun _ h => nomatch h), List.Pairwise.nil, (fun _ h => nomatch h), trivial⟩
theorem has3_iff (r : Rw) (p : Int) : has3 r p = true ↔ (∀ a, r.1 = some a → a ≤ p) ∧ (∀ b, r.2.1 = some b → p < b) := hasS_iff _ _
theorem knit1_step {acc : List Rw} {r : Rw} (k : KI acc) (ho : ok3 r) (ha : ∀ a ∈ acc, ahead a r) :
  KI (knit1 acc r) ∧ (∀ r', ahead r r' → (∀ a ∈ acc, ahead a r') → ∀ a ∈ knit1 acc r, ahead a r') ∧ ∀ p v, Tel (knit1 acc r) p v ↔ Tel acc p v ∨ (has3 r p = true ∧ r.2.2 = some v) := by
 obtain ⟨lo, bh, w⟩ := r
 cases w with
 | none =>
   refine ⟨k, fun r' _ h => h, fun p v => ⟨.inl, fun h => h.elim id fun z => by simp at z⟩⟩
 | some w =>
   cases acc with
   | nil =>
     refine ⟨⟨?_, ?_, ?_, trivial⟩, ?_, ?_⟩
     · intro x hx; simp [knit1] at hx; subst hx; exact ho
     · simp [knit1]
     · intro x hx; simp [knit1] at hx; subst hx; simp
     · intro r' h1 _ a h; simp [knit1] at h; subst h; exact h1
     · intro p v; simp [knit1, Tel]
   | cons q t =>
     obtain ⟨x, y, hx, hy, hxy⟩ := ha q List.mem_cons_self
     simp only at hy
     have pw := List.pairwise_cons.mp k.pw
     by_cases hm : q.2.1 = lo ∧ q.2.2 = some w
     · have e : knit1 (q :: t) (lo, bh, some w) = (q.1, bh, some w) :: t := by simp [knit1, hm.1, hm.2]
       rw [e]
       have exy : x = y := by
        have := hm.1
        rw [hx, hy] at this
        exact Option.some.inj this
       have hn : ∀ p, has3 (q.1, bh, some w) p = true ↔ has3 q p = true ∨ has3 (lo, bh, some w) p = true := by
        intro p
        rw [has3_iff, has3_iff, has3_iff]
        simp only
        constructor
        · rintro ⟨h1, h2⟩
          by_cases hp : p < x
          · exact .inl ⟨h1, fun b hb => by rw [hx] at hb; cases hb; exact hp⟩
          · exact .inr ⟨fun a h => by rw [hy] at h; cases h; omega, h2⟩
        · rintro (⟨h1, h2⟩ | ⟨h1, h2⟩)
          · refine ⟨h1, fun b hb => ?_⟩
            have := h2 x hx
            have := ho y b hy hb
            omega
          · refine ⟨fun a h => ?_, h2⟩
            have := k.ok q List.mem_cons_self a x h hx
            have := h1 y hy
            omega
       refine ⟨⟨?_, ?_, ?_, ?_⟩, ?_, ?_⟩
       · intro z hz
         rcases List.mem_cons.mp hz with rfl | hz
         · intro a b h1 h2
           have := k.ok q List.mem_cons_self a x h1 hx
           have := ho y b hy h2
           omega
         · exact k.ok z (List.mem_cons_of_mem _ hz)
       · refine List.pairwise_cons.mpr ⟨fun a h => ?_, pw.2⟩
         exact pw.1 a h
       · intro z hz
         rcases List.mem_cons.mp hz with rfl | hz
         · simp
         · exact k.val z (List.mem_cons_of_mem _ hz)
       · have ka := k.adj
         cases t with
         | nil => trivial
         | cons a t =>
           refine ⟨fun h => ka.1 ⟨h.1, ?_⟩, ka.2⟩
           rw [hm.2]
           exact h.2
       · intro r' h1 h2 a h
         rcases List.mem_cons.mp h with rfl | h
         · exact h1
         · exact h2 a (List.mem_cons_of_mem _ h)
       · intro p v
         constructor
         · rintro ⟨z, hz, h1, h2⟩
           rcases List.mem_cons.mp hz with rfl | hz
           · rcases (hn p).mp h1 with h3 | h3
             · exact .inl ⟨q, List.mem_cons_self, h3, hm.2.trans h2⟩
             · exact .inr ⟨h3, h2⟩
           · exact .inl ⟨z, List.mem_cons_of_mem _ hz, h1, h2⟩
         · rintro (⟨z, hz, h1, h2⟩ | ⟨h1, h2⟩)
           · rcases List.mem_cons.mp hz with rfl | hz
             · exact ⟨_, List.mem_cons_self, (hn p).mpr (.inl h1), by rw [hm.2] at h2; exact h2⟩
             · exact ⟨z, List.mem_cons_of_mem _ hz, h1, h2⟩
           · exact ⟨_, List.mem_cons_self, (hn p).mpr (.inr h1), h2⟩
     · have e : knit1 (q :: t) (lo, bh, some w) = (lo, bh, some w) :: q :: t := by simp only [knit1]; rw [if_neg hm]
       rw [e]
       refine ⟨⟨?_, List.pairwise_cons.mpr ⟨ha, k.pw⟩, ?_, hm, k.adj⟩, ?_, ?_⟩
       · intro z hz
         rcases List.mem_cons.mp hz with rfl | hz
         · exact ho
         · exact k.ok z hz
       · intro z hz
         rcases List.mem_cons.mp hz with rfl | hz
         · simp
         · exact k.val z hz
       · intro r' h1 h2 a h
         rcases List.mem_cons.mp h with rfl | h
         · exact h1
         · exact h2 a h
       · intro p v
         constructor
         · rintro ⟨z, hz, h1, h2⟩
           rcases List.mem_cons.mp hz with rfl | hz
           · exact .inr ⟨h1, h2⟩
           · exact .inl ⟨z, hz, h1, h2⟩
         · rintro (⟨z, hz, h1, h2⟩ | ⟨h1, h2⟩)
           · exact ⟨z, List.mem_cons_of_mem _ hz, h1, h2⟩
           · exact ⟨_, List.mem_cons_self, h1, h2⟩
theorem knit_fold : ∀ (rows acc : List Rw), KI acc → Ord rows → (∀ a ∈ acc, ∀ r ∈ rows, ahead a r) → KI (rows.foldl knit1 acc) ∧ ∀ p v, Tel (rows.foldl knit1 acc) p v ↔ Tel acc p v ∨ Tel rows p v
 | [], acc, k, _, _ => ⟨k, fun p v => ⟨.inl, fun h => h.elim id fun ⟨r, hr, _⟩ => nomatch hr⟩⟩
 | r :: rows, acc, k, o, h => by
   have pw := List.pairwise_cons.mp o.pw
   obtain ⟨k1, h1, t1⟩ := knit1_step k (o.ok r List.mem_cons_self) fun a ha => h a ha r List.mem_cons_self
   obtain ⟨k2, t2⟩ := knit_fold rows (knit1 acc r) k1 ⟨fun z hz => o.ok z (List.mem_cons_of_mem _ hz), pw.2⟩ fun a ha r' hr' => h1 r' (pw.1 r' hr') (fun b hb => h b hb r' (List.mem_cons_of_mem _ hr')) a ha
   refine ⟨k2, fun p v => ?_⟩
   show Tel (rows.foldl knit1 (knit1 acc r)) p v ↔ _
   rw [t2, t1]
   constructor
   · rintro ((h | ⟨h, e⟩) | ⟨z, hz, h⟩)
     · exact .inl h
     · exact .inr ⟨r, List.mem_cons_self, h, e⟩
     · exact .inr ⟨z, List.mem_cons_of_mem _ hz, h⟩
   · rintro (h' | ⟨z, hz, h'⟩)
     · exact .inl (.inl h')
     · rcases List.mem_cons.mp hz with rfl | hz
       · exact .inl (.inr h')
       · exact .inr ⟨z, hz, h'⟩
structure MapF (ps : List Rw) : Prop where
 ord : Ord ps
 val : ∀ r ∈ ps, r.2.2 ≠ none
 adj : ∀ (i : Nat) (a b : Rw), ps[i]? = some a → ps[i + 1]? = some b → ¬ (a.2.1 = b.1 ∧ a.2.2 = b.2.2)
theorem adjOk_get : ∀ {l : List Rw}, adjOk l → ∀ (i : Nat) (b a : Rw), l[i]? = some b → l[i + 1]? = some a → ¬ (a.2.1 = b.1 ∧ a.2.2 = b.2.2)
 | [], _, i, b, a, e, _ => by simp at e
 | [x], _, i, b, a, e, e2 => by simp at e2
 | x :: y :: t, h, 0, b, a, e, e2 => by
   simp at e e2
   subst e e2
   exact h.1
 | x :: y :: t, h, i + 1, b, a, e, e2 => adjOk_get h.2 i b a (by simpa using e) (by simpa using e2)
theorem KI.map {acc : List Rw} (k : KI acc) : MapF acc.reverse := by
 refine ⟨⟨fun r hr => k.ok r (List.mem_reverse.mp hr), List.pairwise_reverse.mpr k.pw⟩, fun r hr => k.val r (List.mem_reverse.mp hr), fun i a b h1 h2 => ?_⟩
 have l2 := (List.getElem?_eq_some_iff.mp h2).1
 rw [List.length_reverse] at l2
 rw [List.getElem?_reverse (by omega)] at h1 h2
 refine adjOk_get k.adj (acc.length - 1 - (i + 1)) b a h2 ?_
 rw [← h1]
 congr 1
 omega
theorem tel_reverse {l : List Rw} {p v : Int} : Tel l.reverse p v ↔ Tel l p v := ⟨fun ⟨r, h, q⟩ => ⟨r, List.mem_reverse.mp h, q⟩, fun ⟨r, h, q⟩ => ⟨r, List.mem_reverse.mpr h, q⟩⟩
theorem knitF_map {rows : List Rw} (o : Ord rows) : MapF (knitF rows) := (knit_fold rows [] KI.nil o (fun _ h => nomatch h)).1.map
theorem knitF_tel {rows : List Rw} (o : Ord rows) (p v : Int) : Tel (knitF rows) p v ↔ Tel rows p v := by
 unfold knitF
 rw [tel_reverse, (knit_fold rows [] KI.nil o (fun _ h => nomatch h)).2]
 exact ⟨fun h => h.elim (fun ⟨r, hr, _⟩ => nomatch hr) id, .inr⟩
noncomputable def valL (rows : List Rw) (p : Int) : Option Int := rows.foldl (fun t r => if has3 r p = true then r.2.2 else t) none
theorem ahead_no {a b : Rw} {p : Int} (h : ahead a b) (h1 : has3 a p = true) (h2 : has3 b p = true) : False := by
 obtain ⟨x, y, hx, hy, hxy⟩ := h
 rw [has3_iff] at h1 h2
 have := h1.2 x hx
 have := h2.1 y hy
 omega
theorem valL_none {rows : List Rw} {p : Int} (h : ∀ r ∈ rows, has3 r p = false) (t : Option Int) : rows.foldl (fun t r => if has3 r p = true then r.2.2 else t) t = t := by
 induction rows generalizing t with
 | nil => rfl
 | cons r rows ih =>
   rw [List.foldl_cons, h r List.mem_cons_self]
   exact ih (fun z hz => h z (List.mem_cons_of_mem _ hz)) _
theorem valL_tel {rows : List Rw} (o : Ord rows) (p v : Int) : valL rows p = some v ↔ Tel rows p v := by
 have key : ∀ (rows : List Rw), Ord rows → ∀ t : Option Int, rows.foldl (fun t r => if has3 r p = true then r.2.2 else t) t = (match rows.find? (fun r => has3 r p) with | some r => r.2.2 | none => t) := by
  intro rows
  induction rows with
  | nil => intro _ t; rfl
  | cons r rows ih =>
    intro o t
    have pw := List.pairwise_cons.mp o.pw
    rw [List.foldl_cons]
    cases h : has3 r p with
    | true =>
      rw [List.find?_cons_of_pos (by exact h)]
      simp only [if_true]
      exact valL_none (fun z hz => by
       cases hz' : has3 z p with
       | false => rfl
       | true => exact (ahead_no (pw.1 z hz) h hz').elim) _
    | false =>
      rw [List.find?_cons_of_neg (by simpa using h)]
      simp only [Bool.false_eq_true, if_false]
      exact ih ⟨fun z hz => o.ok z (List.mem_cons_of_mem _ hz), pw.2⟩ t
 unfold valL
 rw [key rows o none]
 constructor
 · intro h
   cases hf : rows.find? (fun r => has3 r p) with
   | none => rw [hf] at h; cases h
   | some r =>
     rw [hf] at h
     exact ⟨r, List.mem_of_find?_eq_some hf, by simpa using List.find?_some hf, h⟩
 · rintro ⟨r, hr, h1, h2⟩
   cases hf : rows.find? (fun r => has3 r p) with
   | none =>
     have := List.find?_eq_none.mp hf r hr
     exact (this h1).elim
   | some r' =>
     have h3 : has3 r' p = true := by simpa using List.find?_some hf
     have hm := List.mem_of_find?_eq_some hf
     have : r' = r := by
      by_cases e : r' = r
      · exact e
      · exfalso
        have pw := o.pw
        rcases List.mem_iff_getElem.mp hr with ⟨i, hi, rfl⟩
        rcases List.mem_iff_getElem.mp hm with ⟨j, hj, rfl⟩
        rcases Nat.lt_trichotomy i j with hlt | hlt | hlt
        · exact ahead_no (List.pairwise_iff_getElem.mp pw i j hi hj hlt) h1 h3
        · subst hlt; exact e rfl
        · exact ahead_no (List.pairwise_iff_getElem.mp pw j i hj hi hlt) h3 h1
     rw [this]
     exact h2
end FL
namespace FL
open PySem PySem.Spec PyProof.Rows L2
open Builtin.Int (intBits)
structure Drawn (rows : List Rw) (s : Int) : Prop where
 ord : Ord rows
 fin : ∀ r ∈ rows, ∃ lo bh, r.1 = some lo ∧ r.2.1 = some bh ∧ bh ≤ s
theorem Drawn.snoc {rows : List Rw} {s lo bh : Int} {v : Option Int} (h : Drawn rows s) (h1 : s ≤ lo) (h2 : lo < bh) : Drawn (rows ++ [(some lo, some bh, v)]) bh := by
 refine ⟨⟨fun r hr => ?_, ?_⟩, fun r hr => ?_⟩
 · rcases List.mem_append.mp hr with hr | hr
   · exact h.ord.ok r hr
   · have : r = (some lo, some bh, v) := by simpa using hr
     subst this
     intro a b e1 e2
     cases e1; cases e2; exact h2
 · refine List.pairwise_append.mpr ⟨h.ord.pw, List.pairwise_singleton _ _, fun a ha b hb => ?_⟩
   have : b = (some lo, some bh, v) := by simpa using hb
   subst this
   obtain ⟨x, y, e1, e2, e3⟩ := h.fin a ha
   exact ⟨y, lo, e2, rfl, by omega⟩
 · rcases List.mem_append.mp hr with hr | hr
   · obtain ⟨x, y, e1, e2, e3⟩ := h.fin r hr
     exact ⟨x, y, e1, e2, by omega⟩
   · have : r = (some lo, some bh, v) := by simpa using hr
     subst this
     exact ⟨lo, bh, rfl, rfl, Int.le_refl _⟩
theorem ints_at (ns : List Int) {k : Int} (h0 : 0 ≤ k) (h1 : k < ns.length) : ixD (.lst (ns.map D.int)) (.int k) = some (.int (cel ns k.toNat)) := by
 have h3 : k.toNat < ns.length := by omega
 rw [ixL_pos _ h0 (by simpa using h1)]
 simp [h3, cel, List.getD]
theorem whole_int (i : Int) : GL.whole.f [.int i] = some (.val (.bl true)) := by
 unfold GL.whole.f runG GL.whole.g
 simp [args]
@[simp] theorem methR_ins (n : Nat) (cs : List Nat) (F : Nat → List D → Option Ret) (t : Nat) (es l : List D) : methR n cs F (.ins t es) l = if t ∈ cs ∧ l.length = n then F t (.ins t es :: l) else none := rfl
end FL
namespace FL
open PySem PySem.Spec PyProof.Rows L2
noncomputable def part1 (s : Spn) (r : Rw) : Option Rw := (meetS (r.1, r.2.1) s).map fun u => (u.1, u.2, r.2.2)
noncomputable def partsF (ps : List Rw) (s : Spn) : List Rw := ps.filterMap (part1 s)
theorem parts_loop (R : Sl) (s : Spn) : ∀ (ps acc : List Rw) (a b c d : Sl), acc.length + ps.length < 16777216 → ∃ a' b' c' d', loopG (tupG 3 (tgCons (nameG 3) (tgCons (nameG 4) (tgCons (nameG 5) tgNil)))) GP.parts_in.b1 (ps.map rwD) [R, .v (spD s), .own (acc.map rwD), a, b, c, d] = some (.nx [R, .v (spD s), .own ((acc ++ partsF ps s).map rwD), a', b', c', d'])
 | [], acc, a, b, c, d, _ => ⟨a, b, c, d, by simp [partsF, loopG]⟩
 | r :: ps, acc, a, b, c, d, h => by
   simp only [List.length_cons] at h
   have me : GP.meet.f [.tup [oi r.1, oi r.2.1], spD s] = some (.val (oS (meetS (r.1, r.2.1) s))) := meet_eq (r.1, r.2.1) s
   cases hm : meetS (r.1, r.2.1) s with
   | none =>
     rw [hm] at me
     obtain ⟨a', b', c', d', ih⟩ := parts_loop R s ps acc (.v (oi r.1)) (.v (oi r.2.1)) (.v (oi r.2.2)) (.v .non) (by omega)
     refine ⟨a', b', c', d', ?_⟩
     have turn : GP.parts_in.b1 [R, .v (spD s), .own (acc.map rwD), .v (oi r.1), .v (oi r.2.1), .v (oi r.2.2), d] = some (.nx [R, .v (spD s), .own (acc.map rwD), .v (oi r.1), .v (oi r.2.1), .v (oi r.2.2), .v .non]) := by simp [GP.parts_in.b1, me, oS]
     have e : partsF (r :: ps) s = partsF ps s := by simp [partsF, part1, hm]
     rw [e]
     simp [loopG, turn, ih]
   | some u =>
     rw [hm] at me
     obtain ⟨a', b', c', d', ih⟩ := parts_loop R s ps (acc ++ [(u.1, u.2, r.2.2)]) (.v (oi r.1)) (.v (oi r.2.1)) (.v (oi r.2.2)) (.v (spD u)) (by simp; omega)
     refine ⟨a', b', c', d', ?_⟩
     have z : acc.length < 16777216 := by omega
     have e0 : D.tup [oi u.1, oi u.2, oi r.2.2] = rwD (u.1, u.2, r.2.2) := rfl
     have turn : GP.parts_in.b1 [R, .v (spD s), .own (acc.map rwD), .v (oi r.1), .v (oi r.2.1), .v (oi r.2.2), d] = some (.nx [R, .v (spD s), .own (acc.map rwD ++ [rwD (u.1, u.2, r.2.2)]), .v (oi r.1), .v (oi r.2.1), .v (oi r.2.2), .v (spD u)]) := by simp [GP.parts_in.b1, me, oS, z, e0]
     have e : partsF (r :: ps) s = (u.1, u.2, r.2.2) :: partsF ps s := by simp [partsF, part1, hm]
     rw [e]
     simp only [List.map_append, List.map_cons, List.map_nil, List.append_assoc, List.cons_append, List.nil_append] at ih ⊢
     simp [loopG, turn, ih]
theorem parts_len (ps : List Rw) (s : Spn) : (partsF ps s).length ≤ ps.length := List.length_filterMap_le _ _
theorem parts_eq (ps : List Rw) (s : Spn) (h : ps.length < 16777216) : GP.parts_in.f [.lst (ps.map rwD), spD s] = some (.fresh ((partsF ps s).map rwD)) := by
 obtain ⟨a, b, c, d, e⟩ := parts_loop (.v (.lst (ps.map rwD))) s ps [] .no .no .no .no (by simpa using h)
 simp only [List.map_nil, List.nil_append] at e
 unfold GP.parts_in.f runG GP.parts_in.g
 simp [args, e, flats_rw]
theorem part1_some {s : Spn} {r r' : Rw} (h : part1 s r = some r') : ok3 r' ∧ r'.2.2 = r.2.2 ∧ (∀ p, has3 r' p = (has3 r p && hasS s p)) ∧ (∀ x, r.2.1 = some x → ∃ x', r'.2.1 = some x' ∧ x' ≤ x) ∧ (∀ y, r.1 = some y → ∃ y', r'.1 = some y' ∧ y ≤ y') ∧ (∀ x, s.2 = some x → ∃ x', r'.2.1 = some x' ∧ x' ≤ x) ∧ (∀ y, s.1 = some y → ∃ y', r'.1 = some y' ∧ y ≤ y') := by
 unfold part1 at h
 cases hm : meetS (r.1, r.2.1) s with
 | none => rw [hm] at h; cases h
 | some u =>
   rw [hm] at h
   cases h
   have hp := fun p => hasO_meet (r.1, r.2.1) s p
   rw [hm] at hp
   refine ⟨meetS_ok hm, rfl, fun p => hp p, ?_, ?_, ?_, ?_⟩
   all_goals (unfold meetS at hm; split at hm; (· cases hm); cases hm)
   · intro x hx
     show ∃ x', earlB r.2.1 s.2 = some x' ∧ x' ≤ x
     rw [hx]
     cases s.2 <;> simp [earlB]
     omega
   · intro y hy
     show ∃ y', lateL r.1 s.1 = some y' ∧ y ≤ y'
     rw [hy]
     cases s.1 <;> simp [lateL]
     omega
   · intro x hx
     show ∃ x', earlB r.2.1 s.2 = some x' ∧ x' ≤ x
     rw [hx]
     cases r.2.1 <;> simp [earlB]
     omega
   · intro y hy
     show ∃ y', lateL r.1 s.1 = some y' ∧ y ≤ y'
     rw [hy]
     cases r.1 <;> simp [lateL]
     omega
theorem part1_none {s : Spn} {r : Rw} (h : part1 s r = none) (p : Int) : (has3 r p && hasS s p) = false := by
 unfold part1 at h
 have hp := hasO_meet (r.1, r.2.1) s p
 cases hm : meetS (r.1, r.2.1) s with
 | none => rw [hm] at hp; exact hp.symm
 | some u => rw [hm] at h; cases h
theorem mem_parts {ps : List Rw} {s : Spn} {r' : Rw} : r' ∈ partsF ps s ↔ ∃ r ∈ ps, part1 s r = some r' := List.mem_filterMap
theorem parts_ord {ps : List Rw} (o : Ord ps) (s : Spn) : Ord (partsF ps s) := by
 refine ⟨fun r' h => ?_, ?_⟩
 · obtain ⟨r, _, h⟩ := mem_parts.mp h
   exact (part1_some h).1
 · unfold partsF
   rw [List.pairwise_filterMap]
   refine o.pw.imp fun {a b} hab a' ha b' hb => ?_
   obtain ⟨x, y, hx, hy, hxy⟩ := hab
   obtain ⟨x', e1, h1⟩ := (part1_some ha).2.2.2.1 x hx
   obtain ⟨y', e2, h2⟩ := (part1_some hb).2.2.2.2.1 y hy
   exact ⟨x', y', e1, e2, by omega⟩
theorem parts_tel {ps : List Rw} {s : Spn} {p v : Int} : Tel (partsF ps s) p v ↔ hasS s p = true ∧ Tel ps p v := by
 constructor
 · rintro ⟨r', h, h1, h2⟩
   obtain ⟨r, hr, h⟩ := mem_parts.mp h
   obtain ⟨_, e, hh, _⟩ := part1_some h
   rw [hh p, Bool.and_eq_true] at h1
   exact ⟨h1.2, r, hr, h1.1, e ▸ h2⟩
 · rintro ⟨hs, r, hr, h1, h2⟩
   cases h : part1 s r with
   | none =>
     have := part1_none h p
     rw [h1, hs] at this
     cases this
   | some r' =>
     obtain ⟨_, e, hh, _⟩ := part1_some h
     exact ⟨r', mem_parts.mpr ⟨r, hr, h⟩, by rw [hh p, h1, hs]; rfl, e.trans h2⟩
noncomputable def loP (ps : List Rw) : Option Int → List Rw
 | none => []
 | some a => partsF ps (none, some a)
noncomputable def hiP (ps : List Rw) : Option Int → List Rw
 | none => []
 | some b => partsF ps (some b, none)
noncomputable def overF (ps : List Rw) (s : Spn) (v : Option Int) : List Rw := loP ps s.1 ++ (s.1, s.2, v) :: hiP ps s.2
theorem parts_two {ps : List Rw} (o : Ord ps) {a b : Int} (h : a < b) : (partsF ps (none, some a)).length + (partsF ps (some b, none)).length ≤ ps.length + 1 := by
 induction ps with
 | nil => simp [partsF]
 | cons r t ih =>
   have pw := List.pairwise_cons.mp o.pw
   have ot : Ord t := ⟨fun z hz => o.ok z (List.mem_cons_of_mem _ hz), pw.2⟩
   have ih := ih ot
   cases h1 : part1 (none, some a) r with
   | none =>
     have e1 : partsF (r :: t) (none, some a) = partsF t (none, some a) := by simp [partsF, h1]
     rw [e1]
     have : (partsF (r :: t) (some b, none)).length ≤ (partsF t (some b, none)).length + 1 := by
      unfold partsF
      rw [List.filterMap_cons]
      split <;> simp
     simp only [List.length_cons]
     omega
   | some r1 =>
     have e1 : partsF (r :: t) (none, some a) = r1 :: partsF t (none, some a) := by simp [partsF, h1]
     rw [e1]
     cases h2 : part1 (some b, none) r with
     | none =>
       have e2 : partsF (r :: t) (some b, none) = partsF t (some b, none) := by simp [partsF, h2]
       rw [e2]
       simp only [List.length_cons]
       omega
     | some r2 =>
       have e2 : partsF (r :: t) (some b, none) = r2 :: partsF t (some b, none) := by simp [partsF, h2]
       have e3 : partsF t (none, some a) = [] := by
        unfold partsF
        rw [List.filterMap_eq_nil_iff]
        intro z hz
        cases hz' : part1 (none, some a) z with
        | none => rfl
        | some z' =>
          exfalso
          obtain ⟨x, y, hx, hy, hxy⟩ := pw.1 z hz
          have k2 := part1_some h2
          have kz := part1_some hz'
          obtain ⟨x2, ex2, hx2⟩ := k2.2.2.2.1 x hx
          obtain ⟨y2, ey2, hy2⟩ := k2.2.2.2.2.2.2 b rfl
          have := k2.1 y2 x2 ey2 ex2
          obtain ⟨y3, ey3, hy3⟩ := kz.2.2.2.2.1 y hy
          obtain ⟨x3, ex3, hx3⟩ := kz.2.2.2.2.2.1 a rfl
          have := kz.1 y3 x3 ey3 ex3
          omega
       rw [e2, e3]
       have := parts_len t (some b, none)
       simp only [List.length_cons, List.length_nil]
       omega
theorem over_len {ps : List Rw} (o : Ord ps) (s : Spn) (hs : okS s) (v : Option Int) : (overF ps s v).length ≤ ps.length + 2 := by
 obtain ⟨lo, bh⟩ := s
 unfold overF loP hiP
 cases lo with
 | none =>
   cases bh with
   | none => simp
   | some b =>
     have := parts_len ps (some b, none)
     simp
     omega
 | some a =>
   cases bh with
   | none =>
     have := parts_len ps (none, some a)
     simp
     omega
   | some b =>
     have := parts_two o (hs a b rfl rfl)
     simp
     omega
theorem over_ord {ps : List Rw} (o : Ord ps) (s : Spn) (hs : okS s) (v : Option Int) : Ord (overF ps s v) := by
 obtain ⟨lo, bh⟩ := s
 unfold overF
 have l1 : ∀ r ∈ (loP ps lo), ok3 r ∧ ∃ a x, lo = some a ∧ r.2.1 = some x ∧ x ≤ a := by
  cases lo with
  | none => intro r h; cases h
  | some a =>
    intro r h
    obtain ⟨q, _, h⟩ := mem_parts.mp h
    obtain ⟨x, e, hx⟩ := (part1_some h).2.2.2.2.2.1 a rfl
    exact ⟨(part1_some h).1, a, x, rfl, e, hx⟩
 have l2 : ∀ r ∈ (hiP ps bh), ok3 r ∧ ∃ b y, bh = some b ∧ r.1 = some y ∧ b ≤ y := by
  cases bh with
  | none => intro r h; cases h
  | some b =>
    intro r h
    obtain ⟨q, _, h⟩ := mem_parts.mp h
    obtain ⟨y, e, hy⟩ := (part1_some h).2.2.2.2.2.2 b rfl
    exact ⟨(part1_some h).1, b, y, rfl, e, hy⟩
 have o1 : Ord (loP ps lo) := by
  cases lo with
  | none => exact ⟨(fun _ h => nomatch h), List.Pairwise.nil⟩
  | some a => exact parts_ord o _
 have o2 : Ord (hiP ps bh) := by
  cases bh with
  | none => exact ⟨(fun _ h => nomatch h), List.Pairwise.nil⟩
  | some b => exact parts_ord o _
 refine ⟨fun r h => ?_, ?_⟩
 · rcases List.mem_append.mp h with h | h
   · exact (l1 r h).1
   · rcases List.mem_cons.mp h with rfl | h
     · exact hs
     · exact (l2 r h).1
 · refine List.pairwise_append.mpr ⟨o1.pw, List.pairwise_cons.mpr ⟨fun r h => ?_, o2.pw⟩, fun a ha b hb => ?_⟩
   · obtain ⟨_, b, y, e, e2, hy⟩ := l2 r h
     exact ⟨b, y, e, e2, hy⟩
   · obtain ⟨_, x, x', e, e2, hx⟩ := l1 a ha
     rcases List.mem_cons.mp hb with rfl | hb
     · exact ⟨x', x, e2, e, hx⟩
     · obtain ⟨_, y, y', e3, e4, hy⟩ := l2 b hb
       have := hs x y e e3
       exact ⟨x', y', e2, e4, by omega⟩
theorem over_tel {ps : List Rw} (s : Spn) (hs : okS s) (v : Option Int) (p w : Int) : Tel (overF ps s v) p w ↔ if hasS s p = true then v = some w else Tel ps p w := by
 obtain ⟨lo, bh⟩ := s
 have h1 : Tel (loP ps lo) p w ↔ (∃ a, lo = some a ∧ p < a) ∧ Tel ps p w := by
  cases lo with
  | none => exact ⟨(fun ⟨r, h, _⟩ => nomatch h), (fun ⟨⟨a, e, _⟩, _⟩ => by cases e)⟩
  | some a =>
    show Tel (partsF ps (none, some a)) p w ↔ _
    rw [parts_tel]
    simp [hasS]
 have h2 : Tel (hiP ps bh) p w ↔ (∃ b, bh = some b ∧ b ≤ p) ∧ Tel ps p w := by
  cases bh with
  | none => exact ⟨(fun ⟨r, h, _⟩ => nomatch h), (fun ⟨⟨a, e, _⟩, _⟩ => by cases e)⟩
  | some b =>
    show Tel (partsF ps (some b, none)) p w ↔ _
    rw [parts_tel]
    simp [hasS]
 have h3 : Tel (overF ps (lo, bh) v) p w ↔ Tel (loP ps lo) p w ∨ (hasS (lo, bh) p = true ∧ v = some w) ∨ Tel (hiP ps bh) p w := by
  unfold overF
  constructor
  · rintro ⟨r, h, e1, e2⟩
    rcases List.mem_append.mp h with h | h
    · exact .inl ⟨r, h, e1, e2⟩
    · rcases List.mem_cons.mp h with rfl | h
      · exact .inr (.inl ⟨e1, e2⟩)
      · exact .inr (.inr ⟨r, h, e1, e2⟩)
  · rintro (⟨r, h, e1, e2⟩ | ⟨e1, e2⟩ | ⟨r, h, e1, e2⟩)
    · exact ⟨r, List.mem_append_left _ h, e1, e2⟩
    · exact ⟨_, List.mem_append_right _ List.mem_cons_self, e1, e2⟩
    · exact ⟨r, List.mem_append_right _ (List.mem_cons_of_mem _ h), e1, e2⟩
 rw [h3, h1, h2]
 by_cases hp : hasS (lo, bh) p = true
 · rw [if_pos hp]
   have hq := (hasS_iff _ _).mp hp
   constructor
   · rintro (⟨⟨a, e, hlt⟩, _⟩ | ⟨_, e⟩ | ⟨⟨b, e, hle⟩, _⟩)
     · have := hq.1 a e; omega
     · exact e
     · have := hq.2 b e; omega
   · exact fun e => .inr (.inl ⟨hp, e⟩)
 · rw [if_neg hp]
   constructor
   · rintro (⟨_, h⟩ | ⟨e, _⟩ | ⟨_, h⟩)
     · exact h
     · exact (hp e).elim
     · exact h
   · intro h
     by_cases hl : ∃ a, lo = some a ∧ p < a
     · exact .inl ⟨hl, h⟩
     · by_cases hb : ∃ b, bh = some b ∧ b ≤ p
       · exact .inr (.inr ⟨hb, h⟩)
       · exfalso
         apply hp
         rw [hasS_iff]
         refine ⟨fun a e => ?_, fun b e => ?_⟩
         · exact Int.not_lt.mp fun z => hl ⟨a, e, z⟩
         · exact Int.not_le.mp fun z => hb ⟨b, e, z⟩
theorem over_eq {ps : List Rw} (s : Spn) (v : Option Int) (h : ps.length ≤ 1000000) : GP.rows_over.f [.lst (ps.map rwD), spD s, oi v] = some (.fresh ((overF ps s v).map rwD)) := by
 obtain ⟨lo, bh⟩ := s
 have p1 : ∀ a : Int, GP.parts_in.f [.lst (ps.map rwD), .tup [.non, .int a]] = some (.fresh ((partsF ps (none, some a)).map rwD)) := fun a => parts_eq ps (none, some a) (by omega)
 have p2 : ∀ a : Int, GP.parts_in.f [.lst (ps.map rwD), .tup [.int a, .non]] = some (.fresh ((partsF ps (some a, none)).map rwD)) := fun a => parts_eq ps (some a, none) (by omega)
 have e0 : D.tup [oi lo, oi bh, oi v] = rwD (lo, bh, v) := rfl
 have fl := flats_rw (overF ps (lo, bh) v)
 unfold overF loP hiP at fl ⊢
 unfold GP.rows_over.f runG GP.rows_over.g
 cases lo with
 | none =>
   cases bh with
   | none => simp at fl e0; simp [args, e0]
   | some b =>
     have z := parts_len ps (some b, none)
     have z1 : 1 + (partsF ps (some b, none)).length ≤ 16777216 := by omega
     simp at fl e0
     simp [args, p2, e0, z1, fl]
 | some a =>
   have z := parts_len ps (none, some a)
   have z0 : (partsF ps (none, some a)).length ≤ 16777216 := by omega
   have z1 : (partsF ps (none, some a)).length < 16777216 := by omega
   cases bh with
   | none =>
     simp at fl e0
     simp [args, p1, e0, z0, z1, fl]
   | some b =>
     have z' := parts_len ps (some b, none)
     have z2 : (partsF ps (none, some a)).length + 1 + (partsF ps (some b, none)).length ≤ 16777216 := by omega
     simp at fl e0
     simp [args, p1, p2, e0, z0, z1, z2, fl]
abbrev Rv := Spn × Option Int
noncomputable def rvD (r : Rv) : D := .tup [spD r.1, oi r.2]
@[simp] theorem rvD_tupG (h : List D → List Sl → Option (List Sl)) (r : Rv) (ds : List Sl) : tupG 2 h (rvD r) ds = h [spD r.1, oi r.2] ds := by simp [rvD]
noncomputable def put1 (ps : List Rw) (r : Rv) : List Rw := knitF (overF ps r.1 r.2)
noncomputable def formedF (rows : List Rv) : List Rw := rows.foldl put1 []
theorem put1_map {ps : List Rw} (m : MapF ps) {r : Rv} (h : okS r.1) : MapF (put1 ps r) := knitF_map (over_ord m.ord r.1 h r.2)
theorem put1_len {ps : List Rw} (m : MapF ps) {r : Rv} (h : okS r.1) : (put1 ps r).length ≤ ps.length + 2 := Nat.le_trans (knitF_len _) (over_len m.ord r.1 h r.2)
theorem put1_tel {ps : List Rw} (m : MapF ps) {r : Rv} (h : okS r.1) (p w : Int) : Tel (put1 ps r) p w ↔ if hasS r.1 p = true then r.2 = some w else Tel ps p w := by
 unfold put1
 rw [knitF_tel (over_ord m.ord r.1 h r.2), over_tel r.1 h r.2]
theorem put1_eq {ps : List Rw} (m : MapF ps) (hl : ps.length ≤ 100000) {s : Spn} {v : Option Int} (h : okS s) : (GP.rows_over.f [.lst (ps.map rwD), spD s, oi v] = some (.fresh ((overF ps s v).map rwD))) ∧ GP.knit.f [.lst ((overF ps s v).map rwD)] = some (.fresh ((put1 ps (s, v)).map rwD)) :=
 ⟨over_eq s v (by omega), knit_eq _ (by have := over_len m.ord s h v; omega)⟩
theorem MapF.nil : MapF [] := ⟨⟨(fun _ h => nomatch h), List.Pairwise.nil⟩, (fun _ h => nomatch h), (fun i a b h _ => by simp at h)⟩
theorem formed_loop (R : Sl) : ∀ (rows : List Rv) (ps : List Rw) (a b : Sl), MapF ps → (∀ r ∈ rows, okS r.1) → ps.length + 2 * rows.length ≤ 100000 →
  (∃ a' b', loopG (tupG 2 (tgCons (nameG 2) (tgCons (nameG 3) tgNil))) GP.formed.b1 (rows.map rvD) [R, .own (ps.map rwD), a, b] = some (.nx [R, .own ((rows.foldl put1 ps).map rwD), a', b'])) ∧ MapF (rows.foldl put1 ps) ∧ (rows.foldl put1 ps).length ≤ ps.length + 2 * rows.length
 | [], ps, a, b, m, _, _ => ⟨⟨a, b, rfl⟩, m, by simp⟩
 | r :: rows, ps, a, b, m, hs, hl => by
   simp only [List.length_cons] at hl
   have hr := hs r List.mem_cons_self
   have z := put1_len m hr
   obtain ⟨⟨a', b', ih⟩, m', l'⟩ := formed_loop R rows (put1 ps r) (.v (spD r.1)) (.v (oi r.2)) (put1_map m hr) (fun x hx => hs x (List.mem_cons_of_mem _ hx)) (by omega)
   obtain ⟨e1, e2⟩ := put1_eq m (by omega) (s := r.1) (v := r.2) hr
   refine ⟨⟨a', b', ?_⟩, m', by simp only [List.foldl_cons, List.length_cons]; omega⟩
   have turn : GP.formed.b1 [R, .own (ps.map rwD), .v (spD r.1), .v (oi r.2)] = some (.nx [R, .own ((put1 ps r).map rwD), .v (spD r.1), .v (oi r.2)]) := by simp [GP.formed.b1, e1, e2]
   rw [List.foldl_cons]
   simp [loopG, turn, ih]
theorem formed_eq (rows : List Rv) (hs : ∀ r ∈ rows, okS r.1) (hl : rows.length ≤ 1000) : GP.formed.f [.lst (rows.map rvD)] = some (.fresh ((formedF rows).map rwD)) ∧ MapF (formedF rows) ∧ (formedF rows).length ≤ 2 * rows.length := by
 obtain ⟨⟨a, b, e⟩, m, l⟩ := formed_loop (.v (.lst (rows.map rvD))) rows [] .no .no MapF.nil hs (by simp; omega)
 refine ⟨?_, m, by unfold formedF; simpa using l⟩
 simp only [List.map_nil] at e
 have fl := flats_rw (formedF rows)
 unfold formedF at fl ⊢
 unfold GP.formed.f runG GP.formed.g
 simp [args, e, fl]
noncomputable def dueF (rows : List Rv) (p : Int) : Option Int := match rows.reverse.find? (fun r => hasS r.1 p) with
 | some r => r.2
 | none => none
theorem formed_tel (rows : List Rv) (hs : ∀ r ∈ rows, okS r.1) (p w : Int) : Tel (formedF rows) p w ↔ dueF rows p = some w := by
 have key : ∀ (rows : List Rv) (ps : List Rw), MapF ps → (∀ r ∈ rows, okS r.1) → (Tel (rows.foldl put1 ps) p w ↔ (match rows.reverse.find? (fun r => hasS r.1 p) with | some r => r.2 = some w | none => Tel ps p w)) := by
  intro rows
  induction rows with
  | nil => intro ps _ _; exact Iff.rfl
  | cons r rows ih =>
    intro ps m hs
    have hr := hs r List.mem_cons_self
    rw [List.foldl_cons, ih (put1 ps r) (put1_map m hr) fun x hx => hs x (List.mem_cons_of_mem _ hx)]
    rw [List.reverse_cons, List.find?_append]
    cases hf : rows.reverse.find? (fun r => hasS r.1 p) with
    | some q => simp
    | none =>
      rw [Option.none_or, put1_tel m hr]
      cases h : hasS r.1 p with
      | true => simp [h]
      | false => simp [h]
 unfold formedF
 rw [key rows [] MapF.nil hs]
 unfold dueF
 cases rows.reverse.find? (fun r => hasS r.1 p) with
 | some r => exact Iff.rfl
 | none => exact ⟨(fun ⟨r, h, _⟩ => nomatch h), (fun h => nomatch h)⟩
theorem valL_find {rows : List Rw} (o : Ord rows) (p : Int) : valL rows p = (match rows.find? (fun r => has3 r p) with | some r => r.2.2 | none => none) := by
 cases hf : rows.find? (fun r => has3 r p) with
 | none =>
   cases hv : valL rows p with
   | none => rfl
   | some v =>
     obtain ⟨r, hr, h1, _⟩ := (valL_tel o p v).mp hv
     exact (List.find?_eq_none.mp hf r hr h1).elim
 | some r =>
   have hm := List.mem_of_find?_eq_some hf
   have h3 : has3 r p = true := by simpa using List.find?_some hf
   cases hw : r.2.2 with
   | some v => exact ((valL_tel o p v).mpr ⟨r, hm, h3, hw⟩).trans hw.symm
   | none =>
     cases hv : valL rows p with
     | none => exact hw.symm
     | some v =>
       obtain ⟨r', hr', h1, h2⟩ := (valL_tel o p v).mp hv
       have : r' = r := by
        by_cases e : r' = r
        · exact e
        · exfalso
          rcases List.mem_iff_getElem.mp hr' with ⟨i, hi, rfl⟩
          rcases List.mem_iff_getElem.mp hm with ⟨j, hj, rfl⟩
          rcases Nat.lt_trichotomy i j with hlt | hlt | hlt
          · exact ahead_no (List.pairwise_iff_getElem.mp o.pw i j hi hj hlt) h1 h3
          · subst hlt; exact e rfl
          · exact ahead_no (List.pairwise_iff_getElem.mp o.pw j i hj hi hlt) h3 h1
       rw [this, hw] at h2
       cases h2
end FL
namespace FL
open PySem PySem.Spec PyProof.Rows L2
open Builtin.Int (intBits)
end FL
namespace FL
open PySem PySem.Spec PyProof.Rows L2
theorem compL_map {α : Type} {ga : D → List Sl → Option (List Sl)} {fe : FE} {s0 : List Sl} (f h : α → D) : ∀ (xs : List α), (∀ x ∈ xs, ∃ ds1, ga (f x) s0 = some ds1 ∧ fe ds1 = some (h x)) → compL ga (fun _ => some true) fe s0 (xs.map f) = some (xs.map h)
 | [], _ => rfl
 | x :: xs, H => by
   obtain ⟨ds1, e1, e2⟩ := H x List.mem_cons_self
   have ih := compL_map (ga := ga) (fe := fe) (s0 := s0) f h xs fun y hy => H y (List.mem_cons_of_mem _ hy)
   simp only [List.map_cons, compL, e1, e2, ih, Option.bind_some, if_true, Option.map_some]
theorem ix_rw {A : List Rw} {i : Nat} {a : Rw} (h : A[i]? = some a) : ixD (.lst (A.map rwD)) (.int (i : Int)) = some (rwD a) := by
 have hi := (List.getElem?_eq_some_iff.mp h).1
 rw [ixL_pos _ (by omega) (by simp; omega), Int.toNat_natCast, List.getElem?_map, h]
 rfl
theorem some_place_ex (s : Spn) (h : okS s) : ∃ p, hasS s p = true ∧ GP.some_place.f [spD s] = some (.val (.int p)) := by
 obtain ⟨a, b⟩ := s
 unfold GP.some_place.f runG GP.some_place.g
 cases a with
 | some x =>
   refine ⟨x, ?_, by simp [args]⟩
   cases b with
   | none => simp [hasS]
   | some y => have := h x y rfl rfl; simp [hasS, this]
 | none =>
   cases b with
   | some y => exact ⟨y - 1, by simp [hasS]; omega, by simp [args]⟩
   | none => exact ⟨0, by simp [hasS], by simp [args]⟩
theorem map_tail {r : Rw} {t : List Rw} (m : MapF (r :: t)) : MapF t :=
 ⟨⟨fun z hz => m.ord.ok z (List.mem_cons_of_mem _ hz), (List.pairwise_cons.mp m.ord.pw).2⟩, fun z hz => m.val z (List.mem_cons_of_mem _ hz), fun i a b h1 h2 => m.adj (i + 1) a b (by simpa using h1) (by simpa using h2)⟩
theorem has_place (r : Rw) (h : ok3 r) : ∃ p, has3 r p = true := by
 obtain ⟨p, hp, _⟩ := some_place_ex (r.1, r.2.1) h
 exact ⟨p, hp⟩
theorem later {r z : Rw} {t : List Rw} (o : Ord (r :: t)) (hz : z ∈ t) {p : Int} (hp : has3 z p = true) : ∃ x y, r.2.1 = some x ∧ z.1 = some y ∧ x ≤ y ∧ y ≤ p := by
 obtain ⟨x, y, h1, h2, h3⟩ := (List.pairwise_cons.mp o.pw).1 z hz
 refine ⟨x, y, h1, h2, h3, ?_⟩
 unfold has3 hasS at hp
 simp only [h2, Bool.and_eq_true, decide_eq_true_eq] at hp
 exact hp.1
theorem has3_iffB (r : Rw) (p : Int) : has3 r p = true ↔ (∀ x, r.1 = some x → x ≤ p) ∧ ∀ y, r.2.1 = some y → p < y := by
 obtain ⟨a, b, v⟩ := r
 unfold has3 hasS
 cases a <;> cases b <;> simp
theorem low_le {r s : Rw} {t u : List Rw} (m : MapF (r :: t)) (k : MapF (s :: u)) (h : ∀ p v, Tel (r :: t) p v → Tel (s :: u) p v) : ∀ b, s.1 = some b → ∃ a, r.1 = some a ∧ b ≤ a := by
 intro b hb
 obtain ⟨v, hv⟩ : ∃ v, r.2.2 = some v := by
  cases hv : r.2.2 with
  | none => exact (m.val r List.mem_cons_self hv).elim
  | some v => exact ⟨v, rfl⟩
 have ge : ∀ p, has3 r p = true → b ≤ p := by
  intro p hp
  obtain ⟨z, hz, hzp, _⟩ := h p v ⟨r, List.mem_cons_self, hp, hv⟩
  rcases List.mem_cons.mp hz with rfl | hz
  · exact ((has3_iffB _ p).mp hzp).1 b hb
  · obtain ⟨x, y, h1, h2, h3, h4⟩ := later k.ord hz hzp
    have := k.ord.ok s List.mem_cons_self b x hb h1
    omega
 cases ha : r.1 with
 | some a =>
   refine ⟨a, rfl, ge a ((has3_iffB r a).mpr ⟨fun x e => by rw [ha] at e; cases e; omega, fun y e => m.ord.ok r List.mem_cons_self a y ha e⟩)⟩
 | none =>
   exfalso
   cases hy : r.2.1 with
   | none =>
     have := ge (b - 1) ((has3_iffB r _).mpr ⟨(fun x e => by rw [ha] at e; cases e), fun y e => by rw [hy] at e; cases e⟩)
     omega
   | some y =>
     have := ge (min (b - 1) (y - 1)) ((has3_iffB r _).mpr ⟨(fun x e => by rw [ha] at e; cases e), fun y' e => by rw [hy] at e; cases e; omega⟩)
     omega
theorem beh_le {r s : Rw} {t u : List Rw} (m : MapF (r :: t)) (k : MapF (s :: u)) (h : ∀ p v, Tel (s :: u) p v → Tel (r :: t) p v) (hl : r.1 = s.1) (hv : r.2.2 = s.2.2) : ∀ x, r.2.1 = some x → ∃ y, s.2.1 = some y ∧ y ≤ x := by
 intro x hx
 obtain ⟨v, hv'⟩ : ∃ v, r.2.2 = some v := by
  cases hv : r.2.2 with
  | none => exact (m.val r List.mem_cons_self hv).elim
  | some v => exact ⟨v, rfl⟩
 have key : has3 s x = true → False := by
  intro hs
  obtain ⟨z, hz, hzp, hzv⟩ := h x v ⟨s, List.mem_cons_self, hs, by rw [← hv]; exact hv'⟩
  rcases List.mem_cons.mp hz with rfl | hz
  · have := ((has3_iffB _ x).mp hzp).2 x hx
    omega
  · cases t with
    | nil => cases hz
    | cons r' t' =>
      obtain ⟨x', y, h1, h2, h3, h4⟩ := later m.ord hz hzp
      rw [hx] at h1
      cases h1
      have hz' : z = r' := by
       rcases List.mem_cons.mp hz with rfl | hz
       · rfl
       · exfalso
         obtain ⟨x2, y2, k1, k2, k3, k4⟩ := later (map_tail m).ord hz hzp
         obtain ⟨x3, y3, j1, j2, j3⟩ := (List.pairwise_cons.mp m.ord.pw).1 r' List.mem_cons_self
         rw [hx] at j1
         cases j1
         have := (map_tail m).ord.ok r' List.mem_cons_self y3 x2 j2 k1
         omega
      subst hz'
      have : y = x := by omega
      subst this
      exact m.adj 0 r z rfl rfl ⟨by rw [hx, h2], by rw [hv', hzv]⟩
 have lowx : ∀ a, s.1 = some a → a ≤ x := by
  intro a ha
  have := m.ord.ok r List.mem_cons_self a x (by show r.1 = some a; rw [hl, ha]) hx
  omega
 cases hy : s.2.1 with
 | none => exact (key ((has3_iffB s x).mpr ⟨lowx, fun y e => by rw [hy] at e; cases e⟩)).elim
 | some y =>
   refine ⟨y, rfl, ?_⟩
   rcases Int.lt_or_le x y with hlt | hle
   · exact (key ((has3_iffB s x).mpr ⟨lowx, fun y' e => by rw [hy] at e; cases e; exact hlt⟩)).elim
   · exact hle
theorem map_one : ∀ {ps qs : List Rw}, MapF ps → MapF qs → (∀ p v, Tel ps p v ↔ Tel qs p v) → ps = qs
 | [], [], _, _, _ => rfl
 | [], s :: u, _, k, h => by
   obtain ⟨p, hp⟩ := has_place s (k.ord.ok s List.mem_cons_self)
   cases hv : s.2.2 with
   | none => exact (k.val s List.mem_cons_self hv).elim
   | some v =>
     obtain ⟨z, hz, _⟩ := (h p v).mpr ⟨s, List.mem_cons_self, hp, hv⟩
     cases hz
 | s :: u, [], k, _, h => by
   obtain ⟨p, hp⟩ := has_place s (k.ord.ok s List.mem_cons_self)
   cases hv : s.2.2 with
   | none => exact (k.val s List.mem_cons_self hv).elim
   | some v =>
     obtain ⟨z, hz, _⟩ := (h p v).mp ⟨s, List.mem_cons_self, hp, hv⟩
     cases hz
 | r :: t, s :: u, m, k, h => by
   have l1 := low_le m k fun p v => (h p v).mp
   have l2 := low_le k m fun p v => (h p v).mpr
   have hl : r.1 = s.1 := by
    cases h1 : r.1 with
    | none =>
      cases h2 : s.1 with
      | none => rfl
      | some b => obtain ⟨a, ha, _⟩ := l1 b h2; rw [h1] at ha; cases ha
    | some a =>
      obtain ⟨b, hb, hab⟩ := l2 a h1
      obtain ⟨a', ha', hba⟩ := l1 b hb
      rw [h1] at ha'
      cases ha'
      rw [hb]
      congr 1
      omega
   -- a place of both
   have hv : r.2.2 = s.2.2 := by
    obtain ⟨p, hp1, hp2⟩ : ∃ p, has3 r p = true ∧ has3 s p = true := by
     have okr := m.ord.ok r List.mem_cons_self
     have oks := k.ord.ok s List.mem_cons_self
     cases h1 : r.1 with
     | some a =>
       have h2 : s.1 = some a := by rw [← hl, h1]
       exact ⟨a, (has3_iffB r a).mpr ⟨fun x e => by rw [h1] at e; cases e; omega, fun y e => okr a y h1 e⟩, (has3_iffB s a).mpr ⟨fun x e => by rw [h2] at e; cases e; omega, fun y e => oks a y h2 e⟩⟩
     | none =>
       have h2 : s.1 = none := by rw [← hl, h1]
       have lowp : ∃ p : Int, (∀ y, r.2.1 = some y → p < y) ∧ ∀ y, s.2.1 = some y → p < y := by
        cases r.2.1 with
        | none =>
          cases s.2.1 with
          | none => exact ⟨0, (fun _ e => nomatch e), (fun _ e => nomatch e)⟩
          | some y => exact ⟨y - 1, (fun _ e => nomatch e), fun z e => by cases e; omega⟩
        | some x =>
          cases s.2.1 with
          | none => exact ⟨x - 1, fun z e => by cases e; omega, (fun _ e => nomatch e)⟩
          | some y => exact ⟨min x y - 1, fun z e => by cases e; omega, fun z e => by cases e; omega⟩
       obtain ⟨p, q1, q2⟩ := lowp
       exact ⟨p, (has3_iffB r p).mpr ⟨(fun x e => by rw [h1] at e; cases e), q1⟩, (has3_iffB s p).mpr ⟨(fun x e => by rw [h2] at e; cases e), q2⟩⟩
    cases hv : r.2.2 with
    | none => exact (m.val r List.mem_cons_self hv).elim
    | some v =>
      obtain ⟨z, hz, hzp, hzv⟩ := (h p v).mp ⟨r, List.mem_cons_self, hp1, hv⟩
      rcases List.mem_cons.mp hz with rfl | hz
      · exact hzv.symm
      · exfalso
        obtain ⟨x, y, e1, e2, e3, e4⟩ := later k.ord hz hzp
        have := ((has3_iffB s p).mp hp2).2 x e1
        omega
   have b1 := beh_le m k (fun p v => (h p v).mpr) hl hv
   have b2 := beh_le k m (fun p v => (h p v).mp) hl.symm hv.symm
   have hb : r.2.1 = s.2.1 := by
    cases h1 : r.2.1 with
    | none =>
      cases h2 : s.2.1 with
      | none => rfl
      | some y => obtain ⟨x, hx, _⟩ := b2 y h2; rw [h1] at hx; cases hx
    | some x =>
      obtain ⟨y, hy, hyx⟩ := b1 x h1
      obtain ⟨x', hx', hxy⟩ := b2 y hy
      rw [h1] at hx'
      cases hx'
      rw [hy]
      congr 1
      omega
   have hrs : r = s := by
    obtain ⟨a, b, c⟩ := r
    obtain ⟨a', b', c'⟩ := s
    simp only at hl hb hv
    rw [hl, hb, hv]
   subst hrs
   have tl : ∀ {t' : List Rw}, MapF (r :: t') → ∀ p v, Tel t' p v ↔ Tel (r :: t') p v ∧ ¬ has3 r p = true := by
    intro t' m' p v
    constructor
    · rintro ⟨z, hz, hzp, hzv⟩
      refine ⟨⟨z, List.mem_cons_of_mem _ hz, hzp, hzv⟩, fun hr => ?_⟩
      obtain ⟨x, y, e1, e2, e3, e4⟩ := later m'.ord hz hzp
      have := ((has3_iffB r p).mp hr).2 x e1
      omega
    · rintro ⟨⟨z, hz, hzp, hzv⟩, hr⟩
      rcases List.mem_cons.mp hz with rfl | hz
      · exact (hr hzp).elim
      · exact ⟨z, hz, hzp, hzv⟩
   rw [map_one (map_tail m) (map_tail k) fun p v => by rw [tl m, tl k, h]]
theorem put_eq {ps : List Rw} (m : MapF ps) (hl : ps.length ≤ 100000) {s : Spn} {v : Option Int} (h : okS s) : GP.put.f [.lst (ps.map rwD), spD s, oi v] = some (.fresh ((put1 ps (s, v)).map rwD)) := by
 obtain ⟨e1, e2⟩ := put1_eq m hl (v := v) h
 have fl := flats_rw (put1 ps (s, v))
 unfold GP.put.f runG GP.put.g
 generalize (overF ps s v).map rwD = A at *
 generalize (put1 ps (s, v)).map rwD = B at *
 simp [args, e1, e2, fl]
end FL
namespace FL
open PySem PySem.Spec PyProof.Rows L2
open Builtin.Int (intBits)
structure DrawM (rows : List Rw) (s : Int) : Prop where
 map : MapF rows
 fin : ∀ r ∈ rows, ∃ lo bh, r.1 = some lo ∧ r.2.1 = some bh ∧ bh ≤ s
 last : ∀ r, rows.getLast? = some r → r.2.1 = some s
theorem DrawM.nil (s : Int) : DrawM [] s := ⟨MapF.nil, (fun _ h => nomatch h), fun r h => by simp at h⟩
theorem DrawM.snoc {rows : List Rw} {s lo bh v : Int} (h : DrawM rows s) (h1 : s ≤ lo) (h2 : lo < bh) (h3 : ∀ r, rows.getLast? = some r → lo = s → r.2.2 ≠ some v) : DrawM (rows ++ [(some lo, some bh, some v)]) bh := by
 have d : Drawn rows s := ⟨h.map.ord, h.fin⟩
 have d2 := d.snoc (v := some v) h1 h2
 refine ⟨⟨d2.ord, fun r hr => ?_, fun i a b e1 e2 => ?_⟩, d2.fin, fun r hr => ?_⟩
 · rcases List.mem_append.mp hr with hr | hr
   · exact h.map.val r hr
   · have : r = (some lo, some bh, some v) := by simpa using hr
     subst this
     simp
 · by_cases hi : i + 1 < rows.length
   · rw [List.getElem?_append_left (by omega)] at e1
     rw [List.getElem?_append_left hi] at e2
     exact h.map.adj i a b e1 e2
   · have l2 := (List.getElem?_eq_some_iff.mp e2).1
     simp only [List.length_append, List.length_cons, List.length_nil] at l2
     have hi2 : i + 1 = rows.length := by omega
     rw [List.getElem?_append_left (by omega)] at e1
     rw [List.getElem?_append_right (by omega), hi2] at e2
     simp at e2
     subst e2
     have hl : rows.getLast? = some a := by
      rw [List.getLast?_eq_getElem?, ← e1]
      congr 1
      omega
     have := h.last a hl
     rintro ⟨q1, q2⟩
     rw [this] at q1
     simp at q1
     exact h3 a hl q1.symm q2
 · simp at hr
   subst hr
   rfl
@[simp] theorem notD_rw (r : Rw) : notD (rwD r) .non = some (.bl true) := rfl
end FL
section
open PySem PyProof.Rows L2 FL
end
namespace FL
open PySem PySem.Spec PyProof.Rows L2
open Builtin.Int (intBits)
theorem great_ex (c : Int) : ∃ v, GL.great.f [.int c] = some (.val (.int v)) := by
 have p1 : powD (.int 10) (.int 60) = some (.int (10 ^ 60)) := pow10 (by decide) (by decide)
 have p2 := pow1060
 have m1 : mulD (.int 2) (.int ((10 ^ 60) ^ 8)) = some (.int (2 * (10 ^ 60) ^ 8)) := mulD_ok (.of_left (bits_nat (by decide)))
 have r1 : modD (.int c) (.int (2 * (10 ^ 60) ^ 8 + 1)) = some (.int (c % (2 * (10 ^ 60) ^ 8 + 1))) := modD_pos c (by decide)
 unfold GL.great.f runG GL.great.g
 refine ⟨c % (2 * (10 ^ 60) ^ 8 + 1) - (10 ^ 60) ^ 8, ?_⟩
 simp [-Int.reducePow, -Nat.reducePow, args, p1, p2, m1, r1]
theorem two_ex (a b : Int) {r : Int} (h0 : 0 ≤ r) (h1 : r ≤ 1) : ∃ g : Int, (g = a ∨ g = b) ∧ ixD (.lst [.int a, .int b]) (.int r) = some (.int g) := by
 rcases (by omega : r = 0 ∨ r = 1) with e | e <;> subst e
 · exact ⟨a, .inl rfl, by simp⟩
 · exact ⟨b, .inr rfl, by simp⟩
theorem whole_oi (o : Option Int) : GL.whole.f [oi o] = some (.val (.bl o.isSome)) := by
 cases o with
 | some i => exact whole_int i
 | none =>
   unfold GL.whole.f runG GL.whole.g
   simp [args]
@[simp] theorem sltW_eq (f : FE) (lo hi : List Sl → Option (Option Int)) (ds : List Sl) : sltW f lo hi ds = (f ds).bind fun d => (lo ds).bind fun a => (hi ds).bind fun b => match d with
 | .tup l => some (.tup (cutD l a b))
 | _ => none := rfl
theorem cut13 (a b c : D) : cutD [a, b, c] (some 1) none = [b, c] := cutD_from [a, b, c] 1
theorem is_map_turn (ps : List Rw) (h : MapF ps) (k : Nat) (hk : k < ps.length) (b c d e : Sl) : ∃ b' c' d' e', GL.is_map.b1 [.v (.lst (ps.map rwD)), .v (.int (k : Int)), b, c, d, e] = some (.nx [.v (.lst (ps.map rwD)), .v (.int (k : Int)), b', c', d', e']) := by
 have hkm : k - 1 < ps.length := by omega
 have i1 : ixD (.lst (ps.map rwD)) (.int (k : Int)) = some (rwD ps[k]) := ix_rw (List.getElem?_eq_getElem hk)
 obtain ⟨v, hv⟩ : ∃ v, ps[k].2.2 = some v := by
  cases hv : ps[k].2.2 with
  | none => exact (h.val _ (List.getElem_mem hk) hv).elim
  | some v => exact ⟨v, rfl⟩
 have ok := h.ord.ok _ (List.getElem_mem hk)
 have hbh : ps[k].2.1 = none → ¬ ((k : Int) < (ps.length : Int) - 1) := by
  intro hn
  by_cases e : k + 1 < ps.length
  · obtain ⟨x, y, h1, _⟩ := List.pairwise_iff_getElem.mp h.ord.pw k (k + 1) hk e (by omega)
    rw [hn] at h1
    cases h1
  · omega
 have hlo : ps[k].1 = none → k = 0 := by
  intro hn
  by_cases e : 0 < k
  · obtain ⟨x, y, _, h1, _⟩ := List.pairwise_iff_getElem.mp h.ord.pw 0 k (by omega) hk e
    rw [hn] at h1
    cases h1
  · omega
 have hj : (max ((k : Int) - 1) 0) = ((k - 1 : Nat) : Int) := by omega
 have i2 : ixD (.lst (ps.map rwD)) (.int ((k - 1 : Nat) : Int)) = some (rwD (ps[k - 1]'hkm)) := ix_rw (List.getElem?_eq_getElem hkm)
 have adj : 0 < k → ∃ x y, (ps[k - 1]'hkm).2.1 = some x ∧ ps[k].1 = some y ∧ x ≤ y ∧ ¬ (x = y ∧ (ps[k - 1]'hkm).2.2 = ps[k].2.2) := by
  intro hk0
  obtain ⟨x, y, h1, h2, h3⟩ := List.pairwise_iff_getElem.mp h.ord.pw (k - 1) k hkm hk (by omega)
  refine ⟨x, y, h1, h2, h3, fun z => ?_⟩
  exact h.adj (k - 1) _ ps[k] (List.getElem?_eq_getElem hkm) (by rw [show k - 1 + 1 = k by omega]; exact List.getElem?_eq_getElem hk) ⟨by rw [h1, h2, z.1], z.2⟩
 generalize hR : ps[k] = r at *
 generalize hA : (ps[k - 1]'hkm) = a at *
 obtain ⟨lo, bh, w⟩ := r
 obtain ⟨alo, abh, aw⟩ := a
 simp only at hv hbh hlo adj
 subst hv
 refine ⟨.v (oi lo), .v (oi bh), .v (.int v), .v (rwD (alo, abh, aw)), ?_⟩
 unfold GL.is_map.b1
 have f1 : (ifG (orT (notT (testT (isiG "tuple" (bin2 ixD (getW 0) (getW 1))))) (orT (testB (bin2 neD (callB lenD (consA (bin2 ixD (getW 0) (getW 1)) nilA)) (konst (.int 3)))) (notT (testT (callV 1 GL.whole.f (consA (bin2 ixD (bin2 ixD (getW 0) (getW 1)) (konst (.int 2))) nilA)))))) (retG (konst (.bl false))) nextG) [.v (.lst (ps.map rwD)), .v (.int (k : Int)), b, c, d, e] = some (.nx [.v (.lst (ps.map rwD)), .v (.int (k : Int)), b, c, d, e]) := by
  simp [i1, whole_int]
 have f2 : (ifG (andT (notT (testT (callV 1 GL.whole.f (consA (getW 2) nilA)))) (orT (testB (bin2 notD (getW 2) (konst .non))) (testB (bin2 gtD (getW 1) (konst (.int 0)))))) (retG (konst (.bl false))) nextG) [.v (.lst (ps.map rwD)), .v (.int (k : Int)), .v (oi lo), .v (oi bh), .v (.int v), e] = some (.nx [.v (.lst (ps.map rwD)), .v (.int (k : Int)), .v (oi lo), .v (oi bh), .v (.int v), e]) := by
  have wl := whole_oi lo
  cases lo with
  | none =>
    have := hlo rfl
    subst this
    simp at wl
    simp [wl]
  | some x => simp at wl; simp [wl]
 have f3 : (ifG (andT (notT (testT (callV 1 GL.whole.f (consA (getW 3) nilA)))) (orT (testB (bin2 notD (getW 3) (konst .non))) (testB (bin2 ltD (getW 1) (bin2 subD (callB lenD (consA (getW 0) nilA)) (konst (.int 1))))))) (retG (konst (.bl false))) nextG) [.v (.lst (ps.map rwD)), .v (.int (k : Int)), .v (oi lo), .v (oi bh), .v (.int v), e] = some (.nx [.v (.lst (ps.map rwD)), .v (.int (k : Int)), .v (oi lo), .v (oi bh), .v (.int v), e]) := by
  have wl := whole_oi bh
  cases bh with
  | none =>
    have := hbh rfl
    simp at wl
    simp [wl, this]
  | some x => simp at wl; simp [wl]
 have f4 : (ifG (andT (testB (bin2 notD (getW 2) (konst .non))) (andT (testB (bin2 notD (getW 3) (konst .non))) (testB (bin2 geD (getW 2) (getW 3))))) (retG (konst (.bl false))) nextG) [.v (.lst (ps.map rwD)), .v (.int (k : Int)), .v (oi lo), .v (oi bh), .v (.int v), e] = some (.nx [.v (.lst (ps.map rwD)), .v (.int (k : Int)), .v (oi lo), .v (oi bh), .v (.int v), e]) := by
  cases lo with
  | none => simp
  | some x =>
    cases bh with
    | none => simp
    | some y =>
      have : ¬ y ≤ x := by have := ok x y rfl rfl; omega
      simp [this]
 have f5 : (ifG (andT (testB (bin2 gtD (getW 1) (konst (.int 0)))) (orT (testB (bin2 gtD (bin2 ixD (getW 5) (konst (.int 1))) (getW 2))) (testB (bin2 eqD (sltW (getW 5) (soP (konst (.int 1))) noP) (mkT (sized (consA (getV 2) (consA (getV 4) nilA)))))))) (retG (konst (.bl false))) nextG) [.v (.lst (ps.map rwD)), .v (.int (k : Int)), .v (oi lo), .v (oi bh), .v (.int v), .v (rwD (alo, abh, aw))] = some (.nx [.v (.lst (ps.map rwD)), .v (.int (k : Int)), .v (oi lo), .v (oi bh), .v (.int v), .v (rwD (alo, abh, aw))]) := by
  by_cases hk0 : 0 < k
  · obtain ⟨x, y, h1, h2, h3, h4⟩ := adj hk0
    subst h1 h2
    have g1 : ¬ y < x := by omega
    have eq : eqD (.tup [.int x, oi aw]) (.tup [.int y, .int v]) = some (.bl (decide (x = y ∧ aw = some v))) := by
     rw [eqD_ok (by simp) (by simp)]
     cases aw <;> simp
    have g2 : decide (x = y ∧ aw = some v) = false := by simpa using h4
    rw [g2] at eq
    simp only [rwD, oi_some]
    simp [hk0, g1, cut13, eq]
  · simp [hk0]
 rw [seq_nx f1, seq_nx (ds' := [.v (.lst (ps.map rwD)), .v (.int (k : Int)), .v (oi lo), .v (oi bh), .v (.int v), e]) (by simp [i1]), seq_nx f2, seq_nx f3, seq_nx f4,
  seq_nx (ds' := [.v (.lst (ps.map rwD)), .v (.int (k : Int)), .v (oi lo), .v (oi bh), .v (.int v), .v (rwD (alo, abh, aw))]) (by simp [hj, i2]), f5]
theorem is_map_eq (ps : List Rw) (h : MapF ps) (hl : ps.length ≤ 10000) : GL.is_map.f [.lst (ps.map rwD)] = some (.val (.bl true)) := by
 obtain ⟨ds', e1, a', b', c', d', e', rfl⟩ := loop_inv (ga := nameG 1) (body := GL.is_map.b1) (fun ds => ∃ a b c d e, ds = [.v (.lst (ps.map rwD)), a, b, c, d, e]) (rangeD 0 ps.length) [.v (.lst (ps.map rwD)), .no, .no, .no, .no, .no] ⟨_, _, _, _, _, rfl⟩ (by
  rintro _ hd _ ⟨a, b, c, d, e, rfl⟩
  obtain ⟨k, hk, rfl⟩ := mem_rangeD hd
  obtain ⟨b', c', d', e', ee⟩ := is_map_turn ps h k hk b c d e
  rw [show (0 + (k : Int)) = (k : Int) by omega]
  exact ⟨_, _, rfl, .inl ee, _, _, _, _, _, rfl⟩)
 have ok : okR (ps.length : Int) := okR_small (by omega) (by omega)
 unfold GL.is_map.f runG GL.is_map.g
 simp [args, ok, e1]
noncomputable def valC : FT := andT (testB (bin2 ltD (getW 3) (callB lenD (consA (getW 0) nilA)))) (andT (testB (bin2 notD (bin2 ixD (bin2 ixD (getW 0) (getW 3)) (konst (.int 1))) (konst .non))) (testB (bin2 leD (bin2 ixD (bin2 ixD (getW 0) (getW 3)) (konst (.int 1))) (getW 4))))
theorem valC_eq (ps : List Rw) (q : Int) (k : Nat) (R O : Sl) : valC [.v (.lst (ps.map rwD)), R, O, .v (.int (k : Int)), .v (.int q)] = some (match ps[k]? with | some r => (match r.2.1 with | some b => decide (b ≤ q) | none => false) | none => false) := by
 unfold valC
 by_cases hk : k < ps.length
 · have i1 : ixD (.lst (ps.map rwD)) (.int (k : Int)) = some (rwD ps[k]) := ix_rw (List.getElem?_eq_getElem hk)
   have hk' : (k : Int) < (ps.length : Int) := by omega
   rw [List.getElem?_eq_getElem hk]
   generalize ps[k] = r at *
   obtain ⟨a, b, c⟩ := r
   cases b <;> simp [i1, hk]
 · rw [List.getElem?_eq_none (by omega)]
   simp [hk]
theorem val_while (ps : List Rw) (q : Int) (R O : Sl) : ∀ (n k m : Nat), ps.length - k ≤ n → k ≤ ps.length → n < m → ∃ k', k ≤ k' ∧ k' ≤ ps.length ∧ (∀ i r, k ≤ i → i < k' → ps[i]? = some r → ∃ b, r.2.1 = some b ∧ b ≤ q) ∧ (∀ r b, ps[k']? = some r → r.2.1 = some b → q < b) ∧
  whileN valC GL.values.b1 m [.v (.lst (ps.map rwD)), R, O, .v (.int (k : Int)), .v (.int q)] = some (.nx [.v (.lst (ps.map rwD)), R, O, .v (.int (k' : Int)), .v (.int q)])
 | n, k, 0, h1, h2, h3 => by omega
 | n, k, m + 1, h1, h2, h3 => by
   have hc := valC_eq ps q k R O
   by_cases hk : ∃ r b, ps[k]? = some r ∧ r.2.1 = some b ∧ b ≤ q
   · obtain ⟨r, b, e1, e2, e3⟩ := hk
     rw [e1] at hc
     simp only [e2, e3, decide_true] at hc
     have hlt : k < ps.length := (List.getElem?_eq_some_iff.mp e1).1
     have hb : GL.values.b1 [.v (.lst (ps.map rwD)), R, O, .v (.int (k : Int)), .v (.int q)] = some (.nx [.v (.lst (ps.map rwD)), R, O, .v (.int ((k + 1 : Nat) : Int)), .v (.int q)]) := by
      unfold GL.values.b1
      simp
     obtain ⟨k', g1, g2, g3, g4, g5⟩ := val_while ps q R O (n - 1) (k + 1) m (by omega) (by omega) (by omega)
     refine ⟨k', by omega, g2, fun i r' i1 i2 e => ?_, g4, ?_⟩
     · by_cases hi : i = k
       · subst hi
         rw [e1] at e
         cases e
         exact ⟨b, e2, e3⟩
       · exact g3 i r' (by omega) i2 e
     · rw [whileN, hc]
       simp only [Option.bind_some, if_true, hb]
       exact g5
   · refine ⟨k, Nat.le_refl _, h2, fun i r i1 i2 => by omega, fun r b e1 e2 => ?_, ?_⟩
     · have : ¬ b ≤ q := fun z => hk ⟨r, b, e1, e2, z⟩
       omega
     · have : (match ps[k]? with | some r => (match r.2.1 with | some b => decide (b ≤ q) | none => false) | none => false) = false := by
        cases e1 : ps[k]? with
        | none => rfl
        | some r =>
          cases e2 : r.2.1 with
          | none => simp [e2]
          | some b =>
            have : ¬ b ≤ q := fun z => hk ⟨r, b, e1, e2, z⟩
            simp [e2, this]
       rw [whileN, hc, this]
       simp
theorem val_at {ps : List Rw} (o : Ord ps) {q : Int} {k : Nat} (h1 : ∀ i r, i < k → ps[i]? = some r → ∃ b, r.2.1 = some b ∧ b ≤ q) (h2 : ∀ r b, ps[k]? = some r → r.2.1 = some b → q < b) :
  valL ps q = match ps[k]? with | some r => (match r.1 with | some a => if a ≤ q then r.2.2 else none | none => r.2.2) | none => none := by
 rw [valL_find o]
 have no1 : ∀ i r, i < k → ps[i]? = some r → has3 r q = false := fun i r hi e => by
  obtain ⟨b, e1, e2⟩ := h1 i r hi e
  cases hh : has3 r q with
  | false => rfl
  | true => have := ((has3_iff r q).mp hh).2 b e1; omega
 have take : ∀ r, r ∈ ps.take k → has3 r q = false := fun r hr => by
  obtain ⟨i, hi, e⟩ := List.getElem_of_mem hr
  have hik : i < k := by rw [List.length_take] at hi; omega
  refine no1 i r hik ?_
  rw [← List.getElem?_take_of_lt hik, List.getElem?_eq_getElem hi, e]
 have split : ps.find? (fun r => has3 r q) = (ps.drop k).find? (fun r => has3 r q) := by
  conv => lhs; rw [← List.take_append_drop k ps]
  rw [List.find?_append]
  have : (ps.take k).find? (fun r => has3 r q) = none := List.find?_eq_none.mpr fun r hr => by rw [take r hr]; simp
  rw [this]; rfl
 rw [split]
 by_cases hk : k < ps.length
 · rw [List.drop_eq_getElem_cons hk, List.getElem?_eq_getElem hk]
   by_cases hh : has3 ps[k] q = true
   · rw [List.find?_cons_of_pos (p := fun r => has3 r q) hh]
     have := ((has3_iff ps[k] q).mp hh).1
     cases ha : ps[k].1 with
     | none => simp [ha]
     | some a => have := this a ha; simp [ha, this]
   · rw [List.find?_cons_of_neg (p := fun r => has3 r q) hh]
     have rest : (ps.drop (k + 1)).find? (fun r => has3 r q) = none := by
      refine List.find?_eq_none.mpr fun r hr => ?_
      obtain ⟨i, hi, e⟩ := List.getElem_of_mem hr
      rw [List.length_drop] at hi
      have e' : ps[k + 1 + i]'(by omega) = r := by rw [← e, List.getElem_drop]
      obtain ⟨x, y, g1, g2, g3⟩ := List.pairwise_iff_getElem.mp o.pw k (k + 1 + i) hk (by omega) (by omega)
      rw [e'] at g2
      have hxq := h2 ps[k] x (List.getElem?_eq_getElem hk) g1
      intro z
      have := ((has3_iff r q).mp z).1 y g2
      omega
     rw [rest]
     cases ha : ps[k].1 with
     | none =>
       exfalso
       refine hh ((has3_iff _ q).mpr ⟨(fun a e => by rw [ha] at e; cases e), (fun b e => h2 ps[k] b (List.getElem?_eq_getElem hk) e)⟩)
     | some a =>
       have : ¬ a ≤ q := fun z => hh ((has3_iff _ q).mpr ⟨(fun a' e => by rw [ha] at e; cases e; exact z), (fun b e => h2 ps[k] b (List.getElem?_eq_getElem hk) e)⟩)
       simp [ha, this]
 · rw [List.drop_of_length_le (by omega), List.getElem?_eq_none (by omega)]
   rfl
theorem val_turn {ps : List Rw} (o : Ord ps) (hl : ps.length ≤ 10000) (R : Sl) (acc : List D) (k : Nat) (q : Int) (hz : acc.length < 16777216) (hk : k ≤ ps.length) (h1 : ∀ i r, i < k → ps[i]? = some r → ∃ b, r.2.1 = some b ∧ b ≤ q) :
  ∃ k', k' ≤ ps.length ∧ (∀ i r, i < k' → ps[i]? = some r → ∃ b, r.2.1 = some b ∧ b ≤ q) ∧
   GL.values.b2 [.v (.lst (ps.map rwD)), R, .own acc, .v (.int (k : Int)), .v (.int q)] = some (.nx [.v (.lst (ps.map rwD)), R, .own (acc ++ [oi (valL ps q)]), .v (.int (k' : Int)), .v (.int q)]) := by
 obtain ⟨k', g1, g2, g3, g4, g5⟩ := val_while ps q R (.own acc) ps.length k 100000 (by omega) hk (by omega)
 have h1' : ∀ i r, i < k' → ps[i]? = some r → ∃ b, r.2.1 = some b ∧ b ≤ q := fun i r hi e => by
  by_cases hik : i < k
  · exact h1 i r hik e
  · exact g3 i r (by omega) hi e
 refine ⟨k', g2, h1', ?_⟩
 have hv := val_at o h1' g4
 unfold GL.values.b2
 have g5' : whileN (andT (testB (bin2 ltD (getW 3) (callB lenD (consA (getW 0) nilA)))) (andT (testB (bin2 notD (bin2 ixD (bin2 ixD (getW 0) (getW 3)) (konst (.int 1))) (konst .non))) (testB (bin2 leD (bin2 ixD (bin2 ixD (getW 0) (getW 3)) (konst (.int 1))) (getW 4))))) GL.values.b1 100000 [.v (.lst (ps.map rwD)), R, .own acc, .v (.int (k : Int)), .v (.int q)] = some (.nx [.v (.lst (ps.map rwD)), R, .own acc, .v (.int (k' : Int)), .v (.int q)]) := g5
 rw [seq_nx g5', hv]
 by_cases hk' : k' < ps.length
 · have i1 : ixD (.lst (ps.map rwD)) (.int (k' : Int)) = some (rwD ps[k']) := ix_rw (List.getElem?_eq_getElem hk')
   rw [List.getElem?_eq_getElem hk']
   generalize ps[k'] = r at *
   obtain ⟨a, b, c⟩ := r
   cases a with
   | none => simp [i1, hk', hz]
   | some a =>
     by_cases ha : a ≤ q
     · simp [i1, hk', ha, hz]
     · simp [i1, hk', ha, hz]
 · rw [List.getElem?_eq_none (by omega)]
   simp [hk', hz]
theorem val_loop {ps : List Rw} (o : Ord ps) (hl : ps.length ≤ 10000) (R : Sl) : ∀ (qs : List Int) (acc : List D) (k : Nat) (x : Sl), qs.Pairwise (· < ·) → acc.length + qs.length < 16777216 → k ≤ ps.length → (∀ q ∈ qs, ∀ i r, i < k → ps[i]? = some r → ∃ b, r.2.1 = some b ∧ b ≤ q) →
  ∃ k' x', loopG (nameG 4) GL.values.b2 (qs.map D.int) [.v (.lst (ps.map rwD)), R, .own acc, .v (.int (k : Int)), x] = some (.nx [.v (.lst (ps.map rwD)), R, .own (acc ++ qs.map fun q => oi (valL ps q)), .v (.int (k' : Nat)), x'])
 | [], acc, k, x, _, _, _, _ => ⟨k, x, by simp [loopG]⟩
 | q :: qs, acc, k, x, hp, hz, hk, h => by
   obtain ⟨p1, p2⟩ := List.pairwise_cons.mp hp
   simp only [List.length_cons] at hz
   obtain ⟨k1, g1, g2, g3⟩ := val_turn o hl R acc k q (by omega) hk (h q (.head _))
   obtain ⟨k', x', e⟩ := val_loop o hl R qs (acc ++ [oi (valL ps q)]) k1 (.v (.int q)) p2 (by simp; omega) g1 fun q' hq' i r hi e => by
    obtain ⟨b, e1, e2⟩ := g2 i r hi e
    exact ⟨b, e1, by have := p1 q' hq'; omega⟩
   refine ⟨k', x', ?_⟩
   simp only [List.map_cons, loopG, nameG, Option.bind_some, List.set_cons_succ, List.set_cons_zero, g3]
   rw [e]
   simp
theorem flats_oi (l : List (Option Int)) : flats (l.map oi) = true := by
 induction l with
 | nil => simp
 | cons a l ih => simp [ih]
theorem values_eq {ps : List Rw} (o : Ord ps) (hl : ps.length ≤ 10000) (qs : List Int) (hq : qs.Pairwise (· < ·)) (hz : qs.length ≤ 10000) : GL.values.f [.lst (ps.map rwD), .lst (qs.map D.int)] = some (.fresh ((qs.map (valL ps)).map oi)) := by
 obtain ⟨k', x', e⟩ := val_loop o hl (.v (.lst (qs.map D.int))) qs [] 0 .no hq (by simp; omega) (Nat.zero_le _) (fun q _ i r hi => by omega)
 have fl := flats_oi (qs.map (valL ps))
 have em : (qs.map fun q => oi (valL ps q)) = (qs.map (valL ps)).map oi := by simp
 rw [List.nil_append, em] at e
 refine run_rt ?_
 unfold GL.values.g
 generalize (qs.map (valL ps)).map oi = Z at *
 generalize ps.map rwD = P at *
 generalize qs.map D.int = Q at *
 rw [seq_nx (ds' := [.v (.lst P), .v (.lst Q), .own [], .no, .no]) (by simp [args]), seq_nx (ds' := [.v (.lst P), .v (.lst Q), .own [], .v (.int 0), .no]) (by simp), seq_nx (ds' := [.v (.lst P), .v (.lst Q), .own Z, .v (.int (k' : Int)), x']) (by rw [forG_eq]; simpa using e)]
 simp [fl]
theorem insU_len (k : Int) : ∀ l : List Int, (insU k l).length ≤ l.length + 1
 | [] => by simp [insU]
 | a :: l => by
   have := insU_len k l
   unfold insU
   split
   · simp
   · split
     · simp
     · simp only [List.length_cons]; omega
theorem srtU_len : ∀ ns : List Int, (srtU ns).length ≤ ns.length
 | [] => by simp [srtU]
 | k :: ns => by
   have h1 := insU_len k (srtU ns)
   have h2 := srtU_len ns
   show (insU k (srtU ns)).length ≤ _
   simp only [List.length_cons]
   omega
theorem cells_cut (ns : List Int) (hb : ∀ c ∈ ns, intBits c ≤ 1048576) (a b : Nat) : ∃ cs : List Int, cs.length ≤ ns.length ∧ cs.length ≤ b - a ∧ (∀ c ∈ cs, intBits c ≤ 1048576) ∧ cutD (ns.map D.int) (some (a : Int)) (some (b : Int)) = cs.map D.int := by
 refine ⟨(ns.drop (min a ns.length)).take (min b ns.length - min a ns.length), by simp; omega, by simp; omega, fun c hc => hb c (List.mem_of_mem_drop (List.mem_of_mem_take hc)), ?_⟩
 have e1 : HT.sIx (ns.map D.int).length 0 (some (a : Int)) = min a ns.length := by simp [HT.sIx]; omega
 have e2 : HT.sIx (ns.map D.int).length (ns.map D.int).length (some (b : Int)) = min b ns.length := by simp [HT.sIx]; omega
 unfold cutD
 rw [e1, e2, List.map_take, List.map_drop]
theorem eqvs_oi : ∀ l m : List (Option Int), eqvs (l.map oi) (m.map oi) = decide (l = m)
 | [], [] => by simp
 | [], _ :: _ => by simp
 | _ :: _, [] => by simp
 | a :: l, b :: m => by
   rw [List.map_cons, List.map_cons, eqvs_cons, eqvs_oi l m, eqvD_oi, Bool.eq_iff_iff]
   simp
theorem shals_oi (n : Nat) (l : List (Option Int)) : shals (n + 1) (l.map oi) = true := shals_all fun d hd => by obtain ⟨i, _, rfl⟩ := List.mem_map.mp hd; simp
theorem neD_oil (l m : List (Option Int)) : neD (.lst (l.map oi)) (.lst (m.map oi)) = some (.bl (!decide (l = m))) := by
 rw [neD_ok (by simpa using shals_oi 39 l) (by simpa using shals_oi 39 m), eqvD_lst, eqvs_oi]
end FL
namespace FL
open PySem PyProof.Rows L2
open Builtin.Int (intBits)
theorem val_due {rows : List Rv} (ok : ∀ r ∈ rows, okS r.1) (hl : rows.length ≤ 1000) (p : Int) : valL (formedF rows) p = dueF rows p := by
 have mf := (formed_eq rows ok hl).2.1
 have tel := formed_tel rows ok
 cases h : valL (formedF rows) p with
 | some v => exact ((tel p v).mp ((valL_tel mf.ord p v).mp h)).symm
 | none =>
   cases h2 : dueF rows p with
   | none => rfl
   | some v =>
     have := (valL_tel mf.ord p v).mpr ((tel p v).mpr h2)
     rw [h] at this
     cases this
end FL
section
open PySem PyProof.Rows L2 FL
noncomputable def K37.L_begin.g : FS := (seqG (ifG (andT (testB (bin2 eqD (bin2 modD (getW 1) (konst (.int 4))) (konst (.int 0)))) (testB (bin2 neD (getW 2) (mkL (sized nilA))))) (retG (bin2 subD (bin2 addD (bin2 ixD (getW 2) (bin2 modD (bin2 fdivD (getW 1) (konst (.int 4))) (callB lenD (consA (getW 2) nilA)))) (bin2 modD (bin2 fdivD (getW 1) (konst (.int 1000003))) (konst (.int 3)))) (konst (.int 1)))) nextG)
 (seqG (ifG (testB (bin2 eqD (bin2 modD (getW 1) (konst (.int 4))) (konst (.int 1)))) (retG (bin2 ixD (mkL (sized (consA (bin2 subD (bin2 modD (getW 0) (bin2 addD (bin2 mulD (konst (.int 2)) (bin2 powD (konst (.int 10)) (konst (.int 60)))) (konst (.int 1)))) (bin2 powD (konst (.int 10)) (konst (.int 60)))) (consA (callV 1 GL.great.f (consA (getW 0) nilA)) nilA)))) (bin2 modD (bin2 fdivD (getW 1) (konst (.int 4))) (konst (.int 2))))) nextG)
 (retG (bin2 subD (bin2 modD (bin2 fdivD (getW 1) (konst (.int 4))) (konst (.int 61))) (konst (.int 30))))))
noncomputable def K37.L_begin.f : List D → Option Ret := runG K37.L_begin.g 3
noncomputable def K37.L_behind.g : FS := (seqG (setG 4 (bin2 addD (bin2 addD (getW 3) (konst (.int 1))) (bin2 modD (bin2 fdivD (getW 1) (konst (.int 4))) (konst (.int 3)))))
 (seqG (ifG (testB (bin2 eqD (bin2 modD (getW 1) (konst (.int 4))) (konst (.int 1)))) (setG 4 (bin2 addD (bin2 addD (getW 3) (konst (.int 1))) (bin2 modD (bin2 fdivD (getW 1) (konst (.int 4))) (konst (.int 40))))) nextG)
 (seqG (ifG (testB (bin2 eqD (bin2 modD (getW 1) (konst (.int 4))) (konst (.int 2)))) (setG 4 (bin2 addD (bin2 addD (getW 3) (konst (.int 1))) (bin2 modD (bin2 mulD (getW 0) (konst (.int 69621))) (bin2 powD (konst (.int 10)) (konst (.int 60)))))) nextG)
 (seqG (ifG (andT (testB (bin2 eqD (bin2 modD (getW 1) (konst (.int 4))) (konst (.int 3)))) (testB (bin2 neD (getW 2) (mkL (sized nilA))))) (setG 4 (callB mxD (consA (getW 4) (consA (bin2 ixD (getW 2) (bin2 modD (bin2 fdivD (getW 1) (konst (.int 4))) (callB lenD (consA (getW 2) nilA)))) nilA)))) nextG)
 (retG (getW 4))))))
noncomputable def K37.L_behind.f : List D → Option Ret := runG K37.L_behind.g 5
noncomputable def K37.L_row.g : FX := (seqR (setG 3 (bin2 modD (bin2 addD (bin2 addD (bin2 mulD (getW 0) (konst (.int 48271))) (bin2 mulD (bin2 mulD (getW 1) (getW 1)) (konst (.int 69621)))) (konst (.int 7919))) (konst (.int 2147483647))))
 (seqR (setG 3 (bin2 modD (bin2 mulD (getW 3) (getW 3)) (konst (.int 2147483563))))
 (seqR (setG 4 (bin2 modD (bin2 addD (bin2 addD (bin2 mulD (getW 0) (konst (.int 39373))) (bin2 mulD (bin2 mulD (getW 1) (getW 1)) (konst (.int 16807)))) (konst (.int 611953))) (konst (.int 2147483629))))
 (seqR (setG 4 (bin2 modD (bin2 mulD (getW 4) (getW 3)) (konst (.int 2147483549))))
 (seqR (setG 5 (relVO 2 (callV 3 K37.L_begin.f (consA (getW 0) (consA (getW 3) (consA (getW 2) nilA))))))
 (seqR (setG 6 (relVO 2 (callV 4 K37.L_behind.f (consA (getW 0) (consA (getW 4) (consA (getW 2) (consA (getW 5) nilA)))))))
 (seqR (appP (varP 2) (getV 5))
 (seqR (appP (varP 2) (getV 6))
 (seqR (ifG (testB (bin2 ltD (bin2 modD (bin2 fdivD (getW 4) (konst (.int 2003))) (konst (.int 12))) (konst (.int 2)))) (setG 5 (konst .non)) nextG)
 (seqR (ifG (testB (bin2 (inD false) (bin2 modD (bin2 fdivD (getW 4) (konst (.int 2003))) (konst (.int 12))) (mkT (sized (consA (konst (.int 1)) (consA (konst (.int 2)) nilA)))))) (setG 6 (konst .non)) nextG)
 (seqR (setG 7 (bin2 subD (bin2 modD (bin2 fdivD (getW 4) (konst (.int 30011))) (konst (.int 5))) (konst (.int 1))))
 (seqR (ifG (testB (bin2 eqD (getW 7) (un1 negD (konst (.int 1))))) (setG 7 (konst .non)) nextG)
 (seqR (ifG (testB (bin2 eqD (getW 7) (konst (.int 3)))) (setG 7 (bin2 subD (bin2 modD (getW 0) (bin2 addD (bin2 mulD (konst (.int 2)) (bin2 powD (konst (.int 10)) (konst (.int 60)))) (konst (.int 1)))) (bin2 powD (konst (.int 10)) (konst (.int 60))))) nextG)
 (vR (mkT (sized (consA (mkT (sized (consA (getV 5) (consA (getV 6) nilA)))) (consA (getV 7) nilA))))))))))))))))))
noncomputable def K37.L_row.f : OT → List D → Option (D × OT) := lentR K37.L_row.g 8 2
noncomputable def K37.L_told_row.g : FX := (seqR (setG 2 (bin2 modD (getW 0) (konst (.int 4))))
 (seqR (setG 3 (bin2 subD (bin2 modD (bin2 fdivD (getW 0) (konst (.int 4))) (bin2 addD (bin2 mulD (konst (.int 2)) (bin2 powD (konst (.int 10)) (konst (.int 60)))) (konst (.int 1)))) (bin2 powD (konst (.int 10)) (konst (.int 60)))))
 (seqR (setG 4 (bin2 fdivD (bin2 fdivD (getW 0) (konst (.int 4))) (bin2 addD (bin2 mulD (konst (.int 2)) (bin2 powD (konst (.int 10)) (konst (.int 60)))) (konst (.int 1)))))
 (seqR (setG 5 (bin2 addD (bin2 addD (getW 3) (konst (.int 1))) (bin2 modD (getW 4) (bin2 powD (konst (.int 10)) (konst (.int 60))))))
 (seqR (setG 6 (bin2 subD (bin2 modD (bin2 fdivD (getW 4) (bin2 powD (konst (.int 10)) (konst (.int 60)))) (bin2 addD (bin2 mulD (konst (.int 2)) (bin2 powD (konst (.int 10)) (konst (.int 60)))) (konst (.int 2)))) (bin2 powD (konst (.int 10)) (konst (.int 60)))))
 (seqR (appP (varP 1) (getV 3))
 (seqR (appP (varP 1) (getV 5))
 (seqR (ifG (testB (bin2 gtD (getW 6) (bin2 powD (konst (.int 10)) (konst (.int 60))))) (setG 6 (konst .non)) nextG)
 (seqR (ifG (testB (bin2 eqD (bin2 modD (getW 2) (konst (.int 2))) (konst (.int 1)))) (setG 3 (konst .non)) nextG)
 (seqR (ifG (testB (bin2 gtD (getW 2) (konst (.int 1)))) (setG 5 (konst .non)) nextG)
 (vR (mkT (sized (consA (mkT (sized (consA (getV 3) (consA (getV 5) nilA)))) (consA (getV 6) nilA)))))))))))))))
noncomputable def K37.L_told_row.f : OT → List D → Option (D × OT) := lentR K37.L_told_row.g 7 1
noncomputable def K37.L_rows.b1 : FS := (appR 2 (callR 3 1 K37.L_row.f (consA (getV 3) (consA (callB lenD (consA (getW 2) nilA)) (hereA nilA)))))
noncomputable def K37.L_rows.g : FX := (ifR (andT (testB (bin2 neD (getW 0) (mkL (sized nilA)))) (testB (bin2 eqD (bin2 modD (bin2 ixD (getW 0) (konst (.int 0))) (konst (.int 2))) (konst (.int 1))))) (compR (viaA (mkL (sliA (getW 0) (soP (konst (.int 1))) (soP (konst (.int 63))))) asLT) [none, some 1] 1 1 (nameG 0) (callR 2 1 K37.L_told_row.f (consA (getV 0) (hereA nilA))))
 (seqR (setOG 2 (sized nilA))
 (seqR (forG (viaA (mkL (sliA (getW 0) noP (soP (konst (.int 70))))) asLT) (nameG 3) K37.L_rows.b1)
 (relR 2 (vR (getV 2))))))
noncomputable def K37.L_rows.f : OT → List D → Option (D × OT) := lentR K37.L_rows.g 4 1
noncomputable def K37.L_last.b1 : FS := (ifG (andT (orT (testB (bin2 isD (bin2 ixD (getW 2) (konst (.int 0))) (konst .non))) (testB (bin2 leD (bin2 ixD (getW 2) (konst (.int 0))) (getW 1)))) (orT (testB (bin2 isD (bin2 ixD (getW 2) (konst (.int 1))) (konst .non))) (testB (bin2 ltD (getW 1) (bin2 ixD (getW 2) (konst (.int 1))))))) (retG (getW 3)) nextG)
noncomputable def K37.L_last.g : FS := (seqG (forG (revA (getV 0)) (tupG 2 (tgCons (nameG 2) (tgCons (nameG 3) tgNil))) K37.L_last.b1)
 (retG (konst .non)))
noncomputable def K37.L_last.f : List D → Option Ret := runG K37.L_last.g 4
noncomputable def K37.law.b1 : FS := (seqG (setG 3 (callV 3 GP.put.f (consA (getW 3) (consA (getW 5) (consA (getW 6) nilA)))))
 (appG 4 (mkL (sized (consA (getV 3) (consA (mkL (lisA (getW 3))) nilA))))))
noncomputable def K37.law.g : FS := (seqG (setB 1 (sO nilO))
 (seqG (setR 2 (callR 2 1 K37.L_rows.f (consA (getV 0) (hereA nilA))))
 (seqG (setG 3 (mkL (sized nilA)))
 (seqG (setOG 4 (sized nilA))
 (seqG (forG (viaA (getV 2) asLT) (tupG 2 (tgCons (nameG 5) (tgCons (nameG 6) tgNil))) K37.law.b1)
 (seqG (ifG (notT (testT (callV 1 GL.is_map.f (consA (getW 3) nilA)))) (retG (konst (.bl false))) nextG)
 (seqG (setG 7 (mkL (relFO 1 (callF 2 GL.places2.f (consA (getW 3) (consA (getW 1) nilA))))))
 (seqG (ifG (testB (bin2 neD (callV 2 GL.values.f (consA (getW 3) (consA (getW 7) nilA))) (mkL (compG (viaA (getV 7) asLT) [none, some 2] (nameG 0) (fun _ => some true) (callV 2 K37.L_last.f (consA (getW 1) (consA (getW 0) nilA))))))) (retG (konst (.bl false))) nextG)
 (seqG (ifG (testB (bin2 neD (callV 1 GP.formed.f (consA (mkL (lisA (getW 2))) nilA)) (getW 3))) (retG (konst (.bl false))) nextG)
 (seqG (ifG (orT (testB (bin2 neD (callV 3 GP.put.f (consA (getW 3) (consA (mkT (sized (consA (konst .non) (consA (konst .non) nilA)))) (consA (konst .non) nilA)))) (mkL (sized nilA)))) (testB (bin2 neD (callV 3 GP.put.f (consA (getW 3) (consA (mkT (sized (consA (konst .non) (consA (konst .non) nilA)))) (consA (konst (.int 5)) nilA)))) (mkL (sized (consA (mkT (sized (consA (konst .non) (consA (konst .non) (consA (konst (.int 5)) nilA))))) nilA)))))) (retG (konst (.bl false))) nextG)
 (fun ds => (retG (callB allD (consA (mkL (compG (viaA (getV 4) asLT) [none] (nameG 0) (fun _ => some true) (bin2 eqD (bin2 ixD (getW 0) (konst (.int 0))) (bin2 ixD (getW 0) (konst (.int 1)))))) nilA))) (relS 4 ds))))))))))))
noncomputable def K37.law.f : List D → Option Ret := runG K37.law.g 8
end
namespace K37
open PySem PyProof.Rows L2 FL
noncomputable def top (i : Nat) : Stmt := PySem.Challenge.pw_spanmap_k37_whole_puts_in_rows.main.body.getD i (.Pass ⟨0, 0, 0, 0⟩)
structure Glb (K : Frag) (mg : Str → Option Value) : Prop where
 b_all : mg "all" = none
 b_bool : mg "bool" = none
 b_int : mg "int" = none
 b_isinstance : mg "isinstance" = none
 b_len : mg "len" = none
 b_list : mg "list" = none
 b_max : mg "max" = none
 b_min : mg "min" = none
 b_range : mg "range" = none
 b_reversed : mg "reversed" = none
 b_set : mg "set" = none
 b_sorted : mg "sorted" = none
 b_tuple : mg "tuple" = none
theorem pwI {X : Cx} {i : Int} {k : Nat} {p : Pos} : PVw X (.Constant (.int i) k p) (konst (.int i)) := PV.w pv_int
theorem pnI {X : Cx} {i : Int} {k : Nat} {p : Pos} : PVn X (.Constant (.int i) k p) (konst (.int i)) := PV.n pv_int
theorem pnV {X : Cx} (i : Nat) {x : Str} {pos : Pos} (hN : X.N[i]? = some x := by rfl) (hv : Vis X.env.scope x := by first | exact Or.inl rfl | exact Or.inr (Or.inl rfl) | exact Or.inr (Or.inr rfl)) (hd : (x == ("__debug__" : Str)) = false := by decide) (hcd : (x == ("__classdict__" : Str)) = false := by decide) : PVn X (.Name x pos) (getW i) := (pw_var i hN hv hd hcd).n
section
variable {P : Program} {w : World} {K : Frag} {mg : Str → Option Value} {base : Heap}
theorem sc_later_low : FnScope ["one", "other"] ["one", "other"] (defScope (top 3)) := {}
theorem fok_later_low {f : Addr} {fd : FuncData} (Fn : Fun K "later_low" "later_low" (top 3) f fd) (T : Glb K mg)  : FnOk P w K mg base CX0 1 f fd ["one", "other"] (spF K 2 GP.later_low.f) := by
 have nd := sc_later_low.nd
 refine fun_ok (k := 0) (g := GP.later_low.g) Fn sc_later_low (fun cdv A outer s H E hr => ?_) (fun ds r hl e => does_run e)
 exact (pssv_cons (psv_if (pt_is (pnV 0) (PV.n pv_non)) (pssv_one (psv_ret (pw_var 1))) pssv_nil)
  (pssv_cons (psv_if (pt_is (pnV 1) (PV.n pv_non)) (pssv_one (psv_ret (pw_var 0))) pssv_nil)
  (pssv_one (psv_ret (PV.w (pv_max2 rfl T.b_max (pav_cons (pw_var 0) (pav_cons (pw_var 1) pav_nil))))))))
theorem sc_earlier_behind : FnScope ["one", "other"] ["one", "other"] (defScope (top 4)) := {}
theorem fok_earlier_behind {f : Addr} {fd : FuncData} (Fn : Fun K "earlier_behind" "earlier_behind" (top 4) f fd) (T : Glb K mg)  : FnOk P w K mg base CX0 1 f fd ["one", "other"] (spF K 2 GP.earlier_behind.f) := by
 have nd := sc_earlier_behind.nd
 refine fun_ok (k := 0) (g := GP.earlier_behind.g) Fn sc_earlier_behind (fun cdv A outer s H E hr => ?_) (fun ds r hl e => does_run e)
 exact (pssv_cons (psv_if (pt_is (pnV 0) (PV.n pv_non)) (pssv_one (psv_ret (pw_var 1))) pssv_nil)
  (pssv_cons (psv_if (pt_is (pnV 1) (PV.n pv_non)) (pssv_one (psv_ret (pw_var 0))) pssv_nil)
  (pssv_one (psv_ret (PV.w (pv_min2 rfl T.b_min (pav_cons (pw_var 0) (pav_cons (pw_var 1) pav_nil))))))))
theorem sc_ends_ahead : FnScope ["behind", "low"] ["behind", "low"] (defScope (top 2)) := {}
theorem fok_ends_ahead {f : Addr} {fd : FuncData} (Fn : Fun K "ends_ahead" "ends_ahead" (top 2) f fd) (T : Glb K mg)  : FnOk P w K mg base CX0 1 f fd ["behind", "low"] (spF K 2 GP.ends_ahead.f) := by
 have nd := sc_ends_ahead.nd
 refine fun_ok (k := 0) (g := GP.ends_ahead.g) Fn sc_ends_ahead (fun cdv A outer s H E hr => ?_) (fun ds r hl e => does_run e)
 exact (pssv_one (psv_ret (PV.w (pv_and (pv_isnot (pnV 0) (PV.n pv_non)) (pv_and (pv_isnot (pnV 1) (PV.n pv_non)) (pv_one (pv_le (pw_var 0) (pw_var 1))))))))
theorem sc_meet : FnScope ["one", "other", "low", "behind"] ["one", "other"] (defScope (top 1)) := {}
theorem fok_meet {f : Addr} {fd : FuncData} (Fn : Fun K "meet" "meet" (top 1) f fd) (T : Glb K mg) (C_later_low : Cal P w K mg base "later_low" 1 2 GP.later_low.f) (C_earlier_behind : Cal P w K mg base "earlier_behind" 1 2 GP.earlier_behind.f) (C_ends_ahead : Cal P w K mg base "ends_ahead" 1 2 GP.ends_ahead.f) : FnOk P w K mg base CX0 2 f fd ["one", "other"] (spF K 2 GP.meet.f) := by
 have nd := sc_meet.nd
 refine fun_ok (k := 1) (g := GP.meet.g) Fn sc_meet (fun cdv A outer s H E hr => ?_) (fun ds r hl e => does_run e)
 exact (pssv_cons (psv_set (i := 2) nd (pv_callC C_later_low hr (pan_cons (PV.n (pv_ix (pw_var 0) pwI)) (pan_cons (PV.n (pv_ix (pw_var 1) pwI)) pan_nil))))
  (pssv_cons (psv_set (i := 3) nd (pv_callC C_earlier_behind hr (pan_cons (PV.n (pv_ix (pw_var 0) pwI)) (pan_cons (PV.n (pv_ix (pw_var 1) pwI)) pan_nil))))
  (pssv_cons (psv_if (PVn.t (PV.n (pv_callC C_ends_ahead hr (pan_cons (pnV 3) (pan_cons (pnV 2) pan_nil))))) (pssv_one (psv_ret (PV.w pv_non))) pssv_nil)
  (pssv_one (psv_ret (PV.w (pv_tup (pas_cons (pv_var 2) (pas_cons (pv_var 3) pas_nil)))))))))
theorem sc_knit : FnScope ["rows", "pieces", "low", "behind", "value"] ["rows"] (defScope (top 6)) := {}
theorem fok_knit {f : Addr} {fd : FuncData} (Fn : Fun K "knit" "knit" (top 6) f fd) (T : Glb K mg)  : FnOk P w K mg base CX0 1 f fd ["rows"] (spF K 1 GP.knit.f) := by
 have nd := sc_knit.nd
 refine fun_ok (k := 0) (g := GP.knit.g) Fn sc_knit (fun cdv A outer s H E hr => ?_) (fun ds r hl e => does_run e)
 exact (pssv_cons (psv_setO (i := 1) nd (pvf_lst pas_nil))
  (pssv_cons (psv_for PassesOwn.never rfl (piv_seq (pv_var 0)) (pgv_tup (n := 3) rfl (pgsv_cons (pgv_name (i := 2) nd) (pgsv_cons (pgv_name (i := 3) nd) (pgsv_cons (pgv_name (i := 4) nd) pgsv_nil)))) (pssv_cons (psv_if (pt_is (pnV 4) (PV.n pv_non)) (pssv_one psv_continue) pssv_nil)
  (pssv_one (psv_if (PWv.t (pwv_and (PVn.t (pnV 1)) (pwv_and (pt_eq hr (PV.n (pv_ix (PV.w (pv_ix (pw_var 1) (PV.w (pv_neg pv_int)))) pwI)) (pnV 2)) (pwv_and1 (pt_eq hr (PV.n (pv_ix (PV.w (pv_ix (pw_var 1) (PV.w (pv_neg pv_int)))) pwI)) (pnV 4)))))) (pssv_one (psv_put (i := 1) (pv_tup (pas_cons (pv_ix (PV.w (pv_ix (pw_var 1) (PV.w (pv_neg pv_int)))) pwI) (pas_cons (pv_var 3) (pas_cons (pv_var 4) pas_nil)))) (pv_neg pv_int))) (pssv_one (psv_app (i := 1) (pv_tup (pas_cons (pv_var 2) (pas_cons (pv_var 3) (pas_cons (pv_var 4) pas_nil))))))))))
  (pssv_one (psv_retX 1))))
theorem sc_parts_in : FnScope ["pieces", "within", "parts", "low", "behind", "value", "common"] ["pieces", "within"] (defScope (top 8)) := {}
theorem fok_parts_in {f : Addr} {fd : FuncData} (Fn : Fun K "parts_in" "parts_in" (top 8) f fd) (T : Glb K mg) (C_meet : Cal P w K mg base "meet" 2 2 GP.meet.f) : FnOk P w K mg base CX0 3 f fd ["pieces", "within"] (spF K 2 GP.parts_in.f) := by
 have nd := sc_parts_in.nd
 refine fun_ok (k := 2) (g := GP.parts_in.g) Fn sc_parts_in (fun cdv A outer s H E hr => ?_) (fun ds r hl e => does_run e)
 exact (pssv_cons (psv_setO (i := 2) nd (pvf_lst pas_nil))
  (pssv_cons (psv_for PassesOwn.never rfl (piv_seq (pv_var 0)) (pgv_tup (n := 3) rfl (pgsv_cons (pgv_name (i := 3) nd) (pgsv_cons (pgv_name (i := 4) nd) (pgsv_cons (pgv_name (i := 5) nd) pgsv_nil)))) (pssv_cons (psv_set (i := 6) nd (pv_callC C_meet hr (pan_cons (PV.n (pv_tup (pas_cons (pv_var 3) (pas_cons (pv_var 4) pas_nil)))) (pan_cons (pnV 1) pan_nil))))
  (pssv_one (psv_if (pt_isnot (pnV 6) (PV.n pv_non)) (pssv_one (psv_app (i := 2) (pv_tup (pas_cons (pv_ix (pw_var 6) pwI) (pas_cons (pv_ix (pw_var 6) pwI) (pas_cons (pv_var 5) pas_nil)))))) pssv_nil))))
  (pssv_one (psv_retX 2))))
theorem sc_rows_over : FnScope ["pieces", "over", "value", "rows"] ["pieces", "over", "value"] (defScope (top 9)) := {}
theorem fok_rows_over {f : Addr} {fd : FuncData} (Fn : Fun K "rows_over" "rows_over" (top 9) f fd) (T : Glb K mg) (C_parts_in : Cal P w K mg base "parts_in" 3 2 GP.parts_in.f) : FnOk P w K mg base CX0 4 f fd ["pieces", "over", "value"] (spF K 3 GP.rows_over.f) := by
 have nd := sc_rows_over.nd
 refine fun_ok (k := 3) (g := GP.rows_over.g) Fn sc_rows_over (fun cdv A outer s H E hr => ?_) (fun ds r hl e => does_run e)
 exact (pssv_cons (psv_setO (i := 3) nd (pvf_lst pas_nil))
  (pssv_cons (psv_if (pt_isnot (PV.n (pv_ix (pw_var 1) pwI)) (PV.n pv_non)) (pssv_one (psv_ext (i := 3) (pvf_callC C_parts_in hr (pan_cons (pnV 0) (pan_cons (PV.n (pv_tup (pas_cons pv_non (pas_cons (pv_ix (pw_var 1) pwI) pas_nil)))) pan_nil))))) pssv_nil)
  (pssv_cons (psv_app (i := 3) (pv_tup (pas_cons (pv_ix (pw_var 1) pwI) (pas_cons (pv_ix (pw_var 1) pwI) (pas_cons (pv_var 2) pas_nil)))))
  (pssv_cons (psv_if (pt_isnot (PV.n (pv_ix (pw_var 1) pwI)) (PV.n pv_non)) (pssv_one (psv_ext (i := 3) (pvf_callC C_parts_in hr (pan_cons (pnV 0) (pan_cons (PV.n (pv_tup (pas_cons (pv_ix (pw_var 1) pwI) (pas_cons pv_non pas_nil)))) pan_nil))))) pssv_nil)
  (pssv_one (psv_retX 3))))))
theorem sc_formed : FnScope ["rows", "pieces", "over", "value"] ["rows"] (defScope (top 7)) := {}
theorem fok_formed {f : Addr} {fd : FuncData} (Fn : Fun K "formed" "formed" (top 7) f fd) (T : Glb K mg) (C_knit : Cal P w K mg base "knit" 1 1 GP.knit.f) (C_rows_over : Cal P w K mg base "rows_over" 4 3 GP.rows_over.f) : FnOk P w K mg base CX0 5 f fd ["rows"] (spF K 1 GP.formed.f) := by
 have nd := sc_formed.nd
 refine fun_ok (k := 4) (g := GP.formed.g) Fn sc_formed (fun cdv A outer s H E hr => ?_) (fun ds r hl e => does_run e)
 exact (pssv_cons (psv_setO (i := 1) nd (pvf_lst pas_nil))
  (pssv_cons (psv_for PassesOwn.never rfl (piv_seq (pv_var 0)) (pgv_tup (n := 2) rfl (pgsv_cons (pgv_name (i := 2) nd) (pgsv_cons (pgv_name (i := 3) nd) pgsv_nil))) (pssv_one (psv_setO (i := 1) nd (pvf_callC C_knit hr (pan_cons (PV.n (pv_callC C_rows_over hr (pan_cons (pnV 1) (pan_cons (pnV 2) (pan_cons (pnV 3) pan_nil))))) pan_nil)))))
  (pssv_one (psv_retX 1))))
theorem sc_put : FnScope ["pieces", "span", "value"] ["pieces", "span", "value"] (defScope (top 11)) := {}
theorem fok_put {f : Addr} {fd : FuncData} (Fn : Fun K "put" "put" (top 11) f fd) (T : Glb K mg) (C_knit : Cal P w K mg base "knit" 1 1 GP.knit.f) (C_rows_over : Cal P w K mg base "rows_over" 4 3 GP.rows_over.f) : FnOk P w K mg base CX0 5 f fd ["pieces", "span", "value"] (spF K 3 GP.put.f) := by
 have nd := sc_put.nd
 refine fun_ok (k := 4) (g := GP.put.g) Fn sc_put (fun cdv A outer s H E hr => ?_) (fun ds r hl e => does_run e)
 exact (pssv_one (psv_retF (pvf_callC C_knit hr (pan_cons (PV.n (pv_callC C_rows_over hr (pan_cons (pnV 0) (pan_cons (pnV 1) (pan_cons (pnV 2) pan_nil))))) pan_nil))))
theorem sc__law_whole : FnScope ["_law_found"] ["_law_found"] (defScope (top 13)) := {}
theorem fok__law_whole {f : Addr} {fd : FuncData} (Fn : Fun K "_law_whole" "_law_whole" (top 13) f fd) (T : Glb K mg)  : FnOk P w K mg base CX0 1 f fd ["_law_found"] (spF K 1 GL.whole.f) := by
 have nd := sc__law_whole.nd
 refine fun_ok (k := 0) (g := GL.whole.g) Fn sc__law_whole (fun cdv A outer s H E hr => ?_) (fun ds r hl e => does_run e)
 exact (pssv_one (psv_ret (PV.w (pv_and (pv_isi T.b_isinstance T.b_int (by decide +kernel) (pw_var 0)) (pv_one (pv_not (pv_isi T.b_isinstance T.b_bool (by decide +kernel) (pw_var 0))))))))
theorem sc__law_great : FnScope ["_law_cell", "_law_great_here"] ["_law_cell"] (defScope (top 14)) := {}
theorem fok__law_great {f : Addr} {fd : FuncData} (Fn : Fun K "_law_great" "_law_great" (top 14) f fd) (T : Glb K mg)  : FnOk P w K mg base CX0 1 f fd ["_law_cell"] (spF K 1 GL.great.f) := by
 have nd := sc__law_great.nd
 refine fun_ok (k := 0) (g := GL.great.g) Fn sc__law_great (fun cdv A outer s H E hr => ?_) (fun ds r hl e => does_run e)
 exact (pssv_cons (psv_set (i := 1) nd (pv_powI (PV.w (pv_powI pwI pwI)) pwI))
  (pssv_one (psv_ret (PV.w (pv_subI (PV.w (pv_modI (pw_var 0) (PV.w (pv_addI (PV.w (pv_mulI pwI (pw_var 1))) pwI)))) (pw_var 1))))))
theorem sc__law_begin : FnScope ["_law_cell", "_law_mixed", "_law_ends"] ["_law_cell", "_law_mixed", "_law_ends"] (defScope (top 15)) := {}
theorem fok__law_begin {f : Addr} {fd : FuncData} (Fn : Fun K "_law_begin" "_law_begin" (top 15) f fd) (T : Glb K mg) (C__law_great : Cal P w K mg base "_law_great" 1 1 GL.great.f) : FnOk P w K mg base CX0 2 f fd ["_law_cell", "_law_mixed", "_law_ends"] (spF K 3 K37.L_begin.f) := by
 have nd := sc__law_begin.nd
 refine fun_ok (k := 1) (g := K37.L_begin.g) Fn sc__law_begin (fun cdv A outer s H E hr => ?_) (fun ds r hl e => does_run e)
 exact (pssv_cons (psv_if (PWv.t (pwv_and (pt_eq hr (PV.n (pv_modI (pw_var 1) pwI)) pnI) (pwv_and1 (pt_ne hr (pnV 2) (PV.n (PVf.s (pvf_lst pas_nil))))))) (pssv_one (psv_ret (PV.w (pv_subI (PV.w (pv_addI (PV.w (pv_ix (pw_var 2) (PV.w (pv_modI (PV.w (pv_divI (pw_var 1) pwI)) (PV.w (pv_len T.b_len (pav_cons (pw_var 2) pav_nil))))))) (PV.w (pv_modI (PV.w (pv_divI (pw_var 1) pwI)) pwI)))) pwI)))) pssv_nil)
  (pssv_cons (psv_if (pt_eq hr (PV.n (pv_modI (pw_var 1) pwI)) pnI) (pssv_one (psv_ret (PV.w (pv_ix (PV.w (PVf.s (pvf_lst (pas_cons (pv_subI (PV.w (pv_modI (pw_var 0) (PV.w (pv_addI (PV.w (pv_mulI pwI (PV.w (pv_powI pwI pwI)))) pwI)))) (PV.w (pv_powI pwI pwI))) (pas_cons (pv_callC C__law_great hr (pan_cons (pnV 0) pan_nil)) pas_nil))))) (PV.w (pv_modI (PV.w (pv_divI (pw_var 1) pwI)) pwI)))))) pssv_nil)
  (pssv_one (psv_ret (PV.w (pv_subI (PV.w (pv_modI (PV.w (pv_divI (pw_var 1) pwI)) pwI)) pwI))))))
theorem sc__law_behind : FnScope ["_law_cell", "_law_more", "_law_ends", "_law_low", "_law_behind_here"] ["_law_cell", "_law_more", "_law_ends", "_law_low"] (defScope (top 16)) := {}
theorem fok__law_behind {f : Addr} {fd : FuncData} (Fn : Fun K "_law_behind" "_law_behind" (top 16) f fd) (T : Glb K mg)  : FnOk P w K mg base CX0 1 f fd ["_law_cell", "_law_more", "_law_ends", "_law_low"] (spF K 4 K37.L_behind.f) := by
 have nd := sc__law_behind.nd
 refine fun_ok (k := 0) (g := K37.L_behind.g) Fn sc__law_behind (fun cdv A outer s H E hr => ?_) (fun ds r hl e => does_run e)
 exact (pssv_cons (psv_set (i := 4) nd (pv_addI (PV.w (pv_addI (pw_var 3) pwI)) (PV.w (pv_modI (PV.w (pv_divI (pw_var 1) pwI)) pwI))))
  (pssv_cons (psv_if (pt_eq hr (PV.n (pv_modI (pw_var 1) pwI)) pnI) (pssv_one (psv_set (i := 4) nd (pv_addI (PV.w (pv_addI (pw_var 3) pwI)) (PV.w (pv_modI (PV.w (pv_divI (pw_var 1) pwI)) pwI))))) pssv_nil)
  (pssv_cons (psv_if (pt_eq hr (PV.n (pv_modI (pw_var 1) pwI)) pnI) (pssv_one (psv_set (i := 4) nd (pv_addI (PV.w (pv_addI (pw_var 3) pwI)) (PV.w (pv_modI (PV.w (pv_mulI (pw_var 0) pwI)) (PV.w (pv_powI pwI pwI))))))) pssv_nil)
  (pssv_cons (psv_if (PWv.t (pwv_and (pt_eq hr (PV.n (pv_modI (pw_var 1) pwI)) pnI) (pwv_and1 (pt_ne hr (pnV 2) (PV.n (PVf.s (pvf_lst pas_nil))))))) (pssv_one (psv_set (i := 4) nd (pv_max2 rfl T.b_max (pav_cons (pw_var 4) (pav_cons (PV.w (pv_ix (pw_var 2) (PV.w (pv_modI (PV.w (pv_divI (pw_var 1) pwI)) (PV.w (pv_len T.b_len (pav_cons (pw_var 2) pav_nil))))))) pav_nil))))) pssv_nil)
  (pssv_one (psv_ret (pw_var 4)))))))
theorem sc__law_row : FnScope ["_law_cell", "_law_k", "_law_ends", "_law_mixed", "_law_more", "_law_low", "_law_behind_here", "_law_value"] ["_law_cell", "_law_k", "_law_ends"] (defScope (top 17)) := {}
theorem fok__law_row {f : Addr} {fd : FuncData} (Fn : Fun K "_law_row" "_law_row" (top 17) f fd) (T : Glb K mg) (C__law_begin : Cal P w K mg base "_law_begin" 2 3 K37.L_begin.f) (C__law_behind : Cal P w K mg base "_law_behind" 1 4 K37.L_behind.f) : FnOk P w K mg base CX0 3 f fd ["_law_cell", "_law_k", "_law_ends"] (spR K 3 2 K37.L_row.f) := by
 have nd := sc__law_row.nd
 refine fun_okR (k := 2) (p := 2) (g := K37.L_row.g) Fn sc__law_row (fun cdv A outer s H E hr => ?_) (fun _ _ _ _ e => e)
 exact (prv_cons (psv_set (i := 3) nd (pv_modI (PV.w (pv_addI (PV.w (pv_addI (PV.w (pv_mulI (pw_var 0) pwI)) (PV.w (pv_mulI (PV.w (pv_mulI (pw_var 1) (pw_var 1))) pwI)))) pwI)) pwI))
  (prv_cons (psv_set (i := 3) nd (pv_modI (PV.w (pv_mulI (pw_var 3) (pw_var 3))) pwI))
  (prv_cons (psv_set (i := 4) nd (pv_modI (PV.w (pv_addI (PV.w (pv_addI (PV.w (pv_mulI (pw_var 0) pwI)) (PV.w (pv_mulI (PV.w (pv_mulI (pw_var 1) (pw_var 1))) pwI)))) pwI)) pwI))
  (prv_cons (psv_set (i := 4) nd (pv_modI (PV.w (pv_mulI (pw_var 4) (pw_var 3))) pwI))
  (prv_cons (psv_set (i := 5) nd (pv_relO 2 (pv_callC C__law_begin hr (pan_cons (pnV 0) (pan_cons (pnV 3) (pan_cons (pnV 2) pan_nil))))))
  (prv_cons (psv_set (i := 6) nd (pv_relO 2 (pv_callC C__law_behind hr (pan_cons (pnV 0) (pan_cons (pnV 4) (pan_cons (pnV 2) (pan_cons (pnV 5) pan_nil)))))))
  (prv_cons (psv_appP (pvp_var 2) (pv_var 5))
  (prv_cons (psv_appP (pvp_var 2) (pv_var 6))
  (prv_cons (psv_if (pt_lt (PV.w (pv_modI (PV.w (pv_divI (pw_var 4) pwI)) pwI)) pwI) (pssv_one (psv_set (i := 5) nd pv_non)) pssv_nil)
  (prv_cons (psv_if (pt_in (PV.n (pv_modI (PV.w (pv_divI (pw_var 4) pwI)) pwI)) (PV.n (pv_tup (pas_cons pv_int (pas_cons pv_int pas_nil))))) (pssv_one (psv_set (i := 6) nd pv_non)) pssv_nil)
  (prv_cons (psv_set (i := 7) nd (pv_subI (PV.w (pv_modI (PV.w (pv_divI (pw_var 4) pwI)) pwI)) pwI))
  (prv_cons (psv_if (pt_eq hr (pnV 7) (PV.n (pv_neg pv_int))) (pssv_one (psv_set (i := 7) nd pv_non)) pssv_nil)
  (prv_cons (psv_if (pt_eq hr (pnV 7) pnI) (pssv_one (psv_set (i := 7) nd (pv_subI (PV.w (pv_modI (pw_var 0) (PV.w (pv_addI (PV.w (pv_mulI pwI (PV.w (pv_powI pwI pwI)))) pwI)))) (PV.w (pv_powI pwI pwI))))) pssv_nil)
  (prv_ret (pvx_v (pv_tup (pas_cons (pv_tup (pas_cons (pv_var 5) (pas_cons (pv_var 6) pas_nil))) (pas_cons (pv_var 7) pas_nil))))))))))))))))))
theorem sc__law_told_row : FnScope ["_law_cell", "_law_ends", "_law_way", "_law_low", "_law_rest", "_law_behind_here", "_law_value"] ["_law_cell", "_law_ends"] (defScope (top 18)) := {}
theorem fok__law_told_row {f : Addr} {fd : FuncData} (Fn : Fun K "_law_told_row" "_law_told_row" (top 18) f fd) (T : Glb K mg)  : FnOk P w K mg base CX0 1 f fd ["_law_cell", "_law_ends"] (spR K 2 1 K37.L_told_row.f) := by
 have nd := sc__law_told_row.nd
 refine fun_okR (k := 0) (p := 1) (g := K37.L_told_row.g) Fn sc__law_told_row (fun cdv A outer s H E hr => ?_) (fun _ _ _ _ e => e)
 exact (prv_cons (psv_set (i := 2) nd (pv_modI (pw_var 0) pwI))
  (prv_cons (psv_set (i := 3) nd (pv_subI (PV.w (pv_modI (PV.w (pv_divI (pw_var 0) pwI)) (PV.w (pv_addI (PV.w (pv_mulI pwI (PV.w (pv_powI pwI pwI)))) pwI)))) (PV.w (pv_powI pwI pwI))))
  (prv_cons (psv_set (i := 4) nd (pv_divI (PV.w (pv_divI (pw_var 0) pwI)) (PV.w (pv_addI (PV.w (pv_mulI pwI (PV.w (pv_powI pwI pwI)))) pwI))))
  (prv_cons (psv_set (i := 5) nd (pv_addI (PV.w (pv_addI (pw_var 3) pwI)) (PV.w (pv_modI (pw_var 4) (PV.w (pv_powI pwI pwI))))))
  (prv_cons (psv_set (i := 6) nd (pv_subI (PV.w (pv_modI (PV.w (pv_divI (pw_var 4) (PV.w (pv_powI pwI pwI)))) (PV.w (pv_addI (PV.w (pv_mulI pwI (PV.w (pv_powI pwI pwI)))) pwI)))) (PV.w (pv_powI pwI pwI))))
  (prv_cons (psv_appP (pvp_var 1) (pv_var 3))
  (prv_cons (psv_appP (pvp_var 1) (pv_var 5))
  (prv_cons (psv_if (pt_gt (pw_var 6) (PV.w (pv_powI pwI pwI))) (pssv_one (psv_set (i := 6) nd pv_non)) pssv_nil)
  (prv_cons (psv_if (pt_eq hr (PV.n (pv_modI (pw_var 2) pwI)) pnI) (pssv_one (psv_set (i := 3) nd pv_non)) pssv_nil)
  (prv_cons (psv_if (pt_gt (pw_var 2) pwI) (pssv_one (psv_set (i := 5) nd pv_non)) pssv_nil)
  (prv_ret (pvx_v (pv_tup (pas_cons (pv_tup (pas_cons (pv_var 3) (pas_cons (pv_var 5) pas_nil))) (pas_cons (pv_var 6) pas_nil)))))))))))))))
theorem sc__law_rows : FnScope ["_law_script", "_law_ends", "_law_rows_here", "_law_cell"] ["_law_script", "_law_ends"] (defScope (top 19)) := {}
theorem fok__law_rows {f : Addr} {fd : FuncData} (Fn : Fun K "_law_rows" "_law_rows" (top 19) f fd) (T : Glb K mg) (C__law_told_row : CalR P w K mg base "_law_told_row" 1 2 1 K37.L_told_row.f) (C__law_row : CalR P w K mg base "_law_row" 3 3 2 K37.L_row.f) : FnOk P w K mg base CX0 4 f fd ["_law_script", "_law_ends"] (spR K 2 1 K37.L_rows.f) := by
 have nd := sc__law_rows.nd
 have nI0 : (["_law_cell", "_law_ends"] : List Str).Nodup := by decide +kernel
 refine fun_okR (k := 3) (p := 1) (g := K37.L_rows.g) Fn sc__law_rows (fun cdv A outer s H E hr => ?_) (fun _ _ _ _ e => e)
 exact (prv_if (PWv.t (pwv_and (pt_ne hr (pnV 0) (PV.n (PVf.s (pvf_lst pas_nil)))) (pwv_and1 (pt_eq hr (PV.n (pv_modI (PV.w (pv_ix (pw_var 0) pwI)) pwI)) pnI)))) (prv_ret (pvx_comp (NY := ["_law_cell", "_law_ends"]) (mp := [none, some 1]) (i := 1) (p := 1) (comp_scope (by kernel_rfl)) rfl (piv_seq (PVf.s (pvf_slice (pw_var 0) (pov_so pwI) (pov_so pwI)))) (fun c => (pgv_name (i := 0) nI0)) (fun c => (pvx_callR C__law_told_row hr (pax_cons (pv_var 0) (pax_here (i := 1) pas_nil))))))
  (prv_cons (psv_setO (i := 2) nd (pvf_lst pas_nil))
  (prv_cons (psv_for PassesOwn.never rfl (piv_seq (PVf.s (pvf_slice (pw_var 0) pov_no (pov_so pwI)))) (pgv_name (i := 3) nd) (pssv_one (psv_appR (i := 2) (pvx_callR C__law_row hr (pax_cons (pv_var 3) (pax_cons (pv_len T.b_len (pav_cons (pw_var 2) pav_nil)) (pax_here (i := 1) pas_nil)))))))
  (prv_rel 2 (prv_ret (pvx_v (pv_var 2)))))))
theorem sc__law_is_map : FnScope ["_law_found", "_law_k", "_law_low", "_law_behind_here", "_law_value", "_law_ahead"] ["_law_found"] (defScope (top 20)) := {}
theorem fok__law_is_map {f : Addr} {fd : FuncData} (Fn : Fun K "_law_is_map" "_law_is_map" (top 20) f fd) (T : Glb K mg) (C__law_whole : Cal P w K mg base "_law_whole" 1 1 GL.whole.f) : FnOk P w K mg base CX0 2 f fd ["_law_found"] (spF K 1 GL.is_map.f) := by
 have nd := sc__law_is_map.nd
 refine fun_ok (k := 1) (g := GL.is_map.g) Fn sc__law_is_map (fun cdv A outer s H E hr => ?_) (fun ds r hl e => does_run e)
 exact (pssv_cons (psv_if (ptv_not (PVn.t (PV.n (pv_isi T.b_isinstance T.b_list (by decide +kernel) (pw_var 0))))) (pssv_one (psv_ret (PV.w pv_bl))) pssv_nil)
  (pssv_cons (psv_for PassesOwn.never rfl (piv_range1 T.b_range (pv_len T.b_len (pav_cons (pw_var 0) pav_nil))) (pgv_name (i := 1) nd) (pssv_cons (psv_if (PWv.t (pwv_or (ptv_not (PVn.t (PV.n (pv_isi T.b_isinstance T.b_tuple (by decide +kernel) (PV.w (pv_ix (pw_var 0) (pw_var 1))))))) (pwv_or (pt_ne hr (PV.n (pv_len T.b_len (pav_cons (PV.w (pv_ix (pw_var 0) (pw_var 1))) pav_nil))) pnI) (pwv_or1 (ptv_not (PVn.t (PV.n (pv_callC C__law_whole hr (pan_cons (PV.n (pv_ix (PV.w (pv_ix (pw_var 0) (pw_var 1))) pwI)) pan_nil))))))))) (pssv_one (psv_ret (PV.w pv_bl))) pssv_nil)
  (pssv_cons (psv_asg (pv_ix (pw_var 0) (pw_var 1)) (pgv_tup (n := 3) rfl (pgsv_cons (pgv_name (i := 2) nd) (pgsv_cons (pgv_name (i := 3) nd) (pgsv_cons (pgv_name (i := 4) nd) pgsv_nil)))))
  (pssv_cons (psv_if (PWv.t (pwv_and (ptv_not (PVn.t (PV.n (pv_callC C__law_whole hr (pan_cons (pnV 2) pan_nil))))) (pwv_and1 (PWv.t (pwv_or (pt_isnot (pnV 2) (PV.n pv_non)) (pwv_or1 (pt_gt (pw_var 1) pwI))))))) (pssv_one (psv_ret (PV.w pv_bl))) pssv_nil)
  (pssv_cons (psv_if (PWv.t (pwv_and (ptv_not (PVn.t (PV.n (pv_callC C__law_whole hr (pan_cons (pnV 3) pan_nil))))) (pwv_and1 (PWv.t (pwv_or (pt_isnot (pnV 3) (PV.n pv_non)) (pwv_or1 (pt_lt (pw_var 1) (PV.w (pv_subI (PV.w (pv_len T.b_len (pav_cons (pw_var 0) pav_nil))) pwI))))))))) (pssv_one (psv_ret (PV.w pv_bl))) pssv_nil)
  (pssv_cons (psv_if (PWv.t (pwv_and (pt_isnot (pnV 2) (PV.n pv_non)) (pwv_and (pt_isnot (pnV 3) (PV.n pv_non)) (pwv_and1 (pt_ge (pw_var 2) (pw_var 3)))))) (pssv_one (psv_ret (PV.w pv_bl))) pssv_nil)
  (pssv_cons (psv_set (i := 5) nd (pv_ix (pw_var 0) (PV.w (pv_max2 rfl T.b_max (pav_cons (PV.w (pv_subI (pw_var 1) pwI)) (pav_cons pwI pav_nil))))))
  (pssv_one (psv_if (PWv.t (pwv_and (pt_gt (pw_var 1) pwI) (pwv_and1 (PWv.t (pwv_or (pt_gt (PV.w (pv_ix (pw_var 5) pwI)) (pw_var 2)) (pwv_or1 (pt_eq hr (PV.n (pv_sltw (pw_var 5) (pov_so pwI) pov_no)) (PV.n (pv_tup (pas_cons (pv_var 2) (pas_cons (pv_var 4) pas_nil))))))))))) (pssv_one (psv_ret (PV.w pv_bl))) pssv_nil)))))))))
  (pssv_one (psv_ret (PV.w pv_bl)))))
theorem sc__law_places : FnScope ["_law_pieces", "_law_ends", "_law_found", "_law_end"] ["_law_pieces", "_law_ends"] (defScope (top 21)) := {}
theorem fok__law_places {f : Addr} {fd : FuncData} (Fn : Fun K "_law_places" "_law_places" (top 21) f fd) (T : Glb K mg)  : FnOk P w K mg base CX0 1 f fd ["_law_pieces", "_law_ends"] (spF K 2 GL.places2.f) := by
 have nd := sc__law_places.nd
 have nI0 : (["_law_piece"] : List Str).Nodup := by decide +kernel
 have nI1 : (["_law_piece"] : List Str).Nodup := by decide +kernel
 refine fun_ok (k := 0) (g := GL.places2.g) Fn sc__law_places (fun cdv A outer s H E hr => ?_) (fun ds r hl e => does_run e)
 exact (pssv_cons (psv_setO (i := 2) nd (pvf_lst (pas_cons pv_int pas_nil)))
  (pssv_cons (psv_for PassesOwn.never rfl (piv_seq (PVf.s (pvf_cat (PV.w (PVf.s (pvf_cat (pw_var 1) (PV.w (PVf.s (pvf_comp (NY := ["_law_piece"]) (mp := [none]) (comp_scope (by kernel_rfl)) rfl (piv_seq (pv_var 0)) (fun c => (pgv_name (i := 0) nI0)) (fun c => pfv_nil) (fun c => (pv_ix (pw_var 0) pwI)))))))) (PV.w (PVf.s (pvf_comp (NY := ["_law_piece"]) (mp := [none]) (comp_scope (by kernel_rfl)) rfl (piv_seq (pv_var 0)) (fun c => (pgv_name (i := 0) nI1)) (fun c => pfv_nil) (fun c => (pv_ix (pw_var 0) pwI)))))))) (pgv_name (i := 3) nd) (pssv_one (psv_if (pt_isnot (pnV 3) (PV.n pv_non)) (pssv_cons (psv_app (i := 2) (pv_subI (pw_var 3) pwI))
  (pssv_one (psv_app (i := 2) (pv_var 3)))) pssv_nil)))
  (pssv_one (psv_retF (pvf_sortedSet rfl T.b_sorted T.b_set (pw_var 2))))))
theorem sc__law_values : FnScope ["_law_pieces", "_law_places_here", "_law_found", "_law_k", "_law_place"] ["_law_pieces", "_law_places_here"] (defScope (top 22)) := {}
theorem fok__law_values {f : Addr} {fd : FuncData} (Fn : Fun K "_law_values" "_law_values" (top 22) f fd) (T : Glb K mg)  : FnOk P w K mg base CX0 1 f fd ["_law_pieces", "_law_places_here"] (spF K 2 GL.values.f) := by
 have nd := sc__law_values.nd
 refine fun_ok (k := 0) (g := GL.values.g) Fn sc__law_values (fun cdv A outer s H E hr => ?_) (fun ds r hl e => does_run e)
 exact (pssv_cons (psv_setO (i := 2) nd (pvf_lst pas_nil))
  (pssv_cons (psv_set (i := 3) nd pv_int)
  (pssv_cons (psv_for PassesOwn.never rfl (piv_seq (pv_var 1)) (pgv_name (i := 4) nd) (pssv_cons (psv_while 100000 PassesOwn.never (PWv.t (pwv_and (pt_lt (pw_var 3) (PV.w (pv_len T.b_len (pav_cons (pw_var 0) pav_nil)))) (pwv_and (pt_isnot (PV.n (pv_ix (PV.w (pv_ix (pw_var 0) (pw_var 3))) pwI)) (PV.n pv_non)) (pwv_and1 (pt_le (PV.w (pv_ix (PV.w (pv_ix (pw_var 0) (pw_var 3))) pwI)) (pw_var 4)))))) (pssv_one (psv_set (i := 3) nd (pv_addI (pw_var 3) pwI))))
  (pssv_one (psv_if (PWv.t (pwv_and (pt_lt (pw_var 3) (PV.w (pv_len T.b_len (pav_cons (pw_var 0) pav_nil)))) (pwv_and1 (PWv.t (pwv_or (pt_is (PV.n (pv_ix (PV.w (pv_ix (pw_var 0) (pw_var 3))) pwI)) (PV.n pv_non)) (pwv_or1 (pt_le (PV.w (pv_ix (PV.w (pv_ix (pw_var 0) (pw_var 3))) pwI)) (pw_var 4)))))))) (pssv_one (psv_app (i := 2) (pv_ix (PV.w (pv_ix (pw_var 0) (pw_var 3))) pwI))) (pssv_one (psv_app (i := 2) pv_non))))))
  (pssv_one (psv_retX 2)))))
theorem sc__law_last : FnScope ["_law_rows_here", "_law_place", "_law_over", "_law_value"] ["_law_rows_here", "_law_place"] (defScope (top 23)) := {}
theorem fok__law_last {f : Addr} {fd : FuncData} (Fn : Fun K "_law_last" "_law_last" (top 23) f fd) (T : Glb K mg)  : FnOk P w K mg base CX0 1 f fd ["_law_rows_here", "_law_place"] (spF K 2 K37.L_last.f) := by
 have nd := sc__law_last.nd
 refine fun_ok (k := 0) (g := K37.L_last.g) Fn sc__law_last (fun cdv A outer s H E hr => ?_) (fun ds r hl e => does_run e)
 exact (pssv_cons (psv_for PassesOwn.never rfl (piv_rev trivial T.b_reversed (pv_var 0)) (pgv_tup (n := 2) rfl (pgsv_cons (pgv_name (i := 2) nd) (pgsv_cons (pgv_name (i := 3) nd) pgsv_nil))) (pssv_one (psv_if (PWv.t (pwv_and (PWv.t (pwv_or (pt_is (PV.n (pv_ix (pw_var 2) pwI)) (PV.n pv_non)) (pwv_or1 (pt_le (PV.w (pv_ix (pw_var 2) pwI)) (pw_var 1))))) (pwv_and1 (PWv.t (pwv_or (pt_is (PV.n (pv_ix (pw_var 2) pwI)) (PV.n pv_non)) (pwv_or1 (pt_lt (pw_var 1) (PV.w (pv_ix (pw_var 2) pwI))))))))) (pssv_one (psv_ret (pw_var 3))) pssv_nil)))
  (pssv_one (psv_ret (PV.w pv_non))))
theorem sc_law : FnScope ["_law_script", "_law_ends", "_law_rows_here", "_law_told", "_law_stood", "_law_over", "_law_value", "_law_places_here"] ["_law_script"] (defScope (top 24)) := {}
theorem fok_law {f : Addr} {fd : FuncData} (Fn : Fun K "law" "law" (top 24) f fd) (T : Glb K mg) (C__law_rows : CalR P w K mg base "_law_rows" 4 2 1 K37.L_rows.f) (C__law_places : Cal P w K mg base "_law_places" 1 2 GL.places2.f) (C_put : Cal P w K mg base "put" 5 3 GP.put.f) (C__law_is_map : Cal P w K mg base "_law_is_map" 2 1 GL.is_map.f) (C__law_values : Cal P w K mg base "_law_values" 1 2 GL.values.f) (C_formed : Cal P w K mg base "formed" 5 1 GP.formed.f) (C__law_last : Cal P w K mg base "_law_last" 1 2 K37.L_last.f) : FnOk P w K mg base CX0 6 f fd ["_law_script"] (spF K 1 K37.law.f) := by
 have nd := sc_law.nd
 have nI0 : (["_law_place", "_law_rows_here"] : List Str).Nodup := by decide +kernel
 have nI1 : (["_law_kept"] : List Str).Nodup := by decide +kernel
 refine fun_ok (k := 5) (g := K37.law.g) Fn sc_law (fun cdv A outer s H E hr => ?_) (fun ds r hl e => does_run e)
 exact (pssv_cons (psv_setB (i := 1) nd (pvo_s pao_nil))
  (pssv_cons (psv_setR (i := 2) nd (pvx_callR C__law_rows hr (pax_cons (pv_var 0) (pax_here (i := 1) pas_nil))))
  (pssv_cons (psv_set (i := 3) nd (PVf.s (pvf_lst pas_nil)))
  (pssv_cons (psv_setO (i := 4) nd (pvf_lst pas_nil))
  (pssv_cons (psv_for PassesOwn.never rfl (piv_seq (pv_var 2)) (pgv_tup (n := 2) rfl (pgsv_cons (pgv_name (i := 5) nd) (pgsv_cons (pgv_name (i := 6) nd) pgsv_nil))) (pssv_cons (psv_set (i := 3) nd (pv_callC C_put hr (pan_cons (pnV 3) (pan_cons (pnV 5) (pan_cons (pnV 6) pan_nil)))))
  (pssv_one (psv_app (i := 4) (PVf.s (pvf_lst (pas_cons (pv_var 3) (pas_cons (PVf.s (pvf_list T.b_list (pw_var 3))) pas_nil))))))))
  (pssv_cons (psv_if (ptv_not (PVn.t (PV.n (pv_callC C__law_is_map hr (pan_cons (pnV 3) pan_nil))))) (pssv_one (psv_ret (PV.w pv_bl))) pssv_nil)
  (pssv_cons (psv_set (i := 7) nd (PVf.s (pvf_relO 1 (pvf_callC C__law_places hr (pan_cons (pnV 3) (pan_cons (pnV 1) pan_nil))))))
  (pssv_cons (psv_if (pt_ne hr (PV.n (pv_callC C__law_values hr (pan_cons (pnV 3) (pan_cons (pnV 7) pan_nil)))) (PV.n (PVf.s (pvf_comp (NY := ["_law_place", "_law_rows_here"]) (mp := [none, some 2]) (comp_scope (by kernel_rfl)) rfl (piv_seq (pv_var 7)) (fun c => (pgv_name (i := 0) nI0)) (fun c => pfv_nil) (fun c => (pv_callC C__law_last hr (pan_cons (pnV 1) (pan_cons (pnV 0) pan_nil)))))))) (pssv_one (psv_ret (PV.w pv_bl))) pssv_nil)
  (pssv_cons (psv_if (pt_ne hr (PV.n (pv_callC C_formed hr (pan_cons (PV.n (PVf.s (pvf_list T.b_list (pw_var 2)))) pan_nil))) (pnV 3)) (pssv_one (psv_ret (PV.w pv_bl))) pssv_nil)
  (pssv_cons (psv_if (PWv.t (pwv_or (pt_ne hr (PV.n (pv_callC C_put hr (pan_cons (pnV 3) (pan_cons (PV.n (pv_tup (pas_cons pv_non (pas_cons pv_non pas_nil)))) (pan_cons (PV.n pv_non) pan_nil))))) (PV.n (PVf.s (pvf_lst pas_nil)))) (pwv_or1 (pt_ne hr (PV.n (pv_callC C_put hr (pan_cons (pnV 3) (pan_cons (PV.n (pv_tup (pas_cons pv_non (pas_cons pv_non pas_nil)))) (pan_cons pnI pan_nil))))) (PV.n (PVf.s (pvf_lst (pas_cons (pv_tup (pas_cons pv_non (pas_cons pv_non (pas_cons pv_int pas_nil)))) pas_nil)))))))) (pssv_one (psv_ret (PV.w pv_bl))) pssv_nil)
  (pssv_one (psv_rel 4 (psv_ret (PV.w (pv_all rfl T.b_all (pav_cons (PV.w (PVf.s (pvf_comp (NY := ["_law_kept"]) (mp := [none]) (comp_scope (by kernel_rfl)) rfl (piv_seq (pv_var 4)) (fun c => (pgv_name (i := 0) nI1)) (fun c => pfv_nil) (fun c => (pv_eq hr (PV.n (pv_ix (pw_var 0) pwI)) (PV.n (pv_ix (pw_var 0) pwI))))))) pav_nil))))))))))))))))
end
end K37
namespace K37
open PySem PyProof.Rows L2 FL
open Builtin.Int (intBits)
/-- the list of ends, as it is lent -/
noncomputable def oT (es : List Int) : OT := .lst ((es.map D.int).map OT.val)
theorem ot_oT (es : List Int) : otD (oT es) = .lst (es.map D.int) := by unfold oT; rw [otD, otDs_vals]
theorem seqR_nx {g : FS} {f : FX} {ds ds' : List Sl} (h : g ds = some (.nx ds')) : seqR g f ds = f ds' := by unfold seqR; rw [h]; rfl
theorem app_oT {es : List Int} {i : Nat} {r : Option Nat} {f : FE} {ds : List Sl} {x : Int} (h : ds[i]? = some (.ob r (oT es))) (hf : f ds = some (.int x)) (hl : es.length < 16777216) : appP (varP i) f ds = some (.nx (ds.set i (.ob r (oT (es ++ [x]))))) := by
 have hl' : es.length < sizeLine := hl
 unfold appP varP
 rw [h]
 simp only [Option.bind_some, hf]
 unfold oT at h ⊢
 simp [hl, putP, h, putO]
theorem ends_ix {es : List Int} (hne : 0 < es.length) (q : Int) : ∃ e, modD (.int q) (.int (es.length : Int)) = some (.int (q % (es.length : Int))) ∧ ixD (.lst (es.map D.int)) (.int (q % (es.length : Int))) = some (.int e) := by
 have i0 := Int.emod_nonneg q (show (es.length : Int) ≠ 0 by omega)
 have i1 := Int.emod_lt_of_pos q (show 0 < (es.length : Int) by omega)
 exact ⟨_, modD_pos _ (by omega), ints_at es i0 i1⟩
theorem ne_nil (es : List Int) : neD (.lst (es.map D.int)) (.lst []) = some (.bl (!es.isEmpty)) := by
 rw [neD_nil (shals_ints 39 es)]; cases es <;> rfl
theorem begin_ex (c m : Int) (es : List Int) (hm : 0 ≤ m) : ∃ lo : Int, K37.L_begin.f [.int c, .int m, .lst (es.map D.int)] = some (.val (.int lo)) := by
 have p1 : powD (.int 10) (.int 60) = some (.int (10 ^ 60)) := pow10 (by decide) (by decide)
 have a5 : mulD (.int 2) (.int (10 ^ 60)) = some (.int (2 * 10 ^ 60)) := mulD_ok (.of_left (bits_nat (by decide)))
 have r3 : ∀ x, modD (.int x) (.int (2 * 10 ^ 60 + 1)) = some (.int (x % (2 * 10 ^ 60 + 1))) := fun x => modD_pos x (by decide)
 have nen := ne_nil es
 obtain ⟨gr, hgr⟩ := great_ex c
 unfold K37.L_begin.f runG K37.L_begin.g
 by_cases h1 : m % 4 = 1
 · obtain ⟨g, _, hg⟩ := two_ex (c % (2 * 10 ^ 60 + 1) - 10 ^ 60) gr (r := m / 4 % 2) (by omega) (by omega)
   exact ⟨g, by simp [-Int.reducePow, -Nat.reducePow, args, h1, p1, a5, r3, hgr, hg]⟩
 · by_cases h0 : m % 4 = 0
   · cases hE : es.isEmpty with
     | true =>
       rw [hE] at nen
       exact ⟨_, by simp [args, h0, nen]; rfl⟩
     | false =>
       rw [hE] at nen
       obtain ⟨e, e1, e2⟩ := ends_ix (es := es) (by cases es <;> simp_all) (m / 4)
       have le : (es.map D.int).length = es.length := by simp
       exact ⟨_, by simp [args, h0, nen, e1, e2]; rfl⟩
   · exact ⟨_, by simp [args, h0, h1]; rfl⟩
theorem behind_ex (c m lo : Int) (es : List Int) (hc : intBits c ≤ 1048576) : ∃ bh : Int, lo < bh ∧ K37.L_behind.f [.int c, .int m, .lst (es.map D.int), .int lo] = some (.val (.int bh)) := by
 have p1 : powD (.int 10) (.int 60) = some (.int (10 ^ 60)) := pow10 (by decide) (by decide)
 have m1 : IntMulOk c 69621 := mulOk_of_bits hc (bits_nat (m := 200) (by decide)) (by decide)
 have q1 : (0 : Int) < 10 ^ 60 := by decide
 have nen := ne_nil es
 unfold K37.L_behind.f runG K37.L_behind.g
 have c3 : 0 ≤ m / 4 % 3 := by omega
 have c4 : 0 ≤ m / 4 % 40 := by omega
 have c5 := Int.emod_nonneg (c * 69621) (show (10 : Int) ^ 60 ≠ 0 by decide)
 rcases (by omega : m % 4 = 0 ∨ m % 4 = 1 ∨ m % 4 = 2 ∨ m % 4 = 3) with h | h | h | h
 · exact ⟨lo + 1 + m / 4 % 3, by omega, by simp [args, h]⟩
 · exact ⟨lo + 1 + m / 4 % 40, by omega, by simp [args, h]⟩
 · exact ⟨lo + 1 + c * 69621 % 10 ^ 60, by omega, by simp [-Int.reducePow, -Nat.reducePow, args, h, p1, mulD_ok m1, q1]⟩
 · cases hE : es.isEmpty with
   | true =>
     rw [hE] at nen
     exact ⟨lo + 1 + m / 4 % 3, by omega, by simp [args, h, nen]⟩
   | false =>
     rw [hE] at nen
     obtain ⟨e, e1, e2⟩ := ends_ix (es := es) (by cases es <;> simp_all) (m / 4)
     refine ⟨max (lo + 1 + m / 4 % 3) e, by omega, ?_⟩
     simp [args, h, nen, e1, e2]
theorem in2 (x p q : Int) : inD false (.int x) (.tup [.int p, .int q]) = some (.bl (decide (x = p ∨ x = q))) := by
 unfold inD
 have e1 : decide (p = x) = decide (x = p) := by simp [eq_comm]
 have e2 : decide (q = x) = decide (x = q) := by simp [eq_comm]
 simp [sclD, e1, e2]
theorem span_if (w lo bh : Int) (hlt : lo < bh) (x0 x1 x2 x3 x7 : Sl) : ∃ s : Spn, okS s ∧ ∀ f : FX, seqR (ifG (testB (bin2 ltD (bin2 modD (bin2 fdivD (getW 4) (konst (.int 2003))) (konst (.int 12))) (konst (.int 2)))) (setG 5 (konst .non)) nextG) (seqR (ifG (testB (bin2 (inD false) (bin2 modD (bin2 fdivD (getW 4) (konst (.int 2003))) (konst (.int 12))) (mkT (sized (consA (konst (.int 1)) (consA (konst (.int 2)) nilA)))))) (setG 6 (konst .non)) nextG) f) [x0, x1, x2, x3, .v (.int w), .v (.int lo), .v (.int bh), x7] = f [x0, x1, x2, x3, .v (.int w), .v (oi s.1), .v (oi s.2), x7] := by
 rcases (by omega : w / 2003 % 12 = 0 ∨ w / 2003 % 12 = 1 ∨ w / 2003 % 12 = 2 ∨ 2 < w / 2003 % 12) with h | h | h | h
 · exact ⟨(none, some bh), (fun x y e1 _ => nomatch e1), fun f => by rw [seqR_nx (by simp [h]; rfl), seqR_nx (by simp [h]; rfl)]; rfl⟩
 · exact ⟨(none, none), (fun x y e1 _ => nomatch e1), fun f => by rw [seqR_nx (by simp [h]; rfl), seqR_nx (by simp [h]; rfl)]; rfl⟩
 · exact ⟨(some lo, none), (fun x y _ e2 => nomatch e2), fun f => by rw [seqR_nx (by simp [h]; rfl), seqR_nx (by simp [h]; rfl)]; rfl⟩
 · have h1 : ¬ w / 2003 % 12 < 2 := by omega
   have h2 : w / 2003 % 12 ≠ 1 := by omega
   have h3 : w / 2003 % 12 ≠ 2 := by omega
   exact ⟨(some lo, some bh), (fun x y e1 e2 => by cases e1; cases e2; exact hlt), fun f => by rw [seqR_nx (by simp [h1]; rfl), seqR_nx (by simp [in2, h2, h3]; rfl)]; rfl⟩
theorem value_if (c w : Int) (x1 x2 x3 x5 x6 x7 : Sl) : ∃ v : Option Int, ∀ f : FX, seqR (setG 7 (bin2 subD (bin2 modD (bin2 fdivD (getW 4) (konst (.int 30011))) (konst (.int 5))) (konst (.int 1))))
 (seqR (ifG (testB (bin2 eqD (getW 7) (un1 negD (konst (.int 1))))) (setG 7 (konst .non)) nextG)
 (seqR (ifG (testB (bin2 eqD (getW 7) (konst (.int 3)))) (setG 7 (bin2 subD (bin2 modD (getW 0) (bin2 addD (bin2 mulD (konst (.int 2)) (bin2 powD (konst (.int 10)) (konst (.int 60)))) (konst (.int 1)))) (bin2 powD (konst (.int 10)) (konst (.int 60))))) nextG) f)) [.v (.int c), x1, x2, x3, .v (.int w), x5, x6, x7] = f [.v (.int c), x1, x2, x3, .v (.int w), x5, x6, .v (oi v)] := by
 have p1 : powD (.int 10) (.int 60) = some (.int (10 ^ 60)) := pow10 (by decide) (by decide)
 have a5 : mulD (.int 2) (.int (10 ^ 60)) = some (.int (2 * 10 ^ 60)) := mulD_ok (.of_left (bits_nat (by decide)))
 have r3 : ∀ x, modD (.int x) (.int (2 * 10 ^ 60 + 1)) = some (.int (x % (2 * 10 ^ 60 + 1))) := fun x => modD_pos x (by decide)
 have s1 : ∀ f : FX, seqR (setG 7 (bin2 subD (bin2 modD (bin2 fdivD (getW 4) (konst (.int 30011))) (konst (.int 5))) (konst (.int 1)))) f [.v (.int c), x1, x2, x3, .v (.int w), x5, x6, x7] = f [.v (.int c), x1, x2, x3, .v (.int w), x5, x6, .v (.int (w / 30011 % 5 - 1))] := fun f => seqR_nx (by simp)
 rcases (by omega : w / 30011 % 5 = 0 ∨ w / 30011 % 5 = 4 ∨ (w / 30011 % 5 ≠ 0 ∧ w / 30011 % 5 ≠ 4)) with h | h | ⟨h, h'⟩
 · exact ⟨none, fun f => by rw [s1, seqR_nx (by simp [h]; rfl), seqR_nx (by simp; rfl)]; rfl⟩
 · exact ⟨some (c % (2 * 10 ^ 60 + 1) - 10 ^ 60), fun f => by rw [s1, seqR_nx (by simp [h]; rfl), seqR_nx (by simp [-Int.reducePow, -Nat.reducePow, p1, a5, r3]; rfl)]; rfl⟩
 · have h1 : w / 30011 % 5 - 1 ≠ -1 := by omega
   have h2 : w / 30011 % 5 - 1 ≠ 3 := by omega
   exact ⟨some (w / 30011 % 5 - 1), fun f => by rw [s1, seqR_nx (by simp [h1]; rfl), seqR_nx (by simp [h2]; rfl)]; rfl⟩
theorem lentR_eq {g : FX} {n p : Nat} {T T' : OT} {l : List D} {d : D} {ds : List Sl} (h : g ((args n l).set p (.ob (some p) T)) = some (d, ds)) (h2 : ds[p]? = some (.ob (some p) T')) : lentR g n p T l = some (d, T') := by
 unfold lentR
 rw [h]
 simp [h2, obAt]
theorem rel_oT {f : FE} {ds : List Sl} {i : Nat} {r : Option Nat} {es : List Int} {x : Int} (h : ds[i]? = some (.ob r (oT es))) (hf : f (ds.set i (.v (.lst (es.map D.int)))) = some (.int x)) : relVO i f ds = some (.int x) := by
 unfold relVO relO
 rw [h]
 simp only [ot_oT, hf, Option.bind_some]
 rfl
theorem rowK_ex (c k : Int) (es : List Int) (hc : intBits c ≤ 1048576) (hk : 0 ≤ k) (hk' : k ≤ 1000) (hl : es.length + 2 < 16777216) : ∃ (r : Rv) (a b : Int), okS r.1 ∧ K37.L_row.f (oT es) [.int c, .int k, .non] = some (rvD r, oT (es ++ [a, b])) := by
 have m1 : IntMulOk c 48271 := mulOk_of_bits hc (bits_nat (m := 200) (by decide)) (by decide)
 have m2 : IntMulOk c 39373 := mulOk_of_bits hc (bits_nat (m := 200) (by decide)) (by decide)
 have kk : IntMulOk k k := mulOk_of_bits (bits_nat (m := 64) (by omega)) (bits_nat (m := 64) (by omega)) (by decide)
 have kb : 0 ≤ k * k ∧ k * k ≤ 1000000 := ⟨Int.mul_nonneg hk hk, Int.mul_le_mul hk' hk' hk (by decide)⟩
 have k1 : IntMulOk (k * k) 69621 := mulOk_of_bits (bits_nat (m := 64) (by omega)) (bits_nat (m := 64) (by decide)) (by decide)
 have k2 : IntMulOk (k * k) 16807 := mulOk_of_bits (bits_nat (m := 64) (by omega)) (bits_nat (m := 64) (by decide)) (by decide)
 generalize hm1 : (c * 48271 + k * k * 69621 + 7919) % 2147483647 = m'
 have hm1' : 0 ≤ m' ∧ m' < 2147483647 := by omega
 have mm : IntMulOk m' m' := mulOk_of_bits (bits_nat (m := 64) (by omega)) (bits_nat (m := 64) (by omega)) (by decide)
 generalize hm : m' * m' % 2147483563 = m
 have hm' : 0 ≤ m ∧ m < 2147483563 := by omega
 generalize hw1 : (c * 39373 + k * k * 16807 + 611953) % 2147483629 = w'
 have hw1' : 0 ≤ w' ∧ w' < 2147483629 := by omega
 have ww : IntMulOk w' m := mulOk_of_bits (bits_nat (m := 64) (by omega)) (bits_nat (m := 64) (by omega)) (by decide)
 generalize hw : w' * m % 2147483549 = w
 obtain ⟨lo, elo⟩ := begin_ex c m es hm'.1
 obtain ⟨bh, hlt, ebh⟩ := behind_ex c w lo es hc
 obtain ⟨s, hs, es1⟩ := span_if w lo bh hlt (.v (.int c)) (.v (.int k)) (.ob (some 2) (oT (es ++ [lo] ++ [bh]))) (.v (.int m)) .no
 obtain ⟨v, ev⟩ := value_if c w (.v (.int k)) (.ob (some 2) (oT (es ++ [lo] ++ [bh]))) (.v (.int m)) (.v (oi s.1)) (.v (oi s.2)) .no
 refine ⟨(s, v), lo, bh, hs, lentR_eq (ds := [.v (.int c), .v (.int k), .ob (some 2) (oT (es ++ [lo] ++ [bh])), .v (.int m), .v (.int w), .v (oi s.1), .v (oi s.2), .v (oi v)]) ?_ (by simp)⟩
 unfold K37.L_row.g
 rw [seqR_nx (ds' := [.v (.int c), .v (.int k), .ob (some 2) (oT es), .v (.int m'), .no, .no, .no, .no]) (by simp [args, mulD_ok m1, mulD_ok kk, mulD_ok k1, hm1]),
  seqR_nx (ds' := [.v (.int c), .v (.int k), .ob (some 2) (oT es), .v (.int m), .no, .no, .no, .no]) (by simp [mulD_ok mm, hm]),
  seqR_nx (ds' := [.v (.int c), .v (.int k), .ob (some 2) (oT es), .v (.int m), .v (.int w'), .no, .no, .no]) (by simp [mulD_ok m2, mulD_ok kk, mulD_ok k2, hw1]),
  seqR_nx (ds' := [.v (.int c), .v (.int k), .ob (some 2) (oT es), .v (.int m), .v (.int w), .no, .no, .no]) (by simp [mulD_ok ww, hw]),
  seqR_nx (ds' := [.v (.int c), .v (.int k), .ob (some 2) (oT es), .v (.int m), .v (.int w), .v (.int lo), .no, .no]) (by
   have := rel_oT (f := callV 3 K37.L_begin.f (consA (getW 0) (consA (getW 3) (consA (getW 2) nilA)))) (ds := [.v (.int c), .v (.int k), .ob (some 2) (oT es), .v (.int m), .v (.int w), .no, .no, .no]) (i := 2) rfl (by simp [elo]; rfl)
   simp only [setG_eq, this]; rfl),
  seqR_nx (ds' := [.v (.int c), .v (.int k), .ob (some 2) (oT es), .v (.int m), .v (.int w), .v (.int lo), .v (.int bh), .no]) (by
   have := rel_oT (f := callV 4 K37.L_behind.f (consA (getW 0) (consA (getW 4) (consA (getW 2) (consA (getW 5) nilA))))) (ds := [.v (.int c), .v (.int k), .ob (some 2) (oT es), .v (.int m), .v (.int w), .v (.int lo), .no, .no]) (i := 2) rfl (by simp [ebh]; rfl)
   simp only [setG_eq, this]; rfl),
  seqR_nx (app_oT (es := es) (x := lo) rfl (by simp) (by omega)), seqR_nx (app_oT (es := es ++ [lo]) (x := bh) (by rfl) (by simp) (by simp; omega))]
 simp only [List.set_cons_succ, List.set_cons_zero]
 rw [es1, ev]
 have e0 : D.tup [.tup [oi s.1, oi s.2], oi v] = rvD (s, v) := rfl
 simp [vR, e0]
theorem toldK_ex (c : Int) (es : List Int) (hl : es.length + 2 < 16777216) : ∃ (r : Rv) (a b : Int), okS r.1 ∧ K37.L_told_row.f (oT es) [.int c, .non] = some (rvD r, oT (es ++ [a, b])) := by
 have p1 : powD (.int 10) (.int 60) = some (.int (10 ^ 60)) := pow10 (by decide) (by decide)
 have a5 : mulD (.int 2) (.int (10 ^ 60)) = some (.int (2 * 10 ^ 60)) := mulD_ok (.of_left (bits_nat (by decide)))
 have r3 : ∀ x, modD (.int x) (.int (2 * 10 ^ 60 + 1)) = some (.int (x % (2 * 10 ^ 60 + 1))) := fun x => modD_pos x (by decide)
 have r4 : ∀ x, modD (.int x) (.int (2 * 10 ^ 60 + 2)) = some (.int (x % (2 * 10 ^ 60 + 2))) := fun x => modD_pos x (by decide)
 have r5 : ∀ x, modD (.int x) (.int (10 ^ 60)) = some (.int (x % 10 ^ 60)) := fun x => modD_pos x (by decide)
 have f3 : ∀ x, fdivD (.int x) (.int (2 * 10 ^ 60 + 1)) = some (.int (x / (2 * 10 ^ 60 + 1))) := fun x => if_pos (by unfold divOk; decide)
 have f5 : ∀ x, fdivD (.int x) (.int (10 ^ 60)) = some (.int (x / 10 ^ 60)) := fun x => if_pos (by unfold divOk; decide)
 generalize hlo : c / 4 % (2 * 10 ^ 60 + 1) - 10 ^ 60 = lo
 generalize hre : c / 4 / (2 * 10 ^ 60 + 1) = re
 generalize hbh : lo + 1 + re % 10 ^ 60 = bh
 have hlt : lo < bh := by
  have := Int.emod_nonneg re (show (10 : Int) ^ 60 ≠ 0 by decide)
  omega
 generalize hva : re / 10 ^ 60 % (2 * 10 ^ 60 + 2) - 10 ^ 60 = va
 obtain ⟨v, ev⟩ : ∃ v : Option Int, ∀ (x0 x1 x2 x3 x4 x5 : Sl), (ifG (testB (bin2 gtD (getW 6) (bin2 powD (konst (.int 10)) (konst (.int 60))))) (setG 6 (konst .non)) nextG) [x0, x1, x2, x3, x4, x5, .v (.int va)] = some (.nx [x0, x1, x2, x3, x4, x5, .v (oi v)]) := by
  by_cases h : 10 ^ 60 < va
  · exact ⟨none, fun x0 x1 x2 x3 x4 x5 => by simp [-Int.reducePow, -Nat.reducePow, p1, h]⟩
  · exact ⟨some va, fun x0 x1 x2 x3 x4 x5 => by simp [-Int.reducePow, -Nat.reducePow, p1, h]⟩
 obtain ⟨s, hs, e5⟩ : ∃ s : Spn, okS s ∧ ∀ (x0 x1 x4 x6 : Sl) (f : FX), seqR (ifG (testB (bin2 eqD (bin2 modD (getW 2) (konst (.int 2))) (konst (.int 1)))) (setG 3 (konst .non)) nextG) (seqR (ifG (testB (bin2 gtD (getW 2) (konst (.int 1)))) (setG 5 (konst .non)) nextG) f) [x0, x1, .v (.int (c % 4)), .v (.int lo), x4, .v (.int bh), x6] = f [x0, x1, .v (.int (c % 4)), .v (oi s.1), x4, .v (oi s.2), x6] := by
  rcases (by omega : c % 4 = 0 ∨ c % 4 = 1 ∨ c % 4 = 2 ∨ c % 4 = 3) with h | h | h | h <;> rw [h]
  · exact ⟨(some lo, some bh), (fun x y e1 e2 => by cases e1; cases e2; exact hlt), fun x0 x1 x4 x6 f => by rw [seqR_nx (by simp; rfl), seqR_nx (by simp; rfl)]; rfl⟩
  · exact ⟨(none, some bh), (fun x y e1 _ => nomatch e1), fun x0 x1 x4 x6 f => by rw [seqR_nx (by simp; rfl), seqR_nx (by simp; rfl)]; rfl⟩
  · exact ⟨(some lo, none), (fun x y _ e2 => nomatch e2), fun x0 x1 x4 x6 f => by rw [seqR_nx (by simp; rfl), seqR_nx (by simp; rfl)]; rfl⟩
  · exact ⟨(none, none), (fun x y e1 _ => nomatch e1), fun x0 x1 x4 x6 f => by rw [seqR_nx (by simp; rfl), seqR_nx (by simp; rfl)]; rfl⟩
 refine ⟨(s, v), lo, bh, hs, lentR_eq (ds := [.v (.int c), .ob (some 1) (oT (es ++ [lo] ++ [bh])), .v (.int (c % 4)), .v (oi s.1), .v (.int re), .v (oi s.2), .v (oi v)]) ?_ (by simp)⟩
 unfold K37.L_told_row.g
 rw [seqR_nx (ds' := [.v (.int c), .ob (some 1) (oT es), .v (.int (c % 4)), .no, .no, .no, .no]) (by simp [args]),
  seqR_nx (ds' := [.v (.int c), .ob (some 1) (oT es), .v (.int (c % 4)), .v (.int lo), .no, .no, .no]) (by simp [-Int.reducePow, -Nat.reducePow, p1, a5, r3, hlo]),
  seqR_nx (ds' := [.v (.int c), .ob (some 1) (oT es), .v (.int (c % 4)), .v (.int lo), .v (.int re), .no, .no]) (by simp [-Int.reducePow, -Nat.reducePow, p1, a5, f3, hre]),
  seqR_nx (ds' := [.v (.int c), .ob (some 1) (oT es), .v (.int (c % 4)), .v (.int lo), .v (.int re), .v (.int bh), .no]) (by simp [-Int.reducePow, -Nat.reducePow, p1, r5, hbh]),
  seqR_nx (ds' := [.v (.int c), .ob (some 1) (oT es), .v (.int (c % 4)), .v (.int lo), .v (.int re), .v (.int bh), .v (.int va)]) (by simp [-Int.reducePow, -Nat.reducePow, p1, a5, f5, r4, hva]),
  seqR_nx (app_oT (es := es) (x := lo) rfl (by simp) (by omega)), seqR_nx (app_oT (es := es ++ [lo]) (x := bh) (by rfl) (by simp) (by simp; omega))]
 simp only [List.set_cons_succ, List.set_cons_zero]
 rw [seqR_nx (ev _ _ _ _ _ _), e5]
 have e0 : D.tup [.tup [oi s.1, oi s.2], oi v] = rvD (s, v) := rfl
 simp [vR, e0]
theorem ref_oT (es : List Int) : refO (oT es) = true := rfl
theorem rowsK_loop (N : Sl) : ∀ (cs : List Int) (rows : List Rv) (es : List Int) (x : Sl), (∀ c ∈ cs, intBits c ≤ 1048576) → rows.length + cs.length ≤ 1000 → es.length = 2 * rows.length → (∀ r ∈ rows, okS r.1) →
  ∃ (rows' : List Rv) (es' : List Int) (x' : Sl), loopG (nameG 3) K37.L_rows.b1 (cs.map D.int) [N, .ob (some 1) (oT es), .own (rows.map rvD), x] = some (.nx [N, .ob (some 1) (oT es'), .own (rows'.map rvD), x']) ∧ rows'.length = rows.length + cs.length ∧ es'.length = 2 * rows'.length ∧ ∀ r ∈ rows', okS r.1
 | [], rows, es, x, _, _, he, ho => ⟨rows, es, x, rfl, rfl, he, ho⟩
 | c :: cs, rows, es, x, hc, hl, he, ho => by
   simp only [List.length_cons] at hl
   obtain ⟨r, a, b, hr, er⟩ := rowK_ex c (rows.length : Int) es (hc c List.mem_cons_self) (by omega) (by omega) (by omega)
   obtain ⟨rows', es', x', e1, e2, e3, e4⟩ := rowsK_loop N cs (rows ++ [r]) (es ++ [a, b]) (.v (.int c)) (fun d hd => hc d (List.mem_cons_of_mem _ hd)) (by simp; omega) (by simp; omega) (fun q hq => (List.mem_append.mp hq).elim (ho q) fun z => by cases List.mem_singleton.mp z; exact hr)
   refine ⟨rows', es', x', ?_, by rw [e2]; simp; omega, e3, e4⟩
   have hz : rows.length < 16777216 := by omega
   have turn : K37.L_rows.b1 [N, .ob (some 1) (oT es), .own (rows.map rvD), .v (.int c)] = some (.nx [N, .ob (some 1) (oT (es ++ [a, b])), .own ((rows ++ [r]).map rvD), .v (.int c)]) := by
    unfold K37.L_rows.b1 appR callR
    simp [hereA, er, ref_oT, hz]
   simp only [List.map_cons, loopG, nameG, Option.bind_some, List.set_cons_succ, List.set_cons_zero, turn]
   exact e1
theorem told_comp (S : OT → List Sl) (hS : ∀ es, S (oT es) = [.no, .ob (some 1) (oT es)]) : ∀ (cs : List Int) (es : List Int) , es.length + 2 * cs.length ≤ 1000 →
  ∃ (rows : List Rv) (es' : List Int), compLX (nameG 0) (callR 2 1 K37.L_told_row.f (consA (getV 0) (hereA nilA))) S 1 (oT es) (cs.map D.int) = some (rows.map rvD, oT es') ∧ rows.length = cs.length ∧ es'.length = es.length + 2 * cs.length ∧ ∀ r ∈ rows, okS r.1
 | [], es, _ => ⟨[], es, rfl, rfl, rfl, fun _ h => nomatch h⟩
 | c :: cs, es, hl => by
   simp only [List.length_cons] at hl
   obtain ⟨r, a, b, hr, er⟩ := toldK_ex c es (by omega)
   obtain ⟨rows, es', e1, e2, e3, e4⟩ := told_comp S hS cs (es ++ [a, b]) (by simp; omega)
   refine ⟨r :: rows, es', ?_, by simp [e2], by rw [e3]; simp; omega, fun q hq => (List.mem_cons.mp hq).elim (fun z => z ▸ hr) (e4 q)⟩
   have t1 : callR 2 1 K37.L_told_row.f (consA (getV 0) (hereA nilA)) [.v (.int c), .ob (some 1) (oT es)] = some (rvD r, [.v (.int c), .ob (some 1) (oT (es ++ [a, b]))]) := by
    unfold callR
    simp [hereA, er, ref_oT]
   simp only [List.map_cons, compLX, hS, nameG, Option.bind_some, List.set_cons_succ, List.set_cons_zero, t1]
   simp [obAt, e1]
theorem rowsK_ex (ns : List Int) (hl : ns.length ≤ 63) (hb : ∀ c ∈ ns, intBits c ≤ 1048576) : ∃ (rows : List Rv) (es : List Int), (∀ r ∈ rows, okS r.1) ∧ rows.length ≤ 70 ∧ es.length = 2 * rows.length ∧ K37.L_rows.f (oT []) [.lst (ns.map D.int), .non] = some (.lst (rows.map rvD), oT es) := by
 have nen := ne_nil ns
 by_cases h : ns.isEmpty = false ∧ cel ns 0 % 2 = 1
 · obtain ⟨h1, h2⟩ := h
   rw [h1] at nen
   have i0 := ints_at ns (k := 0) (by omega) (by cases ns <;> simp_all)
   obtain ⟨cs, l1, l2, hcs, ecs⟩ := cells_cut ns hb 1 63
   have ecs : cutD (ns.map D.int) (some 1) (some 63) = cs.map D.int := ecs
   obtain ⟨rows, es', e1, e2, e3, e4⟩ := told_comp (fun T => (slotsD [none, some 1] [.v (.lst (ns.map D.int)), .ob (some 1) (oT []), .no, .no]).set 1 (.ob (some 1) T)) (fun es => rfl) cs [] (by simp; omega)
   have z1 : cs.length ≤ 16777216 := by omega
   refine ⟨rows, es', e4, by omega, by rw [e3, e2]; simp, lentR_eq (ds := [.v (.lst (ns.map D.int)), .ob (some 1) (oT es'), .no, .no]) ?_ (by simp)⟩
   unfold K37.L_rows.g ifR compR
   simp [args, nen, i0, h2, ecs, z1, ref_oT, e1]
 · obtain ⟨cs, l1, l2, hcs, ecs⟩ : ∃ cs : List Int, cs.length ≤ ns.length ∧ cs.length ≤ 70 ∧ (∀ c ∈ cs, intBits c ≤ 1048576) ∧ cutD (ns.map D.int) none (some 70) = cs.map D.int := by
    obtain ⟨cs, l1, l2, hcs, ecs⟩ := cells_cut ns hb 0 70
    refine ⟨cs, l1, l2, hcs, ?_⟩
    rw [← ecs]
    unfold FL.cutD HT.sIx
    simp
   obtain ⟨rows, es', x', e1, e2, e3, e4⟩ := rowsK_loop (.v (.lst (ns.map D.int))) cs [] [] .no hcs (by simp; omega) rfl (fun _ h => nomatch h)
   refine ⟨rows, es', e4, by rw [e2]; simpa using l2, e3, lentR_eq (ds := [.v (.lst (ns.map D.int)), .ob (some 1) (oT es'), .v (.lst (rows.map rvD)), x']) ?_ (by simp)⟩
   have ht : (andT (testB (bin2 neD (getW 0) (mkL (sized nilA)))) (testB (bin2 eqD (bin2 modD (bin2 ixD (getW 0) (konst (.int 0))) (konst (.int 2))) (konst (.int 1))))) [.v (.lst (ns.map D.int)), .ob (some 1) (oT []), .no, .no] = some false := by
    cases hE : ns.isEmpty with
    | true => rw [hE] at nen; simp [nen]
    | false =>
      rw [hE] at nen
      have i0 := ints_at ns (k := 0) (by omega) (by cases ns <;> simp_all)
      have h2 : ¬ cel ns 0 % 2 = 1 := fun z => h ⟨hE, z⟩
      simp [nen, i0, h2]
   have ea : (args 4 [.lst (ns.map D.int), .non]).set 1 (.ob (some 1) (oT [])) = [.v (.lst (ns.map D.int)), .ob (some 1) (oT []), .no, .no] := rfl
   unfold K37.L_rows.g ifR
   rw [ea, ht]
   simp only [Option.bind_some, Bool.false_eq_true, if_false]
   rw [seqR_nx (ds' := [.v (.lst (ns.map D.int)), .ob (some 1) (oT []), .own [], .no]) (by simp), seqR_nx (ds' := [.v (.lst (ns.map D.int)), .ob (some 1) (oT es'), .own (rows.map rvD), x']) (by
    rw [forG_eq]
    simp only [List.map_nil] at e1
    simp [ecs, e1])]
   simp [relR, relS, vR]
theorem last_eq (rows : List Rv) (p : Int) : K37.L_last.f [.lst (rows.map rvD), .int p] = some (.val (oi (dueF rows p))) := by
 have one : ∀ (R : Sl) (r : Rv), K37.L_last.b1 [R, .v (.int p), .v (spD r.1), .v (oi r.2)] = if hasS r.1 p = true then some (.rt (.val (oi r.2))) else some (.nx [R, .v (.int p), .v (spD r.1), .v (oi r.2)]) := by
  rintro R ⟨⟨a, b⟩, v⟩
  unfold K37.L_last.b1
  cases a with
  | none =>
    cases b with
    | none => simp [hasS, spD]
    | some b =>
      by_cases h2 : p < b
      · simp [hasS, spD, h2]
      · simp [hasS, spD, h2]
  | some a =>
    cases b with
    | none =>
      by_cases h1 : a ≤ p
      · simp [hasS, spD, h1]
      · simp [hasS, spD, h1]
    | some b =>
      by_cases h1 : a ≤ p
      · by_cases h2 : p < b
        · simp [hasS, spD, h1, h2]
        · simp [hasS, spD, h1, h2]
      · simp [hasS, spD, h1]
 have lp : ∀ (R : Sl) (ps : List Rv) (a b : Sl), ∃ a' b', loopG (tupG 2 (tgCons (nameG 2) (tgCons (nameG 3) tgNil))) K37.L_last.b1 (ps.map rvD) [R, .v (.int p), a, b] =
   (match ps.find? (fun r => hasS r.1 p) with | some r => some (.rt (.val (oi r.2))) | none => some (.nx [R, .v (.int p), a', b'])) := by
  intro R ps
  induction ps with
  | nil => exact fun a b => ⟨a, b, rfl⟩
  | cons r ps ih =>
    intro a b
    obtain ⟨a', b', e⟩ := ih (.v (spD r.1)) (.v (oi r.2))
    refine ⟨a', b', ?_⟩
    have hh := one R r
    cases h : hasS r.1 p with
    | true =>
      rw [h] at hh
      simp [loopG, hh, h]
    | false =>
      rw [h] at hh
      simp [loopG, hh, h, e]
 obtain ⟨a, b, e⟩ := lp (.v (.lst (rows.map rvD))) rows.reverse .no .no
 rw [List.map_reverse] at e
 unfold dueF K37.L_last.f runG K37.L_last.g
 cases hf : rows.reverse.find? (fun r => hasS r.1 p) with
 | none => rw [hf] at e; simp [args, e]
 | some r => rw [hf] at e; simp [args, e]
theorem places_exK (ps : List Rw) (es : List Int) (hl : ps.length ≤ 500) (he : es.length ≤ 500) : ∃ Z : List Int, Z.Pairwise (· < ·) ∧ Z.length ≤ 5000 ∧ GL.places2.f [.lst (ps.map rwD), .lst (es.map D.int)] = some (.fresh (Z.map D.int)) := by
 have lp : ∀ (R S : Sl) (os : List (Option Int)) (acc : List Int) (x : Sl), acc.length + 2 * os.length ≤ 100000 → ∃ x' acc', acc'.length ≤ acc.length + 2 * os.length ∧ loopG (nameG 3) GL.places2.b1 (os.map oi) [R, S, .own (acc.map D.int), x] = some (.nx [R, S, .own (List.map D.int acc'), x']) := by
  intro R S os
  induction os with
  | nil => exact fun acc x _ => ⟨x, acc, by simp, rfl⟩
  | cons o r ih =>
    intro acc x hz
    simp only [List.length_cons] at hz
    cases o with
    | none =>
      obtain ⟨x', qs, hq, h⟩ := ih acc (.v .non) (by omega)
      have turn : GL.places2.b1 [R, S, .own (acc.map D.int), .v .non] = some (.nx [R, S, .own (acc.map D.int), .v .non]) := by simp [GL.places2.b1]
      exact ⟨x', qs, by simp only [List.length_cons]; omega, by simp [loopG, turn, h]⟩
    | some v =>
      obtain ⟨x', qs, hq, h⟩ := ih (acc ++ [v - 1, v]) (.v (.int v)) (by simp; omega)
      refine ⟨x', qs, by simp at hq; simp only [List.length_cons]; omega, ?_⟩
      simp only [List.map_append, List.map_cons, List.map_nil] at h
      have h1 : acc.length < 16777216 := by omega
      have h2 : acc.length + 1 < 16777216 := by omega
      have turn : GL.places2.b1 [R, S, .own (acc.map D.int), .v (.int v)] = some (.nx [R, S, .own (acc.map D.int ++ [.int (v - 1), .int v]), .v (.int v)]) := by simp [GL.places2.b1, h1, h2]
      simp [loopG, turn, h]
 have k : ∀ (j : Int) (g : Rw → Option Int) (S : Sl), (∀ r : Rw, ixD (rwD r) (.int j) = some (oi (g r))) → (compG (viaA (getV 0) asLT) [none] (nameG 0) (fun _ => some true) (bin2 ixD (getW 0) (konst (.int j)))) [.v (.lst (ps.map rwD)), S, .own [.int 0], .no] = some ((ps.map g).map oi) := by
  intro j g S hg
  refine compG_ok (items := ps.map rwD) (by simp) (by simp; omega) ?_
  rw [compL_map rwD (fun r => oi (g r)), List.map_map]
  · rfl
  · intro r hr
    exact ⟨_, rfl, by simp [slotsD, hg]⟩
 have k0 := k 0 (fun r => r.1) (.v (.lst (es.map D.int))) (fun r => by simp [rwD])
 have k1 := k 1 (fun r => r.2.1) (.v (.lst (es.map D.int))) (fun r => by simp [rwD])
 obtain ⟨x', Z0, hz, e⟩ := lp (.v (.lst (ps.map rwD))) (.v (.lst (es.map D.int))) (es.map some ++ ps.map (fun r => r.1) ++ ps.map (fun r => r.2.1)) [0] .no (by simp; omega)
 simp only [List.length_append, List.length_map, List.length_cons, List.length_nil] at hz
 have fl := flats_ints (srtU Z0)
 have hi := intsD_map Z0
 have hu := srtU_len Z0
 have ee : (es.map some ++ ps.map (fun r => r.1) ++ ps.map (fun r => r.2.1)).map oi = es.map D.int ++ (ps.map (fun r => r.1)).map oi ++ (ps.map (fun r => r.2.1)).map oi := by
  simp
 rw [ee] at e
 refine ⟨srtU Z0, srtU_lt _, by omega, run_rt ?_⟩
 unfold GL.places2.g
 generalize hP : ps.map rwD = P at *
 generalize hE : es.map D.int = E at *
 have le : E.length = es.length := by rw [← hE]; simp
 generalize ha : (ps.map (fun r => r.1)).map oi = A at *
 have la : A.length = ps.length := by rw [← ha]; simp
 generalize hbb : (ps.map (fun r => r.2.1)).map oi = B at *
 have lb : B.length = ps.length := by rw [← hbb]; simp
 have z1 : E.length + A.length ≤ 16777216 := by omega
 have z2 : E.length + A.length + B.length ≤ 16777216 := by omega
 rw [seq_nx (ds' := [.v (.lst P), .v (.lst E), .own [.int 0], .no]) (by simp [args]), seq_nx (ds' := [.v (.lst P), .v (.lst E), .own (Z0.map D.int), x']) (by
  rw [forG_eq]
  simp only [List.map_cons, List.map_nil, List.append_assoc] at e
  have z3 : E.length + (A.length + B.length) ≤ 16777216 := by omega
  simp [k0, k1, z1, z2, e])]
 have hz4 : Z0.length + 1 < 4096 := by omega
 simp [srtSA, hi, hz4, fl]
noncomputable def stD (t : List Rw) : D := .lst [.lst (t.map rwD), .lst (t.map rwD)]
theorem put_loop (N E W Z : Sl) : ∀ (todo : List Rv) (ps : List Rw) (st : List (List Rw)) (a b : Sl), MapF ps → (∀ r ∈ todo, okS r.1) → ps.length + 2 * todo.length ≤ 1000 → st.length + todo.length ≤ 1000 →
  ∃ (a' b' : Sl) (st' : List (List Rw)), loopG (tupG 2 (tgCons (nameG 5) (tgCons (nameG 6) tgNil))) K37.law.b1 (todo.map rvD) [N, E, W, .v (.lst (ps.map rwD)), .own (st.map stD), a, b, Z] = some (.nx [N, E, W, .v (.lst ((todo.foldl put1 ps).map rwD)), .own (st'.map stD), a', b', Z]) ∧ st'.length = st.length + todo.length
 | [], ps, st, a, b, _, _, _, _ => ⟨a, b, st, rfl, rfl⟩
 | r :: todo, ps, st, a, b, m, ho, hl, hs => by
   simp only [List.length_cons] at hl hs
   have hr := ho r List.mem_cons_self
   have m1 := put1_map m hr
   have l1 := put1_len m hr
   have e0 := put_eq m (by omega) (v := r.2) hr
   obtain ⟨a', b', st', e1, e2⟩ := put_loop N E W Z todo (put1 ps r) (st ++ [put1 ps r]) (.v (spD r.1)) (.v (oi r.2)) m1 (fun q hq => ho q (List.mem_cons_of_mem _ hq)) (by omega) (by simp; omega)
   refine ⟨a', b', st', ?_, by rw [e2]; simp; omega⟩
   have z : st.length < 16777216 := by omega
   have turn : K37.law.b1 [N, E, W, .v (.lst (ps.map rwD)), .own (st.map stD), .v (spD r.1), .v (oi r.2), Z] = some (.nx [N, E, W, .v (.lst ((put1 ps r).map rwD)), .own ((st ++ [put1 ps r]).map stD), .v (spD r.1), .v (oi r.2), Z]) := by
    have e0' : GP.put.f [.lst (ps.map rwD), spD r.1, oi r.2] = some (.fresh ((put1 ps r).map rwD)) := e0
    generalize hq : put1 ps r = q at *
    unfold K37.law.b1
    rw [seq_nx (ds' := [N, E, W, .v (.lst (q.map rwD)), .own (st.map stD), .v (spD r.1), .v (oi r.2), Z]) (by simp [e0'])]
    simp [z, stD]
   have tg : tupG 2 (tgCons (nameG 5) (tgCons (nameG 6) tgNil)) (rvD r) [N, E, W, .v (.lst (ps.map rwD)), .own (st.map stD), a, b, Z] = some [N, E, W, .v (.lst (ps.map rwD)), .own (st.map stD), .v (spD r.1), .v (oi r.2), Z] := by
    simp [rvD, spD]
   simp only [List.map_cons, loopG, tg, Option.bind_some, turn, List.foldl_cons]
   exact e1
theorem hasW (p : Int) : hasS (none, none) p = true := rfl
theorem put_whole {ps : List Rw} (m : MapF ps) : put1 ps ((none, none), none) = [] := by
 have h : okS ((none, none) : Spn) := fun x y e1 _ => nomatch e1
 refine map_one (put1_map m (r := ((none, none), none)) h) MapF.nil fun p v => ?_
 rw [put1_tel m (r := ((none, none), none)) h, if_pos (hasW p)]
 simp [Tel]
theorem put_whole5 {ps : List Rw} (m : MapF ps) : put1 ps ((none, none), some 5) = [(none, none, some 5)] := by
 have h : okS ((none, none) : Spn) := fun x y e1 _ => nomatch e1
 have m5 : MapF [((none, none, some 5) : Rw)] := ⟨⟨(fun r hr => by cases List.mem_singleton.mp hr; exact (fun x y e1 _ => nomatch e1)), List.pairwise_singleton _ _⟩, (fun r hr => by cases List.mem_singleton.mp hr; exact (fun z => nomatch z)), (fun i a b h1 h2 => by simp at h2)⟩
 refine map_one (put1_map m (r := ((none, none), some 5)) h) m5 fun p v => ?_
 rw [put1_tel m (r := ((none, none), some 5)) h, if_pos (hasW p)]
 simp [Tel, has3, hasS]
theorem run_law (ns : List Int) (hl : ns.length ≤ 63) (hb : ∀ c ∈ ns, intBits c ≤ 1048576) : K37.law.f [.lst (ns.map D.int)] = some (.val (.bl true)) := by
 obtain ⟨rows, es, ok, lr, le, e0⟩ := rowsK_ex ns hl hb
 obtain ⟨fo, mf, lf⟩ := formed_eq rows ok (by omega)
 obtain ⟨a', b', st, e1, ls⟩ := put_loop (.v (.lst (ns.map D.int))) (.ob none (oT es)) (.v (.lst (rows.map rvD))) .no rows [] [] .no .no MapF.nil ok (by simp; omega) (by simp; omega)
 have ef : rows.foldl put1 [] = formedF rows := rfl
 rw [ef] at e1
 have hw : okS ((none, none) : Spn) := fun x y e1 _ => nomatch e1
 have vd := val_due ok (by omega)
 have im := is_map_eq (formedF rows) mf (by omega)
 obtain ⟨Z, hz, lz, pl⟩ := places_exK (formedF rows) es (by omega) (by omega)
 have v1 := values_eq mf.ord (by omega) Z hz (by omega)
 have p1 := put_eq mf (by omega) (v := none) hw
 have p2 := put_eq mf (by omega) (v := some 5) hw
 rw [put_whole mf] at p1
 rw [put_whole5 mf] at p2
 have p1' : GP.put.f [.lst ((formedF rows).map rwD), .tup [.non, .non], .non] = some (.fresh []) := p1
 have p2' : GP.put.f [.lst ((formedF rows).map rwD), .tup [.non, .non], .int 5] = some (.fresh [.tup [.non, .non, .int 5]]) := p2
 have ne1 := neD_oil (Z.map (valL (formedF rows))) (Z.map (valL (formedF rows)))
 have ne2 := neD_rw (formedF rows) (formedF rows)
 have ne3 : neD (.lst []) (.lst []) = some (.bl false) := neD_rw_nil []
 have ne4 : neD (.lst [.tup [.non, .non, .int 5]]) (.lst [.tup [.non, .non, .int 5]]) = some (.bl false) := by
  have := neD_rw [((none, none, some 5) : Rw)] [(none, none, some 5)]
  simpa [rwD] using this
 simp only [decide_true, Bool.not_true] at ne1 ne2
 have cm : (compG (viaA (getV 7) asLT) [none, some 2] (nameG 0) (fun _ => some true) (callV 2 K37.L_last.f (consA (getW 1) (consA (getW 0) nilA)))) [.v (.lst (ns.map D.int)), .ob none (oT es), .v (.lst (rows.map rvD)), .v (.lst ((formedF rows).map rwD)), .own (st.map stD), a', b', .v (.lst (Z.map D.int))] = some ((Z.map (valL (formedF rows))).map oi) := by
  refine compG_ok (items := Z.map D.int) (by simp) (by simp; omega) ?_
  rw [compL_map D.int (fun q => oi (dueF rows q)), List.map_map]
  · congr 1
    refine List.map_congr_left fun q _ => ?_
    show oi (dueF rows q) = oi (valL (formedF rows) q)
    rw [vd q]
  · intro q hq
    exact ⟨_, rfl, by simp [slotsD, last_eq rows q]⟩
 have ca : (compG (viaA (getV 4) asLT) [none] (nameG 0) (fun _ => some true) (bin2 eqD (bin2 ixD (getW 0) (konst (.int 0))) (bin2 ixD (getW 0) (konst (.int 1))))) [.v (.lst (ns.map D.int)), .ob none (oT es), .v (.lst (rows.map rvD)), .v (.lst ((formedF rows).map rwD)), .v (.lst (st.map stD)), a', b', .v (.lst (Z.map D.int))] = some ((st.map fun _ => true).map D.bl) := by
  refine compG_ok (items := st.map stD) (by simp) (by simp; simp at ls; omega) ?_
  rw [compL_map stD (fun _ => .bl true), List.map_map]
  · rfl
  · intro q hq
    have := eqD_rw q q
    simp only [decide_true] at this
    exact ⟨_, rfl, by simp [slotsD, stD, this]⟩
 have al := allD_bls (st.map fun _ => true)
 have al2 : (st.map fun _ => true).all id = true := by simp
 rw [al2] at al
 refine run_rt ?_
 unfold K37.law.g
 generalize hP : (formedF rows).map rwD = P at *
 generalize hR : rows.map rvD = R at *
 generalize hN : ns.map D.int = N at *
 generalize hY : Z.map D.int = Y at *
 have fy : flats Y = true := by rw [← hY]; exact flats_ints Z
 generalize hV : (Z.map (valL (formedF rows))).map oi = V at *
 generalize hS : st.map stD = S at *
 generalize hB : (st.map fun _ => true).map D.bl = B at *
 rw [seq_nx (ds' := [.v (.lst N), .ob none (oT []), .no, .no, .no, .no, .no, .no]) (by simp [args, sO]; rfl),
  seq_nx (ds' := [.v (.lst N), .ob none (oT es), .v (.lst R), .no, .no, .no, .no, .no]) (by simp [setR, callR, hereA, e0, ref_oT]),
  seq_nx (ds' := [.v (.lst N), .ob none (oT es), .v (.lst R), .v (.lst []), .no, .no, .no, .no]) (by simp),
  seq_nx (ds' := [.v (.lst N), .ob none (oT es), .v (.lst R), .v (.lst []), .own [], .no, .no, .no]) (by simp),
  seq_nx (ds' := [.v (.lst N), .ob none (oT es), .v (.lst R), .v (.lst P), .own S, a', b', .no]) (by
   rw [forG_eq]
   simp only [List.map_nil] at e1
   simp [e1]),
  seq_nx (ds' := [.v (.lst N), .ob none (oT es), .v (.lst R), .v (.lst P), .own S, a', b', .no]) (by simp [im]),
  seq_nx (ds' := [.v (.lst N), .ob none (oT es), .v (.lst R), .v (.lst P), .own S, a', b', .v (.lst Y)]) (by simp [relFO, relO, ot_oT, pl, fy]),
  seq_nx (ds' := [.v (.lst N), .ob none (oT es), .v (.lst R), .v (.lst P), .own S, a', b', .v (.lst Y)]) (by simp [v1, cm, ne1]),
  seq_nx (ds' := [.v (.lst N), .ob none (oT es), .v (.lst R), .v (.lst P), .own S, a', b', .v (.lst Y)]) (by simp [fo, ne2]),
  seq_nx (ds' := [.v (.lst N), .ob none (oT es), .v (.lst R), .v (.lst P), .own S, a', b', .v (.lst Y)]) (by simp [p1', p2', ne3, ne4])]
 simp [relS, ca, al]
end K37
namespace K37
open PySem PyProof.Rows L2 FL
set_option maxHeartbeats 0 in
theorem all_mk {l : PySem.W.OpenLaw} {w : World} {K : PySem.W.Frag} {h : Heap} {mg : Str → Option Value} {fa : Addr} (X : K.In h) (G : h.Ns mainGlobals mg) (hfa : mg "law" = some (.ref fa))
  {f0 : Addr}
  {f1 : Addr}
  {f2 : Addr}
  {f3 : Addr}
  {f4 : Addr}
  {f5 : Addr}
  {f6 : Addr}
  {f7 : Addr}
  {f8 : Addr}
  {f9 : Addr}
  {f10 : Addr}
  {f11 : Addr}
  {f12 : Addr}
  {f13 : Addr}
  {f14 : Addr}
  {f15 : Addr}
  {f16 : Addr}
  {f17 : Addr}
  {f18 : Addr}
  {f19 : Addr}
  {f20 : Addr} {od20 an20 : Option Addr} {sl20 : Array (Option Value)} {oc20 kV20 dc20 pm20 cd20 ct20 : Value}
  (d0 : DefM K "later_low" (top 3) f0)
  (d1 : DefM K "earlier_behind" (top 4) f1)
  (d2 : DefM K "ends_ahead" (top 2) f2)
  (d3 : DefM K "meet" (top 1) f3)
  (d4 : DefM K "knit" (top 6) f4)
  (d5 : DefM K "parts_in" (top 8) f5)
  (d6 : DefM K "rows_over" (top 9) f6)
  (d7 : DefM K "formed" (top 7) f7)
  (d8 : DefM K "put" (top 11) f8)
  (d9 : DefM K "_law_whole" (top 13) f9)
  (d10 : DefM K "_law_great" (top 14) f10)
  (d11 : DefM K "_law_begin" (top 15) f11)
  (d12 : DefM K "_law_behind" (top 16) f12)
  (d13 : DefM K "_law_row" (top 17) f13)
  (d14 : DefM K "_law_told_row" (top 18) f14)
  (d15 : DefM K "_law_rows" (top 19) f15)
  (d16 : DefM K "_law_is_map" (top 20) f16)
  (d17 : DefM K "_law_places" (top 21) f17)
  (d18 : DefM K "_law_values" (top 22) f18)
  (d19 : DefM K "_law_last" (top 23) f19)
  (a20 : PySem.W.nsIn K mainGlobals "law" = some (some (.ref f20))) (l20 : LkF K f20 oc20 od20 "law" "law" (top 24) .none kV20 dc20 pm20 an20 cd20 ct20 sl20) (c20 : PySem.W.codeIn K cd20 "law" = true) (k20 : PySem.W.keepIn K (.ref f20) = true)
  (z0 : PySem.W.nsIn K mainGlobals "all" = some none)
  (z1 : PySem.W.nsIn K mainGlobals "bool" = some none)
  (z2 : PySem.W.nsIn K mainGlobals "int" = some none)
  (z3 : PySem.W.nsIn K mainGlobals "isinstance" = some none)
  (z4 : PySem.W.nsIn K mainGlobals "len" = some none)
  (z5 : PySem.W.nsIn K mainGlobals "list" = some none)
  (z6 : PySem.W.nsIn K mainGlobals "max" = some none)
  (z7 : PySem.W.nsIn K mainGlobals "min" = some none)
  (z8 : PySem.W.nsIn K mainGlobals "range" = some none)
  (z9 : PySem.W.nsIn K mainGlobals "reversed" = some none)
  (z10 : PySem.W.nsIn K mainGlobals "set" = some none)
  (z11 : PySem.W.nsIn K mainGlobals "sorted" = some none)
  (z12 : PySem.W.nsIn K mainGlobals "tuple" = some none) :
  ∃ fd : FuncData, (∀ (s : Shared) (v : Value), BindsTo s fd ⟨[v], []⟩ [("_law_script", v)]) ∧ ∀ base : Heap, K.In base → base.Ns mainGlobals mg → FnOk l.prog w K mg base CX0 6 fa fd ["_law_script"] (spLawB K 63) := by
 have e := hfa.symm.trans (PySem.W.mg_of X G a20)
 cases e
 have T : Glb K mg := ⟨PySem.W.mg_none_of X G z0, PySem.W.mg_none_of X G z1, PySem.W.mg_none_of X G z2, PySem.W.mg_none_of X G z3, PySem.W.mg_none_of X G z4, PySem.W.mg_none_of X G z5, PySem.W.mg_none_of X G z6, PySem.W.mg_none_of X G z7, PySem.W.mg_none_of X G z8, PySem.W.mg_none_of X G z9, PySem.W.mg_none_of X G z10, PySem.W.mg_none_of X G z11, PySem.W.mg_none_of X G z12⟩
 have F20 := fun_mk (st := (top 24)) l20 c20 k20
 refine ⟨PySem.W.fnOf "law" "law" (defArgs (top 24)) (defBody (top 24)) (defScope (top 24)) .none kV20 dc20 pm20 an20 cd20 ct20, fun s v => .of_eq rfl, fun base _ _ => ?_⟩
 have C_later_low := d0.cal X G fun F => fok_later_low (P := l.prog) (w := w) (base := base) F T
 have C_earlier_behind := d1.cal X G fun F => fok_earlier_behind (P := l.prog) (w := w) (base := base) F T
 have C_ends_ahead := d2.cal X G fun F => fok_ends_ahead (P := l.prog) (w := w) (base := base) F T
 have C_meet := d3.cal X G fun F => fok_meet F T C_later_low C_earlier_behind C_ends_ahead
 have C_knit := d4.cal X G fun F => fok_knit (P := l.prog) (w := w) (base := base) F T
 have C_parts_in := d5.cal X G fun F => fok_parts_in F T C_meet
 have C_rows_over := d6.cal X G fun F => fok_rows_over F T C_parts_in
 have C_formed := d7.cal X G fun F => fok_formed F T C_knit C_rows_over
 have C_put := d8.cal X G fun F => fok_put F T C_knit C_rows_over
 have C__law_whole := d9.cal X G fun F => fok__law_whole (P := l.prog) (w := w) (base := base) F T
 have C__law_great := d10.cal X G fun F => fok__law_great (P := l.prog) (w := w) (base := base) F T
 have C__law_begin := d11.cal X G fun F => fok__law_begin F T C__law_great
 have C__law_behind := d12.cal X G fun F => fok__law_behind (P := l.prog) (w := w) (base := base) F T
 have C__law_row := d13.calR X G fun F => fok__law_row F T C__law_begin C__law_behind
 have C__law_told_row := d14.calR X G fun F => fok__law_told_row (P := l.prog) (w := w) (base := base) F T
 have C__law_rows := d15.calR X G fun F => fok__law_rows F T C__law_told_row C__law_row
 have C__law_is_map := d16.cal X G fun F => fok__law_is_map F T C__law_whole
 have C__law_places := d17.cal X G fun F => fok__law_places (P := l.prog) (w := w) (base := base) F T
 have C__law_values := d18.cal X G fun F => fok__law_values (P := l.prog) (w := w) (base := base) F T
 have C__law_last := d19.cal X G fun F => fok__law_last (P := l.prog) (w := w) (base := base) F T
 exact law_ofB (F := K37.law.f) (fok_law F20 T C__law_rows C__law_places C_put C__law_is_map C__law_values C_formed C__law_last) run_law
end K37
def PySem.W.Fast.tw3001026083205789765 : Unit := ()
def PySem.W.Fast.tw4753997287290332201 : Unit := ()
def PySem.W.Fast.tw5690581656130524622 : Unit := ()
def PySem.W.Fast.tw1122421377630647890 : Unit := ()
def PySem.W.Fast.tw10239884648871412498 : Unit := ()
def PySem.W.Fast.tw17767287022001786084 : Unit := ()
def PySem.W.Fast.tw11983000985822109777 : Unit := ()
def PySem.W.Fast.tw9603701555010677245 : Unit := ()
def PySem.W.Fast.tw18101367979015652842 : Unit := ()
def PySem.W.Fast.tw5094622151164863755 : Unit := ()
def PySem.W.Fast.tw17279979010930769964 : Unit := ()
def PySem.W.Fast.tw15287028227712246588 : Unit := ()
def PySem.W.Fast.tw3891379623362281675 : Unit := ()
def PySem.W.Fast.tw6469234140541263616 : Unit := ()
def PySem.W.Fast.tw6318204670908885656 : Unit := ()
def PySem.W.Fast.tw8800455058699307506 : Unit := ()
def PySem.W.Fast.tw9511477647256947887 : Unit := ()
def PySem.W.Fast.tw10190345387564592470 : Unit := ()
def PySem.W.Fast.tw65078059535289240 : Unit := ()
def PySem.W.Fast.tw4677449832120454563 : Unit := ()
def PySem.W.Fast.tw18261980701104350307 : Unit := ()
def PySem.W.Fast.tw478691716496974495 : Unit := ()
def PySem.W.Fast.tw14134757326779337934 : Unit := ()
def PySem.W.Fast.tw17960810817963933917 : Unit := ()
def PySem.W.Fast.tw4696225852759833625 : Unit := ()
def PySem.W.Fast.tw14600788592607238605 : Unit := ()
def PySem.W.Fast.tw1813400631152789155 : Unit := ()
def PySem.W.Fast.tw10804778388343782796 : Unit := ()
def PySem.W.Fast.tw2829984079795573723 : Unit := ()
def PySem.W.Fast.tw12881564745106804578 : Unit := ()
open PySem PySem.W PyProof.Rows
set_option maxRecDepth 100000 in
set_option maxHeartbeats 0 in
theorem PySem.Challenge.cw_spanmap_k37_whole_puts_in_rows_holds : PySem.Challenge.rw_spanmap_k37_whole_puts_in_rows.Holds := by
 w_on; o_law; k_head; (case hw => w_witness2)
 k_fill
 refine' FL.walkB (l := PySem.Challenge.rw_spanmap_k37_whole_puts_in_rows) (k := 6) rfl rfl ⟨rfl, by decide, by decide⟩ (fun w h Y => PySem.W.kIn_of Y) (fun w => by kernel_rfl) ?T ?F
 case T =>
  intro w
  dsimp only [L2.makers]
  repeat (first
   | exact FL.TabL.nil
   | (apply FL.tabL_no; k_is)
   | (apply FL.tabL_yes; k_is; k_is; exact rfl; k_is; exact rfl; kernel_rfl))
  all_goals decide
 case F =>
  intro w mg fa h KX G hmg
  refine' K37.all_mk KX G hmg ?_ ?_ ?_ ?_ ?_ ?_ ?_ ?_ ?_ ?_ ?_ ?_ ?_ ?_ ?_ ?_ ?_ ?_ ?_ ?_ ?_ ?_ ?_ ?_ ?_ ?_ ?_ ?_ ?_ ?_ ?_ ?_ ?_ ?_ ?_ ?_ ?_
  all_goals first | ((first | unfold FL.DefM | unfold FL.DefC); iterate 9 (apply Exists.intro); repeat' (first | (unfold FL.LkF; k_is) | k_is | apply And.intro)) | (unfold FL.LkF; k_is) | k_is | skip
#print axioms PySem.Challenge.cw_spanmap_k37_whole_puts_in_rows_holds
