import PyProof.Rows.All
import Wide.All
import OpenK.AllK
import Wide.FinOn
import Lean
import PyProof.EqAt
import PyProof.DictItems
import PyProof.DictWalks
import PyProof.Rows.SortStr
import PyProof.Rows.SortShellK
import PyProof.Rows.SortWalk
import KE.KRevIter
import KE.KDictList
import PyProof.CollectIter
import PyProof.DictValues
import KE.KDictSum
import PyProof.EqKinds
import PyProof.TupleCall
import PyProof.ListRange
import PyProof.P3In
import PyProof.NeData
import PyProof.NsDelKeeps
import PyProof.SliceList
import KE.KLam
import KE.KIntText
import PySem.Challenge.RW_spanmap_k93_items_refused
set_option Elab.async false
set_option linter.all false
set_option maxRecDepth 100000
open Option renaming bind_some→aC,map_some→aV,isNone_iff_eq_none→BH,isSome_iff_exists→BI,isNone_some→IM,isNone_none→IN,getD_none→NE
open List renaming getElem?_set_ne→aD,mem_cons→aF,length_cons→aG,mem_cons_of_mem→aI,getElem?_cons_zero→aO,mem_cons_self→aP,getElem?_set_self→aT,size_toArray→aX,getElem?_cons_succ→aY,map_cons→bB,mem_append_right→bC,mem_singleton→bG,getElem?_eq_some_iff→bK,getElem?_eq_none→bL,length_append→bO,lookup_cons→bT,mem_append→bU,getElem?_map→bV,getElem?_append_left→cQ,mem_append_left→dB,length_map→dC,filterMap_cons→dE,map_nil→dO,getElem?_append_right→dP,replicate_succ→eV,pairwise_cons→fA,mem_filterMap→fB,append_nil→fG,getElem?_eq_getElem→fH,getElem?_replicate→fP,all_eq_true→fQ,map_map→fV,count_eq_zero→fW,map_append→fY,find?_cons→fZ,length_singleton→gE,flatten_cons→gG,append_assoc→gH,drop_eq_getElem_cons→gY,length_nil→hX,count_cons→iA,take_of_length_le→iM,count_append→iO,any_cons→kN,getLast?_append→kQ,count_le_length→kR,nil_append→kY,all_cons→mC,filter_cons→mL,drop_length→mM,mem_map→mR,nodup_cons→mW,foldl_cons→mX,mem_range→nQ,mem_of_getElem?→nR,dropLast_concat→nS,flatMap_cons→rA,range'_succ→tE,not_mem_nil→tF,takeWhile_append_of_pos→uJ,of_mem_zip→uK,dropLast_concat_getLast→uL,eq_append_cons_of_mem→BJ,getElem?_eq_none_iff→CB,sum_cons→DO,drop_one→DP,drop_of_length_le→FV,dropLast_eq_take→IF,mem_of_mem_take→IP,mem_of_mem_drop→IQ,map_id→IR,length_reverse→KP,getElem?_range→KQ,count_pos_iff→NF,reverse_cons→QO,all_eq_false→QP,mem_reverse→RI,map_fst_zip→RJ,length_take→RK,length_drop→RL,getElem_mem→RM,cons_append→RN,mem_filter→WJ,forIn_cons→WK,tail_cons→WU
open PySem.W renaming Frag→aH,nsIn→aJ,mg_of→aM,findIn→aR,keepIn→bN,subIn→bX,kia_one→cA,emptyDict→cB,instObj→cR,mg_none_of→dG,kitOne→dZ,fnOf→eQ,mroIn→eU,plainGet→eX,hasDictIn→fD,typeIn→fJ,makesIn→fT,isClsIn→fU,plainOver→fX,codeIn→gF,tabIn→gX,isFn→mG,lookIn→mU,kitCls→mV,plainGet_of→nN,excIn→nO,clsIn→nP,kitx_tuple→nW,callWith_K→nX,methodObj→oU,kitx_list→oV,takerIn→sL,tabObj→tS,noTabs→tT,cellsFrom_some→BZ,looks_findIn→FR,callWith_K0→FU,make_core→IK,kitx_dict→IL,makes_of→KN,handedIn→KO,OpenLaw→ND,CodeHd→QN,Looks→RH
open PySem.Heap renaming get?_push_of_some→aL,lt_size→aU,get?_push_size→bF,get?_update_other→dQ,get?_update_self→nB,size_push→nT
open Nat renaming le_refl→aQ,lt_of_lt_of_le→aZ,ne_of_lt→bS,lt_irrefl→bZ,zero_le→cL,le_trans→cM,le_of_eq→lM,lt_succ_self→mP,le_succ_of_le→sM,le_of_lt→IE,le_of_not_lt→WI
open Bool renaming and_eq_true→bD,false_ne_true→cH,or_eq_true_iff→fO,eq_iff_iff→gA,false_eq_true→oW,and_eq_true_iff→IS,not_eq_true'→QR,eq_false_iff→QS,or_eq_true→WL
open PySem renaming mem_of_lookup→fN
open Array renaming getElem?_eq_some_iff→gL,length_toList→nY,getElem?_setIfInBounds_ne→rE
open PySem.F renaming plainAttrs_str→iB,plainAttrs_list→lZ,type_list_extend→BF,slot_list_extend→BG
open PyProof.Rows renaming callWith_type1→iW
open Int renaming lt_of_le_of_lt→pU,fdiv_eq_ediv_of_nonneg→CD,le_trans→IG,le_of_lt→IH,emod_lt_of_pos→QQ,toNat_natCast→RO,emod_nonneg→WV,ediv_nonneg→WX
open PySem.W.KIN renaming signs_num→uI,val_back→BE
open PySem.Heap.IsSliceOf renaming new→uM
open PySem.W.Looks renaming ld→CA
open PySem.W.KF renaming slot_gs→DN
namespace HT
noncomputable def sIx(n d:Nat):Option Int->Nat
 |none=>d
 |some v=>if v<0 then (v+(n:Int)).toNat else min v.toNat n
end HT
namespace L2
open PySem
abbrev Key:=Sum Int Str
noncomputable def ixN(n:Nat)(i:Int):Option Nat:=if 0<=i then (if i<n then some i.toNat else none) else if -(n:Int)<=i then some (i+n).toNat else none
noncomputable def atI{α : Type}(xs:List α)(i:Int):Option α:=(ixN xs.length i).bind fun j=>xs[j]?
end L2
namespace FL
open PySem PySem.Spec PyProof.Rows L2
theorem bnd{α β : Type}{o:Option α}{f : α->Option β}{b : β}(h:o.bind f=some b):∃a,o=some a/\f a=some b:=Option.bind_eq_some_iff.mp h
theorem mpd{α β : Type}{o:Option α}{f : α->β}{b : β}(h:o.map f=some b):∃a,o=some a/\f a=b:=Option.map_eq_some_iff.mp h
noncomputable def gD:Nat->Str
 |0=>"Put" | 1=>"Widen" | 2=>"Narrow" | 3=>"Move" | 4=>"Stretch" | 5=>"Mirror" | 6=>"Deed" | 7=>"Shut" | 8=>"Open" | 9=>"Endless" | 10=>"End" | 11=>"Line" | 12=>"Bundle" | 13=>"Desk"
 |20=>"Line" | 21=>"Line" | 22=>"Line" | 23=>"Line" | 24=>"Bundle" | 25=>"Desk" | _=>""
noncomputable def eK:Nat->List Str
 |0=>["span","fill"] | 1=>["fill","at","many"] | 2=>["fill","at","many"] | 3=>["fill","far"] | 4=>["fill","top","bottom"] | 5=>["fill"] | 6=>["fill"] | 7=>["place"] | 8=>["place"] | 11=>["pieces","places","earlier","later"] | 12=>["lying"] | 13=>["lines"]
 |21=>["pieces"] | 22=>["pieces","places"] | 23=>["pieces","places","earlier"] | _=>[]
noncomputable def fnName:Nat->Str
 |0=>"either" | 1=>"if_both" | 2=>"if_alone" | 3=>"summed" | 4=>"_law_first" | 5=>"_law_both" | 6=>"_law_left" | 7=>"_law_sum" | 8=>"_law_none" | _=>""
inductive D where
 |non | bl (b:Bool) | int (i:Int) | str (x:Str) | tup (ds:List D) | lst (ds:List D)
 |dct (ks:List Key) (ds:List D) | ins (t:Nat) (ds:List D) | clo (m n:Nat) (ds:List D)
 |dcf (ks:List Key) (ds:List D)
mutual
noncomputable def flat:D->Bool
 | .non | .bl _ | .int _ | .str _=>true
 | .tup ds=>flats ds
 |_=>false
noncomputable def flats:List D->Bool
 |[]=>true
 |d::r=>flat d&&flats r
end
noncomputable def xName:Nat->Str
 |0=>"SpanError" | 1=>"Empty" | 2=>"NoEnd" | 3=>"Clash" | 4=>"NoCount" | 5=>"NoShare" | 6=>"NoName" | 7=>"NoMark" | 8=>"NoDeed" | 9=>"NoRule" | 10=>"TooMuch" | 11=>"NoText" | _=>"NoRow"
inductive OT where
 |val (d:D) | lst (l:List OT) | tup (l:List OT) | dct (ks:List Key) (l:List OT) | ins (t:Nat) (l:List OT)
mutual
noncomputable def otD:OT->D
 | .val d=>d
 | .lst l=>.lst (otDs l)
 | .tup l=>.tup (otDs l)
 | .dct ks l=>.dct ks (otDs l)
 | .ins t l=>.ins t (otDs l)
noncomputable def otDs:List OT->List D
 |[]=>[]
 |t::r=>otD t::otDs r
end
inductive Sl where
 |no | v (d:D) | own (l:List D) | exc (t:Nat) | fr (l:List D) | ob (r:Option Nat) (t:OT)
abbrev FE:=List Sl->Option D
abbrev FT:=List Sl->Option Bool
abbrev FA:=List Sl->Option (List D)
noncomputable def mkL(f:FA):FE:=fun ds=>(f ds).map D.lst
noncomputable def yR(i:Nat):FE:=fun ds=>match ds[i]? with | some (.v d)=>some d | _=>none
noncomputable def zG(i:Nat):FE:=fun ds=>match ds[i]? with | some (.v d)=>some d | some (.own l)=>some (.lst l) | _=>none
noncomputable def zA(d:D):FE:=fun _=>some d
noncomputable def zI(op:D->D->Option D)(fa fb:FE):FE:=fun ds=>(fa ds).bind fun x=>(fb ds).bind fun y=>op x y
noncomputable def isB:D->Option Bool
 | .bl b=>some b
 |_=>none
noncomputable def zT(f:FE):FT:=fun ds=>(f ds).bind isB
noncomputable def yA:D->D->Option D
 | .int i,.int j=>some (.int (i+j))
 | .str x,.str y=>if x.length+y.length<=sizeLine then some (.str (x++y)) else none
 |_,_=>none
noncomputable def subD:D->D->Option D
 | .int i,.int j=>some (.int (i-j))
 |_,_=>none
noncomputable def divOk(j:Int):Prop:=0<j/\j.natAbs.log2<9000
noncomputable instance divOkD(j:Int):Decidable (divOk j):=Classical.propDecidable _
noncomputable def xD:D->D->Option D
 | .int i,.int j=>if divOk j then some (.int (i/j)) else none
 |_,_=>none
noncomputable def wB:D->D->Option D
 | .int i,.int j=>if 0<j then some (.int (i%j)) else none
 |_,_=>none
noncomputable def cmpI(p:Int->Int->Bool):D->D->Option D
 | .int i,.int j=>some (.bl (p i j))
 |_,_=>none
noncomputable def andT(c d:FT):FT:=fun ds=>(c ds).bind fun b=>if b=true then d ds else some false
noncomputable def orT(c d:FT):FT:=fun ds=>(c ds).bind fun b=>if b=true then some true else d ds
noncomputable def notT(c:FT):FT:=fun ds=>(c ds).map not
noncomputable def andV(f g:FE):FE:=fun ds=>(f ds).bind fun d=>match d with | .bl true=>g ds | .bl false=>some (.bl false) | _=>none
noncomputable def orV(f g:FE):FE:=fun ds=>(f ds).bind fun d=>match d with | .bl true=>some (.bl true) | .bl false=>g ds | _=>none
noncomputable def notV(f:FE):FE:=fun ds=>(f ds).bind fun d=>match d with | .bl b=>some (.bl (!b)) | _=>none
noncomputable def ifV(c:FT)(f g:FE):FE:=fun ds=>(c ds).bind fun b=>if b=true then f ds else g ds
noncomputable def chain(op op':D->D->Option D)(fa fb fc:FE):FE:=fun ds=>(fa ds).bind fun x=>(fb ds).bind fun y=>(op x y).bind fun z=>match z with
 | .bl true=>(fc ds).bind fun w=>op' y w
 | .bl false=>some (.bl false)
 |_=>none
noncomputable def zF(f:FE)(g:FA):FA:=fun ds=>(f ds).bind fun x=>(g ds).map fun r=>x::r
noncomputable def zR:FA:=fun _=>some []
noncomputable def qI(f:FA):FA:=fun ds=>(f ds).bind fun l=>if l.length<=sizeLine then some l else none
noncomputable def mkT(f:FA):FE:=fun ds=>(f ds).map D.tup
noncomputable def ixD:D->D->Option D
 | .lst l,.int i=>atI l i
 | .tup l,.int i=>atI l i
 | .str x,.int i=>if x.length<=sizeLine then (atI x.cps.toList i).map fun c=>.str ⟨#[c]⟩ else none
 |_,_=>none
inductive Ret where
 |val (d:D) | fresh (l:List D) | any (d:D) | obj (t:OT)
noncomputable def retV:Ret->Option D
 | .val d=>some d
 | .fresh l=>some (.lst l)
 | .any _=>none
 | .obj t=>some (otD t)
noncomputable def retF:Ret->Option (List D)
 | .fresh l=>some l
 |_=>none
noncomputable def qJ(n:Nat)(F:List D->Option Ret)(g:FA):FE:=fun ds=>(g ds).bind fun l=>if l.length=n then (F l).bind retV else none
noncomputable def callF(n:Nat)(F:List D->Option Ret)(g:FA):FA:=fun ds=>(g ds).bind fun l=>if l.length=n then (F l).bind retF else none
noncomputable def callB(F:List D->Option D)(g:FA):FE:=fun ds=>(g ds).bind F
noncomputable def lenD:List D->Option D
 |[.lst l]=>some (.int l.length)
 |[.tup l]=>some (.int l.length)
 |[.str x]=>if x.length<=sizeLine then some (.int x.length) else none
 |_=>none
inductive Out where
 |nx (ds:List Sl) | rt (r:Ret) | bk (ds:List Sl) | ct (ds:List Sl)
abbrev FS:=List Sl->Option Out
noncomputable def qD:FS:=fun ds=>some (.nx ds)
noncomputable def qM(f g:FS):FS:=fun ds=>(f ds).bind fun o=>match o with | .nx ds'=>g ds' | o=>some o
noncomputable def ifG(c:FT)(f g:FS):FS:=fun ds=>(c ds).bind fun b=>if b=true then f ds else g ds
noncomputable def jG(i:Nat)(f:FE):FS:=fun ds=>(f ds).map fun d=>.nx (ds.set i (.v d))
noncomputable def setOG(i:Nat)(f:FA):FS:=fun ds=>(f ds).map fun l=>.nx (ds.set i (.own l))
noncomputable def flatR(d:D):Option Out:=if flat d=true then some (.rt (.val d)) else none
noncomputable def retG(f:FE):FS:=fun ds=>(f ds).bind flatR
noncomputable def flatF(l:List D):Option Out:=if flats l=true then some (.rt (.fresh l)) else none
noncomputable def retOG(f:FA):FS:=fun ds=>(f ds).bind flatF
noncomputable def retXG(i:Nat):FS:=fun ds=>match ds[i]? with | some (.own l)=>flatF l | _=>none
noncomputable def putG(i:Nat)(fk fe:FE):FS:=fun ds=>match ds[i]? with
 | some (.own l) => (fe ds).bind fun d => (fk ds).bind fun k => match k with
   | .int n=>(ixN l.length n).map fun j=>.nx (ds.set i (.own (l.set j d)))
   |_=>none
 |_=>none
noncomputable def appG(i:Nat)(fe:FE):FS:=fun ds=>match ds[i]? with
 |some (.own l)=>(fe ds).bind fun d=>if l.length<sizeLine then some (.nx (ds.set i (.own (l++[d])))) else none
 |_=>none
noncomputable def args(n:Nat)(ds:List D):List Sl:=ds.map Sl.v++List.replicate (n-ds.length) Sl.no
noncomputable def sgns(x:Str):List D:=x.cps.toList.map fun c=>D.str ⟨#[c]⟩
noncomputable def asS:D->Option (List D)
 | .str x=>some (sgns x)
 |_=>none
noncomputable def viaA(f:FE)(k:D->Option (List D)):FA:=fun ds=>(f ds).bind k
noncomputable def gT(lo:Int)(n:Nat):List D:=(List.range n).map fun(k:Nat)=>D.int (lo+(k:Int))
noncomputable def okR(j:Int):Prop:=-(2 ^ 62)<=j/\j<2 ^ 62
noncomputable instance okRD(j:Int):Decidable (okR j):=Classical.propDecidable _
noncomputable def rng1(f:FE):FA:=fun ds=>(f ds).bind fun d=>match d with | .int j=>if okR j then some (gT 0 j.toNat) else none | _=>none
noncomputable def qL(i:Nat):D->List Sl->Option (List Sl):=fun d ds=>some (ds.set i (.v d))
noncomputable def tgNil:List D->List Sl->Option (List Sl)
 |[],ds=>some ds
 |_,_=>none
noncomputable def jF(g:D->List Sl->Option (List Sl))(h:List D->List Sl->Option (List Sl)):List D->List Sl->Option (List Sl)
 |d::r,ds=>(g d ds).bind fun ds'=>h r ds'
 |_,_=>none
noncomputable def tupG(n:Nat)(h:List D->List Sl->Option (List Sl)):D->List Sl->Option (List Sl)
 | .tup l,ds=>if l.length=n then h l ds else none
 |_,_=>none
noncomputable def jH(ga:D->List Sl->Option (List Sl))(body:FS):List D->List Sl->Option Out
 |[],ds=>some (.nx ds)
 | d :: r, ds => (ga d ds).bind fun ds1 => (body ds1).bind fun o => match o with
   | .nx ds2=>jH ga body r ds2
   | .ct ds2=>jH ga body r ds2
   | .bk ds2=>some (.nx ds2)
   | .rt r=>some (.rt r)
noncomputable def forG(fi:FA)(ga:D->List Sl->Option (List Sl))(body:FS):FS:=fun ds=>(fi ds).bind fun items=>jH ga body items ds
noncomputable def compL(ga:D->List Sl->Option (List Sl))(tt:FT)(fe:FE)(s0:List Sl):List D->Option (List D)
 |[]=>some []
 |d::r=>(ga d s0).bind fun ds1=>(tt ds1).bind fun b=>if b=true then (fe ds1).bind fun y=>(compL ga tt fe s0 r).map fun ys=>y::ys else compL ga tt fe s0 r
noncomputable def yI(mp:List (Option Nat))(ds:List Sl):List Sl:=mp.map fun o=>match o with
 |some j=>(match ds[j]? with | some (.v d)=>.v d | _=>.no)
 |none=>.no
noncomputable def compG(fi:FA)(mp:List (Option Nat))(ga:D->List Sl->Option (List Sl))(tt:FT)(fe:FE):FA:=fun ds=>(fi ds).bind fun items=>if items.length<=sizeLine then compL ga tt fe (yI mp ds) items else none
noncomputable def tyD:D->Option String
 | .non=>some "NoneType"
 | .bl _=>some "bool"
 | .int _=>some "int"
 | .str _=>some "str"
 | .tup _=>some "tuple"
 | .lst _=>some "list"
 | .dct _ _=>some "dict"
 | .ins _ _=>none
 | .clo _ _ _=>none
 | .dcf _ _=>none
noncomputable def kitN:List String:=["NoneType","bool","int","str","tuple","list","dict"]
noncomputable def kitT:List String:=["bool","int","str","tuple","list","dict"]
noncomputable def kitF(t T:String):Option Bool:=if t∈kitN/\T∈kitT then some (t==T||(t=="bool"&&T=="int")) else none
noncomputable def isiD(T:String)(d:D):Option D:=(tyD d).bind fun t=>(kitF t T).map D.bl
noncomputable def isiG(T:String)(f:FE):FE:=fun ds=>(f ds).bind (isiD T)
noncomputable def blsD:List D->Option (List Bool)
 |[]=>some []
 | .bl b::r=>(blsD r).map fun bs=>b::bs
 |_=>none
noncomputable def allD:List D->Option D
 |[.lst l]=>(blsD l).map fun bs=>.bl (bs.all id)
 |_=>none
noncomputable def strsD:List D->Option (List Str)
 |[]=>some []
 | .str b::r=>(strsD r).map fun bs=>b::bs
 |_=>none
noncomputable def joinD:D->D->Option D
 | .str z,.lst l=>(strsD l).bind fun ts=>if z.length<=16/\(ts.map (·.length)).sum+ts.length<=1048576 then some (.str (Txt.join z ts)) else none
 |_,_=>none
noncomputable def negD:D->Option D
 | .int i=>some (.int (-i))
 |_=>none
noncomputable def un1(op:D->Option D)(f:FE):FE:=fun ds=>(f ds).bind op
noncomputable def inS:D->D->Option D
 | .str i,.str j=>some (.bl (!(Builtin.Str.occurrences j i 0 j.length 1).isEmpty))
 |_,_=>none
noncomputable def retDG(f:FE):FS:=fun ds=>(f ds).map fun d=>.rt (.val d)
noncomputable def runG(g:FS)(n:Nat):List D->Option Ret:=fun ds=>match g (args n ds) with
 |some (.rt r)=>some r
 |some (.nx _)=>some (.val .non)
 |_=>none
noncomputable def CPowB(i j:Int):Prop:=0<=j/\(Builtin.Int.intBits i:Int)*j<=2 ^ 27
mutual
noncomputable def toPy:D->PyData
 | .non=>.none
 | .bl b=>.bool b
 | .int i=>.int i
 | .str x=>.str x
 | .tup ds=>.tuple (toPys ds)
 | .lst ds=>.list (toPys ds)
 | .dct _ _=>.none
 | .ins _ _=>.none
 | .clo _ _ _=>.none
 | .dcf _ _=>.none
noncomputable def toPys:List D->List PyData
 |[]=>[]
 |d::r=>toPy d::toPys r
end
mutual
noncomputable def shal:Nat->D->Bool
 |_,.non=>true
 |_,.bl _=>true
 |_,.int _=>true
 |_,.str x=>PyData.strOk x
 |n,.tup ds=>shals n ds
 |n,.lst ds=>shals n ds
 |_,.dct _ _=>false
 |_,.ins _ _=>false
 |_,.clo _ _ _=>false
 |_,.dcf _ _=>false
noncomputable def shals:Nat->List D->Bool
 |_,[]=>true
 |0,_::_=>false
 |n+1,d::r=>shal n d&&shals (n+1) r
end
noncomputable def eqvD(x y:D):Bool:=PyData.eqv (toPy x) (toPy y)
noncomputable def eqvs(x y:List D):Bool:=PyData.eqvAll (toPys x) (toPys y)
noncomputable def eqD(x y:D):Option D:=if shal 40 x=true/\shal 40 y=true then some (.bl (eqvD x y)) else none
noncomputable def neD(x y:D):Option D:=if shal 40 x=true/\shal 40 y=true then some (.bl (!eqvD x y)) else none
noncomputable def isD:D->D->Option D
 | .non,.non=>some (.bl true)
 |_,.non=>some (.bl false)
 |_,_=>none
noncomputable def notD:D->D->Option D
 | .non,.non=>some (.bl false)
 |_,.non=>some (.bl true)
 |_,_=>none
noncomputable def sclD:D->Bool
 | .non | .bl _ | .int _ | .str _=>true
 |_=>false
noncomputable def asLT:D->Option (List D)
 | .lst l=>some l
 | .tup l=>some l
 |_=>none
noncomputable def inD(neg:Bool)(x y:D):Option D:=(asLT y).bind fun l=>if sclD x=true/\l.all sclD=true then some (.bl (if neg then !l.any (fun z=>eqvD z x) else l.any fun z=>eqvD z x)) else none
noncomputable instance mulOkD(i j:Int):Decidable (IntMulOk i j):=Classical.propDecidable _
noncomputable instance powOkD(i j:Int):Decidable (CPowB i j):=Classical.propDecidable _
noncomputable def mulD:D->D->Option D
 | .int i,.int j=>if IntMulOk i j then some (.int (i*j)) else none
 |_,_=>none
noncomputable def powD:D->D->Option D
 | .int i,.int j=>if CPowB i j then some (.int (i ^ j.toNat)) else none
 |_,_=>none
noncomputable def catA(fa fb:FE):FA:=fun ds=>(fa ds).bind fun x=>(fb ds).bind fun y=>match x,y with
 | .lst a,.lst b=>if a.length+b.length<=sizeLine then some (a++b) else none
 |_,_=>none
noncomputable def noP:List Sl->Option (Option Int):=fun _=>some none
noncomputable def soP(f:FE):List Sl->Option (Option Int):=fun ds=>(f ds).bind fun d=>match d with | .int i=>some (some i) | _=>none
noncomputable def cutD(l:List D)(lo hi:Option Int):List D:=(l.drop (HT.sIx l.length 0 lo)).take (HT.sIx l.length l.length hi-HT.sIx l.length 0 lo)
noncomputable def sliA(f:FE)(lo hi:List Sl->Option (Option Int)):FA:=fun ds=>(f ds).bind fun d=>(lo ds).bind fun a=>(hi ds).bind fun b=>match d with
 | .lst l=>some (cutD l a b)
 |_=>none
noncomputable def lisA(f:FE):FA:=fun ds=>(f ds).bind asLT
noncomputable def mxD:List D->Option D
 |[.int i,.int j]=>some (.int (if j>i then j else i))
 |_=>none
noncomputable def mnD:List D->Option D
 |[.int i,.int j]=>some (.int (if j<i then j else i))
 |_=>none
noncomputable def absD:List D->Option D
 |[.int i]=>some (.int (if i<0 then -i else i))
 |_=>none
noncomputable def truD:D->Option Bool
 | .non=>some false
 | .bl b=>some b
 | .int i=>some (i != 0)
 | .str x=>if x.length<=sizeLine then some ((x.length:Int) != 0) else none
 | .tup l=>some (!l.isEmpty)
 | .lst l=>some (!l.isEmpty)
 |_=>none
noncomputable def testT(f:FE):FT:=fun ds=>(f ds).bind truD
noncomputable def relS(i:Nat)(ds:List Sl):List Sl:=match ds[i]? with | some (.own l)=>ds.set i (.v (.lst l)) | _=>ds
noncomputable def asgG(ga:D->List Sl->Option (List Sl))(f:FE):FS:=fun ds=>(f ds).bind fun d=>(ga d ds).map .nx
noncomputable def extG(i:Nat)(fe:FA):FS:=fun ds=>match ds[i]? with
 |some (.own l)=>(fe ds).bind fun d=>if l.length+d.length<=sizeLine then some (.nx (ds.set i (.own (l++d)))) else none
 |_=>none
noncomputable def clrG(i:Nat):FS:=fun ds=>match ds[i]? with
 |some (.own l)=>some (.nx (ds.set i (.own [])))
 |_=>none
noncomputable def ltD:D->D->Option D:=cmpI fun i j=>decide (i<j)
noncomputable def leD:D->D->Option D:=cmpI fun i j=>decide (i<=j)
noncomputable def gtD:D->D->Option D:=cmpI fun i j=>decide (j<i)
noncomputable def geD:D->D->Option D:=cmpI fun i j=>decide (j<=i)
noncomputable def rng2(fa fb:FE):FA:=fun ds=>(fa ds).bind fun x=>(fb ds).bind fun y=>match x,y with
 | .int i,.int j=>if okR i/\okR j then some (gT i (j-i).toNat) else none
 |_,_=>none
noncomputable def kM(lo c:Int)(n:Nat):List D:=(List.range n).map fun(k:Nat)=>D.int (lo+(k:Int)*c)
noncomputable def steps3(i j c:Int):Nat:=if i<j then ((j-i-1)/c+1).toNat else 0
noncomputable def okR3(i j c:Int):Prop:=-(2 ^ 61)<=i/\i<2 ^ 61/\-(2 ^ 61)<=j/\j<2 ^ 61/\0<c/\c<1000000
noncomputable instance okR3D(i j c:Int):Decidable (okR3 i j c):=Classical.propDecidable _
noncomputable def rng3(fa fb fc:FE):FA:=fun ds=>(fa ds).bind fun x=>(fb ds).bind fun y=>(fc ds).bind fun z=>match x,y,z with
 | .int i,.int j,.int c=>if okR3 i j c then some (kM i c (steps3 i j c)) else none
 |_,_,_=>none
noncomputable def revA(f:FE):FA:=fun ds=>(f ds).bind fun d=>match d with
 | .lst l=>some l.reverse
 |_=>none
noncomputable def augA(i:Nat)(f:FE):FS:=fun ds=>(yR i ds).bind fun x=>(f ds).bind fun y=>match x,y with
 | .int a,.int b=>some (.nx (ds.set i (.v (.int (a+b)))))
 |_,_=>none
noncomputable def parG(i j:Nat)(f:FA):FS:=fun ds=>(f ds).bind fun l=>match l with
 |[a,b]=>some (.nx ((ds.set i (.v a)).set j (.v b)))
 |_=>none
noncomputable def int1D:List D->Option D
 |[.int i]=>some (.int i)
 |[.bl b]=>some (.int (if b then 1 else 0))
 |_=>none
abbrev Fun2:=D->List D->Option Ret
end FL
namespace FL
open PySem PyProof.Rows L2
noncomputable def repF(f:FA)(g:FE):FA:=fun ds=>(f ds).bind fun l=>(g ds).bind fun y=>match y with
 | .int k=>if 0<=k/\k<=1000/\l.length*k.toNat<=sizeLine then some (List.replicate k.toNat l).flatten else none
 |_=>none
noncomputable def fldD(ix:List (Nat×Nat)):D->Option D
 | .ins t ds=>(ix.lookup t).bind fun i=>ds[i]?
 |_=>none
noncomputable def fldG(ix:List (Nat×Nat))(f:FE):FE:=fun ds=>(f ds).bind (fldD ix)
noncomputable def methR(n:Nat)(cs:List Nat)(F:Nat->List D->Option Ret)(o:D)(l:List D):Option Ret:=match o with
 | .ins t es=>if t∈cs/\l.length=n then F t (.ins t es::l) else none
 |_=>none
noncomputable def methV(n:Nat)(cs:List Nat)(F:Nat->List D->Option Ret)(fo:FE)(g:FA):FE:=fun ds=>(fo ds).bind fun o=>(g ds).bind fun l=>(methR n cs F o l).bind retV
noncomputable def methF(n:Nat)(cs:List Nat)(F:Nat->List D->Option Ret)(fo:FE)(g:FA):FA:=fun ds=>(fo ds).bind fun o=>(g ds).bind fun l=>(methR n cs F o l).bind retF
noncomputable def makeG(t n:Nat)(G:List D->Option (List D))(g:FA):FE:=fun ds=>(g ds).bind fun l=>if l.length=n/\flats l=true then (G l).map (D.ins t) else none
abbrev FN:=List Sl->Option (List D)
noncomputable def fldN(f:FE):FN:=fun ds=>(f ds).bind fun d=>if flat d=true then some [d] else none
noncomputable def argsN(n:Nat)(ds:List D):List Sl:=Sl.no::(ds.map Sl.v++List.replicate (n-(ds.length+1)) Sl.no)
noncomputable def runN(g:FN)(n:Nat):List D->Option (List D):=fun ds=>(g (argsN n ds)).bind fun new=>if flats new=true then some new else none
end FL
namespace FL
open PySem
noncomputable def ifX(c:FT)(a b:List Sl->Bool):List Sl->Bool:=fun ds=>match c ds with
 |some true=>a ds
 |some false=>b ds
 |none=>false
noncomputable def dI:List Sl->Bool:=fun _=>false
noncomputable def dR:List Sl->Bool:=fun _=>true
noncomputable def seqX(f:FS)(x:List Sl->Bool):List Sl->Bool:=fun ds=>match f ds with
 |some (.nx ds')=>x ds'
 |_=>false
noncomputable def callX(n:Nat)(R:List D->Bool)(g:FA):List Sl->Bool:=fun ds=>match g ds with
 |some l=>decide (l.length=n)&&R l
 |none=>false
noncomputable def runX(x:List Sl->Bool)(n:Nat):List D->Bool:=fun ds=>x (args n ds)
noncomputable def goneO(i:Nat):Out->Out
 | .nx ds=>.nx (ds.set i .no)
 | .bk ds=>.bk (ds.set i .no)
 | .ct ds=>.ct (ds.set i .no)
 | .rt r=>.rt r
noncomputable def isxG(i:Nat)(tb:List (Nat×Bool)):FE:=fun ds=>match ds[i]? with
 |some (.exc t)=>(tb.lookup t).map D.bl
 |_=>none
noncomputable def orX(a b:List Sl->Bool):List Sl->Bool:=fun ds=>a ds||b ds
noncomputable def okRB(i j:Int):Prop:=-(2 ^ 61)<=i/\i<2 ^ 61/\-(2 ^ 61)<=j/\j<2 ^ 61
noncomputable instance okRBD(i j:Int):Decidable (okRB i j):=Classical.propDecidable _
end FL
namespace FL
noncomputable def sltW(f:FE)(lo hi:List Sl->Option (Option Int)):FE:=fun ds=>(f ds).bind fun d=>(lo ds).bind fun a=>(hi ds).bind fun b=>match d with
 | .tup l=>some (.tup (cutD l a b))
 |_=>none
end FL
namespace FL
open PySem PyProof.Rows L2
noncomputable def loopX(ga:D->List Sl->Option (List Sl))(body:FS)(x:List Sl->Bool):List D->List Sl->Bool
 |[],_=>false
 | d :: r, ds => match ga d ds with
   |none=>false
   | some ds1 => x ds1 || (match body ds1 with
     |some (.nx ds2)=>loopX ga body x r ds2
     |some (.ct ds2)=>loopX ga body x r ds2
     |_=>false)
noncomputable def forX(fi:FA)(ga:D->List Sl->Option (List Sl))(body:FS)(x:List Sl->Bool):List Sl->Bool:=fun ds=>match fi ds with
 |some items=>loopX ga body x items ds
 |none=>false
noncomputable def wI{α : Type}(l:List α)(lo hi:Option Int)(c:Int):List α:=(sliceRange (sliceBounds lo hi (some c) l.length).1 (sliceBounds lo hi (some c) l.length).2.1 (sliceBounds lo hi (some c) l.length).2.2).filterMap (l[·]?)
noncomputable def stpA(f:FE)(lo hi:List Sl->Option (Option Int))(c:Int):FA:=fun ds=>(f ds).bind fun d=>(lo ds).bind fun a=>(hi ds).bind fun b=>match d with
 | .lst l=>some (wI l a b c)
 |_=>none
noncomputable def rngL(fa fb:FE):FA:=fun ds=>(fa ds).bind fun x=>(fb ds).bind fun y=>match x,y with
 | .int i,.int j=>some (gT i (j-i).toNat)
 |_,_=>none
@[simp] theorem rngL_eq(fa fb:FE)(ds:List Sl):rngL fa fb ds=(fa ds).bind fun x=>(fb ds).bind fun y=>match x,y with
 | .int i,.int j=>some (gT i (j-i).toNat)
 |_,_=>none:=rfl
noncomputable def extX(i:Nat)(y:List Sl->Bool):List Sl->Bool:=fun ds=>match ds[i]? with
 |some (.own _)=>y ds
 |_=>false
noncomputable def stwD:D->D->Option D
 | .str x,.str y=>some (.bl (Txt.startswith x y))
 |_,_=>none
noncomputable def enwD:D->D->Option D
 | .str x,.str y=>some (.bl (Txt.endswith x y))
 |_,_=>none
noncomputable def splA(f g:FE):FA:=fun ds=>(f ds).bind fun x=>(g ds).bind fun y=>match x,y with
 | .str x,.str y=>if (y.length==0)=false/\x.length+2<=sizeLine then some ((Txt.split x y).map D.str) else none
 |_,_=>none
noncomputable def prtD:D->D->Option D
 | .str x,.str y=>if (y.length==0)=false/\x.length<=sizeLine then some (.tup [.str (Txt.partition x y).1,.str (Txt.partition x y).2.1,.str (Txt.partition x y).2.2]) else none
 |_,_=>none
noncomputable def strD:List D->Option D
 |[.int i]=>if i.natAbs.log2<1920 then some (.str (Str.ofString (toString i))) else none
 |_=>none
noncomputable def intTD:List D->Option D
 |[.str x]=>if x.length<=640 then (intText? x).map D.int else none
 |l=>int1D l
noncomputable instance mulOkSD(x:Str)(n:Int):Decidable (MulOk x n):=Classical.propDecidable _
noncomputable def slsS(f:FE)(lo hi:List Sl->Option (Option Int)):FE:=fun ds=>(f ds).bind fun d=>(lo ds).bind fun a=>(hi ds).bind fun b=>match d with
 | .str x=>if x.length<=sizeLine then some (.str (Txt.slice x a b)) else none
 |_=>none
noncomputable def notS:D->D->Option D
 | .str i,.str j=>some (.bl (!(!(Builtin.Str.occurrences j i 0 j.length 1).isEmpty)))
 |_,_=>none
noncomputable def thenX(f:FE)(x:List Sl->Bool):List Sl->Bool:=fun ds=>match f ds with
 |some _=>x ds
 |none=>false
abbrev FO:=List Sl->Option OT
abbrev FOs:=List Sl->Option (List OT)
noncomputable def getN(i:Nat):FE:=fun ds=>match ds[i]? with
 |some (.v d)=>some d
 |some (.own l)=>some (.lst l)
 |some (.ob _ t)=>some (otD t)
 |_=>none
noncomputable def vO(f:FE):FO:=fun ds=>(f ds).map OT.val
noncomputable def lO(f:FA):FO:=fun ds=>(f ds).map fun l=>.lst (l.map OT.val)
noncomputable def nilO:FOs:=fun _=>some []
noncomputable def consO(f:FO)(g:FOs):FOs:=fun ds=>(f ds).bind fun x=>(g ds).map fun r=>x::r
noncomputable def tO(f:FOs):FO:=fun ds=>(f ds).bind fun l=>if l.length<=sizeLine then some (.tup l) else none
noncomputable def setB(i:Nat)(f:FO):FS:=fun ds=>(f ds).map fun t=>.nx (ds.set i (.ob none t))
mutual
noncomputable def flatO:OT->Bool
 | .val d=>flat d
 | .lst l=>oP l
 | .tup l=>oP l
 | .dct _ l=>oP l
 | .ins _ l=>oP l
noncomputable def oP:List OT->Bool
 |[]=>true
 |t::r=>flatO t&&oP r
end
abbrev FP:=List Sl->Option (Nat×List Nat×OT)
@[simp] theorem getN_eq(i:Nat)(ds:List Sl):getN i ds=match ds[i]? with
 |some (.v d)=>some d
 |some (.own l)=>some (.lst l)
 |some (.ob _ t)=>some (otD t)
 |_=>none:=rfl
@[simp] theorem vO_eq(f:FE)(ds:List Sl):vO f ds=(f ds).map OT.val:=rfl
@[simp] theorem lO_eq(f:FA)(ds:List Sl):lO f ds=(f ds).map fun l=>.lst (l.map OT.val):=rfl
@[simp] theorem nilO_eq(ds:List Sl):nilO ds=some []:=rfl
@[simp] theorem consO_eq(f:FO)(g:FOs)(ds:List Sl):consO f g ds=(f ds).bind fun x=>(g ds).map fun r=>x::r:=rfl
@[simp] theorem tO_eq(f:FOs)(ds:List Sl):tO f ds=(f ds).bind fun l=>if l.length<=sizeLine then some (.tup l) else none:=rfl
@[simp] theorem setB_eq(i:Nat)(f:FO)(ds:List Sl):setB i f ds=(f ds).map fun t=>.nx (ds.set i (.ob none t)):=rfl
abbrev FX:=List Sl->Option (D×List Sl)
noncomputable def seeO(f:FO):FE:=fun ds=>(f ds).map otD
noncomputable def oQ(ga:D->List Sl->Option (List Sl))(fe:FE)(x:List Sl->Bool)(S:List Sl):List D->Bool
 |[]=>false
 | d :: r => match ga d S with
   |some ds1=>x ds1||(match fe ds1 with | some _=>oQ ga fe x S r | none=>false)
   |none=>false
noncomputable def AZ(fi:FA)(mp:List (Option Nat))(ga:D->List Sl->Option (List Sl))(fe:FE)(x:List Sl->Bool):List Sl->Bool:=fun ds=>match fi ds with
 |some items=>decide (items.length<=sizeLine)&&oQ ga fe x (yI mp ds) items
 |none=>false
noncomputable def tryG4(i t u v v':Nat)(g:FS)(x y z z':List Sl->Bool)(h:FS):FS:=fun ds=>if x ds=true then (h (ds.set i (.exc t))).map (goneO i) else if y ds=true then (h (ds.set i (.exc u))).map (goneO i) else if z ds=true then (h (ds.set i (.exc v))).map (goneO i) else if z' ds=true then (h (ds.set i (.exc v'))).map (goneO i) else g ds
end FL
namespace L2
open PySem PySem.Spec PyProof.Rows
noncomputable def keyIs:Key->Value->Bool
 | .inl k,v=>Value.isInt k v
 | .inr x,v=>Value.isStrOf x v
noncomputable def keyH(w:World):Key->Int
 | .inl k=>hashInt k
 | .inr x=>hashStr w x
theorem jP:∀{k:Key} {v:Value},keyIs k v=true->(∃i t,k=Sum.inl i/\v=Value.int i t)\/(∃x t,k=Sum.inr x/\v=Value.str x t)
 | .inl i, v, h => by
   obtain⟨t,e⟩:=Value.isInt_shape (k:=i) (v:=v) h;exact .inl ⟨i,t,rfl,e⟩
 | .inr x, v, h => by
   obtain⟨t,e⟩:=Value.isStrOf_shape (x:=x) (v:=v) h;exact .inr ⟨x,t,rfl,e⟩
theorem key_ll(a b:Int):decide ((Sum.inl a:Key)=Sum.inl b)=(a==b):=by
 by_cases e:a=b
 . subst e;simp
 . have h : ¬(Sum.inl a : Key)=Sum.inl b := fun q => e (Sum.inl.inj q);rw[decide_eq_false h];exact(beq_eq_false_iff_ne.mpr e).symm
theorem key_rr(a b:Str):decide ((Sum.inr a:Key)=Sum.inr b)=decide (a=b):=by
 by_cases e:a=b
 . subst e;simp
 . have h : ¬(Sum.inr a : Key)=Sum.inr b := fun q => e (Sum.inr.inj q);rw[decide_eq_false h,decide_eq_false e]
theorem key_lr(a:Int)(b:Str):decide ((Sum.inl a:Key)=Sum.inr b)=false:=decide_eq_false (fun q=>nomatch q)
theorem key_rl(a:Str)(b:Int):decide ((Sum.inr a:Key)=Sum.inl b)=false:=decide_eq_false (fun q=>nomatch q)
noncomputable def EO(prog:Program)(w:World):PySem.KeyKind prog w Key where
 is:=keyIs
 hash:=keyH w
 inj:=fun v a b ha hb=>by
  rcases jP ha with⟨i,t,rfl,rfl⟩ | ⟨x,t,rfl,rfl⟩
  . rcases jP hb with ⟨j, u, rfl, e⟩ | ⟨y, u, rfl, e⟩
    . injection e with e1 _;rw[e1]
    . exact nomatch e
  . rcases jP hb with ⟨j, u, rfl, e⟩ | ⟨y, u, rfl, e⟩
    . exact nomatch e
    . injection e with e1 _;rw[e1]
 byValue:=fun k v h=>by
  rcases jP h with⟨i,t,rfl,rfl⟩ | ⟨x,t,rfl,rfl⟩<;>rfl
 pyHash:=fun hv h=>by
  rcases jP hv with⟨i,t,rfl,rfl⟩ | ⟨x,t,rfl,rfl⟩
  . exact wpAny_pyHash_int h
  . exact wpAny_pyHash_str h
 eqBool:=fun hu hv h=>by
  rcases jP hu with⟨i,t,rfl,rfl⟩ | ⟨x,t,rfl,rfl⟩
  . rcases jP hv with ⟨j, u, rfl, rfl⟩ | ⟨y, u, rfl, rfl⟩
    . rw[key_ll] at h;exact wpAny_eqBool_int h
    . rw[key_lr] at h;exact SeqAt.EqAt.int_str i t y u _ _ _ _ h
  . rcases jP hv with ⟨j, u, rfl, rfl⟩ | ⟨y, u, rfl, rfl⟩
    . rw[key_rl] at h;exact SeqAt.EqAt.str_int x t j u _ _ _ _ h
    . rw[key_rr] at h;exact wpAny_eqBool_str h
 «strs»:=fun k x t v h=>by
  rcases jP h with⟨i,u,rfl,e⟩ | ⟨y,u,rfl,e⟩
  . exact nomatch e
  . injection e with e1 _
    subst e1;cases v<;>rfl
inductive V where
 |non | bl (b:Bool) | int (i:Int) | str (x:Str) | byt (b:Array UInt8) | flt (b:UInt64) | ref (a:Addr) | ty (n:String)
 deriving DecidableEq
noncomputable def RelV:V->Value->Prop
 | .non,u=>u=Value.none
 | .bl b,u=>u=Value.bool b
 | .int i,u=>∃t,u=Value.int i t
 | .str x,u=>∃t,u=Value.str x t
 | .byt b,u=>∃t,u=Value.bytes b t
 | .flt b,u=>∃t,u=Value.float b t
 | .ref a,u=>u=Value.ref a
 | .ty n,u=>u=Value.type n
abbrev Vals:List V->List Value->Prop:=Paired RelV
theorem Vals.length{xs:List V}{us:List Value}(r:Vals xs us):xs.length=us.length:=Paired.length r
theorem Vals.get:∀{xs:List V} {us:List Value} {i:Nat} {x:V},Vals xs us->xs[i]?=some x->∃u,us[i]?=some u/\RelV x u
 |_,_,_,_,.nil,e=>by simp at e
 |_,_,0,_,.cons r _,e=>by simp at e;subst e;exact⟨_,rfl,r⟩
 | _, _, i + 1, x, .cons _ t, e => by
   obtain⟨u,h1,h2⟩:=Vals.get (i:=i) (x:=x) t (by simpa using e);exact⟨u,by simpa using h1,h2⟩
theorem Vals.set{x:V}{u:Value}(r:RelV x u):∀{xs:List V} {us:List Value} (i:Nat),Vals xs us->Vals (xs.set i x) (us.set i u)
 |_,_,_,.nil=>.nil
 |_,_,0,.cons _ t=>.cons r t
 |_,_,i+1,.cons q t=>.cons q (Vals.set r i t)
theorem Vals.append:∀{xs ys:List V} {us ws:List Value},Vals xs us->Vals ys ws->Vals (xs++ys) (us++ws)
 |_,_,_,_,.nil,s=>s
 |_,_,_,_,.cons r t,s=>.cons r (Vals.append t s)
theorem Vals.take:∀{xs:List V} {us:List Value} (n:Nat),Vals xs us->Vals (xs.take n) (us.take n)
 |_,_,0,_=>.nil
 |_,_,_+1,.nil=>.nil
 |_,_,n+1,.cons r t=>.cons r (Vals.take n t)
theorem Vals.drop:∀{xs:List V} {us:List Value} (n:Nat),Vals xs us->Vals (xs.drop n) (us.drop n)
 |_,_,0,r=>r
 |_,_,_+1,.nil=>.nil
 |_,_,n+1,.cons _ t=>Vals.drop n t
noncomputable def RelO:Option V->Option Value->Prop
 |some v,some u=>RelV v u
 |none,none=>True
 |_,_=>False
noncomputable def KV{κ : Type}: List (κ×V)->List (κ×Value)->Prop:=Paired fun(p : κ×V) (q : κ×Value)=>p.1=q.1/\RelV p.2 q.2
noncomputable def kV:Key->V
 | .inl i=>.int i
 | .inr x=>.str x
inductive HO where
 |lst (xs:List V)
 |tup (xs:List V)
 |dK (kvs:List (Key×V)) | dT (kvs:List (List Key×V))
 |set (S:Int->Bool) (n:Nat)
 |ins (C dx:Addr) (fs:List (Str×V))
 |own (x:Addr)
 |xd (fs:List (Str×V))
 |met (f x:Addr)
 |rng (lo hi:Int)
 |frz (o:Obj) (u:HO)
 |tbl (q:Nat->Nat->Str)
 |ext (φ : Heap->Prop)
abbrev Hp:=Addr->Option HO
noncomputable def upd(H:Hp)(a:Addr)(o:HO):Hp:=fun b=>if b=a then some o else H b
theorem cF{H:Hp}{a:Addr}{o:HO}: upd H a o a=some o:=by unfold upd;rw[if_pos rfl]
theorem zX{H:Hp}{a b:Addr}{o:HO}(h:b≠a):upd H a o b=H b:=by unfold upd;rw[if_neg h]
theorem yD{H:Hp}{a b:Addr}{o:HO}(h:H a=some o)(h':H b=none):a≠b:=by
 intro e;subst e;rw[h] at h';cases h'
noncomputable def TblOk(H:Hp)(q:Nat->Nat->Str)(ps:Array Value):Prop:=TriplesOk ps.toList/\∀pos v,codeAmong pos ps.toList=some v->∃c o u vs t,v=.ref c/\H c=some (.frz o u)/\o.data=.fields vs/\vs[1]?=some (.str (q pos.line pos.col) t)
noncomputable def Fixed:HO->Prop
 | .tup _=>True
 | .frz o _=>∃vs,o.data=.fields vs
 |_=>False
noncomputable def Fx:={ u:HO // Fixed u }
section
variable(P:Program)(w:World)
noncomputable def ObjOk(H:Hp)(h:Heap)(a:Addr):HO->Prop
 | .lst xs=>xs.length<=sizeLine/\∃(its:List Value) (n:Nat),Vals xs its/\h.get? a=some { cls:=.type "list",data:=.seq its.toArray n }
 | .tup xs=>xs.length<=sizeLine/\∃its:List Value,Vals xs its/\IsTup h a its.toArray
 | .dK kvs=>kvs.length<=sizeLine/\(a==sysModules)=false/\∃vs,KV kvs vs/\h.DictOf (EO P w) a vs
 | .dT kvs=>kvs.length<=sizeLine/\(a==sysModules)=false/\∃xs:List (List Key×Addr×Value),
    Paired (fun(p:List Key×V) (q:List Key×Addr×Value)=>p.1=q.1/\H q.2.1=some (.tup (p.1.map kV))/\RelV p.2 q.2.2) kvs xs ∧
    ∃o es ep,h.get? a=some o/\o.ExactDict/\o.data=.dict es ep/\es.toList=xs.map (entryOfKey (tupleKind (EO P w)))/\(xs.map (·.1)).Nodup
 | .set S n=>h.SetOf (intKind P w) a S n
 | .ins C dx fs=>H dx=some (.own a)/\fs.length<=1000/\dx≠a/\h.get? a=some (cR C dx) ∧
    ∃mA,h.Ns1 dx mA/\(∀f,RelO (fs.lookup f) (mA f))/\PySem.Within mA (fs.map (·.1))
 | .own _=>∃o,h.get? a=some o
 | .xd fs=>∃mA,h.Ns1 a mA/\∀f,RelO (fs.lookup f) (mA f)
 | .rng lo hi=>∃t u v,h.get? a=some { cls:=.type "range",data:=.fields #[.int lo t,.int hi u,.int 1 v] }
 | .frz o u=>h.get? a=some o/\ObjOk H h a u
 | .tbl q=>∃ps,h.get? a=some (tS ps)/\TblOk H q ps
 | .met f x=>h.get? a=some (oU (.ref f) (.ref x))
 | .ext φ=>φ h/\(∃o,h.get? a=some o)/\∀h1 h2:Heap,φ h1->(∀o,h1.get? a=some o->h2.get? a=some o)->φ h2
noncomputable def HOk(H:Hp)(h:Heap):Prop:=∀a o,H a=some o->ObjOk P w H h a o
end
section
variable{P:Program}{w:World}{H H':Hp}{h h':Heap}{a:Addr}{o:HO}
theorem ObjOk.lt(x:ObjOk P w H h a o):a<h.objs.size:=by
 cases o with
 |lst xs=>obtain⟨_,_,_,_,e⟩:=x;exact aU e
 |tup xs=>obtain⟨_,_,_,p⟩:=x;exact p.lt
 |dK kvs=>obtain⟨_,_,_,_,o,_,_,e,_⟩:=x;exact aU e
 |dT kvs=>obtain⟨_,_,_,_,o,_,_,e,_⟩:=x;exact aU e
 |set S n=>obtain⟨o,_,_,_,e,_⟩:=x;exact aU e
 |ins C dx fs=>obtain⟨_,_,_,e,_⟩:=x;exact aU e
 |own y=>obtain⟨_,e⟩:=x;exact aU e
 |xd fs=>obtain⟨_,⟨_,_,_,e,_⟩,_⟩:=x;exact aU e
 |rng lo hi=>obtain⟨_,_,_,e⟩:=x;exact aU e
 |frz ob u=>obtain⟨e,_⟩:=x;exact aU e
 |tbl q=>obtain⟨_,e,_⟩:=x;exact aU e
 |met f y=>exact aU (show h.get? a=some _ from x)
 |ext φ=>obtain⟨_,⟨_,e⟩,_⟩:=x;exact aU e
theorem Paired.mapP{α β : Type}{F G : α->β->Prop}:∀{l₁ : List α} {l₂ : List β},Paired F l₁ l₂->(∀a b,F a b->G a b)->Paired G l₁ l₂
 |_,_,.nil,_=>.nil
 |_,_,.cons r t,f=>.cons (f _ _ r) (Paired.mapP t f)
theorem ObjOk.stay(x:ObjOk P w H h a o)(k:∀b u,(b=a\/H b=some (.own a))->h.get? b=some u->h'.get? b=some u)
  (ho:∀b,H b=some (.own a)->H' b=some (.own a)) (ht:∀b (xs:Fx),H b=some xs.1->H' b=some xs.1):ObjOk P w H' h' a o:=by
 induction o with
 |lst xs=>obtain⟨z,its,n,r,e⟩:=x;exact⟨z,its,n,r,k _ _ (.inl rfl) e⟩
 |tup xs=>obtain⟨z,its,r,ob,e,c⟩:=x;exact⟨z,its,r,ob,k _ _ (.inl rfl) e,c⟩
 |dK kvs=>obtain⟨z,y,vs,r,ob,es,ep,e,c⟩:=x;exact⟨z,y,vs,r,ob,es,ep,k _ _ (.inl rfl) e,c⟩
 | dT kvs =>
   obtain⟨z,y,xs,r,ob,es,ep,e,c⟩:=x;exact⟨z,y,xs,Paired.mapP r fun p q z=>⟨z.1,ht _ ⟨.tup _,trivial⟩ z.2.1,z.2.2⟩,ob,es,ep,k _ _ (.inl rfl) e,c⟩
 |set S n=>obtain⟨ob,es,ep,t,e,c⟩:=x;exact⟨ob,es,ep,t,k _ _ (.inl rfl) e,c⟩
 | ins C dx fs =>
   obtain⟨d,z,ne,e,mA,⟨od,es,ep,e2,c⟩,r⟩:=x;exact⟨ho _ d,z,ne,k _ _ (.inl rfl) e,mA,⟨od,es,ep,k _ _ (.inr d) e2,c⟩,r⟩
 |own y=>obtain⟨ob,e⟩:=x;exact⟨ob,k _ _ (.inl rfl) e⟩
 |xd fs=>obtain⟨mA,⟨od,es,ep,e,c⟩,r⟩:=x;exact⟨mA,⟨od,es,ep,k _ _ (.inl rfl) e,c⟩,r⟩
 |rng lo hi=>obtain⟨t,u,v,e⟩:=x;exact⟨t,u,v,k _ _ (.inl rfl) e⟩
 |frz ob u ih=>obtain⟨e,q⟩:=x;exact⟨k _ _ (.inl rfl) e,ih q⟩
 | tbl q =>
   obtain⟨ps,e,t1,t2⟩:=x;refine⟨ps,k a _ (.inl rfl) e,t1,fun pos v z=>?_⟩;obtain⟨c,o,u,vs,t,h1,h2,h3,h4⟩:=t2 pos v z;exact⟨c,o,u,vs,t,h1,ht c ⟨.frz o u,vs,h3⟩ h2,h3,h4⟩
 | met f y =>
   have e:h.get? a=some (oU (.ref f) (.ref y)):=x;show h'.get? a=some (oU (.ref f) (.ref y));exact k a _ (.inl rfl) e
 |ext φ=>obtain⟨p,⟨o,e⟩,st⟩:=x;exact⟨st _ _ p fun o q=>k _ _ (.inl rfl) q,⟨o,k _ _ (.inl rfl) e⟩,st⟩
theorem HOk.lt(x:HOk P w H h)(e:H a=some o):a<h.objs.size:=(x a o e).lt
theorem HOk.fresh(x:HOk P w H h)(e:h.objs.size<=a):H a=none:=by
 cases q:H a with
 |none=>rfl
 |some u=>exact absurd (aZ (x.lt q) e) (bZ _)
theorem HOk.kept(x:HOk P w H h)(k:∀b u,h.get? b=some u->h'.get? b=some u):HOk P w H h':=fun a o e =>
 (x a o e).stay (fun b u _ q=>k b u q) (fun _ q=>q) fun _ _ q=>q
theorem HOk.laid(x:HOk P w H h)(k:∀b u,h.get? b=some u->h'.get? b=some u)(hp:h.objs.size<=a)(new:ObjOk P w (upd H a o) h' a o):HOk P w (upd H a o) h':=fun b u e=>by
 have hn:=x.fresh hp
 by_cases hb:b=a
 . subst hb;rw[cF] at e;cases e;exact new
 . rw[zX hb] at e;exact(x b u e).stay (fun c v _ q=>k c v q) (fun c q=>by rw[zX (yD q hn)];exact q) fun c xs q=>by rw[zX (yD q hn)];exact q
end
noncomputable def Rd(H:Hp)(a:Addr)(u:HO):Prop:=H a=some u\/∃o,H a=some (.frz o u)
theorem Rd.ok{P:Program}{w:World}{H:Hp}{h:Heap}{a:Addr}{u:HO}(r:Rd H a u)(x:HOk P w H h):ObjOk P w H h a u:=by
 rcases r with r | ⟨o,r⟩
 . exact x a u r
 . obtain⟨_, q⟩ := x a _ r;exact q
noncomputable def Mut:Option HO->Prop
 |some (.lst _)=>True
 |some (.dK _)=>True
 |some (.dT _)=>True
 |some (.set _ _)=>True
 |some (.ins _ _ _)=>True
 |some (.ext _)=>True
 |_=>False
section
variable{P:Program}{w:World}{H:Hp}{h h':Heap}{x e:Addr}{o':HO}
theorem HOk.write(ok:HOk P w H h)(mu:Mut (H x))(he:e=x\/H e=some (.own x))(k:∀b u,b≠e->h.get? b=some u->h'.get? b=some u)(heo:∃u,h'.get? e=some u)
  (new:ObjOk P w (upd H x o') h' x o'):HOk P w (upd H x o') h':=fun b u q=>by
 have nown:∀c y,H c=some (.own y)->c≠x:=fun c y r z=>by subst z;rw[r] at mu;exact mu
 have ntup:∀c (xs:Fx),H c=some xs.1->c≠x:=fun c xs r z=>by
  subst z;rw[r] at mu;obtain⟨u,hu⟩:=xs;cases u<;>first | exact False.elim mu | exact False.elim hu
 by_cases hb:b=x
 . subst hb;rw[cF] at q;cases q;exact new
 . rw [zX hb] at q
   by_cases hbe:b=e
   . have q':H b=some (.own x):=by
      rcases he with z | z
      . exact absurd (hbe.trans z) hb
      . rw[hbe];exact z
     rw[q] at q';cases q';obtain⟨v,hv⟩:=heo;exact⟨v,by rw[hbe];exact hv⟩
   . refine (ok b u q).stay (fun c v hc r => k c v ?_ r) (fun c r => by rw [zX (nown c b r)]; exact r) fun c xs r => by rw [zX (ntup c xs r)]; exact r
     rcases hc with rfl | hc
     . exact hbe
     . rintro rfl;rcases he with z | z
       . exact nown c b hc z
       . rw[hc] at z;cases z;exact hb rfl
end
structure Un(fs ex:List Addr)(H H':Hp)(h h':Heap):Prop where
 keep:∀b o,h.get? b=some o->H b=none->b∉fs->b∉ex->h'.get? b=some o
 slot:∀b o,h.get? b=some o->H b=none->b∈fs->b∉ex->∃sl,h'.get? b=some { o with slots:=sl }
 free:∀b o,h.get? b=some o->H b=none->b∉ex->H' b=none
 there:∀b o,h.get? b=some o->b∉ex->∃o',h'.get? b=some o'
 tups:∀b xs,H b=some (.tup xs)->H' b=some (.tup xs)
 frzs:∀b o u,H b=some (.frz o u)->H' b=some (.frz o u)
 tbls:∀b ps,H b=some (.tbl ps)->H' b=some (.tbl ps)
section
variable{fs fs' ex ex':List Addr}{H H1 H2:Hp}{h h1 h2 h':Heap}{a x e:Addr}{o:HO}
theorem Un.any(u:Un fs ex H H1 h h1){b:Addr}{ob:Obj}(q:h.get? b=some ob)(n:H b=none)(hx:b∉ex):∃sl,h1.get? b=some { ob with slots:=sl }:=by
 by_cases hb:b∈fs
 . exact u.slot b ob q n hb hx
 . exact⟨ob.slots,u.keep b ob q n hb hx⟩
theorem Un.trans(a:Un fs ex H H1 h h1)(b:Un fs ex H1 H2 h1 h2):Un fs ex H H2 h h2 where
 keep:=fun c ob q n hc hx=>b.keep c ob (a.keep c ob q n hc hx) (a.free c ob q n hx) hc hx
 slot:=fun c ob q n hc hx=>by
  obtain⟨sl,e1⟩:=a.slot c ob q n hc hx;obtain⟨sl',e2⟩:=b.slot c _ e1 (a.free c ob q n hx) hc hx;exact⟨sl',e2⟩
 free:=fun c ob q n hx=>by
  obtain⟨o',e1⟩:=a.there c ob q hx;exact b.free c o' e1 (a.free c ob q n hx) hx
 there:=fun c ob q hx=>by
  obtain⟨o',e1⟩:=a.there c ob q hx;exact b.there c o' e1 hx
 tups:=fun c xs q=>b.tups c xs (a.tups c xs q)
 frzs:=fun c ob xs q=>b.frzs c ob xs (a.frzs c ob xs q)
 tbls:=fun c ps q=>b.tbls c ps (a.tbls c ps q)
theorem Un.kept(k:∀b u,h.get? b=some u->h'.get? b=some u):Un fs ex H H h h' :=
 ⟨fun b ob q _ _ _=>k b ob q,fun b ob q _ _ _=>⟨ob.slots,k b ob q⟩,fun _ _ _ n _=>n,fun b ob q _=>⟨ob,k b ob q⟩,fun _ _ q=>q,fun _ _ _ q=>q,fun _ _ q=>q⟩
theorem Un.refl:Un fs ex H H h h:=Un.kept fun _ _ q=>q
theorem Un.laid(k:∀b u,h.get? b=some u->h'.get? b=some u)(hp:h.objs.size<=a)(hn:H a=none):Un fs ex H (upd H a o) h h' where
 keep:=fun b u q _ _ _=>k b u q
 slot:=fun b u q _ _ _=>⟨u.slots,k b u q⟩
 free:=fun b u q n _=>by rw[zX (bS (aZ (aU q) hp))];exact n
 there:=fun b u q _=>⟨u,k b u q⟩
 tups:=fun b xs q=>by rw[zX (yD q hn)];exact q
 frzs:=fun b u xs q=>by rw[zX (yD q hn)];exact q
 tbls:=fun b ps q=>by rw[zX (yD q hn)];exact q
theorem Un.write(mu:Mut (H x))(he:e=x\/H e=some (.own x))(k:∀b u,b≠e->h.get? b=some u->h'.get? b=some u)(heo:∃u,h'.get? e=some u):Un fs ex H (upd H x o) h h':=by
 have hx:∀b,H b=none->b≠x:=fun b n z=>by subst z;rw[n] at mu;exact mu
 have hb:∀b,H b=none->b≠e:=fun b n z=>by
  subst z;rcases he with r | r
  . exact hx b n r
  . rw[n] at r;cases r
 have hm:∀b u,H b=some u->¬Mut (some u)->b≠x:=fun b u q nm z=>by subst z;rw[q] at mu;exact nm mu
 refine⟨fun b u q n _ _=>k b u (hb b n) q,fun b u q n _ _=>⟨u.slots,k b u (hb b n) q⟩,fun b u q n _=>by rw[zX (hx b n)];exact n,fun b u q _=>?_,
  fun b xs q=>by rw[zX (hm b _ q fun z=>z)];exact q,fun b u xs q=>by rw[zX (hm b _ q fun z=>z)];exact q,fun b ps q=>by rw[zX (hm b _ q fun z=>z)];exact q⟩
 by_cases hbe:b=e
 . subst hbe;exact heo
 . exact⟨u,k b u hbe q⟩
theorem Un.mono(u:Un fs ex H H1 h h1)(hs:∀b∈fs,b∈fs')(hx:∀b∈ex,b∈ex'):Un fs' ex' H H1 h h1 :=
 ⟨fun b ob q n hb he=>u.keep b ob q n (fun z=>hb (hs b z)) fun z=>he (hx b z),fun _ _ q n _ he=>u.any q n fun z=>he (hx _ z),fun b ob q n he=>u.free b ob q n fun z=>he (hx b z),fun b ob q he=>u.there b ob q fun z=>he (hx b z),u.tups,u.frzs,u.tbls⟩
end
noncomputable def trk(h:Heap)(H:Hp):List Addr:=(List.range h.objs.size).filter fun a=>(H a).isSome
noncomputable def hidT(h:Heap)(H:Hp):Heap:=PySem.W.hideAll h (trk h H)
theorem PN(h:Heap)(H:Hp):(hidT h H).objs.size=h.objs.size:=PySem.W.hideAll_size _ _
theorem HF{h:Heap}{H:Hp}{b:Addr}{o:Obj}(e:h.get? b=some o)(n:H b=none):(hidT h H).get? b=some o :=
 PySem.W.hideAll_get _ e fun hm=>by
  have q:(H b).isSome=true:=(WJ.mp hm).2;rw[n] at q;simp at q
theorem YZ{h:Heap}{H:Hp}{b:Addr}{o:Obj}(e:(hidT h H).get? b=some o):h.get? b=some o/\H b=none:=by
 have e':h.get? b=some o:=PySem.W.of_hideAll (trk h H) e;refine⟨e',?_⟩;cases q:H b with
 |none=>rfl
 | some x =>
   have hm:b∈trk h H:=WJ.mpr ⟨nQ.mpr (aU e'),by simp[q]⟩;have z:(hidT h H).get? b=none:=PySem.W.hideAll_none (trk h H) hm;rw[z] at e;cases e
noncomputable def allNews(g h:Heap)(L:Addr):List (Addr×Obj):=(List.range h.objs.size).filterMap fun a=>if a=L\/(g.get? a).isSome=true then none else (h.get? a).map fun o=>(a,o)
noncomputable def rest(g h:Heap)(L d:Addr):List (Addr×Obj):=(allNews g h L).filter fun p=>decide (p.1≠d)
structure Mod(K:aH)(mg:Str->Option Value)(base:Heap):Prop where
 kin:K.In base
 glob:base.Ns mainGlobals mg
 blt:∃mb,base.Ns builtinsNs mb/\∀x:Str,x≠"__name__"->mb x=bootBuiltins x
 nolimit:base.NoLimit
structure Cx where
 prog:Program
 w:World
 K:aH
 mg:Str->Option Value
 base:Heap
 A:Around
 N:List Str
 s₀ : Shared
 H₀ : Hp
 env:Env
 outer:List Env
 stack:List Env
 ex:List Addr
 fn:Str->Bool
 calm:Bool
 pn:List (Addr×Obj)
 xe:Value->Shared->Prop
noncomputable def frs(l:List Env):List Addr:=l.filterMap (·.frame)
noncomputable abbrev Cx.fs(X:Cx):List Addr:=frs X.outer
noncomputable def Vis(sc:Scope)(x:Str):Prop:=sc.names.lookup x=some .local\/sc.names.lookup x=some .cell\/sc.names.lookup x=some .free
noncomputable def Loc(sc:Scope)(x:Str):Prop:=sc.names.lookup x=some .local\/sc.names.lookup x=some .cell
noncomputable def Look(env:Env)(h:Heap)(m:Str->Option Value)(x:Str)(u:Value):Prop :=
 (env.kindOf x=some .local/\m x=some u)\/((env.kindOf x=some .cell\/env.kindOf x=some .free)/\∃c,env.cells.lookup x=some c/\h.IsCell c (some u))
noncomputable def makers:List Str:=["law","_law_with_itself","_law_ways","_law_way","holding","_law_any_test","_law_test","_law_turned","_law_right","wheel_run","answer_run"]
noncomputable def JW:List Stmt->Nat->Nat->Str
 |[],_,_=>"<lambda>"
 | .FunctionDef n _ _ _ _ _ _ _ _ pos::r,l,c=>if pos.line=l/\pos.col=c then n else JW r l c
 |_::r,l,c=>JW r l c
noncomputable def oM(K:aH)(x:Str)(l c:Nat):Str:=match aJ K mainGlobals x with
 | some (some (.ref f)) => (match K.lookup f with
   | some ⟨_, _, .func fd, _⟩ => (match fd.body with
     | .stmts b=>x++".<locals>."++JW b l c
     |_=>x)
   |_=>x)
 |_=>x
structure TabsK(K:aH)(mg:Str->Option Value)(base:Heap)(H:Hp):Prop where
 bm:∃bm ob,mg "__builtins__" = some (.ref bm)/\bm≠builtinsNs/\base.get? bm=some ob/\ob.cls=.type "module"/\ob.dict=some builtinsNs/\ob.data=.plain
 tab:∀x c P,x∈makers->gX K x=some (c,P)->QN base c P/\H P=some (.tbl (oM K x))
noncomputable def Bsz(K:aH)(mg:Str->Option Value)(base h:Heap)(H:Hp):Prop:=base.objs.size<=h.objs.size/\TabsK K mg base H
noncomputable def FreeC(X:Cx)(H:Hp)(x:Str)(c:Addr):Prop:=H c=none\/(X.fn x=false/\∃o u,H c=some (.frz o u))
theorem FreeC.now{X:Cx}{H:Hp}{x:Str}{c:Addr}(h:FreeC X H x c)(hf:X.fn x=true):H c=none:=h.elim id fun z=>by rw[hf] at z;cases z.1
structure Cx.Ok(X:Cx):Prop where
 mod:Mod X.K X.mg X.base
 kind:X.env.scope.kind=.function
 glob:X.env.globals=mainGlobals
 blt:X.env.builtins=builtinsNs
 above:X.s₀.heap.objs.size<=X.env.locals
 inj:∀x y c,X.env.cells.lookup x=some c->X.env.cells.lookup y=some c->x=y
 has:∀x,(X.env.kindOf x=some .cell\/X.env.kindOf x=some .free)->∃c,X.env.cells.lookup x=some c
 cab:∀x c,X.fn x=true->X.env.cells.lookup x=some c->X.s₀.heap.objs.size<=c
 hd:X.calm=true->X.A.handled=none
 frames:X.A.frames=some X.stack
 stk:X.stack=X.outer\/(X.stack=X.env::X.outer/\X.env.frame=some X.env.locals)
 exf:∀b∈X.ex,b≠X.env.locals/\∀x c,X.env.cells.lookup x=some c->c≠b
 bs:∀b o,X.base.get? b=some o->X.s₀.heap.get? b=some o/\X.H₀ b=none
 bsz:Bsz X.K X.mg X.base X.s₀.heap X.H₀
 noex:∀b o,X.base.get? b=some o->b∉X.ex
 exfs:∀b∈X.ex,b∉X.fs
 funs:X.s₀.heap.FunFrames X.base X.outer
 frf:∀b∈X.fs,X.H₀ b=none
structure Inv(X:Cx)(pins:List (Addr×Obj))(σ : List (Option V))(H:Hp)(s:Shared):Prop where
 ok:X.Ok
 os:s.os=X.s₀.os
 bare:AllBare s.gens
 base:Un X.fs X.ex X.H₀ H X.s₀.heap s.heap
 loc:∃m,s.heap.Ns X.env.locals m/\∀(i:Nat) (x:Str) (v:V),X.N[i]?=some x->σ[i]?=some (some v)->Vis X.env.scope x->∃u,RelV v u/\Look X.env s.heap m x u
 cell:∀x c,X.env.cells.lookup x=some c->∃v,s.heap.IsCell c v
 free:H X.env.locals=none
 freeC:∀x c,X.env.cells.lookup x=some c->FreeC X H x c
 pin:∀p∈X.pn++pins,s.heap.get? p.1=some p.2/\H p.1=none/\p.1≠X.env.locals/\p.1∉X.fs/\∀v,p.2.data≠.cell v
 hok:HOk X.prog X.w H s.heap
 len : σ.length=X.N.length
section
variable{X:Cx}{pins:List (Addr×Obj)}{σ : List (Option V)}{H H':Hp}{s:Shared}{h':Heap}
theorem Cx.Ok.nofr(ok:X.Ok){b:Addr}{o:Obj}(e:X.base.get? b=some o):b∉X.fs:=fun hb=>by
 have:=(ok.funs.mem hb).1;rw[e] at this;cases this
theorem Inv.bs(I:Inv X pins σ H s):∀b o,X.base.get? b=some o->s.heap.get? b=some o/\H b=none:=fun b o e =>
 ⟨I.base.keep b o (I.ok.bs b o e).1 (I.ok.bs b o e).2 (I.ok.nofr e) (I.ok.noex b o e),I.base.free b o (I.ok.bs b o e).1 (I.ok.bs b o e).2 (I.ok.noex b o e)⟩
theorem Inv.bk(I:Inv X pins σ H s):∀b o,X.base.get? b=some o->s.heap.get? b=some o:=fun b o e=>(I.bs b o e).1
theorem Inv.mod(I:Inv X pins σ H s):Mod X.K X.mg X.base:=I.ok.mod
theorem Inv.kIn(I:Inv X pins σ H s):X.K.In s.heap:=I.ok.mod.kin.keeps I.bk
theorem Inv.lt(I:Inv X pins σ H s):X.env.locals<s.heap.objs.size:=let ⟨_,hn,_⟩:=I.loc;hn.lt
theorem Inv.sz(I:Inv X pins σ H s):X.s₀.heap.objs.size<=s.heap.objs.size:=cM I.ok.above (IE I.lt)
theorem Inv.nofs(I:Inv X pins σ H s){a:Addr}(h:s.heap.objs.size<=a):a∉X.fs:=fun hb=>by
 obtain⟨_,o,ho,_⟩:=I.ok.funs.mem hb;exact absurd (aZ (aU ho) (cM I.sz h)) (bZ _)
theorem Inv.cne(I:Inv X pins σ H s):∀x c,X.env.cells.lookup x=some c->c≠X.env.locals:=fun x c e z=>by
 obtain⟨v,o,ho,hd⟩:=I.cell x c e;obtain⟨m,⟨o',es,ep,ho',hd',_⟩,_⟩:=I.loc;rw[z,ho'] at ho;cases ho;rw[hd'] at hd;cases hd
theorem Inv.funs(I:Inv X pins σ H s):s.heap.FunFrames X.base X.outer:=by
 have all:∀(l:List Env),(∀b∈frs l,b∈X.fs)->X.s₀.heap.FunFrames X.base l->s.heap.FunFrames X.base l:=by
  intro l
  induction l with
  |nil=>intro _ _;trivial
  | cons env r ih =>
    intro hs hl;obtain⟨hk,⟨L,o,hf,hn,ho,hd⟩,hr⟩:=hl;have hL:L∈X.fs:=hs L (by unfold frs;rw[dE,hf];exact aP);obtain⟨sl,e⟩:=I.base.slot L o ho (I.ok.frf L hL) hL fun z=>I.ok.exfs L z hL;exact⟨hk,⟨L,_,hf,hn,e,hd⟩,ih (fun b hb=>hs b (by unfold frs;rw[dE,hf];exact aI _ hb)) hr⟩
 exact all X.outer (fun _ hb=>hb) I.ok.funs
theorem Inv.stack(I:Inv X pins σ H s):s.heap.FunFrames X.base X.stack:=by
 rcases I.ok.stk with e | ⟨e,hf⟩
 . rw[e];exact I.funs
 . rw[e];obtain⟨m,hn,_⟩:=I.loc;refine .cons (by rw[I.ok.kind];decide) hf hn ?_ I.funs;exact Heap.get?_none_of_le (cM I.ok.bsz.1 I.ok.above)
theorem Inv.stkSub(I:Inv X pins σ H s):∀b∈frs X.stack,b∈X.env.locals::X.fs:=fun b hb=>by
 rcases I.ok.stk with e | ⟨e,hf⟩
 . rw[e] at hb;exact aI _ hb
 . rw[e] at hb;unfold frs at hb;rw[dE,hf] at hb;exact hb
theorem Inv.stkFree(I:Inv X pins σ H s):∀b∈frs X.stack,H b=none:=fun b hb=>by
 rcases aF.mp (I.stkSub b hb) with e | hb
 . rw[e];exact I.free
 . obtain⟨_, o, ho, _⟩ := I.ok.funs.mem hb;exact I.base.free b o ho (I.ok.frf b hb) fun z=>I.ok.exfs b z hb
theorem Inv.step{g':Array GenState}{t':Nat}{d':Drawn}{ch:List Addr}(I:Inv X pins σ H s)
  (hch:∀b∈ch,(b∈X.ex\/X.s₀.heap.objs.size<=b)/\b≠X.env.locals/\(∀x c,X.env.cells.lookup x=some c->c≠b)/\∀p∈X.pn++pins,p.1≠b)
  (keep:∀b o,b≠X.env.locals->b∉X.fs->b∉ch->s.heap.get? b=some o->H b=none->h'.get? b=some o)
  (slot:∀b o,b≠X.env.locals->b∈X.fs->b∉ch->s.heap.get? b=some o->H b=none->∃sl,h'.get? b=some { o with slots:=sl }) (free:∀b o,b∉ch->s.heap.get? b=some o->H b=none->H' b=none)
  (there:∀b o,b∉ch->s.heap.get? b=some o->∃o',h'.get? b=some o')
  (tups:∀b xs,H b=some (.tup xs)->H' b=some (.tup xs)) (frzs:∀b o u,H b=some (.frz o u)->H' b=some (.frz o u)) (tbls:∀b ps,H b=some (.tbl ps)->H' b=some (.tbl ps))
  (ns:∀m,s.heap.Ns X.env.locals m->h'.Ns X.env.locals m) (hok:HOk X.prog X.w H' h') (hg:AllBare g') :
  Inv X pins σ H' { s with heap:=h',gens:=g',drawn:=d',toks:=t' }:=by
 have neL:∀b o,X.s₀.heap.get? b=some o->b≠X.env.locals:=fun b o e=>bS (aZ (aU e) I.ok.above)
 have neC:∀b o,X.s₀.heap.get? b=some o->b∉X.ex->b∉ch:=fun b o e hx hb=>by
  rcases(hch b hb).1 with z | z
  . exact hx z
  . exact absurd (aZ (aU e) z) (bZ _)
 have cellK:∀x c,X.env.cells.lookup x=some c->∀v,s.heap.IsCell c v->h'.IsCell c v:=fun x c e v ⟨o,ho,hd⟩=>by
  have nch:c∉ch:=fun z=>(hch c z).2.2.1 x c e rfl;rcases I.freeC x c e with fr | ⟨_,of,uf,fr⟩
  . by_cases hc : c ∈ X.fs
    . obtain⟨sl, q⟩ := slot c o (I.cne x c e) hc nch ho fr;exact⟨_,q,hd⟩
    . exact⟨o,keep c o (I.cne x c e) hc nch ho fr,hd⟩
  . obtain⟨e1, _⟩ := I.hok c _ fr;obtain⟨e2,_⟩:=hok c _ (frzs c of uf fr);rw[ho] at e1;cases e1;exact⟨o,e2,hd⟩
 refine⟨I.ok,I.os,hg,⟨fun b o e n hb hx=>?_,fun b o e n hb hx=>?_,fun b o e n hx=>?_,fun b o e hx=>?_,fun b xs e=>tups b xs (I.base.tups b xs e),fun b o xs e=>frzs b o xs (I.base.frzs b o xs e),fun b ps e=>?_⟩,?_,fun x c e=>?_,?_,fun x c e=>?_,fun p hp=>?_,hok,I.len⟩
 . exact keep b o (neL b o e) hb (neC b o e hx) (I.base.keep b o e n hb hx) (I.base.free b o e n hx)
 . obtain⟨sl, e1⟩ := I.base.slot b o e n hb hx;obtain⟨sl',e2⟩:=slot b _ (neL b o e) hb (neC b o e hx) e1 (I.base.free b o e n hx);exact⟨sl',e2⟩
 . obtain⟨o', e1⟩ := I.base.there b o e hx;exact free b o' (neC b o e hx) e1 (I.base.free b o e n hx)
 . obtain⟨o', e1⟩ := I.base.there b o e hx;exact there b o' (neC b o e hx) e1
 . exact tbls b ps (I.base.tbls b ps e)
 . obtain ⟨m, hn, hl⟩ := I.loc;refine ⟨m,ns m hn,fun i x v e1 e2 e3=>?_⟩;obtain ⟨u,r,l⟩:=hl i x v e1 e2 e3;refine ⟨u,r,?_⟩;rcases l with l | ⟨k,c,e,z⟩
   . exact .inl l
   . exact .inr ⟨k,c,e,cellK x c e _ z⟩
 . obtain⟨v, z⟩ := I.cell x c e;exact⟨v,cellK x c e v z⟩
 . obtain⟨m, ⟨o, _, _, ho, _⟩, _⟩ := I.loc;exact free _ o (fun z=>(hch _ z).2.1 rfl) ho I.free
 . obtain⟨v, o, ho, hd⟩ := I.cell x c e;exact(I.freeC x c e).elim (fun fr=>.inl (free c o (fun z=>(hch c z).2.2.1 x c e rfl) ho fr)) fun⟨h1,of,uf,fr⟩=>.inr ⟨h1,of,uf,frzs c of uf fr⟩
 . obtain⟨e, n, ne, nf, d⟩ := I.pin p hp;have nch:p.1∉ch:=fun z=>(hch p.1 z).2.2.2 p hp rfl;exact⟨keep p.1 p.2 ne nf nch e n,free p.1 p.2 nch e n,ne,nf,d⟩
theorem Inv.un{t':Nat}(I:Inv X pins σ H s)(u:Un X.fs [] H H' s.heap h')(hok:HOk X.prog X.w H' h'):Inv X pins σ H' { s with heap:=h',toks:=t' }:=by
 obtain⟨m,⟨o,es,ep,ho,r⟩,_⟩:=id I.loc;obtain⟨sl,hL⟩:=u.any ho I.free (by simp)
 exact I.step (g':=s.gens) (d':=s.drawn) (ch:=[]) (fun _ z=>nomatch z) (fun b o _ hb _ e n=>u.keep b o e n hb (by simp)) (fun b o _ hb _ e n=>u.slot b o e n hb (by simp)) (fun b o _ e n=>u.free b o e n (by simp)) (fun b o _ e=>u.there b o e (by simp)) u.tups u.frzs u.tbls (fun m' hm=>by
  obtain⟨o',es',ep',ho',r'⟩:=hm;rw[ho] at ho';cases ho'
  exact⟨_,es',ep',hL,r'⟩) hok I.bare
theorem Inv.call{g':Array GenState}{t':Nat}{d':Drawn}{ch:List Addr}(I:Inv X pins σ H s)(u:Un (frs X.stack) ch H H' s.heap h')(hok:HOk X.prog X.w H' h')(hg:AllBare g')
  (hch:∀b∈ch,(b∈X.ex\/X.s₀.heap.objs.size<=b)/\b≠X.env.locals/\(∀x c,X.env.cells.lookup x=some c->c≠b)/\∀p∈X.pn++pins,p.1≠b) :
  Inv X pins σ H' { s with heap:=h',gens:=g',drawn:=d',toks:=t' }:=by
 obtain⟨m,⟨o,es,ep,ho,r⟩,_⟩:=id I.loc;obtain⟨sl,hL⟩:=u.any ho I.free fun z=>(hch _ z).2.1 rfl
 exact I.step (ch:=ch) hch (fun b o hL hb hc e n=>u.keep b o e n (fun z=>(aF.mp (I.stkSub b z)).elim hL hb) hc) (fun b o _ _ hc e n=>u.any e n hc) (fun b o hc e n=>u.free b o e n hc) (fun b o hc e=>u.there b o e hc) u.tups u.frzs u.tbls (fun m' hm=>by
  obtain⟨o',es',ep',ho',r'⟩:=hm;rw[ho] at ho';cases ho'
  exact⟨_,es',ep',hL,r'⟩) hok hg
theorem Inv.turned{t':Nat}{it:Addr}(I:Inv X pins σ H s)(k:∀b o,b≠it->s.heap.get? b=some o->h'.get? b=some o)(hn:H it=none)(hL:it≠X.env.locals)
  (h1:it∈X.ex\/X.s₀.heap.objs.size<=it) (h2:∀x c,X.env.cells.lookup x=some c->c≠it) (h3:∀p∈X.pn++pins,p.1≠it):Inv X pins σ H { s with heap:=h',toks:=t' }:=by
 have nit:∀b u,H b=some u->b≠it:=fun b u e z=>by rw[z,hn] at e;cases e
 refine I.step (g':=s.gens) (d':=s.drawn) (ch:=[it]) (fun b hb=>?_) (fun b o _ _ hc e _=>k b o (fun z=>hc (by simp[z])) e) (fun b o _ _ hc e _=>⟨o.slots,k b o (fun z=>hc (by simp[z])) e⟩) (fun _ _ _ _ n=>n)
  (fun b o hc e=>⟨o,k b o (fun z=>hc (by simp[z])) e⟩) (fun _ _ e=>e) (fun _ _ _ e=>e) (fun _ _ e=>e) (fun m hm=>?_) (fun b u e=>?_) I.bare
 . have e : b = it := by simpa using hb
   subst e;exact⟨h1,hL,h2,h3⟩
 . obtain⟨o, es, ep, ho, r⟩ := hm;exact⟨o,es,ep,k _ o (Ne.symm hL) ho,r⟩
 . refine (I.hok b u e).stay (fun c v hc q => k c v ?_ q) (fun _ q => q) fun _ _ q => q;rcases hc with z | z
   . rw[z];exact nit b u e
   . exact nit c _ z
theorem Inv.tok(I:Inv X pins σ H s)(t:Nat):Inv X pins σ H { s with toks:=t }:=I.un (h':=s.heap) (t':=t) Un.refl I.hok
theorem Inv.kept{t':Nat}(I:Inv X pins σ H s)(k:∀b u,s.heap.get? b=some u->h'.get? b=some u):Inv X pins σ H { s with heap:=h',toks:=t' }:=I.un (Un.kept k) (I.hok.kept k)
theorem Inv.laid{a:Addr}{o:HO}{t':Nat}(I:Inv X pins σ H s)(k:∀b u,s.heap.get? b=some u->h'.get? b=some u)(hp:s.heap.objs.size<=a)(new:ObjOk X.prog X.w (upd H a o) h' a o) :
  Inv X pins σ (upd H a o) { s with heap:=h',toks:=t' }:=I.un (Un.laid k hp (I.hok.fresh hp)) (I.hok.laid k hp new)
theorem Inv.write{x e:Addr}{o:HO}{t':Nat}(I:Inv X pins σ H s)(mu:Mut (H x))(he:e=x\/H e=some (.own x))(k:∀b u,b≠e->s.heap.get? b=some u->h'.get? b=some u)(heo:∃u,h'.get? e=some u)
  (new:ObjOk X.prog X.w (upd H x o) h' x o):Inv X pins σ (upd H x o) { s with heap:=h',toks:=t' }:=I.un (Un.write mu he k heo) (I.hok.write mu he k heo new)
theorem Inv.pins_of{pins':List (Addr×Obj)}(I:Inv X pins σ H s)(h:∀p∈pins',s.heap.get? p.1=some p.2/\H p.1=none/\p.1≠X.env.locals/\p.1∉X.fs/\∀v,p.2.data≠.cell v):Inv X pins' σ H s :=
 ⟨I.ok,I.os,I.bare,I.base,I.loc,I.cell,I.free,I.freeC,fun p hp=>(bU.mp hp).elim (fun z=>I.pin p (dB _ z)) (h p),I.hok,I.len⟩
theorem AG{N:List Str}(hN:N.Nodup){i j:Nat}{x:Str}(a:N[i]?=some x)(b:N[j]?=some x):i=j:=by
 obtain⟨h1,e1⟩:=bK.mp a;obtain⟨h2,e2⟩:=bK.mp b;exact(List.getElem_inj hN).mp (e1.trans e2.symm)
theorem kD{M:Model}{A:Around}{E:Value->Shared->Prop}{i:Nat}{x:Str}{v:V}{u:Value}{Q:Unit->Shared->Prop}(I:Inv X pins σ H s)(hN:X.N.Nodup)(hi:X.N[i]?=some x)(hx:Loc X.env.scope x)(r:RelV v u)
  (h:∀s',Inv X pins (σ.set i (some v)) H s'->(∃a,Heap.SameBut a s.heap s'.heap/\(a=X.env.locals\/X.env.cells.lookup x=some a))->Q () s') (hf:X.fn x=true\/X.env.scope.names.lookup x=some .local:=by first | exact .inl rfl | exact .inr rfl | assumption):wpAny M A (storeName X.env x u) Q E s:=by
 obtain⟨m,hn,hl⟩:=id I.loc;have hcls:(X.env.scope.kind==.class||(X.env.scope.kind==.module&&X.env.locals != X.env.globals))=false:=by rw[I.ok.kind];rfl
 have hiσ : i<σ.length:=by rw[I.len];exact(bK.mp hi).1
 have cne:=I.cne
 have tracked:∀{a:Addr} {h':Heap},(∃o,s.heap.get? a=some o/\H a=none)->Heap.SameBut a s.heap h'->HOk X.prog X.w H h':=fun {a h'} ha hs b ob e=>by
  obtain⟨_,_,hfree⟩:=ha;refine(I.hok b ob e).stay (fun c w' hc q=>(hs.2 c ?_).trans q) (fun _ q=>q) fun _ _ q=>q;rintro rfl;rcases hc with rfl | hc
  . rw[hfree] at e;cases e
  . rw[hfree] at hc;cases hc
 rcases hx with hk | hk
 . refine wpAny_storeName_local hk hn (fun h' hn' hs => ?_) hcls;obtain ⟨oL,_,_,hoL,_⟩:=id hn;refine h _ ⟨I.ok,I.os,I.bare,⟨fun b o e n hb hx=>?_,fun b o e n hb hx=>?_,I.base.free,fun b o e hx=>?_,I.base.tups,I.base.frzs,I.base.tbls⟩,⟨_,hn',fun j y v' e1 e2 e3=>?_⟩,fun y c e=>?_,I.free,I.freeC,fun p hp=>?_,tracked ⟨oL,hoL,I.free⟩ hs,by simpa using I.len⟩ ⟨_,hs,.inl rfl⟩
   . exact(hs.2 b (bS (aZ (aU e) I.ok.above))).trans (I.base.keep b o e n hb hx)
   . obtain⟨sl, e1⟩ := I.base.slot b o e n hb hx;exact⟨sl,(hs.2 b (bS (aZ (aU e) I.ok.above))).trans e1⟩
   . obtain⟨o', e1⟩ := I.base.there b o e hx;exact⟨o',(hs.2 b (bS (aZ (aU e) I.ok.above))).trans e1⟩
   . by_cases hj : j = i
     . subst hj;rw[hi] at e1;cases e1;rw[aT hiσ] at e2;cases e2;exact⟨u,r,.inl ⟨hk,by simp⟩⟩
     . rw [aD (Ne.symm hj)] at e2;obtain ⟨u',r',q⟩:=hl j y v' e1 e2 e3;refine ⟨u',r',?_⟩;rcases q with ⟨k,e⟩ | ⟨k,c,e,z⟩
       . refine .inl ⟨k, ?_⟩;have:y≠x:=fun e=>hj (AG hN e1 (e▸hi));simp[this,e]
       . exact .inr ⟨k,c,e,z.sameBut hs (cne y c e)⟩
   . obtain⟨w', z⟩ := I.cell y c e;exact⟨w',z.sameBut hs (cne y c e)⟩
   . obtain⟨e, n, ne, nf, d⟩ := I.pin p hp;exact⟨(hs.2 p.1 ne).trans e,n,ne,nf,d⟩
 . have hfn:X.fn x=true:=by
    rcases hf with z | z
    . exact z
    . rw[z] at hk;cases hk
   obtain⟨c,hc⟩:=I.ok.has x (.inl hk);obtain⟨w',z⟩:=I.cell x c hc;refine wpAny_storeName_cell I.ok.kind hk hc z (fun h' hc' hs=>?_);obtain⟨oc,hoc,hocd⟩:=id z;refine h { s with heap:=h' } ⟨I.ok,I.os,I.bare,⟨fun b o e n hb hx=>?_,fun b o e n hb hx=>?_,I.base.free,fun b o e hx=>?_,I.base.tups,I.base.frzs,I.base.tbls⟩,⟨m,hn.sameBut hs (Ne.symm (cne x c hc)),fun j y v' e1 e2 e3=>?_⟩,fun y c' e=>?_,I.free,I.freeC,fun p hp=>?_,tracked ⟨oc,hoc,(I.freeC x c hc).now hfn⟩ hs,by simpa using I.len⟩ ⟨c,hs,.inr hc⟩
   . exact(hs.2 b (bS (aZ (aU e) (I.ok.cab x c hfn hc)))).trans (I.base.keep b o e n hb hx)
   . obtain⟨sl, e1⟩ := I.base.slot b o e n hb hx;exact⟨sl,(hs.2 b (bS (aZ (aU e) (I.ok.cab x c hfn hc)))).trans e1⟩
   . obtain⟨o', e1⟩ := I.base.there b o e hx;exact⟨o',(hs.2 b (bS (aZ (aU e) (I.ok.cab x c hfn hc)))).trans e1⟩
   . by_cases hj : j = i
     . subst hj;rw[hi] at e1;cases e1;rw[aT hiσ] at e2;cases e2;exact⟨u,r,.inr ⟨.inl hk,c,hc,hc'⟩⟩
     . rw [aD (Ne.symm hj)] at e2;obtain ⟨u',r',q⟩:=hl j y v' e1 e2 e3;refine ⟨u',r',?_⟩;rcases q with q | ⟨k,c',e,z'⟩
       . exact .inl q
       . refine .inr ⟨k, c', e, z'.sameBut hs ?_⟩;rintro rfl;exact hj (AG hN e1 (I.ok.inj _ _ _ e hc▸hi))
   . by_cases hcc : c' = c
     . subst hcc;exact⟨_,hc'⟩
     . obtain⟨w2, z2⟩ := I.cell y c' e;exact⟨w2,z2.sameBut hs hcc⟩
   . obtain⟨e, n, ne, nf, d⟩ := I.pin p hp;refine⟨(hs.2 p.1 ?_).trans e,n,ne,nf,d⟩;intro q;rw[q,hoc] at e;have q':oc=p.2:=Option.some.inj e;exact d w' (by rw[<- q'];exact hocd)
theorem uP{M:Model}{A:Around}{E:Value->Shared->Prop}{i:Nat}{x:Str}{v:V}{u:Value}{Q:Unit->Shared->Prop}(I:Inv X pins σ H s)(hN:X.N.Nodup)(hi:X.N[i]?=some x)(hx:Loc X.env.scope x)(r:RelV v u)
  (h:∀s',Inv X pins (σ.set i (some v)) H s'->Q () s') (hf:X.fn x=true\/X.env.scope.names.lookup x=some .local:=by first | exact .inl rfl | exact .inr rfl | assumption):wpAny M A (storeName X.env x u) Q E s :=
 kD I hN hi hx r (fun s' I' _=>h s' I') hf
theorem Inv.call'{s':Shared}{ch:List Addr}(I:Inv X pins σ H s)(ho:s'.os=s.os)(u:Un (frs X.stack) ch H H' s.heap s'.heap)(hok:HOk X.prog X.w H' s'.heap)(hg:AllBare s'.gens)
  (hch:∀b∈ch,(b∈X.ex\/X.s₀.heap.objs.size<=b)/\b≠X.env.locals/\(∀x c,X.env.cells.lookup x=some c->c≠b)/\∀p∈X.pn++pins,p.1≠b):Inv X pins σ H' s':=by
 obtain⟨h',g',d',t',o'⟩:=s';have e:o'=s.os:=ho;subst e;exact I.call (g':=g') (t':=t') (d':=d') u hok hg hch
end
abbrev XK:=Value->Option Addr->Hp->Prop
abbrev St:=List (Option V)
abbrev VK:=V->Hp->Prop
abbrev TE:=St->Hp->VK->Prop
abbrev TT:=St->Hp->(Bool->Hp->Prop)->Prop
abbrev TA:=St->Hp->(List V->Hp->Prop)->Prop
structure Ends where
 nx:St->Hp->Prop
 rt:VK
 bk:St->Hp->Prop:=fun _ _=>False
 ct:St->Hp->Prop:=fun _ _=>False
abbrev TS:=Ends->St->Hp->Prop
noncomputable def EP(X:Cx)(pins:List (Addr×Obj))(σ : St)(Q:VK)(u:Value)(s':Shared):Prop:=∃v H',Inv X pins σ H' s'/\RelV v u/\Q v H'
noncomputable def TP(X:Cx)(pins:List (Addr×Obj))(σ : St)(Q:Bool->Hp->Prop)(b:Bool)(s':Shared):Prop:=∃H',Inv X pins σ H' s'/\Q b H'
noncomputable def AP(X:Cx)(pins:List (Addr×Obj))(σ : St)(Q:List V->Hp->Prop)(us:List Value)(s':Shared):Prop:=∃vs H',Inv X pins σ H' s'/\Vals vs us/\Q vs H'
noncomputable def SP(X:Cx)(pins:List (Addr×Obj))(D:Ends)(f:Flow)(s':Shared):Prop :=
 match f with
 | .next=>∃σ' H',Inv X pins σ' H' s'/\D.nx σ' H'
 | .brk=>∃σ' H',Inv X pins σ' H' s'/\D.bk σ' H'
 | .cont=>∃σ' H',Inv X pins σ' H' s'/\D.ct σ' H'
 | .ret u=>∃v σ' H',Inv X pins σ' H' s'/\RelV v u/\D.rt v H'
noncomputable def PE(X:Cx)(e:Expr)(t:TE):Prop :=
 ∀(pins:List (Addr×Obj)) (s:Shared) (σ : St) (H:Hp) (Q:VK),Inv X pins σ H s->t σ H Q->wpAny (model X.prog X.w) X.A (eval e X.env) (EP X pins σ Q) X.xe s
noncomputable def PT(X:Cx)(e:Expr)(t:TT):Prop :=
 ∀(pins:List (Addr×Obj)) (s:Shared) (σ : St) (H:Hp) (Q:Bool->Hp->Prop),Inv X pins σ H s->t σ H Q->wpAny (model X.prog X.w) X.A (isTrue e X.env (eval e X.env)) (TP X pins σ Q) X.xe s
noncomputable def PW(X:Cx)(e:Expr)(t:TT):Prop :=
 ∀(whole:Sem Value) (pins:List (Addr×Obj)) (s:Shared) (σ : St) (H:Hp) (Q:Bool->Hp->Prop),Inv X pins σ H s->t σ H Q->wpAny (model X.prog X.w) X.A (isTrue e X.env whole) (TP X pins σ Q) X.xe s
theorem PW.pt{X:Cx}{e:Expr}{t:TT}(h:PW X e t):PT X e t:=h _
noncomputable def PA(X:Cx)(es:List Expr)(t:TA):Prop :=
 ∀(pos:Pos) (pins:List (Addr×Obj)) (s:Shared) (σ : St) (H:Hp) (Q:List V->Hp->Prop),Inv X pins σ H s->t σ H Q->wpAny (model X.prog X.w) X.A (spliced (backTo pos (starEach es X.env))) (AP X pins σ Q) X.xe s
noncomputable def PS(X:Cx)(st:Stmt)(t:TS):Prop :=
 ∀(pins:List (Addr×Obj)) (s:Shared) (σ : St) (H:Hp) (D:Ends),Inv X pins σ H s->t D σ H->wpAny (model X.prog X.w) X.A (exec st X.env) (SP X pins D) X.xe s
noncomputable def PSs(X:Cx)(st:List Stmt)(t:TS):Prop :=
 ∀(pins:List (Addr×Obj)) (s:Shared) (σ : St) (H:Hp) (D:Ends),Inv X pins σ H s->t D σ H->wpAny (model X.prog X.w) X.A (execs st X.env) (SP X pins D) X.xe s
theorem thn{α : Type}{t:Sem α}{Q Q' : α->Shared->Prop}{M:Model}{A:Around}{E:Value->Shared->Prop}{s:Shared}(h:wpAny M A t Q E s)(hQ:∀a s,Q a s->Q' a s):wpAny M A t Q' E s:=wpAny_mono h hQ fun _ _ x=>x
section
variable{X:Cx}
noncomputable def tVar(i:Nat):TE:=fun σ H Q=>∃v,σ[i]?=some (some v)/\Q v H
noncomputable def tC(v:V):TE:=fun _ H Q=>Q v H
theorem wQ{i:Nat}{x:Str}{pos:Pos}(hN:X.N[i]?=some x)(hv:Vis X.env.scope x)(hd:(x==("__debug__" : Str))=false:=by decide)(hcd:(x==("__classdict__" : Str))=false:=by decide):PE X (.Name x pos) (tVar i):=by
 intro pins s σ H Q I h;obtain⟨v,e,h⟩:=h;obtain⟨m,hn,hl⟩:=I.loc;obtain⟨u,r,l⟩:=hl i x v hN e hv;have fin:EP X pins σ Q u s:=⟨v,H,I,r,h⟩
 rcases l with⟨hk,hm⟩ | ⟨hk,c,hc,hcell⟩
 . exact wpAny_Name (wpAny_loadName_local I.ok.kind hk hn hm fin) hd
 . rcases hk with hk | hk
   . exact wpAny_Name (wpAny_loadName_cell I.ok.kind hk hc hcell fin) hd
   . exact wpAny_Name (wpAny_loadName_free I.ok.kind hk hc hcell fin hcd) hd
theorem pe_int{i j pos}: PE X (.Constant (.int i) j pos) (tC (.int i)):=fun _ _ _ H _ I h=>wpAny_Constant_int ⟨.int i,H,I.tok _,⟨_,rfl⟩,h⟩
theorem pe_bl{b j pos}: PE X (.Constant (.bool b) j pos) (tC (.bl b)):=fun _ _ _ H _ I h=>Constant_bool ⟨.bl b,H,I,rfl,h⟩
theorem pe_non{j pos}: PE X (.Constant .none j pos) (tC .non):=fun _ _ _ H _ I h=>Constant_none ⟨.non,H,I,rfl,h⟩
theorem pe_str{x j pos}: PE X (.Constant (.str x) j pos) (tC (.str x)):=fun _ _ _ H _ I h=>Calls.Constant_str ⟨.str x,H,I.tok _,⟨_,rfl⟩,h⟩
noncomputable def Gl(X:Cx)(x:Str):Prop:=X.env.kindOf x=some .globalImplicit
theorem wG{E:Value->Shared->Prop}{pins:List (Addr×Obj)}{s:Shared}{σ : St}{H:Hp}{x:Str}{u:Value}{pos:Pos}{Q:Value->Shared->Prop}(I:Inv X pins σ H s)(hg:Gl X x)(hm:X.mg x=some u)(h:Q u s)
  (hd:(x==("__debug__" : Str))=false:=by decide):wpAny (model X.prog X.w) X.A (eval (.Name x pos) X.env) Q E s :=
 Calls.Name_function_global I.ok.kind hg (Calls.loadGlobal_global (by rw[I.ok.glob];exact I.mod.glob.keeps I.bk) hm h) hd
theorem AK{E:Value->Shared->Prop}{pins:List (Addr×Obj)}{s:Shared}{σ : St}{H:Hp}{x:Str}{u:Value}{pos:Pos}{Q:Value->Shared->Prop}(I:Inv X pins σ H s)(hg:Gl X x)(hm:X.mg x=none)(hv:bootBuiltins x=some u)(h:Q u s)
  (hn:x≠"__name__":=by decide) (hd:(x==("__debug__" : Str))=false:=by decide):wpAny (model X.prog X.w) X.A (eval (.Name x pos) X.env) Q E s:=by
 obtain⟨mb,h1,h2⟩:=I.mod.blt;exact Calls.Name_function_global I.ok.kind hg (Calls.loadGlobal_builtin (by rw[I.ok.glob];exact I.mod.glob.keeps I.bk) hm (by rw[I.ok.blt];exact h1.keeps I.bk) ((h2 x hn).trans hv) h) hd
theorem LU{x:Str}{v:V}{u:Value}{pos:Pos}(hg:Gl X x)(hm:X.mg x=some u)(r:RelV v u)(hd:(x==("__debug__" : Str))=false:=by decide):PE X (.Name x pos) (tC v):=
 fun _ _ _ H _ I h=>wG I hg hm ⟨v,H,I,r,h⟩ hd
theorem YR{x:Str}{v:V}{u:Value}{pos:Pos}(hg:Gl X x)(hm:X.mg x=none)(hv:bootBuiltins x=some u)(r:RelV v u)(hn:x≠"__name__":=by decide)(hd:(x==("__debug__" : Str))=false:=by decide):PE X (.Name x pos) (tC v):=
 fun _ _ _ H _ I h=>AK I hg hm hv ⟨v,H,I,r,h⟩ hn hd
variable{a b:Expr}{ta tb:TE}{pos:Pos}
noncomputable def tB(t:TE):TT:=fun σ H Q=>t σ H fun x H1=>∃c,x=.bl c/\Q c H1
theorem pt_val{e:Expr}{t:TE}(h:PE X e t)(he:∀whole,isTrue e X.env whole=(do let v <- whole;standAt e.pos;holding [v] (truthy v)):=by intro _;rfl):PT X e (tB t):=by
 intro pins s σ H Q I hw;refine isTrue_plain (thn (h pins s σ H _ I hw) fun v s1 ⟨x,H1,I1,r1,q1⟩=>?_) (he _);obtain⟨d,rfl,q⟩:=q1;cases r1;exact wpAny_truthy_bool ⟨H1,I1,q⟩
variable{tA tB':TT}{rest:List Expr}
noncomputable def tAnd(t u:TT):TT:=fun σ H Q=>t σ H fun c H1=>if c=true then u σ H1 Q else Q false H1
noncomputable def tOr(t u:TT):TT:=fun σ H Q=>t σ H fun c H1=>if c=true then Q true H1 else u σ H1 Q
noncomputable def tNot(t:TT):TT:=fun σ H Q=>t σ H fun c H1=>Q (!c) H1
theorem YB(ha:PT X a tA):PW X (.BoolOp .And [a] pos) tA:=by
 intro wh pins s σ H Q I h;refine isTrue_and (thn (ha pins s σ H Q I h) fun c s1 e=>?_);cases c with
 |true=>exact isTrue_and_nil e
 |false=>exact e
theorem pw_or1(ha:PT X a tA):PW X (.BoolOp .Or [a] pos) tA:=by
 intro wh pins s σ H Q I h;refine isTrue_or (thn (ha pins s σ H Q I h) fun c s1 e=>?_);cases c with
 |false=>exact isTrue_or_nil e
 |true=>exact e
theorem pw_and(ha:PT X a tA)(hb:PW X (.BoolOp .And (b::rest) pos) tB'):PW X (.BoolOp .And (a::b::rest) pos) (tAnd tA tB'):=by
 intro wh pins s σ H Q I h;refine isTrue_and (thn (ha pins s σ H _ I h) fun c s1 ⟨H1,I1,q1⟩=>?_);cases c with
 |true=>exact hb wh pins s1 σ H1 Q I1 q1
 |false=>exact⟨H1,I1,q1⟩
theorem pw_or(ha:PT X a tA)(hb:PW X (.BoolOp .Or (b::rest) pos) tB'):PW X (.BoolOp .Or (a::b::rest) pos) (tOr tA tB'):=by
 intro wh pins s σ H Q I h;refine isTrue_or (thn (ha pins s σ H _ I h) fun c s1 ⟨H1,I1,q1⟩=>?_);cases c with
 |true=>exact⟨H1,I1,q1⟩
 |false=>exact hb wh pins s1 σ H1 Q I1 q1
theorem pt_not(ha:PT X a tA):PT X (.UnaryOp .Not a pos) (tNot tA):=by
 intro pins s σ H Q I h;exact isTrue_not (ha pins s σ H (fun c H1=>Q (!c) H1) I h)
noncomputable def tAndV(ta tb:TE):TE:=fun σ H Q=>ta σ H fun x H1=>∃c,x=.bl c/\if c=true then tb σ H1 Q else Q (.bl false) H1
noncomputable def tOrV(ta tb:TE):TE:=fun σ H Q=>ta σ H fun x H1=>∃c,x=.bl c/\if c=true then Q (.bl true) H1 else tb σ H1 Q
theorem pe_one{op}{t:TE}(h:PE X a t):PE X (.BoolOp op [a] pos) t:=fun pins s σ H Q I hw=>BoolOp_one (h pins s σ H Q I hw)
theorem pe_and(ha:PE X a ta)(hb:PE X (.BoolOp .And (b::rest) pos) tb):PE X (.BoolOp .And (a::b::rest) pos) (tAndV ta tb):=by
 intro pins s σ H Q I h;refine BoolOp_and (thn (ha pins s σ H _ I h) fun v s1 ⟨x,H1,I1,r1,q1⟩=>?_);obtain⟨c,rfl,q1⟩:=q1;cases r1;refine wpAny_truthy_bool ?_;cases c with
 |true=>exact hb pins s1 σ H1 Q I1 q1
 |false=>exact⟨.bl false,H1,I1,rfl,q1⟩
theorem pe_or(ha:PE X a ta)(hb:PE X (.BoolOp .Or (b::rest) pos) tb):PE X (.BoolOp .Or (a::b::rest) pos) (tOrV ta tb):=by
 intro pins s σ H Q I h;refine BoolOp_or (thn (ha pins s σ H _ I h) fun v s1 ⟨x,H1,I1,r1,q1⟩=>?_);obtain⟨c,rfl,q1⟩:=q1;cases r1;refine wpAny_truthy_bool ?_;cases c with
 |false=>exact hb pins s1 σ H1 Q I1 q1
 |true=>exact⟨.bl true,H1,I1,rfl,q1⟩
noncomputable def tIf(t:TT)(ta tb:TE):TE:=fun σ H Q=>t σ H fun c H1=>if c=true then ta σ H1 Q else tb σ H1 Q
theorem TX{c:Expr}(hc:PT X c tA)(ha:PE X a ta)(hb:PE X b tb):PE X (.IfExp c a b pos) (tIf tA ta tb):=by
 intro pins s σ H Q I h;refine wpAny_IfExp (thn (hc pins s σ H _ I h) fun d s1 ⟨H1,I1,q1⟩=>?_);cases d with
 |true=>exact ha pins s1 σ H1 Q I1 q1
 |false=>exact hb pins s1 σ H1 Q I1 q1
end
noncomputable def SqL(K:aH)(H:Hp)(a:Addr)(xs:List V):Prop :=
 Rd H a (.lst xs) ∨
  ∃(o:Obj) (its:Array Value) (n:Nat),K.lookup a=some o/\o.cls=.type "list"/\o.dict=none/\o.data=.seq its n/\its.size<=sizeLine/\Vals xs its.toList
noncomputable def SqT(K:aH)(H:Hp)(a:Addr)(xs:List V):Prop :=
 Rd H a (.tup xs) ∨
  ∃(o:Obj) (its:Array Value) (n:Nat),K.lookup a=some o/\o.cls=.type "tuple"/\o.data=.seq its n/\its.size<=sizeLine/\Vals xs its.toList
noncomputable def absV:Value->Option V
 | .none=>some .non
 | .bool b=>some (.bl b)
 | .int i _=>some (.int i)
 | .str x _=>some (.str x)
 | .bytes b _=>some (.byt b)
 | .float b _=>some (.flt b)
 | .ref a=>some (.ref a)
 | .type n=>some (.ty n)
 |_=>none
theorem RelV.abs{x:V}{u:Value}(r:RelV x u):absV u=some x:=by
 cases x with
 |non=>cases r;rfl
 |bl _=>cases r;rfl
 |int _=>obtain⟨t,rfl⟩:=r;rfl
 |str _=>obtain⟨t,rfl⟩:=r;rfl
 |byt _=>obtain⟨t,rfl⟩:=r;rfl
 |flt _=>obtain⟨t,rfl⟩:=r;rfl
 |ref _=>cases r;rfl
 |ty _=>cases r;rfl
theorem RelV.inj{x y:V}{u:Value}(r:RelV x u)(q:RelV y u):x=y:=Option.some.inj (r.abs.symm.trans q.abs)
theorem Vals.inj:∀{xs ys:List V} {us:List Value},Vals xs us->Vals ys us->xs=ys
 |_,_,_,.nil,.nil=>rfl
 |_,_,_,.cons r t,.cons r' t'=>by rw[r.inj r',Vals.inj t t']
section
variable{X:Cx}{pins:List (Addr×Obj)}{σ : St}{H:Hp}{s:Shared}{a:Addr}{xs ys:List V}
theorem SqL.of{K:aH}(h:H a=some (.lst xs)):SqL K H a xs:=.inl (.inl h)
theorem Inv.list(I:Inv X pins σ H s)(h:SqL X.K H a xs):∃its:List Value,Vals xs its/\PlainL s.heap a its.toArray/\xs.length<=sizeLine:=by
 rcases h with h | ⟨o,its,n,hk,hc,hd,hs,hz,r⟩
 . obtain⟨z, its, n, r, e⟩ := h.ok I.hok;exact⟨its,r,⟨_,n,e,rfl,rfl,rfl⟩,z⟩
 . refine⟨its.toList, r, ⟨o, n, I.kIn a o hk, hc, hd, by simpa using hs⟩, ?_⟩;have e:=r.length;simp only[nY] at e;omega
theorem Inv.tuple(I:Inv X pins σ H s)(h:SqT X.K H a xs):∃its:List Value,Vals xs its/\IsTup s.heap a its.toArray/\xs.length<=sizeLine:=by
 rcases h with h | ⟨o,its,n,hk,hc,hs,hz,r⟩
 . obtain⟨z, its, r, p⟩ := h.ok I.hok;exact⟨its,r,p,z⟩
 . refine⟨its.toList, r, ⟨o, I.kIn a o hk, hc, n, by simpa using hs⟩, ?_⟩;have e:=r.length;simp only[nY] at e;omega
theorem Inv.list_inj(I:Inv X pins σ H s)(h:SqL X.K H a xs)(h':SqL X.K H a ys):xs=ys:=by
 obtain⟨its,r,⟨o,n,e,_,_,d⟩,_⟩:=I.list h;obtain⟨its',r',⟨o',n',e',_,_,d'⟩,_⟩:=I.list h';rw[e] at e';cases e';rw[d] at d';injection d' with d1 _
 have:its=its':=by simpa using congrArg Array.toList d1
 subst this;exact r.inj r'
theorem Inv.tuple_inj(I:Inv X pins σ H s)(h:SqT X.K H a xs)(h':SqT X.K H a ys):xs=ys:=by
 obtain⟨its,r,⟨o,e,_,n,d⟩,_⟩:=I.tuple h;obtain⟨its',r',⟨o',e',_,n',d'⟩,_⟩:=I.tuple h';rw[e] at e';cases e';rw[d] at d';injection d' with d1 _
 have:its=its':=by simpa using congrArg Array.toList d1
 subst this;exact r.inj r'
end
noncomputable abbrev Cx.wish(X:Cx)(E:Value->Shared->Prop):Cx:={ X with xe:=E }
noncomputable abbrev Cx.nox(X:Cx):Cx:=X.wish fun _ _=>False
theorem Cx.Ok.wish{X:Cx}(ok:X.Ok)(E:Value->Shared->Prop):(X.wish E).Ok :=
 ⟨ok.mod,ok.kind,ok.glob,ok.blt,ok.above,ok.inj,ok.has,ok.cab,ok.hd,ok.frames,ok.stk,ok.exf,ok.bs,ok.bsz,ok.noex,ok.exfs,ok.funs,ok.frf⟩
theorem Cx.Ok.unwish{X:Cx}{E:Value->Shared->Prop}(ok:(X.wish E).Ok):X.Ok :=
 ⟨ok.mod,ok.kind,ok.glob,ok.blt,ok.above,ok.inj,ok.has,ok.cab,ok.hd,ok.frames,ok.stk,ok.exf,ok.bs,ok.bsz,ok.noex,ok.exfs,ok.funs,ok.frf⟩
section
variable{X:Cx}{pins:List (Addr×Obj)}{σ : St}{H:Hp}{s:Shared}{E:Value->Shared->Prop}
theorem Inv.wish(I:Inv X pins σ H s)(E:Value->Shared->Prop):Inv (X.wish E) pins σ H s:=⟨I.ok.wish E,I.os,I.bare,I.base,I.loc,I.cell,I.free,I.freeC,I.pin,I.hok,I.len⟩
theorem Inv.unwish(I:Inv (X.wish E) pins σ H s):Inv X pins σ H s:=⟨I.ok.unwish,I.os,I.bare,I.base,I.loc,I.cell,I.free,I.freeC,I.pin,I.hok,I.len⟩
theorem SP.unwish{D:Ends}{f:Flow}{s':Shared}(h:SP (X.wish E) pins D f s'):SP X pins D f s':=by
 cases f with
 |next=>obtain⟨σ',H',I,q⟩:=h;exact⟨σ',H',I.unwish,q⟩
 |brk=>obtain⟨σ',H',I,q⟩:=h;exact⟨σ',H',I.unwish,q⟩
 |cont=>obtain⟨σ',H',I,q⟩:=h;exact⟨σ',H',I.unwish,q⟩
 |ret u=>obtain⟨v,σ',H',I,r,q⟩:=h;exact⟨v,σ',H',I.unwish,r,q⟩
theorem PSs.nox{st:List Stmt}{t:TS}(h:PSs X.nox st t):PSs X st t:=fun pins s σ H D I hw =>
 wpAny_mono (h pins s σ H D (I.wish _) hw) (fun _ _ q=>q.unwish) fun _ _ z=>False.elim z
end
section
variable{X:Cx}{st:Stmt}{rest:List Stmt}{t u:TS}{e:Expr}{te:TE}{pos:Pos}
noncomputable def tNext:TS:=fun D σ H=>D.nx σ H
noncomputable def tSeq(t u:TS):TS:=fun D σ H=>t { D with nx:=u D } σ H
theorem LQ:PSs X [] tNext:=fun _ _ σ H _ I h=>wpAny_execs_nil ⟨σ,H,I,h⟩
theorem wX(h1:PS X st t)(h2:PSs X rest u):PSs X (st::rest) (tSeq t u):=by
 intro pins s σ H D I h;refine wpAny_execs_cons (thn (h1 pins s σ H { D with nx:=u D } I h) fun f s1 q=>?_);cases f with
 | next =>
   obtain⟨σ',H',I',q⟩:=q;exact h2 pins s1 σ' H' D I' q
 |ret v=>exact q
 |brk=>exact q
 |cont=>exact q
theorem LP(h1:PS X st t):PSs X [st] t:=by
 intro pins s σ H D I h;refine wpAny_execs_cons (thn (h1 pins s σ H D I h) fun f s1 q=>?_);cases f with
 |next=>exact wpAny_execs_nil q
 |ret v=>exact q
 |brk=>exact q
 |cont=>exact q
noncomputable def tCont:TS:=fun D σ H=>D.ct σ H
theorem GQ:PS X (.Continue pos) tCont:=fun _ _ σ H _ I h=>wpAny_Continue ⟨σ,H,I,h⟩
theorem Inv.quiet{pins:List (Addr×Obj)}{σ : St}{H:Hp}{s:Shared}(I:Inv X pins σ H s):interactive X.env=false:=by simp[interactive,I.ok.kind]
noncomputable def tDrop(te:TE):TS:=fun D σ H=>te σ H fun _ H1=>D.nx σ H1
theorem EK(he:PE X e te)(hs:swapsWith e none pos.line X.env=pure false:=by rfl):PS X (.Expr e pos) (tDrop te):=by
 intro pins s σ H D I h;exact wpAny_Expr_any (thn (he pins s σ H _ I h) fun v s1 ⟨x,H1,I1,r1,q1⟩=>⟨σ,H1,I1,q1⟩) I.quiet hs
noncomputable def tRet(te:TE):TS:=fun D σ H=>te σ H D.rt
theorem rK(he:PE X e te):PS X (.Return (some e) pos) (tRet te):=by
 intro pins s σ H D I h;exact wpAny_Return_some (thn (he pins s σ H _ I h) fun v s1 ⟨x,H1,I1,r1,q1⟩=>⟨x,σ,H1,I1,r1,q1⟩)
noncomputable def tIfS(c:TT)(t u:TS):TS:=fun D σ H=>c σ H fun b H1=>if b=true then t D σ H1 else u D σ H1
theorem ps_if{c:Expr}{a b:List Stmt}{tc:TT}(hc:PT X c tc)(ha:PSs X a t)(hb:PSs X b u):PS X (.If c a b pos) (tIfS tc t u):=by
 intro pins s σ H D I h;refine wpAny_If (thn (hc pins s σ H _ I h) fun d s1 ⟨H1,I1,q1⟩=>?_);cases d with
 |true=>exact ha pins s1 σ H1 D I1 q1
 |false=>exact hb pins s1 σ H1 D I1 q1
noncomputable def tNever:TS:=fun _ _ _=>False
theorem TH:PS X st tNever:=fun _ _ _ _ _ _ h=>h.elim
end
abbrev TG:=V->St->Hp->(St->Hp->Prop)->Prop
abbrev TGs:=List V->St->Hp->(St->Hp->Prop)->Prop
noncomputable def PG(X:Cx)(target:Expr)(t:TG):Prop :=
 ∀(pins:List (Addr×Obj)) (s:Shared) (σ : St) (H:Hp) (v:V) (u:Value) (Q:St->Hp->Prop),Inv X pins σ H s->RelV v u->t v σ H Q →
  wpAny (model X.prog X.w) X.A (assign target X.env u) (fun _ s'=>∃σ' H',Inv X pins σ' H' s'/\Q σ' H') X.xe s
noncomputable def PGs(X:Cx)(ts:List Expr)(t:TGs):Prop :=
 ∀(pins:List (Addr×Obj)) (s:Shared) (σ : St) (H:Hp) (vs:List V) (us:List Value) (Q:St->Hp->Prop),Inv X pins σ H s->Vals vs us->t vs σ H Q →
  wpAny (model X.prog X.w) X.A (assignInOrder ((assignEach ts X.env).map (·.2)) us) (fun _ s'=>∃σ' H',Inv X pins σ' H' s'/\Q σ' H') X.xe s
abbrev TSet:=V->V->V->Hp->(Hp->Prop)->Prop
noncomputable def PSet(X:Cx)(t:TSet):Prop :=
 ∀(pins:List (Addr×Obj)) (s:Shared) (σ : St) (H:Hp) (o i v:V) (ov iv u:Value) (Q:Hp->Prop),Inv X pins σ H s->RelV o ov->RelV i iv->RelV v u->t o i v H Q →
  wpAny (model X.prog X.w) X.A (setItem ov iv u) (fun _ s'=>∃H',Inv X pins σ H' s'/\Q H') X.xe s
section
variable{X:Cx}{pos:Pos}
noncomputable def gName(i:Nat):TG:=fun v σ H Q=>Q (σ.set i (some v)) H
theorem YO{i:Nat}{x:Str}(hN:X.N.Nodup)(hi:X.N[i]?=some x)(hx:Loc X.env.scope x)(hf:X.fn x=true\/X.env.scope.names.lookup x=some .local:=by first | exact .inl rfl | exact .inr rfl | assumption):PG X (.Name x pos) (gName i):=by
 intro pins s σ H v u Q I r h;exact wpAny_assign_Name (uP I hN hi hx r (fun s' I'=>⟨_,H,I',h⟩) hf)
noncomputable def gNil:TGs:=fun vs σ H Q=>vs=[]/\Q σ H
noncomputable def gCons(t:TG)(u:TGs):TGs:=fun vs σ H Q=>∃v r,vs=v::r/\t v σ H fun σ' H'=>u r σ' H' Q
theorem YN:PGs X [] gNil:=by
 intro pins s σ H vs us Q I r h;obtain⟨e,h⟩:=h;subst e;cases r;exact assignInOrder_nil ⟨σ,H,I,h⟩
theorem TQ{e:Expr}{es:List Expr}{t:TG}{u:TGs}(h1:PG X e t)(h2:PGs X es u)
  (hs:(assignEach (e::es) X.env).map (·.2)=assign e X.env::(assignEach es X.env).map (·.2):=by rfl):PGs X (e::es) (gCons t u):=by
 intro pins s σ H vs us Q I r h;obtain⟨v,vr,e1,h⟩:=h;subst e1;cases r with
 | cons r rr =>
   rw[hs];refine assignInOrder_cons (thn (h1 pins s σ H _ _ _ I r h) fun _ s1 ⟨σ1,H1,I1,q1⟩=>?_);exact h2 pins s1 σ1 H1 _ _ Q I1 rr q1
noncomputable def gTup(K:aH)(n:Nat)(t:TGs):TG:=fun v σ H Q=>∃a xs,v=.ref a/\SqT K H a xs/\xs.length=n/\t xs σ H Q
theorem pg_tup{es:List Expr}{k:Nat}{t:TGs}{n:Nat}(hc:X.calm=true)(h:PGs X es t)
  (hn:(assignEach es X.env).length=n:=by rfl) (hst:(assignEach es X.env).findIdx? (·.1)=none:=by rfl):PG X (.Tuple es k pos) (gTup X.K n t):=by
 intro pins s σ H v u Q I r hw;obtain⟨a,xs,e1,hq,hl,hw⟩:=hw;subst e1;cases r;obtain⟨its,rv,ht,hz⟩:=I.tuple hq;refine assign_Tuple_tuple (I.ok.hd hc) ht (by simp[hn,<- hl,rv.length]) hst fun h' hx=>?_;have I1:Inv X pins σ H { s with heap:=h' }:=I.kept (t':=s.toks) fun b o e=>hx b o (bS (aU e)) e;exact h pins _ σ H xs _ Q I1 (by simpa using rv) hw
noncomputable def gSub(to ti:TE)(t:TSet):TG:=fun v σ H Q=>to σ H fun o H1=>ti σ H1 fun i H2=>t o i v H2 fun H3=>Q σ H3
theorem pg_sub{o i:Expr}{to ti:TE}{t:TSet}(ho:PE X o to)(hi:PE X i ti)(hs:PSet X t)
  (ha:∀v,assign (.Subscript o i pos) X.env v=(do
    let ov <- holding [v] (eval o X.env)
    let iv <- holding [v,ov] (eval i X.env)
    standAt pos
    holding [v,ov,iv] (setItem ov iv v)
    release [v,ov,iv] []):=by intro _;rfl):PG X (.Subscript o i pos) (gSub to ti t):=by
 intro pins s σ H v u Q I r h;rw[ha];refine wpAny_bind (wpAny_holding (thn (ho pins s σ H _ I h) fun ov s1 ⟨x,H1,I1,r1,q1⟩=>?_));refine wpAny_bind (wpAny_holding (thn (hi pins s1 σ H1 _ I1 q1) fun iv s2 ⟨y,H2,I2,r2,q2⟩=>?_));refine wpAny_bind (wpAny_standAt (wpAny_bind (wpAny_holding (thn (hs pins s2 σ H2 x y v ov iv u _ I2 r1 r2 r q2) fun _ s3 ⟨H3,I3,q3⟩=>?_))));exact wpAny_release ⟨σ,H3,I3,q3⟩
noncomputable def tAsg(te:TE)(g:TG):TS:=fun D σ H=>te σ H fun x H1=>g x σ H1 D.nx
theorem TK{tg e:Expr}{te:TE}{g:TG}(he:PE X e te)(hg:PG X tg g)(hs:swapsWithSole [tg] e pos.line X.env=pure false:=by rfl)(hw:swappedStores [tg] e X.env=pure none:=by rfl)
  (h1:(assignEach [tg] X.env).map (·.2)=[assign tg X.env]:=by rfl):PS X (.Assign [tg] e pos) (tAsg te g):=by
 intro pins s σ H D I h;refine wpAny_Assign_stores (thn (he pins s σ H _ I h) fun v s1 ⟨x,H1,I1,r1,q1⟩=>?_) hs hw;rw[h1];exact thn (hg pins s1 σ H1 x v _ I1 r1 q1) fun _ s2 q=>q
theorem JD{i:Nat}{x:Str}{e:Expr}{te:TE}{pos':Pos}(hN:X.N.Nodup)(hi:X.N[i]?=some x)(hx:Loc X.env.scope x)(he:PE X e te)(hs:swapsWith e (some (.Name x pos')) pos.line X.env=pure false:=by rfl)(hf:X.fn x=true\/X.env.scope.names.lookup x=some .local:=by first | exact .inl rfl | exact .inr rfl | assumption) :
  PS X (.Assign [.Name x pos'] e pos) (tAsg te (gName i)):=by
 intro pins s σ H D I h;refine wpAny_Assign_Name (thn (he pins s σ H _ I h) fun v s1 ⟨y,H1,I1,r1,q1⟩=>?_) hs;exact uP I1 hN hi hx r1 (fun s2 I2=>⟨_,H1,I2,q1⟩) hf
end
section
variable{X:Cx}{pos:Pos}
end
structure It where
 go:Nat->Hp->Prop
 yld:Nat->Hp->V->Hp->Prop
 stop:Nat->Hp->Prop
noncomputable def FpOk(X:Cx)(pins:List (Addr×Obj))(H:Hp)(b:Addr):Prop :=
 H b=none/\b≠X.env.locals/\b∉X.fs/\(b∈X.ex\/X.s₀.heap.objs.size<=b)/\(∀x c,X.env.cells.lookup x=some c->c≠b)/\∀p∈X.pn++pins,p.1≠b
theorem Inv.fpOk{X:Cx}{pins:List (Addr×Obj)}{σ : St}{H H':Hp}{s:Shared}{b:Addr}(I:Inv X pins σ H s)(hb:s.heap.objs.size<=b)(hn:H' b=none):FpOk X pins H' b:=by
 refine⟨hn,Nat.ne_of_gt (aZ I.lt hb),I.nofs hb,.inr (cM I.sz hb),fun x c e z=>?_,fun p hp z=>?_⟩
 . obtain⟨v, q⟩ := I.cell x c e;exact absurd (aZ q.lt (by rw[z];exact hb)) (bZ _)
 . exact absurd (aZ (aU (I.pin p hp).1) (by rw[z];exact hb)) (bZ _)
structure Turn(P:Program)(w:World)(K:aH)(tg:Expr)(J:It)(fp:List Addr)(it:Addr)(tn:Nat->Heap->Prop)(cm:Cx->Prop:=fun X=>X.calm=true):Prop where
 mem:it∈fp
 obj:∀i h,tn i h->∀b∈fp,∃o,h.get? b=some o/\∀v,o.data≠.cell v
 keep:∀i h h',tn i h->(∀b∈fp,∀o,h.get? b=some o->h'.get? b=some o)->tn i h'
 item:∀(X:Cx),X.prog=P->X.w=w->X.K=K->cm X->∀(i:Nat) (pins:List (Addr×Obj)) (s:Shared) (σ : St) (H:Hp) (E:Value->Shared->Prop),Inv X pins σ H s->(∀b∈fp,FpOk X pins H b)->tn i s.heap->J.go i H →
  wpAny (model P w) X.A (pyNext (.ref it)) (fun r s1=>∃u,r=some u ∧
   wpAny (model P w) X.A (letOwnedTupleGo tg (.ref it) u) (fun _ s2=>∃x H',Inv X pins σ H' s2/\RelV x u/\J.yld i H x H'/\tn (i+1) s2.heap/\∀b∈fp,H' b=none) E s1) E s
 done:∀(X:Cx),X.prog=P->X.w=w->X.K=K->cm X->∀(i:Nat) (pins:List (Addr×Obj)) (s:Shared) (σ : St) (H:Hp) (E:Value->Shared->Prop),Inv X pins σ H s->(∀b∈fp,FpOk X pins H b)->tn i s.heap->J.stop i H →
  wpAny (model P w) X.A (pyNext (.ref it)) (fun r s1=>r=none/\Inv X pins σ H s1) E s
 self:∀(A:Around) (i:Nat) (s:Shared) (Q:Value->Shared->Prop) (E:Value->Shared->Prop),tn i s.heap->Q (.ref it) s->wpAny (model P w) A (pyIter (.ref it)) Q E s
abbrev TI:=St->Hp->(It->Hp->Prop)->Prop
noncomputable def PIE(X:Cx)(pins:List (Addr×Obj))(σ : St)(tg:Expr)(R:It->Hp->Prop)(cm:Cx->Prop:=fun X=>X.calm=true)(itv:Value)(s2:Shared):Prop :=
 ∃(it:Addr) (fp:List Addr) (tn:Nat->Heap->Prop) (J:It) (H':Hp),itv=.ref it/\Inv X pins σ H' s2/\Turn X.prog X.w X.K tg J fp it tn cm/\tn 0 s2.heap/\(∀b∈fp,FpOk X pins H' b)/\R J H'
noncomputable def PI(X:Cx)(tg iter:Expr)(wi:TI)(cm:Cx->Prop:=fun X=>X.calm=true):Prop :=
 ∀(pins:List (Addr×Obj)) (s:Shared) (σ : St) (H:Hp) (R:It->Hp->Prop),Inv X pins σ H s->wi σ H R →
  wpAny (model X.prog X.w) X.A (eval iter X.env) (fun v s1=>wpAny (model X.prog X.w) X.A (pyIter v) (PIE X pins σ tg R cm) X.xe s1) X.xe s
theorem HG{M:Model}{A:Around}{E:Value->Shared->Prop}{s:Shared}{tg:Expr}{it:Addr}{u:Value}{o:Obj}{n:String}{vs:Array Value}{Q:Unit->Shared->Prop}(ho:s.heap.get? it=some o)(hc:o.cls=.type n)(hd:o.data=.fields vs)
  (hn:["enumerate","zip","dict_itemiterator","dict_reverseitemiterator","odict_iterator","itertools.zip_longest","itertools.pairwise"].contains n=false) (hQ:Q () s):wpAny M A (letOwnedTupleGo tg (.ref it) u) Q E s:=by
 unfold letOwnedTupleGo
 cases tg<;>first
  |exact wpAny_pure hQ
  |(cases u<;>first
      |exact wpAny_pure hQ
      | (refine wpAny_bind (wpAny_load ho ?_)
         rw[hc,hd];show wpAny M A (if (["enumerate","zip","dict_itemiterator","dict_reverseitemiterator","odict_iterator","itertools.zip_longest","itertools.pairwise"].contains n&&vs[0]?==some (rawInt _))=true then _ else _) Q E s;rw[if_neg (by intro h;rw[hn,Bool.false_and] at h;cases h)]
         exact wpAny_pure hQ))
noncomputable def Itl(K:aH)(a:Addr):It :=
 ⟨fun i H=>∃xs x,SqL K H a xs/\xs[i]?=some x,fun i H x H'=>H'=H/\∀xs,SqL K H a xs->xs[i]?=some x,fun i H=>∃xs,SqL K H a xs/\xs.length<=i⟩
noncomputable def Itt(K:aH)(a:Addr):It :=
 ⟨fun i H=>∃xs x,SqT K H a xs/\xs[i]?=some x,fun i H x H'=>H'=H/\∀xs,SqT K H a xs->xs[i]?=some x,fun i H=>∃xs,SqT K H a xs/\xs.length<=i⟩
noncomputable def Itr(lo:Int)(n:Nat):It:=⟨fun i _=>i<n,fun i H x H'=>H'=H/\x=.int (lo+i),fun i _=>n<=i⟩
theorem NI{P:Program}{w:World}{K:aH}{tg:Expr}(a it:Addr):Turn P w K tg (Itl K a) [it] it (fun i h=>h.IsListIter it a i) where
 mem:=by simp
 obj:=fun i h st b hb=>by
  have e:b=it:=by simpa using hb
  subst e;obtain⟨o,e,c,d⟩:=st;exact⟨o,e,fun v z=>by rw[d] at z;cases z⟩
 keep:=fun i h h' st k=>st.at fun o e=>k it (by simp) o e
 item:=by
  intro X hP hw hK hc i pins s σ H E I hf st hg;subst hP hw hK;obtain⟨xs,x,hq,hx⟩:=hg;obtain⟨its,rv,p,hz⟩:=I.list hq;obtain⟨u,hu,ru⟩:=rv.get hx;obtain⟨f0,f1,f2,f3,f4,f5⟩:=hf it (by simp);refine wpAny_pyNext_list_item st p.isList (x:=u) (by simpa using hu) fun h' st' sb=>?_;have I1:Inv X pins σ H { s with heap:=h' }:=I.turned (t':=s.toks) (fun b o hb e=>(sb.2 b hb).trans e) f0 f1 f3 f4 f5;obtain⟨o,e,c,d⟩:=id st';exact⟨u,rfl,HG (s:={ s with heap:=h' }) e c d (by decide) ⟨x,H,I1,ru,⟨rfl,fun ys hy=>by rw[I.list_inj hy hq];exact hx⟩,st',fun b hb=>(hf b hb).1⟩⟩
 done:=by
  intro X hP hw hK hc i pins s σ H E I hf st hg;subst hP hw hK;obtain⟨xs,hq,hx⟩:=hg;obtain⟨its,rv,p,hz⟩:=I.list hq;obtain⟨f0,f1,f2,f3,f4,f5⟩:=hf it (by simp);have hl:=rv.length;exact wpAny_pyNext_list_end (I.ok.hd hc) st p.isList (by simp;omega) fun h' eb=>⟨rfl,I.turned (t':=s.toks) (fun b o hb e=>eb b o hb e) f0 f1 f3 f4 f5⟩
 self:=fun _ _ _ _ _ st h=>wpAny_pyIter_listiter st h
theorem IV{P:Program}{w:World}{K:aH}{tg:Expr}(a it:Addr):Turn P w K tg (Itt K a) [it] it (fun i h=>h.IsTupleIter it a i) where
 mem:=by simp
 obj:=fun i h st b hb=>by
  have e:b=it:=by simpa using hb
  subst e;obtain⟨o,e,c,d⟩:=st;exact⟨o,e,fun v z=>by rw[d] at z;cases z⟩
 keep:=fun i h h' st k=>st.at fun o e=>k it (by simp) o e
 item:=by
  intro X hP hw hK hc i pins s σ H E I hf st hg;subst hP hw hK;obtain⟨xs,x,hq,hx⟩:=hg;obtain⟨its,rv,p,hz⟩:=I.tuple hq;obtain⟨u,hu,ru⟩:=rv.get hx;obtain⟨f0,f1,f2,f3,f4,f5⟩:=hf it (by simp);refine wpAny_pyNext_tuple_item st (show s.heap.IsTuple a its.toArray from p) (x:=u) (by simpa using hu) fun h' st' sb=>?_;have I1:Inv X pins σ H { s with heap:=h' }:=I.turned (t':=s.toks) (fun b o hb e=>(sb.2 b hb).trans e) f0 f1 f3 f4 f5;obtain⟨o,e,c,d⟩:=id st';exact⟨u,rfl,HG (s:={ s with heap:=h' }) e c d (by decide) ⟨x,H,I1,ru,⟨rfl,fun ys hy=>by rw[I.tuple_inj hy hq];exact hx⟩,st',fun b hb=>(hf b hb).1⟩⟩
 done:=by
  intro X hP hw hK hc i pins s σ H E I hf st hg;subst hP hw hK;obtain⟨xs,hq,hx⟩:=hg;obtain⟨its,rv,p,hz⟩:=I.tuple hq;obtain⟨f0,f1,f2,f3,f4,f5⟩:=hf it (by simp);have hl:=rv.length;exact wpAny_pyNext_tuple_end (I.ok.hd hc) st (show s.heap.IsTuple a its.toArray from p) (by simp;omega) fun h' eb=>⟨rfl,I.turned (t':=s.toks) (fun b o hb e=>eb b o hb e) f0 f1 f3 f4 f5⟩
 self:=fun _ _ _ _ _ st h=>wpAny_pyIter_tupleiter st h
theorem IW{P:Program}{w:World}{K:aH}{tg:Expr}(it:Addr)(lo:Int)(n:Nat):Turn P w K tg (Itr lo n) [it] it (fun i h=>IsRangeIter h it (lo+(i:Nat)*1) ((n:Int)-(i:Nat)) 1) where
 mem:=by simp
 obj:=fun i h st b hb=>by
  have e:b=it:=by simpa using hb
  subst e
  exact⟨_,st,fun v z=>by
   have z':Data.fields _=Data.cell v:=z
   cases z'⟩
 keep:=fun i h h' st k=>k it (by simp) _ st
 item:=by
  intro X hP hw hK hc i pins s σ H E I hf st hg;subst hP hw hK;obtain⟨f0,f1,f2,f3,f4,f5⟩:=hf it (by simp);have W:=Walks.range (prog:=X.prog) (w:=X.w) (I.ok.hd hc) it lo 1 n;refine W.item i s _ _ hg st fun v h' tk hv st' kk=>?_;obtain⟨t,rfl⟩:=hv;have I1:Inv X pins σ H { s with heap:=h',toks:=tk }:=I.turned (fun b o hb e=>kk b o (by simpa using hb) e) f0 f1 f3 f4 f5;refine⟨_,rfl,HG (s:={ s with heap:=h',toks:=tk }) (n:="range_iterator") st' rfl rfl (by decide) ⟨.int (lo+i),H,I1,⟨t,?_⟩,⟨rfl,rfl⟩,st',fun b hb=>(hf b hb).1⟩⟩;rw[Int.mul_one]
 done:=by
  intro X hP hw hK hc i pins s σ H E I hf st hg;subst hP hw hK;obtain⟨f0,f1,f2,f3,f4,f5⟩:=hf it (by simp);exact wpAny_pyNext_range_end (I.ok.hd hc) st (by have:n<=i:=hg;omega) fun h' eb=>⟨rfl,I.turned (t':=s.toks) (fun b o hb e=>eb b o hb e) f0 f1 f3 f4 f5⟩
 self:=fun _ _ _ _ _ st h=>wpAny_pyIter_rangeiter st h
section
variable{X:Cx}{tg:Expr}
noncomputable def iList(K:aH)(tl:TE):TI:=fun σ H R=>tl σ H fun x H1=>∃a,x=.ref a/\(∃xs,SqL K H1 a xs)/\R (Itl K a) H1
noncomputable def iTup(K:aH)(tl:TE):TI:=fun σ H R=>tl σ H fun x H1=>∃a,x=.ref a/\(∃xs,SqT K H1 a xs)/\R (Itt K a) H1
theorem YM{l:Expr}{tl:TE}(hl:PE X l tl):PI X tg l (iList X.K tl):=by
 intro pins s σ H R I h;refine thn (hl pins s σ H _ I h) fun v s1 ⟨x,H1,I1,r1,q1⟩=>?_;obtain⟨a,e,⟨xs,hq⟩,q⟩:=q1;subst e;cases r1;obtain⟨its,rv,p,hz⟩:=I1.list hq;refine wpAny_pyIter_list p.isList ?_;refine⟨s1.heap.objs.size,[s1.heap.objs.size],_,_,H1,rfl,I1.kept (t':=s1.toks) fun b o e=>aL _ e,NI a _,⟨_,bF _ rfl,rfl,rfl⟩,fun b hb=>?_,q⟩;have e:b=s1.heap.objs.size:=by simpa using hb
 subst e;exact I1.fpOk (aQ _) (I1.hok.fresh (aQ _))
theorem pi_tup{l:Expr}{tl:TE}(hl:PE X l tl):PI X tg l (iTup X.K tl):=by
 intro pins s σ H R I h;refine thn (hl pins s σ H _ I h) fun v s1 ⟨x,H1,I1,r1,q1⟩=>?_;obtain⟨a,e,⟨xs,hq⟩,q⟩:=q1;subst e;cases r1;obtain⟨its,rv,p,hz⟩:=I1.tuple hq;refine wpAny_pyIter_tuple (show s1.heap.IsTuple a its.toArray from p) ?_;refine⟨s1.heap.objs.size,[s1.heap.objs.size],_,_,H1,rfl,I1.kept (t':=s1.toks) fun b o e=>aL _ e,IV a _,⟨_,bF _ rfl,rfl,rfl⟩,fun b hb=>?_,q⟩;have e:b=s1.heap.objs.size:=by simpa using hb
 subst e;exact I1.fpOk (aQ _) (I1.hok.fresh (aQ _))
theorem SR{pins:List (Addr×Obj)}{σ : St}{H:Hp}{s:Shared}{R:It->Hp->Prop}{E:Value->Shared->Prop}{lo hi:Int}{t u v:Tok}{tk:Nat}(I:Inv X pins σ H s)(h1 : -(2 ^ 62)<=lo)(h2:lo<2 ^ 62)(h3 : -(2 ^ 62)<=hi)(h4:hi<2 ^ 62)
  (q:R (Itr lo (hi-lo).toNat) H):wpAny (model X.prog X.w) X.A (pyIter (.ref s.heap.objs.size)) (PIE X pins σ tg R) E { s with heap:=s.heap.push { cls:=.type "range",data:=.fields #[.int lo t,.int hi u,.int 1 v] },toks:=tk }:=by
 refine wpAny_pyIter_range (IsRange.new ..) (small_one h1 h2 h3 h4) ?_;have I1:Inv X pins σ H { s with heap:=s.heap.push { cls:=.type "range",data:=.fields #[.int lo t,.int hi u,.int 1 v] },toks:=tk }:=I.kept fun b o e=>aL _ e
 refine⟨(s.heap.push { cls:=.type "range",data:=.fields #[.int lo t,.int hi u,.int 1 v] }).objs.size,[(s.heap.push { cls:=.type "range",data:=.fields #[.int lo t,.int hi u,.int 1 v] }).objs.size],_,_,H,rfl,
  I1.kept (t':=tk) fun b o e=>aL _ e,IW _ lo (hi-lo).toNat,?_,fun b hb=>?_,q⟩
 . have e1 : lo + ((0 : Nat) : Int) * 1 = lo := by simp
   have e2:(((hi-lo).toNat:Nat):Int)-((0:Nat):Int)=Builtin.Range.rangeSize lo hi 1:=by rw[rangeSize_one];split<;>omega
   show IsRangeIter _ _ (lo+((0:Nat):Int)*1) ((((hi-lo).toNat:Nat):Int)-((0:Nat):Int)) 1;rw[e1,e2];exact bF _ rfl
 . have e : b = (s.heap.push { cls := .type "range", data := .fields #[.int lo t, .int hi u, .int 1 v] }).objs.size := by simpa using hb
   subst e;exact I1.fpOk (aQ _) (I1.hok.fresh (aQ _))
noncomputable def iRng1(ta:TA):TI:=fun σ H R=>ta σ H fun vs H1=>∃j:Int,vs=[.int j]/\-(2 ^ 62)<=j/\j<2 ^ 62/\R (Itr 0 j.toNat) H1
theorem OB{a:Expr}{ta:TA}{p pos:Pos}(hg:Gl X "range")(hm:X.mg "range" = none)(ha:PA X [a] ta)(hs:starEach [a] X.env=[(false,eval a X.env)]:=by rfl):PI X tg (.Call (.Name "range" p) [a] [] pos) (iRng1 ta):=by
 intro pins s σ H R I h;refine Call_ (AK I hg hm boot_range (iW (thn (ha pos pins s σ H _ I h) fun us s1 ⟨vs,H1,I1,r1,q1⟩=>?_) hs rfl));obtain⟨j,e,q1,q2,q⟩:=q1;subst e;cases r1 with
 | cons r rr =>
   cases rr;obtain⟨t,rfl⟩:=r;exact call_range_1 (SR I1 (by omega) (by omega) q1 q2 (by simpa using q))
noncomputable def tFor(wi:TI)(g:TG)(tb:TS):TS:=fun D σ H=>wi σ H fun J H1=>∃W:Nat->Nat->St->Hp->Prop,(∃m,W 0 m σ H1)/\∀i m σ H,W i m σ H →
 (J.stop i H/\D.nx σ H)\/(J.go i H/\∃N:St->Hp->Prop,(∀σ' H',N σ' H'->∃m',m'<m/\W (i+1) m' σ' H')/\∀x H',J.yld i H x H'->g x σ H' fun σ2 H2=>tb { D with nx:=N,ct:=N,bk:=D.nx } σ2 H2)
noncomputable def AC(fp:List Addr)(h:Heap):List (Addr×Obj):=fp.filterMap fun b=>(h.get? b).map fun o=>(b,o)
theorem xZ{fp:List Addr}{h:Heap}{b:Addr}{o:Obj}(hb:b∈fp)(e:h.get? b=some o):(b,o)∈AC fp h:=fB.mpr ⟨b,hb,by rw[e];rfl⟩
theorem OH{fp:List Addr}{h:Heap}{p:Addr×Obj}(hp:p∈AC fp h):p.1∈fp/\h.get? p.1=some p.2:=by
 obtain⟨b,hb,e⟩:=fB.mp hp;cases q:h.get? b with
 |none=>rw[q] at e;cases e
 | some o =>
   rw[q] at e;have e':(b,o)=p:=Option.some.inj e;subst e';exact⟨hb,q⟩
theorem Inv.pinned{pins:List (Addr×Obj)}{σ : St}{H:Hp}{s:Shared}{fp:List Addr}(I:Inv X pins σ H s)(hf:∀b∈fp,FpOk X pins H b)(ho:∀b∈fp,∃o,s.heap.get? b=some o/\∀v,o.data≠.cell v):Inv X (pins++AC fp s.heap) σ H s :=
 I.pins_of fun p hp=>(bU.mp hp).elim (fun z=>I.pin p (bC _ z)) fun z=>by
  obtain⟨hb,e⟩:=OH z;obtain⟨f0,f1,f2,_⟩:=hf p.1 hb;obtain⟨o,e',d⟩:=ho p.1 hb;rw[e] at e';cases e';exact⟨e,f0,f1,f2,d⟩
theorem Inv.unpinned{pins pl:List (Addr×Obj)}{σ : St}{H:Hp}{s:Shared}(I:Inv X (pins++pl) σ H s):Inv X pins σ H s:=I.pins_of fun p hp=>I.pin p (bC _ (dB _ hp))
theorem TJ{iter:Expr}{body:List Stmt}{wi:TI}{g:TG}{tb:TS}{pos:Pos}(hp:PassesOwn (model X.prog X.w) X.A X.env X.xe)(hc:X.calm=true)(hi:PI X tg iter wi)(hg:PG X tg g)(hb:PSs X body tb)
  (hs:∀x,foldedSetIterable iter X.env x=pure x:=by intro _;rfl):PS X (.For tg iter body [] pos) (tFor wi g tb):=by
 intro pins s σ H D I h;refine wpAny_For (thn (hi pins s σ H _ I h) fun v s1 h1=>thn h1 fun itv s2 h2=>?_) hs;obtain⟨it,fp,tn,J,H2,e,I2,T,st2,f2,W,⟨m0,w0⟩,turn⟩:=h2;subst e;have stat:∀{H':Hp},(∀b∈fp,H' b=none)->∀b∈fp,FpOk X pins H' b:=fun hn b hb=>⟨hn b hb,(f2 b hb).2⟩
 refine codeAny_forLoop_any (fun n s'=>∃i σ' H',Inv X pins σ' H' s'/\tn i s'.heap/\(∀b∈fp,H' b=none)/\W i n σ' H') ?_ m0 ⟨0,σ,H2,I2,st2,fun b hb=>(f2 b hb).1,w0⟩;rintro n s3 ⟨i,σ3,H3,I3,st3,fr3,w3⟩;rcases turn i n σ3 H3 w3 with⟨stop,qn⟩ | ⟨go,N,hN,step⟩
 . refine wpAny_passesOwn hp (thn (T.done X rfl rfl rfl hc i pins s3 σ3 H3 X.xe I3 (stat fr3) st3 stop) fun r s4 ⟨hr, I4⟩ => ?_);subst hr;exact wpAny_execs_nil ⟨σ3,H3,I4,qn⟩
 . refine wpAny_passesOwn hp (thn (T.item X rfl rfl rfl hc i pins s3 σ3 H3 X.xe I3 (stat fr3) st3 go) fun r s4 ⟨u, hr, h4⟩ => ?_);subst hr;refine wpAny_passesOwn hp (thn h4 fun _ s5 ⟨x,H5,I5,r5,y5,st5,fr5⟩=>?_);have I5':=I5.pinned (stat fr5) (T.obj _ _ st5);refine wpAny_passesOwn hp (thn (hg _ s5 σ3 H5 x u _ I5' r5 (step x H5 y5)) fun _ s6 ⟨σ6,H6,I6,q6⟩=>?_);refine wpAny_passesOwn hp (thn (hb _ s6 σ6 H6 _ I6 q6) fun f s7 q7=>?_)
   have again:∀{σ7:St} {H7:Hp},Inv X (pins++AC fp s5.heap) σ7 H7 s7->N σ7 H7->∃m,m<n/\∃i σ' H',Inv X pins σ' H' s7/\tn i s7.heap/\(∀b∈fp,H' b=none)/\W i m σ' H':=fun {σ7 H7} I7 n7=>by
    obtain⟨m',hm,w7⟩:=hN σ7 H7 n7;refine⟨m',hm,i+1,σ7,H7,I7.unpinned,T.keep _ _ _ st5 fun b hb o e=>(I7.pin (b,o) (bC _ (bC _ (xZ hb e)))).1,fun b hb=>?_,w7⟩;obtain⟨o,e,d⟩:=T.obj _ _ st5 b hb;exact(I7.pin (b,o) (bC _ (bC _ (xZ hb e)))).2.1
   cases f with
   |next=>obtain⟨σ7,H7,I7,n7⟩:=q7;exact again I7 n7
   |cont=>obtain⟨σ7,H7,I7,n7⟩:=q7;exact again I7 n7
   |brk=>obtain⟨σ7,H7,I7,q7⟩:=q7;exact⟨σ7,H7,I7.unpinned,q7⟩
   |ret v=>obtain⟨x7,σ7,H7,I7,r7,q7⟩:=q7;exact⟨x7,σ7,H7,I7.unpinned,r7,q7⟩
end
abbrev R2:=V->V->Hp->VK->Prop
noncomputable def OpR(X:Cx)(f:Value->Value->Sem Value)(r:R2):Prop :=
 ∀(pins:List (Addr×Obj)) (s:Shared) (σ : St) (H:Hp) (x y:V) (v u:Value) (Q:VK),Inv X pins σ H s->RelV x v->RelV y u->r x y H Q →
  wpAny (model X.prog X.w) X.A (f v u) (EP X pins σ Q) X.xe s
noncomputable def UnR(X:Cx)(f:Value->Sem Value)(r:V->Hp->VK->Prop):Prop :=
 ∀(pins:List (Addr×Obj)) (s:Shared) (σ : St) (H:Hp) (x:V) (v:Value) (Q:VK),Inv X pins σ H s->RelV x v->r x H Q →
  wpAny (model X.prog X.w) X.A (f v) (EP X pins σ Q) X.xe s
noncomputable def CallR(X:Cx)(f:Value)(r:List V->Hp->VK->Prop):Prop :=
 ∀(pins:List (Addr×Obj)) (s:Shared) (σ : St) (H:Hp) (xs:List V) (us:List Value) (Q:VK),Inv X pins σ H s->Vals xs us->r xs H Q →
  wpAny (model X.prog X.w) X.A (call f us) (EP X pins σ Q) X.xe s
noncomputable def TruR(X:Cx)(r:V->Hp->(Bool->Hp->Prop)->Prop):Prop :=
 ∀(pins:List (Addr×Obj)) (s:Shared) (σ : St) (H:Hp) (x:V) (v:Value) (Q:Bool->Hp->Prop),Inv X pins σ H s->RelV x v->r x H Q →
  wpAny (model X.prog X.w) X.A (truthy v) (TP X pins σ Q) X.xe s
noncomputable def tOp(r:R2)(ta tb:TE):TE:=fun σ H Q=>ta σ H fun x H1=>tb σ H1 fun y H2=>r x y H2 Q
noncomputable def tUn(r:V->Hp->VK->Prop)(ta:TE):TE:=fun σ H Q=>ta σ H fun x H1=>r x H1 Q
noncomputable def rI(C:Int->Int->Prop)(g:Int->Int->V):R2:=fun x y H Q=>∃i j,x=.int i/\y=.int j/\C i j/\Q (g i j) H
noncomputable def rI0(g:Int->Int->V):R2:=fun x y H Q=>∃i j,x=.int i/\y=.int j/\Q (g i j) H
noncomputable def rU(g:Int->V):V->Hp->VK->Prop:=fun x H Q=>∃i,x=.int i/\Q (g i) H
section
variable{X:Cx}{a b c:Expr}{ta tb tc:TE}{pos:Pos}
theorem binT(ha:PE X a ta)(hb:PE X b tb){pins:List (Addr×Obj)}{s:Shared}{σ : St}{H:Hp}{R:V->V->Hp->Prop}(I:Inv X pins σ H s)
  (h:ta σ H fun x H1=>tb σ H1 fun y H2=>R x y H2) {Q:Value->Shared->Prop} {f:Value->Value->Sem Value}
  (hf:∀v u s2 x y H2,Inv X pins σ H2 s2->RelV x v->RelV y u->R x y H2->wpAny (model X.prog X.w) X.A (f v u) Q X.xe s2) :
  wpAny (model X.prog X.w) X.A (eval a X.env) (fun v s₁=>wpAny (model X.prog X.w) X.A (eval b X.env) (fun u s₂=>wpAny (model X.prog X.w) X.A (f v u) Q X.xe s₂) X.xe s₁) X.xe s:=by
 refine thn (ha pins s σ H _ I h) fun v s1 ⟨x,H1,I1,r1,q1⟩=>?_;refine thn (hb pins s1 σ H1 _ I1 q1) fun u s2 ⟨y,H2,I2,r2,q2⟩=>?_;exact hf v u s2 x y H2 I2 r1 r2 q2
theorem TW{op:Operator}{r:R2}(ho:OpR X (binaryOp op) r)(ha:PE X a ta)(hb:PE X b tb):PE X (.BinOp a op b pos) (tOp r ta tb):=by
 intro pins s σ H Q I h;exact wpAny_BinOp (binT ha hb I h fun v u s2 x y H2 I2 rx ry q=>ho pins s2 σ H2 x y v u Q I2 rx ry q)
theorem pe_un{op:UnaryOp}{r:V->Hp->VK->Prop}(ho:UnR X (unaryOp op) r)(ha:PE X a ta):PE X (.UnaryOp op a pos) (tUn r ta):=by
 intro pins s σ H Q I h;exact UnaryOp_ (thn (ha pins s σ H _ I h) fun v s1 ⟨x,H1,I1,r1,q1⟩=>ho pins s1 σ H1 x v Q I1 r1 q1)
theorem opI{f:Value->Value->Sem Value}{C:Int->Int->Prop}{g:Int->Int->Int}
  (rule:∀(i j:Int) (t u:Tok) (s:Shared) (Q:Value->Shared->Prop) (E:Value->Shared->Prop),C i j->Q (.int (g i j) s.toks) { s with toks:=s.toks+1 }->wpAny (model X.prog X.w) X.A (f (.int i t) (.int j u)) Q E s) :
  OpR X f (rI C fun i j=>.int (g i j)):=by
 intro pins s σ H x y v u Q I rx ry h;obtain⟨i,j,rfl,rfl,hc,q⟩:=h;obtain⟨t,rfl⟩:=rx;obtain⟨t',rfl⟩:=ry;exact rule i j t t' s _ _ hc ⟨.int (g i j),H,I.tok _,⟨_,rfl⟩,q⟩
theorem opI0{f:Value->Value->Sem Value}{g:Int->Int->Int}
  (rule:∀(i j:Int) (t u:Tok) (s:Shared) (Q:Value->Shared->Prop) (E:Value->Shared->Prop),Q (.int (g i j) s.toks) { s with toks:=s.toks+1 }->wpAny (model X.prog X.w) X.A (f (.int i t) (.int j u)) Q E s) :
  OpR X f (rI0 fun i j=>.int (g i j)):=by
 intro pins s σ H x y v u Q I rx ry h;obtain⟨i,j,rfl,rfl,q⟩:=h;obtain⟨t,rfl⟩:=rx;obtain⟨t',rfl⟩:=ry;exact rule i j t t' s _ _ ⟨.int (g i j),H,I.tok _,⟨_,rfl⟩,q⟩
theorem opB0{f:Value->Value->Sem Value}{g:Int->Int->Bool}
  (rule:∀(i j:Int) (t u:Tok) (s:Shared) (Q:Value->Shared->Prop) (E:Value->Shared->Prop),Q (.bool (g i j)) s->wpAny (model X.prog X.w) X.A (f (.int i t) (.int j u)) Q E s) :
  OpR X f (rI0 fun i j=>.bl (g i j)):=by
 intro pins s σ H x y v u Q I rx ry h;obtain⟨i,j,rfl,rfl,q⟩:=h;obtain⟨t,rfl⟩:=rx;obtain⟨t',rfl⟩:=ry;exact rule i j t t' s _ _ ⟨.bl (g i j),H,I,rfl,q⟩
noncomputable def CMul(i j:Int):Prop:=(-(2 ^ 64)<i/\i<2 ^ 64)\/(-(2 ^ 64)<j/\j<2 ^ 64)
theorem CMul.ok{i j:Int}(h:CMul i j):IntMulOk i j:=by
 rcases h with⟨h1,h2⟩ | ⟨h1,h2⟩
 . exact .of_left (intBits_le_64 h1 h2)
 . exact .of_right (intBits_le_64 h1 h2)
theorem op_add:OpR X (binaryOp .Add) (rI0 fun i j=>.int (i+j)):=opI0 fun _ _ _ _ _ _ _ q=>add_int q
theorem op_sub:OpR X (binaryOp .Sub) (rI0 fun i j=>.int (i-j)):=opI0 fun _ _ _ _ _ _ _ q=>sub_int q
theorem op_mod:OpR X (binaryOp .Mod) (rI (fun _ j=>0<j) fun i j=>.int (i%j)):=opI fun i j _ _ _ _ _ hc q=>by
 have h1:(0:Int)<j:=hc;exact mod_int' (by omega) (by rw[Int.fmod_eq_emod_of_nonneg i (by omega)];exact q)
theorem unI{f:Value->Sem Value}{g:Int->Int}
  (rule:∀(i:Int) (t:Tok) (s:Shared) (Q:Value->Shared->Prop) (E:Value->Shared->Prop),Q (.int (g i) s.toks) { s with toks:=s.toks+1 }->wpAny (model X.prog X.w) X.A (f (.int i t)) Q E s) :
  UnR X f (rU fun i=>.int (g i)):=by
 intro pins s σ H x v Q I rx h;obtain⟨i,rfl,q⟩:=h;obtain⟨t,rfl⟩:=rx;exact rule i t s _ _ ⟨.int (g i),H,I.tok _,⟨_,rfl⟩,q⟩
theorem un_neg:UnR X (unaryOp .USub) (rU fun i=>.int (-i)):=unI fun _ _ _ _ _ q=>neg_int q
end
section
variable{X:Cx}{a b c:Expr}{ta tb tc:TE}{pos:Pos}
theorem EZ{pins:List (Addr×Obj)}{σ : St}{H:Hp}{s:Shared}{Q:VK}{k k':Bool}(I:Inv X pins σ H s)(q:Q (.bl k) H)(e:k=k'):EP X pins σ Q (.bool k') s:=by
 subst e;exact⟨.bl k,H,I,rfl,q⟩
theorem op_lt:OpR X (compareOp .Lt) (rI0 fun i j=>.bl (decide (i<j))):=opB0 fun _ _ _ _ _ _ _ q=>lt_int q
theorem op_le:OpR X (compareOp .LtE) (rI0 fun i j=>.bl (decide (i<=j))):=opB0 fun _ _ _ _ _ _ _ q=>le_int q
theorem op_gt:OpR X (compareOp .Gt) (rI0 fun i j=>.bl (decide (j<i))):=opB0 fun _ _ _ _ _ _ _ q=>gt_int q
theorem op_ge:OpR X (compareOp .GtE) (rI0 fun i j=>.bl (decide (j<=i))):=opB0 fun _ _ _ _ _ _ _ q=>ge_int q
theorem OF:OpR X (compareOp .In) (fun x y H Q=>∃i j,x=.str i/\y=.str j/\Q (.bl (!(Builtin.Str.occurrences j i 0 j.length 1).isEmpty)) H):=by
 intro pins s σ H x y v u Q I rx ry h;obtain⟨i,j,rfl,rfl,q⟩:=h;obtain⟨t,rfl⟩:=rx;obtain⟨t',rfl⟩:=ry;exact in_str (EZ I q rfl)
theorem op_isN:OpR X (compareOp .Is) (fun x y H Q=>y=.non/\Q (.bl (decide (x=.non))) H):=by
 intro pins s σ H x y v u Q I rx ry h;obtain⟨rfl,q⟩:=h;cases ry;refine is_none_gen (EZ I q ?_)
 cases x<;>first
  |(cases rx;rfl)
  |(obtain⟨t,rfl⟩:=rx;rfl)
theorem LY:OpR X (compareOp .IsNot) (fun x y H Q=>y=.non/\Q (.bl (!decide (x=.non))) H):=by
 intro pins s σ H x y v u Q I rx ry h;obtain⟨rfl,q⟩:=h;cases ry;refine isnot_none_gen (EZ I q ?_)
 cases x<;>first
  |(cases rx;rfl)
  |(obtain⟨t,rfl⟩:=rx;rfl)
theorem pG:OpR X (compareOp .NotIn) (fun x y H Q=>∃i j,x=.str i/\y=.str j/\Q (.bl (!(!(Builtin.Str.occurrences j i 0 j.length 1).isEmpty))) H):=by
 intro pins s σ H x y v u Q I rx ry h;obtain⟨i,j,rfl,rfl,q⟩:=h;obtain⟨t,rfl⟩:=rx;obtain⟨t',rfl⟩:=ry;exact notIn_str (EZ I q rfl)
theorem OpR.or{f:Value->Value->Sem Value}{r r':R2}(h:OpR X f r)(h':OpR X f r'):OpR X f (fun x y H Q=>r x y H Q\/r' x y H Q):=by
 intro pins s σ H x y v u Q I rx ry q;rcases q with q | q
 . exact h pins s σ H x y v u Q I rx ry q
 . exact h' pins s σ H x y v u Q I rx ry q
theorem iX(b:Expr){op:CmpOp}(h:op≠.In:=by decide)(h2:op≠.NotIn:=by decide):behindInMarks op b=false:=by
 have e1:(op==CmpOp.In)=false:=by cases op<;>first | rfl | exact absurd rfl h
 have e2:(op==CmpOp.NotIn)=false:=by cases op<;>first | rfl | exact absurd rfl h2
 cases b<;>simp[behindInMarks,e1,e2]
theorem LW{op:CmpOp}{r:R2}(ho:OpR X (compareOp op) r)(ha:PE X a ta)(hb:PE X b tb)(hm:behindInMarks op b=false):PE X (.Compare a [op] [b] pos) (tOp r ta tb):=by
 intro pins s σ H Q I h;exact wpAny_Compare1 (binT ha hb I h fun v u s2 x y H2 I2 rx ry q=>ho pins s2 σ H2 x y v u Q I2 rx ry q) hm
noncomputable def tTest(t:TE):TT:=fun σ H Q=>t σ H fun x H'=>∃k,x=.bl k/\Q k H'
theorem LN{op:CmpOp}{r:R2}(ho:OpR X (compareOp op) r)(ha:PE X a ta)(hb:PE X b tb)(hm:behindInMarks op b=false):PT X (.Compare a [op] [b] pos) (tTest (tOp r ta tb)):=by
 intro pins s σ H Q I h
 refine wpAny_isTrue_Compare1 (thn (ha pins s σ H _ I h) fun v s1 ⟨x,H1,I1,r1,q1⟩=>thn (hb pins s1 σ H1 _ I1 q1) fun u s2 ⟨y,H2,I2,r2,q2⟩ =>
  thn (ho pins s2 σ H2 x y v u _ I2 r1 r2 q2) fun c s3 ⟨z,H3,I3,r3,k,e,q3⟩=>?_) hm
 subst e;cases r3;exact wpAny_truthy_bool ⟨H3,I3,q3⟩
noncomputable def TruV(K:aH)(x:V)(H:Hp)(k:Bool):Prop :=
 match x with
 | .non=>k=false
 | .bl b=>k=b
 | .int i=>k=(i != 0)
 | .str y=>y.length<=sizeLine/\k=((y.length:Int) != 0)
 | .byt y=>y.size<=sizeLine/\k=((y.size:Int) != 0)
 | .ref p=>(∃xs,SqL K H p xs/\k=!xs.isEmpty)\/(∃xs,SqT K H p xs/\k=!xs.isEmpty)\/∃kvs,H p=some (.dK kvs)/\k=!kvs.isEmpty
 |_=>False
theorem JU{κ : Type}{kvs:List (κ×V)}{vs:List (κ×Value)}(r:KV kvs vs):(!vs.isEmpty)=!kvs.isEmpty:=by
 cases r<;>rfl
theorem AM{xs:List V}{its:List Value}(r:Vals xs its):(!its.toArray.isEmpty)=!xs.isEmpty:=by
 cases r<;>simp
theorem oK:(sizeLine:Nat)<2 ^ 63:=by rw[sizeLine_eq];decide
theorem tru_ok:TruR X (fun x H Q=>∃k,TruV X.K x H k/\Q k H):=by
 intro pins s σ H x v Q I rx h;obtain⟨k,e,q⟩:=h;have hl:=oK;have hs:sizeLine=16777216:=sizeLine_eq;cases x with
 | non =>
   cases rx;have e':k=false:=e;subst e';exact truthy_none ⟨H,I,q⟩
 | bl b =>
   cases rx;have e':k=b:=e;subst e';exact wpAny_truthy_bool ⟨H,I,q⟩
 | int i =>
   obtain⟨t,rfl⟩:=rx;have e':k=(i != 0):=e;subst e';exact PySem.P.truthy_int ⟨H,I,q⟩
 | str y =>
   obtain⟨t,rfl⟩:=rx;obtain⟨hy,e'⟩:y.length<=sizeLine/\k=((y.length:Int) != 0):=e;subst e';exact PySem.P.truthy_str (by omega) ⟨H,I.tok _,q⟩
 | byt y =>
   obtain⟨t,rfl⟩:=rx;obtain⟨hy,e'⟩:y.size<=sizeLine/\k=((y.size:Int) != 0):=e;subst e';exact PySem.W.truthy_bytes (by omega) ⟨H,I.tok _,q⟩
 | ref p =>
   cases rx;have e':(∃xs,SqL X.K H p xs/\k=!xs.isEmpty)\/(∃xs,SqT X.K H p xs/\k=!xs.isEmpty)\/∃kvs,H p=some (.dK kvs)/\k=!kvs.isEmpty:=e;rcases e' with⟨xs,hx,e'⟩ | ⟨xs,hx,e'⟩ | ⟨kvs,hx,e'⟩
   . subst e';obtain⟨its,r,pl,hz⟩:=I.list hx;have hlen:=r.length;exact wpAny_truthy_list pl.isList (by simp only[aX];omega) ⟨H,I.tok _,by rw[AM r];exact q⟩
   . subst e';obtain⟨its,r,pl,hz⟩:=I.tuple hx;have hlen:=r.length;exact truthy_tuple pl (by simp only[aX];omega) ⟨H,I.tok _,by rw[AM r];exact q⟩
   . subst e';obtain⟨hz,hS,vs,r,m⟩:kvs.length<=sizeLine/\(p==sysModules)=false/\∃vs,KV kvs vs/\s.heap.DictOf (EO X.prog X.w) p vs:=I.hok p _ hx;have hlen:kvs.length=vs.length:=Paired.length r;exact wpAny_truthy_dict hS m (by omega) ⟨H,I.tok _,by rw[JU r];exact q⟩
 |_=>exact(show False from e).elim
theorem SZ(ha:PE X a ta)(he:∀whole,isTrue a X.env whole=(do let v <- whole;standAt a.pos;holding [v] (truthy v))) :
  PT X a (fun σ H Q=>ta σ H fun x H'=>∃k,TruV X.K x H' k/\Q k H'):=by
 intro pins s σ H Q I h;exact isTrue_plain (thn (ha pins s σ H _ I h) fun v s1 ⟨x,H1,I1,r1,q1⟩=>tru_ok pins s1 σ H1 x v Q I1 r1 q1) (he _)
theorem JH:OpR X (binaryOp .Add) (fun x y H Q=>∃i j,x=.str i/\y=.str j/\i.length+j.length<=sizeLine/\Q (.str (i++j)) H):=by
 intro pins s σ H x y v u Q I rx ry h;obtain⟨i,j,rfl,rfl,hz,q⟩:=h;obtain⟨t,rfl⟩:=rx;obtain⟨t',rfl⟩:=ry;exact add_str (fun t' tk=>⟨.str (i++j),H,I.tok _,⟨_,rfl⟩,q⟩) hz
theorem vals1{x:V}{us:List Value}(r:Vals [x] us):∃u,us=[u]/\RelV x u:=by
 cases r with
 |cons r1 r2=>cases r2;exact⟨_,rfl,r1⟩
theorem vals2{x y:V}{us:List Value}(r:Vals [x,y] us):∃u w',us=[u,w']/\RelV x u/\RelV y w':=by
 cases r with
 | cons r1 r2 =>
   cases r2 with
   |cons r3 r4=>cases r4;exact⟨_,_,rfl,r1,r3⟩
theorem QG(hc:X.calm=true):CallR X (.builtin "max") (fun xs H Q=>∃i j,xs=[.int i,.int j]/\Q (.int (if j>i then j else i)) H):=by
 intro pins s σ H xs us Q I r h;obtain⟨i,j,rfl,q⟩:=h;obtain⟨u,w',rfl,⟨t,rfl⟩,⟨t',rfl⟩⟩:=vals2 r;refine max_two_ints (I.ok.hd hc) fun h' tk k=>⟨_,H,I.kept k,?_,q⟩
 by_cases hj:j>i
 . rw[if_pos hj,if_pos hj];exact⟨_,rfl⟩
 . rw[if_neg hj,if_neg hj];exact⟨_,rfl⟩
theorem QF(hc:X.calm=true):CallR X (.builtin "min") (fun xs H Q=>∃i j,xs=[.int i,.int j]/\Q (.int (if j<i then j else i)) H):=by
 intro pins s σ H xs us Q I r h;obtain⟨i,j,rfl,q⟩:=h;obtain⟨u,w',rfl,⟨t,rfl⟩,⟨t',rfl⟩⟩:=vals2 r;refine min_two_ints (I.ok.hd hc) fun h' tk k=>⟨_,H,I.kept k,?_,q⟩
 by_cases hj:j<i
 . rw[if_pos hj,if_pos hj];exact⟨_,rfl⟩
 . rw[if_neg hj,if_neg hj];exact⟨_,rfl⟩
theorem DG:CallR X (.type "int") (fun xs H Q=>(∃i,xs=[.int i]/\Q (.int i) H)\/∃k,xs=[.bl k]/\Q (.int (if k then 1 else 0)) H):=by
 intro pins s σ H xs us Q I r h;rcases h with⟨i,rfl,q⟩ | ⟨k,rfl,q⟩
 . obtain⟨u, rfl, t, rfl⟩ := vals1 r;exact call_int_int ⟨.int i,H,I,⟨_,rfl⟩,q⟩
 . obtain⟨u, rfl, r1⟩ := vals1 r;cases r1;exact call_int_bool ⟨.int (if k then 1 else 0),H,I.tok _,⟨_,rfl⟩,q⟩
theorem FF:CallR X (.type "str") (fun xs H Q=>∃i,xs=[.int i]/\i.natAbs.log2<1920/\Q (.str (toString i)) H):=by
 intro pins s σ H xs us Q I r h;obtain⟨i,rfl,hz,q⟩:=h;obtain⟨u,rfl,t,rfl⟩:=vals1 r;exact PySem.P.str_of_int hz ⟨.str _,H,I.tok _,⟨_,rfl⟩,q⟩
end
structure ObjM(h:Heap)(x dx C:Addr)(mA:Str->Option Value):Prop where
 obj:h.get? x=some (cR C dx)
 ns:h.Ns1 dx mA
 ne:dx≠x
theorem OU{h:Heap}{dx:Addr}{mA:Str->Option Value}(n:h.Ns1 dx mA):∃od,h.get? dx=some od/\∀name,mU name od=some (mA name):=by
 obtain⟨o,es,ep,ho,hd,hk,_,hm⟩:=n;refine⟨o,ho,fun name=>?_⟩;have e:=hm name;unfold nsFind findBy at e;rw[<- Array.find?_toList] at e;unfold mU;rw[hd];dsimp only
 split
 . rename_i y q;rw[q] at e;exact congrArg some e
 . rename_i q;rw [q] at e
   have a:es.toList.any (·.refKey)=false:=by
    rw[List.any_eq_false];intro y hy;obtain⟨z,t,hkey⟩:=hk y (Array.mem_toList_iff.mp hy);simp[DictEntry.refKey,hkey]
   have a' : ¬es.toList.any (·.refKey)=true:=by rw[a];exact cH
   rw[if_neg a'];exact congrArg some e
theorem ObjM.look{h:Heap}{x dx C:Addr}{mA:Str->Option Value}(I:ObjM h x dx C mA):∃od,PySem.W.InstAt h x (cR C dx) C (some od)/\∀name,mU name od=some (mA name):=
 let ⟨od,ho,hl⟩:=OU I.ns
 ⟨od,⟨I.obj,rfl,rfl,ho⟩,hl⟩
section
variable{prog:Program}{w:World}{A:Around}{E:Value->Shared->Prop}{s:Shared}{K:aH}{x dx C f:Addr}{mA:Str->Option Value}{name:Str}{v:Value}
theorem ZP{expr:Bool}{Q:Value->Shared->Prop}(X:K.In s.heap)(I:ObjM s.heap x dx C mA)(hg:eX K C name=true)(hh:fD K C=true)
  (ha:aR K (.ref C) name=some none) (hv:mA name=some v) (hv':KO v=true) (h:Q v { s with toks:=s.toks+1 }) :
  wpAny (model prog w) A (getAttr (.ref x) name expr) Q E s:=by
 obtain⟨od,J,hl⟩:=I.look;exact PySem.W.get_value X J (nN hg).1 (PySem.W.findObj_own hh ha rfl (by rw[hl,hv])) hv' h
theorem VJ{pl:Sem Bool}{Q:Value×List Value->Shared->Prop}(X:K.In s.heap)(I:ObjM s.heap x dx C mA)(hg:eX K C name=true)
  (hf:aR K (.ref C) name=some (some (.ref f))) (ht:mG K (.ref f)=true) (hv:mA name=none) (h:Q (.ref f,[.ref x]) s) :
  wpAny (model prog w) A (getMethod (.ref x) name pl) Q E s:=by
 obtain⟨od,J,hl⟩:=I.look;exact PySem.W.method_fn X J (nN hg).1 (nN hg).2 hf (beq_iff_eq.mp ht) (by show(mU name od).map (·.isSome)=some false;rw[hl,hv];rfl) h
theorem XU{ns:List Str}{Q:Unit->Shared->Prop}(X:K.In s.heap)(I:ObjM s.heap x dx C mA)
  (hs:aR K (.ref C) "__setattr__" = some (some (.builtin "object.__setattr__"))) (hp:fX K C=true) (ht:sL K C name=some none) (hh:fD K C=true)
  (hw:PySem.Within mA ns) (hsz:ns.length<=sizeLine)
  (h:∀h',ObjM h' x dx C (fun y=>if y=name then some v else mA y)->Heap.SameBut dx s.heap h'->Q () { s with heap:=h',toks:=s.toks+2 }) :
  wpAny (model prog w) A (setAttr (.ref x) name v) Q E s:=by
 obtain⟨od,J,hl⟩:=I.look;refine PySem.W.set_plain X J hs (PySem.W.osa_open (s:={ s with toks:=s.toks+1 }) (r:=none) X J hp ht fun b=>?_);obtain⟨cd,hc,hd'⟩:=PySem.W.any_some hh;have hx:s.heap.get? x=some ⟨.ref C,some dx,.plain,#[]⟩:=I.obj;refine wpAny_bind (wpAny_pure (wpAny_bind (wpAny_bind (wpAny_loadPart hx (wpAny_bind (RH.here (s:={ s with toks:=s.toks+1 }) (PySem.W.looks_clsIn X hc) ?_))))));rw[hd'];refine wpAny_pure (a:=some dx) (wpAny_bind (wpAny_pure (wpAny_bind ?_)));refine wpAny_nsSet1 (s:={ s with toks:=s.toks+1 }) I.ns fun h' hn2 hs2=>?_;obtain⟨oD,esD,epD,hoD,hdD,hcD⟩:=hn2.count (PySem.Within.cons name v hw);refine wpAny_bind (wpAny_lookBehind hoD (by rw[hdD];exact pastItsLine_dict (cM hcD (by rw[aG];omega))) ?_);exact wpAny_pure (h _ ⟨(hs2.2 _ (Ne.symm I.ne)).trans I.obj,hn2,I.ne⟩ hs2)
theorem UU{R:Result->Shared->Prop}{vs:List Value}{kw:List (Str×Value)}(X:K.In s.heap)(hm:fT K C=true)
  (hi:aR K (.ref C) "__init__" = some (some (.ref f))) (hf:fJ K (.ref f)=some (.type "function"))
  (h:codeAny (model prog w) (A.under (.builtin "type.__call__" ⟨.ref C::vs,kw⟩)) (.call (.ref f) ⟨.ref (s.heap.objs.size+1)::vs,kw⟩) (PySem.W.InitBack (s.heap.objs.size+1) R)
    { s with heap:=(s.heap.push cB).push (cR C s.heap.objs.size) }) :
  codeAny (model prog w) A (.call (.ref C) ⟨vs,kw⟩) R s:=by
 obtain⟨hh,g,d,t,os⟩:=s;exact IK (KN X hm) (FR X hi) (fun self=>PySem.W.bind_fn X self hf) (.inl rfl) h
end
noncomputable def putF(f:Str)(v:V):List (Str×V)->List (Str×V)
 |[]=>[(f,v)]
 |(g,x)::r=>if g=f then (g,v)::r else (g,x)::putF f v r
theorem sT(f g:Str)(v:V):∀fs:List (Str×V),(putF f v fs).lookup g=if g=f then some v else fs.lookup g
 | [] => by
   show List.lookup g [(f,v)]=_
   by_cases h:g=f
   . have hb : (g==f)=true := beq_iff_eq.mpr h;simp only[List.lookup,hb,if_pos h]
   . have hb : (g==f)=false := beq_eq_false_iff_ne.mpr h;simp only[List.lookup,hb,if_neg h]
 | (k, x) :: r => by
   have ih:=sT f g v r;rw[show putF f v ((k,x)::r)=(if k=f then (k,v)::r else (k,x)::putF f v r) from rfl]
   by_cases hk:k=f
   . rw [if_pos hk]
     by_cases h:g=k
     . have hb : (g==k)=true := beq_iff_eq.mpr h;simp only[List.lookup,hb,if_pos (h.trans hk)]
     . have hb : (g==k)=false := beq_eq_false_iff_ne.mpr h;simp only[List.lookup,hb,if_neg (fun e:g=f=>h (e.trans hk.symm))]
   . rw [if_neg hk]
     by_cases h:g=k
     . have hb : (g==k)=true := beq_iff_eq.mpr h;simp only[List.lookup,hb,if_neg (fun e:g=f=>hk (h.symm.trans e))]
     . have hb : (g==k)=false := beq_eq_false_iff_ne.mpr h;simp only[List.lookup,hb];exact ih
theorem rQ(f:Str)(v:V):∀fs:List (Str×V),f∈(putF f v fs).map (·.1)/\∀g,g∈fs.map (·.1)->g∈(putF f v fs).map (·.1)
 |[]=>⟨by simp[putF],fun g h=>by simp at h⟩
 | (k, x) :: r => by
   obtain⟨i1,i2⟩:=rQ f v r;rw[show putF f v ((k,x)::r)=(if k=f then (k,v)::r else (k,x)::putF f v r) from rfl]
   by_cases hk:k=f
   . rw[if_pos hk];subst hk;exact⟨by simp,fun g h=>by simpa using h⟩
   . rw [if_neg hk];refine ⟨?_,fun g h=>?_⟩
     . rw[bB];exact aI _ i1
     . rw [bB] at h ⊢;rcases aF.mp h with e | e
       . exact aF.mpr (.inl e)
       . exact aI _ (i2 g e)
theorem sU(f:Str)(v:V):∀fs:List (Str×V),(putF f v fs).length<=fs.length+1
 |[]=>by simp[putF]
 | (k, x) :: r => by
   have ih:=sU f v r;rw[show putF f v ((k,x)::r)=(if k=f then (k,v)::r else (k,x)::putF f v r) from rfl]
   by_cases hk:k=f
   . rw[if_pos hk,aG,aG];omega
   . rw[if_neg hk,aG,aG];omega
theorem RelO.some_of{v:V}{o:Option Value}(r:RelO (some v) o):∃u,o=some u/\RelV v u:=by
 cases o with
 |none=>exact(show False from r).elim
 |some u=>exact⟨u,rfl,r⟩
theorem RelO.none_of{o:Option Value}(r:RelO none o):o=none:=by
 cases o with
 |none=>rfl
 |some u=>exact(show False from r).elim
theorem PQ{v:V}{u:Value}(r:RelV v u):KO u=true:=by
 cases v with
 |non=>cases(show u=Value.none from r);rfl
 |bl b=>cases(show u=Value.bool b from r);rfl
 |int i=>obtain⟨t,e⟩:=(show ∃t,u=Value.int i t from r);cases e;rfl
 |str x=>obtain⟨t,e⟩:=(show ∃t,u=Value.str x t from r);cases e;rfl
 |byt b=>obtain⟨t,e⟩:=(show ∃t,u=Value.bytes b t from r);cases e;rfl
 |flt b=>obtain⟨t,e⟩:=(show ∃t,u=Value.float b t from r);cases e;rfl
 |ref a=>cases(show u=Value.ref a from r);rfl
 |ty n=>cases(show u=Value.type n from r);rfl
section
variable{P:Program}{w:World}{H H':Hp}{h h':Heap}{a C dx:Addr}{fs fs':List (Str×V)}
theorem uH(hok:HOk P w H h)(e:H a=some (.ins C dx fs)):∃mA,ObjM h a dx C mA/\(∀f,RelO (fs.lookup f) (mA f))/\PySem.Within mA (fs.map (·.1))/\fs.length<=1000/\H dx=some (.own a):=by
 obtain⟨d,z,ne,ob,mA,n,r,q⟩:=(show ObjOk P w H h a (.ins C dx fs) from hok a _ e)
 exact⟨mA,⟨ob,n,ne⟩,r,q,z,d⟩
end
structure Cls(K:aH)(C:Addr):Prop where
 pg:eX K C Str.empty=true
 hd:fD K C=true
 po:fX K C=true
 sa:aR K (.ref C) "__setattr__" = some (some (.builtin "object.__setattr__"))
theorem Cls.get{K:aH}{C:Addr}(c:Cls K C)(f:Str):eX K C f=true:=c.pg
noncomputable def gU(K:aH)(C:Addr)(f:Str):Prop:=aR K (.ref C) f=some none
theorem gU.taker{K:aH}{C:Addr}{f:Str}(n:gU K C f):sL K C f=some none:=by
 unfold sL;rw[show aR K (.ref C) f=some none from n];rfl
structure Meth(K:aH)(C:Addr)(m:Str)(f:Addr):Prop where
 at_:aR K (.ref C) m=some (some (.ref f))
 fn:mG K (.ref f)=true
 kp:bN K (.ref f)=true
section
variable{X:Cx}{pins:List (Addr×Obj)}{σ : St}{H:Hp}{s:Shared}{a C dx:Addr}{fs:List (Str×V)}{f:Str}{v:V}{A:Around}{E:Value->Shared->Prop}
theorem JZ{b:Bool}{Q:Value->Shared->Prop}(I:Inv X pins σ H s)(e:H a=some (.ins C dx fs))(c:Cls X.K C)(n:gU X.K C f)(l:fs.lookup f=some v)
  (h:∀u s',Inv X pins σ H s'->RelV v u->Q u s'):wpAny (model X.prog X.w) A (getAttr (.ref a) f b) Q E s:=by
 obtain⟨mA,O,r,_,_,_⟩:=uH I.hok e;obtain⟨u,hu,ru⟩:=RelO.some_of (v:=v) (o:=mA f) (by rw[<- l];exact r f);exact ZP I.kIn O (c.get f) c.hd n hu (PQ ru) (h u _ (I.tok _) ru)
theorem JY{m:Str}{g:Addr}{pl:Sem Bool}{Q:Value×List Value->Shared->Prop}(I:Inv X pins σ H s)(e:H a=some (.ins C dx fs))(c:Cls X.K C)(k:Meth X.K C m g)(l:fs.lookup m=none)
  (h:Q (.ref g,[.ref a]) s):wpAny (model X.prog X.w) A (getMethod (.ref a) m pl) Q E s:=by
 obtain⟨mA,O,r,_,_,_⟩:=uH I.hok e;have hn:mA m=none:=RelO.none_of (by rw[<- l];exact r m);exact VJ I.kIn O (c.get m) k.at_ k.fn hn h
theorem JA{y:V}{u:Value}{Q:Unit->Shared->Prop}(I:Inv X pins σ H s)(e:H a=some (.ins C dx fs))(c:Cls X.K C)(n:gU X.K C f)(hl:fs.length<1000)(ry:RelV y u)
  (h:∀s',Inv X pins σ (upd H a (.ins C dx (putF f y fs))) s'->Q () s'):wpAny (model X.prog X.w) A (setAttr (.ref a) f u) Q E s:=by
 obtain⟨mA,O,r,wi,_,ho⟩:=uH I.hok e;have hz:(fs.map (·.1)).length<=sizeLine:=by rw[dC,sizeLine_eq];omega
 refine XU I.kIn O c.sa c.po n.taker c.hd wi hz fun h' O' sb=>h _ ?_;have hd:∃o,h'.get? dx=some o:=let ⟨o,_,_,e',_⟩:=O'.ns;⟨o,e'⟩;refine I.write (x:=a) (e:=dx) (by rw[e];exact True.intro) (.inr ho) (fun b q hb z=>(sb.2 b hb).trans z) hd ?_;refine⟨by rw[zX O.ne];exact ho,?_,O.ne,O'.obj,_,O'.ns,fun g=>?_,fun g hg=>?_⟩
 . have:=sU f y fs;omega
 . show RelO ((putF f y fs).lookup g) (if g = f then some u else mA g);rw [sT]
   by_cases q:g=f
   . rw[if_pos q,if_pos q];exact ry
   . rw[if_neg q,if_neg q];exact r g
 . by_cases q : g = f
   . rw[q];exact(rQ f y fs).1
   . refine(rQ f y fs).2 g (wi g fun z => hg ?_);show(if g=f then some u else mA g)=none;rw[if_neg q];exact z
theorem Inv.made(I:Inv X pins σ H s):Inv X pins σ (upd (upd H s.heap.objs.size (.own (s.heap.objs.size+1))) (s.heap.objs.size+1) (.ins C s.heap.objs.size []))
  { s with heap:=(s.heap.push cB).push (cR C s.heap.objs.size) }:=by
 have e1:(s.heap.push cB).get? s.heap.objs.size=some cB:=bF s.heap rfl
 have e2:((s.heap.push cB).push (cR C s.heap.objs.size)).get? (s.heap.objs.size+1)=some (cR C s.heap.objs.size):=by
  have:=bF (s.heap.push cB) (o:=cR C s.heap.objs.size) rfl
  rwa [nT] at this
 have e3:(s.heap.push cB).Ns s.heap.objs.size (fun _=>none):=⟨cB,#[],_,e1,rfl,(fun e he=>absurd he (by simp)),fun _=>rfl⟩
 have I1:=I.laid (a:=s.heap.objs.size) (o:=.own (s.heap.objs.size+1)) (h':=s.heap.push cB) (t':=s.toks) (fun b u q=>aL _ q) (aQ _) ⟨_,e1⟩;refine I1.laid (a:=s.heap.objs.size+1) (o:=.ins C s.heap.objs.size []) (t':=s.toks) (fun b u q=>aL _ q) (lM (nT _ _)) ?_;have ne:s.heap.objs.size≠s.heap.objs.size+1:=bS (mP _);refine⟨by rw[zX ne,cF],cL _,ne,e2,fun _=>none,(Heap.Ns1.of_empty e3).at fun o q=>aL _ q,fun _=>True.intro,fun y hy=>absurd rfl hy⟩
theorem ZY{prog:Program}{w:World}{env:Env}{e:Expr}{f:Str}{pos:Pos}{s:Shared}{Q:Value->Shared->Prop}(hb:attributeBase e f env (eval e env)=eval e env)
  (h:wpAny (model prog w) A (eval e env) (fun o s₁=>wpAny (model prog w) A (getAttr o f true) Q E s₁) E s):wpAny (model prog w) A (eval (.Attribute e f pos) env) Q E s :=
 Attribute_any_ h (by rw[arm_eval_Attribute,hb])
end
noncomputable def tFld(K:aH)(ta:TE)(f:Str):TE:=fun σ H Q=>ta σ H fun x H1=>∃a C dx fs v,x=.ref a/\H1 a=some (.ins C dx fs)/\Cls K C/\gU K C f/\fs.lookup f=some v/\Q v H1
noncomputable def sFld(K:aH)(ta tv:TE)(f:Str):TS:=fun D σ H=>tv σ H fun y H1=>ta σ H1 fun x H2=>∃a C dx fs,x=.ref a/\H2 a=some (.ins C dx fs)/\Cls K C/\gU K C f/\fs.length<1000 ∧
 D.nx σ (upd H2 a (.ins C dx (putF f y fs)))
section
variable{X:Cx}{o e value:Expr}{f:Str}{pos pos' tpos:Pos}{ta tv:TE}
theorem pe_fld(he:PE X e ta)(hb:attributeBase e f X.env (eval e X.env)=eval e X.env):PE X (.Attribute e f pos) (tFld X.K ta f):=by
 intro pins s σ H Q I h;refine ZY hb (thn (he pins s σ H _ I h) fun u s1 ⟨x,H1,I1,rx,a,C,dx,fs,v,ex,ea,c,n,l,q⟩=>?_);subst ex;obtain rfl:u=Value.ref a:=rx;exact JZ I1 ea c n l fun u' s2 I2 ru=>⟨v,H1,I2,ru,q⟩
theorem ps_fld(ha:PE X o ta)(hv:PE X value tv)(hs:swapsWith value (some (.Attribute o f pos')) pos.line X.env=pure false):PS X (.Assign [.Attribute o f pos'] value pos) (sFld X.K ta tv f):=by
 intro pins s σ H D I h;refine plainObj_wpAny_Assign_Attribute (thn (hv pins s σ H _ I h) fun u s1 ⟨y,H1,I1,ry,q⟩=>thn (ha pins s1 σ H1 _ I1 q) fun ov s2 ⟨x,H2,I2,rx,a,C,dx,fs,ex,ea,c,n,l,q2⟩=>?_) hs;subst ex;obtain rfl:ov=Value.ref a:=rx;exact JA I2 ea c n l ry fun s3 I3=>⟨σ,_,I3,q2⟩
end
section
variable{X:Cx}{pins:List (Addr×Obj)}{σ : St}{H:Hp}{s:Shared}{A:Around}{E:Value->Shared->Prop}{Q:Value->Shared->Prop}{c:Value}{b:Bool}
inductive TyOf(K:aH)(H:Hp):V->Value->Prop where
 |non:TyOf K H .non (.type "NoneType")
 |bl (x:Bool):TyOf K H (.bl x) (.type "bool")
 |int (i:Int):TyOf K H (.int i) (.type "int")
 |str (x:Str):TyOf K H (.str x) (.type "str")
 |flt (x:UInt64):TyOf K H (.flt x) (.type "float")
 |lst {a:Addr} {xs:List V} (e:H a=some (.lst xs)):TyOf K H (.ref a) (.type "list")
 |frz {a:Addr} {o:Obj} {xs:List V} (e:H a=some (.frz o (.lst xs))):TyOf K H (.ref a) (.type "list")
 |tup {a:Addr} {xs:List V} (e:H a=some (.tup xs)):TyOf K H (.ref a) (.type "tuple")
 |dK {a:Addr} {kvs:List (Key×V)} (e:H a=some (.dK kvs)):TyOf K H (.ref a) (.type "dict")
 |dT {a:Addr} {kvs:List (List Key×V)} (e:H a=some (.dT kvs)):TyOf K H (.ref a) (.type "dict")
 |ins {a C dx:Addr} {fs:List (Str×V)} (e:H a=some (.ins C dx fs)) (cl:Cls K C) (ha:aR K (.ref C) "__class__" = some (some (.builtin "object.__class__")))
    (hn:PySem.W.specialIn K (.builtin "object.__class__") "__get__" = some (some (.builtin "getset_descriptor.__get__"))) (htk:PySem.W.takesIn K (.builtin "object.__class__")=some true)
    (hm:eU K C (.type "object")=some true):TyOf K H (.ref a) (.ref C)
theorem PD{x:V}{u t:Value}(I:Inv X pins σ H s)(rx:RelV x u)(ty:TyOf X.K H x t)(e:dZ X.K t c=some b)(h:∀tk,Q (.bool b) { s with toks:=tk }) :
  wpAny (model X.prog X.w) A (call (.builtin "isinstance") [u,c]) Q E s:=by
 cases ty with
 |non=>cases(show u=Value.none from rx);exact cA PySem.W.kitx_none I.kIn True.intro e (fun z=>nomatch z) h
 |bl y=>cases(show u=Value.bool y from rx);exact cA PySem.W.kitx_bool I.kIn True.intro e (fun z=>nomatch z) h
 |int i=>obtain⟨t,q⟩:=(show ∃t,u=Value.int i t from rx);cases q;exact cA PySem.W.kitx_int I.kIn True.intro e (fun z=>nomatch z) h
 |str y=>obtain⟨t,q⟩:=(show ∃t,u=Value.str y t from rx);cases q;exact cA PySem.W.kitx_str I.kIn True.intro e (fun z=>nomatch z) h
 |flt y=>obtain⟨t,q⟩:=(show ∃t,u=Value.float y t from rx);cases q;exact cA PySem.W.kitx_float I.kIn True.intro e (fun z=>nomatch z) h
 | @lst a xs ea =>
   cases(show u=Value.ref a from rx);obtain⟨_,_,n,_,h1⟩:=(show ObjOk X.prog X.w H s.heap a (.lst xs) from I.hok a _ ea)
   exact cA oV I.kIn ⟨_,h1,rfl⟩ e (fun z=>nomatch z) h
 | @frz a ob xs ea =>
   cases(show u=Value.ref a from rx);obtain⟨_,_,_,n,_,h1⟩:=(show ObjOk X.prog X.w H s.heap a (.frz ob (.lst xs)) from I.hok a _ ea)
   exact cA oV I.kIn ⟨_,h1,rfl⟩ e (fun z=>nomatch z) h
 | @tup a xs ea =>
   cases(show u=Value.ref a from rx);obtain⟨_,_,_,p⟩:=(show ObjOk X.prog X.w H s.heap a (.tup xs) from I.hok a _ ea)
   obtain⟨o,h1,h2,_⟩:=p;exact cA nW I.kIn ⟨o,h1,h2⟩ e (fun z=>nomatch z) h
 | @dK a kvs ea =>
   cases(show u=Value.ref a from rx);obtain⟨_,_,vs,_,p⟩:=(show ObjOk X.prog X.w H s.heap a (.dK kvs) from I.hok a _ ea)
   obtain⟨o,es,ep,h1,h2,_⟩:=p;exact cA IL I.kIn ⟨o,h1,h2.1⟩ e (fun z=>nomatch z) h
 | @dT a kvs ea =>
   cases(show u=Value.ref a from rx);obtain⟨_,_,xs,_,o,es,ep,h1,h2,_⟩:=(show ObjOk X.prog X.w H s.heap a (.dT kvs) from I.hok a _ ea)
   exact cA IL I.kIn ⟨o,h1,h2.1⟩ e (fun z=>nomatch z) h
 | @ins a C dx fs ea cl ha hn htk hm =>
   cases(show u=Value.ref a from rx);obtain⟨mA,O,_⟩:=uH I.hok ea;obtain⟨od,J,_⟩:=O.look;exact cA (PySem.W.kitx_own (cl.get _) cl.hd ha hn htk hm) I.kIn J e (fun z=>nomatch z) h
end
structure Room(k:Nat)(A:Around):Prop where
 hd:A.handled=none
 dp:A.depth+3*k+5<recursionLimit
 un:A.units+16*k+200<cLine
theorem Room.mono{j k:Nat}{A:Around}(r:Room k A)(h:j<=k):Room j A:=⟨r.hd,by have:=r.dp;omega,by have:=r.un;omega⟩
theorem Room.deeper{k:Nat}{A:Around}(r:Room (k+1) A)(env:Env):Room k (A.deeper env):=
 ⟨r.hd,by have:=r.dp;show A.depth+1+3*k+5<_;omega,by have:=r.un;show A.units+3+16*k+200<_;omega⟩
theorem JR{A:Around}{C:Addr}{us:List Value}{kw:List (Str×Value)}:(A.under (.builtin "type.__call__" ⟨.ref C::us,kw⟩)).depth=A.depth+1:=by
 first | rfl | simp[Around.under,Code.weight,Code.isCreation,Code.isGuard,Code.isCaller,Code.frames,Code.isFrame,guardIds]
theorem JQ{A:Around}{C:Addr}{us:List Value}{kw:List (Str×Value)}:(A.under (.builtin "type.__call__" ⟨.ref C::us,kw⟩)).units=A.units+1:=by
 first | rfl | simp[Around.under,Code.cUnits,Code.frames,Code.isFrame]
theorem Room.make{k:Nat}{A:Around}(r:Room (k+1) A)(C:Addr)(us:List Value)(kw:List (Str×Value)):Room k (A.under (.builtin "type.__call__" ⟨.ref C::us,kw⟩)):=
 ⟨r.hd,by have:=r.dp;rw[JR];omega,by have:=r.un;rw[JQ];omega⟩
theorem Room.depth{k:Nat}{A:Around}(r:Room k A):A.depth<recursionLimit:=by have:=r.dp;omega
theorem Room.units{k:Nat}{A:Around}(r:Room k A):A.units+64<cLine:=by have:=r.un;omega
noncomputable def tNil:TA:=fun _ H Q=>Q [] H
noncomputable def tCons(ta:TE)(tr:TA):TA:=fun σ H Q=>ta σ H fun x H1=>tr σ H1 fun xs H2=>Q (x::xs) H2
section
variable{X:Cx}{e:Expr}{es:List Expr}{te:TE}{t:TA}{pos:Pos}
theorem xB:PA X [] tNil:=fun _ _ _ _ H Q I h=>Calls.spliced_nil ⟨[],H,I,.nil,h⟩
theorem jS(ha:PE X e te)(hr:PA X es t)(hs:starEach (e::es) X.env=(false,eval e X.env)::starEach es X.env:=by rfl):PA X (e::es) (tCons te t):=by
 intro pos pins s σ H Q I h;rw[hs];show wpAny _ _ (spliced ((false,eval e X.env)::backTo pos (starEach es X.env))) _ _ s;refine Calls.spliced_cons (thn (ha pins s σ H _ I h) fun u s1 ⟨x,H1,I1,r1,q1⟩=>?_);exact thn (hr pos pins s1 σ H1 _ I1 q1) fun us s2 ⟨xs,H2,I2,r2,q2⟩=>⟨x::xs,H2,I2,.cons r1 r2,q2⟩
noncomputable def tTup(t:TA):TE:=fun σ H Q=>t σ H fun xs H1=>xs.length<=sizeLine/\∀p,H1 p=none->Q (.ref p) (upd H1 p (.tup xs))
noncomputable def tLst(t:TA):TE:=fun σ H Q=>t σ H fun xs H1=>xs.length<=sizeLine/\∀p,H1 p=none->Q (.ref p) (upd H1 p (.lst xs))
theorem JG{x1}(h:PA X es t):PE X (.Tuple es x1 pos) (tTup t):=by
 intro pins s σ H Q I hq;refine wpAny_Tuple_spliced (thn (h pos pins s σ H _ I hq) fun us s1 ⟨xs,H1,I1,r,z,q⟩=>⟨by rw[<- r.length];exact z,?_⟩);have hf:H1 s1.heap.objs.size=none:=I1.hok.fresh (aQ _);refine⟨.ref s1.heap.objs.size,upd H1 s1.heap.objs.size (.tup xs),I1.laid (t':=s1.toks) (fun b u e=>aL _ e) (aQ _) ?_,rfl,q _ hf⟩;exact⟨z,us,r,⟨_,bF _ rfl,rfl,_,rfl⟩⟩
theorem pe_lst(h:PA X es t):PE X (.List es pos) (tLst t):=by
 intro pins s σ H Q I hq;refine wpAny_List_spliced (thn (h pos pins s σ H _ I hq) fun us s1 ⟨xs,H1,I1,r,z,q⟩=>⟨by rw[<- r.length];exact z,?_⟩);have hf:H1 s1.heap.objs.size=none:=I1.hok.fresh (aQ _);refine⟨.ref s1.heap.objs.size,upd H1 s1.heap.objs.size (.lst xs),I1.laid (t':=s1.toks) (fun b u e=>aL _ e) (aQ _) ?_,rfl,q _ hf⟩;exact⟨z,us,0,r,bF _ rfl⟩
end
abbrev Sp:=List V->Hp->VK->XK->Prop
abbrev CXT:=List Env->Hp->Shared->XK->Value->Shared->Prop
structure Env0(P:Program)(w:World)(K:aH)(mg:Str->Option Value)(base:Heap)(A:Around)(outer:List Env)(s:Shared)(H:Hp):Prop where
 frames:A.frames=some outer
 mod:Mod K mg base
 bs:∀b o,base.get? b=some o->s.heap.get? b=some o/\H b=none
 bsz:Bsz K mg base s.heap H
 funs:s.heap.FunFrames base outer
 frf:∀b∈frs outer,H b=none
 hok:HOk P w H s.heap
 bare:AllBare s.gens
noncomputable def CE(outer:List Env)(P:Program)(w:World)(H:Hp)(s:Shared)(Q:VK)(u:Value)(s':Shared):Prop :=
 ∃v H',s'.os=s.os/\AllBare s'.gens/\Un (frs outer) [] H H' s.heap s'.heap/\HOk P w H' s'.heap/\RelV v u/\Q v H'
noncomputable def CR(CX:CXT)(outer:List Env)(P:Program)(w:World)(H:Hp)(s:Shared)(Q:VK)(E:XK)(r:Result)(s':Shared):Prop :=
 match r with
 | .ok (.ret u)=>CE outer P w H s Q u s'
 | .ok _=>False
 | .error e=>CX outer H s E e s'
structure FnOk(P:Program)(w:World)(K:aH)(mg:Str->Option Value)(base:Heap)(CX:CXT)(k:Nat)(f:Addr)(fd:FuncData)(ps:List Str)(sp:Sp):Prop where
 len:∀vs H Q E,sp vs H Q E->vs.length=ps.length
 run:∀(A:Around) (outer:List Env) (s:Shared) (H:Hp) (args:Args) (us:List Value) (vs:List V) (Q:VK) (E:XK),Room k A->Env0 P w K mg base A outer s H->BindsTo s fd args (ps.zip us)->Vals vs us->sp vs H Q E →
  codeAny (model P w) A (.call (.ref f) args) (CR CX outer P w H s Q E) s
theorem FnOk.mono{P:Program}{w:World}{K:aH}{mg:Str->Option Value}{base:Heap}{CX:CXT}{j k:Nat}{f:Addr}{fd:FuncData}{ps:List Str}{sp:Sp}(F:FnOk P w K mg base CX j f fd ps sp)(h:j<=k) :
  FnOk P w K mg base CX k f fd ps sp:=⟨F.len,fun A outer s H args us vs Q E hr=>F.run A outer s H args us vs Q E (hr.mono h)⟩
theorem FnOk.imp{P:Program}{w:World}{K:aH}{mg:Str->Option Value}{base:Heap}{CX:CXT}{k:Nat}{f:Addr}{fd:FuncData}{ps:List Str}{sp sp':Sp}(F:FnOk P w K mg base CX k f fd ps sp)
  (h:∀vs H Q E,sp' vs H Q E->sp vs H Q E):FnOk P w K mg base CX k f fd ps sp' :=
 ⟨fun vs H Q E q=>F.len vs H Q E (h _ _ _ _ q),fun A outer s H args us vs Q E hr he hb hv hs=>F.run A outer s H args us vs Q E hr he hb hv (h _ _ _ _ hs)⟩
theorem Env0.make{P:Program}{w:World}{K:aH}{mg:Str->Option Value}{base:Heap}{A:Around}{outer:List Env}{s:Shared}{H:Hp}(e:Env0 P w K mg base A outer s H)(C:Addr)(us:List Value)(kw:List (Str×Value)) :
  Env0 P w K mg base (A.under (.builtin "type.__call__" ⟨.ref C::us,kw⟩)) outer s H:=⟨by first | exact e.frames | (simpa[Around.under,Code.envs,Code.isFrame,pushEnvs] using e.frames),e.mod,e.bs,e.bsz,e.funs,e.frf,e.hok,e.bare⟩
section
variable{X:Cx}{pins:List (Addr×Obj)}{σ : St}{H:Hp}{s s':Shared}
theorem Inv.tabsH(I:Inv X pins σ H s):TabsK X.K X.mg X.base H:=⟨I.ok.bsz.2.bm,fun x c P hx ht=>⟨(I.ok.bsz.2.tab x c P hx ht).1,I.base.tbls _ _ (I.ok.bsz.2.tab x c P hx ht).2⟩⟩
theorem Inv.env0(I:Inv X pins σ H s):Env0 X.prog X.w X.K X.mg X.base X.A X.stack s H :=
 ⟨I.ok.frames,I.ok.mod,I.bs,⟨cM I.ok.bsz.1 I.sz,I.tabsH⟩,I.stack,I.stkFree,I.hok,I.bare⟩
theorem Inv.after{Q:VK}{u:Value}(I:Inv X pins σ H s)(h:CE X.stack X.prog X.w H s Q u s'):EP X pins σ Q u s':=by
 obtain⟨v,H',os,bare,un,hok,r,q⟩:=h;obtain⟨hh,g,d,t,os'⟩:=s';obtain rfl:os'=s.os:=os;exact⟨v,H',I.call (h':=hh) (g':=g) (d':=d) (t':=t) (ch:=[]) un hok bare (fun b z=>absurd z (by simp)),r,q⟩
end
noncomputable def tCall(sp:Sp)(dvs:List V)(E:XK)(t:TA):TE:=fun σ H Q=>t σ H fun vs H1=>sp (vs++dvs) H1 Q E
noncomputable def tMake(C:Addr)(sp:Sp)(dvs:List V)(E:XK)(t:TA):TE:=fun σ H Q=>t σ H fun vs H1=>∀x dx,H1 x=none->H1 dx=none->dx≠x →
 sp (.ref x::(vs++dvs)) (upd (upd H1 dx (.own x)) x (.ins C dx [])) (fun v H2=>v=.non/\Q (.ref x) H2) E
noncomputable def Binds(K:aH)(fd:FuncData)(ps:List Str)(ds:List Value):Prop :=
 ∀(s:Shared) (us:List Value),K.In s.heap->(us++ds).length=ps.length->BindsTo s fd ⟨us,[]⟩ (ps.zip (us++ds))
theorem Binds.all{K:aH}{fd:FuncData}{ps:List Str}(h:∀us:List Value,us.length=ps.length->bindArgs fd ⟨us,[]⟩=pure (ps.zip us)):Binds K fd ps []:=fun s us _ hl=>by
 rw[fG] at hl ⊢;exact .of_eq (h us hl)
noncomputable def mO(CX:CXT)(X:Cx)(E:XK):Prop:=∀(pins:List (Addr×Obj)) (σ : St) (H:Hp) (s:Shared) (e:Value) (s':Shared),Inv X pins σ H s->CX X.stack H s E e s'->X.xe e s'
section
variable{X:Cx}{CX:CXT}{k:Nat}{f C:Addr}{fd:FuncData}{ps:List Str}{sp:Sp}{dvs:List V}{ds:List Value}{E:XK}{x m:Str}{p pos apos:Pos}{e o:Expr}{es:List Expr}{ta:TE}{t:TA}
theorem SM{pins:List (Addr×Obj)}{σ : St}{H:Hp}{s:Shared}{Q:VK}{us:List Value}{vs:List V}(F:FnOk X.prog X.w X.K X.mg X.base CX k f fd ps sp)(hr:Room k X.A)(hb:Binds X.K fd ps ds)(hd:Vals dvs ds)(hx:mO CX X E)
  (I:Inv X pins σ H s) (r:Vals vs us) (h:sp (vs++dvs) H Q E):wpAny (model X.prog X.w) X.A (call (.ref f) us) (EP X pins σ Q) X.xe s:=by
 have r2:Vals (vs++dvs) (us++ds):=r.append hd;have hl:(us++ds).length=ps.length:=by rw[<- r2.length];exact F.len _ _ _ _ h
 refine wpAny_call (codeAny_mono (F.run X.A X.stack s H ⟨us,[]⟩ (us++ds) (vs++dvs) Q E hr I.env0 (hb s us I.kIn hl) r2 h) fun r s' hq=>?_);cases r with
 |error e=>exact hx pins σ H s e s' I hq
 | ok fl =>
   cases fl with
   |ret u=>exact I.after hq
   |next=>exact False.elim hq
   |brk=>exact False.elim hq
   |cont=>exact False.elim hq
theorem uB(F:FnOk X.prog X.w X.K X.mg X.base CX k f fd ps sp)(hr:Room k X.A)(hg:Gl X x)(hm:X.mg x=some (.ref f))(hk:bN X.K (.ref f)=true)(hb:Binds X.K fd ps ds)(hd:Vals dvs ds)(hx:mO CX X E)
  (ha:PA X (e::es) t) (hdb:(x==("__debug__" : Str))=false:=by decide) (he:starEach (e::es) X.env=(false,eval e X.env)::starEach es X.env:=by rfl) (hpl:(backTo pos (starEach es X.env)).any (·.1)=false:=by rfl) :
  PE X (.Call (.Name x p) (e::es) [] pos) (tCall sp dvs E t):=by
 intro pins s σ H Q I h;refine wpAny_Call_Name_kw (wG I hg hm ?_ hdb);refine nX (h₀:=X.base) I.ok.mod.kin hk (thn (ha pos pins s σ H _ I h) fun us s1 ⟨vs,H1,I1,r,q⟩=>⟨I1.kIn,?_⟩) he hpl;exact SM F hr hb hd hx I1 r q
structure Mk(K:aH)(C f:Addr):Prop where
 makes:fT K C=true
 init:aR K (.ref C) "__init__" = some (some (.ref f))
 fn:mG K (.ref f)=true
 kp:bN K (.ref C)=true
theorem SL{pins:List (Addr×Obj)}{σ : St}{H:Hp}{s:Shared}{Q:VK}{us:List Value}{vs:List V}(M:Mk X.K C f)(F:FnOk X.prog X.w X.K X.mg X.base CX k f fd ps sp)(hr:Room (k+1) X.A)(hb:Binds X.K fd ps ds)(hd:Vals dvs ds)
  (hx:mO CX X E) (I:Inv X pins σ H s) (r:Vals vs us)
  (h:∀x dx,H x=none->H dx=none->dx≠x->sp (.ref x::(vs++dvs)) (upd (upd H dx (.own x)) x (.ins C dx [])) (fun v H2=>v=.non/\Q (.ref x) H2) E) :
  wpAny (model X.prog X.w) X.A (call (.ref C) us) (EP X pins σ Q) X.xe s:=by
 have hq:=h (s.heap.objs.size+1) s.heap.objs.size (I.hok.fresh (Nat.le_succ _)) (I.hok.fresh (aQ _)) (bS (mP _));have I2:=Inv.made (C:=C) I;have r2:Vals (V.ref (s.heap.objs.size+1)::(vs++dvs)) (Value.ref (s.heap.objs.size+1)::(us++ds)):=.cons rfl (r.append hd)
 have hl:(Value.ref (s.heap.objs.size+1)::us++ds).length=ps.length:=by
  have e:=r2.length;rw[F.len _ _ _ _ hq] at e;exact e.symm
 refine wpAny_call (UU (f:=f) I.kIn M.makes M.init (beq_iff_eq.mp M.fn) (codeAny_mono (F.run _ X.stack _ _ ⟨Value.ref (s.heap.objs.size+1)::us,[]⟩ (Value.ref (s.heap.objs.size+1)::(us++ds)) _ _ E (hr.make C us [])
  (I2.env0.make C us []) (hb _ (Value.ref (s.heap.objs.size+1)::us) I2.kIn hl) r2 hq) fun r s' hq'=>?_))
 cases r with
 |error e=>exact hx pins σ _ _ e s' I2 hq'
 | ok fl =>
   cases fl with
   | ret u =>
     obtain⟨v,H',I3,rv,ev,q3⟩:=I2.after hq';subst ev;exact⟨rv,⟨V.ref (s.heap.objs.size+1),H',I3,rfl,q3⟩⟩
   |next=>exact False.elim hq'
   |brk=>exact False.elim hq'
   |cont=>exact False.elim hq'
theorem LT(M:Mk X.K C f)(F:FnOk X.prog X.w X.K X.mg X.base CX k f fd ps sp)(hr:Room (k+1) X.A)(hg:Gl X x)(hm:X.mg x=some (.ref C))(hb:Binds X.K fd ps ds)(hd:Vals dvs ds)(hx:mO CX X E)
  (ha:PA X (e::es) t) (hdb:(x==("__debug__" : Str))=false:=by decide) (he:starEach (e::es) X.env=(false,eval e X.env)::starEach es X.env:=by rfl) (hpl:(backTo pos (starEach es X.env)).any (·.1)=false:=by rfl) :
  PE X (.Call (.Name x p) (e::es) [] pos) (tMake C sp dvs E t):=by
 intro pins s σ H Q I h;refine wpAny_Call_Name_kw (wG I hg hm ?_ hdb);refine nX (h₀:=X.base) I.ok.mod.kin M.kp (thn (ha pos pins s σ H _ I h) fun us s1 ⟨vs,H1,I1,r,q⟩=>⟨I1.kIn,?_⟩) he hpl;exact SL M F hr hb hd hx I1 r q
end
section
variable{X:Cx}{CX:CXT}{k:Nat}{f C:Addr}{fd:FuncData}{ps ks:List Str}{sp:Sp}{E:XK}{x m:Str}{p pos apos kpos:Pos}{e o:Expr}{es:List Expr}{kws:List Keyword}{te ta:TE}{t tk:TA}{nm:Option Str}
variable{g:List Value->List Value->List Value}{gV:List V->List V->List V}
end
structure FnScope(N P:List Str)(sc:Scope):Prop where
 kind:sc.kind=.function:=by rfl
 co:sc.isCoroutine=false:=by rfl
 gen:sc.isGenerator=false:=by rfl
 nd:N.Nodup:=by decide +kernel
 pre:N.take P.length=P:=by rfl
 par:∀x∈P,sc.names.lookup x=some .local\/sc.names.lookup x=some .cell:=by decide +kernel
 nofree:∀y∈sc.names,y.2≠.free:=by decide +kernel
theorem DH{kindOf:Str->Option NameKind}{x:Str}:∀{binds:List (Str×Value)} {m:Str->Option Value},(∀v,(x,v)∉binds)->bindL kindOf binds m x=m x
 |[],_,_=>rfl
 | (n, v) :: r, m, h => by
   unfold bindL;rw[DH fun w hw=>h w (aI _ hw)]
   split
   . have : x ≠ n := by rintro rfl; exact h v aP
     simp[this]
   . rfl
theorem DJ{kindOf:Str->Option NameKind}{x:Str}:∀{binds:List (Str×Value)} {m:Str->Option Value},(∀v,(x,v)∉binds)->bindC kindOf binds m x=m x
 |[],_,_=>rfl
 | (n, v) :: r, m, h => by
   unfold bindC;rw[DJ fun w hw=>h w (aI _ hw)]
   split
   . rfl
   . have : x ≠ n := by rintro rfl; exact h v aP
     simp[this]
theorem DI{kindOf:Str->Option NameKind}{x:Str}{v:Value}:∀{P:List Str} {vs:List Value} {i:Nat} {m:Str->Option Value},P.Nodup->P[i]?=some x->vs[i]?=some v->kindOf x=some .local →
  bindL kindOf (P.zip vs) m x=some v
 |[],_,_,_,_,h,_,_=>by simp at h
 |_::_,[],_,_,_,_,h,_=>by simp at h
 | p :: P, w :: vs, 0, m, nd, h1, h2, hk => by
   simp at h1 h2;subst h1;subst h2;show bindL kindOf ((p,w)::P.zip vs) m p=_;unfold bindL;rw[DH fun v hv=>(mW.mp nd).1 (uK hv).1,if_pos hk];simp
 | p :: P, w :: vs, i + 1, m, nd, h1, h2, hk => by
   show bindL kindOf ((p,w)::P.zip vs) m x=_;unfold bindL;exact DI (i:=i) (mW.mp nd).2 (by simpa using h1) (by simpa using h2) hk
theorem DK{kindOf:Str->Option NameKind}{x:Str}{v:Value}:∀{P:List Str} {vs:List Value} {i:Nat} {m:Str->Option Value},P.Nodup->P[i]?=some x->vs[i]?=some v->kindOf x≠some .local →
  bindC kindOf (P.zip vs) m x=some v
 |[],_,_,_,_,h,_,_=>by simp at h
 |_::_,[],_,_,_,_,h,_=>by simp at h
 | p :: P, w :: vs, 0, m, nd, h1, h2, hk => by
   simp at h1 h2;subst h1;subst h2;show bindC kindOf ((p,w)::P.zip vs) m p=_;unfold bindC;rw[DJ fun v hv=>(mW.mp nd).1 (uK hv).1,if_neg hk];simp
 | p :: P, w :: vs, i + 1, m, nd, h1, h2, hk => by
   show bindC kindOf ((p,w)::P.zip vs) m x=_;unfold bindC;exact DK (i:=i) (mW.mp nd).2 (by simpa using h1) (by simpa using h2) hk
noncomputable def start(N:List Str)(vs:List V):St:=vs.map some++List.replicate (N.length-vs.length) none
noncomputable def cxOf(CX:CXT)(P:Program)(w:World)(K:aH)(mg:Str->Option Value)(base:Heap)(N:List Str)(qual:Str)(scope:Scope)(f:Addr)(cd:Value)(A:Around)(outer:List Env)(s:Shared)(H:Hp)(E:XK):Cx where
 prog:=P
 w:=w
 K:=K
 mg:=mg
 base:=base
 A:=A.deeper (envOfC qual scope s.heap.objs.size f cd)
 N:=N
 s₀:=s
 H₀:=H
 env:=envOfC qual scope s.heap.objs.size f cd
 outer:=outer
 stack:=envOfC qual scope s.heap.objs.size f cd::outer
 ex:=[]
 calm:=true
 fn:=fun _=>true
 pn:=[]
 xe:=fun e s'=>wpAny (model P w) (A.deeper (envOfC qual scope s.heap.objs.size f cd)) (leaving (envOfC qual scope s.heap.objs.size f cd) e) (fun _ s''=>CX outer H s E e s'') (fun e' s''=>CX outer H s E e' s'') s'
theorem HX{sc:Scope}{n:Nat}{x:Str}(h:sc.names.lookup x=some .cell):∃c,(cellsFrom n sc.names []).lookup x=some c:=by
 have q:=BZ sc.names n [] (.inl h);exact BI.mp q
theorem PK{CX:CXT}{P:Program}{w:World}{K:aH}{mg:Str->Option Value}{base:Heap}{N ps:List Str}{qual:Str}{scope:Scope}{f:Addr}{cd:Value}{A:Around}{outer:List Env}{s s1:Shared}{H:Hp}{E:XK}{us:List Value}{vs:List V}
  (S:FnScope N ps scope) (hd:A.handled=none) (e0:Env0 P w K mg base A outer s H) (hl:vs.length=ps.length) (r:Vals vs us)
  (x:InCallC s s.heap.objs.size (bindL (envOfC qual scope s.heap.objs.size f cd).kindOf (ps.zip us) fun _=>none) (cellsFrom (s.heap.objs.size+1) scope.names []) (bindC (envOfC qual scope s.heap.objs.size f cd).kindOf (ps.zip us) fun _=>none) s1) :
  Inv (cxOf CX P w K mg base N qual scope f cd A outer s H E) [] (start N vs) H s1:=by
 have hpl:ps.length<=N.length:=by have:=congrArg List.length S.pre;rw[RK] at this;omega
 obtain⟨h1,tk,rfl,hk⟩:=x.done;have noA:∀b:Addr,b∉(cxOf CX P w K mg base N qual scope f cd A outer s H E).ex:=fun b z=>absurd (show b∈([]:List Addr) from z) (by simp)
 refine⟨⟨e0.mod,S.kind,rfl,rfl,aQ _,fun y z c h1 h2=>?_,fun y hy=>?_,fun y c _ h=>?_,fun _=>hd,Around.frames_deeper e0.frames,.inr ⟨rfl,rfl⟩,fun b z=>absurd z (noA b),e0.bs,e0.bsz,fun b _ _=>noA b,fun b z=>absurd z (noA b),e0.funs,e0.frf⟩,
  rfl,e0.bare,Un.kept hk,⟨_,x.toInCall.ns,fun i y v h1 h2 h3=>?_⟩,fun y c h=>⟨_,x.cell y c h⟩,e0.hok.fresh (aQ _),fun y c h=>?_,fun p hp=>absurd (show p∈([]:List (Addr×Obj)) from hp) (by simp),e0.hok.kept hk,?_⟩
 . exact name_of_addr x.apart (fN h1) (fN h2)
 . have hy : scope.names.lookup y = some .cell \/ scope.names.lookup y = some .free := hy;rcases hy with hy | hy
   . exact HX hy
   . exact absurd rfl (S.nofree _ (fN hy))
 . exact IE (x.above y c (fN h))
 . have hi:i<vs.length:=by
    unfold start at h2
    by_cases hi:i<vs.length
    . exact hi
    . rw [dP (by simpa using hi)] at h2;rw [fP] at h2
      split at h2<;>cases h2
   have ha:vs[i]?=some v:=by
    unfold start at h2;rw[cQ (by simpa using hi),bV] at h2;cases e:vs[i]? with
    |none=>rw[e] at h2;cases h2
    |some a=>rw[e] at h2;cases h2;rfl
   obtain⟨u,hu,rv⟩:=r.get ha
   have hp:ps[i]?=some y:=by
    rw[<- S.pre,List.getElem?_take_of_lt (by omega)];exact h1
   have ndP:ps.Nodup:=by rw[<- S.pre];exact S.nd.sublist (List.take_sublist _ _)
   refine⟨u,rv,?_⟩;rcases S.par y (nR hp) with k | k
   . exact .inl ⟨k,DI ndP hp hu k⟩
   . obtain⟨c, e⟩ := HX (n := s.heap.objs.size + 1) k;refine .inr ⟨.inl k,c,e,?_⟩;have q:=x.cell y c e;rw[DK ndP hp hu (by show scope.names.lookup y≠_;rw[k];decide)] at q;exact q
 . exact .inl (e0.hok.fresh (IE (x.above y c (fN h))))
 . unfold start;show _=N.length;rw[bO,dC,List.length_replicate];omega
theorem fn_of{CX:CXT}{P:Program}{w:World}{K:aH}{mg:Str->Option Value}{base:Heap}{k:Nat}{f:Addr}{name qual:Str}{params:Arguments}{body:List Stmt}{scope:Scope}{dV kV doc pm cdv ct oc:Value}{an od:Option Addr}
  {osl:Array (Option Value)} {N ps:List Str} {sp:Sp} (lk:K.lookup f=some ⟨oc,od,.func (eQ name qual params body scope dV kV doc pm an cdv ct),osl⟩) (hcd:gF K cdv qual=true) (S:FnScope N ps scope)
  (len:∀vs H Q E,sp vs H Q E->vs.length=ps.length)
  (hbody:∀(A:Around) (outer:List Env) (s:Shared) (H:Hp) (vs:List V) (Q:VK) (E:XK),Room k (A.deeper (envOfC qual scope s.heap.objs.size f cdv))->sp vs H Q E →
    ∃t,PSs (cxOf CX P w K mg base N qual scope f cdv A outer s H E) body t/\t { nx:=fun _ H'=>Q .non H',rt:=Q } (start N vs) H) :
  FnOk P w K mg base CX (k+1) f (eQ name qual params body scope dV kV doc pm an cdv ct) ps sp:=by
 refine⟨len,fun A outer s H args us vs Q E hr e0 hb r hsp=>?_⟩;have hl:=len _ _ _ _ hsp;have KX:K.In s.heap:=e0.mod.kin.keeps fun b o e=>(e0.bs b o e).1;have lim:s.heap.NoLimit:=e0.mod.nolimit.keeps fun b o e=>(e0.bs b o e).1
 have hkind:∀y∈ps.zip us,scope.names.lookup y.1=some .local\/(scope.names.lookup y.1=some .cell/\((cellsFrom (s.heap.objs.size+1) scope.names []).lookup y.1).isSome=true):=fun⟨n,v⟩ hy=>by
  rcases S.par n (uK hy).1 with q | q
  . exact .inl q
  . exact .inr ⟨q,BZ _ _ _ (.inl q)⟩
 refine codeAny_call_function hr.depth (KX _ _ lk) rfl S.co S.gen rfl (PySem.W.codeRec_of KX hcd) (hb _ _ _ _ ?_);refine wpAny_newFunctionEnv_cells S.kind hkind fun env he s1 x=>?_;subst he;refine⟨lim.keeps x.toInCall.keep,codeAny_func ?_⟩;obtain⟨t,ht,hq⟩:=hbody A outer s H vs Q E (hr.deeper _) hsp;have I:Inv (cxOf CX P w K mg base N qual scope f cdv A outer s H E) [] (start N vs) H s1:=PK S hr.hd e0 hl r x;refine wpAny_mono (ht [] s1 (start N vs) H _ I hq) (fun fl s' hs=>?_) fun e s' hs=>hs
 have fin:∀{σ':St} {H':Hp} {v:V} {u:Value},Inv (cxOf CX P w K mg base N qual scope f cdv A outer s H E) [] σ' H' s'->RelV v u->Q v H'->CE outer P w H s Q u s' :=
  fun {σ' H' v u} J rv q=>⟨v,H',J.os,J.bare,J.base,J.hok,rv,q⟩
 cases fl with
 | ret u =>
   obtain⟨v,σ',H',J,rv,q⟩:=hs;exact fin J rv q
 | next =>
   obtain⟨σ',H',J,q⟩:=hs;exact fin (v:=V.non) (u:=Value.none) J rfl q
 | brk =>
   obtain⟨_,_,_,q⟩:=hs;exact False.elim q
 | cont =>
   obtain⟨_,_,_,q⟩:=hs;exact False.elim q
section
variable{X:Cx}{x:Str}{p pos:Pos}{e:Expr}{es:List Expr}{t:TA}{id T:String}{r:List V->Hp->VK->Prop}
noncomputable def tCB(r:List V->Hp->VK->Prop)(t:TA):TE:=fun σ H Q=>t σ H fun vs H1=>r vs H1 Q
theorem AD(hc:CallR X (.builtin id) r)(hg:Gl X x)(hm:X.mg x=none)(hv:bootBuiltins x=some (.builtin id))(ha:PA X (e::es) t)(hn:x≠"__name__":=by decide)(hdb:(x==("__debug__" : Str))=false:=by decide)
  (he:starEach (e::es) X.env=(false,eval e X.env)::starEach es X.env:=by rfl) (hpl:(backTo pos (starEach es X.env)).any (·.1)=false:=by rfl):PE X (.Call (.Name x p) (e::es) [] pos) (tCB r t):=by
 intro pins s σ H Q I h;refine wpAny_Call_Name_kw (AK I hg hm hv ?_ hn hdb);exact PyProof.Rows.callWith_builtin1 (thn (ha pos pins s σ H _ I h) fun us s1 ⟨vs,H1,I1,r1,q1⟩=>hc pins s1 σ H1 vs us Q I1 r1 q1) he hpl
theorem rL(hc:CallR X (.type T) r)(hg:Gl X x)(hm:X.mg x=none)(hv:bootBuiltins x=some (.type T))(ha:PA X (e::es) t)(hn:x≠"__name__":=by decide)(hdb:(x==("__debug__" : Str))=false:=by decide)
  (he:starEach (e::es) X.env=(false,eval e X.env)::starEach es X.env:=by rfl) (hpl:(backTo pos (starEach es X.env)).any (·.1)=false:=by rfl):PE X (.Call (.Name x p) (e::es) [] pos) (tCB r t):=by
 intro pins s σ H Q I h;refine wpAny_Call_Name_kw (AK I hg hm hv ?_ hn hdb);exact iW (thn (ha pos pins s σ H _ I h) fun us s1 ⟨vs,H1,I1,r1,q1⟩=>hc pins s1 σ H1 vs us Q I1 r1 q1) he hpl
end
end L2
namespace HT
open PySem PyProof.Rows
section
open PySem.SeqAt
open PySem.AutoSeq1 (wpAny_loadPart')
open PySem.MeetsSeq PySem.MeetsSeq2 PySem.MeetsSeq3
end
section
variable{prog:Program}{w:World}{A:Around}{E:Value->Shared->Prop}{s:Shared}
end
end HT
namespace L2
open PySem PySem.Spec PyProof.Rows
abbrev TO:=St->Hp->(Option Int->Hp->Prop)->Prop
noncomputable def PO(X:Cx)(e:Option Expr)(t:TO):Prop :=
 ∀(pins:List (Addr×Obj)) (s:Shared) (σ : St) (H:Hp) (Q:Option Int->Hp->Prop),Inv X pins σ H s->t σ H Q →
  wpAny (model X.prog X.w) X.A (evalPart e X.env) (fun u s'=>∃o H',Inv X pins σ H' s'/\IsPart u o/\Q o H') X.xe s
noncomputable def XL:TO:=fun _ H Q=>Q none H
noncomputable def tPart(t:TE):TO:=fun σ H Q=>t σ H fun x H1=>∃i,x=.int i/\Q (some i) H1
section
variable{X:Cx}{e:Expr}{te:TE}{lo hi:Option Expr}{tl th:TO}{pos p2:Pos}
theorem YK:PO X none XL:=by
 intro pins s σ H Q I h;rw[evalPart_none];exact wpAny_pure ⟨none,H,I,.none,h⟩
theorem YJ(h:PE X e te):PO X (some e) (tPart te):=by
 intro pins s σ H Q I hw;rw[evalPart_some];refine thn (h pins s σ H _ I hw) fun u s1 ⟨x,H1,I1,r1,q1⟩=>?_;obtain⟨i,rfl,q⟩:=q1;obtain⟨t,rfl⟩:=r1;exact⟨some i,H1,I1,.int i t,q⟩
noncomputable def SlR(X:Cx)(r:V->Option Int->Option Int->Hp->VK->Prop):Prop :=
 ∀(pins:List (Addr×Obj)) (s:Shared) (σ : St) (H:Hp) (x:V) (v vl vu:Value) (lo hi:Option Int) (sl:Addr) (Q:VK),Inv X pins σ H s->RelV x v->s.heap.IsSliceOf sl vl vu .none->IsPart vl lo->IsPart vu hi->r x lo hi H Q →
  ∃T id,typeLookup (.type T) "__getitem__" = pure (some (.builtin id))/\s.TypeIs v T/\wpAny (model X.prog X.w) X.A (getItem v (.ref sl)) (EP X pins σ Q) X.xe s
noncomputable def tSl(r:V->Option Int->Option Int->Hp->VK->Prop)(te:TE)(tl th:TO):TE:=fun σ H Q=>te σ H fun x H1=>tl σ H1 fun l H2=>th σ H2 fun u H3=>r x l u H3 Q
theorem GR{r:V->Option Int->Option Int->Hp->VK->Prop}(hr:SlR X r)(he:PE X e te)(hl:PO X lo tl)(hu:PO X hi th):PE X (.Subscript e (.Slice lo hi none p2) pos) (tSl r te tl th):=by
 intro pins s σ H Q I h;refine Subscript_ (thn (he pins s σ H _ I h) fun v s1 ⟨x,H1,I1,r1,q1⟩=>?_);refine wpAny_Slice (thn (hl pins s1 σ H1 _ I1 q1) fun vl s2 ⟨l,H2,I2,pl,q2⟩=>thn (hu pins s2 σ H2 _ I2 q2) fun vu s3 ⟨u,H3,I3,pu,q3⟩=>?_);rw[evalPart_none];refine wpAny_pure ?_;have I4:Inv X pins σ H3 { s3 with heap:=s3.heap.push { cls:=.type "slice",data:=.fields #[vl,vu,.none] } }:=I3.kept (t':=s3.toks) fun b ob q=>aL _ q;obtain⟨T,id,hT,ht,hg⟩:=hr pins { s3 with heap:=s3.heap.push { cls:=.type "slice",data:=.fields #[vl,vu,.none] } } σ H3 x v vl vu l u s3.heap.objs.size Q I4 r1 (uM ..) pl pu q3;show wpAny (model X.prog X.w) X.A (subscriptTail e (.Slice lo hi none p2) v (.ref s3.heap.objs.size)) (EP X pins σ Q) X.xe { s3 with heap:=s3.heap.push { cls:=.type "slice",data:=.fields #[vl,vu,.none] } };exact tail_any (ops:=[.ref s3.heap.objs.size,v]) ht hT hg (by with_unfolding_all rfl)
noncomputable def cutV(xs:List V)(lo hi:Option Int):List V:=(xs.drop (HT.sIx xs.length 0 lo)).take (HT.sIx xs.length xs.length hi-HT.sIx xs.length 0 lo)
theorem HV(xs:List V)(lo hi:Option Int):(cutV xs lo hi).length<=xs.length:=by
 unfold cutV;rw[RK,RL];omega
end
theorem ML{n:Nat}{i:Int}{j:Nat}(h:ixN n i=some j):seqIndex? i n=some j/\j<n/\-(n:Int)<=i/\i<n:=by
 unfold ixN at h
 by_cases h0:0<=i
 . rw [if_pos h0] at h
   by_cases h1:i<n
   . rw[if_pos h1] at h;have e:i.toNat=j:=Option.some.inj h;exact⟨by rw[seqIndex_of h0 h1,e],by omega,by omega,h1⟩
   . rw[if_neg h1] at h;cases h
 . rw [if_neg h0] at h
   by_cases h1 : -(n:Int)<=i
   . rw[if_pos h1] at h;have e:(i+n).toNat=j:=Option.some.inj h;exact⟨by rw[seqIndex_neg (by omega) h1,e],by omega,h1,by omega⟩
   . rw[if_neg h1] at h;cases h
theorem FK{α : Type}{xs:List α}{i:Int}{v : α}(h:atI xs i=some v):∃j,seqIndex? i xs.length=some j/\xs[j]?=some v/\j<xs.length/\-(xs.length:Int)<=i/\i<xs.length:=by
 unfold atI at h;cases e:ixN xs.length i with
 |none=>rw[e] at h;cases h
 | some j =>
   rw[e] at h;obtain⟨h1,h2,h3,h4⟩:=ML e;exact⟨j,h1,h,h2,h3,h4⟩
noncomputable def NC(b:Expr):Prop:=∀o i,subscripted b false o i=operate [o,i] (getItem o i)
noncomputable def IxR(X:Cx)(r:R2):Prop :=
 ∀(value slice:Expr) (pins:List (Addr×Obj)) (s:Shared) (σ : St) (H:Hp) (x y:V) (v u:Value) (Q:VK),Inv X pins σ H s->RelV x v->RelV y u->r x y H Q →
  subscripted slice false v u=operate [v,u] (getItem v u)->wpAny (model X.prog X.w) X.A (subscriptTail value slice v u) (EP X pins σ Q) X.xe s
noncomputable def MtR(X:Cx)(id:String)(r:V->List V->Hp->VK->Prop):Prop :=
 ∀(pins:List (Addr×Obj)) (s:Shared) (σ : St) (H:Hp) (x:V) (xs:List V) (v:Value) (us:List Value) (Q:VK),Inv X pins σ H s->RelV x v->Vals xs us->r x xs H Q →
  wpAny (model X.prog X.w) X.A (call (.builtin id) (v::us)) (EP X pins σ Q) X.xe s
section
variable{X:Cx}{a b:Expr}{ta tb:TE}{pos:Pos}
theorem IxR.or{r r':R2}(h:IxR X r)(h':IxR X r'):IxR X (fun x y H Q=>r x y H Q\/r' x y H Q):=by
 intro value slice pins s σ H x y v u Q I rx ry q hs;rcases q with q | q
 . exact h value slice pins s σ H x y v u Q I rx ry q hs
 . exact h' value slice pins s σ H x y v u Q I rx ry q hs
theorem pe_ix{r:R2}(hr:IxR X r)(ha:PE X a ta)(hb:PE X b tb)(hs:NC b):PE X (.Subscript a b pos) (tOp r ta tb):=by
 intro pins s σ H Q I h;exact Subscript_ (binT ha hb I h fun v u s2 x y H2 I2 rx ry q=>hr a b pins s2 σ H2 x y v u Q I2 rx ry q (hs _ _))
noncomputable def rIxL(K:aH):R2:=fun x y H Q=>∃p xs i v,x=.ref p/\y=.int i/\SqL K H p xs/\atI xs i=some v/\Q v H
noncomputable def rIxT(K:aH):R2:=fun x y H Q=>∃p xs i v,x=.ref p/\y=.int i/\SqT K H p xs/\atI xs i=some v/\Q v H
noncomputable def rIxS:R2:=fun x y H Q=>∃z i c,x=.str z/\y=.int i/\z.length<=sizeLine/\atI z.cps.toList i=some c/\Q (.str ⟨#[c]⟩) H
theorem ZM:IxR X (rIxL X.K):=by
 intro value slice pins s σ H x y v u Q I rx ry h hs;obtain⟨p,xs,i,z,rfl,rfl,hq,he,q⟩:=h;cases rx;obtain⟨t,rfl⟩:=ry;obtain⟨its,r,pl,hz⟩:=I.list hq;obtain⟨j,h1,h2,h3,h4,h5⟩:=FK he;obtain⟨w,ew,rw'⟩:=r.get h2;have hl:=r.length;have hn:=oK;have fin:EP X pins σ Q w s:=⟨z,H,I,rw',q⟩
 by_cases h0:0<=i
 . have hj:i.toNat=j:=by
    rw[seqIndex_of h0 h5] at h1;exact Option.some.inj h1
   exact item_listR pl.isList h0 (by omega) (by rw[hj];simpa using ew) fin hs
 . have hj:(i+(its.toArray.size:Int)).toNat=j:=by
    rw[seqIndex_neg (by omega) h4] at h1;rw[aX,<- hl];exact Option.some.inj h1
   exact subscriptTail_builtinR (x:=w) pl.isList.typeIs slot_list_getitem.lookup
    (wpAny_getItem_list_neg (Q:=fun r s'=>r=w/\EP X pins σ Q r s') pl.isList (by omega) (by rw[aX]<;>omega) (by omega) (by rw[hj];simpa using ew) ⟨rfl,fin⟩) hs
theorem ix_tup:IxR X (rIxT X.K):=by
 intro value slice pins s σ H x y v u Q I rx ry h hs;obtain⟨p,xs,i,z,rfl,rfl,hq,he,q⟩:=h;cases rx;obtain⟨t,rfl⟩:=ry;obtain⟨its,r,pl,hz⟩:=I.tuple hq;obtain⟨j,h1,h2,h3,h4,h5⟩:=FK he;obtain⟨w,ew,rw'⟩:=r.get h2;have hl:=r.length;have hn:=oK;have fin:EP X pins σ Q w s:=⟨z,H,I,rw',q⟩
 exact subscriptTail_builtinR (x:=w) pl.typeIs slot_tuple_getitem.lookup
  (getItem_tuple (j:=j) (Q:=fun r s'=>r=w/\EP X pins σ Q r s') pl (by omega) (by omega) (by rw[aX,<- hl];exact h1) (by simpa using ew) ⟨rfl,fin⟩) hs
theorem ix_str:IxR X rIxS:=by
 intro value slice pins s σ H x y v u Q I rx ry h hs;obtain⟨z,i,c,rfl,rfl,hz,he,q⟩:=h;obtain⟨t,rfl⟩:=rx;obtain⟨t',rfl⟩:=ry;obtain⟨j,h1,h2,h3,h4,h5⟩:=FK he;have hl:z.cps.toList.length=z.length:=by simp[Str.length]
 rw[hl] at h1 h4 h5;have hn:=oK
 exact tail_any (typeIs_str s z t) slot_str_getitem.lookup (getItem_str (c:=c) (by
  have e1:decide (i < -(2 ^ 63:Int))=false:=decide_eq_false (by omega);have e2:decide (i≥2 ^ 63)=false:=decide_eq_false (by omega)
  rw[e1,e2,Bool.or_false]) (by rw[h1];simpa using h2) ⟨.str ⟨#[c]⟩,H,I.tok _,⟨_,rfl⟩,q⟩) hs
noncomputable def rIx(K:aH):R2:=fun x y H Q=>rIxL K x y H Q\/rIxT K x y H Q\/rIxS x y H Q
theorem ix_seq:IxR X (rIx X.K):=ZM.or (ix_tup.or ix_str)
theorem JP(its:List Value)(n j:Nat)(u:Value):Obj.mapSeq (·.setIfInBounds j u) { cls:=.type "list",data:=.seq its.toArray n }={ cls:=.type "list",data:=.seq (its.set j u).toArray n }:=by
 simp[Obj.mapSeq]
theorem Inv.lst{pins:List (Addr×Obj)}{σ : St}{H:Hp}{s:Shared}{p:Addr}{xs:List V}(I:Inv X pins σ H s)(h:H p=some (.lst xs)) :
  ∃(its:List Value) (n:Nat),Vals xs its/\s.heap.get? p=some { cls:=.type "list",data:=.seq its.toArray n }/\xs.length<=sizeLine:=by
 obtain⟨z,its,n,r,e⟩:=I.hok p _ h;exact⟨its,n,r,e,z⟩
theorem Inv.lstUpd{pins:List (Addr×Obj)}{σ : St}{H:Hp}{s:Shared}{p:Addr}{xs ys:List V}{its its':List Value}{n n':Nat}{f:Obj->Obj}(I:Inv X pins σ H s)(h:H p=some (.lst xs))
  (ho:s.heap.get? p=some { cls:=.type "list",data:=.seq its.toArray n }) (hf:f { cls:=.type "list",data:=.seq its.toArray n }={ cls:=.type "list",data:=.seq its'.toArray n' }) (r:Vals ys its') (hz:ys.length<=sizeLine) (t:Nat) :
  Inv X pins σ (upd H p (.lst ys)) { s with heap:=s.heap.update p f,toks:=t }:=by
 have e:(s.heap.update p f).get? p=some { cls:=.type "list",data:=.seq its'.toArray n' }:=by
  rw[nB f ho (by rw[hf]<;>rfl),hf]
 refine I.write (x:=p) (e:=p) (by rw[h];trivial) (.inl rfl) (fun b u hb q=>(dQ _ _ (Ne.symm hb)).trans q) ⟨_,e⟩ ?_;exact⟨hz,its',n',r,e⟩
noncomputable def rSetL:V->V->V->Hp->(Hp->Prop)->Prop:=fun o i v H Q=>∃p xs k j,o=.ref p/\i=.int k/\H p=some (.lst xs)/\ixN xs.length k=some j/\Q (upd H p (.lst (xs.set j v)))
theorem SJ:PSet X rSetL:=by
 intro pins s σ H o i v ov iv u Q I ro ri rv h;obtain⟨p,xs,k,j,rfl,rfl,hp,hj,q⟩:=h;cases ro;obtain⟨t,rfl⟩:=ri;obtain⟨its,n,r,ho,hz⟩:=I.lst hp;obtain⟨h1,h2,h3,h4⟩:=ML hj;have hl:=r.length;have hn:=oK
 have I':Inv X pins σ (upd H p (.lst (xs.set j v))) { s with heap:=s.heap.update p (Obj.mapSeq (·.setIfInBounds j u)) }:=
  I.lstUpd hp ho (JP its n j u) (r.set rv j) (by rw[List.length_set];exact hz) s.toks
 by_cases h0:0<=k
 . have hk:k.toNat=j:=by
    rw[seqIndex_of h0 h4] at h1;exact Option.some.inj h1
   exact PySem.W.ki_setAt ho h0 (by omega) (by rw[aX,<- hl];exact h4) (by rw[hk];exact⟨_,I',q⟩)
 . have hk:(k+(its.toArray.size:Int)).toNat=j:=by
    rw[seqIndex_neg (by omega) h3] at h1;rw[aX,<- hl];exact Option.some.inj h1
   exact PySem.W.ki_setBack ho (by omega) (by rw[aX,<- hl];exact h3) (by omega) (by rw[hk];exact⟨_,I',q⟩)
theorem DT(lo hi:Option Int)(n:Nat):(sliceBounds lo hi none n).1=((HT.sIx n 0 lo:Nat):Int)/\(sliceBounds lo hi none n).2.1=((HT.sIx n n hi:Nat):Int)/\(sliceBounds lo hi none n).2.2=1:=by
 refine⟨?_,?_,rfl⟩
 . cases lo with
   |none=>simp[sliceBounds,HT.sIx]
   | some i =>
     simp only[sliceBounds,HT.sIx,NE,show(1:Int)>0 by decide,if_true]
     by_cases h:i<0
     . simp only[h,if_true]<;>omega
     . simp only[h,if_false]<;>omega
 . cases hi with
   |none=>simp[sliceBounds,HT.sIx]
   | some i =>
     simp only[sliceBounds,HT.sIx,NE,show(1:Int)>0 by decide,if_true]
     by_cases h:i<0
     . simp only[h,if_true]<;>omega
     . simp only[h,if_false]<;>omega
theorem BK(its:List Value)(lo hi:Option Int):slicePick its.toArray lo hi none=((its.drop (HT.sIx its.length 0 lo)).take (HT.sIx its.length its.length hi-HT.sIx its.length 0 lo)).toArray:=by
 obtain⟨h1,h2,h3⟩:=DT lo hi its.toArray.size;unfold slicePick;rw[h1,h2,h3];simp only[sliceRange_one,pick_run,aX]<;>rfl
noncomputable def rSlL(K:aH):V->Option Int->Option Int->Hp->VK->Prop:=fun x lo hi H Q=>∃a xs,x=.ref a/\SqL K H a xs/\∀p,H p=none->Q (.ref p) (upd H p (.lst (cutV xs lo hi)))
theorem XQ:SlR X (rSlL X.K):=by
 intro pins s σ H x v vl vu lo hi sl Q I rx hs pl pu h;obtain⟨a,xs,rfl,hx,q⟩:=h;cases rx;obtain⟨its,r,ht,hz⟩:=I.list hx;have hlen:=r.length;refine⟨"list",_,slot_list_getitem.lookup,ht.isList.typeIs,?_⟩;refine wpAny_getItem_list_slice ht.isList hs pl pu .none (by simp) ?_ (by rw[aX]<;>omega);rw[BK,<- hlen];refine⟨.ref s.heap.objs.size,_,I.laid (t':=s.toks) (o:=.lst (cutV xs lo hi)) (fun b ob q=>aL _ q) (aQ _) ?_,rfl,q _ (I.hok.fresh (aQ _))⟩;exact⟨cM (HV xs lo hi) hz,_,0,(r.drop (HT.sIx xs.length 0 lo)).take (HT.sIx xs.length xs.length hi-HT.sIx xs.length 0 lo),bF _ rfl⟩
noncomputable def flatV:V->Bool
 | .non=>true
 | .bl _=>true
 | .int _=>true
 | .str _=>true
 |_=>false
noncomputable def eqV:V->V->Bool
 | .non,.non=>true
 | .bl a,.bl b=>a==b
 | .bl a,.int b=>(if a then 1 else 0)==b
 | .int a,.bl b=>a==(if b then 1 else 0)
 | .int a,.int b=>a==b
 | .str a,.str b=>a==b
 |_,_=>false
theorem eqAt_V{A:Around}{s:Shared}{y x:V}{u v:Value}(ry:RelV y u)(rx:RelV x v)(fy:flatV y=true)(fx:flatV x=true):SeqAt.EqAt A s u v (eqV y x):=by
 cases y with
 | non =>
   cases ry;cases x with
   |non=>cases rx;exact SeqAt.EqAt.same _
   |bl b=>cases rx;exact SeqAt.EqAt.none_bool b
   |int b=>obtain⟨t,rfl⟩:=rx;exact SeqAt.EqAt.none_int b t
   |str b=>obtain⟨t,rfl⟩:=rx;exact SeqAt.EqAt.none_str b t
   |_=>exact absurd (show false=true from fx) cH
 | bl a =>
   cases ry;cases x with
   |non=>cases rx;exact SeqAt.EqAt.bool_none a
   |bl b=>cases rx;exact SeqAt.EqAt.bool_bool a b
   |int b=>obtain⟨t,rfl⟩:=rx;exact SeqAt.EqAt.bool_int a b t
   |str b=>obtain⟨t,rfl⟩:=rx;exact SeqAt.EqAt.bool_str a b t
   |_=>exact absurd (show false=true from fx) cH
 | int a =>
   obtain⟨t',rfl⟩:=ry;cases x with
   |non=>cases rx;exact SeqAt.EqAt.int_none a t'
   |bl b=>cases rx;exact SeqAt.EqAt.int_bool a t' b
   |int b=>obtain⟨t,rfl⟩:=rx;exact SeqAt.EqAt.int_int a t' b t
   |str b=>obtain⟨t,rfl⟩:=rx;exact SeqAt.EqAt.int_str a t' b t
   |_=>exact absurd (show false=true from fx) cH
 | str a =>
   obtain⟨t',rfl⟩:=ry;cases x with
   |non=>cases rx;exact SeqAt.EqAt.str_none a t'
   |bl b=>cases rx;exact SeqAt.EqAt.str_bool a t' b
   |int b=>obtain⟨t,rfl⟩:=rx;exact SeqAt.EqAt.str_int a t' b t
   |str b=>obtain⟨t,rfl⟩:=rx;exact SeqAt.EqAt.str_str a t' b t
   |_=>exact absurd (show false=true from fx) cH
 |_=>exact absurd (show false=true from fy) cH
noncomputable def eqU(x:V)(u:Value):Bool:=match u with
 | .none=>eqV .non x
 | .bool b=>eqV (.bl b) x
 | .int i _=>eqV (.int i) x
 | .str z _=>eqV (.str z) x
 |_=>false
theorem VQ{x y:V}{u:Value}(r:RelV y u)(f:flatV y=true):eqU x u=eqV y x:=by
 cases y with
 |non=>cases r;rfl
 |bl b=>cases r;rfl
 |int i=>obtain⟨t,rfl⟩:=r;rfl
 |str z=>obtain⟨t,rfl⟩:=r;rfl
 |_=>exact absurd (show false=true from f) cH
theorem pS{x:V}:∀{xs:List V} {us:List Value},Vals xs us->xs.all flatV=true->us.any (eqU x)=xs.any fun y=>eqV y x
 |_,_,.nil,_=>rfl
 | y :: xs, u :: us, .cons r t, f => by
   rw[mC,bD] at f;rw[kN,kN,VQ r f.1,pS t f.2]
theorem wW{A:Around}{s:Shared}{x:V}{v:Value}(rx:RelV x v)(fx:flatV x=true):∀{xs:List V} {us:List Value},Vals xs us->xs.all flatV=true->∀u∈us,SeqAt.EqAt A s u v (eqU x u)
 |_,_,.nil,_=>fun u hu=>by cases hu
 | y :: xs, u :: us, .cons r t, f => fun u' hu => by
   rw[mC,bD] at f;rcases aF.mp hu with rfl | hu
   . rw[VQ r f.1];exact eqAt_V r rx f.1 fx
   . exact wW rx fx t f.2 u' hu
noncomputable def inV(x:V)(xs:List V):Bool:=xs.any fun y=>eqV y x
noncomputable def rIn(K:aH)(neg:Bool):R2:=fun x y H Q=>∃p xs,y=.ref p/\(SqL K H p xs\/SqT K H p xs)/\flatV x=true/\xs.all flatV=true/\Q (.bl (if neg then !inV x xs else inV x xs)) H
theorem OG:OpR X (compareOp .In) (rIn X.K false):=by
 intro pins s σ H x y v u Q I rx ry h;obtain⟨p,xs,rfl,hq,fx,fs,q⟩:=h;cases ry;rcases hq with hq | hq
 . obtain⟨its, r, pl, hz⟩ := I.list hq;refine SeqAt.in_listAt (eqU x) pl.isList (fun w hw=>wW rx fx r fs w (by simpa using hw)) ⟨.bl _,H,I,rfl,?_⟩;rw[show its.toArray.any (eqU x)=its.any (eqU x) by simp,pS r fs];exact q
 . obtain⟨its, r, pl, hz⟩ := I.tuple hq;refine SeqAt.in_tupleAt (eqU x) pl (fun w hw=>wW rx fx r fs w (by simpa using hw)) ⟨.bl _,H,I,rfl,?_⟩;rw[show its.toArray.any (eqU x)=its.any (eqU x) by simp,pS r fs];exact q
theorem EL:OpR X (compareOp .NotIn) (rIn X.K true):=by
 intro pins s σ H x y v u Q I rx ry h;obtain⟨p,xs,rfl,hq,fx,fs,q⟩:=h;cases ry;rcases hq with hq | hq
 . obtain⟨its, r, pl, hz⟩ := I.list hq;refine SeqAt.notIn_listAt (eqU x) pl.isList (fun w hw=>wW rx fx r fs w (by simpa using hw)) ⟨.bl _,H,I,rfl,?_⟩;rw[show its.toArray.any (eqU x)=its.any (eqU x) by simp,pS r fs];exact q
 . obtain⟨its, r, pl, hz⟩ := I.tuple hq;refine SeqAt.notIn_tupleAt (eqU x) pl (fun w hw=>wW rx fx r fs w (by simpa using hw)) ⟨.bl _,H,I,rfl,?_⟩;rw[show its.toArray.any (eqU x)=its.any (eqU x) by simp,pS r fs];exact q
theorem FH:CallR X (.builtin "len") (fun xs H Q=>∃p ys,xs=[.ref p]/\(SqL X.K H p ys\/SqT X.K H p ys)/\Q (.int ys.length) H):=by
 intro pins s σ H xs us Q I r h;obtain⟨p,ys,rfl,hq,q⟩:=h;obtain⟨u,rfl,rx⟩:=vals1 r;cases rx;have hn:=oK;rcases hq with hq | hq
 . obtain⟨its, r', pl, hz⟩ := I.list hq;have hlen:=r'.length;exact Calls.call_len_list pl.isList (by simp only[aX]<;>omega) ⟨.int ys.length,H,I.tok _,⟨s.toks+1,by rw[aX,hlen]⟩,q⟩
 . obtain⟨its, r', pl, hz⟩ := I.tuple hq;have hlen:=r'.length;exact len_tuple pl (by simp only[aX]<;>omega) ⟨.int ys.length,H,I.tok _,⟨s.toks+1,by rw[aX,hlen]⟩,q⟩
theorem FG:CallR X (.builtin "len") (fun xs H Q=>∃z,xs=[.str z]/\z.length<=sizeLine/\Q (.int z.length) H):=by
 intro pins s σ H xs us Q I r h;obtain⟨z,rfl,hz,q⟩:=h;obtain⟨u,rfl,t,rfl⟩:=vals1 r;have hn:=oK;exact len_str (by omega) ⟨.int z.length,H,I.tok _,⟨_,rfl⟩,q⟩
theorem CallR.or{f:Value}{r r':List V->Hp->VK->Prop}(h:CallR X f r)(h':CallR X f r'):CallR X f (fun xs H Q=>r xs H Q\/r' xs H Q):=by
 intro pins s σ H xs us Q I rs q;rcases q with q | q
 . exact h pins s σ H xs us Q I rs q
 . exact h' pins s σ H xs us Q I rs q
noncomputable def tyV(K:aH)(T:String)(x:V)(H:Hp):Prop:=match x with
 | .str _=>T = "str"
 | .int _=>T = "int"
 | .ref p=>(T = "list"/\∃xs,SqL K H p xs)\/(T = "tuple"/\∃o,K.lookup p=some o/\o.cls=.type "tuple"/\o.dict=none) ∨
    (T = "dict"/\((∃kvs,H p=some (.dK kvs))\/∃kvs,H p=some (.dT kvs)))\/(T = "set"/\∃S n,H p=some (.set S n))
 |_=>False
theorem tyV_is{pins:List (Addr×Obj)}{σ : St}{H:Hp}{s:Shared}{T:String}{x:V}{v:Value}(I:Inv X pins σ H s)(r:RelV x v)(ty:tyV X.K T x H) :
  s.TypeIs v T/\∀a,v=.ref a->∃ob,s.heap.get? a=some ob/\ob.dict=none:=by
 cases x with
 | str z =>
   obtain⟨t,rfl⟩:=r;cases(show T = "str" from ty);exact⟨typeIs_str s z t,fun _ e=>nomatch e⟩
 | int i =>
   obtain⟨t,rfl⟩:=r;cases(show T = "int" from ty);exact⟨typeIs_int s i t,fun _ e=>nomatch e⟩
 | ref p =>
   cases r;rcases ty with⟨rfl,xs,hq⟩ | ⟨rfl,o,hk,hc,hd⟩ | ⟨rfl,hk⟩ | ⟨rfl,S,n,hk⟩
   . obtain⟨its, _, pl, _⟩ := I.list hq;refine⟨pl.isList.typeIs,fun a e=>?_⟩;cases e;obtain⟨o,n,e,c,hd,_⟩:=pl;exact⟨o,e,hd⟩
   . refine⟨⟨o, I.kIn p o hk, hc⟩, fun a e => ?_⟩;cases e;exact⟨o,I.kIn _ o hk,hd⟩
   . have z:∃o,s.heap.get? p=some o/\o.ExactDict:=by
      rcases hk with⟨kvs,hk⟩ | ⟨kvs,hk⟩
      . obtain⟨_, _, _, _, o, _, _, e, ex, _⟩ := I.hok p _ hk;exact⟨o,e,ex⟩
      . obtain⟨_, _, _, _, o, _, _, e, ex, _⟩ := I.hok p _ hk;exact⟨o,e,ex⟩
     obtain⟨o,e,ex⟩:=z;refine⟨⟨o,e,ex.1⟩,fun a e2=>?_⟩;cases e2;exact⟨o,e,ex.2.1⟩
   . obtain⟨o, _, _, _, e, ex, _⟩ := I.hok p _ hk;refine⟨⟨o,e,ex.1⟩,fun a e2=>?_⟩;cases e2;exact⟨o,e,ex.2.1⟩
 |_=>exact False.elim ty
noncomputable def tBM(K:aH)(T:String)(r:V->List V->Hp->VK->Prop)(to:TE)(t:TA):TE:=fun σ H Q=>to σ H fun x H1=>tyV K T x H1/\t σ H1 fun xs H2=>r x xs H2 Q
variable{o e:Expr}{es:List Expr}{to:TE}{t:TA}{name:Str}{apos cpos:Pos}{T id:String}{r:V->List V->Hp->VK->Prop}
theorem AE(pa:PlainAttrs T)(slot:Slot T name id)(hty:typeOf (.builtin id)=pure (.type "method_descriptor"))(hm:MtR X id r)(ho:PE X o to)(ha:PA X (e::es) t)
  (hbase:attributeBase o name X.env (eval o X.env)=eval o X.env:=by rfl)
  (hfew:((backTo cpos (starEach (e::es) X.env)).all (fun x=>!x.1)&&(backToKw cpos (keywordEach [] X.env)).all (fun x=>x.1.isSome)
    && decide ((e::es).length+([]:List Keyword).length+(if ([]:List Keyword).isEmpty then 0 else 1)<30))=true:=by rfl)
  (hline:(apos.endLine==cpos.line)=true:=by rfl) (hs:starEach (e::es) X.env=(false,eval e X.env)::starEach es X.env:=by rfl) (hplain:(backTo cpos (starEach es X.env)).any (·.1)=false:=by rfl) :
  PE X (.Call (.Attribute o name apos) (e::es) [] cpos) (tBM X.K T r to t):=by
 intro pins s σ H Q I h;refine wpAny_Call_method_late hbase hfew hline rfl (thn (ho pins s σ H _ I h) fun v s1 ⟨x,H1,I1,r1,ty,q1⟩=>?_);obtain⟨h1,h2⟩:=tyV_is I1 r1 ty;refine⟨T,id,pa,slot,hty,h1,h2,?_⟩;have hA:=ha cpos pins s1 σ H1 _ I1 q1;rw[hs] at hA ⊢;refine Calls.callWith_builtin (by show(false||(backTo cpos (starEach es X.env)).any (·.1))=false;rw[hplain]<;>rfl) (Calls.evalArgs_plain ?_);exact thn hA fun us s2 ⟨vs,H2,I2,r2,q2⟩=>hm pins s2 σ H2 x vs v us Q I2 r1 r2 q2
/- xs.append(e),list.index on a module's tuple .. are MtR facts of 06m -/
end
noncomputable def MtM(X:Cx)(id:String)(r:V->List V->Hp->VK->Prop):Prop :=
 ∀(pins:List (Addr×Obj)) (s:Shared) (σ : St) (H:Hp) (x:V) (xs:List V) (v:Value) (us:List Value) (Q:VK),Inv X pins σ H s->RelV x v->Vals xs us->r x xs H Q →
  wpAny (model X.prog X.w) X.A (call (.builtin id) (v::us)) (EP X pins σ Q) X.xe s
theorem Vals.one:∀{x:V} {us:List Value},Vals [x] us->∃u,us=[u]/\RelV x u
 |_,_,.cons r .nil=>⟨_,rfl,r⟩
theorem Vals.dropLast{xs:List V}{us:List Value}(h:Vals xs us):Vals xs.dropLast us.dropLast:=by
 induction h with
 |nil=>exact .nil
 | cons r t ih =>
   cases t with
   |nil=>exact .nil
   |cons q t'=>exact .cons r ih
theorem Vals.reverse{xs:List V}{us:List Value}(h:Vals xs us):Vals xs.reverse us.reverse:=by
 induction h with
 |nil=>exact .nil
 |cons r t ih=>rw[QO,QO];exact Vals.append ih (.cons r .nil)
theorem Vals.rep{xs:List V}{us:List Value}(h:Vals xs us):∀k:Nat,Vals (List.replicate k xs).flatten (List.replicate k us).flatten
 |0=>.nil
 | k + 1 => by
   rw[eV,eV,gG,gG];exact Vals.append h (Vals.rep h k)
theorem DD(its:List Value):∀(k:Nat) (acc:List Value),
  List.foldl (fun x1 x2=>x1++x2) acc.toArray (List.replicate k its.toArray)=(acc++(List.replicate k its).flatten).toArray
 |0,acc=>by simp
 | k + 1, acc => by
   have e:acc.toArray++its.toArray=(acc++its).toArray:=by simp
   have e2:(acc++its)++(List.replicate k its).flatten=acc++(List.replicate (k+1) its).flatten:=by
    rw[eV,gG,gH]
   rw[<- e2,<- DD its k (acc++its),<- e,eV,mX]
section
variable{X:Cx}{pins:List (Addr×Obj)}{σ : St}{H:Hp}{s:Shared}{l b:Addr}{xs ys zs:List V}
theorem Inv.lset{its its':List Value}{n:Nat}{f:Array Value->Array Value}{t':Nat}(I:Inv X pins σ H s)(hH:H l=some (.lst xs))
  (e:s.heap.get? l=some { cls:=.type "list",data:=.seq its.toArray n }) (hf:f its.toArray=its'.toArray) (hv:Vals ys its') (hz:ys.length<=sizeLine) :
  Inv X pins σ (upd H l (.lst ys)) { s with heap:=s.heap.update l (Obj.mapSeq f),toks:=t' }:=by
 have q:=PySem.IsL.update e f;rw[hf] at q;refine I.write (x:=l) (e:=l) (by rw[hH];exact trivial) (.inl rfl) (fun b' u hb hu=>(dQ s.heap (Obj.mapSeq f) (Ne.symm hb)).trans hu) ⟨_,q⟩ ?_;exact⟨hz,its',_,hv,q⟩
theorem Inv.lnew{its:List Value}{t':Nat}(I:Inv X pins σ H s)(hv:Vals ys its)(hz:ys.length<=sizeLine) :
  Inv X pins σ (upd H s.heap.objs.size (.lst ys)) { s with heap:=s.heap.push { cls:=.type "list",data:=.seq its.toArray },toks:=t' }:=
 I.laid (fun _ _ q=>aL _ q) (aQ _) ⟨hz,its,0,hv,bF _ rfl⟩
theorem Inv.fresh(I:Inv X pins σ H s):H s.heap.objs.size=none:=I.hok.fresh (aQ _)
theorem Inv.lstM(I:Inv X pins σ H s)(hH:H l=some (.lst xs)):xs.length<=sizeLine/\∃(its:List Value) (n:Nat),Vals xs its/\xs.length=its.length/\s.heap.get? l=some { cls:=.type "list",data:=.seq its.toArray n }:=by
 obtain⟨z,its,n,r,e⟩:=I.hok l _ hH;exact⟨z,its,n,r,r.length,e⟩
theorem GX{n:Nat}(h:n<=sizeLine):Builtin.List.listTooLong n=false:=by
 unfold Builtin.List.listTooLong;exact decide_eq_false (by omega)
end
section
variable{X:Cx}
noncomputable def YA:V->List V->Hp->VK->Prop:=fun x vs H Q=>∃l xs y,x=.ref l/\vs=[y]/\H l=some (.lst xs)/\xs.length<sizeLine/\Q .non (upd H l (.lst (xs++[y])))
theorem OS:MtM X "list.append" YA:=by
 intro pins s σ H x vs v us Q I rx rv h;obtain⟨l,xs,y,rfl,rfl,hH,hz,q⟩:=h;cases rx;obtain⟨u,rfl,ru⟩:=rv.one;obtain⟨z,its,n,r,hl,e⟩:=I.lstM hH;refine call_meets F.slot_list_append ⟨_,e,rfl⟩ F.entry_list_append (F.args_list_append_2 _ _) (PySem.list_append l its.toArray n u (by rw[aX];omega)) ⟨e,?_⟩;refine⟨.non,_,I.lset (its':=its++[u]) hH e (by simp) (r.append (.cons ru .nil)) ?_,rfl,q⟩;rw[bO,gE];omega
noncomputable def XZ:V->List V->Hp->VK->Prop:=fun x vs H Q=>∃l b xs zs,x=.ref l/\vs=[.ref b]/\H l=some (.lst xs)/\H b=some (.lst zs)/\xs.length+zs.length<=sizeLine/\Q .non (upd H l (.lst (xs++zs)))
theorem CS:MtM X "list.extend" XZ:=by
 intro pins s σ H x vs v us Q I rx rv h;obtain⟨l,b,xs,zs,rfl,rfl,hH,hB,hz,q⟩:=h;cases rx;obtain⟨u,rfl,ru⟩:=rv.one;cases ru;obtain⟨z,its,n,r,hl,e⟩:=I.lstM hH;obtain⟨z2,its2,n2,r2,hl2,e2⟩:=I.lstM hB;have hsz:its.toArray.size+its2.toArray.size<=sizeLine:=by rw[aX,aX];omega
 have hlong : ¬(!its.toArray.isEmpty&&Builtin.List.listTooLong (its.toArray.size+its2.toArray.size))=true:=by
  rw[GX hsz,Bool.and_false];exact cH
 refine call_meets F.slot_list_extend ⟨_,e,rfl⟩ F.entry_list_extend (F.args_list_extend_2 _ _)
  (AutoSeq1.list_extend_list_list_0 l its.toArray n b its2.toArray n2 hlong (by rw[aX];omega) (by omega)) ⟨e,e2,?_⟩
 refine⟨.non,_,I.lset (its':=its++its2) hH e (by simp) (r.append r2) ?_,rfl,q⟩;rw[bO];omega
noncomputable def rRep:R2:=fun x y H Q=>∃l k xs,x=.ref l/\y=.int k/\H l=some (.lst xs)/\-(2 ^ 63)<=k/\k<2 ^ 63/\xs.length*k.toNat<=sizeLine ∧
 ∀p,H p=none->Q (.ref p) (upd H p (.lst (List.replicate k.toNat xs).flatten))
theorem ZH{α : Type}(xs:List α)(k:Nat):(List.replicate k xs).flatten.length=k*xs.length:=by
 induction k with
 |zero=>simp
 |succ k ih=>rw[eV,gG,bO,ih,Nat.succ_mul,Nat.add_comm]
theorem op_rep:OpR X (binaryOp .Mult) rRep:=by
 intro pins s σ H x y v u Q I rx ry h;obtain⟨l,k,xs,rfl,rfl,hH,h1,h2,hz,q⟩:=h;cases rx;obtain⟨t,rfl⟩:=ry;obtain⟨z,its,n,r,hl,e⟩:=I.lstM hH;have hlen:its.toArray.size*k.toNat<=sizeLine:=by rw[aX,<- hl];exact hz
 have hcap : ¬its.toArray.size*k.toNat>(2 ^ 63-1)/8:=by
  have:(sizeLine:Nat)<=(2 ^ 63-1)/8:=by decide
  omega
 have hfit : ¬(!Builtin.List.listFitsIndex k)=true:=by
  rw[fitsIndex_both h1 h2];exact cH
 have hlong : ¬Builtin.List.listTooLong (its.toArray.size*k.toNat)=true:=by
  rw[GX hlen];exact cH
 have hnew:List.foldl (fun x1 x2=>x1++x2) #[] (List.replicate (if its.toArray.isEmpty=true then 0 else k.toNat) its.toArray)=(List.replicate k.toNat its).flatten.toArray:=by
  have f0:∀m:Nat,List.foldl (fun x1 x2=>x1++x2) #[] (List.replicate m its.toArray)=(List.replicate m its).flatten.toArray:=fun m=>by
   have:=DD its m [];rw[kY] at this;exact this
  rw[f0];cases its with
  |nil=>simp
  |cons a r'=>rw[if_neg (by simp)]
 refine wpAny_binaryOp_repeat_ref (T:="list") (U:="int") (by decide) ⟨_,e,rfl⟩ (fun s'=>typeIs_int s' k t) noFill_list_mul F.fills_int_mul F.slot_int_rmul repeat_list F.slot_int_index.lookup
  (call_meets F.slot_int_rmul (typeIs_int s k t) F.entry_int_rmul (F.args_int_rmul_2 _ _) (int___rmul___int_list k t l its.toArray n)
    ⟨e,rfl,⟨_,e,rfl⟩,call_meets F.slot_list_mul ⟨_,e,rfl⟩ F.entry_list_mul (F.args_list_mul_2 _ _) (AutoListH.list___mul___list_int_3 l its.toArray n k t hfit hcap hlong) ⟨e,?_⟩⟩)
 rw[hnew];exact⟨.ref _,_,I.lnew (t':=s.toks) (r.rep k.toNat) (by rw[ZH,Nat.mul_comm];exact hz),rfl,q _ I.fresh⟩
end
section
variable{prog:Program}{w:World}{A:Around}{E:Value->Shared->Prop}{s:Shared}
end
section
variable{X:Cx}
end
section
variable{κ : Type}[DecidableEq κ]
noncomputable def valV(kvs:List (κ×V))(k : κ):Option V:=(kvs.find? fun kv=>decide (kv.1=k)).map (·.2)
noncomputable def putK(kvs:List (κ×V))(k : κ)(v:V):List (κ×V):=
 if (kvs.any fun kv=>decide (kv.1=k))=true then kvs.map (fun kv=>if kv.1=k then (kv.1,v) else kv) else kvs++[(k,v)]
noncomputable def dropK(kvs:List (κ×V))(k : κ):List (κ×V):=kvs.filter fun kv=>decide (kv.1≠k)
theorem FY{p : κ×V}{r:List (κ×V)}{k : κ}(e:p.1=k):valV (p::r) k=some p.2:=by simp[valV,fZ,e]
theorem FZ{p : κ×V}{r:List (κ×V)}{k : κ}(e : ¬p.1=k):valV (p::r) k=valV r k:=by simp[valV,fZ,e]
theorem RelO.getD{o:Option V}{u:Option Value}{d:V}{d':Value}(r:RelO o u)(rd:RelV d d'):RelV (o.getD d) (u.getD d'):=by
 cases o with
 | none => cases u with
   |none=>exact rd
   |some _=>exact(show False from r).elim
 | some _ => cases u with
   |none=>exact(show False from r).elim
   |some _=>exact r
theorem KV.val{kvs:List (κ×V)}{vs:List (κ×Value)}(r:KV kvs vs)(k : κ):RelO (valV kvs k) (valueAt vs k):=by
 unfold KV at r
 induction r with
 |nil=>exact True.intro
 | @cons p q ps qs h t ih =>
   obtain⟨h1,h2⟩:=h
   by_cases e:p.1=k
   . have e' : q.1 = k := h1.symm.trans e;have b:valueAt (q::qs) k=some q.2:=by simp [valueAt,fZ,e']
     rw[FY e,b];exact h2
   . have e' : ¬ q.1 = k := fun z => e (h1.trans z);have b:valueAt (q::qs) k=valueAt qs k:=by simp [valueAt,fZ,e']
     rw[FZ e,b];exact ih
theorem KV.any{kvs:List (κ×V)}{vs:List (κ×Value)}(r:KV kvs vs)(k : κ):(kvs.any fun kv=>decide (kv.1=k))=vs.any fun kv=>decide (kv.1=k):=by
 unfold KV at r
 induction r with
 |nil=>rfl
 |cons h t ih=>rw[kN,kN,ih,h.1]
theorem KV.drop{kvs:List (κ×V)}{vs:List (κ×Value)}(r:KV kvs vs)(k : κ):KV (dropK kvs k) (without vs k):=by
 unfold KV at r ⊢;unfold dropK without
 induction r with
 |nil=>exact .nil
 | @cons p q ps qs h t ih =>
   obtain⟨h1,h2⟩:=h;rw[mL,mL]
   by_cases e:p.1=k
   . have a : ¬ decide (p.1 ≠ k) = true := by simp [e]
     have b : ¬decide (q.1≠k)=true:=by simp[h1.symm.trans e]
     rw[if_neg a,if_neg b];exact ih
   . have e' : ¬ q.1 = k := fun z => e (h1.trans z);have a:decide (p.1≠k)=true:=by simp [e]
     have b:decide (q.1≠k)=true:=by simp[e']
     rw[if_pos a,if_pos b];exact .cons ⟨h1,h2⟩ ih
theorem KV.length{kvs:List (κ×V)}{vs:List (κ×Value)}(r:KV kvs vs):kvs.length=vs.length:=Paired.length r
end
abbrev KT(H:Hp):List (List Key×V)->List (List Key×Addr×Value)->Prop:=Paired fun p q=>p.1=q.1/\H q.2.1=some (.tup (p.1.map kV))/\RelV p.2 q.2.2
theorem KT.val{H:Hp}{kvs:List (List Key×V)}{xs:List (List Key×Addr×Value)}(r:KT H kvs xs)(k:List Key):RelO (valV kvs k) ((atKey xs k).map (·.2)):=by
 induction r with
 |nil=>exact True.intro
 | @cons p q ps qs h t ih =>
   obtain⟨h1,_,h2⟩:=h
   by_cases e:p.1=k
   . have e' : q.1 = k := h1.symm.trans e;have b:atKey (q::qs) k=some q.2:=by simp [atKey,fZ,e']
     rw[FY e,b];exact h2
   . have e' : ¬ q.1 = k := fun z => e (h1.trans z);have b:atKey (q::qs) k=atKey qs k:=by simp [atKey,fZ,e']
     rw[FZ e,b];exact ih
section
variable{P:Program}{w:World}{H:Hp}{h:Heap}{a:Addr}
end
noncomputable def DGet(H:Hp)(a:Addr)(y:V)(r:Option V):Prop :=
 (∃kvs k,Rd H a (.dK kvs)/\y=kV k/\r=valV kvs k)\/∃kvs k b,Rd H a (.dT kvs)/\y=.ref b/\H b=some (.tup (k.map kV))/\r=valV kvs k
noncomputable def DPut(H:Hp)(a:Addr)(y v:V)(H':Hp):Prop :=
 (∃kvs k,H a=some (.dK kvs)/\y=kV k/\kvs.length<sizeLine/\H'=upd H a (.dK (putK kvs k v))) ∨
 ∃kvs k b,H a=some (.dT kvs)/\y=.ref b/\H b=some (.tup (k.map kV))/\kvs.length<sizeLine/\H'=upd H a (.dT (putK kvs k v))
theorem DGet.t{H:Hp}{a b:Addr}{kvs:List (List Key×V)}{k:List Key}(e:H a=some (.dT kvs))(eb:H b=some (.tup (k.map kV))):DGet H a (.ref b) (valV kvs k):=.inr ⟨kvs,k,b,.inl e,rfl,eb,rfl⟩
theorem DPut.t{H:Hp}{a b:Addr}{kvs:List (List Key×V)}{k:List Key}{v:V}(e:H a=some (.dT kvs))(eb:H b=some (.tup (k.map kV)))(hl:kvs.length<sizeLine) :
  DPut H a (.ref b) v (upd H a (.dT (putK kvs k v))):=.inr ⟨kvs,k,b,e,rfl,eb,hl,rfl⟩
section
variable{X:Cx}{pins:List (Addr×Obj)}{σ : St}{H:Hp}{s:Shared}{a:Addr}{y v:V}{u r:Value}{o:Option V}{A:Around}{E:Value->Shared->Prop}
end
section
variable{X:Cx}{pins:List (Addr×Obj)}{σ : St}{H:Hp}{s:Shared}{a:Addr}{kvs:List (Key×V)}{k:Key}{u:Value}{A:Around}{E:Value->Shared->Prop}
end
section
variable{X:Cx}{o i e value:Expr}{pos pos' tpos:Pos}{td ty tv:TE}
end
section
variable{X:Cx}{pos:Pos}
end
structure M1(X:Cx)(o:Expr)(m:Str)(apos:Pos)(e:Expr)(cpos:Pos):Prop where
 base:attributeBase o m X.env (eval o X.env)=eval o X.env
 few:((backTo cpos (starEach [e] X.env)).all (fun x=>!x.1)&&(backToKw cpos (keywordEach [] X.env)).all (fun x=>x.1.isSome)
  && decide (([e]:List Expr).length+([]:List Keyword).length+(if ([]:List Keyword).isEmpty then 0 else 1)<30))=true
 line:(apos.endLine==cpos.line)=true
 trees:backTo cpos (starEach [e] X.env)=[(false,eval e X.env)]
structure M2(X:Cx)(o:Expr)(m:Str)(apos:Pos)(e f:Expr)(cpos:Pos):Prop where
 base:attributeBase o m X.env (eval o X.env)=eval o X.env
 few:((backTo cpos (starEach [e,f] X.env)).all (fun x=>!x.1)&&(backToKw cpos (keywordEach [] X.env)).all (fun x=>x.1.isSome)
  && decide (([e,f]:List Expr).length+([]:List Keyword).length+(if ([]:List Keyword).isEmpty then 0 else 1)<30))=true
 line:(apos.endLine==cpos.line)=true
 trees:backTo cpos (starEach [e,f] X.env)=[(false,eval e X.env),(false,eval f X.env)]
section
variable{X:Cx}{pins:List (Addr×Obj)}{σ : St}{H:Hp}{s:Shared}{a:Addr}{y d:V}{u r:Value}{o:Option V}{A:Around}{E:Value->Shared->Prop}
end
section
variable{X:Cx}{o e f:Expr}{apos cpos:Pos}{td ty tx:TE}
end
section
variable{X:Cx}{pins:List (Addr×Obj)}{σ : St}{H:Hp}{s:Shared}{a:Addr}{kvs:List (Key×V)}{A:Around}{E:Value->Shared->Prop}
end
section
variable{X:Cx}{pins:List (Addr×Obj)}{σ : St}{H:Hp}{s:Shared}{a:Addr}{y:V}{u:Value}{A:Around}{E:Value->Shared->Prop}
end
end L2
namespace Att
open PySem PySem.W PySem.Calls PyProof.Rows
theorem tG{P:Params}{h:Heap}:∀(ns:List Int) (vs:List Value),WellAll P h vs (ns.map WData.int)->IntsAre vs ns:=by
 intro ns
 induction ns with
 | nil =>
   intro vs w;rw[dO] at w;cases w;exact .nil
 | cons n ns ih =>
   intro vs w;rw[bB] at w;cases w with
   | cons a b =>
     cases a;exact .cons _ _ (ih _ b)
theorem NQ{l:OpenLaw}{n:Nat}(hn:l.most=some n){P:Params}{h:Heap}{args:List WData}{vals:List Value}
  (hpre:l.row.toRowW.claim.pre args=true) (hwl:WellAll P h vals args) :
  ∃a vs ns,vals=[Value.ref a]/\args=[WData.list (ns.map WData.int)]/\h.get? a=some { cls:=.type "list",data:=.seq vs.toArray }/\IntsAre vs ns/\ns.length<=n:=by
 have hsh:WShape.hasAll [] args [.list .int]=true:=(pre_splitW hpre).1;have hc:l.pre.holds [] { args:=args }=true:=(pre_splitW hpre).2;obtain⟨d,r,rfl,h1,h2⟩:=hasAllW_cons hsh;obtain rfl:=hasAllW_nil h2;obtain⟨xs,rfl,h3⟩:=hasW_list h1;obtain⟨ns,rfl⟩:=items_int h3
 have hlen:ns.length<=n:=by
  unfold OpenLaw.pre at hc
  have h4:(WTm.not (.lt (.lit (.int (n:Int))) (.len (.arg 0)))).holds [] { args:=[.list (ns.map .int)] }=true:=by
   have h4:=(holds_andW hc).1;rw[hn] at h4;exact h4
  have h5:=condW_of h4 (w_not (w_lt w_lit (w_len_list (w_arg rfl))));rw[dC] at h5;refine WI fun q=>?_;have q':(n:Int)<((ns.length:Nat):Int):=by omega
  first
   |(rw[decide_eq_true q'] at h5;exact absurd h5 (by decide))
   |(simp at h5;omega)
 cases hwl with
 | cons w1 w2 =>
   cases w2;cases w1 with
   |list ho hall=>exact⟨_,_,ns,rfl,rfl,ho,tG ns _ hall,hlen⟩
theorem NZ(l:OpenLaw)(args:List WData):l.row.toRowW.claim.post args (.bool true) args=true :=
 postW_of (r:=l.row.toRowW) (X:=(true==true))
  (show WShape.has [] (.bool true) .bool=true by first | rfl | decide | simp[WShape.has,WShape.arms,WShape.armsAll])
  (show(WTm.eq .res (.lit (.bool true))).value [] { args:=args,res:=some (.bool true),after:=args }=some (.bool (true==true)) from w_eq_bool (w_res rfl) w_lit) rfl
section
variable{prog:Program}{w:World}{A:Around}{E:Value->Shared->Prop}{s:Shared}{K:Frag}
end
end Att
namespace L2
open PySem PySem.Spec PyProof.Rows
theorem CH:∀{vs:List Value} {ns:List Int},IntsAre vs ns->Vals (ns.map V.int) vs
 |_,_,.nil=>.nil
 |_,_,.cons n t h=>.cons ⟨t,rfl⟩ (CH h)
noncomputable def cV(s:Stmt)(j:Nat):Stmt:=match s with
 | .ClassDef _ _ _ body _ _ _ _ _ _ _=>body.getD j (.Pass ⟨0,0,0,0⟩)
 |_=>.Pass ⟨0,0,0,0⟩
noncomputable def xP(s:Stmt):Arguments:=match s with
 | .FunctionDef _ a _ _ _ _ _ _ _ _=>a
 |_=>{ posonlyargs:=[],args:=[],vararg:=none,kwonlyargs:=[],kw_defaults:=[],kwarg:=none,defaults:=[] }
noncomputable def qS(s:Stmt):List Stmt:=match s with
 | .FunctionDef _ _ b _ _ _ _ _ _ _=>b
 |_=>[]
noncomputable def zH(s:Stmt):Scope:=match s with
 | .FunctionDef _ _ _ _ _ _ sc _ _ _=>sc
 |_=>{ kind:=.function,names:=[],isGenerator:=false,isCoroutine:=false }
abbrev CX0:CXT:=fun _ _ _ _ _ _=>False
abbrev E0:XK:=fun _ _ _=>False
theorem pass0{X:Cx}: mO CX0 X E0:=fun _ _ _ _ _ _ _ h=>h.elim
structure Fun(K:aH)(x qual:Str)(st:Stmt)(f:Addr)(fd:FuncData):Prop where
 ex:∃(oc:Value) (od:Option Addr) (kV doc pm:Value) (an:Option Addr) (cdv ct:Value) (osl:Array (Option Value)),
  fd=eQ x qual (xP st) (qS st) (zH st) .none kV doc pm an cdv ct/\K.lookup f=some ⟨oc,od,.func fd,osl⟩/\gF K cdv qual=true
 kp:bN K (.ref f)=true
section
variable{P:Program}{w:World}{K:aH}{mg:Str->Option Value}{base:Heap}
theorem Fun.ok{x qual:Str}{st:Stmt}{f:Addr}{fd:FuncData}{N ps:List Str}{k:Nat}{sp:Sp}(F:Fun K x qual st f fd)(S:FnScope N ps (zH st))(len:∀vs H Q E,sp vs H Q E->vs.length=ps.length)
  (hbody:∀(cdv:Value) (A:Around) (outer:List Env) (s:Shared) (H:Hp) (vs:List V) (Q:VK) (E:XK),Room k (A.deeper (envOfC qual (zH st) s.heap.objs.size f cdv))->sp vs H Q E →
    ∃t,PSs (cxOf CX0 P w K mg base N qual (zH st) f cdv A outer s H E).nox (qS st) t/\t { nx:=fun _ H'=>Q .non H',rt:=Q } (start N vs) H):FnOk P w K mg base CX0 (k+1) f fd ps sp:=by
 obtain⟨oc,od,kV,doc,pm,an,cdv,ct,osl,rfl,lk,hcd⟩:=F.ex;refine fn_of lk hcd S len fun A outer s H vs Q E hr hsp=>?_;obtain⟨t,h,q⟩:=hbody cdv A outer s H vs Q E hr hsp;exact⟨t,h.nox,q⟩
theorem Fun.binds{x qual:Str}{st:Stmt}{f:Addr}{fd:FuncData}{ps:List Str}(F:Fun K x qual st f fd)
  (h:∀(kV doc pm:Value) (an:Option Addr) (cdv ct:Value) (us:List Value),us.length=ps.length->bindArgs (eQ x qual (xP st) (qS st) (zH st) .none kV doc pm an cdv ct) ⟨us,[]⟩=pure (ps.zip us)):Binds K fd ps []:=by
 obtain⟨oc,od,kV,doc,pm,an,cdv,ct,osl,rfl,lk,hcd⟩:=F.ex;exact .all (h kV doc pm an cdv ct)
theorem KA{x qual:Str}{st:Stmt}{f:Addr}{oc:Value}{od an:Option Addr}{osl:Array (Option Value)}{kV doc pm cdv ct:Value}(l:K.lookup f=some ⟨oc,od,.func (eQ x qual (xP st) (qS st) (zH st) .none kV doc pm an cdv ct),osl⟩)
  (c:gF K cdv qual=true) (k:bN K (.ref f)=true):Fun K x qual st f (eQ x qual (xP st) (qS st) (zH st) .none kV doc pm an cdv ct):=⟨⟨oc,od,kV,doc,pm,an,cdv,ct,osl,rfl,l,c⟩,k⟩
end
section
variable{X:Cx}
end
theorem iteF{A B:Prop}(h:B):if false=true then A else B:=by
 rw[if_neg cH];exact h
theorem iteT{A B:Prop}(h:A):if true=true then A else B:=by
 rw[if_pos rfl];exact h
noncomputable def Same(H H':Hp):Prop:=∀b o,H b=some o->H' b=some o
theorem Same.refl(H:Hp):Same H H:=fun _ _ h=>h
theorem Same.trans{H H1 H2:Hp}(a:Same H H1)(b:Same H1 H2):Same H H2:=fun c o h=>b c o (a c o h)
theorem Same.free{H H':Hp}(e:Same H H'){l:Addr}(h:H' l=Option.none):H l=Option.none:=by
 cases q:H l with
 |none=>rfl
 | some o =>
   rw[e l o q] at h;cases h
theorem Same.seq{K:aH}{H H':Hp}{a:Addr}{xs:List V}(e:Same H H')(h:SqL K H a xs):SqL K H' a xs:=by
 rcases h with(h | ⟨o,h⟩) | h
 . exact .inl (.inl (e _ _ h))
 . exact .inl (.inr ⟨o,e _ _ h⟩)
 . exact .inr h
section
variable{X:Cx}
end
section
variable{κ : Type}[DecidableEq κ]
end
noncomputable def vP(env:Env):List (Str×NameKind)->List (Str×Addr)->List (Str×Addr)
 |[],cs=>cs
 |(n,k)::r,cs=>vP env r (if k==NameKind.free then (match env.cells.lookup n with | some c=>(n,c)::cs | none=>cs) else cs)
theorem xO{scope:Scope}{env:Env}(h:∀y∈scope.names,y.2=NameKind.free->∃c,env.cells.lookup y.1=some c):closureFor scope env=pure (vP env scope.names []):=by
 simp only[closureFor];generalize ([]:List (Str×Addr))=cs
 revert h cs
 generalize scope.names=l;intro h
 induction l with
 |nil=>intro cs;rfl
 | cons y r ih =>
   intro cs;obtain⟨n,k⟩:=y;have ihr:=ih fun z hz=>h z (aI _ hz);simp only[WK,vP]
   by_cases hk:k=NameKind.free
   . obtain ⟨c, hc⟩ := h (n, k) aP hk;have hc':env.cells.lookup n=some c:=hc;have hcell:cellOf env n=pure c:=by unfold cellOf; rw [hc']
     subst hk;simp only[hcell,hc',beq_self_eq_true,if_true,pure_bind,bind_pure_comp,map_pure,bind_assoc]
     first
      |exact ihr _
      |simpa using ihr _
   . have hb : (k == NameKind.free) = false := by simpa using hk
     simp only[hb,oW,if_false,pure_bind]
     first
      |exact ihr _
      |simpa using ihr _
theorem BC{env:Env}:∀(l:List (Str×NameKind)) (cs:List (Str×Addr)),(∀x c,cs.lookup x=some c->env.cells.lookup x=some c)->∀x c,(vP env l cs).lookup x=some c->env.cells.lookup x=some c
 |[],_,h=>h
 | (n, k) :: r, cs, h => by
   unfold vP;refine BC r _ fun x c e=>?_
   split at e
   . cases hc : env.cells.lookup n with
     |none=>rw[hc] at e;exact h x c e
     | some c' =>
       rw[hc] at e;simp only[bT] at e
       by_cases hx:x==n
       . rw[hx] at e;cases e;rw[beq_iff_eq] at hx;rw[hx];exact hc
       . have hx' : (x == n) = false := by simpa using hx
         rw[hx'] at e;exact h x c e
   . exact h x c e
theorem BA{env:Env}:∀(l:List (Str×NameKind)) (cs:List (Str×Addr)) (x:Str),(∃c,cs.lookup x=some c)->∃c,(vP env l cs).lookup x=some c
 |[],_,_,h=>h
 | (n, k) :: r, cs, x, h => by
   unfold vP;refine BA r _ x ?_
   split
   . cases hc : env.cells.lookup n with
     |none=>exact h
     | some c' =>
       simp only[bT]
       by_cases hx:x==n
       . rw[hx];exact⟨_,rfl⟩
       . have hx' : (x == n) = false := by simpa using hx
         rw[hx'];exact h
   . exact h
theorem sE{env:Env}:∀(l:List (Str×NameKind)) (cs:List (Str×Addr)) (x:Str) (c:Addr),(x,NameKind.free)∈l->env.cells.lookup x=some c->∃c,(vP env l cs).lookup x=some c
 |[],_,_,_,h,_=>nomatch h
 | (n, k) :: r, cs, x, c, h, hc => by
   unfold vP;rcases aF.mp h with e | e
   . cases e;refine BA r _ _ ?_;simp only[beq_self_eq_true,if_true,hc,bT];exact⟨_,rfl⟩
   . exact sE r _ x c e hc
theorem kS{env:Env}:∀{names:List (Str×NameKind)} {x:Str},names.lookup x=some NameKind.free →
  (names.map fun(n,k)=>if (k==NameKind.free&&env.scope.kind==.function&&env.kindOf n==some .cell) then (n,NameKind.cell) else (n,k)).lookup x=some NameKind.cell ∨
  (names.map fun(n,k)=>if (k==NameKind.free&&env.scope.kind==.function&&env.kindOf n==some .cell) then (n,NameKind.cell) else (n,k)).lookup x=some NameKind.free
 |[],_,h=>by simp at h
 | (n, k) :: r, x, h => by
   have ih:=@kS env r x;simp only[bB];cases hx:x==n with
   | true =>
     simp only[bT,hx] at h;cases h
     by_cases hc:(NameKind.free==NameKind.free&&env.scope.kind==.function&&env.kindOf n==some .cell)=true
     . rw[if_pos hc];left;simp only[bT,hx]
     . rw[if_neg hc];right;simp only[bT,hx]
   | false =>
     simp only[bT,hx] at h
     by_cases hc:(k==NameKind.free&&env.scope.kind==.function&&env.kindOf n==some .cell)=true
     . rw[if_pos hc];simp only[bT,hx];exact ih h
     . rw[if_neg hc];simp only[bT,hx];exact ih h
theorem vK{env:Env}:∀{names:List (Str×NameKind)} {x:Str} {k':NameKind},(∀y∈names,y.2≠NameKind.cell) →
  (names.map fun(n,k)=>if (k==NameKind.free&&env.scope.kind==.function&&env.kindOf n==some .cell) then (n,NameKind.cell) else (n,k)).lookup x=some k'->(k'=NameKind.cell\/k'=NameKind.free)->(x,NameKind.free)∈names
 |[],_,_,_,h,_=>by simp at h
 | (n, k) :: r, x, k', hn, h, hk => by
   have ih:=@vK env r x k' fun y hy=>hn y (aI _ hy);simp only[bB] at h;cases hx:x==n with
   | true =>
     have ex:x=n:=by simpa using hx
     by_cases hc:(k==NameKind.free&&env.scope.kind==.function&&env.kindOf n==some .cell)=true
     . have:k=NameKind.free:=by
        simp only[bD,beq_iff_eq] at hc;exact hc.1.1
       subst this;subst ex;exact aP
     . rw [if_neg hc] at h;simp only [bT,hx] at h;cases h;rcases hk with hk | hk
       . exact absurd hk (hn (n,k) aP)
       . subst hk;subst ex;exact aP
   | false =>
     by_cases hc:(k==NameKind.free&&env.scope.kind==.function&&env.kindOf n==some .cell)=true
     . rw[if_pos hc] at h;simp only[bT,hx] at h;exact aI _ (ih h hk)
     . rw[if_neg hc] at h;simp only[bT,hx] at h;exact aI _ (ih h hk)
section
variable{X:Cx}
structure CI where
 C:Addr
 s:Shared
 H:Hp
 ex:List Addr
noncomputable def qT(X:Cx)(scope:Scope)(NY:List Str)(c:CI):Cx where
 prog:=X.prog
 w:=X.w
 K:=X.K
 mg:=X.mg
 base:=X.base
 A:=X.A
 N:=NY
 s₀:=c.s
 H₀:=c.H
 env:=compEnvC scope (vP X.env scope.names []) c.C X.env
 outer:=X.stack
 stack:=X.stack
 ex:=c.ex
 fn:=fun _=>false
 calm:=X.calm
 pn:=[]
 xe:=fun _ _=>False
theorem Inv.adopt{pins:List (Addr×Obj)}{σ : St}{H:Hp}{s:Shared}{a:Addr}{o:HO}(I:Inv X pins σ H s)(hn:H a=none)(young:X.s₀.heap.objs.size<=a)(hL:a≠X.env.locals)
  (hc:∀x c,X.env.cells.lookup x=some c->c≠a) (hp:∀p∈X.pn++pins,p.1≠a) (new:ObjOk X.prog X.w (upd H a o) s.heap a o):Inv X pins σ (upd H a o) s:=by
 have ne:∀{b:Addr} {u:HO},H b=some u->b≠a:=fun e z=>by rw[z,hn] at e;cases e
 refine⟨I.ok,I.os,I.bare,⟨I.base.keep,I.base.slot,fun b ob q n hx=>?_,I.base.there,fun b xs q=>?_,fun b ob u q=>?_,fun b ps q=>?_⟩,I.loc,I.cell,?_,fun x c e=>?_,fun p hpm=>?_,fun b u e=>?_,I.len⟩
 . rw[zX (bS (aZ (aU q) young))];exact I.base.free b ob q n hx
 . have := I.base.tups b xs q;rw[zX (ne this)];exact this
 . have := I.base.frzs b ob u q;rw[zX (ne this)];exact this
 . have := I.base.tbls b ps q;rw[zX (ne this)];exact this
 . rw[zX (Ne.symm hL)];exact I.free
 . have := I.freeC x c e;unfold FreeC at this ⊢;rw[zX (hc x c e)];exact this
 . obtain⟨h1, h2, h3⟩ := I.pin p hpm;exact⟨h1,by rw[zX (hp p hpm)];exact h2,h3⟩
 . by_cases hb : b = a
   . subst hb;rw[cF] at e;cases e;exact new
   . rw[zX hb] at e;exact(I.hok b u e).stay (fun c v _ q=>q) (fun c q=>by rw[zX (ne q)];exact q) fun c xs q=>by rw[zX (ne q)];exact q
noncomputable def PF(X:Cx)(ifs:List Expr)(t:TT):Prop :=
 ∀(pins:List (Addr×Obj)) (s:Shared) (σ : St) (H:Hp) (Q:Bool->Hp->Prop),Inv X pins σ H s->t σ H Q →
  wpAny (model X.prog X.w) X.A (forIn ifs true fun c r=>if r=true then do let ok <- isTrue c X.env (eval c X.env);pure (ForInStep.yield ok) else pure (ForInStep.yield r)) (TP X pins σ Q) X.xe s
noncomputable def tNoIf:TT:=fun _ H Q=>Q true H
theorem TR:PF X [] tNoIf:=fun _ _ _ H _ I h=>wpAny_tests_nil ⟨H,I,h⟩
noncomputable def hU(mp:List (Option Nat))(σ : St):St:=mp.map fun o=>o.bind fun j=>σ[j]?.join
noncomputable def SF(J:It)(mp:List (Option Nat))(g:CI->TG)(tt:CI->TT)(te:CI->TE)(σ : St)(H1:Hp)(R:List V->Hp->Prop):Prop :=
 ∀c:CI,∃W:Nat->Nat->List V->Hp->Prop,(∃m,W 0 m [] H1)/\∀i m ys H,W i m ys H →
  (J.stop i H/\R ys H) ∨
  (J.go i H/\ys.length<sizeLine/\∀x H',J.yld i H x H'->g c x (hU mp σ) H' fun σ2 H2=>tt c σ2 H2 fun b H3 =>
    if b=true then te c σ2 H3 fun y H4=>∃m',m'<m/\W (i+1) m' (ys++[y]) H4 else ∃m',m'<m/\W (i+1) m' ys H3)
noncomputable def tComp(wi:TI)(mp:List (Option Nat))(g:CI->TG)(tt:CI->TT)(te:CI->TE):TE:=fun σ H Q=>wi σ H fun J H1 =>
 SF J mp g tt te σ H1 fun ys H'=>ys.length<=sizeLine/\∀p,H' p=none->Q (.ref p) (upd H' p (.lst ys))
structure CompScope(X:Cx)(scope:Scope)(NY:List Str)(mp:List (Option Nat)):Prop where
 kind:scope.kind=.function
 nocell:∀y∈scope.names,y.2≠.cell
 names:∀y∈scope.names,y.2=.local->scope.names.lookup y.1=some .local
 free:∀y∈scope.names,y.2=.free->(X.env.kindOf y.1=some .cell\/X.env.kindOf y.1=some .free)
 len:mp.length=NY.length
 map:∀(i:Nat) (x:Str) (j:Nat),NY[i]?=some x->mp[i]?=some (some j)->X.N[j]?=some x/\scope.names.lookup x=some .free
theorem FC{prog:Program}{w:World}{A:Around}{R:Result->Shared->Prop}{s:Shared}{elt target iter:Expr}{ifs:List Expr}{scope:Scope}{pos:Pos}{it acc:Value}{env:Env}{Z:Value->Shared->Prop}(hZ:∀e s,Z e s->notedBy (model prog w) A env (fun x s'=>R (.error x) s') e s)(I:Nat->Shared->Prop)
  (turn:∀n s,I n s->wpAny (model prog w) A (pyNext it) (fun r s₁=>match r with
    |none=>R (.ok .next) s₁
    |some v=>wpAny (model prog w) A (letOwnedTupleGo target it v) (fun _ s₁'=>wpAny (model prog w) A (assign target env v) (fun _ s₂ =>
       wpAny (model prog w) A (forIn ifs true fun c r=>if r=true then do let ok <- isTrue c env (eval c env);pure (ForInStep.yield ok) else pure (ForInStep.yield r)) (fun ok s₃ =>
        if ok=true then wpAny (model prog w) A (eval elt env) (fun x s₄ =>
         wpAny (model prog w) A (call (.builtin "list.append") [acc,x]) (fun _ s₅=>∃m,m<n/\I m s₅) (fun _ _=>False) s₄) Z s₃
        else ∃m,m<n/\I m s₃) (fun _ _=>False) s₂) (fun _ _=>False) s₁') (fun _ _=>False) s₁) (fun _ _=>False) s)
  (n:Nat) (h:I n s) :
  codeAny (model prog w) A (.compLoop (.ListComp elt [⟨target,iter,ifs,0⟩] scope pos) 0 it acc env) R s:=by
 refine codeAny_loop rfl I (fun n s hI=>?_) n h;show wpAny _ A ((compTurn (.ListComp elt [⟨target,iter,ifs,0⟩] scope pos) 0 it acc env).onRaise (fun x=>do noteFrame x env;theTreesLotGoes x)) _ _ s;refine wpAny_noted ?_;rw[compTurn_list];refine wpAny_bind (wpAny_standAt (wpAny_bind (wpAny_mono (turn n s hI) (fun r s₁ h₁=>?_) fun _ _ h'=>h'.elim)));cases r with
 |none=>exact wpAny_pure h₁
 | some v =>
   refine wpAny_bind (wpAny_mono h₁ (fun _ s₁' h₁'=>?_) fun _ _ h'=>h'.elim);refine wpAny_bind (wpAny_mono h₁' (fun _ s₂ h₂=>wpAny_bind (wpAny_mono h₂ (fun ok s₃ h₃=>?_) fun _ _ h'=>h'.elim)) fun _ _ h'=>h'.elim);cases ok with
   |false=>exact wpAny_pure ⟨rfl,h₃⟩
   | true =>
     exact wpAny_bind (wpAny_bind (wpAny_mono h₃ (fun x s₄ h₄=>wpAny_bind (wpAny_mono h₄ (fun _ s₅ h₅=>wpAny_pure (wpAny_pure ⟨rfl,h₅⟩)) fun _ _ h'=>h'.elim)) fun e s' h'=>hZ e s' h'))
theorem vG{E:Value->Shared->Prop}{scope:Scope}{NY:List Str}{mp:List (Option Nat)}{tg iter elt:Expr}{ifs:List Expr}{pos:Pos}{g:CI->TG}{tt:CI->TT}{te:CI->TE}{pins:List (Addr×Obj)}{σ : St}{H:Hp}{s₂ : Shared}
  {J:It} {fp:List Addr} {it:Addr} {tn:Nat->Heap->Prop} {R:List V->Hp->Prop} {RR:Value->Addr->Result->Shared->Prop}
  {WW:CI->Value->Shared->Prop} {cm:Cx->Prop} (S:CompScope X scope NY mp) (hc:∀c:CI,c.H=H->cm (qT X scope NY c)) (I:Inv X pins σ H s₂) (T:Turn X.prog X.w X.K tg J fp it tn cm) (st:tn 0 s₂.heap) (hf:∀b∈fp,FpOk X pins H b)
  (hg:∀c,PG (qT X scope NY c) tg (g c)) (ht:∀c,PF (qT X scope NY c) ifs (tt c)) (he:∀c,PE ((qT X scope NY c).wish (WW c)) elt (te c))
  (err:∀c:CI,X.s₀.heap.objs.size<=c.C->c.C∉frs X.stack->(∀pl σ' H' s1,Inv (qT X scope NY c) pl σ' H' s1->Inv X pins σ H' s1)->∀e s',WW c e s'->notedBy (model X.prog X.w) X.A (qT X scope NY c).env (fun x s''=>RR (.ref s₂.heap.objs.size) c.C (.error x) s'') e s')
  (h:SF J mp g tt te σ H R)
  (fin:∀(s':Shared) (C:Addr) (m:Str->Option Value) (ys:List V) (H':Hp),R ys H'->H' s₂.heap.objs.size=none->H' C=none->C≠s₂.heap.objs.size->s'.heap.Ns C m →
    (ys.length<=sizeLine->Inv X pins σ (upd H' s₂.heap.objs.size (.lst ys)) s') →
    (C≠X.env.locals/\X.s₀.heap.objs.size<=C/\(∀x c,X.env.cells.lookup x=some c->c≠C)/\∀p∈X.pn++pins,p.1≠C)->RR (.ref s₂.heap.objs.size) C (.ok .next) s') :
  wpAny (model X.prog X.w) X.A (newList []) (fun acc s₃=>wpAny (model X.prog X.w) X.A (newFunctionEnv scope X.env.globals (vP X.env scope.names []) [] X.env.qual none .none (some X.env)) (fun cenv s₄ =>
   codeAny (model X.prog X.w) X.A (.compStart (.ListComp elt [⟨tg,iter,ifs,0⟩] scope pos) 0 (.ref it) acc { cenv with scope:=relabel scope X.env }) (RR acc cenv.locals) s₄) E s₃) E s₂:=by
 refine wpAny_newObj_type (wpAny_newFunctionEnv S.nocell (by intro y hy;simp at hy) (fun h₁ hns₁ hsb₁=>?_) S.kind);dsimp only at hns₁ hsb₁ ⊢;generalize hH2:s₂.heap.push { cls:=.type "list",dict:=none,data:=.seq ([]:List Value).toArray }=H2 at hns₁ hsb₁ ⊢;have hC:(H2.objs.size:Nat)=s₂.heap.objs.size+1:=by rw[<- hH2,nT]
 generalize hDd:s₂.heap.objs.size=D at fin err hC ⊢;generalize hCC:H2.objs.size=C at hns₁ hsb₁ hC ⊢;have hC:(C:Nat)=(D:Nat)+1:=hC;have hDC:D≠C:=fun z=>absurd (z.trans hC) (bS (mP _));have ltC:∀{b:Addr},b<D->b≠C:=fun {b} h=>bS (Nat.lt_of_lt_of_eq (Nat.lt_succ_of_lt h) hC.symm);have ltD:∀{b:Addr},b<D->b≠D:=fun {b} h=>bS h;have hlt:∀{b:Addr} {o:Obj},s₂.heap.get? b=some o->(b:Nat)<D:=fun e=>hDd▸aU e;have k2:∀b o,s₂.heap.get? b=some o->H2.get? b=some o:=fun b o e=>hH2▸aL _ e
 have k1:∀b o,H2.get? b=some o->h₁.get? b=some o:=fun b o e=>by
  have hb:b<C:=hCC▸aU e;exact hsb₁.extBut b o (bS hb) (aL _ e)
 have fr:∀a,D<=a->H a=none:=fun a ha=>I.hok.fresh (hDd▸ha);have accP:h₁.PlainList D #[]:=⟨_,k1 _ _ (by rw[<- hH2,<- hDd];exact bF _ rfl)⟩
 have fpo:∀b∈fp,(b:Nat)<D:=fun b hb=>let ⟨o,e,_⟩:=T.obj 0 _ st b hb;hlt e;have clF:∀x c,(vP X.env scope.names []).lookup x=some c->X.env.cells.lookup x=some c:=BC _ _ fun x c e=>nomatch e
 have cellLt:∀x c,X.env.cells.lookup x=some c->(c:Nat)<D:=fun x c e=>by
  obtain⟨v,o,ho,_⟩:=I.cell x c e;exact hlt ho
 have locLt:(X.env.locals:Nat)<D:=hDd▸I.lt
 have stkLt:∀b∈frs X.stack,(b:Nat)<D:=fun b hb=>by
  obtain⟨_,o,ho,_⟩:=I.stack.mem hb;exact hlt ho
 have fpStk:∀b∈fp,b∉frs X.stack:=fun b hb z=>by
  obtain⟨_,f1,f2,_⟩:=hf b hb;rcases aF.mp (I.stkSub b z) with q | q
  . exact f1 q
  . exact f2 q
 have pinLt:∀p∈X.pn++pins,(p.1:Nat)<D:=fun p hp=>hlt (I.pin p hp).1
 have pinStk:∀p∈X.pn++pins,p.1∉frs X.stack:=fun p hp z=>by
  obtain⟨_,_,f1,f2,_⟩:=I.pin p hp;rcases aF.mp (I.stkSub _ z) with q | q
  . exact f1 q
  . exact f2 q
 let Y:Cx:=qT X scope NY ⟨C,{ s₂ with heap:=H2 },H,D::fp⟩
 obtain⟨W,⟨m0,w0⟩,turn⟩:=h ⟨C,{ s₂ with heap:=H2 },H,D::fp⟩
 have okY:Y.Ok:=by
  refine⟨I.ok.mod,S.kind,I.ok.glob,I.ok.blt,lM hCC,fun x y c h1 h2=>I.ok.inj x y c (clF _ _ h1) (clF _ _ h2),fun x hx=>?_,fun x c hfn=>absurd hfn (by intro z;cases z),I.ok.hd,I.ok.frames,.inl rfl,fun b hb=>?_,fun b o e=>?_,?_,fun b o e=>?_,fun b hb=>?_,?_,I.stkFree⟩
  . have hx':(x,NameKind.free)∈scope.names:=by
     rcases hx with hx | hx
     . exact vK S.nocell hx (.inl rfl)
     . exact vK S.nocell hx (.inr rfl)
    obtain⟨c,e⟩:=I.ok.has x (S.free _ hx' rfl);exact sE _ _ x c hx' e
  . rcases aF.mp hb with z | z
    . subst z;exact⟨hDC,fun x c e q=>absurd (cellLt x c (clF x c e)) (by rw[q];exact bZ _)⟩
    . have := fpo b z;exact⟨ltC this,fun x c e q=>(hf b z).2.2.2.2.1 x c (clF x c e) q⟩
  . have := I.bs b o e;exact⟨k2 b o this.1,this.2⟩
  . refine⟨?_, I.tabsH⟩;show(X.base.objs.size:Nat)<=H2.objs.size;have h1:(X.base.objs.size:Nat)<=s₂.heap.objs.size:=cM I.ok.bsz.1 I.sz;have h2:(H2.objs.size:Nat)=C:=hCC;have h3:(s₂.heap.objs.size:Nat)=D:=hDd;omega
  . have hb := I.bs b o e;have hb':=hlt hb.1;intro z;rcases aF.mp z with z | z
    . rw[z] at hb';exact bZ _ hb'
    . rcases (hf b z).2.2.2.1 with q | q
      . exact I.ok.noex b o e q
      . exact absurd (aZ (aU (I.ok.bs b o e).1) q) (bZ _)
  . rcases aF.mp hb with z | z
    . subst z;exact fun q=>absurd (stkLt _ q) (bZ _)
    . exact fpStk b z
  . exact I.stack.of_keeps fun b o e _=>⟨o,k2 b o e,rfl⟩
 have capt:∀(i:Nat) (x:Str) (v:V),NY[i]?=some x->(hU mp σ)[i]?=some (some v)->∃u c,RelV v u/\(Y.env.kindOf x=some .cell\/Y.env.kindOf x=some .free)/\Y.env.cells.lookup x=some c/\H2.IsCell c (some u)/\(H c=none\/∃o u,H c=some (.frz o u))/\c∉D::fp:=by
  intro i x v e1 e2
  have e2':(mp[i]?.map fun o=>o.bind fun j=>σ[j]?.join)=some (some v):=by
   unfold hU at e2
   rwa [bV] at e2
  cases hm:mp[i]? with
  |none=>rw[hm] at e2';cases e2'
  | some o =>
    rw[hm] at e2';cases o with
    |none=>simp at e2'
    | some j =>
      simp only[aV,aC,Option.some.injEq] at e2'
      have e4 : σ[j]?=some (some v):=by
       cases hs : σ[j]? with
       |none=>rw[hs] at e2';cases e2'
       |some q=>rw[hs] at e2';simp at e2';rw[e2']
      obtain⟨hXj,hfr⟩:=S.map i x j e1 hm;have hmem:(x,NameKind.free)∈scope.names:=fN hfr;have hk:=S.free _ hmem rfl;obtain⟨m,hn,hl⟩:=I.loc;obtain⟨u,ru,l⟩:=hl j x v hXj e4 (hk.elim (fun z=>.inr (.inl z)) fun z=>.inr (.inr z))
      have hlook:∃c,X.env.cells.lookup x=some c/\s₂.heap.IsCell c (some u):=by
       rcases l with⟨kl,_⟩ | ⟨_,c,ec,hcell⟩
       . rcases hk with q | q
         . exact absurd (kl.symm.trans q) (by intro z;cases z)
         . exact absurd (kl.symm.trans q) (by intro z;cases z)
       . exact⟨c,ec,hcell⟩
      obtain⟨c,ec,oc,hoc,hocd⟩:=hlook;obtain⟨c',ec'⟩:=sE (env:=X.env) scope.names [] x c hmem ec;have:c'=c:=Option.some.inj ((clF x c' ec').symm.trans ec);subst this;refine⟨u,c',ru,kS hfr,ec',⟨oc,k2 _ _ hoc,hocd⟩,(I.freeC x c' ec).imp id And.right,fun z=>?_⟩;rcases aF.mp z with z | z
      . have:=cellLt x c' ec;rw[z] at this;exact bZ _ this
      . exact(hf c' z).2.2.2.2.1 x c' ec rfl
 have lenY:(hU mp σ).length=NY.length:=by
  unfold hU;rw[dC];exact S.len
 have I0:∀tk,Inv Y [] (hU mp σ) H { s₂ with heap:=h₁,toks:=tk }:=by
  intro tk;refine⟨okY,rfl,I.bare,Un.kept k1,⟨_,hns₁,fun i x v e1 e2 e3=>?_⟩,fun x c e=>?_,fr C (by show(D:Nat)<=C;omega),fun x c e=>(I.freeC x c (clF x c e)).imp id fun z=>⟨rfl,z.2⟩,fun p hp=>absurd (show p∈([]:List (Addr×Obj)) from hp) (by simp),I.hok.kept fun b o e=>k1 b o (k2 b o e),lenY⟩
  . obtain⟨u, c, ru, hk, ec, ⟨oc, hoc, hocd⟩, _⟩ := capt i x v e1 e2;exact⟨u,ru,.inr ⟨hk,c,ec,oc,k1 _ _ hoc,hocd⟩⟩
  . obtain⟨v, o, ho, hd⟩ := I.cell x c (clF x c e);exact⟨v,o,k1 _ _ (k2 _ _ ho),hd⟩
 have stat:∀{H':Hp} {pl:List (Addr×Obj)},(∀p∈pl,p.1∉fp)->(∀b∈fp,H' b=none)->∀b∈fp,FpOk Y pl H' b:=fun hpl hn b hb=>by
  have hbD:=fpo b hb;refine⟨hn b hb,ltC hbD,fpStk b hb,.inl (aI _ hb),fun x c e=>(hf b hb).2.2.2.2.1 x c (clF x c e),fun p hp z=>hpl p (show p∈_ from hp) (z▸hb)⟩
 have dN:D∉Y.fs:=fun q=>absurd (stkLt _ q) (bZ _);have dFp:D∉fp:=fun q=>absurd (fpo _ q) (bZ _)
 have plD:∀(o:Obj),∀p∈[(D,o)],p.1∉fp:=fun o p hp=>by
  have e:p=(D,o):=by simpa using hp
  rw[e];exact dFp
 have toX:∀pl σ' H3 s4,Inv Y pl σ' H3 s4->Inv X pins σ H3 s4:=fun pl σ' H3 s4 I4=>by
  have u:Un (frs X.stack) fp H H3 s₂.heap s4.heap:=by
   have B:Un (frs X.stack) (D::fp) H H3 H2 s4.heap:=I4.base
   have nx:∀{b:Addr} {o:Obj},s₂.heap.get? b=some o->b∉fp->b∉D::fp:=fun e hb z=>by
    rcases aF.mp z with z | z
    . have:=hlt e;rw[z] at this;exact bZ _ this
    . exact hb z
   exact⟨fun b o q n hb hx=>B.keep b o (k2 b o q) n hb (nx q hx),fun b o q n hb hx=>B.slot b o (k2 b o q) n hb (nx q hx),fun b o q n hx=>B.free b o (k2 b o q) n (nx q hx),fun b o q hx=>B.there b o (k2 b o q) (nx q hx),B.tups,B.frzs,B.tbls⟩
  exact I.call' I4.os u I4.hok I4.bare fun b hb=>⟨(hf b hb).2.2.2.1,(hf b hb).2.1,(hf b hb).2.2.2.2.1,(hf b hb).2.2.2.2.2⟩
 have keyC:∀(tk:Nat) (it':Value),it'=.ref it->codeAny (model X.prog X.w) X.A (.compLoop (.ListComp elt [⟨tg,iter,ifs,0⟩] scope pos) 0 it' (.ref D) Y.env) (RR (.ref D) C) { s₂ with heap:=h₁,toks:=tk }:=by
  rintro tk _ rfl
  refine FC (Z:=WW ⟨C,{ s₂ with heap:=H2 },H,D::fp⟩) (fun e s' z=>err ⟨C,{ s₂ with heap:=H2 },H,D::fp⟩ (by have:(X.s₀.heap.objs.size:Nat)<=D:=hDd▸I.sz;show(X.s₀.heap.objs.size:Nat)<=C;omega) (fun q=>absurd (stkLt _ q) (by show ¬(C:Nat)<D;omega)) toX e s' z) (fun n s'=>∃i ys H' its,Inv Y [] (hU mp σ) H' s'/\tn i s'.heap/\(∀b∈fp,H' b=none)/\H' D=none/\s'.heap.PlainList D its/\Vals ys its.toList/\W i n ys H') ?_ m0
   ⟨0,[],H,#[],I0 tk,T.keep 0 _ _ st fun b _ o e=>k1 b o (k2 b o e),fun b hb=>(hf b hb).1,fr D (aQ _),accP,.nil,w0⟩
  rintro n s3 ⟨i,ys,H3,its,I3,st3,fr3,d3,⟨kk,pl3⟩,rv3,w3⟩
  have I3':Inv Y [(D,{ cls:=.type "list",data:=.seq its kk })] (hU mp σ) H3 s3:=I3.pins_of fun p hp=>by
   have e:p=(D,{ cls:=.type "list",data:=.seq its kk }):=by simpa using hp
   subst e;exact⟨pl3,d3,hDC,dN,fun v z=>nomatch (show Data.seq its kk=Data.cell v from z)⟩
  rcases turn i n ys H3 w3 with⟨stop,qn⟩ | ⟨go,hsz,step⟩
  . refine thn (T.done Y rfl rfl rfl (hc ⟨C, { s₂ with heap := H2 }, H, D :: fp⟩ rfl) i _ s3 _ H3 _ I3' (stat (plD _) fr3) st3 stop) fun r s4 ⟨hr, I4⟩ => ?_;subst hr;have hD4:s4.heap.get? D=some { cls:=.type "list",data:=.seq its kk }:=(I4.pin (D,_) (by simp)).1;have J4:Inv X pins σ H3 s4:=toX _ _ _ _ I4;obtain ⟨m4,hn4,_⟩:=I4.loc;refine fin s4 C m4 ys H3 qn d3 I4.free (Ne.symm hDC) hn4 (fun hz=>?_) ⟨(ltC locLt).symm,?_,fun x c e=>?_,fun p hp=>?_⟩
    . refine J4.adopt d3 ?_ (ltD locLt).symm (fun x c e => ?_) (fun p hp => ?_) ⟨hz, its.toList, kk, rv3, hD4⟩
      . exact hDd▸I.sz
      . exact ltD (cellLt x c e)
      . exact ltD (pinLt p hp)
    . have : (X.s₀.heap.objs.size : Nat)<=D := hDd▸I.sz;show(X.s₀.heap.objs.size:Nat)<=C;omega
    . exact ltC (cellLt x c e)
    . exact ltC (pinLt p hp)
  . refine thn (T.item Y rfl rfl rfl (hc ⟨C, { s₂ with heap := H2 }, H, D :: fp⟩ rfl) i _ s3 _ H3 _ I3' (stat (plD _) fr3) st3 go) fun r s4 ⟨u, hr, h4⟩ => ?_;subst hr;refine thn h4 fun _ s5 ⟨x,H5,I5,r5,y5,st5,fr5⟩=>?_;have I5':=I5.pinned (stat (plD _) fr5) (T.obj _ _ st5);refine thn (hg _ _ s5 _ H5 x u _ I5' r5 (step x H5 y5)) fun _ s6 ⟨σ6,H6,I6,q6⟩=>?_;refine thn (ht _ _ s6 σ6 H6 _ I6 q6) fun ok s7 ⟨H7,I7,q7⟩=>?_
    have back:∀{s8:Shared} {σ8:St} {H8:Hp},Inv Y ([(D,{ cls:=.type "list",data:=.seq its kk })]++AC fp s5.heap) σ8 H8 s8 →
      tn (i+1) s8.heap/\(∀b∈fp,H8 b=none)/\H8 D=none/\s8.heap.get? D=some { cls:=.type "list",data:=.seq its kk }:=fun {s8 σ8 H8} I8=>by
     refine⟨T.keep _ _ _ st5 fun b hb o e=>(I8.pin (b,o) (bC _ (bC _ (xZ hb e)))).1,fun b hb=>?_,?_,?_⟩
     . obtain⟨o, e, d⟩ := T.obj _ _ st5 b hb;exact(I8.pin (b,o) (bC _ (bC _ (xZ hb e)))).2.1
     . exact(I8.pin (D,_) (bC _ (dB _ (bG.mpr rfl)))).2.1
     . exact(I8.pin (D,_) (bC _ (dB _ (bG.mpr rfl)))).1
    have drop:∀{s8:Shared} {σ8:St} {H8:Hp} {pl:List (Addr×Obj)},Inv Y pl σ8 H8 s8->Inv Y [] (hU mp σ) H8 s8:=fun {s8 σ8 H8 pl} I8=>by
     obtain⟨m8,hn8,_⟩:=I8.loc;refine⟨I8.ok,I8.os,I8.bare,I8.base,⟨m8,hn8,fun i x v e1 e2 e3=>?_⟩,I8.cell,I8.free,I8.freeC,fun p hp=>absurd (show p∈([]:List (Addr×Obj)) from hp) (by simp),I8.hok,lenY⟩;obtain⟨u,c,ru,hk,ec,⟨oc,hoc,hocd⟩,hn,hx⟩:=capt i x v e1 e2;rcases hn with hn | ⟨ob,ub,hn⟩
     . obtain⟨sl, e⟩ := I8.base.any hoc hn hx;exact⟨u,ru,.inr ⟨hk,c,ec,_,e,hocd⟩⟩
     . obtain⟨e1, _⟩ := I.hok c _ hn;obtain⟨e2,_⟩:=I8.hok c _ (I8.base.frzs c ob ub hn);have e3:=k2 _ _ e1;rw[hoc] at e3;cases e3;exact⟨u,ru,.inr ⟨hk,c,ec,oc,e2,hocd⟩⟩
    cases ok with
    | false =>
      obtain⟨m',hm',w'⟩:=q7;obtain⟨b1,b2,b3,b4⟩:=back I7;exact⟨m',hm',i+1,ys,H7,its,drop I7,b1,b2,b3,⟨kk,b4⟩,rv3,w'⟩
    | true =>
      refine thn (he _ _ s7 σ6 H7 _ (I7.wish _) q7) fun y s8 ⟨yv,H8,I8w,r8,q8⟩=>?_;have I8:=I8w.unwish;obtain⟨b1,b2,b3,b4⟩:=back I8;have hl:ys.length=its.size:=by simpa using rv3.length
      refine wpAny_list_append_plain (items:=its) ⟨kk,b4⟩ (fun h' pl' sb=>?_) (by omega);obtain⟨m',hm',w'⟩:=q8;have I9:Inv Y [] (hU mp σ) H8 { s8 with heap:=h' }:=(drop I8).turned (it:=D) (t':=s8.toks) (fun b o hb e=>(sb.2 b hb).trans e) b3 hDC (.inl aP) (fun x c e=>ltD (cellLt x c (clF x c e))) fun p hp=>absurd (show p∈([]:List (Addr×Obj)) from hp) (by simp);refine⟨m',hm',i+1,ys++[yv],H8,its.push y,I9,?_,b2,b3,pl',?_,w'⟩
      . exact T.keep _ _ _ b1 fun b hb o e=>(sb.2 b (fun z=>dFp (z▸hb))).trans e
      . rw[Array.toList_push];exact rv3.append (.cons r8 .nil)
 exact codeAny_compStart_list (keyC _ _ rfl) (T.self _ 0 _ _ _ (T.keep 0 _ _ st fun b _ o e=>k1 b o (k2 b o e)) (keyC _ _ rfl))
theorem TY{scope:Scope}{NY:List Str}{mp:List (Option Nat)}{tg iter elt:Expr}{ifs:List Expr}{pos:Pos}{wi:TI}{g:CI->TG}{tt:CI->TT}{te:CI->TE}
  {cm:Cx->Prop} (S:CompScope X scope NY mp) (hc:∀pins σ H s,Inv X pins σ H s->∀c:CI,c.H=H->cm (qT X scope NY c)) (hi:PI X tg iter wi cm)
  (hg:∀c,PG (qT X scope NY c) tg (g c)) (ht:∀c,PF (qT X scope NY c) ifs (tt c)) (he:∀c,PE (qT X scope NY c) elt (te c))
  (hs:∀x,foldedSetIterable iter X.env x=pure x:=by intro _;rfl):PE X (.ListComp elt [⟨tg,iter,ifs,0⟩] scope pos) (tComp wi mp g tt te):=by
 intro pins s σ H Q I h;rw[eval_ListComp];refine wpAny_comprehension_free (use:=none) rfl hs (xO fun y hy hk=>I.ok.has y.1 (S.free y hy hk)) S.kind S.names (thn (hi pins s σ H _ I h) fun v s1 h1=>thn h1 fun itv s2 h2=>?_);obtain⟨it,fp,tn,J,H2,e,I2,T,st2,f2,hk⟩:=h2;subst e;refine vG (RR:=fun acc C=>compPost (model X.prog X.w) X.A X.xe none (EP X pins σ Q) acc C) (WW:=fun _ _ _=>False) S (hc _ _ _ _ I2) I2 T st2 f2 hg ht he (fun _ _ _ _ _ _ z=>z.elim) hk ?_;intro s' C m ys H' q hD hC hCD hn hI hct;refine⟨m,hn,fun h' sb=>?_⟩;have J':=hI q.1;refine⟨.ref s2.heap.objs.size,_,J'.turned (it:=C) (t':=s'.toks) (fun b o hb e=>(sb.2 b hb).trans e) (by rw[zX hCD];exact hC) hct.1 (.inr hct.2.1) hct.2.2.1 hct.2.2.2,rfl,q.2 _ hD⟩
theorem LV{scope:Scope}{NY:List Str}{mp:List (Option Nat)}{tg iter elt:Expr}{ifs:List Expr}{pos:Pos}{wi:TI}{g:CI->TG}{tt:CI->TT}{te:CI->TE}
  (S:CompScope X scope NY mp) (hc:X.calm=true) (hi:PI X tg iter wi)
  (hg:∀c,PG (qT X scope NY c) tg (g c)) (ht:∀c,PF (qT X scope NY c) ifs (tt c)) (he:∀c,PE (qT X scope NY c) elt (te c))
  (hs:∀x,foldedSetIterable iter X.env x=pure x:=by intro _;rfl):PE X (.ListComp elt [⟨tg,iter,ifs,0⟩] scope pos) (tComp wi mp g tt te):=TY S (fun _ _ _ _ _ _ _=>hc) hi hg ht he hs
noncomputable def SE(wi:TI)(mp:List (Option Nat))(g:CI->TG)(tt:CI->TT)(te:CI->TE)(i:Nat):TS:=fun D σ H=>tComp wi mp g tt te σ H fun v H1=>D.nx (σ.set i (some v)) H1
theorem YH{i:Nat}{y:Str}{py:Pos}{scope:Scope}{NY:List Str}{mp:List (Option Nat)}{tg iter elt:Expr}{ifs:List Expr}{pos spos:Pos}{wi:TI}{g:CI->TG}{tt:CI->TT}{te:CI->TE}
  (hN:X.N.Nodup) (hy:X.N[i]?=some y) (hl:X.env.scope.names.lookup y=some .local)
  (hsw:swapsWith (.ListComp elt [⟨tg,iter,ifs,0⟩] scope pos) (some (.Name y py)) spos.line X.env=pure true)
  (S:CompScope X scope NY mp) (hc:X.calm=true) (hi:PI X tg iter wi)
  (hg:∀c,PG (qT X scope NY c) tg (g c)) (ht:∀c,PF (qT X scope NY c) ifs (tt c)) (he:∀c,PE (qT X scope NY c) elt (te c))
  (hs:∀x,foldedSetIterable iter X.env x=pure x:=by intro _;rfl):PS X (.Assign [.Name y py] (.ListComp elt [⟨tg,iter,ifs,0⟩] scope pos) spos) (SE wi mp g tt te i):=by
 intro pins s σ H D I h;rw[exec_Assign_Name_used _ _ _ _ hsw];refine wpAny_bind (wpAny_standAt (wpAny_bind ?_));show wpAny _ X.A (do let _ <- comprehension (.ListComp elt [⟨tg,iter,ifs,0⟩] scope pos) scope X.env _ (newList []) false (eval iter X.env) (some (assign (.Name y py) X.env))) _ _ s
 refine wpAny_bind (wpAny_mono (wpAny_comprehension_free (use:=some (assign (.Name y py) X.env)) (Q:=fun _ s'=>SP X pins D .next s') rfl hs (xO fun y hy hk=>I.ok.has y.1 (S.free y hy hk)) S.kind S.names
  (thn (hi pins s σ H _ I h) fun v s1 h1=>thn h1 fun itv s2 h2=>?_)) (fun _ s' hq=>wpAny_pure (wpAny_pure hq)) fun _ _ e=>e)
 obtain⟨it,fp,tn,J,H2,e,I2,T,st2,f2,hk⟩:=h2;subst e;refine vG (RR:=fun acc C=>compPost (model X.prog X.w) X.A X.xe (some (assign (.Name y py) X.env)) (fun _ s'=>SP X pins D .next s') acc C) (WW:=fun _ _ _=>False) S (fun _ _=>hc) I2 T st2 f2 hg ht he (fun _ _ _ _ _ _ z=>z.elim) hk ?_;intro s' C m ys H' q hD hC hCD hn hI hct;have J':=hI q.1;refine wpAny_assign_Name (kD J' hN hy (.inl hl) (v:=.ref s2.heap.objs.size) rfl (fun s'' I'' sb=>?_) (.inr hl));obtain⟨a,sba,ha⟩:=sb
 have haC:C≠a:=by
  rcases ha with rfl | ha
  . exact hct.1
  . exact fun z=>hct.2.2.1 _ _ ha z.symm
 refine⟨m,hn.sameBut sba haC,fun h' sb'=>?_⟩;exact⟨_,_,I''.turned (it:=C) (t':=s''.toks) (fun b o hb e=>(sb'.2 b hb).trans e) (by rw[zX hCD];exact hC) hct.1 (.inr hct.2.1) hct.2.2.1 hct.2.2.2,q.2 _ hD⟩
end
end L2
namespace FL
open PySem PySem.Spec PyProof.Rows L2
abbrev Frag:=aH
noncomputable def KLst(K:Frag)(a:Addr)(xs:List V):Prop:=∃(o:Obj) (its:Array Value) (n:Nat),K.lookup a=some o/\o.cls=.type "list"/\o.dict=none/\o.data=.seq its n/\its.size<=sizeLine/\Vals xs its.toList
noncomputable def KTup(K:Frag)(a:Addr)(xs:List V):Prop:=∃(o:Obj) (its:Array Value) (n:Nat),K.lookup a=some o/\o.cls=.type "tuple"/\o.data=.seq its n/\its.size<=sizeLine/\Vals xs its.toList
structure LamT where
 qual:Str
 params:Arguments
 body:FuncBody
 scope:Scope
noncomputable def lamsE(q:Str):Nat->Expr->List LamT
 |0,_=>[]
 | n + 1, e => match e with
   | .Lambda a b sc _=>[⟨q++"<lambda>",a,.expr b,sc⟩]
   | .Call _ as _ _=>as.flatMap (lamsE q n)
   | .Compare l _ cs _=>lamsE q n l++cs.flatMap (lamsE q n)
   | .BoolOp _ vs _=>vs.flatMap (lamsE q n)
   | .UnaryOp _ o _=>lamsE q n o
   | .BinOp l _ r _=>lamsE q n l++lamsE q n r
   | .IfExp t b o _=>lamsE q n t++(lamsE q n b++lamsE q n o)
   | .List es _=>es.flatMap (lamsE q n)
   | .Tuple es _ _=>es.flatMap (lamsE q n)
   | .Subscript v i _=>lamsE q n v++lamsE q n i
   |_=>[]
noncomputable def lamsS(q:Str):Nat->Stmt->List LamT
 |0,_=>[]
 | n + 1, s => match s with
   | .FunctionDef x a b _ _ _ sc _ _ _=>[⟨q++x,a,.stmts b,sc⟩]
   | .Assign _ e _=>lamsE q 12 e
   | .Return (some e) _=>lamsE q 12 e
   | .Expr e _=>lamsE q 12 e
   | .If t a b _=>lamsE q 12 t++(a.flatMap (lamsS q n)++b.flatMap (lamsS q n))
   | .For _ _ a _ _=>a.flatMap (lamsS q n)
   | .While _ a _ _=>a.flatMap (lamsS q n)
   |_=>[]
noncomputable def lamsOf(x:Str)(b:List Stmt):List LamT:=b.flatMap (lamsS (x++".<locals>.") 8)
noncomputable def textIn(K:aH)(m n:Nat):Option LamT:=(makers[m]?).bind fun x=>match aJ K mainGlobals x with
 | some (some (.ref f)) => (match K.lookup f with
   | some ⟨_, _, .func fd, _⟩ => (match fd.body with
     | .stmts b=>(lamsOf x b)[n]?
     |_=>none)
   |_=>none)
 |_=>none
noncomputable def freeR(l:List (Str×NameKind)):List Str:=((l.filter fun y=>y.2==NameKind.free).map (·.1)).reverse
inductive ClosOk(H:Hp)(O:Addr->Prop):List (Str×Addr)->List V->Prop
 |nil:ClosOk H O [] []
 |cons {n:Str} {c:Addr} {o:Obj} {u:HO} {w:Value} {x:V} {cl:List (Str×Addr)} {xs:List V} (no : ¬O c) (h:H c=some (.frz o u)) (d:o.data=.cell (some w)) (r:RelV x w) (t:ClosOk H O cl xs):ClosOk H O ((n,c)::cl) (x::xs)
noncomputable def LamAt(H:Hp)(O:Addr->Prop)(f:Addr)(t:LamT)(cl:List (Str×Addr)):Prop:=¬O f/\∃(o oc:Obj) (u uc:HO) (fd:FuncData) (c:Addr) (vs:Array Value) (tq:Tok),
 H f=some (.frz o u)/\o.cls=.type "function"/\o.data=.func fd/\fd.qualname=t.qual/\fd.params=t.params/\fd.body=t.body/\fd.scope=t.scope/\fd.globals=mainGlobals/\fd.closure=cl/\fd.defaults=.none/\fd.kwdefaults=.none/\fd.code=.ref c/\fd.builtins=builtinsNs ∧
 ¬O c/\H c=some (.frz oc uc)/\oc.data=.fields vs/\vs[1]?=some (.str t.qual tq)
mutual
inductive Rep(K:Frag)(H:Hp)(O:Addr->Prop):V->D->Prop
 |non:Rep K H O .non .non
 |bl (b:Bool):Rep K H O (.bl b) (.bl b)
 |int (i:Int):Rep K H O (.int i) (.int i)
 |str (x:Str):Rep K H O (.str x) (.str x)
 |tup {a:Addr} {xs:List V} {ds:List D} (n : ¬O a) (h:Rd H a (.tup xs)) (r:Reps K H O xs ds):Rep K H O (.ref a) (.tup ds)
 |tupK {a:Addr} {xs:List V} {ds:List D} (h:KTup K a xs) (r:Reps K H O xs ds):Rep K H O (.ref a) (.tup ds)
 |lst {a:Addr} {xs:List V} {ds:List D} (n : ¬O a) (h:Rd H a (.lst xs)) (r:Reps K H O xs ds):Rep K H O (.ref a) (.lst ds)
 |lstK {a:Addr} {xs:List V} {ds:List D} (h:KLst K a xs) (r:Reps K H O xs ds):Rep K H O (.ref a) (.lst ds)
 |dct {a:Addr} {kvs:List (Key×V)} {ks:List Key} {ds:List D} (n : ¬O a) (h:H a=some (.dK kvs)) (e:kvs.map (·.1)=ks) (r:Reps K H O (kvs.map (·.2)) ds):Rep K H O (.ref a) (.dct ks ds)
 |dcf {a:Addr} {o:Obj} {kvs:List (Key×V)} {ks:List Key} {ds:List D} (n : ¬O a) (h:H a=some (.frz o (.dK kvs))) (e:kvs.map (·.1)=ks) (r:Reps K H O (kvs.map (·.2)) ds):Rep K H O (.ref a) (.dcf ks ds)
 |ins {a C dx:Addr} {t:Nat} {kvs:List (Str×V)} {ds:List D} (c:aJ K mainGlobals (gD t)=some (some (.ref C))) (n : ¬O a) (h:H a=some (.ins C dx kvs)) (e:kvs.map (·.1)=eK t) (r:Reps K H O (kvs.map (·.2)) ds):Rep K H O (.ref a) (.ins t ds)
 |clo {f:Addr} {m n:Nat} {t:LamT} {cl:List (Str×Addr)} {xs:List V} {ds:List D} (tx:textIn K m n=some t) (h:LamAt H O f t cl) (e:cl.map (·.1)=freeR t.scope.names) (nd:(cl.map (·.2)).Nodup) (c:ClosOk H O cl xs) (r:Reps K H O xs ds):Rep K H O (.ref f) (.clo m n ds)
 |fnK {f:Addr} {k:Nat} (h:aJ K mainGlobals (fnName k)=some (some (.ref f))):Rep K H O (.ref f) (.clo 1000 k [])
inductive Reps(K:Frag)(H:Hp)(O:Addr->Prop):List V->List D->Prop
 |nil:Reps K H O [] []
 |cons {x:V} {d:D} {xs:List V} {ds:List D} (h:Rep K H O x d) (t:Reps K H O xs ds):Reps K H O (x::xs) (d::ds)
end
section
variable{K:Frag}{H H':Hp}{O O':Addr->Prop}
noncomputable def Keep(O:Addr->Prop)(H H':Hp):Prop:=∀b o,¬O b->H b=some o->H' b=some o
theorem Keep.of_same(h:Same H H'):Keep O H H':=fun b o _ e=>h b o e
theorem Keep.rd{a:Addr}{u:HO}(k:Keep O H H')(n : ¬O a)(h:Rd H a u):Rd H' a u:=by
 rcases h with h | ⟨o,h⟩
 . exact .inl (k _ _ n h)
 . exact .inr ⟨o,k _ _ n h⟩
theorem ClosOk.keep(k:Keep O H H'):∀{cl:List (Str×Addr)} {xs:List V},ClosOk H O cl xs->ClosOk H' O cl xs
 |_,_,.nil=>.nil
 |_,_,.cons no h d r t=>.cons no (k _ _ no h) d r (ClosOk.keep k t)
theorem LamAt.keep{f:Addr}{t:LamT}{cl:List (Str×Addr)}(k:Keep O H H')(h:LamAt H O f t cl):LamAt H' O f t cl:=by
 obtain⟨n,o,oc,u,uc,fd,c,vs,tq,h1,h2,h3,h4,h5,h6,h7,h8,h9,h10,h11,h12,h13,h14,h15,h16,h17⟩:=h;exact⟨n,o,oc,u,uc,fd,c,vs,tq,k _ _ n h1,h2,h3,h4,h5,h6,h7,h8,h9,h10,h11,h12,h13,h14,k _ _ h14 h15,h16,h17⟩
theorem ClosOk.nots(k:∀a,O' a->O a):∀{cl:List (Str×Addr)} {xs:List V},ClosOk H O cl xs->ClosOk H O' cl xs
 |_,_,.nil=>.nil
 |_,_,.cons no h d r t=>.cons (fun z=>no (k _ z)) h d r (ClosOk.nots k t)
theorem LamAt.nots{f:Addr}{t:LamT}{cl:List (Str×Addr)}(k:∀a,O' a->O a)(h:LamAt H O f t cl):LamAt H O' f t cl:=by
 obtain⟨n,o,oc,u,uc,fd,c,vs,tq,h1,h2,h3,h4,h5,h6,h7,h8,h9,h10,h11,h12,h13,h14,h15,h16,h17⟩:=h;exact⟨fun z=>n (k _ z),o,oc,u,uc,fd,c,vs,tq,h1,h2,h3,h4,h5,h6,h7,h8,h9,h10,h11,h12,h13,fun z=>h14 (k _ z),h15,h16,h17⟩
noncomputable def ins1(p:Addr)(O:Addr->Prop):Addr->Prop:=fun b=>b=p\/O b
theorem ClosOk.ins{p:Addr}(hp:H p=none):∀{cl:List (Str×Addr)} {xs:List V},ClosOk H O cl xs->ClosOk H (ins1 p O) cl xs
 |_,_,.nil=>.nil
 |_,_,.cons no h d r t=>.cons (fun z=>z.elim (fun e=>by rw[e,hp] at h;cases h) no) h d r (ClosOk.ins hp t)
theorem LamAt.ins{p f:Addr}{t:LamT}{cl:List (Str×Addr)}(hp:H p=none)(h:LamAt H O f t cl):LamAt H (ins1 p O) f t cl:=by
 obtain⟨n,o,oc,u,uc,fd,c,vs,tq,h1,h2,h3,h4,h5,h6,h7,h8,h9,h10,h11,h12,h13,h14,h15,h16,h17⟩:=h;exact⟨fun z=>z.elim (fun e=>by rw[e,hp] at h1;cases h1) n,o,oc,u,uc,fd,c,vs,tq,h1,h2,h3,h4,h5,h6,h7,h8,h9,h10,h11,h12,h13,fun z=>z.elim (fun e=>by rw[e,hp] at h15;cases h15) h14,h15,h16,h17⟩
mutual
theorem Rep.keep(k:Keep O H H'):∀{v:V} {d:D},Rep K H O v d->Rep K H' O v d
 |_,_,.non=>.non
 |_,_,.bl b=>.bl b
 |_,_,.int i=>.int i
 |_,_,.str x=>.str x
 |_,_,.tup n h r=>.tup n (k.rd n h) (Reps.keep k r)
 |_,_,.tupK h r=>.tupK h (Reps.keep k r)
 |_,_,.lst n h r=>.lst n (k.rd n h) (Reps.keep k r)
 |_,_,.lstK h r=>.lstK h (Reps.keep k r)
 |_,_,.dct n h e r=>.dct n (k _ _ n h) e (Reps.keep k r)
 |_,_,.dcf n h e r=>.dcf n (k _ _ n h) e (Reps.keep k r)
 |_,_,.ins c n h e r=>.ins c n (k _ _ n h) e (Reps.keep k r)
 |_,_,.clo tx h e nd c r=>.clo tx (h.keep k) e nd (c.keep k) (Reps.keep k r)
 |_,_,.fnK h=>.fnK h
theorem Reps.keep(k:Keep O H H'):∀{vs:List V} {ds:List D},Reps K H O vs ds->Reps K H' O vs ds
 |_,_,.nil=>.nil
 |_,_,.cons h t=>.cons (Rep.keep k h) (Reps.keep k t)
end
theorem Rep.mono(k:Same H H'){v:V}{d:D}(h:Rep K H O v d):Rep K H' O v d:=h.keep (.of_same k)
theorem Reps.mono(k:Same H H'){v:List V}{d:List D}(h:Reps K H O v d):Reps K H' O v d:=h.keep (.of_same k)
mutual
theorem Rep.less(k:∀a,O' a->O a):∀{v:V} {d:D},Rep K H O v d->Rep K H O' v d
 |_,_,.non=>.non
 |_,_,.bl b=>.bl b
 |_,_,.int i=>.int i
 |_,_,.str x=>.str x
 |_,_,.tup n h r=>.tup (fun z=>n (k _ z)) h (Reps.less k r)
 |_,_,.tupK h r=>.tupK h (Reps.less k r)
 |_,_,.lst n h r=>.lst (fun z=>n (k _ z)) h (Reps.less k r)
 |_,_,.lstK h r=>.lstK h (Reps.less k r)
 |_,_,.dct n h e r=>.dct (fun z=>n (k _ z)) h e (Reps.less k r)
 |_,_,.dcf n h e r=>.dcf (fun z=>n (k _ z)) h e (Reps.less k r)
 |_,_,.ins c n h e r=>.ins c (fun z=>n (k _ z)) h e (Reps.less k r)
 |_,_,.clo tx h e nd c r=>.clo tx (h.nots k) e nd (c.nots k) (Reps.less k r)
 |_,_,.fnK h=>.fnK h
theorem Reps.less(k:∀a,O' a->O a):∀{vs:List V} {ds:List D},Reps K H O vs ds->Reps K H O' vs ds
 |_,_,.nil=>.nil
 |_,_,.cons h t=>.cons (Rep.less k h) (Reps.less k t)
end
theorem Rd.some{a:Addr}{u:HO}(h:Rd H a u):H a≠none:=by
 rcases h with h | ⟨o,h⟩<;>(rw[h];simp)
mutual
theorem Rep.more{p:Addr}(hp:H p=none):∀{v:V} {d:D},Rep K H O v d->Rep K H (ins1 p O) v d
 |_,_,.non=>.non
 |_,_,.bl b=>.bl b
 |_,_,.int i=>.int i
 |_,_,.str x=>.str x
 |_,_,.tup n h r=>.tup (fun z=>z.elim (fun e=>Rd.some h (e▸hp)) n) h (Reps.more hp r)
 |_,_,.tupK h r=>.tupK h (Reps.more hp r)
 |_,_,.lst n h r=>.lst (fun z=>z.elim (fun e=>Rd.some h (e▸hp)) n) h (Reps.more hp r)
 |_,_,.lstK h r=>.lstK h (Reps.more hp r)
 |_,_,.dct n h e r=>.dct (fun z=>z.elim (fun e=>by rw[e,hp] at h;cases h) n) h e (Reps.more hp r)
 |_,_,.dcf n h e r=>.dcf (fun z=>z.elim (fun e=>by rw[e,hp] at h;cases h) n) h e (Reps.more hp r)
 |_,_,.ins c n h e r=>.ins c (fun z=>z.elim (fun e=>by rw[e,hp] at h;cases h) n) h e (Reps.more hp r)
 |_,_,.clo tx h e nd c r=>.clo tx (h.ins hp) e nd (c.ins hp) (Reps.more hp r)
 |_,_,.fnK h=>.fnK h
theorem Reps.more{p:Addr}(hp:H p=none):∀{vs:List V} {ds:List D},Reps K H O vs ds->Reps K H (ins1 p O) vs ds
 |_,_,.nil=>.nil
 |_,_,.cons h t=>.cons (Rep.more hp h) (Reps.more hp t)
end
noncomputable def mutO:HO->Bool
 | .lst _ | .dK _ | .dT _ | .set _ _ | .ins _ _ _=>true
 |_=>false
noncomputable def MutHO:={ u:HO // mutO u=true }
noncomputable def Old(H:Hp):Addr->Prop:=fun a=>∃o,H a=some o/\mutO o=true
theorem Old.mono(k:Same H H'){a:Addr}(h:Old H a):Old H' a:=let ⟨o,e,m⟩:=h;⟨o,k _ _ e,m⟩
noncomputable def yE:Addr->Prop:=fun _=>False
mutual
theorem Rep.flatten(ho:∀a,O a->Old H a):∀{v:V} {d:D},flat d=true->Rep K H O' v d->Rep K H O v d
 |_,_,_,.non=>.non
 |_,_,_,.bl b=>.bl b
 |_,_,_,.int i=>.int i
 |_,_,_,.str x=>.str x
 |_,_,f,.tup (a:=a) n h r=>.tup (fun z=>by
    obtain⟨u,e,m⟩:=ho a z;rcases h with h | ⟨o,h⟩
    . rw[e] at h;cases h;cases m
    . rw[e] at h;cases h;cases m) h (Reps.flatten ho (by simpa[flat] using f) r)
 |_,_,f,.tupK h r=>.tupK h (Reps.flatten ho (by simpa[flat] using f) r)
 |_,_,f,.lst _ _ _=>by simp[flat] at f
 |_,_,f,.lstK _ _=>by simp[flat] at f
 |_,_,f,.dct _ _ _ _=>by simp[flat] at f
 |_,_,f,.dcf _ _ _ _=>by simp[flat] at f
 |_,_,f,.ins _ _ _ _ _=>by simp[flat] at f
 |_,_,f,.clo _ _ _ _ _ _=>by simp[flat] at f
 |_,_,f,.fnK _=>by simp[flat] at f
theorem Reps.flatten(ho:∀a,O a->Old H a):∀{vs:List V} {ds:List D},flats ds=true->Reps K H O' vs ds->Reps K H O vs ds
 |_,_,_,.nil=>.nil
 | _, _, f, .cons h t => by
   simp only[flats,bD] at f;exact .cons (Rep.flatten ho f.1 h) (Reps.flatten ho f.2 t)
end
theorem Reps.length:∀{vs:List V} {ds:List D},Reps K H O vs ds->vs.length=ds.length
 |_,_,.nil=>rfl
 |_,_,.cons _ t=>by simp[Reps.length t]
theorem Reps.get:∀{vs:List V} {ds:List D} {i:Nat} {d:D},Reps K H O vs ds->ds[i]?=some d->∃v,vs[i]?=some v/\Rep K H O v d
 |_,_,_,_,.nil,e=>by simp at e
 |_,_,0,_,.cons h _,e=>by simp at e;subst e;exact⟨_,rfl,h⟩
 | _, _, i + 1, d, .cons _ t, e => by
   obtain⟨v,h1,h2⟩:=Reps.get (i:=i) (d:=d) t (by simpa using e);exact⟨v,by simpa using h1,h2⟩
theorem Reps.append:∀{xs ys:List V} {ds es:List D},Reps K H O xs ds->Reps K H O ys es->Reps K H O (xs++ys) (ds++es)
 |_,_,_,_,.nil,s=>s
 |_,_,_,_,.cons r t,s=>.cons r (Reps.append t s)
theorem Reps.set{x:V}{d:D}(r:Rep K H O x d):∀{xs:List V} {ds:List D} (i:Nat),Reps K H O xs ds->Reps K H O (xs.set i x) (ds.set i d)
 |_,_,_,.nil=>.nil
 |_,_,0,.cons _ t=>.cons r t
 |_,_,i+1,.cons q t=>.cons q (Reps.set r i t)
theorem Reps.drop:∀{xs:List V} {ds:List D} (n:Nat),Reps K H O xs ds->Reps K H O (xs.drop n) (ds.drop n)
 |_,_,0,r=>r
 |_,_,_+1,.nil=>.nil
 |_,_,n+1,.cons _ t=>Reps.drop n t
theorem Reps.take:∀{xs:List V} {ds:List D} (n:Nat),Reps K H O xs ds->Reps K H O (xs.take n) (ds.take n)
 |_,_,0,_=>.nil
 |_,_,_+1,.nil=>.nil
 |_,_,n+1,.cons r t=>.cons r (Reps.take n t)
theorem Reps.ints:∀(ns:List Int),Reps K H O (ns.map V.int) (ns.map D.int)
 |[]=>.nil
 |n::r=>.cons (.int n) (Reps.ints r)
noncomputable def WRep(K:Frag)(H:Hp)(O:Addr->Prop)(v:V)(d:D):Prop:=Rep K H O v d\/∃a xs l,v=.ref a/\d=.lst l/\O a/\H a=some (.lst xs)/\Reps K H O xs l
theorem WRep.mono(k:Same H H'){v:V}{d:D}(h:WRep K H O v d):WRep K H' O v d:=by
 rcases h with h | ⟨a,xs,l,e1,e2,ho,h,r⟩
 . exact .inl (h.mono k)
 . exact .inr ⟨a,xs,l,e1,e2,ho,k _ _ h,r.mono k⟩
theorem WRep.any{v:V}{d:D}(h:WRep K H O v d):Rep K H yE v d:=by
 rcases h with h | ⟨a,xs,l,rfl,rfl,ho,h,r⟩
 . exact h.less (fun _ z=>z.elim)
 . exact .lst (fun z=>z.elim) (.inl h) (r.less fun _ z=>z.elim)
theorem WRep.seqL{v:V}{l:List D}(h:WRep K H O v (.lst l)):∃a xs,v=.ref a/\SqL K H a xs/\Reps K H O xs l:=by
 rcases h with h | ⟨a,xs,l',rfl,e,ho,h,r⟩
 . cases h with
   |lst n h r=>exact⟨_,_,rfl,.inl h,r⟩
   |lstK h r=>exact⟨_,_,rfl,.inr h,r⟩
 . cases e;exact⟨a,xs,rfl,.inl (.inl h),r⟩
theorem WRep.seqT{v:V}{l:List D}(h:WRep K H O v (.tup l)):∃a xs,v=.ref a/\SqT K H a xs/\Reps K H O xs l:=by
 rcases h with h | ⟨a,xs,l',rfl,e,ho,h,r⟩
 . cases h with
   |tup n h r=>exact⟨_,_,rfl,.inl h,r⟩
   |tupK h r=>exact⟨_,_,rfl,.inr h,r⟩
 . cases e
theorem WRep.int'{v:V}{i:Int}(h:WRep K H O v (.int i)):v=.int i:=by
 rcases h with h | ⟨a,xs,l',rfl,e,_⟩
 . cases h;rfl
 . cases e
theorem WRep.bl'{v:V}{i:Bool}(h:WRep K H O v (.bl i)):v=.bl i:=by
 rcases h with h | ⟨a,xs,l',rfl,e,_⟩
 . cases h;rfl
 . cases e
theorem WRep.str'{v:V}{i:Str}(h:WRep K H O v (.str i)):v=.str i:=by
 rcases h with h | ⟨a,xs,l',rfl,e,_⟩
 . cases h;rfl
 . cases e
end
mutual
inductive RepO(K:Frag)(H:Hp)(O:Addr->Prop):V->OT->List Addr->Prop
 |val {v:V} {d:D} (r:Rep K H O v d):RepO K H O v (.val d) []
 |lst {a:Addr} {xs:List V} {ts:List OT} {fs:List Addr} (n:O a) (h:H a=some (.lst xs)) (r:RepsO K H O xs ts fs):RepO K H O (.ref a) (.lst ts) (a::fs)
 |tup {a:Addr} {xs:List V} {ts:List OT} {fs:List Addr} (n : ¬O a) (h:Rd H a (.tup xs)) (r:RepsO K H O xs ts fs):RepO K H O (.ref a) (.tup ts) fs
 |dct {a:Addr} {kvs:List (Key×V)} {ks:List Key} {ts:List OT} {fs:List Addr} (n:O a) (h:H a=some (.dK kvs)) (e:kvs.map (·.1)=ks) (r:RepsO K H O (kvs.map (·.2)) ts fs):RepO K H O (.ref a) (.dct ks ts) (a::fs)
 |ins {a C dx:Addr} {t:Nat} {kvs:List (Str×V)} {ts:List OT} {fs:List Addr} (c:aJ K mainGlobals (gD t)=some (some (.ref C))) (n:O a) (h:H a=some (.ins C dx kvs)) (e:kvs.map (·.1)=eK t) (r:RepsO K H O (kvs.map (·.2)) ts fs):RepO K H O (.ref a) (.ins t ts) (a::fs)
inductive RepsO(K:Frag)(H:Hp)(O:Addr->Prop):List V->List OT->List Addr->Prop
 |nil:RepsO K H O [] [] []
 |cons {x:V} {t:OT} {xs:List V} {ts:List OT} {fs gs:List Addr} (h:RepO K H O x t fs) (r:RepsO K H O xs ts gs):RepsO K H O (x::xs) (t::ts) (fs++gs)
end
section
variable{K:Frag}{H H':Hp}{O O':Addr->Prop}
mutual
theorem RepO.keep(k:Keep O H H'):∀{v:V} {t:OT} {fs:List Addr},RepO K H O v t fs->(∀b∈fs,∀u,H b=some u->H' b=some u)->RepO K H' O v t fs
 |_,_,_,.val r,_=>.val (r.keep k)
 |_,_,_,.lst n h r,hb=>.lst n (hb _ (.head _) _ h) (RepsO.keep k r fun b z=>hb b (.tail _ z))
 |_,_,_,.tup n h r,hb=>.tup n (k.rd n h) (RepsO.keep k r hb)
 |_,_,_,.dct n h e r,hb=>.dct n (hb _ (.head _) _ h) e (RepsO.keep k r fun b z=>hb b (.tail _ z))
 |_,_,_,.ins c n h e r,hb=>.ins c n (hb _ (.head _) _ h) e (RepsO.keep k r fun b z=>hb b (.tail _ z))
theorem RepsO.keep(k:Keep O H H'):∀{v:List V} {t:List OT} {fs:List Addr},RepsO K H O v t fs->(∀b∈fs,∀u,H b=some u->H' b=some u)->RepsO K H' O v t fs
 |_,_,_,.nil,_=>.nil
 |_,_,_,.cons h r,hb=>.cons (RepO.keep k h fun b z=>hb b (dB _ z)) (RepsO.keep k r fun b z=>hb b (bC _ z))
end
theorem RepO.mono(k:Same H H'){v:V}{t:OT}{fs:List Addr}(h:RepO K H O v t fs):RepO K H' O v t fs:=h.keep (.of_same k) fun b _ u e=>k b u e
theorem RepsO.mono(k:Same H H'){v:List V}{t:List OT}{fs:List Addr}(h:RepsO K H O v t fs):RepsO K H' O v t fs:=h.keep (.of_same k) fun b _ u e=>k b u e
mutual
theorem RepO.less(k:∀a,O' a->O a):∀{v:V} {t:OT} {fs:List Addr},RepO K H O v t fs->(∀b∈fs,O' b)->RepO K H O' v t fs
 |_,_,_,.val r,_=>.val (r.less k)
 |_,_,_,.lst n h r,hb=>.lst (hb _ (.head _)) h (RepsO.less k r fun b z=>hb b (.tail _ z))
 |_,_,_,.tup n h r,hb=>.tup (fun z=>n (k _ z)) h (RepsO.less k r hb)
 |_,_,_,.dct n h e r,hb=>.dct (hb _ (.head _)) h e (RepsO.less k r fun b z=>hb b (.tail _ z))
 |_,_,_,.ins c n h e r,hb=>.ins c (hb _ (.head _)) h e (RepsO.less k r fun b z=>hb b (.tail _ z))
theorem RepsO.less(k:∀a,O' a->O a):∀{v:List V} {t:List OT} {fs:List Addr},RepsO K H O v t fs->(∀b∈fs,O' b)->RepsO K H O' v t fs
 |_,_,_,.nil,_=>.nil
 |_,_,_,.cons h r,hb=>.cons (RepO.less k h fun b z=>hb b (dB _ z)) (RepsO.less k r fun b z=>hb b (bC _ z))
end
mutual
theorem RepO.more{p:Addr}(hp:H p=none):∀{v:V} {t:OT} {fs:List Addr},RepO K H O v t fs->RepO K H (ins1 p O) v t fs
 |_,_,_,.val r=>.val (r.more hp)
 |_,_,_,.lst n h r=>.lst (.inr n) h (RepsO.more hp r)
 |_,_,_,.tup n h r=>.tup (fun z=>z.elim (fun e=>Rd.some h (e▸hp)) n) h (RepsO.more hp r)
 |_,_,_,.dct n h e r=>.dct (.inr n) h e (RepsO.more hp r)
 |_,_,_,.ins c n h e r=>.ins c (.inr n) h e (RepsO.more hp r)
theorem RepsO.more{p:Addr}(hp:H p=none):∀{v:List V} {t:List OT} {fs:List Addr},RepsO K H O v t fs->RepsO K H (ins1 p O) v t fs
 |_,_,_,.nil=>.nil
 |_,_,_,.cons h r=>.cons (RepO.more hp h) (RepsO.more hp r)
end
mutual
theorem RepO.owns:∀{v:V} {t:OT} {fs:List Addr},RepO K H O v t fs->∀b∈fs,O b/\∃u:MutHO,H b=some u.1
 |_,_,_,.val r,b,z=>nomatch z
 | _, _, _, .lst (xs := xs) n h r, b, z => by
   rcases aF.mp z with rfl | z
   . exact⟨n,⟨.lst xs,rfl⟩,h⟩
   . exact RepsO.owns r b z
 |_,_,_,.tup n h r,b,z=>RepsO.owns r b z
 | _, _, _, .dct (kvs := kvs) n h e r, b, z => by
   rcases aF.mp z with rfl | z
   . exact⟨n,⟨.dK kvs,rfl⟩,h⟩
   . exact RepsO.owns r b z
 | _, _, _, .ins (C := C) (dx := dx) (kvs := kvs) c n h e r, b, z => by
   rcases aF.mp z with rfl | z
   . exact⟨n,⟨.ins C dx kvs,rfl⟩,h⟩
   . exact RepsO.owns r b z
theorem RepsO.owns:∀{v:List V} {t:List OT} {fs:List Addr},RepsO K H O v t fs->∀b∈fs,O b/\∃u:MutHO,H b=some u.1
 |_,_,_,.nil,b,z=>nomatch z
 |_,_,_,.cons h r,b,z=>(bU.mp z).elim (RepO.owns h b) (RepsO.owns r b)
end
mutual
theorem RepO.any:∀{v:V} {t:OT} {fs:List Addr},RepO K H O v t fs->Rep K H yE v (otD t)
 |_,_,_,.val r=>r.less fun _ z=>z.elim
 |_,_,_,.lst n h r=>by unfold otD;exact .lst (fun z=>z) (.inl h) (RepsO.any r)
 |_,_,_,.tup n h r=>by unfold otD;exact .tup (fun z=>z) h (RepsO.any r)
 |_,_,_,.dct n h e r=>by unfold otD;exact .dct (fun z=>z) h e (RepsO.any r)
 |_,_,_,.ins c n h e r=>by unfold otD;exact .ins c (fun z=>z) h e (RepsO.any r)
theorem RepsO.any:∀{v:List V} {t:List OT} {fs:List Addr},RepsO K H O v t fs->Reps K H yE v (otDs t)
 |_,_,_,.nil=>by unfold otDs;exact .nil
 |_,_,_,.cons h r=>by unfold otDs;exact .cons (RepO.any h) (RepsO.any r)
end
end
noncomputable def SlOk(K:Frag)(H₀ H:Hp)(O:Addr->Prop):Option V->Sl->Prop
 |_,.no=>True
 |some x,.v d=>Rep K H O x d
 |some (.ref a),.own l=>O a/\∃xs,H a=some (.lst xs)/\Reps K H O xs l
 |some (.ref a),.fr l=>¬O a/\H₀ a=none/\∃xs,H a=some (.lst xs)/\Reps K H O xs l
 |_,.ob _ _=>True
 |some (.ref a),.exc t=>∃C o u,aJ K mainGlobals (xName t)=some (some (.ref C))/\H a=some (.frz o u)/\o.cls=.ref C
 |_,_=>False
noncomputable def IsOwn(ds:List Sl)(i:Nat):Prop:=∃l,ds[i]?=some (.own l)
inductive HI where
 |rep (v:V) (d:D) | base (B:Addr->Prop) | root (k a:Nat) | fz (a:Addr) (o:Obj) (kvs:List (Key×V)) (l:List D)
abbrev Hold:=List HI
noncomputable def HOk(K:Frag)(H₀ H:Hp)(O:Addr->Prop):HI->Prop
 | .rep v d=>Rep K H O v d
 | .base B=>∀a,B a->O a/\H₀ a≠none
 | .root _ _=>True
 | .fz a o kvs l=>¬O a/\H a=some (.frz o (.dK kvs))/\Reps K H O (kvs.map (·.2)) l
noncomputable def Obs(K:Frag)(H₀ H:Hp)(O:Addr->Prop)(σ : L2.St)(ds:List Sl)(hd:Hold):Prop:=∃F:Nat->List Addr,∀(i:Nat) (r:Option Nat) (t:OT),ds[i]?=some (.ob r t)->∃v,σ[i]?=some (some v)/\RepO K H O v t (F i)/\(∀k a,r=some k->HI.root k a∈hd->v=.ref a)/\(F i).Nodup ∧
 ∀b∈F i,H₀ b=none/\(∀j r' t',j≠i->ds[j]?=some (.ob r' t')->b∉F j)/\∀j,IsOwn ds j->σ[j]?≠some (some (.ref b))
structure Ok(K:Frag)(H₀ H:Hp)(O:Addr->Prop)(σ : L2.St)(ds:List Sl)(hd:Hold):Prop where
 same:Same H₀ H
 fresh:∀(i:Nat) (l:List D) (a:Addr),ds[i]?=some (.own l)->σ[i]?=some (some (.ref a))->H₀ a=none
 dom:∀a,O a->∃u:MutHO,H a=some u.1
 len : σ.length=ds.length
 sl:∀(i:Nat) (s:Sl),ds[i]?=some s->SlOk K H₀ H O (σ[i]?.join) s
 apart:∀(i j:Nat) (a:Addr),i≠j->IsOwn ds i->IsOwn ds j->σ[i]?=some (some (.ref a))->σ[j]?=some (some (.ref a))->False
 hold:∀p∈hd,HOk K H₀ H O p
 obs:Obs K H₀ H O σ ds hd
section
variable{K:Frag}{H₀ H H':Hp}{O O':Addr->Prop}{σ : L2.St}{ds:List Sl}{hd:Hold}
theorem HOk.mono(k:Same H H'):∀{p:HI},HOk K H₀ H O p->HOk K H₀ H' O p
 | .rep _ _,h=>Rep.mono k h
 | .base _,h=>h
 | .root _ _,h=>h
 | .fz _ _ _ _,h=>⟨h.1,k _ _ h.2.1,Reps.mono k h.2.2⟩
theorem HOk.keep(k:Keep O H H'):∀{p:HI},HOk K H₀ H O p->HOk K H₀ H' O p
 | .rep _ _,h=>Rep.keep k h
 | .base _,h=>h
 | .root _ _,h=>h
 | .fz _ _ _ _,h=>⟨h.1,k _ _ h.1 h.2.1,Reps.keep k h.2.2⟩
theorem Obs.tr{σ':L2.St}{ds':List Sl}(h:Obs K H₀ H O σ ds hd)(tr:∀v t fs,RepO K H O v t fs->(∀b∈fs,H₀ b=none/\∀j,IsOwn ds j->σ[j]?≠some (some (.ref b)))->RepO K H' O' v t fs)
  (hob:∀(i:Nat) (r:Option Nat) (t:OT),ds'[i]?=some (.ob r t)->ds[i]?=some (.ob r t)/\σ'[i]?=σ[i]?)
  (hown:∀(j:Nat) (b:Addr),IsOwn ds' j->σ'[j]?=some (some (.ref b))->(IsOwn ds j/\σ[j]?=some (some (.ref b)))\/H b=none):Obs K H₀ H' O' σ' ds' hd:=by
 obtain⟨F,hF⟩:=h;refine⟨F,fun i r t e=>?_⟩;obtain⟨e1,e2⟩:=hob i r t e;obtain⟨v,h1,h2,h3,h4,h5⟩:=hF i r t e1;refine⟨v,e2.trans h1,tr v t _ h2 fun b hb=>⟨(h5 b hb).1,(h5 b hb).2.2⟩,h3,h4,fun b hb=>⟨(h5 b hb).1,fun j r' t' hj ej=>(h5 b hb).2.1 j r' t' hj (hob j r' t' ej).1,fun j oj ej=>?_⟩⟩;rcases hown j b oj ej with⟨o1,o2⟩ | hn
 . exact(h5 b hb).2.2 j o1 o2
 . obtain⟨_, xs, z⟩ := h2.owns b hb;rw[hn] at z;cases z
theorem Obs.no(h:∀(i:Nat) (r:Option Nat) (t:OT),ds[i]?≠some (.ob r t)):Obs K H₀ H O σ ds hd:=⟨fun _=>[],fun i r t e=>(h i r t e).elim⟩
theorem Obs.mono(k:Same H H')(h:Obs K H₀ H O σ ds hd):Obs K H₀ H' O σ ds hd:=h.tr (fun _ _ _ r _=>r.mono k) (fun _ _ _ e=>⟨e,rfl⟩) fun _ _ o e=>.inl ⟨o,e⟩
theorem oJ{i:Nat}{s:Sl}(hs:∀r t,s≠.ob r t){j:Nat}{r:Option Nat}{t:OT}(e:(ds.set i s)[j]?=some (.ob r t)):ds[j]?=some (.ob r t)/\j≠i:=by
 by_cases hj:j=i
 . subst hj
   by_cases hl:j<ds.length
   . rw[aT hl] at e;cases e;exact(hs r t rfl).elim
   . rw[bL (by simpa using hl)] at e;cases e
 . rw[aD (Ne.symm hj)] at e;exact⟨e,hj⟩
theorem uC{i:Nat}{s:Sl}(hs:∀l,s≠.own l){j:Nat}(e:IsOwn (ds.set i s) j):IsOwn ds j/\j≠i:=by
 obtain⟨l,e⟩:=e
 by_cases hj:j=i
 . subst hj
   by_cases hl:j<ds.length
   . rw[aT hl] at e;cases e;exact(hs l rfl).elim
   . rw[bL (by simpa using hl)] at e;cases e
 . rw[aD (Ne.symm hj)] at e;exact⟨⟨l,e⟩,hj⟩
theorem SlOk.mono(k:Same H H'):∀{x:Option V} {s:Sl},SlOk K H₀ H O x s->SlOk K H₀ H' O x s
 |none,.no,_=>trivial
 |some (.ref _),.no,_=>trivial
 |some _,.no,_=>by simp[SlOk]
 | x, .ob _ _, _ => by cases x with
   |none=>trivial
   |some x=>cases x<;>trivial
 | some x, .v d, h => by
   have h:Rep K H O x d:=by cases x<;>exact h
   show SlOk K H₀ H' O (some x) (.v d);have:=h.mono k;cases x<;>exact this
 |some (.ref a),.own l,⟨ho,xs,h,r⟩=>⟨ho,xs,k _ _ h,r.mono k⟩
 |some (.ref a),.fr l,⟨ho,h0,xs,h,r⟩=>⟨ho,h0,xs,k _ _ h,r.mono k⟩
 |some (.ref a),.exc t,⟨C,o,u,h1,h2,h3⟩=>⟨C,o,u,h1,k _ _ h2,h3⟩
theorem Ok.old(o:Ok K H₀ H O σ ds hd){a:Addr}(h:O a):Old H a:=let ⟨xs,e⟩:=o.dom a h;⟨_,e,xs.2⟩
theorem Ok.mono(k:Same H H')(o:Ok K H₀ H O σ ds hd):Ok K H₀ H' O σ ds hd :=
 ⟨o.same.trans k,o.fresh,fun a h=>let ⟨xs,e⟩:=o.dom a h;⟨xs,k _ _ e⟩,o.len,fun i s e=>(o.sl i s e).mono k,o.apart,fun p hp=>(o.hold p hp).mono k,o.obs.mono k⟩
theorem Ok.free{p:Addr}(o:Ok K H₀ H O σ ds hd)(h:H p=none):¬O p:=fun z=>by
 obtain⟨xs,e⟩:=o.dom p z;rw[h] at e;cases e
theorem Ok.read{i:Nat}{d:D}(o:Ok K H₀ H O σ ds hd)(e:ds[i]?=some (.v d)):∃v,σ[i]?=some (some v)/\Rep K H O v d:=by
 have h:=o.sl i _ e;cases q : σ[i]? with
 |none=>rw[q] at h;exact h.elim
 | some x =>
   rw[q] at h;cases x with
   |none=>exact h.elim
   |some x=>exact⟨x,rfl,by cases x<;>exact h⟩
theorem Ok.readO{i:Nat}{l:List D}(o:Ok K H₀ H O σ ds hd)(e:ds[i]?=some (.own l)):∃a xs,σ[i]?=some (some (.ref a))/\O a/\H a=some (.lst xs)/\Reps K H O xs l:=by
 have h:=o.sl i _ e;cases q : σ[i]? with
 |none=>rw[q] at h;exact h.elim
 | some x =>
   rw[q] at h;cases x with
   |none=>exact h.elim
   | some x =>
     cases x with
     |ref a=>obtain⟨ho,xs,h1,h2⟩:=h;exact⟨a,xs,rfl,ho,h1,h2⟩
     |_=>exact h.elim
theorem Ok.readX{i t:Nat}(o:Ok K H₀ H O σ ds hd)(e:ds[i]?=some (.exc t)):∃a C ob u,σ[i]?=some (some (.ref a))/\aJ K mainGlobals (xName t)=some (some (.ref C))/\H a=some (.frz ob u)/\ob.cls=.ref C:=by
 have h:=o.sl i _ e;cases q : σ[i]? with
 |none=>rw[q] at h;exact h.elim
 | some x =>
   rw[q] at h;cases x with
   |none=>exact h.elim
   | some x =>
     cases x with
     |ref a=>obtain⟨C,ob,u,h1,h2,h3⟩:=h;exact⟨a,C,ob,u,rfl,h1,h2,h3⟩
     |_=>exact h.elim
theorem Ok.readF{i:Nat}{l:List D}(o:Ok K H₀ H O σ ds hd)(e:ds[i]?=some (.fr l)):∃a xs,σ[i]?=some (some (.ref a))/\¬O a/\H₀ a=none/\H a=some (.lst xs)/\Reps K H O xs l:=by
 have h:=o.sl i _ e;cases q : σ[i]? with
 |none=>rw[q] at h;exact h.elim
 | some x =>
   rw[q] at h;cases x with
   |none=>exact h.elim
   | some x =>
     cases x with
     |ref a=>obtain⟨ho,h0,xs,h1,h2⟩:=h;exact⟨a,xs,rfl,ho,h0,h1,h2⟩
     |_=>exact h.elim
theorem yS{x:Option V}: SlOk K H₀ H O x .no:=by
 cases x with
 |none=>trivial
 |some x=>cases x<;>trivial
theorem DU{x:Option V}{r:Option Nat}{t:OT}: SlOk K H₀ H O x (.ob r t):=by
 cases x with
 |none=>trivial
 |some x=>cases x<;>trivial
theorem vN{x:V}{d:D}(h:Rep K H O x d):SlOk K H₀ H O (some x) (.v d):=by
 cases x<;>exact h
theorem Ok.set{i:Nat}{v:V}{d:D}(o:Ok K H₀ H O σ ds hd)(r:Rep K H O v d):Ok K H₀ H O (σ.set i (some v)) (ds.set i (.v d)) hd:=by
 have own':∀{j:Nat},IsOwn (ds.set i (.v d)) j->j≠i/\IsOwn ds j:=fun {j} ⟨l,e⟩=>by
  by_cases hj:j=i
  . subst hj
    by_cases hl:j<ds.length
    . rw[aT hl] at e;cases e
    . rw[bL (by simpa using hl)] at e;cases e
  . rw[aD (Ne.symm hj)] at e;exact⟨hj,l,e⟩
 refine⟨o.same,fun j l a e1 e2=>?_,o.dom,by simpa using o.len,fun j s e=>?_,fun j k a hjk hj hk e1 e2=>?_,o.hold,o.obs.tr (fun _ _ _ r _=>r) (fun j r t e=>by
  obtain⟨e1,hj⟩:=oJ (fun r t=>by intro z;cases z) e
  exact⟨e1,by rw[aD (Ne.symm hj)]⟩) (fun j b oj ej=>by
  obtain⟨o1,hj⟩:=uC (fun l=>by intro z;cases z) oj;rw[aD (Ne.symm hj)] at ej
  exact .inl ⟨o1,ej⟩)⟩
 . obtain⟨n1, h1⟩ := own' ⟨l, e1⟩;rw[aD (Ne.symm n1)] at e1 e2;exact o.fresh j l a e1 e2
 . by_cases hj : j = i
   . subst hj
     by_cases hl:j<ds.length
     . rw[aT hl] at e;cases e;rw[aT (by rw[o.len];exact hl)];exact vN r
     . rw[bL (by simpa using hl)] at e;cases e
   . rw[aD (Ne.symm hj)] at e;rw[aD (Ne.symm hj)];exact o.sl j s e
 . obtain⟨n1, h1⟩ := own' hj;obtain⟨n2,h2⟩:=own' hk;rw[aD (Ne.symm n1)] at e1;rw[aD (Ne.symm n2)] at e2;exact o.apart j k a hjk h1 h2 e1 e2
theorem Ok.setO{i:Nat}{a:Addr}{xs:List V}{l:List D}(o:Ok K H₀ H O σ ds hd)(k:Same H H')(hn:H a=none)(e:H' a=some (.lst xs))(r:Reps K H' (ins1 a O) xs l) :
  Ok K H₀ H' (ins1 a O) (σ.set i (some (.ref a))) (ds.set i (.own l)) hd:=by
 have up:∀{v:V} {d:D},Rep K H O v d->Rep K H' (ins1 a O) v d:=fun h=>(h.more hn).mono k;have ups:∀{v:List V} {d:List D},Reps K H O v d->Reps K H' (ins1 a O) v d:=fun h=>(h.more hn).mono k
 have other:∀j:Nat,IsOwn ds j->σ[j]?=some (some (.ref a))->False:=fun j ⟨l',e'⟩ q=>by
  obtain⟨b,ys,h1,h2,h3,_⟩:=o.readO e';rw[q] at h1;cases h1;rw[hn] at h3;cases h3
 have own':∀{j:Nat},j≠i->IsOwn (ds.set i (.own l)) j->IsOwn ds j:=fun {j} hj ⟨l',e'⟩=>⟨l',by rwa [aD (Ne.symm hj)] at e'⟩
 refine⟨o.same.trans k,fun j l' b e1 e2=>?_,fun b hb=>?_,by simpa using o.len,fun j s es=>?_,fun j m b hjm hj hm e1 e2=>?_,fun p hp=>?_,o.obs.tr (fun _ _ _ r _=>(r.more hn).mono k) (fun j r t e=>by
  obtain⟨e1,hj⟩:=oJ (fun r t=>by intro z;cases z) e
  exact⟨e1,by rw[aD (Ne.symm hj)]⟩) (fun j b oj ej=>by
  by_cases hj:j=i
  . subst hj
    by_cases hl:j<σ.length
    . rw[aT hl] at ej;cases ej;exact .inr hn
    . rw[bL (by simpa using hl)] at ej;cases ej
  . rw [aD (Ne.symm hj)] at ej;obtain ⟨l',e'⟩:=oj;rw [aD (Ne.symm hj)] at e'
    exact .inl ⟨⟨l',e'⟩,ej⟩)⟩
 rotate_left 4
 . have := o.hold p hp;cases p with
   |rep v d=>exact up this
   |base B=>exact fun b hb=>⟨.inr (this b hb).1,(this b hb).2⟩
   |root k a=>exact True.intro
   |fz a' o' kvs' l'=>exact⟨fun z=>z.elim (fun z=>by have:=this.2.1;rw[z,hn] at this;cases this) this.1,k _ _ this.2.1,(Reps.more hn this.2.2).mono k⟩
 . by_cases hj : j = i
   . subst hj
     by_cases hl:j<σ.length
     . rw[aT hl] at e2;cases e2;exact o.same.free hn
     . rw[bL (by simpa using hl)] at e2;cases e2
   . rw[aD (Ne.symm hj)] at e1 e2;exact o.fresh j l' b e1 e2
 . rcases hb with rfl | hb
   . exact⟨⟨.lst xs,rfl⟩,e⟩
   . obtain⟨ys, q⟩ := o.dom b hb;exact⟨ys,k _ _ q⟩
 . by_cases hj : j = i
   . subst hj
     by_cases hl:j<ds.length
     . rw[aT hl] at es;cases es;rw[aT (by rw[o.len];exact hl)];exact⟨.inl rfl,xs,e,r⟩
     . rw[bL (by simpa using hl)] at es;cases es
   . rw [aD (Ne.symm hj)] at es;rw [aD (Ne.symm hj)];cases s with
     |no=>exact yS
     |ob r t=>exact DU
     | exc t =>
       obtain⟨a',C',ob',u',q1,q2,q3,q4⟩:=o.readX es;rw[q1];exact⟨C',ob',u',q2,k _ _ q3,q4⟩
     | fr l' =>
       obtain⟨a',xs',q1,q2,q0,q3,q4⟩:=o.readF es;rw[q1];exact⟨fun z=>z.elim (fun e'=>by rw[e',hn] at q3;cases q3) q2,q0,xs',k _ _ q3,ups q4⟩
     | v d =>
       obtain⟨v,h1,h2⟩:=o.read es;rw[h1];exact vN (up h2)
     | own l' =>
       obtain⟨b,ys,h1,h2,h3,h4⟩:=o.readO es;rw[h1];exact⟨.inr h2,ys,k _ _ h3,ups h4⟩
 . have hs:∀{q:Nat},q=i->(σ.set i (some (V.ref a)))[q]?=some (some (.ref b))->b=a:=fun {q} hq eq=>by
    subst hq
    by_cases hl:q<σ.length
    . rw[aT hl] at eq;cases eq;rfl
    . rw[bL (by simpa using hl)] at eq;cases eq
   by_cases h1:j=i
   . have hb := hs h1 e1;have h2:m≠i:=fun z=>hjm (h1.trans z.symm);rw[aD (Ne.symm h2),hb] at e2;exact other m (own' h2 hm) e2
   . by_cases h2 : m = i
     . have hb := hs h2 e2;rw[aD (Ne.symm h1),hb] at e1;exact other j (own' h1 hj) e1
     . rw[aD (Ne.symm h1)] at e1;rw[aD (Ne.symm h2)] at e2;exact o.apart j m b hjm (own' h1 hj) (own' h2 hm) e1 e2
theorem Ok.modify{i:Nat}{l l':List D}{a:Addr}{xs':List V}(o:Ok K H₀ H O σ ds hd)(e:ds[i]?=some (.own l))(ea : σ[i]?=some (some (.ref a)))(r:Reps K H O xs' l') :
  Ok K H₀ (upd H a (.lst xs')) O σ (ds.set i (.own l')) hd:=by
 obtain⟨a',xs,h1,h2,h3,h4⟩:=o.readO e;rw[ea] at h1;cases h1;have hl:i<ds.length:=(bK.mp e).1
 have k:Keep O H (upd H a (.lst xs')):=fun b u hb eb=>by
  rw[zX (fun(z:b=a)=>hb (z.symm▸h2))];exact eb
 refine⟨fun b u eb=>?_,fun j l2 b e1 e2=>?_,fun b hb=>?_,by simpa using o.len,fun j s es=>?_,fun j m b hjm hj hm e1 e2=>?_,fun p hp=>(o.hold p hp).keep k,o.obs.tr (fun _ _ _ r hb=>r.keep k fun b z u eu=>by rw[zX (fun q=>(hb b z).2 i ⟨l,e⟩ (by rw[q];exact ea))];exact eu) (fun j r t ej=>by
  obtain⟨e1,hj⟩:=oJ (fun r t=>by intro z;cases z) ej
  exact⟨e1,rfl⟩) (fun j b oj ej=>by
  by_cases hj:j=i
  . subst hj;exact .inl ⟨⟨l,e⟩,ej⟩
  . obtain ⟨l', e'⟩ := oj;rw [aD (Ne.symm hj)] at e'
    exact .inl ⟨⟨l',e'⟩,ej⟩)⟩
 rotate_left 1
 . by_cases hj : j = i
   . subst hj;exact o.fresh j l b e e2
   . rw[aD (Ne.symm hj)] at e1;exact o.fresh j l2 b e1 e2
 rotate_right 1
 . rw[zX (fun z => by rw[z, o.fresh i l a e ea] at eb;cases eb)];exact o.same b u eb
 . by_cases hba : b = a
   . subst hba;exact⟨⟨.lst xs',rfl⟩,cF⟩
   . rw[zX hba];exact o.dom b hb
 . by_cases hj : j = i
   . subst hj;rw[aT hl] at es;cases es;rw[ea];exact⟨h2,xs',cF,r.keep k⟩
   . rw [aD (Ne.symm hj)] at es;cases s with
     |no=>exact yS
     |ob r t=>exact DU
     | exc t =>
       obtain⟨a',C',ob',u',q1,q2,q3,q4⟩:=o.readX es;rw[q1];exact⟨C',ob',u',q2,by rw[zX (fun z=>by rw[z,h3] at q3;cases q3)];exact q3,q4⟩
     | fr l' =>
       obtain⟨a',xs'',q1,q2,q0,q3,q4⟩:=o.readF es;rw[q1];exact⟨q2,q0,xs'',by rw[zX (fun z=>q2 (by rw[z];exact h2))];exact q3,q4.keep k⟩
     | v d =>
       obtain⟨v,q1,q2⟩:=o.read es;rw[q1];exact vN (q2.keep k)
     | own l'' =>
       obtain⟨b,ys,q1,q2,q3,q4⟩:=o.readO es;rw[q1];refine⟨q2,ys,?_,q4.keep k⟩;rw[zX (fun z=>?_)]
       . exact q3
       . subst z;exact o.apart j i b hj ⟨_,es⟩ ⟨l,e⟩ q1 ea
 . have own':∀{j:Nat},IsOwn (ds.set i (.own l')) j->IsOwn ds j:=fun {j} ⟨l'',e'⟩=>by
    by_cases hj:j=i
    . subst hj;exact⟨l,e⟩
    . rw[aD (Ne.symm hj)] at e';exact⟨l'',e'⟩
   exact o.apart j m b hjm (own' hj) (own' hm) e1 e2
theorem Ok.holdMore{p:HI}(o:Ok K H₀ H O σ ds hd)(r:HOk K H₀ H O p)(hp:∀k a,HI.root k a≠p:=by intro _ _ z;cases z):Ok K H₀ H O σ ds (p::hd):=
 ⟨o.same,o.fresh,o.dom,o.len,o.sl,o.apart,fun q hq=>(aF.mp hq).elim (fun e=>e▸r) (o.hold q),let ⟨F,hF⟩:=o.obs;⟨F,fun i r t e=>let ⟨v,h1,h2,h3,h4⟩:=hF i r t e;⟨v,h1,h2,fun k a z y=>(aF.mp y).elim (fun y=>(hp k a y).elim) (h3 k a z),h4⟩⟩⟩
theorem Ok.holdLess{p:HI}(o:Ok K H₀ H O σ ds (p::hd)):Ok K H₀ H O σ ds hd :=
 ⟨o.same,o.fresh,o.dom,o.len,o.sl,o.apart,fun q hq=>o.hold q (aI _ hq),let ⟨F,hF⟩:=o.obs;⟨F,fun i r t e=>let ⟨v,h1,h2,h3,h4⟩:=hF i r t e;⟨v,h1,h2,fun k a z y=>h3 k a z (aI _ y),h4⟩⟩⟩
end
section
variable(X:Cx)
noncomputable def PV(e:Expr)(f:FE):Prop:=∃t,PE X e t/\∀H₀ H O σ ds hd d Q,Ok X.K H₀ H O σ ds hd->f ds=some d->(∀v H',Same H H'->Rep X.K H' O v d->Q v H')->t σ H Q
noncomputable def PVw(e:Expr)(f:FE):Prop:=∃t,PE X e t/\∀H₀ H O σ ds hd d Q,Ok X.K H₀ H O σ ds hd->f ds=some d->(∀v H',Same H H'->WRep X.K H' O v d->Q v H')->t σ H Q
noncomputable def PVf(e:Expr)(f:FA):Prop:=∃t,PE X e t/\∀H₀ H O σ ds hd l Q,Ok X.K H₀ H O σ ds hd->f ds=some l →
 (∀a xs H',Same H H'->H a=none->H' a=some (.lst xs)->Reps X.K H' (ins1 a O) xs l->Q (.ref a) H')->t σ H Q
noncomputable def PTv(e:Expr)(c:FT):Prop:=∃t,PT X e t/\∀H₀ H O σ ds hd b Q,Ok X.K H₀ H O σ ds hd->c ds=some b->(∀H',Same H H'->Q b H')->t σ H Q
noncomputable def PWv(e:Expr)(c:FT):Prop:=∃t,PW X e t/\∀H₀ H O σ ds hd b Q,Ok X.K H₀ H O σ ds hd->c ds=some b->(∀H',Same H H'->Q b H')->t σ H Q
noncomputable def PAv(es:List Expr)(f:FA):Prop:=∃t,PA X es t/\∀H₀ H O σ ds hd l Q,Ok X.K H₀ H O σ ds hd->f ds=some l->(∀vs H',Same H H'->Paired (WRep X.K H' O) vs l->Q vs H')->t σ H Q
noncomputable def PAs(es:List Expr)(f:FA):Prop:=∃t,PA X es t/\∀H₀ H O σ ds hd l Q,Ok X.K H₀ H O σ ds hd->f ds=some l->(∀vs H',Same H H'->Reps X.K H' O vs l->Q vs H')->t σ H Q
end
section
variable{X:Cx}
theorem PV.w{e:Expr}{f:FE}(h:PV X e f):PVw X e f:=by
 obtain⟨t,ht,hf⟩:=h;exact⟨t,ht,fun H₀ H O σ ds hd d Q o e q=>hf H₀ H O σ ds hd d Q o e fun v H' s r=>q v H' s (.inl r)⟩
theorem PVf.s{e:Expr}{f:FA}(h:PVf X e f):PV X e (mkL f):=by
 obtain⟨t,ht,hf⟩:=h;refine⟨t,ht,fun H₀ H O σ ds hd d Q o e q=>?_⟩;unfold mkL at e;obtain⟨l,hl,rfl⟩:=mpd e;rw[hl] at e;cases e;refine hf H₀ H O σ ds hd l Q o hl fun a xs H' s hn he r=>q _ _ s ?_;exact .lst (o.free hn) (.inl he) (r.less fun _ z=>.inr z)
theorem qQ(i:Nat){x:Str}{pos:Pos}(hN:X.N[i]?=some x:=by rfl)(hv:Vis X.env.scope x:=by first | exact Or.inl rfl | exact Or.inr (Or.inl rfl) | exact Or.inr (Or.inr rfl))(hd:(x==("__debug__" : Str))=false:=by decide)
  (hcd:(x==("__classdict__" : Str))=false:=by decide):PV X (.Name x pos) (yR i):=by
 refine⟨_,wQ hN hv hd hcd,fun H₀ H O σ ds hd d Q o e q=>?_⟩;unfold yR at e;cases hs:ds[i]? with
 |none=>rw[hs] at e;cases e
 | some s =>
   rw[hs] at e;cases s with
   | v d' =>
     cases e;obtain⟨v,h1,h2⟩:=o.read hs;exact⟨v,h1,q v H (Same.refl _) h2⟩
   |no=>cases e
   |exc _=>cases e
   |fr _=>cases e
   |ob _ _=>cases e
   |own l=>cases e
theorem zB(i:Nat){x:Str}{pos:Pos}(hN:X.N[i]?=some x:=by rfl)(hv:Vis X.env.scope x:=by first | exact Or.inl rfl | exact Or.inr (Or.inl rfl) | exact Or.inr (Or.inr rfl))(hd:(x==("__debug__" : Str))=false:=by decide)
  (hcd:(x==("__classdict__" : Str))=false:=by decide):PVw X (.Name x pos) (zG i):=by
 refine⟨_,wQ hN hv hd hcd,fun H₀ H O σ ds hd d Q o e q=>?_⟩;unfold zG at e;cases hs:ds[i]? with
 |none=>rw[hs] at e;cases e
 | some s =>
   rw[hs] at e;cases s with
   | v d' =>
     cases e;obtain⟨v,h1,h2⟩:=o.read hs;exact⟨v,h1,q v H (Same.refl _) (.inl h2)⟩
   |no=>cases e
   |exc _=>cases e
   |fr _=>cases e
   |ob _ _=>cases e
   | own l =>
     cases e;obtain⟨a,xs,h1,h2,h3,h4⟩:=o.readO hs;exact⟨.ref a,h1,q _ H (Same.refl _) (.inr ⟨a,xs,l,rfl,rfl,h2,h3,h4⟩)⟩
theorem yN{i:Int}{j pos}: PV X (.Constant (.int i) j pos) (zA (.int i)):=⟨_,pe_int,fun _ H _ _ _ _ _ _ _ e q=>by cases e;exact q _ H (Same.refl _) (.int i)⟩
theorem LM{b:Bool}{j pos}: PV X (.Constant (.bool b) j pos) (zA (.bl b)):=⟨_,pe_bl,fun _ H _ _ _ _ _ _ _ e q=>by cases e;exact q _ H (Same.refl _) (.bl b)⟩
theorem qW{j pos}: PV X (.Constant .none j pos) (zA .non):=⟨_,pe_non,fun _ H _ _ _ _ _ _ _ e q=>by cases e;exact q _ H (Same.refl _) .non⟩
theorem zP{x:Str}{j pos}: PV X (.Constant (.str x) j pos) (zA (.str x)):=⟨_,pe_str,fun _ H _ _ _ _ _ _ _ e q=>by cases e;exact q _ H (Same.refl _) (.str x)⟩
theorem LL{x:Str}{v:V}{u:Value}{d:D}{pos:Pos}(hg:Gl X x)(hm:X.mg x=some u)(r:RelV v u)(hr:∀H O,Rep X.K H O v d)(hd:(x==("__debug__" : Str))=false:=by decide):PV X (.Name x pos) (zA d):=
 ⟨_,LU hg hm r hd,fun _ H O _ _ _ _ _ _ e q=>by cases e;exact q _ H (Same.refl _) (hr H O)⟩
noncomputable def OpS(X:Cx)(r:R2)(op:D->D->Option D):Prop:=∀H O x y dx dy d Q,(∀a,O a->∃u:MutHO,H a=some u.1)->WRep X.K H O x dx->WRep X.K H O y dy->op dx dy=some d->(∀v H',Same H H'->Rep X.K H' O v d->Q v H')->r x y H Q
theorem DZ{r:R2}{op:D->D->Option D}(hs:OpS X r op){a b:Expr}{fa fb:FE}{ta tb:TE}(ha:∀H₀ H O σ ds hd d Q,Ok X.K H₀ H O σ ds hd->fa ds=some d->(∀v H',Same H H'->WRep X.K H' O v d->Q v H')->ta σ H Q)
  (hb:∀H₀ H O σ ds hd d Q,Ok X.K H₀ H O σ ds hd->fb ds=some d->(∀v H',Same H H'->WRep X.K H' O v d->Q v H')->tb σ H Q) :
  ∀H₀ H O σ ds hd d Q,Ok X.K H₀ H O σ ds hd->zI op fa fb ds=some d->(∀v H',Same H H'->Rep X.K H' O v d->Q v H')->tOp r ta tb σ H Q:=by
 intro H₀ H O σ ds hd d Q o e q;unfold zI at e;obtain⟨dx,h1,e⟩:=bnd e;obtain⟨dy,h2,e⟩:=bnd e;refine ha H₀ H O σ ds hd dx _ o h1 fun x H1 s1 r1=>?_;refine hb H₀ H1 O σ ds hd dy _ (o.mono s1) h2 fun y H2 s2 r2=>?_;exact hs H2 O x y dx dy d Q ((o.mono s1).mono s2).dom (r1.mono s2) r2 e fun v H' s r=>q v H' ((s1.trans s2).trans s) r
theorem rJ{op:Operator}{r:R2}{opD:D->D->Option D}{a b:Expr}{fa fb:FE}{pos:Pos}(ho:OpR X (binaryOp op) r)(hs:OpS X r opD)(ha:PVw X a fa)(hb:PVw X b fb):PV X (.BinOp a op b pos) (zI opD fa fb):=by
 obtain⟨ta,pa,ha⟩:=ha;obtain⟨tb,pb,hb⟩:=hb;exact⟨_,TW ho pa pb,DZ hs (a:=a) (b:=b) ha hb⟩
theorem JC{op:CmpOp}{r:R2}{opD:D->D->Option D}{a b:Expr}{fa fb:FE}{pos:Pos}(ho:OpR X (compareOp op) r)(hs:OpS X r opD)(ha:PVw X a fa)(hb:PVw X b fb)(hm:behindInMarks op b=false):PV X (.Compare a [op] [b] pos) (zI opD fa fb):=by
 obtain⟨ta,pa,ha⟩:=ha;obtain⟨tb,pb,hb⟩:=hb;exact⟨_,LW ho pa pb hm,DZ hs (a:=a) (b:=b) ha hb⟩
theorem vB{op:CmpOp}{r:R2}{opD:D->D->Option D}{a b:Expr}{fa fb:FE}{pos:Pos}(ho:OpR X (compareOp op) r)(hs:OpS X r opD)(ha:PVw X a fa)(hb:PVw X b fb)(hm:behindInMarks op b=false):PTv X (.Compare a [op] [b] pos) (zT (zI opD fa fb)):=by
 obtain⟨ta,pa,ha⟩:=ha;obtain⟨tb,pb,hb⟩:=hb;refine⟨_,LN ho pa pb hm,fun H₀ H O σ ds hd k Q o e q=>?_⟩;unfold zT at e;obtain⟨d,h,e⟩:=bnd e;refine DZ hs (a:=a) (b:=b) ha hb H₀ H O σ ds hd d _ o h fun v H' s r=>?_;cases d with
 |bl c=>cases e;cases r;exact⟨_,rfl,q H' s⟩
 |_=>cases e
theorem os_add:OpS X (fun x y H Q=>rI0 (fun i j=>.int (i+j)) x y H Q\/∃i j,x=.str i/\y=.str j/\i.length+j.length<=sizeLine/\Q (.str (i++j)) H) yA:=by
 intro H O x y dx dy d Q ho rx ry e q;cases dx<;>cases dy<;>first | (simp[yA] at e;done) | skip
 . cases e;rw[rx.int',ry.int'];exact .inl ⟨_,_,rfl,rfl,q _ H (Same.refl _) (.int _)⟩
 . rename_i x y;simp only [yA] at e
   split at e
   . rename_i hl;cases e;rw[rx.str',ry.str'];exact .inr ⟨_,_,rfl,rfl,hl,q _ H (Same.refl _) (.str _)⟩
   . cases e
theorem YY:OpR X (binaryOp .Add) (fun x y H Q=>rI0 (fun i j=>.int (i+j)) x y H Q\/∃i j,x=.str i/\y=.str j/\i.length+j.length<=sizeLine/\Q (.str (i++j)) H):=op_add.or JH
theorem os_sub:OpS X (rI0 fun i j=>.int (i-j)) subD:=by
 intro H O x y dx dy d Q ho rx ry e q;cases dx<;>cases dy<;>first | (simp[subD] at e;done) | skip
 cases e;rw[rx.int',ry.int'];exact⟨_,_,rfl,rfl,q _ H (Same.refl _) (.int _)⟩
noncomputable def CDivB(i j:Int):Prop:=divOk j
theorem UB:OpR X (binaryOp .FloorDiv) (rI CDivB fun i j=>.int (i/j)):=opI fun i j _ _ _ _ _ hc q=>by
 have e:i.fdiv j=i/j:=CD _ (IH hc.1);refine floordiv_int (by have:=hc.1;omega) ?_ (.inl (PyProof.noPylong_of_log2 hc.2));rw[e];exact q
theorem YU:OpS X (rI CDivB fun i j=>.int (i/j)) xD:=by
 intro H O x y dx dy d Q ho rx ry e q;cases dx<;>cases dy<;>first | (simp[xD] at e;done) | skip
 simp only[xD] at e
 split at e
 . rename_i hc;cases e;rw[rx.int',ry.int'];exact⟨_,_,rfl,rfl,hc,q _ H (Same.refl _) (.int _)⟩
 . cases e
theorem os_mod:OpS X (rI (fun _ j=>0<j) fun i j=>.int (i%j)) wB:=by
 intro H O x y dx dy d Q ho rx ry e q;cases dx<;>cases dy<;>first | (simp[wB] at e;done) | skip
 simp only[wB] at e
 split at e
 . rename_i hc;cases e;rw[rx.int',ry.int'];exact⟨_,_,rfl,rfl,hc,q _ H (Same.refl _) (.int _)⟩
 . cases e
theorem vJ{p:Int->Int->Bool}: OpS X (rI0 fun i j=>.bl (p i j)) (cmpI p):=by
 intro H O x y dx dy d Q ho rx ry e q;cases dx<;>cases dy<;>first | (simp[cmpI] at e;done) | skip
 cases e;rw[rx.int',ry.int'];exact⟨_,_,rfl,rfl,q _ H (Same.refl _) (.bl _)⟩
end
section
variable{X:Cx}
theorem PV.t{e:Expr}{f:FE}(h:PV X e f)(he:∀whole,isTrue e X.env whole=(do let v <- whole;standAt e.pos;holding [v] (truthy v)):=by intro _;rfl):PTv X e (zT f):=by
 obtain⟨t,ht,hf⟩:=h;refine⟨_,pt_val ht he,fun H₀ H O σ ds hd k Q o e q=>?_⟩;unfold zT at e;obtain⟨d,h,e⟩:=bnd e;refine hf H₀ H O σ ds hd d _ o h fun v H' s r=>?_;cases d with
 |bl c=>cases e;cases r;exact⟨_,rfl,q H' s⟩
 |_=>cases e
theorem xH{a:Expr}{pos:Pos}{c:FT}(ha:PTv X a c):PWv X (.BoolOp .And [a] pos) c:=by
 obtain⟨t,ht,hf⟩:=ha;exact⟨_,YB ht,hf⟩
theorem jL{a:Expr}{pos:Pos}{c:FT}(ha:PTv X a c):PWv X (.BoolOp .Or [a] pos) c:=by
 obtain⟨t,ht,hf⟩:=ha;exact⟨_,pw_or1 ht,hf⟩
theorem xJ{a b:Expr}{rest:List Expr}{pos:Pos}{c d:FT}(ha:PTv X a c)(hb:PWv X (.BoolOp .And (b::rest) pos) d):PWv X (.BoolOp .And (a::b::rest) pos) (andT c d):=by
 obtain⟨t,ht,hf⟩:=ha;obtain⟨u,hu,hg⟩:=hb;refine⟨_,pw_and ht hu,fun H₀ H O σ ds hd k Q o e q=>?_⟩;unfold andT at e;obtain⟨b,h,e⟩:=bnd e;refine hf H₀ H O σ ds hd b _ o h fun H' s=>?_;cases b with
 |true=>exact iteT (hg H₀ H' O σ ds hd k Q (o.mono s) (by simpa using e) fun H'' s'=>q H'' (s.trans s'))
 | false =>
   have:false=k:=by simpa using e
   subst this;exact iteF (q H' s)
theorem jN{a b:Expr}{rest:List Expr}{pos:Pos}{c d:FT}(ha:PTv X a c)(hb:PWv X (.BoolOp .Or (b::rest) pos) d):PWv X (.BoolOp .Or (a::b::rest) pos) (orT c d):=by
 obtain⟨t,ht,hf⟩:=ha;obtain⟨u,hu,hg⟩:=hb;refine⟨_,pw_or ht hu,fun H₀ H O σ ds hd k Q o e q=>?_⟩;unfold orT at e;obtain⟨b,h,e⟩:=bnd e;refine hf H₀ H O σ ds hd b _ o h fun H' s=>?_;cases b with
 |false=>exact iteF (hg H₀ H' O σ ds hd k Q (o.mono s) (by simpa using e) fun H'' s'=>q H'' (s.trans s'))
 | true =>
   have:true=k:=by simpa using e
   subst this;exact iteT (q H' s)
theorem PWv.t{e:Expr}{c:FT}(h:PWv X e c):PTv X e c:=by
 obtain⟨t,ht,hf⟩:=h;exact⟨t,ht.pt,hf⟩
theorem jC{a:Expr}{pos:Pos}{c:FT}(ha:PTv X a c):PTv X (.UnaryOp .Not a pos) (notT c):=by
 obtain⟨t,ht,hf⟩:=ha;refine⟨_,pt_not ht,fun H₀ H O σ ds hd k Q o e q=>?_⟩;unfold notT at e;obtain⟨b,h,rfl⟩:=mpd e;exact hf H₀ H O σ ds hd b _ o h fun H' s=>q H' s
theorem JB{a:Expr}{op}{pos:Pos}{f:FE}(ha:PV X a f):PV X (.BoolOp op [a] pos) f:=by
 obtain⟨t,ht,hf⟩:=ha;exact⟨_,pe_one ht,hf⟩
theorem EG{a b:Expr}{rest:List Expr}{pos:Pos}{f g:FE}(ha:PV X a f)(hb:PV X (.BoolOp .And (b::rest) pos) g):PV X (.BoolOp .And (a::b::rest) pos) (andV f g):=by
 obtain⟨t,ht,hf⟩:=ha;obtain⟨u,hu,hg⟩:=hb;refine⟨_,pe_and ht hu,fun H₀ H O σ ds hd d Q o e q=>?_⟩;unfold andV at e;obtain⟨dd,h,e⟩:=bnd e;refine hf H₀ H O σ ds hd dd _ o h fun v H' s r=>?_;cases dd with
 | bl c =>
   cases r;cases c with
   |true=>exact⟨true,rfl,iteT (hg H₀ H' O σ ds hd d Q (o.mono s) e fun v H'' s'=>q v H'' (s.trans s'))⟩
   | false =>
     have:D.bl false=d:=Option.some.inj e;subst this;exact⟨false,rfl,iteF (q _ H' s (.bl false))⟩
 |_=>cases e
theorem pv_or{a b:Expr}{rest:List Expr}{pos:Pos}{f g:FE}(ha:PV X a f)(hb:PV X (.BoolOp .Or (b::rest) pos) g):PV X (.BoolOp .Or (a::b::rest) pos) (orV f g):=by
 obtain⟨t,ht,hf⟩:=ha;obtain⟨u,hu,hg⟩:=hb;refine⟨_,pe_or ht hu,fun H₀ H O σ ds hd d Q o e q=>?_⟩;unfold orV at e;obtain⟨dd,h,e⟩:=bnd e;refine hf H₀ H O σ ds hd dd _ o h fun v H' s r=>?_;cases dd with
 | bl c =>
   cases r;cases c with
   |false=>exact⟨false,rfl,iteF (hg H₀ H' O σ ds hd d Q (o.mono s) e fun v H'' s'=>q v H'' (s.trans s'))⟩
   | true =>
     have:D.bl true=d:=Option.some.inj e;subst this;exact⟨true,rfl,iteT (q _ H' s (.bl true))⟩
 |_=>cases e
theorem pv_if{c a b:Expr}{pos:Pos}{fc:FT}{f g:FE}(hc:PTv X c fc)(ha:PV X a f)(hb:PV X b g):PV X (.IfExp c a b pos) (ifV fc f g):=by
 obtain⟨tc,pc,hc⟩:=hc;obtain⟨t,ht,hf⟩:=ha;obtain⟨u,hu,hg⟩:=hb;refine⟨_,TX pc ht hu,fun H₀ H O σ ds hd d Q o e q=>?_⟩;unfold ifV at e;obtain⟨k,h,e⟩:=bnd e;refine hc H₀ H O σ ds hd k _ o h fun H' s=>?_;cases k with
 |true=>exact iteT (hf H₀ H' O σ ds hd d Q (o.mono s) (by simpa using e) fun v H'' s'=>q v H'' (s.trans s'))
 |false=>exact iteF (hg H₀ H' O σ ds hd d Q (o.mono s) (by simpa using e) fun v H'' s'=>q v H'' (s.trans s'))
theorem qE:PAv X [] zR:=⟨_,xB,fun _ H _ _ _ _ _ _ _ e q=>by cases e;exact q _ H (Same.refl _) .nil⟩
theorem zW:PAs X [] zR:=⟨_,xB,fun _ H _ _ _ _ _ _ _ e q=>by cases e;exact q _ H (Same.refl _) .nil⟩
theorem zQ{e:Expr}{es:List Expr}{f:FE}{g:FA}(ha:PVw X e f)(hr:PAv X es g)(hs:starEach (e::es) X.env=(false,eval e X.env)::starEach es X.env:=by rfl):PAv X (e::es) (zF f g):=by
 obtain⟨t,ht,hf⟩:=ha;obtain⟨u,hu,hg⟩:=hr;refine⟨_,jS ht hu hs,fun H₀ H O σ ds hd l Q o e q=>?_⟩;unfold zF at e;obtain⟨x,h,e⟩:=bnd e;obtain⟨r,h2,rfl⟩:=mpd e;refine hf H₀ H O σ ds hd x _ o h fun v H1 s1 r1=>?_;refine hg H₀ H1 O σ ds hd r _ (o.mono s1) h2 fun vs H2 s2 r2=>?_;exact q _ H2 (s1.trans s2) (.cons (r1.mono s2) r2)
theorem zM{e:Expr}{es:List Expr}{f:FE}{g:FA}(ha:PV X e f)(hr:PAs X es g)(hs:starEach (e::es) X.env=(false,eval e X.env)::starEach es X.env:=by rfl):PAs X (e::es) (zF f g):=by
 obtain⟨t,ht,hf⟩:=ha;obtain⟨u,hu,hg⟩:=hr;refine⟨_,jS ht hu hs,fun H₀ H O σ ds hd l Q o e q=>?_⟩;unfold zF at e;obtain⟨x,h,e⟩:=bnd e;obtain⟨r,h2,rfl⟩:=mpd e;refine hf H₀ H O σ ds hd x _ o h fun v H1 s1 r1=>?_;refine hg H₀ H1 O σ ds hd r _ (o.mono s1) h2 fun vs H2 s2 r2=>?_;exact q _ H2 (s1.trans s2) (.cons (r1.mono s2) r2)
theorem jA{H:Hp}{p:Addr}(h:H p=none)(o:HO):Same H (upd H p o):=fun b u q=>by rw[zX (yD q h)];exact q
theorem qK{es:List Expr}{pos:Pos}{g:FA}(h:PAs X es g):PVf X (.List es pos) (qI g):=by
 obtain⟨t,ht,hf⟩:=h;refine⟨_,pe_lst ht,fun H₀ H O σ ds hd l Q o e q=>?_⟩;unfold qI at e;cases h:g ds with
 |none=>rw[h] at e;cases e
 | some l' =>
   rw[h] at e;simp only[aC] at e
   split at e
   . rename_i hl;cases e;refine hf H₀ H O σ ds hd l _ o h fun vs H1 s1 r1=>⟨by rw [r1.length]; exact hl,fun p hp=>?_⟩
     refine q p vs _ (s1.trans (jA hp _)) (s1.free hp) cF ?_;exact(r1.more hp).mono (jA hp _)
   . cases e
theorem yZ{es:List Expr}{x1}{pos:Pos}{g:FA}(h:PAs X es g):PV X (.Tuple es x1 pos) (mkT (qI g)):=by
 obtain⟨t,ht,hf⟩:=h;refine⟨_,JG ht,fun H₀ H O σ ds hd d Q o e q=>?_⟩;unfold mkT qI at e;cases h:g ds with
 |none=>rw[h] at e;cases e
 | some l' =>
   rw[h] at e;simp only[aC] at e
   split at e
   . rename_i hl;cases e;refine hf H₀ H O σ ds hd l' _ o h fun vs H1 s1 r1=>⟨by rw [r1.length]; exact hl,fun p hp=>?_⟩
     refine q _ _ (s1.trans (jA hp _)) ?_;exact .tup ((o.mono s1).free hp) (.inl cF) (r1.mono (jA hp _))
   . cases e
theorem NA{K:Frag}{H:Hp}{O:Addr->Prop}{xs:List V}{l:List D}{i:Int}{d:D}(r:Reps K H O xs l)(e:atI l i=some d):∃v,atI xs i=some v/\Rep K H O v d:=by
 unfold atI at e ⊢;rw[r.length];cases h:ixN l.length i with
 |none=>rw[h] at e;cases e
 | some j =>
   rw[h] at e;exact r.get e
theorem ix_sem{K:Frag}{H:Hp}{O:Addr->Prop}{x y:V}{dx dy d:D}{Q:VK}(rx:WRep K H O x dx)(ry:WRep K H O y dy)(e:ixD dx dy=some d)(q:∀v H',Same H H'->Rep K H' O v d->Q v H'):rIx K x y H Q:=by
 cases dx<;>cases dy<;>first | (simp[ixD] at e;done) | skip
 . simp only [ixD] at e
   split at e
   . rename_i hl;rw[rx.str',ry.int'];rename_i z i;obtain⟨c,hc,rfl⟩:=mpd e;exact .inr (.inr ⟨_,_,c,rfl,rfl,hl,hc,q _ H (Same.refl _) (.str _)⟩)
   . cases e
 . obtain⟨a, xs, rfl, hs, r⟩ := rx.seqT;rw[ry.int'];obtain⟨v,h1,h2⟩:=NA r e;exact .inr (.inl ⟨a,xs,_,v,rfl,rfl,hs,h1,q _ H (Same.refl _) h2⟩)
 . obtain⟨a, xs, rfl, hs, r⟩ := rx.seqL;rw[ry.int'];obtain⟨v,h1,h2⟩:=NA r e;exact .inl ⟨a,xs,_,v,rfl,rfl,hs,h1,q _ H (Same.refl _) h2⟩
theorem os_ix:OpS X (rIx X.K) ixD:=fun H O x y dx dy d Q ho rx ry e q=>ix_sem rx ry e q
theorem qA{a b:Expr}{fa fb:FE}{pos:Pos}(ha:PVw X a fa)(hb:PVw X b fb)(hs:NC b:=by exact fun _ _=>rfl):PV X (.Subscript a b pos) (zI ixD fa fb):=by
 obtain⟨ta,pa,ha⟩:=ha;obtain⟨tb,pb,hb⟩:=hb;exact⟨_,pe_ix ix_seq pa pb hs,DZ os_ix (a:=a) (b:=b) ha hb⟩
end
noncomputable def RetOk(K:Frag)(H H':Hp)(v:V):Ret->Prop
 | .val d=>Rep K H' (Old H) v d
 | .fresh l=>∃a xs,v=.ref a/\H a=none/\H' a=some (.lst xs)/\Reps K H' (ins1 a (Old H)) xs l
 | .any d=>Rep K H' yE v d
 | .obj t=>∃fs,RepO K H' (fun b=>b∈fs\/Old H b) v t fs/\fs.Nodup/\∀b∈fs,H b=none
noncomputable def RetB(K:Frag)(H:Hp)(hd:Hold)(v:V):Ret->Prop
 | .any d=>∀B,HI.base B∈hd->Rep K H B v d
 |_=>True
noncomputable def spF(K:Frag)(n:Nat)(F:List D->Option Ret):Sp:=fun vs H Q _=>vs.length=n/\∃ds r,Reps K H yE vs ds/\F ds=some r/\∀v H',Same H H'->RetOk K H H' v r->Q v H'
section
variable{X:Cx}
mutual
theorem RepO.val'{K:Frag}{H:Hp}{O O':Addr->Prop}:∀{v:V} {t:OT} {fs:List Addr},RepO K H O v t fs->(∀a,O' a->O a/\a∉fs)->Rep K H O' v (otD t)
 |_,_,_,.val r,k=>r.less fun a z=>(k a z).1
 |_,_,_,.lst n h r,k=>by unfold otD;exact .lst (fun z=>(k _ z).2 (.head _)) (.inl h) (RepsO.val' r fun a z=>⟨(k a z).1,fun q=>(k a z).2 (.tail _ q)⟩)
 |_,_,_,.tup n h r,k=>by unfold otD;exact .tup (fun z=>n (k _ z).1) h (RepsO.val' r k)
 |_,_,_,.dct n h e r,k=>by unfold otD;exact .dct (fun z=>(k _ z).2 (.head _)) h e (RepsO.val' r fun a z=>⟨(k a z).1,fun q=>(k a z).2 (.tail _ q)⟩)
 |_,_,_,.ins c n h e r,k=>by unfold otD;exact .ins c (fun z=>(k _ z).2 (.head _)) h e (RepsO.val' r fun a z=>⟨(k a z).1,fun q=>(k a z).2 (.tail _ q)⟩)
theorem RepsO.val'{K:Frag}{H:Hp}{O O':Addr->Prop}:∀{v:List V} {t:List OT} {fs:List Addr},RepsO K H O v t fs->(∀a,O' a->O a/\a∉fs)->Reps K H O' v (otDs t)
 |_,_,_,.nil,_=>by unfold otDs;exact .nil
 |_,_,_,.cons h r,k=>by unfold otDs;exact .cons (RepO.val' h fun a z=>⟨(k a z).1,fun q=>(k a z).2 (dB _ q)⟩) (RepsO.val' r fun a z=>⟨(k a z).1,fun q=>(k a z).2 (bC _ q)⟩)
end
theorem DX{K:Frag}{H H':Hp}{O:Addr->Prop}{v:V}{r:Ret}{d:D}(h:RetOk K H H' v r)(e:retV r=some d)(ho:∀a,O a->Old H a):Rep K H' O v d:=by
 cases r with
 |any d'=>cases e
 |val d'=>cases e;exact h.less ho
 | obj t =>
   cases e;obtain⟨fs,h1,h2,h3⟩:=h;refine h1.val' fun a z=>⟨.inr (ho a z),fun q=>?_⟩
   obtain⟨o,e,_⟩:=ho a z;rw[h3 a q] at e;cases e
 | fresh l =>
   cases e;obtain⟨a,xs,rfl,h1,h2,h3⟩:=h;refine .lst (fun z=>?_) (.inl h2) (h3.less fun b z=>.inr (ho b z));obtain⟨o,e,_⟩:=ho a z;rw[h1] at e;cases e
theorem XY{K:Frag}{H H':Hp}{O:Addr->Prop}{v:V}{r:Ret}{l:List D}(h:RetOk K H H' v r)(e:retF r=some l)(ho:∀a,O a->Old H a):∃a xs,v=.ref a/\H a=none/\H' a=some (.lst xs)/\Reps K H' (ins1 a O) xs l:=by
 cases r with
 |any d'=>cases e
 |val d'=>cases e
 |obj t=>cases e
 | fresh l' =>
   cases e;obtain⟨a,xs,rfl,h1,h2,h3⟩:=h;exact⟨a,xs,rfl,h1,h2,h3.less fun b z=>z.elim .inl fun z=>.inr (ho b z)⟩
section
variable{k:Nat}{f:Addr}{fd:FuncData}{ps:List Str}{n:Nat}{F:List D->Option Ret}{x:Str}{p pos:Pos}{e:Expr}{es:List Expr}{g:FA}
end
noncomputable def CallS(X:Cx)(r:List V->Hp->VK->Prop)(F:List D->Option D):Prop:=∀H O vs l d Q,(∀a,O a->∃u:MutHO,H a=some u.1)->Paired (WRep X.K H O) vs l->F l=some d->(∀v H',Same H H'->Rep X.K H' O v d->Q v H')->r vs H Q
theorem vW{x:Str}{p pos:Pos}{e:Expr}{es:List Expr}{id:String}{r:List V->Hp->VK->Prop}{F:List D->Option D}{g:FA}(hc:CallR X (.builtin id) r)(hs:CallS X r F)(hm:X.mg x=none)(hv:bootBuiltins x=some (.builtin id))(ha:PAv X (e::es) g)
  (hg:Gl X x) (hn:x≠"__name__":=by decide) (hdb:(x==("__debug__" : Str))=false:=by decide) (he:starEach (e::es) X.env=(false,eval e X.env)::starEach es X.env:=by rfl) (hpl:(backTo pos (starEach es X.env)).any (·.1)=false:=by rfl) :
  PV X (.Call (.Name x p) (e::es) [] pos) (callB F g):=by
 obtain⟨t,ht,hf⟩:=ha;refine⟨_,AD hc hg hm hv ht hn hdb he hpl,fun H₀ H O σ ds hd d Q o e q=>?_⟩;unfold callB at e;obtain⟨l,h,e⟩:=bnd e;refine hf H₀ H O σ ds hd l _ o h fun vs H1 s1 r1=>?_;exact hs H1 O vs l d Q (o.mono s1).dom r1 e fun v H' s' r=>q v H' (s1.trans s') r
theorem QH:CallR X (.builtin "len") (fun xs H Q=>(∃p ys,xs=[.ref p]/\(SqL X.K H p ys\/SqT X.K H p ys)/\Q (.int ys.length) H)\/∃z,xs=[.str z]/\z.length<=sizeLine/\Q (.int z.length) H):=FH.or FG
theorem cs_len:CallS X (fun xs H Q=>(∃p ys,xs=[.ref p]/\(SqL X.K H p ys\/SqT X.K H p ys)/\Q (.int ys.length) H)\/∃z,xs=[.str z]/\z.length<=sizeLine/\Q (.int z.length) H) lenD:=by
 intro H O vs l d Q ho r e q
 match l,r,e with
 | [.lst l], .cons r .nil, e =>
   cases e;obtain⟨a,xs,rfl,hs,rs⟩:=r.seqL;refine .inl ⟨a,xs,rfl,.inl hs,?_⟩;rw[rs.length];exact q _ H (Same.refl _) (.int _)
 | [.tup l], .cons r .nil, e =>
   cases e;obtain⟨a,xs,rfl,hs,rs⟩:=r.seqT;refine .inl ⟨a,xs,rfl,.inr hs,?_⟩;rw[rs.length];exact q _ H (Same.refl _) (.int _)
 | [.str x], .cons r .nil, e =>
   simp only[lenD] at e
   split at e
   . rename_i hl;cases e;rw[r.str'];exact .inr ⟨x,rfl,hl,q _ H (Same.refl _) (.int _)⟩
   . cases e
theorem jM{p pos:Pos}{e:Expr}{g:FA}(hm:X.mg "len" = none)(ha:PAv X [e] g)(hg:Gl X "len":=by rfl)(he:starEach [e] X.env=[(false,eval e X.env)]:=by rfl) :
  PV X (.Call (.Name "len" p) [e] [] pos) (callB lenD g):=vW QH cs_len hm PySem.boot_len ha hg (by decide) (by decide) he rfl
noncomputable def After(X:Cx)(H₀ : Hp)(hd:Hold)(E:Ends):Out->Prop
 | .nx ds=>∀σ H O,Ok X.K H₀ H O σ ds hd->E.nx σ H
 | .bk ds=>∀σ H O,Ok X.K H₀ H O σ ds hd->E.bk σ H
 | .ct ds=>∀σ H O,Ok X.K H₀ H O σ ds hd->E.ct σ H
 | .rt r=>∀v H,Same H₀ H->RetOk X.K H₀ H v r->RetB X.K H hd v r->E.rt v H
variable(X) in
noncomputable def PSv(st:Stmt)(g:FS):Prop:=∃t,PS X st t/\∀H₀ H O σ ds hd out E,Ok X.K H₀ H O σ ds hd->g ds=some out->After X H₀ hd E out->t E σ H
variable(X) in
noncomputable def PSsv(st:List Stmt)(g:FS):Prop:=∃t,PSs X st t/\∀H₀ H O σ ds hd out E,Ok X.K H₀ H O σ ds hd->g ds=some out->After X H₀ hd E out->t E σ H
theorem zJ:PSsv X [] qD:=⟨_,LQ,fun _ H O σ ds hd out E o e h=>by cases e;exact h σ H O o⟩
theorem zC{st:Stmt}{rest:List Stmt}{f g:FS}(h1:PSv X st f)(h2:PSsv X rest g):PSsv X (st::rest) (qM f g):=by
 obtain⟨t,ht,hf⟩:=h1;obtain⟨u,hu,hg⟩:=h2;refine⟨_,wX ht hu,fun H₀ H O σ ds hd out E o e h=>?_⟩;unfold qM at e;obtain⟨o1,h1,e⟩:=bnd e;refine hf H₀ H O σ ds hd o1 _ o h1 ?_;cases o1 with
 |nx ds'=>exact fun σ' H' O' o'=>hg H₀ H' O' σ' ds' hd out E o' e h
 |rt r=>cases e;exact h
 |bk ds'=>cases e;exact h
 |ct ds'=>cases e;exact h
theorem zD{st:Stmt}{f:FS}(h1:PSv X st f):PSsv X [st] f:=by
 obtain⟨t,ht,hf⟩:=h1;exact⟨_,LP ht,hf⟩
theorem EJ{pos:Pos}: PSv X (.Continue pos) (fun ds=>some (.ct ds)):=⟨_,GQ,fun _ H O σ ds hd out E o e h=>by cases e;exact h σ H O o⟩
theorem zU{c:Expr}{a b:List Stmt}{pos:Pos}{fc:FT}{f g:FS}(hc:PTv X c fc)(ha:PSsv X a f)(hb:PSsv X b g):PSv X (.If c a b pos) (ifG fc f g):=by
 obtain⟨tc,pc,hc⟩:=hc;obtain⟨t,ht,hf⟩:=ha;obtain⟨u,hu,hg⟩:=hb;refine⟨_,ps_if pc ht hu,fun H₀ H O σ ds hd out E o e h=>?_⟩;unfold ifG at e;obtain⟨k,h1,e⟩:=bnd e;refine hc H₀ H O σ ds hd k _ o h1 fun H' s=>?_;cases k with
 |true=>exact iteT (hf H₀ H' O σ ds hd out E (o.mono s) (by simpa using e) h)
 |false=>exact iteF (hg H₀ H' O σ ds hd out E (o.mono s) (by simpa using e) h)
theorem zS{i:Nat}{x:Str}{e:Expr}{pos pos':Pos}{f:FE}(hN:X.N.Nodup)(he:PV X e f)(hi:X.N[i]?=some x:=by rfl)(hx:Loc X.env.scope x:=by first | exact Or.inl rfl | exact Or.inr rfl)(hs:swapsWith e (some (.Name x pos')) pos.line X.env=pure false:=by rfl)
  (hf:X.fn x=true\/X.env.scope.names.lookup x=some .local:=by first | exact .inl rfl | exact .inr rfl):PSv X (.Assign [.Name x pos'] e pos) (jG i f):=by
 obtain⟨t,ht,hg⟩:=he;refine⟨_,JD hN hi hx ht hs hf,fun H₀ H O σ ds hd out E o e h=>?_⟩;unfold jG at e;obtain⟨d,h1,rfl⟩:=mpd e;exact hg H₀ H O σ ds hd d _ o h1 fun v H' s r=>h _ _ _ ((o.mono s).set r)
theorem yC{i:Nat}{x:Str}{e:Expr}{pos pos':Pos}{f:FA}(hN:X.N.Nodup)(he:PVf X e f)(hi:X.N[i]?=some x:=by rfl)(hx:Loc X.env.scope x:=by first | exact Or.inl rfl | exact Or.inr rfl)(hs:swapsWith e (some (.Name x pos')) pos.line X.env=pure false:=by rfl)
  (hf:X.fn x=true\/X.env.scope.names.lookup x=some .local:=by first | exact .inl rfl | exact .inr rfl):PSv X (.Assign [.Name x pos'] e pos) (setOG i f):=by
 obtain⟨t,ht,hg⟩:=he;refine⟨_,JD hN hi hx ht hs hf,fun H₀ H O σ ds hd out E o e h=>?_⟩;unfold setOG at e;obtain⟨l,h1,rfl⟩:=mpd e;exact hg H₀ H O σ ds hd l _ o h1 fun a xs H' s hn he r=>h _ _ _ (o.setO s hn he r)
theorem zV{e:Expr}{pos:Pos}{f:FE}(he:PVw X e f):PSv X (.Return (some e) pos) (retG f):=by
 obtain⟨t,ht,hg⟩:=he;refine⟨_,rK ht,fun H₀ H O σ ds hd out E o e h=>?_⟩;unfold retG at e;obtain⟨d,h1,e⟩:=bnd e;simp only[aC,flatR] at e
 split at e
 . rename_i hf;cases e;exact hg H₀ H O σ ds hd d _ o h1 fun v H' s r=>h _ _ (o.same.trans s) (Rep.flatten (fun a z=>Old.mono (o.same.trans s) z) hf r.any) True.intro
 . cases e
theorem qX{e:Expr}{pos:Pos}{f:FA}(he:PVf X e f):PSv X (.Return (some e) pos) (retOG f):=by
 obtain⟨t,ht,hg⟩:=he;refine⟨_,rK ht,fun H₀ H O σ ds hd out E o e h=>?_⟩;unfold retOG at e;obtain⟨l,h1,e⟩:=bnd e;simp only[aC,flatF] at e
 split at e
 . rename_i hf;cases e;refine hg H₀ H O σ ds hd l _ o h1 fun a xs H' s hn he r=>h _ _ (o.same.trans s) ⟨a,xs,rfl,o.same.free hn,he,Reps.flatten (fun b z=>?_) hf r⟩ True.intro;rcases z with rfl | z
   . exact⟨_,he,rfl⟩
   . exact Old.mono (o.same.trans s) z
 . cases e
theorem vR(i:Nat){x:Str}{pos pos':Pos}(hN:X.N[i]?=some x:=by rfl)(hv:Vis X.env.scope x:=by first | exact Or.inl rfl | exact Or.inr (Or.inl rfl) | exact Or.inr (Or.inr rfl))(hd:(x==("__debug__" : Str))=false:=by decide)
  (hcd:(x==("__classdict__" : Str))=false:=by decide):PSv X (.Return (some (.Name x pos')) pos) (retXG i):=by
 refine⟨_,rK (wQ hN hv hd hcd),fun H₀ H O σ ds hd out E o e h=>?_⟩;unfold retXG at e;cases hs:ds[i]? with
 |none=>rw[hs] at e;cases e
 | some s =>
   rw[hs] at e;cases s with
   |v d'=>cases e
   |no=>cases e
   |exc _=>cases e
   |fr _=>cases e
   |ob _ _=>cases e
   | own l =>
     simp only[flatF] at e
     split at e
     . rename_i hf;cases e;obtain ⟨a,xs,h1,h2,h3,h4⟩:=o.readO hs;refine ⟨.ref a,h1,h _ _ o.same ⟨a,xs,rfl,o.fresh i l a hs h1,h3,Reps.flatten (fun b z=>?_) hf h4⟩ True.intro⟩;rcases z with rfl | z
       . exact⟨_,h3,rfl⟩
       . exact Old.mono o.same z
     . cases e
theorem YG{i:Nat}{x:Str}{e ek:Expr}{pos p1 p2:Pos}{fk fe:FE}(he:PV X e fe)(hk:PV X ek fk)(hN:X.N[i]?=some x:=by rfl)(hv:Vis X.env.scope x:=by first | exact Or.inl rfl | exact Or.inr (Or.inl rfl) | exact Or.inr (Or.inr rfl))(hd:(x==("__debug__" : Str))=false:=by decide)
  (hcd:(x==("__classdict__" : Str))=false:=by decide)
  (ha:∀v,assign (.Subscript (.Name x p1) ek p2) X.env v=(do
    let ov <- holding [v] (eval (.Name x p1) X.env)
    let iv <- holding [v,ov] (eval ek X.env)
    standAt p2
    holding [v,ov,iv] (setItem ov iv v)
    release [v,ov,iv] []):=by intro _;rfl)
  (hs:swapsWithSole [.Subscript (.Name x p1) ek p2] e pos.line X.env=pure false:=by rfl) (hw:swappedStores [.Subscript (.Name x p1) ek p2] e X.env=pure none:=by rfl)
  (h1:(assignEach [.Subscript (.Name x p1) ek p2] X.env).map (·.2)=[assign (.Subscript (.Name x p1) ek p2) X.env]:=by rfl):PSv X (.Assign [.Subscript (.Name x p1) ek p2] e pos) (putG i fk fe):=by
 obtain⟨te,pe,he⟩:=he;obtain⟨tk,pk,hk⟩:=hk;refine⟨_,TK pe (pg_sub (wQ hN hv hd hcd) pk SJ ha) hs hw h1,fun H₀ H O σ ds hd out E o e h=>?_⟩;unfold putG at e;cases hsl:ds[i]? with
 |none=>rw[hsl] at e;cases e
 | some s =>
   rw[hsl] at e;cases s with
   |v d'=>cases e
   |no=>cases e
   |exc _=>cases e
   |fr _=>cases e
   |ob _ _=>cases e
   | own l =>
     simp only at e;obtain⟨d,h1,e⟩:=bnd e;obtain⟨kd,h2,e⟩:=bnd e;cases kd with
     | int n =>
       simp only at e;obtain⟨j,h3,rfl⟩:=mpd e;refine he H₀ H O σ ds hd d _ o h1 fun v H1 s1 r1=>?_;obtain⟨a,xs,q1,q2,q3,q4⟩:=(o.mono s1).readO hsl;refine⟨.ref a,q1,?_⟩;refine hk H₀ H1 O σ ds hd _ _ (o.mono s1) h2 fun kv H2 s2 r2=>?_;cases r2;refine⟨a,xs,n,j,rfl,rfl,s2 _ _ q3,by rw[q4.length];exact h3,?_⟩;exact h _ _ _ (((o.mono s1).mono s2).modify hsl q1 ((q4.mono s2).set (r1.mono s2) j))
     |_=>cases e
theorem kA{i:Nat}{x:Str}{e:Expr}{pos p1 p2 p3:Pos}{fe:FE}(he:PV X e fe)(hN:X.N[i]?=some x:=by rfl)(hv:Vis X.env.scope x:=by first | exact Or.inl rfl | exact Or.inr (Or.inl rfl) | exact Or.inr (Or.inr rfl))(hd:(x==("__debug__" : Str))=false:=by decide)
  (hcd:(x==("__classdict__" : Str))=false:=by decide)
  (hfew:((backTo p3 (starEach [e] X.env)).all (fun x=>!x.1)&&(backToKw p3 (keywordEach [] X.env)).all (fun x=>x.1.isSome)
    && decide ([e].length+([]:List Keyword).length+(if ([]:List Keyword).isEmpty then 0 else 1)<30))=true:=by rfl)
  (hline:(p2.endLine==p3.line)=true:=by rfl) (hs:starEach [e] X.env=(false,eval e X.env)::starEach [] X.env:=by rfl)
  (hbase:attributeBase (.Name x p1) "append" X.env (eval (.Name x p1) X.env)=eval (.Name x p1) X.env:=by rfl) (hsw:swapsWith (.Call (.Attribute (.Name x p1) "append" p2) [e] [] p3) none pos.line X.env=pure false:=by rfl) :
  PSv X (.Expr (.Call (.Attribute (.Name x p1) "append" p2) [e] [] p3) pos) (appG i fe):=by
 obtain⟨te,pe,he⟩:=he;refine⟨_,EK (AE lZ PySem.F.slot_list_append PySem.F.type_list_append OS (wQ hN hv hd hcd) (jS pe xB hs) hbase hfew hline hs rfl) hsw,fun H₀ H O σ ds hd out E o e h=>?_⟩;unfold appG at e;cases hsl:ds[i]? with
 |none=>rw[hsl] at e;cases e
 | some s =>
   rw[hsl] at e;cases s with
   |v d'=>cases e
   |no=>cases e
   |exc _=>cases e
   |fr _=>cases e
   |ob _ _=>cases e
   | own l =>
     simp only at e;obtain⟨d,h1,e⟩:=bnd e
     split at e
     . rename_i hl;cases e;obtain⟨a,xs,q1,q2,q3,q4⟩:=o.readO hsl;refine⟨.ref a,q1,.inl ⟨rfl,xs,SqL.of q3⟩,?_⟩;refine he H₀ H O σ ds hd d _ o h1 fun v H1 s1 r1=>?_;refine⟨a,xs,v,rfl,rfl,s1 _ _ q3,by rw[q4.length];exact hl,?_⟩;exact h _ _ _ ((o.mono s1).modify hsl q1 ((q4.mono s1).append (.cons r1 .nil)))
     . cases e
theorem args_ob(n:Nat)(ds:List D)(i:Nat)(r:Option Nat)(t:OT):(args n ds)[i]?≠some (.ob r t):=fun e=>by
 unfold args at e
 by_cases hi:i<ds.length
 . rw [cQ (by simpa using hi), bV] at e;cases h:ds[i]? with
   |none=>rw[h] at e;cases e
   |some d=>rw[h] at e;cases e
 . rw [dP (by simpa using hi), fP] at e
   split at e<;>cases e
theorem GV{K:Frag}{H:Hp}{N:List Str}{vs:List V}{ds:List D}(r:Reps K H yE vs ds):Ok K H H yE (L2.start N vs) (args N.length ds) []:=by
 have hl:=r.length
 have no:∀i,IsOwn (args N.length ds) i->False:=fun i ⟨l,e⟩=>by
  unfold args at e
  by_cases hi:i<ds.length
  . rw [cQ (by simpa using hi), bV] at e;cases h:ds[i]? with
    |none=>rw[h] at e;cases e
    |some d=>rw[h] at e;cases e
  . rw [dP (by simpa using hi), fP] at e
    split at e<;>cases e
 refine⟨Same.refl _,fun i l a e _=>(no i ⟨l,e⟩).elim,fun _ z=>z.elim,by simp[L2.start,args,hl],fun i s e=>?_,fun i j a _ hi _ _ _=>no i hi,(fun p hp=>nomatch hp),.no (args_ob _ _)⟩;unfold args at e;unfold L2.start
 by_cases hi:i<ds.length
 . rw[cQ (by simpa using hi), bV] at e;rw[cQ (by simpa[hl] using hi),bV];obtain⟨d,h,rfl⟩:=mpd e;obtain⟨v,h1,h2⟩:=r.get h;rw[h1];exact vN h2
 . rw [dP (by simpa using hi), fP] at e
   split at e
   . cases e;exact yS
   . cases e
noncomputable def Does(g:FS)(n:Nat)(ds:List D)(r:Ret):Prop:=g (args n ds)=some (.rt r)\/(r=.val .non/\∃ds',g (args n ds)=some (.nx ds'))
theorem qP{P:Program}{w:World}{K:Frag}{mg:Str->Option Value}{base:Heap}{x qual:Str}{st:Stmt}{f:Addr}{fd:FuncData}{N ps:List Str}{k:Nat}{F:List D->Option Ret}(Fn:Fun K x qual st f fd)(S:FnScope N ps (zH st))
  {g:FS} (hbody:∀(cdv:Value) (A:Around) (outer:List Env) (s:Shared) (H:Hp) (E:XK),Room k (A.deeper (envOfC qual (zH st) s.heap.objs.size f cdv))->PSsv (cxOf CX0 P w K mg base N qual (zH st) f cdv A outer s H E).nox (qS st) g)
  (hg:∀ds r,ds.length=ps.length->F ds=some r->Does g N.length ds r):FnOk P w K mg base CX0 (k+1) f fd ps (spF K ps.length F):=by
 refine Fn.ok S (fun vs H Q E h=>h.1) (fun cdv A outer s H vs Q E hr h=>?_);obtain⟨hl,ds,r,rv,e,q⟩:=h;obtain⟨t,ht,hf⟩:=hbody cdv A outer s H E hr;refine⟨t,ht,?_⟩;have o:=GV (N:=N) rv;rcases hg ds r (by rw[<- rv.length];exact hl) e with e' | ⟨rfl,ds',e'⟩
 . exact hf H H yE _ _ [] _ _ o e' (fun v H' s r _=>q v H' s r)
 . exact hf H H yE _ _ [] _ _ o e' (fun σ H' O o'=>q .non H' o'.same .non)
end
end FL
namespace L2
open PySem PySem.Spec PyProof.Rows
noncomputable def Its(x:Str):It:=⟨fun i _=>i<x.cps.size,fun i H v H'=>H'=H/\∃c,x.cps[i]?=some c/\v=.str ⟨#[c]⟩,fun i _=>i=x.cps.size⟩
theorem GA{P:Program}{w:World}{K:aH}{tg:Expr}(x:Str)(t:Tok)(it:Addr)(ty:String)(hn:["enumerate","zip","dict_itemiterator","dict_reverseitemiterator","odict_iterator","itertools.zip_longest","itertools.pairwise"].contains ty=false)
  (Wk:∀A:Around,A.handled=none->Walks P w A it [it] [it] x.cps.size (SignAt x) (fun i h=>h.IsStrIter it ty x t i))
  (hself:∀(A:Around) (i:Nat) (s:Shared) (Q:Value->Shared->Prop) (E:Value->Shared->Prop),s.heap.IsStrIter it ty x t i->Q (.ref it) s->wpAny (model P w) A (pyIter (.ref it)) Q E s):Turn P w K tg (Its x) [it] it (fun i h=>h.IsStrIter it ty x t i) where
 mem:=by simp
 obj:=fun i h st b hb=>by
  have e:b=it:=by simpa using hb
  subst e;obtain⟨o,e,c,d⟩:=st;exact⟨o,e,fun v z=>by rw[d] at z;cases z⟩
 keep:=fun i h h' st k=>by
  obtain⟨o,e,r⟩:=st;exact⟨o,k it (by simp) o e,r⟩
 item:=by
  intro X hP hw hK hc i pins s σ H E I hf st hg;subst hP hw hK;obtain⟨f0,f1,f2,f3,f4,f5⟩:=hf it (by simp);refine(Wk X.A (I.ok.hd hc)).item i s _ _ hg st fun v h' tk hv st' kk=>?_;obtain⟨c,u,hc',rfl⟩:=hv;have I1:Inv X pins σ H { s with heap:=h',toks:=tk }:=I.turned (fun b o hb e=>kk b o (by simpa using hb) e) f0 f1 f3 f4 f5;obtain⟨o,e,c1,d⟩:=id st';exact⟨_,rfl,HG (s:={ s with heap:=h',toks:=tk }) e c1 d hn ⟨.str ⟨#[c]⟩,H,I1,⟨u,rfl⟩,⟨rfl,c,hc',rfl⟩,st',fun b hb=>(hf b hb).1⟩⟩
 done:=by
  intro X hP hw hK hc i pins s σ H E I hf st hg;subst hP hw hK;obtain⟨f0,f1,f2,f3,f4,f5⟩:=hf it (by simp);have hg':i=x.cps.size:=hg;subst hg';exact(Wk X.A (I.ok.hd hc)).done s _ _ st fun h' tk eb=>⟨rfl,I.turned (fun b o hb e=>eb b o (by simpa using hb) e) f0 f1 f3 f4 f5⟩
 self:=hself
section
variable{X:Cx}{tg:Expr}
noncomputable def iStr(tl:TE):TI:=fun σ H R=>tl σ H fun x H1=>∃z,x=.str z/\R (Its z) H1
theorem pi_str{l:Expr}{tl:TE}(hl:PE X l tl):PI X tg l (iStr tl):=by
 intro pins s σ H R I h;refine thn (hl pins s σ H _ I h) fun v s1 ⟨x,H1,I1,r1,q1⟩=>?_;obtain⟨z,e,q⟩:=q1;subst e;obtain⟨t,rfl⟩:=r1;cases ha:z.cps.all (· < 128)
 . refine wpAny_pyIter_wide ha ⟨s1.heap.objs.size, [s1.heap.objs.size], _, _, H1, rfl, I1.kept (t' := s1.toks) fun b o e => aL _ e, GA z t _ "str_iterator" (by decide) (fun A hA => Walks.strWide hA _ z t) (fun _ _ _ _ _ st h => wpAny_pyIter_striter_wide st h), ⟨_, bF _ rfl, rfl, rfl⟩, fun b hb => ?_, q⟩;have e:b=s1.heap.objs.size:=by simpa using hb
   subst e;exact I1.fpOk (aQ _) (I1.hok.fresh (aQ _))
 . refine wpAny_pyIter_ascii ha ⟨s1.heap.objs.size, [s1.heap.objs.size], _, _, H1, rfl, I1.kept (t' := s1.toks) fun b o e => aL _ e, GA z t _ "str_ascii_iterator" (by decide) (fun A hA => Walks.strAscii hA _ z t) (fun _ _ _ _ _ st h => wpAny_pyIter_striter_ascii st h), ⟨_, bF _ rfl, rfl, rfl⟩, fun b hb => ?_, q⟩;have e:b=s1.heap.objs.size:=by simpa using hb
   subst e;exact I1.fpOk (aQ _) (I1.hok.fresh (aQ _))
end
end L2
namespace FL
open PySem PySem.Spec PyProof.Rows L2
noncomputable def Wlk(K:Frag)(J:It)(p:V×D)(items:List D):Prop:=∀H O,(∀a,O a->∃u:MutHO,H a=some u.1)->Rep K H O p.1 p.2 →
 (∀i d,items[i]?=some d->J.go i H/\∀x H',J.yld i H x H'->Same H H'/\Rep K H' O x d)/\J.stop items.length H
section
variable{X:Cx}
variable(X) in
noncomputable def PIv(tg iter:Expr)(fi:FA):Prop:=∃wi,PI X tg iter wi/\∀H₀ H O σ ds hd items R,Ok X.K H₀ H O σ ds hd->fi ds=some items →
 (∀J p H',Same H H'->Rep X.K H' O p.1 p.2->Wlk X.K J p items->R J H')->wi σ H R
theorem RQ{K:Frag}{a:Addr}{l:List D}: Wlk K (Itl K a) (.ref a,.lst l) l:=by
 intro H O _ r;obtain⟨b,xs,e,hs,rs⟩:=WRep.seqL (.inl r);cases e;refine⟨fun i d hd=>?_,⟨xs,hs,by rw[rs.length];exact aQ _⟩⟩;obtain⟨v,h1,h2⟩:=rs.get hd;refine⟨⟨xs,v,hs,h1⟩,fun x H' y=>?_⟩;obtain⟨rfl,y⟩:=y;have:=y xs hs;rw[h1] at this;cases this;exact⟨Same.refl _,h2⟩
theorem XD{K:Frag}{a:Addr}{l:List D}: Wlk K (Itt K a) (.ref a,.tup l) l:=by
 intro H O _ r;obtain⟨b,xs,e,hs,rs⟩:=WRep.seqT (.inl r);cases e;refine⟨fun i d hd=>?_,⟨xs,hs,by rw[rs.length];exact aQ _⟩⟩;obtain⟨v,h1,h2⟩:=rs.get hd;refine⟨⟨xs,v,hs,h1⟩,fun x H' y=>?_⟩;obtain⟨rfl,y⟩:=y;have:=y xs hs;rw[h1] at this;cases this;exact⟨Same.refl _,h2⟩
theorem NH{K:Frag}{lo:Int}{n:Nat}: Wlk K (Itr lo n) (.non,.non) (gT lo n):=by
 intro H O _ r;have hl:(gT lo n).length=n:=by simp[gT]
 refine⟨fun i d hd=>?_,show n<=_ by rw[hl];exact aQ _⟩
 have hi:i<n:=by
  have:=(bK.mp hd).1
  rwa [hl] at this
 refine⟨hi,fun x H' y=>?_⟩;obtain⟨rfl,rfl⟩:=y
 have:d=D.int (lo+(i:Int)):=by
  simp only[gT,bV,KQ hi,aV] at hd;exact(Option.some.inj hd).symm
 subst this;exact⟨Same.refl _,.int _⟩
theorem XF{K:Frag}{x:Str}: Wlk K (Its x) (.non,.non) (sgns x):=by
 intro H O _ r;have hl:(sgns x).length=x.cps.size:=by simp[sgns]
 refine⟨fun i d hd=>?_,show _=x.cps.size from hl⟩
 have hi:i<x.cps.size:=by
  have:=(bK.mp hd).1
  rwa [hl] at this
 refine⟨hi,fun v H' y=>?_⟩;obtain⟨rfl,c,hc,rfl⟩:=y
 have:d=D.str ⟨#[c]⟩:=by
  simp only[sgns,bV,Array.getElem?_toList,hc,aV] at hd;exact(Option.some.inj hd).symm
 subst this;exact⟨Same.refl _,.str _⟩
theorem LR{tg e:Expr}{f:FE}(h:PV X e f):PIv X tg e (viaA f asS):=by
 obtain⟨t,ht,hf⟩:=h;refine⟨_,pi_str ht,fun H₀ H O σ ds hd items R o e q=>?_⟩;unfold viaA at e;obtain⟨d,h1,e⟩:=bnd e;cases d with
 | str x =>
   cases e;refine hf H₀ H O σ ds hd _ _ o h1 fun v H' s r=>?_;cases r;exact⟨x,rfl,q _ (.non,.non) H' s .non XF⟩
 |_=>cases e
theorem xX{tg e:Expr}{p pos:Pos}{f:FE}(hm:X.mg "range" = none)(h:PV X e f)(hg:Gl X "range":=by rfl)(hs:starEach [e] X.env=[(false,eval e X.env)]:=by rfl):PIv X tg (.Call (.Name "range" p) [e] [] pos) (rng1 f):=by
 obtain⟨t,ht,hf⟩:=h;refine⟨_,OB hg hm (jS ht xB hs) hs,fun H₀ H O σ ds hd items R o e q=>?_⟩;unfold rng1 at e;obtain⟨d,h1,e⟩:=bnd e;cases d with
 | int j =>
   simp only at e
   split at e
   . rename_i hj;cases e;refine hf H₀ H O σ ds hd _ _ o h1 fun v H' s r=>?_;cases r;exact⟨j,rfl,hj.1,hj.2,q _ (.non,.non) H' s .non NH⟩
   . cases e
 |_=>cases e
variable(X) in
noncomputable def PGv(tg:Expr)(ga:D->List Sl->Option (List Sl)):Prop:=∃g,PG X tg g/\∀H₀ H O σ ds hd v d ds' Q,Ok X.K H₀ H O σ ds hd->Rep X.K H O v d->ga d ds=some ds'->(∀σ',Ok X.K H₀ H O σ' ds' hd->Q σ' H)->g v σ H Q
variable(X) in
noncomputable def PGsv(tgs:List Expr)(ga:List D->List Sl->Option (List Sl)):Prop:=∃g,PGs X tgs g/\∀H₀ H O σ ds hd vs l ds' Q,Ok X.K H₀ H O σ ds hd->Reps X.K H O vs l->ga l ds=some ds'->(∀σ',Ok X.K H₀ H O σ' ds' hd->Q σ' H)->g vs σ H Q
theorem qF{i:Nat}{x:Str}{pos:Pos}(hN:X.N.Nodup)(hi:X.N[i]?=some x:=by rfl)(hx:Loc X.env.scope x:=by first | exact Or.inl rfl | exact Or.inr rfl)
  (hf:X.fn x=true\/X.env.scope.names.lookup x=some .local:=by first | exact .inl rfl | exact .inr rfl):PGv X (.Name x pos) (qL i):=
 ⟨_,YO hN hi hx hf,fun H₀ H O σ ds hd v d ds' Q o r e q=>by cases e;exact q _ (o.set r)⟩
theorem wU:PGsv X [] tgNil:=⟨_,YN,fun H₀ H O σ ds hd vs l ds' Q o r e q=>by
 cases r with
 |nil=>cases e;exact⟨rfl,q _ o⟩
 |cons _ _=>cases e⟩
theorem jD{e:Expr}{es:List Expr}{g:D->List Sl->Option (List Sl)}{h:List D->List Sl->Option (List Sl)}(h1:PGv X e g)(h2:PGsv X es h)
  (hs:(assignEach (e::es) X.env).map (·.2)=assign e X.env::(assignEach es X.env).map (·.2):=by rfl):PGsv X (e::es) (jF g h):=by
 obtain⟨t,ht,hf⟩:=h1;obtain⟨u,hu,hg⟩:=h2;refine⟨_,TQ ht hu hs,fun H₀ H O σ ds hd vs l ds' Q o r e q=>?_⟩;cases r with
 |nil=>cases e
 | cons r1 rr =>
   rename_i v d vr dr;simp only[jF] at e;obtain⟨ds1,h1,e⟩:=bnd e;exact⟨v,vr,rfl,hf H₀ H O σ ds hd v d ds1 _ o r1 h1 fun σ' o'=>hg H₀ H O σ' ds1 hd vr dr ds' Q o' rr e q⟩
theorem pF{es:List Expr}{k:Nat}{pos:Pos}{h:List D->List Sl->Option (List Sl)}{n:Nat}(hc:X.calm=true)(hh:PGsv X es h)
  (hn:(assignEach es X.env).length=n:=by rfl) (hst:(assignEach es X.env).findIdx? (·.1)=none:=by rfl):PGv X (.Tuple es k pos) (tupG n h):=by
 obtain⟨t,ht,hf⟩:=hh;refine⟨_,pg_tup hc ht hn hst,fun H₀ H O σ ds hd v d ds' Q o r e q=>?_⟩;cases d with
 | tup l =>
   simp only[tupG] at e
   split at e
   . rename_i hl;obtain⟨a,xs,rfl,hs,rs⟩:=WRep.seqT (.inl r);exact⟨a,xs,rfl,hs,by rw[rs.length];exact hl,hf H₀ H O σ ds hd xs l ds' Q o rs e q⟩
   . cases e
 |_=>cases e
theorem NV{K:Frag}{H:Hp}{hd:Hold}{q:HI}{v:V}{r:Ret}(h:RetB K H (q::hd) v r):RetB K H hd v r:=by
 cases r with
 |any d=>exact fun B hB=>h B (aI _ hB)
 |_=>exact True.intro
theorem xI{tg iter:Expr}{body:List Stmt}{pos:Pos}{fi:FA}{ga:D->List Sl->Option (List Sl)}{g:FS}(hp:PassesOwn (model X.prog X.w) X.A X.env X.xe)(hc:X.calm=true)(hi:PIv X tg iter fi)(hg:PGv X tg ga)(hb:PSsv X body g)
  (hs:∀x,foldedSetIterable iter X.env x=pure x:=by intro _;rfl):PSv X (.For tg iter body [] pos) (forG fi ga g):=by
 obtain⟨wi,pi,hi⟩:=hi;obtain⟨tg',pg,hg⟩:=hg;obtain⟨tb,pb,hb⟩:=hb;refine⟨_,TJ hp hc pi pg pb hs,fun H₀ H O σ ds hd out E o e h=>?_⟩;unfold forG at e;obtain⟨items,h1,e⟩:=bnd e;refine hi H₀ H O σ ds hd items _ o h1 fun J p H' s r wk=>?_;refine⟨fun i m σ' H'=>i<=items.length/\m=items.length-i/\∃O' ds',Ok X.K H₀ H' O' σ' ds' (HI.rep p.1 p.2::hd)/\jH ga g (items.drop i) ds'=some out,⟨items.length,cL _,rfl,O,ds,(o.mono s).holdMore (p:=HI.rep p.1 p.2) r,by simpa using e⟩,?_⟩;rintro i m σ1 H1 ⟨hi1,rfl,O1,ds1,o1,e1⟩;obtain⟨go,stop⟩:=wk H1 O1 o1.dom (o1.hold (HI.rep p.1 p.2) aP)
 by_cases hlt:i<items.length
 . right;have hd0:items[i]? = some items[i]:=fH hlt;obtain ⟨hgo,hy⟩:=go i _ hd0;rw [gY hlt,jH] at e1;refine ⟨hgo,fun σ' H'=>i+1<=items.length/\∃ O' ds',Ok X.K H₀ H' O' σ' ds' (HI.rep p.1 p.2::hd)/\jH ga g (items.drop (i+1)) ds'=some out,fun σ' H' ⟨q1,q2⟩=>⟨items.length - (i+1),by omega,q1,rfl,q2⟩,fun x H2 y=>?_⟩;obtain ⟨s2,r2⟩:=hy x H2 y;obtain ⟨ds2,h2,e1⟩:=bnd e1;obtain ⟨o3,h3,e1⟩:=bnd e1;refine hg H₀ H2 O1 σ1 ds1 (HI.rep p.1 p.2::hd) x _ ds2 _ (o1.mono s2) r2 h2 fun σ' o'=>?_;refine hb H₀ H2 O1 σ' ds2 (HI.rep p.1 p.2::hd) o3 _ o' h3 ?_;cases o3 with
   |nx ds3=>exact fun σ3 H3 O3 ok3=>⟨hlt,O3,ds3,ok3,e1⟩
   |ct ds3=>exact fun σ3 H3 O3 ok3=>⟨hlt,O3,ds3,ok3,e1⟩
   |bk ds3=>cases e1;exact fun σ3 H3 O3 ok3=>h σ3 H3 O3 ok3.holdLess
   |rt rr=>cases e1;exact fun v H s r b=>h v H s r (NV b)
 . left;have ei:i=items.length:=by omega
   subst ei;rw[mM,jH] at e1;cases e1;exact⟨stop,h σ1 H1 O1 o1.holdLess⟩
variable(X) in
noncomputable def PFv(ifs:List Expr)(c:FT):Prop:=∃t,PF X ifs t/\∀H₀ H O σ ds hd b Q,Ok X.K H₀ H O σ ds hd->c ds=some b->(∀H',Same H H'->Q b H')->t σ H Q
theorem xN:PFv X [] (fun _=>some true):=⟨_,TR,fun _ H _ _ _ _ _ _ _ e q=>by cases e;exact q H (Same.refl _)⟩
theorem Ok.inner{K:Frag}{H₀ H:Hp}{O:Addr->Prop}{σ : L2.St}{ds:List Sl}{hd:Hold}(o:Ok K H₀ H O σ ds hd)(mp:List (Option Nat)):Ok K H₀ H O (hU mp σ) (yI mp ds) hd:=by
 have no:∀{i:Nat} {l:List D},(yI mp ds)[i]?=some (.own l)->False:=fun {i l} e=>by
  unfold yI at e;rw[bV] at e;cases hm:mp[i]? with
  |none=>rw[hm] at e;cases e
  | some m =>
    rw[hm] at e;simp only[aV,Option.some.injEq] at e;cases m with
    |none=>cases e
    | some j =>
      simp only at e
      split at e<;>cases e
 refine⟨o.same,fun i l a e _=>(no e).elim,o.dom,by simp[hU,yI],fun i s e=>?_,fun i j a hij hi hj e1 e2=>?_,o.hold,.no fun i r t e=>by
  unfold yI at e;rw[bV] at e;cases hm:mp[i]? with
  |none=>rw[hm] at e;cases e
  | some m =>
    rw[hm] at e;simp only[aV,Option.some.injEq] at e;cases m with
    |none=>cases e
    | some j =>
      simp only at e
      split at e<;>cases e⟩
 . unfold yI at e;unfold hU;rw [bV] at e ⊢;cases hm:mp[i]? with
   |none=>rw[hm] at e;cases e
   | some m =>
     rw[hm] at e;simp only[aV,Option.some.injEq] at e;cases m with
     | none =>
       simp only at e;subst e;exact yS
     | some j =>
       simp only at e;cases hj:ds[j]? with
       |none=>rw[hj] at e;subst e;exact yS
       | some s' =>
         rw[hj] at e;cases s' with
         |no=>subst e;exact yS
         |exc _=>subst e;exact yS
         |fr _=>subst e;exact yS
         |ob _ _=>subst e;exact yS
         |own l=>subst e;exact yS
         | v d =>
           simp only at e;subst e;obtain⟨v,h1,h2⟩:=o.read hj;simp only[aV,aC,h1,Option.join_some];exact vN h2
 . obtain ⟨l, e⟩ := hi;unfold yI at e;rw [bV] at e;cases hm:mp[i]? with
   |none=>rw[hm] at e;cases e
   | some m =>
     rw[hm] at e;simp only[aV,Option.some.injEq] at e;cases m with
     |none=>cases e
     | some j =>
       simp only at e;cases hj:ds[j]? with
       |none=>rw[hj] at e;cases e
       |some s'=>rw[hj] at e;cases s'<;>cases e
section
variable{scope:Scope}{NY:List Str}{mp:List (Option Nat)}{tg iter elt:Expr}{ifs:List Expr}{pos:Pos}{fi:FA}{ga:D->List Sl->Option (List Sl)}{tt:FT}{fe:FE}
theorem HW{wi:TI}{g:CI->TG}{t1:CI->TT}{t2:CI->TE}
  (hi:∀H₀ H O σ ds hd items R,Ok X.K H₀ H O σ ds hd->fi ds=some items->(∀J p H',Same H H'->Rep X.K H' O p.1 p.2->Wlk X.K J p items->R J H')->wi σ H R)
  (hg:∀c H₀ H O σ ds hd v d ds' Q,Ok X.K H₀ H O σ ds hd->Rep X.K H O v d->ga d ds=some ds'->(∀σ',Ok X.K H₀ H O σ' ds' hd->Q σ' H)->g c v σ H Q)
  (ht:∀c H₀ H O σ ds hd b Q,Ok X.K H₀ H O σ ds hd->tt ds=some b->(∀H',Same H H'->Q b H')->t1 c σ H Q)
  (he:∀c H₀ H O σ ds hd d Q,Ok X.K H₀ H O σ ds hd->fe ds=some d->(∀v H',Same H H'->Rep X.K H' O v d->Q v H')->t2 c σ H Q) :
  ∀H₀ H O σ ds hd l Q,Ok X.K H₀ H O σ ds hd->compG fi mp ga tt fe ds=some l →
   (∀a xs H',Same H H'->H a=none->H' a=some (.lst xs)->Reps X.K H' (ins1 a O) xs l->Q (.ref a) H')->tComp wi mp g t1 t2 σ H Q:=by
 intro H₀ H O σ ds hd l Q o e q;unfold compG at e;obtain⟨items,h1,e⟩:=bnd e
 split at e
 . rename_i hsz;refine hi H₀ H O σ ds hd items _ o h1 fun J p H1 s1 r1 wk=>fun c=>?_;have oI:Ok X.K H₀ H1 O (hU mp σ) (yI mp ds) (HI.rep p.1 p.2::hd):=((o.mono s1).holdMore (p:=HI.rep p.1 p.2) r1).inner mp
   refine⟨fun i m ys H2=>i<=items.length/\m=items.length-i/\Same H1 H2/\ys.length<=i/\∃l' rest,Reps X.K H2 O ys l'/\compL ga tt fe (yI mp ds) (items.drop i)=some rest/\l=l'++rest,
    ⟨items.length,cL _,rfl,Same.refl _,aQ _,[],l,.nil,by simpa using e,rfl⟩,?_⟩
   rintro i m ys H2 ⟨hi1,rfl,s2,hy,l',rest,ry,er,el⟩;have o2:=oI.mono s2;obtain⟨go,stop⟩:=wk H2 O o2.dom (o2.hold (HI.rep p.1 p.2) aP)
   by_cases hlt:i<items.length
   . right;have hd0:items[i]? = some items[i]:=fH hlt;obtain ⟨hgo,hyl⟩:=go i _ hd0;refine ⟨hgo,by omega,fun x H3 y=>?_⟩;obtain ⟨s3,r3⟩:=hyl x H3 y;rw [gY hlt,compL] at er;obtain ⟨ds1,h2,er⟩:=bnd er;refine hg c H₀ H3 O _ _ (HI.rep p.1 p.2::hd) x _ ds1 _ (o2.mono s3) r3 h2 fun σ' o3=>?_;obtain ⟨b,h3,er⟩:=bnd er;refine ht c H₀ H3 O σ' ds1 (HI.rep p.1 p.2::hd) b _ o3 h3 fun H4 s4=>?_;cases b with
     | false =>
       refine iteF ⟨items.length-(i+1),by omega,hlt,rfl,(s2.trans s3).trans s4,sM hy,l',rest,(ry.mono s3).mono s4,by simpa using er,el⟩
     | true =>
       refine iteT ?_;simp only[if_true] at er;obtain⟨yd,h4,er⟩:=bnd er;cases h5:compL ga tt fe (yI mp ds) (items.drop (i+1)) with
       |none=>rw[h5] at er;cases er
       | some rest' =>
         rw[h5] at er;cases er;refine he c H₀ H4 O σ' ds1 (HI.rep p.1 p.2::hd) yd _ (o3.mono s4) h4 fun v H5 s5 r5=>?_;refine⟨items.length-(i+1),by omega,hlt,rfl,((s2.trans s3).trans s4).trans s5,by simp;omega,l'++[yd],rest',(((ry.mono s3).mono s4).mono s5).append (.cons r5 .nil),h5,?_⟩;rw[el];simp
   . left;have ei:i=items.length:=by omega
     subst ei;rw[mM,compL] at er;cases er;rw[fG] at el;subst el;refine⟨stop,by omega,fun a ha=>?_⟩;refine q a ys _ ((s1.trans s2).trans (jA ha _)) ((s1.trans s2).free ha) cF ?_;exact(ry.more ha).mono (jA ha _)
 . cases e
theorem vY(S:CompScope X scope NY mp)(hc:X.calm=true)(hi:PIv X tg iter fi)(hg:∀c,PGv (qT X scope NY c) tg ga)(ht:∀c,PFv (qT X scope NY c) ifs tt)(he:∀c,PV (qT X scope NY c) elt fe)
  (hs:∀x,foldedSetIterable iter X.env x=pure x:=by intro _;rfl):PVf X (.ListComp elt [⟨tg,iter,ifs,0⟩] scope pos) (compG fi mp ga tt fe):=by
 obtain⟨wi,pi,hi⟩:=hi;refine⟨_,LV S hc pi (fun c=>(Classical.choose_spec (hg c)).1) (fun c=>(Classical.choose_spec (ht c)).1) (fun c=>(Classical.choose_spec (he c)).1) hs,?_⟩;exact HW hi (fun c=>(Classical.choose_spec (hg c)).2) (fun c=>(Classical.choose_spec (ht c)).2) (fun c=>(Classical.choose_spec (he c)).2)
end
end
end FL
namespace L2
open PySem PySem.Spec PyProof.Rows
section
variable{X:Cx}
inductive TyV(K:aH)(H:Hp):V->Value->Prop where
 |of {x:V} {t:Value} (h:TyOf K H x t):TyV K H x t
 |lstK {a:Addr} {o:Obj} (h:K.lookup a=some o) (c:o.cls=.type "list"):TyV K H (.ref a) (.type "list")
 |tupK {a:Addr} {o:Obj} (h:K.lookup a=some o) (c:o.cls=.type "tuple"):TyV K H (.ref a) (.type "tuple")
 |tupF {a:Addr} {o:Obj} {xs:List V} (h:H a=some (.frz o (.tup xs))):TyV K H (.ref a) (.type "tuple")
noncomputable def clsV:V->Value->Prop
 | .ty n,u=>u=.type n
 | .ref a,u=>u=.ref a
 |_,_=>False
theorem WE:CallR X (.builtin "isinstance") (fun xs H Q=>∃x c cv t b,xs=[x,c]/\clsV c cv/\TyV X.K H x t/\dZ X.K t cv=some b/\Q (.bl b) H):=by
 intro pins s σ H xs us Q I r h;obtain⟨x,c,cv,t,b,rfl,hc,ty,e,q⟩:=h;obtain⟨u,u2,rfl,ru,ru2⟩:=vals2 r
 have e2:u2=cv:=by
  cases c with
  |ty n=>cases(show cv=.type n from hc);cases(show u2=.type n from ru2);rfl
  |ref a=>cases(show cv=.ref a from hc);cases(show u2=.ref a from ru2);rfl
  |_=>exact(show False from hc).elim
 subst e2;have fin:∀tk,EP X pins σ Q (.bool b) { s with toks:=tk }:=fun tk=>⟨.bl b,H,I.tok tk,rfl,q⟩
 cases ty with
 |of h=>exact PD I ru h e fin
 | @lstK a o h c =>
   cases(show u=Value.ref a from ru);exact cA oV I.kIn ⟨o,I.kIn _ _ h,c⟩ e (fun z=>nomatch z) fin
 | @tupK a o h c =>
   cases(show u=Value.ref a from ru);exact cA nW I.kIn ⟨o,I.kIn _ _ h,c⟩ e (fun z=>nomatch z) fin
 | @tupF a o xs ea =>
   cases(show u=Value.ref a from ru);obtain⟨e0,_,_,_,p⟩:=(show ObjOk X.prog X.w H s.heap a (.frz o (.tup xs)) from I.hok a _ ea)
   obtain⟨o',h1,h2,_⟩:=p;exact cA nW I.kIn ⟨o',h1,h2⟩ e (fun z=>nomatch z) fin
theorem IA:∀{bs:List Bool} {us:List Value},Vals (bs.map V.bl) us->LSm.BoolsAre us bs
 |[],_,.nil=>.nil
 | b :: r, _, .cons h t => by
   cases(show _=Value.bool b from h);exact .cons b (IA t)
theorem QJ(hc:X.calm=true):CallR X (.builtin "all") (fun xs H Q=>∃(p:Addr) (bs:List Bool),xs=[.ref p]/\SqL X.K H p (bs.map V.bl)/\Q (.bl (bs.all id)) H):=by
 intro pins s σ H xs us Q I r h;obtain⟨p,bs,rfl,hq,q⟩:=h;obtain⟨u,rfl,ru⟩:=vals1 r;cases ru;obtain⟨its,rv,pl,hz⟩:=I.list hq;have hlt:p<s.heap.objs.size:=by obtain⟨_,e,_⟩:=pl.isList;exact aU e
 have hb:=IA rv;refine call_all_walk (wpAny_pyIter_list pl.isList ?_)
 refine⟨s.heap.objs.size,[s.heap.objs.size,p],[s.heap.objs.size],its.toArray.size,_,_,fun i=>(bs[i]?).getD true,rfl,Walks.list (A:=X.A.in1) (I.ok.hd hc) _ p (bS hlt) its.toArray,
  ⟨⟨_,bF _ rfl,rfl,rfl⟩,pl.isList.push _⟩,fun i v s' Q' E' hP hQ=>?_,fun h' tk hk=>?_⟩
 . obtain⟨b, e, rfl⟩ := hb.get i v (by simpa using hP);simp only[e,Option.getD_some] at hQ;exact wpAny_truthy_bool hQ
 . have e:((List.range its.toArray.size).all fun i=>(bs[i]?).getD true)=bs.all id:=by
    rw[aX,hb.length];exact LSm.range_all bs
   rw[e];exact⟨.bl _,H,I.kept (LSm.kept_iter hk),rfl,q⟩
theorem LA:∀{ts:List Str} {us:List Value},Vals (ts.map V.str) us->StrsAre us ts
 |[],_,.nil=>.nil
 | b :: r, _, .cons h t => by
   obtain⟨tk,rfl⟩:=(show ∃tk,_=Value.str b tk from h)
   exact .cons b tk (LA t)
noncomputable def rJoin(K:aH):V->List V->Hp->VK->Prop:=fun x vs H Q=>∃(z:Str) (p:Addr) (ts:List Str),x=.str z/\vs=[.ref p]/\SqL K H p (ts.map V.str)/\z.length<=16/\(ts.map (·.length)).sum+ts.length<=1048576/\Q (.str (Txt.join z ts)) H
theorem ZE:MtR X "str.join" (rJoin X.K):=by
 intro pins s σ H x vs v us Q I rx rv h;obtain⟨z,p,ts,rfl,rfl,hq,hz,hw,q⟩:=h;obtain⟨tk,rfl⟩:=(show ∃tk,v=Value.str z tk from rx)
 obtain⟨u,rfl,ru⟩:=rv.one;cases ru;obtain⟨its,rv,pl,hl⟩:=I.list hq;exact join_listW pl.isList (by simpa using LA rv) hz hw fun t' k=>⟨.str _,H,I.tok k,⟨t',rfl⟩,q⟩
end
end L2
namespace FL
open PySem PySem.Spec PyProof.Rows L2
section
variable{X:Cx}
noncomputable def kitO(t T:String):Option Bool:=if ((Value.type t)==(Value.type T))=true then some true else if PySem.W.kitMeta T=true then (fastBuiltinMro t).map (·.contains (.type T)) else none
theorem ZL:∀t∈kitN,∀T∈kitT,kitO t T=some (t==T||(t=="bool"&&T=="int")):=by decide +kernel
theorem kit_of{K:Frag}{t T:String}{b:Bool}(h:kitF t T=some b):dZ K (.type t) (.type T)=some b:=by
 unfold kitF at h
 split at h
 . rename_i hm;cases h;exact ZL t hm.1 T hm.2
 . cases h
theorem ty_of{K:Frag}{H:Hp}{O:Addr->Prop}{v:V}{d:D}{t:String}(r:WRep K H O v d)(e:tyD d=some t):TyV K H v (.type t):=by
 rcases r with r | ⟨a,xs,l,rfl,rfl,ho,h,rs⟩
 . cases r with
   |non=>cases e;exact .of .non
   |bl b=>cases e;exact .of (.bl b)
   |int i=>cases e;exact .of (.int i)
   |str x=>cases e;exact .of (.str x)
   | tup n h r =>
     cases e;rcases h with h | ⟨o,h⟩
     . exact .of (.tup h)
     . exact .tupF h
   |tupK h r=>cases e;obtain⟨o,its,m,hk,hc,_⟩:=h;exact .tupK hk hc
   | lst n h r =>
     cases e;rcases h with h | ⟨o,h⟩
     . exact .of (.lst h)
     . exact .of (.frz h)
   |lstK h r=>cases e;obtain⟨o,its,m,hk,hc,_⟩:=h;exact .lstK hk hc
   |dct n h e' r=>cases e;exact .of (.dK h)
   |dcf n h e' r=>cases e
   |ins c n h e' r=>cases e
   |clo tx h e' nd c r=>cases e
   |fnK h=>cases e
 . cases e;exact .of (.lst h)
theorem xS{p pT pos:Pos}{e:Expr}{f:FE}{x:Str}{T:String}(hm:X.mg "isinstance" = none)(hT:X.mg x=none)(hv:bootBuiltins x=some (.type T))(he:PVw X e f)(hg:Gl X "isinstance":=by rfl)(hgT:Gl X x:=by rfl)
  (h1:starEach [e,.Name x pT] X.env=(false,eval e X.env)::starEach [.Name x pT] X.env:=by rfl) (h2:starEach [.Name x pT] X.env=(false,eval (.Name x pT) X.env)::starEach [] X.env:=by rfl) (h3:(backTo pos (starEach [.Name x pT] X.env)).any (·.1)=false:=by rfl)
  (hn:x≠"__name__":=by decide) (hd:(x==("__debug__" : Str))=false:=by decide):PV X (.Call (.Name "isinstance" p) [e,.Name x pT] [] pos) (isiG T f):=by
 obtain⟨t,ht,hf⟩:=he;refine⟨_,AD WE hg hm (by decide +kernel) (jS ht (jS (YR (v:=.ty T) hgT hT hv rfl hn hd) xB h2) h1) (by decide) (by decide) h1 h3,fun H₀ H O σ ds hd d Q o e q=>?_⟩;unfold isiG at e;obtain⟨dx,hh,e⟩:=bnd e;simp only[aC,isiD] at e;obtain⟨t,ht,e⟩:=bnd e;obtain⟨b,hk,rfl⟩:=mpd e;refine hf H₀ H O σ ds hd dx _ o hh fun v H' s r=>?_;exact⟨v,.ty T,.type T,.type t,b,rfl,rfl,ty_of r ht,kit_of hk,q _ H' s (.bl b)⟩
theorem MZ{K:Frag}{H:Hp}{O:Addr->Prop}:∀{xs:List V} {l:List D} {bs:List Bool},Reps K H O xs l->blsD l=some bs->xs=bs.map V.bl
 |_,_,_,.nil,e=>by cases e;rfl
 | _, _, bs, .cons (d := d) h t, e => by
   cases d with
   | bl b =>
     rename_i ds;simp only[blsD] at e;obtain⟨r,hr,rfl⟩:=mpd e;cases h;rw[MZ t hr];rfl
   |_=>cases e
theorem cs_all:CallS X (fun xs H Q=>∃(p:Addr) (bs:List Bool),xs=[.ref p]/\SqL X.K H p (bs.map V.bl)/\Q (.bl (bs.all id)) H) allD:=by
 intro H O vs l d Q ho r e q
 match l,r,e with
 | [.lst l], .cons r .nil, e =>
   simp only[allD] at e;obtain⟨bs,hb,rfl⟩:=mpd e;obtain⟨a,xs,rfl,hs,rs⟩:=r.seqL;refine⟨a,bs,rfl,?_,q _ H (Same.refl _) (.bl _)⟩;rw[<- MZ rs hb];exact hs
theorem pv_all{p pos:Pos}{e:Expr}{g:FA}(hc:X.calm=true)(hm:X.mg "all" = none)(ha:PAv X [e] g)(hg:Gl X "all":=by rfl)(he:starEach [e] X.env=[(false,eval e X.env)]:=by rfl) :
  PV X (.Call (.Name "all" p) [e] [] pos) (callB allD g):=vW (QJ hc) cs_all hm (by decide +kernel) ha hg (by decide) (by decide) he rfl
theorem GI{K:Frag}{H:Hp}{O:Addr->Prop}:∀{xs:List V} {l:List D} {bs:List Str},Reps K H O xs l->strsD l=some bs->xs=bs.map V.str
 |_,_,_,.nil,e=>by cases e;rfl
 | _, _, bs, .cons (d := d) h t, e => by
   cases d with
   | str b =>
     rename_i ds;simp only[strsD] at e;obtain⟨r,hr,rfl⟩:=mpd e;cases h;rw[GI t hr];rfl
   |_=>cases e
theorem YE{o e:Expr}{apos cpos:Pos}{f g:FE}(ho:PVw X o f)(he:PVw X e g)
  (hbase:attributeBase o "join" X.env (eval o X.env)=eval o X.env:=by rfl)
  (hfew:((backTo cpos (starEach [e] X.env)).all (fun x=>!x.1)&&(backToKw cpos (keywordEach [] X.env)).all (fun x=>x.1.isSome)
    && decide ([e].length+([]:List Keyword).length+(if ([]:List Keyword).isEmpty then 0 else 1)<30))=true:=by rfl)
  (hline:(apos.endLine==cpos.line)=true:=by rfl) (hs:starEach [e] X.env=(false,eval e X.env)::starEach [] X.env:=by rfl) :
  PV X (.Call (.Attribute o "join" apos) [e] [] cpos) (zI joinD f g):=by
 obtain⟨to,po,ho⟩:=ho;obtain⟨te,pe,he⟩:=he;refine⟨_,AE iB PySem.F.slot_str_join PySem.F.type_str_join ZE po (jS pe xB hs) hbase hfew hline hs rfl,fun H₀ H O σ ds hd d Q o e q=>?_⟩;unfold zI at e;obtain⟨dx,h1,e⟩:=bnd e;obtain⟨dy,h2,e⟩:=bnd e;cases dx with
 | str z =>
   cases dy with
   | lst l =>
     simp only[joinD] at e;obtain⟨ts,h3,e⟩:=bnd e
     split at e
     . rename_i hc;cases e;refine ho H₀ H O σ ds hd _ _ o h1 fun x H1 s1 r1=>?_;rw[r1.str'];refine⟨rfl,?_⟩;refine he H₀ H1 O σ ds hd _ _ (o.mono s1) h2 fun y H2 s2 r2=>?_;obtain⟨a,xs,rfl,hs,rs⟩:=r2.seqL;refine⟨z,a,ts,rfl,rfl,?_,hc.1,hc.2,q _ H2 (s1.trans s2) (.str _)⟩;rw[<- GI rs h3];exact hs
     . cases e
   |_=>simp[joinD] at e
 |_=>simp[joinD] at e
theorem xG{a:Expr}{pos:Pos}{f:FE}(ha:PV X a f):PV X (.UnaryOp .USub a pos) (un1 negD f):=by
 obtain⟨ta,pa,ha⟩:=ha;refine⟨_,pe_un un_neg pa,fun H₀ H O σ ds hd d Q o e q=>?_⟩;unfold un1 at e;obtain⟨dx,h1,e⟩:=bnd e;cases dx with
 | int i =>
   cases e;refine ha H₀ H O σ ds hd _ _ o h1 fun x H1 s1 r1=>?_;cases r1;exact⟨i,rfl,q _ H1 s1 (.int _)⟩
 |_=>cases e
theorem os_inS:OpS X (fun x y H Q=>∃i j,x=.str i/\y=.str j/\Q (.bl (!(Builtin.Str.occurrences j i 0 j.length 1).isEmpty)) H) inS:=by
 intro H O x y dx dy d Q ho rx ry e q;cases dx<;>cases dy<;>first | (simp[inS] at e;done) | skip
 cases e;rw[rx.str',ry.str'];exact⟨_,_,rfl,rfl,q _ H (Same.refl _) (.bl _)⟩
variable(X) in
noncomputable def PVd(e:Expr)(f:FE):Prop:=∃t,PE X e t/\∀H₀ H O σ ds hd d Q,Ok X.K H₀ H O σ ds hd->f ds=some d->(∀v H',Same H H'->Rep X.K H' (Old H) v d->Q v H')->t σ H Q
theorem MA{H:Hp}{p:Addr}(h:H p=none):¬Old H p:=fun⟨o,e,_⟩=>by rw[h] at e;cases e
theorem yJ{e:Expr}{pos:Pos}{f:FE}(he:PVd X e f):PSv X (.Return (some e) pos) (retDG f):=by
 obtain⟨t,ht,hg⟩:=he;refine⟨_,rK ht,fun H₀ H O σ ds hd out E o e h=>?_⟩;unfold retDG at e;obtain⟨d,h1,rfl⟩:=mpd e;exact hg H₀ H O σ ds hd d _ o h1 fun v H' s r=>h _ _ (o.same.trans s) (r.less fun a z=>Old.mono o.same z) True.intro
end
section
variable{X:Cx}
noncomputable def WB(sc scope:Scope)(N NY:List Str)(mp:List (Option Nat)):Bool :=
 scope.kind==.function&&scope.names.all (fun y=>y.2 != .cell)&&scope.names.all (fun y=>y.2 != .local||scope.names.lookup y.1==some .local)
 && scope.names.all (fun y=>y.2 != .free||(sc.names.lookup y.1==some .cell||sc.names.lookup y.1==some .free))&&mp.length==NY.length
 && (List.range NY.length).all (fun i=>match NY[i]?,mp[i]? with | some x,some (some j)=>N[j]?==some x&&scope.names.lookup x==some .free | _,_=>true)
theorem jU{scope:Scope}{NY:List Str}{mp:List (Option Nat)}(h:WB X.env.scope scope X.N NY mp=true):CompScope X scope NY mp:=by
 unfold WB at h;simp only[bD,fQ,beq_iff_eq] at h;obtain⟨⟨⟨⟨⟨h1,h2⟩,h3⟩,h4⟩,h5⟩,h6⟩:=h;refine⟨h1,fun y hy=>by simpa using h2 y hy,fun y hy hk=>?_,fun y hy hk=>?_,h5,fun i x j e1 e2=>?_⟩
 . have := h3 y hy;simpa[hk] using this
 . have := h4 y hy;simp only[hk,bne_self_eq_false,Bool.false_or,WL,beq_iff_eq] at this;exact this
 . have hi : i ∈ List.range NY.length := nQ.mpr (bK.mp e1).1;have:=h6 i hi;rw[e1,e2] at this;simpa using this
end
theorem zY{g:FS}{n:Nat}{ds:List D}{r:Ret}(e:runG g n ds=some r):Does g n ds r:=by
 unfold runG at e;cases h:g (args n ds) with
 |none=>rw[h] at e;cases e
 | some o =>
   rw[h] at e;cases o with
   |rt r'=>cases e;exact .inl h
   |nx ds'=>cases e;exact .inr ⟨rfl,ds',h⟩
   |bk ds'=>cases e
   |ct ds'=>cases e
end FL
namespace L2
open PySem PySem.Spec PyProof.Rows
section
variable{X:Cx}
theorem YW:OpR X (binaryOp .Mult) (rI IntMulOk fun i j=>.int (i*j)):=opI fun _ _ _ _ _ _ _ hc q=>mul_int q hc
theorem YV:OpR X (binaryOp .Pow) (rI FL.CPowB fun i j=>.int (i ^ j.toNat)):=opI fun _ _ _ _ _ _ _ hc q=>pow_int hc.1 hc.2 q
noncomputable def rCatS(K:aH):R2:=fun x y H Q=>∃l b xs zs,x=.ref l/\y=.ref b/\SqL K H l xs/\SqL K H b zs/\xs.length+zs.length<=sizeLine/\∀p,H p=none->Q (.ref p) (upd H p (.lst (xs++zs)))
theorem YX:OpR X (binaryOp .Add) (rCatS X.K):=by
 intro pins s σ H x y v u Q I rx ry h;obtain⟨l,b,xs,zs,rfl,rfl,hH,hB,hz,q⟩:=h;cases rx;cases ry;obtain⟨its,r,pl,z⟩:=I.list hH;obtain⟨its2,r2,pl2,z2⟩:=I.list hB;obtain⟨⟨cls,dd,data,sl⟩,ho,hc,n,hd⟩:=pl.isList;obtain⟨⟨cls2,dd2,data2,sl2⟩,ho2,hc2,n2,hd2⟩:=pl2.isList;simp only at hc hd hc2 hd2;subst hc hd hc2 hd2;have hl:=r.length;have hl2:=r2.length;refine concat_meets ⟨_,ho,rfl⟩ ⟨_,ho2,rfl⟩ noFill_list_add seq_list_add PySem.F.slot_list_add PySem.F.entry_list_add (PySem.F.args_list_add_2 _ _) (list_addW l b its.toArray its2.toArray n n2 dd dd2 sl sl2 (by simp only[aX];omega)) ⟨ho,ho2,?_⟩;have ea:its.toArray++its2.toArray=(its++its2).toArray:=by simp
 rw[ea];exact⟨.ref _,_,I.lnew (t':=s.toks) (r.append r2) (by rw[bO];omega),rfl,q _ I.fresh⟩
end
end L2
namespace FL
open PySem PySem.Spec PyProof.Rows L2
section
variable{X:Cx}
variable(X) in
noncomputable def PVn(e:Expr)(f:FE):Prop:=∃t,PE X e t/\∀H₀ H O σ ds hd d Q,Ok X.K H₀ H O σ ds hd->f ds=some d->(∀v H',Same H H'->Rep X.K H' yE v d->Q v H')->t σ H Q
variable(X) in
noncomputable def PAn(es:List Expr)(f:FA):Prop:=∃t,PA X es t/\∀H₀ H O σ ds hd l Q,Ok X.K H₀ H O σ ds hd->f ds=some l->(∀vs H',Same H H'->Reps X.K H' yE vs l->Q vs H')->t σ H Q
theorem PVw.n{e:Expr}{f:FE}(h:PVw X e f):PVn X e f:=by
 obtain⟨t,ht,hf⟩:=h;exact⟨t,ht,fun H₀ H O σ ds hd d Q o e q=>hf H₀ H O σ ds hd d Q o e fun v H' s r=>q v H' s r.any⟩
theorem PV.n{e:Expr}{f:FE}(h:PV X e f):PVn X e f:=h.w.n
theorem zL:PAn X [] zR:=⟨_,xB,fun _ H _ _ _ _ _ _ _ e q=>by cases e;exact q _ H (Same.refl _) .nil⟩
theorem zE{e:Expr}{es:List Expr}{f:FE}{g:FA}(ha:PVn X e f)(hr:PAn X es g)(hs:starEach (e::es) X.env=(false,eval e X.env)::starEach es X.env:=by rfl):PAn X (e::es) (zF f g):=by
 obtain⟨t,ht,hf⟩:=ha;obtain⟨u,hu,hg⟩:=hr;refine⟨_,jS ht hu hs,fun H₀ H O σ ds hd l Q o e q=>?_⟩;unfold zF at e;obtain⟨x,h,e⟩:=bnd e;obtain⟨r,h2,rfl⟩:=mpd e;refine hf H₀ H O σ ds hd x _ o h fun v H1 s1 r1=>?_;refine hg H₀ H1 O σ ds hd r _ (o.mono s1) h2 fun vs H2 s2 r2=>?_;exact q _ H2 (s1.trans s2) (.cons (r1.mono s2) r2)
section
variable{k:Nat}{f:Addr}{fd:FuncData}{ps:List Str}{n:Nat}{F:List D->Option Ret}{x:Str}{p pos:Pos}{e:Expr}{es:List Expr}{g:FA}
theorem SW(Fn:FnOk X.prog X.w X.K X.mg X.base CX0 k f fd ps (spF X.K n F))(hr:Room k X.A)(hm:X.mg x=some (.ref f))(hk:bN X.K (.ref f)=true)(hb:Binds X.K fd ps [])(ha:PAn X (e::es) g)
  (hg:Gl X x:=by rfl) (hdb:(x==("__debug__" : Str))=false:=by decide) (he:starEach (e::es) X.env=(false,eval e X.env)::starEach es X.env:=by rfl) (hpl:(backTo pos (starEach es X.env)).any (·.1)=false:=by rfl) :
  PV X (.Call (.Name x p) (e::es) [] pos) (qJ n F g):=by
 obtain⟨t,ht,hf⟩:=ha;refine⟨_,uB (CX:=CX0) (E:=E0) Fn hr hg hm hk hb .nil pass0 ht hdb he hpl,fun H₀ H O σ ds hd d Q o e q=>?_⟩;unfold qJ at e;obtain⟨l,h,e⟩:=bnd e
 split at e
 . rename_i hln;obtain⟨r,h2,e⟩:=bnd e;refine hf H₀ H O σ ds hd l _ o h fun vs H1 s1 r1=>?_;have hl:=r1.length;refine⟨by simp only[fG];omega,l,r,by simpa using r1,h2,fun v H' s' ro=>q v H' (s1.trans s') ?_⟩;exact DX ro e fun a ha=>(o.mono s1).old ha
 . cases e
theorem NX(Fn:FnOk X.prog X.w X.K X.mg X.base CX0 k f fd ps (spF X.K n F))(hr:Room k X.A)(hm:X.mg x=some (.ref f))(hk:bN X.K (.ref f)=true)(hb:Binds X.K fd ps [])(ha:PAn X (e::es) g)
  (hg:Gl X x:=by rfl) (hdb:(x==("__debug__" : Str))=false:=by decide) (he:starEach (e::es) X.env=(false,eval e X.env)::starEach es X.env:=by rfl) (hpl:(backTo pos (starEach es X.env)).any (·.1)=false:=by rfl) :
  PVf X (.Call (.Name x p) (e::es) [] pos) (callF n F g):=by
 obtain⟨t,ht,hf⟩:=ha;refine⟨_,uB (CX:=CX0) (E:=E0) Fn hr hg hm hk hb .nil pass0 ht hdb he hpl,fun H₀ H O σ ds hd d Q o e q=>?_⟩;unfold callF at e;obtain⟨l,h,e⟩:=bnd e
 split at e
 . rename_i hln;obtain⟨r,h2,e⟩:=bnd e;refine hf H₀ H O σ ds hd l _ o h fun vs H1 s1 r1=>?_;have hl:=r1.length;refine⟨by simp only[fG];omega,l,r,by simpa using r1,h2,fun v H' s' ro=>?_⟩;obtain⟨a,xs,rfl,h3,h4,h5⟩:=XY ro e fun a ha=>(o.mono s1).old ha;exact q a xs H' (s1.trans s') (s1.free h3) h4 h5
 . cases e
end
noncomputable def OpN(X:Cx)(r:R2)(op:D->D->Option D):Prop:=∀H O x y dx dy d Q,Rep X.K H yE x dx->Rep X.K H yE y dy->op dx dy=some d->(∀v H',Same H H'->Rep X.K H' O v d->Q v H')->r x y H Q
theorem LF{r:R2}{op:D->D->Option D}(hs:OpN X r op){fa fb:FE}{ta tb:TE}(ha:∀H₀ H O σ ds hd d Q,Ok X.K H₀ H O σ ds hd->fa ds=some d->(∀v H',Same H H'->Rep X.K H' yE v d->Q v H')->ta σ H Q)
  (hb:∀H₀ H O σ ds hd d Q,Ok X.K H₀ H O σ ds hd->fb ds=some d->(∀v H',Same H H'->Rep X.K H' yE v d->Q v H')->tb σ H Q) :
  ∀H₀ H O σ ds hd d Q,Ok X.K H₀ H O σ ds hd->zI op fa fb ds=some d->(∀v H',Same H H'->Rep X.K H' O v d->Q v H')->tOp r ta tb σ H Q:=by
 intro H₀ H O σ ds hd d Q o e q;unfold zI at e;obtain⟨dx,h1,e⟩:=bnd e;obtain⟨dy,h2,e⟩:=bnd e;refine ha H₀ H O σ ds hd dx _ o h1 fun x H1 s1 r1=>?_;refine hb H₀ H1 O σ ds hd dy _ (o.mono s1) h2 fun y H2 s2 r2=>?_;exact hs H2 O x y dx dy d Q (r1.mono s2) r2 e fun v H' s r=>q v H' ((s1.trans s2).trans s) r
theorem EF{op:CmpOp}{r:R2}{opD:D->D->Option D}{a b:Expr}{fa fb:FE}{pos:Pos}(ho:OpR X (compareOp op) r)(hs:OpN X r opD)(ha:PVn X a fa)(hb:PVn X b fb)(hm:behindInMarks op b=false):PV X (.Compare a [op] [b] pos) (zI opD fa fb):=by
 obtain⟨ta,pa,ha⟩:=ha;obtain⟨tb,pb,hb⟩:=hb;exact⟨_,LW ho pa pb hm,LF hs ha hb⟩
theorem vI{op:CmpOp}{r:R2}{opD:D->D->Option D}{a b:Expr}{fa fb:FE}{pos:Pos}(ho:OpR X (compareOp op) r)(hs:OpN X r opD)(ha:PVn X a fa)(hb:PVn X b fb)(hm:behindInMarks op b=false):PTv X (.Compare a [op] [b] pos) (zT (zI opD fa fb)):=by
 obtain⟨ta,pa,ha⟩:=ha;obtain⟨tb,pb,hb⟩:=hb;refine⟨_,LN ho pa pb hm,fun H₀ H O σ ds hd k Q o e q=>?_⟩;unfold zT at e;obtain⟨d,h,e⟩:=bnd e;refine LF hs ha hb H₀ H O σ ds hd d _ o h fun v H' s r=>?_;cases d with
 |bl c=>cases e;cases r;exact⟨_,rfl,q H' s⟩
 |_=>cases e
mutual
theorem Rep.reads{pins:List (Addr×Obj)}{σ : L2.St}{H:Hp}{s:Shared}{O:Addr->Prop}(I:Inv X pins σ H s):∀{v:V} {d:D} {u:Value} {n:Nat},Rep X.K H O v d->RelV v u->shal n d=true->∃as,Reads s.heap u (toPy d) as/\(toPy d).canLay0=true/\(toPy d).depth<=n+1
 |_,_,_,_,.non,r,_=>by cases r;exact⟨[],.none,rfl,cL _⟩
 |_,_,_,_,.bl b,r,_=>by cases r;exact⟨[],.bool b,rfl,cL _⟩
 |_,_,_,_,.int i,r,_=>by obtain⟨t,rfl⟩:=r;exact⟨[],.int i t,rfl,cL _⟩
 |_,_,_,_,.str x,r,h=>by obtain⟨t,rfl⟩:=r;exact⟨[],.str x t,by simpa[toPy,PyData.canLay0,shal] using h,cL _⟩
 | _, _, _, n, .tup m h q, r, hs => by
   cases r;obtain⟨its,rv,⟨o,ho,hc,k,hd⟩,hz⟩:=I.tuple (.inl h);obtain⟨as,h1,h2,h3⟩:=Reps.reads I q rv (by simpa[shal] using hs);exact⟨as,.tuple ho hc hd (by simpa using h1),by simpa[toPy,PyData.canLay0] using h2,by simpa[toPy,PyData.depth] using h3⟩
 | _, _, _, n, .tupK h q, r, hs => by
   cases r;obtain⟨its,rv,⟨o,ho,hc,k,hd⟩,hz⟩:=I.tuple (.inr h);obtain⟨as,h1,h2,h3⟩:=Reps.reads I q rv (by simpa[shal] using hs);exact⟨as,.tuple ho hc hd (by simpa using h1),by simpa[toPy,PyData.canLay0] using h2,by simpa[toPy,PyData.depth] using h3⟩
 | _, _, _, n, .lst m h q, r, hs => by
   cases r;obtain⟨its,rv,pl,hz⟩:=I.list (.inl h);obtain⟨o,ho,hc,k,hd⟩:=pl.isList;obtain⟨as,h1,h2,h3⟩:=Reps.reads I q rv (by simpa[shal] using hs);exact⟨_,.list ho hc hd (by simpa using h1),by simpa[toPy,PyData.canLay0] using h2,by simpa[toPy,PyData.depth] using h3⟩
 | _, _, _, n, .lstK h q, r, hs => by
   cases r;obtain⟨its,rv,pl,hz⟩:=I.list (.inr h);obtain⟨o,ho,hc,k,hd⟩:=pl.isList;obtain⟨as,h1,h2,h3⟩:=Reps.reads I q rv (by simpa[shal] using hs);exact⟨_,.list ho hc hd (by simpa using h1),by simpa[toPy,PyData.canLay0] using h2,by simpa[toPy,PyData.depth] using h3⟩
 |_,_,_,_,.dct _ _ _ _,_,hs=>by simp[shal] at hs
 |_,_,_,_,.dcf _ _ _ _,_,hs=>by simp[shal] at hs
 |_,_,_,_,.ins _ _ _ _ _,_,hs=>by simp[shal] at hs
 |_,_,_,_,.clo _ _ _ _ _ _,_,hs=>by simp[shal] at hs
 |_,_,_,_,.fnK _,_,hs=>by simp[shal] at hs
theorem Reps.reads{pins:List (Addr×Obj)}{σ : L2.St}{H:Hp}{s:Shared}{O:Addr->Prop}(I:Inv X pins σ H s):∀{vs:List V} {ds:List D} {us:List Value} {n:Nat},Reps X.K H O vs ds->Vals vs us->shals n ds=true->∃as,ReadsAll s.heap us (toPys ds) as/\PyData.canLayAll0 (toPys ds)=true/\PyData.depthAll (toPys ds)<=n
 |_,_,_,_,.nil,r,_=>by cases r;exact⟨[],.nil,rfl,cL _⟩
 |_,_,_,0,.cons h t,_,hs=>by simp[shals] at hs
 | _, _, _, n + 1, .cons h t, r, hs => by
   cases r with
   | cons r1 r2 =>
     simp only[shals,bD] at hs;obtain⟨as,h1,h2,h3⟩:=Rep.reads I h r1 hs.1;obtain⟨bs,k1,k2,k3⟩:=Reps.reads I t r2 hs.2;exact⟨_,.cons h1 k1,by simp[toPys,PyData.canLayAll0,h2,k2],by simp only[toPys,PyData.depthAll];omega⟩
end
noncomputable def rEqD(X:Cx)(neg:Bool):R2:=fun x y H Q=>∃dx dy,Rep X.K H yE x dx/\Rep X.K H yE y dy/\shal 40 dx=true/\shal 40 dy=true/\Q (.bl (if neg then !eqvD dx dy else eqvD dx dy)) H
theorem UC(hu:X.A.units+100<cLine):OpR X (compareOp .Eq) (rEqD X false):=by
 intro pins s σ H x y v u Q I rx ry h;obtain⟨dx,dy,r1,r2,s1,s2,q⟩:=h;obtain⟨as,a1,a2,a3⟩:=r1.reads I rx s1;obtain⟨bs,b1,b2,b3⟩:=r2.reads I ry s2;exact SeqAt.compareEq_reads a1 b1 a2 b2 (by omega) ⟨.bl _,H,I,rfl,q⟩
theorem UA(hu:X.A.units+100<cLine):OpR X (compareOp .NotEq) (rEqD X true):=by
 intro pins s σ H x y v u Q I rx ry h;obtain⟨dx,dy,r1,r2,s1,s2,q⟩:=h;obtain⟨as,a1,a2,a3⟩:=r1.reads I rx s1;obtain⟨bs,b1,b2,b3⟩:=r2.reads I ry s2;exact SeqAt.compareNe_reads a1 b1 a2 b2 (by omega) ⟨.bl _,H,I,rfl,q⟩
theorem UF:OpN X (rEqD X false) eqD:=by
 intro H O x y dx dy d Q rx ry e q;unfold eqD at e
 split at e
 . rename_i hs;cases e;exact⟨dx,dy,rx,ry,hs.1,hs.2,q _ H (Same.refl _) (.bl _)⟩
 . cases e
theorem UE:OpN X (rEqD X true) neD:=by
 intro H O x y dx dy d Q rx ry e q;unfold neD at e
 split at e
 . rename_i hs;cases e;exact⟨dx,dy,rx,ry,hs.1,hs.2,q _ H (Same.refl _) (.bl _)⟩
 . cases e
theorem hu100{k:Nat}{A:Around}(hr:Room k A):A.units+100<cLine:=by have:=hr.un;omega
theorem oF{a b:Expr}{fa fb:FE}{pos:Pos}{k:Nat}(hr:Room k X.A)(ha:PVn X a fa)(hb:PVn X b fb):PV X (.Compare a [.Eq] [b] pos) (zI eqD fa fb):=EF (UC (hu100 hr)) UF ha hb (iX _)
theorem pv_ne{a b:Expr}{fa fb:FE}{pos:Pos}{k:Nat}(hr:Room k X.A)(ha:PVn X a fa)(hb:PVn X b fb):PV X (.Compare a [.NotEq] [b] pos) (zI neD fa fb):=EF (UA (hu100 hr)) UE ha hb (iX _)
theorem jQ{a b:Expr}{fa fb:FE}{pos:Pos}{k:Nat}(hr:Room k X.A)(ha:PVn X a fa)(hb:PVn X b fb):PTv X (.Compare a [.Eq] [b] pos) (zT (zI eqD fa fb)):=vI (UC (hu100 hr)) UF ha hb (iX _)
theorem wH{a b:Expr}{fa fb:FE}{pos:Pos}{k:Nat}(hr:Room k X.A)(ha:PVn X a fa)(hb:PVn X b fb):PTv X (.Compare a [.NotEq] [b] pos) (zT (zI neD fa fb)):=vI (UA (hu100 hr)) UE ha hb (iX _)
theorem MC{K:Frag}{H:Hp}{O:Addr->Prop}{v:V}{d:D}(r:Rep K H O v d):decide (v=.non)=(match d with | .non=>true | _=>false):=by
 cases r<;>rfl
theorem on_is:OpN X (fun x y H Q=>y=.non/\Q (.bl (decide (x=.non))) H) isD:=by
 intro H O x y dx dy d Q rx ry e q;cases dy<;>first | (cases dx<;>simp[isD] at e;done) | skip
 cases ry;refine⟨rfl,?_⟩;rw[MC rx];cases dx<;>(simp only[isD,Option.some.injEq] at e;subst e;exact q _ H (Same.refl _) (.bl _))
theorem UD:OpN X (fun x y H Q=>y=.non/\Q (.bl (!decide (x=.non))) H) notD:=by
 intro H O x y dx dy d Q rx ry e q;cases dy<;>first | (cases dx<;>simp[notD] at e;done) | skip
 cases ry;refine⟨rfl,?_⟩;rw[MC rx];cases dx<;>(simp only[notD,Option.some.injEq] at e;subst e;exact q _ H (Same.refl _) (.bl _))
theorem GM{a b:Expr}{fa fb:FE}{pos:Pos}(ha:PVn X a fa)(hb:PVn X b fb):PV X (.Compare a [.IsNot] [b] pos) (zI notD fa fb):=EF LY UD ha hb (iX _)
theorem nI{a b:Expr}{fa fb:FE}{pos:Pos}(ha:PVn X a fa)(hb:PVn X b fb):PTv X (.Compare a [.Is] [b] pos) (zT (zI isD fa fb)):=vI op_isN on_is ha hb (iX _)
theorem wR{a b:Expr}{fa fb:FE}{pos:Pos}(ha:PVn X a fa)(hb:PVn X b fb):PTv X (.Compare a [.IsNot] [b] pos) (zT (zI notD fa fb)):=vI LY UD ha hb (iX _)
theorem uT{K:Frag}{H:Hp}{O:Addr->Prop}{v:V}{d:D}(r:Rep K H O v d)(h:sclD d=true):flatV v=true:=by
 cases r<;>first | rfl | (simp[sclD] at h;done)
theorem scl_eq{K:Frag}{H:Hp}{O O':Addr->Prop}{v v':V}{d d':D}(r:Rep K H O v d)(h:sclD d=true)(r':Rep K H O' v' d')(h':sclD d'=true):eqV v v'=eqvD d d':=by
 cases r<;>first | (simp[sclD] at h;done) | skip
 all_goals (cases r'<;>first | (simp[sclD] at h';done) | rfl)
theorem DV{K:Frag}{H:Hp}{O O':Addr->Prop}{x:V}{dx:D}(rx:Rep K H O' x dx)(hx:sclD dx=true):∀{xs:List V} {l:List D},Reps K H O xs l->l.all sclD=true->xs.all flatV=true/\inV x xs=l.any fun z=>eqvD z dx
 |_,_,.nil,_=>⟨rfl,rfl⟩
 | _, _, .cons r t, h => by
   rw[mC,bD] at h;obtain⟨h1,h2⟩:=DV rx hx t h.2;refine⟨by rw[mC,uT r h.1,h1];rfl,?_⟩;unfold inV at h2 ⊢;rw[kN,kN,h2,scl_eq r h.1 rx hx]
theorem on_in{neg:Bool}: OpN X (rIn X.K neg) (inD neg):=by
 intro H O x y dx dy d Q rx ry e q;unfold inD at e;obtain⟨l,hl,e⟩:=bnd e
 split at e
 . rename_i hs;cases e;cases dy with
   | lst l' =>
     cases hl;obtain⟨a,xs,rfl,hq,rs⟩:=WRep.seqL (.inl ry);obtain⟨h1,h2⟩:=DV rx hs.1 rs hs.2;refine⟨a,xs,rfl,.inl hq,uT rx hs.1,h1,?_⟩;rw[h2];exact q _ H (Same.refl _) (.bl _)
   | tup l' =>
     cases hl;obtain⟨a,xs,rfl,hq,rs⟩:=WRep.seqT (.inl ry);obtain⟨h1,h2⟩:=DV rx hs.1 rs hs.2;refine⟨a,xs,rfl,.inr hq,uT rx hs.1,h1,?_⟩;rw[h2];exact q _ H (Same.refl _) (.bl _)
   |_=>cases hl
 . cases e
theorem pt_in{a b:Expr}{fa fb:FE}{pos:Pos}(ha:PVn X a fa)(hb:PVn X b fb)(hm:behindInMarks .In b=false:=by rfl):PTv X (.Compare a [.In] [b] pos) (zT (zI (inD false) fa fb)):=vI OG on_in ha hb hm
theorem GO{a b:Expr}{fa fb:FE}{pos:Pos}(ha:PVn X a fa)(hb:PVn X b fb)(hm:behindInMarks .NotIn b=false:=by rfl):PTv X (.Compare a [.NotIn] [b] pos) (zT (zI (inD true) fa fb)):=vI EL on_in ha hb hm
theorem os_mul:OpS X (rI IntMulOk fun i j=>.int (i*j)) mulD:=by
 intro H O x y dx dy d Q ho rx ry e q;cases dx<;>cases dy<;>first | (simp[mulD] at e;done) | skip
 simp only[mulD] at e
 split at e
 . rename_i hc;cases e;rw[rx.int',ry.int'];exact⟨_,_,rfl,rfl,hc,q _ H (Same.refl _) (.int _)⟩
 . cases e
theorem os_pow:OpS X (rI CPowB fun i j=>.int (i ^ j.toNat)) powD:=by
 intro H O x y dx dy d Q ho rx ry e q;cases dx<;>cases dy<;>first | (simp[powD] at e;done) | skip
 simp only[powD] at e
 split at e
 . rename_i hc;cases e;rw[rx.int',ry.int'];exact⟨_,_,rfl,rfl,hc,q _ H (Same.refl _) (.int _)⟩
 . cases e
theorem DY{a b:Expr}{fa fb:FE}{pos:Pos}(ha:PVw X a fa)(hb:PVw X b fb):PVf X (.BinOp a .Add b pos) (catA fa fb):=by
 obtain⟨ta,pa,ha⟩:=ha;obtain⟨tb,pb,hb⟩:=hb;refine⟨_,TW YX pa pb,fun H₀ H O σ ds hd l Q o e q=>?_⟩;unfold catA at e;obtain⟨dx,h1,e⟩:=bnd e;obtain⟨dy,h2,e⟩:=bnd e;cases dx<;>cases dy<;>first | (simp at e;done) | skip
 simp only at e
 split at e
 . rename_i hz;cases e;refine ha H₀ H O σ ds hd _ _ o h1 fun x H1 s1 r1=>?_;refine hb H₀ H1 O σ ds hd _ _ (o.mono s1) h2 fun y H2 s2 r2=>?_;obtain⟨a1,xs,rfl,hq1,rs1⟩:=(r1.mono s2).seqL;obtain⟨a2,ys,rfl,hq2,rs2⟩:=r2.seqL;refine⟨a1,a2,xs,ys,rfl,rfl,hq1,hq2,by rw[rs1.length,rs2.length];exact hz,fun p hp=>?_⟩;refine q p _ _ ((s1.trans s2).trans (jA hp _)) ((s1.trans s2).free hp) cF ?_;exact((rs1.append rs2).more hp).mono (jA hp _)
 . cases e
variable(X) in
noncomputable def POv(e:Option Expr)(f:List Sl->Option (Option Int)):Prop:=∃t,PO X e t/\∀H₀ H O σ ds hd i Q,Ok X.K H₀ H O σ ds hd->f ds=some i->(∀H',Same H H'->Q i H')->t σ H Q
theorem jO:POv X none noP:=⟨_,YK,fun _ H _ _ _ _ _ _ _ e q=>by cases e;exact q H (Same.refl _)⟩
theorem jB{e:Expr}{f:FE}(h:PVw X e f):POv X (some e) (soP f):=by
 obtain⟨t,ht,hf⟩:=h;refine⟨_,YJ ht,fun H₀ H O σ ds hd i Q o e q=>?_⟩;unfold soP at e;obtain⟨d,h1,e⟩:=bnd e;cases d<;>first | (cases e;done) | skip
 cases e;refine hf H₀ H O σ ds hd _ _ o h1 fun v H' s r=>?_;rw[r.int'];exact⟨_,rfl,q H' s⟩
theorem VZ{K:Frag}{H:Hp}{O:Addr->Prop}{xs:List V}{l:List D}{a b:Option Int}(rs:Reps K H O xs l):Reps K H O (cutV xs a b) (cutD l a b):=by
 unfold cutV cutD;rw[rs.length];exact(rs.drop _).take _
theorem NW{e:Expr}{lo hi:Option Expr}{f:FE}{gl gh:List Sl->Option (Option Int)}{p2 pos:Pos}(he:PVw X e f)(hl:POv X lo gl)(hh:POv X hi gh):PVf X (.Subscript e (.Slice lo hi none p2) pos) (sliA f gl gh):=by
 obtain⟨te,pe,he⟩:=he;obtain⟨tl,pl,hl⟩:=hl;obtain⟨th,ph,hh⟩:=hh;refine⟨_,GR XQ pe pl ph,fun H₀ H O σ ds hd l Q o e q=>?_⟩;unfold sliA at e;obtain⟨d,h1,e⟩:=bnd e;obtain⟨a,h2,e⟩:=bnd e;obtain⟨b,h3,e⟩:=bnd e;cases d<;>first | (cases e;done) | skip
 cases e;refine he H₀ H O σ ds hd _ _ o h1 fun v H1 s1 r1=>?_;refine hl H₀ H1 O σ ds hd _ _ (o.mono s1) h2 fun H2 s2=>?_;refine hh H₀ H2 O σ ds hd _ _ ((o.mono s1).mono s2) h3 fun H3 s3=>?_;obtain⟨a1,xs,rfl,hq,rs⟩:=((r1.mono s2).mono s3).seqL;refine⟨a1,xs,rfl,hq,fun p hp=>?_⟩;have ss:=(s1.trans s2).trans s3;refine q p _ _ (ss.trans (jA hp _)) (ss.free hp) cF ?_;exact((VZ rs).more hp).mono (jA hp _)
theorem cs_max:CallS X (fun xs H Q=>∃i j,xs=[.int i,.int j]/\Q (.int (if j>i then j else i)) H) mxD:=by
 intro H O vs l d Q ho r e q
 match l,r,e with
 | [.int i, .int j], .cons r1 (.cons r2 .nil), e =>
   cases e;exact⟨i,j,by rw[r1.int',r2.int'],q _ H (Same.refl _) (.int _)⟩
theorem cs_min:CallS X (fun xs H Q=>∃i j,xs=[.int i,.int j]/\Q (.int (if j<i then j else i)) H) mnD:=by
 intro H O vs l d Q ho r e q
 match l,r,e with
 | [.int i, .int j], .cons r1 (.cons r2 .nil), e =>
   cases e;exact⟨i,j,by rw[r1.int',r2.int'],q _ H (Same.refl _) (.int _)⟩
theorem YD{p pos:Pos}{a b:Expr}{g:FA}(hc:X.calm=true)(hm:X.mg "max" = none)(ha:PAv X [a,b] g)(hg:Gl X "max":=by rfl)(he:starEach [a,b] X.env=(false,eval a X.env)::starEach [b] X.env:=by rfl)(hpl:(backTo pos (starEach [b] X.env)).any (·.1)=false:=by rfl) :
  PV X (.Call (.Name "max" p) [a,b] [] pos) (callB mxD g):=vW (QG hc) cs_max hm (by decide +kernel) ha hg (by decide) (by decide) he hpl
theorem LH{p pos:Pos}{a b:Expr}{g:FA}(hc:X.calm=true)(hm:X.mg "min" = none)(ha:PAv X [a,b] g)(hg:Gl X "min":=by rfl)(he:starEach [a,b] X.env=(false,eval a X.env)::starEach [b] X.env:=by rfl)(hpl:(backTo pos (starEach [b] X.env)).any (·.1)=false:=by rfl) :
  PV X (.Call (.Name "min" p) [a,b] [] pos) (callB mnD g):=vW (QF hc) cs_min hm (by decide +kernel) ha hg (by decide) (by decide) he hpl
theorem sW{α β : Type}{xs:List α}{ys:List β}(h:xs.length=ys.length):xs.isEmpty=ys.isEmpty:=by
 cases xs<;>cases ys<;>simp_all
theorem PVn.t{e:Expr}{f:FE}(h:PVn X e f)(he:∀whole,isTrue e X.env whole=(do let v <- whole;standAt e.pos;holding [v] (truthy v)):=by intro _;rfl):PTv X e (testT f):=by
 obtain⟨t,ht,hf⟩:=h;refine⟨_,SZ ht he,fun H₀ H O σ ds hd k Q o e q=>?_⟩;unfold testT at e;obtain⟨d,h,e⟩:=bnd e;refine hf H₀ H O σ ds hd d _ o h fun v H' s r=>⟨k,?_,q H' s⟩
 cases d with
 |non=>cases e;cases r;exact rfl
 |bl b=>cases e;cases r;exact rfl
 |int i=>cases e;cases r;exact rfl
 | str x =>
   simp only[truD] at e
   split at e
   . rename_i hz;cases e;cases r;exact⟨hz,rfl⟩
   . cases e
 | tup l =>
   cases e;obtain⟨a,xs,rfl,hq,rs⟩:=WRep.seqT (.inl r);exact .inr (.inl ⟨xs,hq,by rw[sW rs.length]⟩)
 | lst l =>
   cases e;obtain⟨a,xs,rfl,hq,rs⟩:=WRep.seqL (.inl r);exact .inl ⟨xs,hq,by rw[sW rs.length]⟩
 |_=>cases e
theorem qO{st:Stmt}: PSv X st (fun _=>none):=⟨_,TH,fun _ _ _ _ _ _ _ _ _ e _=>by cases e⟩
theorem LO{tg e:Expr}{pos:Pos}{f:FE}{ga:D->List Sl->Option (List Sl)}(he:PV X e f)(hg:PGv X tg ga)(hs:swapsWithSole [tg] e pos.line X.env=pure false:=by rfl)(hw:swappedStores [tg] e X.env=pure none:=by rfl)
  (h1:(assignEach [tg] X.env).map (·.2)=[assign tg X.env]:=by rfl):PSv X (.Assign [tg] e pos) (asgG ga f):=by
 obtain⟨te,pe,he⟩:=he;obtain⟨tg',pg,hg⟩:=hg;refine⟨_,TK pe pg hs hw h1,fun H₀ H O σ ds hd out E o e h=>?_⟩;unfold asgG at e;obtain⟨d,h2,e⟩:=bnd e;cases h3:ga d ds with
 |none=>rw[h3] at e;cases e
 | some ds' =>
   rw[h3] at e;cases e;refine he H₀ H O σ ds hd d _ o h2 fun v H1 s1 r1=>?_;exact hg H₀ H1 O σ ds hd v d ds' _ (o.mono s1) r1 h3 fun σ' o'=>h σ' H1 O o'
theorem wE{i:Nat}{x:Str}{e:Expr}{pos p1 p2 p3:Pos}{fe:FA}(he:PVf X e fe)(hN:X.N[i]?=some x:=by rfl)(hv:Vis X.env.scope x:=by first | exact Or.inl rfl | exact Or.inr (Or.inl rfl) | exact Or.inr (Or.inr rfl))(hd:(x==("__debug__" : Str))=false:=by decide)
  (hcd:(x==("__classdict__" : Str))=false:=by decide)
  (hfew:((backTo p3 (starEach [e] X.env)).all (fun x=>!x.1)&&(backToKw p3 (keywordEach [] X.env)).all (fun x=>x.1.isSome)
    && decide ([e].length+([]:List Keyword).length+(if ([]:List Keyword).isEmpty then 0 else 1)<30))=true:=by rfl)
  (hline:(p2.endLine==p3.line)=true:=by rfl) (hs:starEach [e] X.env=(false,eval e X.env)::starEach [] X.env:=by rfl)
  (hbase:attributeBase (.Name x p1) "extend" X.env (eval (.Name x p1) X.env)=eval (.Name x p1) X.env:=by rfl) (hsw:swapsWith (.Call (.Attribute (.Name x p1) "extend" p2) [e] [] p3) none pos.line X.env=pure false:=by rfl) :
  PSv X (.Expr (.Call (.Attribute (.Name x p1) "extend" p2) [e] [] p3) pos) (extG i fe):=by
 obtain⟨te,pe,he⟩:=he;refine⟨_,EK (AE lZ BG BF CS (wQ hN hv hd hcd) (jS pe xB hs) hbase hfew hline hs rfl) hsw,fun H₀ H O σ ds hd out E o e h=>?_⟩;unfold extG at e;cases hsl:ds[i]? with
 |none=>rw[hsl] at e;cases e
 | some s =>
   rw[hsl] at e;cases s with
   |v d'=>cases e
   |no=>cases e
   |exc _=>cases e
   |fr _=>cases e
   |ob _ _=>cases e
   | own l =>
     simp only at e;obtain⟨d,h1,e⟩:=bnd e
     split at e
     . rename_i hl;cases e;obtain⟨a,xs,q1,q2,q3,q4⟩:=o.readO hsl;refine⟨.ref a,q1,.inl ⟨rfl,xs,SqL.of q3⟩,?_⟩;refine he H₀ H O σ ds hd d _ o h1 fun b ys H1 s1 hn hb r1=>?_;refine⟨a,b,xs,ys,rfl,rfl,s1 _ _ q3,hb,by rw[q4.length,r1.length];exact hl,?_⟩;exact h _ _ _ ((o.mono s1).modify hsl q1 ((q4.mono s1).append (r1.less fun a z=>.inr z)))
     . cases e
theorem wL{i:Nat}{y:Str}{py spos:Pos}{scope:Scope}{NY:List Str}{mp:List (Option Nat)}{tg iter elt:Expr}{ifs:List Expr}{pos:Pos}{fi:FA}{ga:D->List Sl->Option (List Sl)}{tt:FT}{fe:FE}(hN:X.N.Nodup)
  (S:CompScope X scope NY mp) (hc:X.calm=true) (hi:PIv X tg iter fi) (hg:∀c,PGv (qT X scope NY c) tg ga) (ht:∀c,PFv (qT X scope NY c) ifs tt) (he:∀c,PV (qT X scope NY c) elt fe)
  (hy:X.N[i]?=some y:=by rfl) (hl:X.env.scope.names.lookup y=some .local:=by rfl)
  (hsw:swapsWith (.ListComp elt [⟨tg,iter,ifs,0⟩] scope pos) (some (.Name y py)) spos.line X.env=pure true:=by rfl)
  (hs:∀x,foldedSetIterable iter X.env x=pure x:=by intro _;rfl):PSv X (.Assign [.Name y py] (.ListComp elt [⟨tg,iter,ifs,0⟩] scope pos) spos) (jG i (mkL (compG fi mp ga tt fe))):=by
 obtain⟨wi,pi,hi⟩:=hi;refine⟨_,YH hN hy hl hsw S hc pi (fun c=>(Classical.choose_spec (hg c)).1) (fun c=>(Classical.choose_spec (ht c)).1) (fun c=>(Classical.choose_spec (he c)).1) hs,fun H₀ H O σ ds hd out E o e h=>?_⟩;unfold jG mkL at e;cases h1:compG fi mp ga tt fe ds with
 |none=>rw[h1] at e;cases e
 | some l =>
   rw[h1] at e;cases e
   exact HW hi (fun c=>(Classical.choose_spec (hg c)).2) (fun c=>(Classical.choose_spec (ht c)).2) (fun c=>(Classical.choose_spec (he c)).2) H₀ H O σ ds hd l _ o h1 fun a xs H' s hn he r =>
    h _ _ _ ((o.mono s).set (.lst (o.free hn) (.inl he) (r.less fun _ z=>.inr z)))
end
end FL
namespace L2
open PySem PySem.Spec PyProof.Rows
section
variable{X:Cx}
end
end L2
namespace Att
open PySem PySem.W PySem.Calls PyProof.Rows
theorem tD:∀{ns:List Int} {b:Nat},WData.weightAll (ns.map WData.int)<=b->∀c∈ns,Builtin.Int.intBits c<=b
 |[],_,_=>fun c hc=>by cases hc
 | n :: r, b, h => fun c hc => by
   simp only[bB,WData.weightAll,WData.weight] at h;rcases aF.mp hc with rfl | hc
   . unfold Builtin.Int.intBits;omega
   . exact tD (ns:=r) (b:=b) (by omega) c hc
theorem attach_callB{l:OpenLaw}{n:Nat}{q:Program}{loose:List Str}{XP:(Str->Option Value)->Heap->Prop}{YP:World->Heap->Prop}{d:DefRec}
  (hn:l.most=some n) (hdf:d.params.defaults=[])
  (call:∀(w:World) (s₀ s₁ : Shared) (mg mb:Str->Option Value) (fa:Addr) (o:Obj) (pm cd doc:Value) (a:Addr) (vs:List Value) (ns:List Int),
    Ground q loose [] XP w s₀ mg mb s₁.heap->YP w s₁.heap →
    s₁.heap.get? fa=some o->o.data=.func (docDef d.name d.params d.body d.scope pm cd doc)->s₁.heap.CodeRec cd d.name->mg d.name=some (.ref fa) →
    s₁.heap.get? a=some { cls:=.type "list",data:=.seq vs.toArray }->IntsAre vs ns->ns.length<=n->(∀c∈ns,Builtin.Int.intBits c<=1048576)->s₁.gens=#[] →
    codeAny (model l.prog w) callerA (.call (.ref fa) ⟨[.ref a],[]⟩) (fun r s'=>r=.ok (.ret (.bool true))/\OldK s₁.heap s'.heap/\s'.os=s₁.os/\AllBare s'.gens) s₁) :
  WalkO q loose XP YP l.row.toRowW d [] (fun f vs=>PySem.call f vs):=by
 intro w s₀ s₁ mg mb G Y fa o pm cd doc dV kV ho hd hcd hD hmg hg args vals as hpre hlay hrd hwl hlo;obtain rfl:dV=.none:=Dflts.none hD hdf;obtain rfl:kV=.none:=Dflts.noKw hD;obtain⟨a,vs,ns,rfl,rfl,hobj,hints,hlen⟩:=NQ hn hpre hwl
 have hb:∀c∈ns,Builtin.Int.intBits c<=1048576:=by
  have h1:=(layableW_iff.mp (layW_cons hlay).1).2.2;simp only[WData.weight] at h1;exact tD (cM h1 (by decide))
 refine enter_call (codeAny_mono (call w s₀ s₁ mg mb fa o pm cd doc a vs ns G Y ho (fd_plain hd) hcd hmg hobj hints hlen hb hg) fun r s' hq=>?_);obtain⟨rfl,h2,h3,h4⟩:=hq;exact⟨.inl ⟨.bool true,.bool true,[],rfl,fun _=>rfl,.bool true,NZ l _,fun _=>⟨List.Pairwise.nil,fun _ hm=>(nomatch hm)⟩⟩,h2,h3,h4⟩
end Att
namespace FL
open PySem PySem.Spec PyProof.Rows L2
noncomputable def IY(K:Frag)(n:Nat):Sp:=fun vs H Q _=>∃(a:Addr) (ns:List Int),vs=[.ref a]/\SqL K H a (ns.map V.int)/\ns.length<=n/\(∀c∈ns,Builtin.Int.intBits c<=1048576)/\∀H',Q (.bl true) H'
theorem ZI{P:Program}{w:World}{K:Frag}{mg:Str->Option Value}{base:Heap}{k:Nat}{f:Addr}{fd:FuncData}{x:Str}{n:Nat}{F:List D->Option Ret}(Fn:FnOk P w K mg base CX0 k f fd [x] (spF K 1 F))
  (h:∀ns:List Int,ns.length<=n->(∀c∈ns,Builtin.Int.intBits c<=1048576)->F [.lst (ns.map D.int)]=some (.val (.bl true))):FnOk P w K mg base CX0 k f fd [x] (IY K n):=by
 refine Fn.imp fun vs H Q E hq=>?_;obtain⟨a,ns,rfl,hS,hl,hb,q⟩:=hq;refine⟨rfl,[.lst (ns.map D.int)],.val (.bl true),.cons ?_ .nil,h ns hl hb,fun v H' s r=>?_⟩
 . rcases hS with hS | hS
   . exact .lst (fun z=>z.elim) hS (Reps.ints ns)
   . exact .lstK hS (Reps.ints ns)
 . cases r;exact q H'
open PySem.W (tabIn CodeHd tabObj noTabs tab_of) in
inductive TabL(K:Frag)(q:Program):List Str->List (Str×Addr×Addr)->Prop
 |nil:TabL K q [] []
 |yes {x:Str} {xs:List Str} {c P:Addr} {tl:List (Str×Addr×Addr)} (h:gX K x=some (c,P)) (r:((recsOf q).find? (fun e=>e.name==x)).isSome=true) (ap:(tl.all fun p=>p.2.2 != P)=true) (t:TabL K q xs tl):TabL K q (x::xs) ((x,c,P)::tl)
 |no {x:Str} {xs:List Str} {tl:List (Str×Addr×Addr)} (h:gX K x=none) (t:TabL K q xs tl):TabL K q (x::xs) tl
theorem tabL_no{K:Frag}{q:Program}{x:Str}{xs:List Str}{tl:List (Str×Addr×Addr)}(h:aJ K mainGlobals x=some none)(t:TabL K q xs tl):TabL K q (x::xs) tl:=.no (by unfold gX;rw[h]) t
theorem tabL_yes{K:Frag}{q:Program}{x:Str}{xs:List Str}{c P f:Addr}{fd:FuncData}{oc oc':Value}{od od':Option Addr}{sl sl':Array (Option Value)}{vs:Array Value}{tl:List (Str×Addr×Addr)}(h1:aJ K mainGlobals x=some (some (.ref f)))(h2:K.lookup f=some ⟨oc,od,.func fd,sl⟩)
  (h3:fd.code=.ref c) (h4:K.lookup c=some ⟨oc',od',.fields vs,sl'⟩) (h5:(vs[11]? : Option Value)=some (.ref P)) (r:((recsOf q).find? (fun e=>e.name==x)).isSome=true) (t:TabL K q xs tl) (ap:(tl.all fun p=>p.2.2 != P)=true):TabL K q (x::xs) ((x,c,P)::tl):=
 .yes (by unfold gX;simp only[h1,h2,h3,h4,h5]) r ap t
section
variable{K:Frag}{q:Program}{xs:List Str}{tl:List (Str×Addr×Addr)}
theorem TabL.get(h:TabL K q xs tl):∀{x:Str} {c P:Addr},x∈xs->gX K x=some (c,P)->(x,c,P)∈tl:=by
 induction h with
 |nil=>intro x c P hx;cases hx
 | yes h r ap t ih =>
   intro x c P hx ht;rcases aF.mp hx with e | e
   . subst e;rw[h] at ht;cases ht;exact aP
   . exact aI _ (ih e ht)
 | no h t ih =>
   intro x c P hx ht;rcases aF.mp hx with e | e
   . subst e;rw[h] at ht;cases ht
   . exact ih e ht
theorem TabL.fact(h:TabL K q xs tl):∀p∈tl,gX K p.1=some (p.2.1,p.2.2)/\((recsOf q).find? (fun e=>e.name==p.1)).isSome=true:=by
 induction h with
 |nil=>intro p hp;cases hp
 | yes h r ap t ih =>
   intro p hp;rcases aF.mp hp with e | e
   . subst e;exact⟨h,r⟩
   . exact ih p e
 |no h t ih=>exact ih
noncomputable def tabH(K:Frag)(tl:List (Str×Addr×Addr)):Hp:=fun b=>(tl.find? fun p=>p.2.2==b).map fun p=>.tbl (oM K p.1)
theorem tX{b:Addr}{u:HO}(e:tabH K tl b=some u):∃p∈tl,b=p.2.2/\u=.tbl (oM K p.1):=by
 unfold tabH at e;obtain⟨p,h,rfl⟩:=mpd e;exact⟨p,List.mem_of_find?_eq_some h,(beq_iff_eq.mp (List.find?_some (p:=fun p:Str×Addr×Addr=>p.2.2==b) h)).symm,rfl⟩
theorem TabL.at(h:TabL K q xs tl):∀p∈tl,tabH K tl p.2.2=some (.tbl (oM K p.1)):=by
 induction h with
 |nil=>intro p hp;cases hp
 | yes h r ap t ih =>
   intro p hp;rename_i x xs c P tl;unfold tabH;rcases aF.mp hp with e | e
   . subst e;simp
   . have:(P==p.2.2)=false:=by
      have:=fQ.mp ap p e;simp only[bne_iff_ne,ne_eq] at this;exact beq_eq_false_iff_ne.mpr (Ne.symm this)
     rw[fZ,this];exact ih p e
 |no h t ih=>exact ih
end
theorem no_cls{K:Frag}{h:Heap}{b:Addr}{o:Obj}{ps:Array Value}(X:K.In h)(hK:tT K=true)(e:K.lookup b=some o)(hb:h.get? b=some (tS ps)):False:=by
 have q:=X b o e;rw[hb] at q;cases q;have h2:=fQ.mp hK (b,_) (PySem.W.mem_of_lookupK e);exact absurd (show false=true from h2) cH
theorem OW{P:Program}{w:World}{K:Frag}{q:Program}{loose:List Str}{mean:ExcName->Option Value}{mg mb:Str->Option Value}{k:Nat}{fa a:Addr}{fd:FuncData}{x:Str}{sp:Sp}{s₁ : Shared}{vs:List Value}{ns:List Int}{tl:List (Str×Addr×Addr)}
  (KX:K.In s₁.heap) (T:Top q loose mean mg mb s₁.heap) (hT:TabL K q makers tl) (hK:tT K=true) (hg:s₁.gens=#[]) (ha:s₁.heap.get? a=some { cls:=.type "list",data:=.seq vs.toArray }) (hi:IntsAre vs ns) (hl:ns.length<=sizeLine) (hr:Room k callerA)
  (F:∀base:Heap,K.In base->base.Ns mainGlobals mg->FnOk P w K mg base CX0 k fa fd [x] sp) (hbind:∀(s:Shared) (u:Value),BindsTo s fd ⟨[u],[]⟩ [(x,u)])
  (hsp:∀H:Hp,SqL K H a (ns.map V.int)->sp [.ref a] H (fun v _=>v=.bl true) fun _ _ _=>False) :
  codeAny (model P w) callerA (.call (.ref fa) ⟨[.ref a],[]⟩) (fun r s'=>r=.ok (.ret (.bool true))/\OldK s₁.heap s'.heap/\s'.os=s₁.os/\AllBare s'.gens) s₁:=by
 have rv:=CH hi
 have tf:∀p∈tl,QN s₁.heap p.2.1 p.2.2/\s₁.heap.get? p.2.2=some (tS #[]):=fun p hp=>by
  obtain⟨h1,h2⟩:=hT.fact p hp;obtain⟨d,hd⟩:=BI.mp h2;exact PySem.W.tab_of T KX hd h1
 have core:∀H:Hp,SqL K H a (ns.map V.int)->L2.HOk P w H s₁.heap->(∀b u,H b=some u->(b=a/\K.lookup a=none/\∃o xs,u=.frz o (.lst xs))\/∃p∈tl,b=p.2.2/\u=.tbl (oM K p.1))->(∀p∈tl,H p.2.2=some (.tbl (oM K p.1))) →
   codeAny (model P w) callerA (.call (.ref fa) ⟨[.ref a],[]⟩) (fun r s'=>r=.ok (.ret (.bool true))/\OldK s₁.heap s'.heap/\s'.os=s₁.os/\AllBare s'.gens) s₁:=by
  intro H hS hok hA hP
  have free_of:∀{b:Addr} {o:Obj},s₁.heap.get? b=some o->(∀its n,o.data≠.seq its n)->o.data≠.fields #[]->H b=none:=fun {b o} e n1 n2=>by
   cases qb:H b with
   |none=>rfl
   | some u =>
     rcases hA b u qb with⟨rfl,_,_⟩ | ⟨p,hp,rfl,_⟩
     . rw[ha] at e;cases e;exact(n1 _ _ rfl).elim
     . rw[(tf p hp).2] at e;cases e;exact(n2 rfl).elim
  have base_of:∀{b:Addr} {o:Obj},s₁.heap.get? b=some o->(∀its n,o.data≠.seq its n)->o.data≠.fields #[]->(hidT s₁.heap H).get? b=some o:=fun e n1 n2=>HF e (free_of e n1 n2);have nsK:∀{b:Addr} {m:Str->Option Value},s₁.heap.Ns b m->(hidT s₁.heap H).Ns b m:=fun {b m} ⟨o,es,ep,e,d,r⟩=>⟨o,es,ep,base_of e (fun _ _ z=>by rw[d] at z;cases z) (fun z=>by rw[d] at z;cases z),d,r⟩
  have hKb:K.In (hidT s₁.heap H):=fun b o e=>HF (KX b o e) (by
   cases qb:H b with
   |none=>rfl
   | some u =>
     rcases hA b u qb with⟨rfl,z,_⟩ | ⟨p,hp,rfl,_⟩
     . rw[z] at e;cases e
     . exact(no_cls KX hK e (tf p hp).2).elim)
  have hM:Mod K mg (hidT s₁.heap H):=⟨hKb,nsK T.g,⟨mb,nsK T.b,T.builtins⟩,let ⟨mc,h1,h2⟩:=T.nolimit;⟨mc,nsK h1,h2⟩⟩
  have hTab:TabsK K mg (hidT s₁.heap H) H:=by
   refine⟨?_,fun y c P' hy ht=>?_⟩
   . obtain⟨bm, ob, b1, b2, b3, b4, b5, b6⟩ := T.bmain;exact⟨bm,ob,b1,b2,base_of b3 (fun _ _ z=>by rw[b6] at z;cases z) (fun z=>by rw[b6] at z;cases z),b4,b5,b6⟩
   . have hm := hT.get hy ht;refine⟨?_,hP _ hm⟩;obtain⟨o,ws,file,tf',flags,tg,inF,text,tt,e1,r1,r2,r3,rest⟩:=(tf _ hm).1;refine⟨o,ws,file,tf',flags,tg,inF,text,tt,base_of e1 (fun _ _ z=>by rw[r2] at z;cases z) (fun z=>?_),r1,r2,r3,rest⟩;rw[r2] at z;cases z;cases r3
  have e0:Env0 P w K mg (hidT s₁.heap H) callerA [] s₁ H:=⟨rfl,hM,fun b o e=>YZ e,⟨lM (PN _ _),hTab⟩,trivial,fun b hb=>absurd (show b∈([]:List Addr) from hb) (by simp),hok,.of_eq hg⟩
  refine codeAny_mono ((F _ hKb (nsK T.g)).run callerA [] s₁ H ⟨[.ref a],[]⟩ [.ref a] [.ref a] _ _ hr e0 (hbind s₁ (.ref a)) (.cons rfl .nil) (hsp H hS)) fun r s' h=>?_;cases r with
  |error e=>exact False.elim h
  | ok fl =>
    cases fl with
    |next=>exact False.elim h
    |brk=>exact False.elim h
    |cont=>exact False.elim h
    | ret u =>
      obtain⟨v,H',os,bare,un,hok',r',hv⟩:=h;have hv':v=.bl true:=hv;subst hv';obtain rfl:u=Value.bool true:=r';refine⟨rfl,⟨fun b o e=>?_,fun b o e=>un.there b o e (by simp)⟩,os,bare⟩;cases qb:H b with
      |none=>exact .inl (un.keep b o e qb (by intro z;exact absurd (show b∈([]:List Addr) from z) (by simp)) (by simp))
      | some u =>
        rcases hA b u qb with⟨_,_,ob,xs,rfl⟩ | ⟨p,hp,rfl,rfl⟩
        . obtain⟨e1, _⟩ := hok b _ qb;obtain⟨e2,_⟩:=hok' b _ (un.frzs b ob _ qb);rw[e] at e1;cases e1;exact .inl e2
        . have t2 := (tf p hp).2;rw[e] at t2;cases t2;obtain⟨ps,e2,_⟩:=hok' _ _ (un.tbls _ _ qb);exact .inr (.inl ⟨((tf p hp).1.tab (tf p hp).2).isCodeTable,rfl,#[],ps,rfl,by rw[Array.empty_append];exact e2⟩)
 have tabOk:∀(H:Hp) (p:Str×Addr×Addr),p∈tl->ObjOk P w H s₁.heap p.2.2 (.tbl (oM K p.1)):=fun H p hp=>⟨#[],(tf p hp).2,trivial,fun pos v z=>by cases z⟩
 cases hk:K.lookup a with
 | some o =>
   have e:=KX a o hk;rw[ha] at e;cases e;refine core (tabH K tl) (.inr ⟨_,vs.toArray,_,hk,rfl,rfl,rfl,by rw[aX,hi.length];exact hl,by simpa using rv⟩) (fun b u z=>?_) (fun b u z=>.inr (tX z)) fun p hp=>hT.at p hp;obtain⟨p,hp,rfl,rfl⟩:=tX z;exact tabOk _ p hp
 | none =>
   have na:∀p∈tl,p.2.2≠a:=fun p hp z=>by
    have:=(tf p hp).2;rw[z,ha] at this;cases this
   refine core (upd (tabH K tl) a (.frz { cls:=.type "list",data:=.seq vs.toArray } (.lst (ns.map V.int)))) (.inl (.inr ⟨_,cF⟩)) (fun b u z=>?_) (fun b u z=>?_) fun p hp=>by rw[zX (na p hp)];exact hT.at p hp
   . by_cases hb : b = a
     . subst hb;rw[cF] at z;cases z;exact⟨ha,by rw[dC];exact hl,vs,_,rv,ha⟩
     . rw[zX hb] at z;obtain⟨p,hp,rfl,rfl⟩:=tX z;exact tabOk _ p hp
   . by_cases hb : b = a
     . subst hb;rw[cF] at z;cases z;exact .inl ⟨rfl,hk,_,_,rfl⟩
     . rw[zX hb] at z;exact .inr (tX z)
theorem walkB{l:ND}{q:Program}{loose:List Str}{XP:(Str->Option Value)->Heap->Prop}{YP:World->Heap->Prop}{d:DefRec}{K:Params->aH}{k:Nat}{tl:List (Str×Addr×Addr)}(hn:l.most=some 63)(hdf:d.params.defaults=[])(hr:Room k callerA)
  (hY:∀(w:World) (h:Heap),YP w h->(K w.params).In h) (hK:∀w:World,tT (K w.params)=true) (hT:∀w:World,TabL (K w.params) q makers tl)
  (F:∀(w:World) (mg:Str->Option Value) (fa:Addr) (h:Heap),(K w.params).In h->h.Ns mainGlobals mg->mg d.name=some (.ref fa) →
    ∃fd:FuncData,(∀(s:Shared) (u:Value),BindsTo s fd ⟨[u],[]⟩ [("_law_script",u)])/\∀base:Heap,(K w.params).In base->base.Ns mainGlobals mg->FnOk l.prog w (K w.params) mg base CX0 k fa fd ["_law_script"] (IY (K w.params) 63)) :
  PySem.W.WalkO q loose XP YP l.row.toRowW d [] (fun f vs=>PySem.call f vs):=by
 refine Att.attach_callB hn hdf fun w s₀ s₁ mg mb fa o pm cd doc a vs ns G Y ho hd hcd hmg hobj hints hlen hb hg=>?_;have KX:=hY w _ Y;obtain⟨fd,hbd,hF⟩:=F w mg fa _ KX G.T.g hmg;exact OW KX G.T (hT w) (hK w) hg hobj hints (cM hlen (by decide)) hr hF hbd fun H hS=>⟨a,ns,rfl,hS,hlen,hb,fun _=>rfl⟩
structure Cal(P:Program)(w:World)(K:Frag)(mg:Str->Option Value)(base:Heap)(x:Str)(k n:Nat)(F:List D->Option Ret):Prop where
 ex:∃(f:Addr) (fd:FuncData) (ps:List Str),FnOk P w K mg base CX0 k f fd ps (spF K n F)/\Binds K fd ps []/\bN K (.ref f)=true/\mg x=some (.ref f)
section
variable{X:Cx}
section
variable{k j:Nat}{n:Nat}{F:List D->Option Ret}{x:Str}{p pos:Pos}{e:Expr}{es:List Expr}{g:FA}
theorem zO(C:Cal X.prog X.w X.K X.mg X.base x k n F)(hr:Room j X.A)(ha:PAn X (e::es) g)(hj:k<=j:=by decide)
  (hg:Gl X x:=by rfl) (hdb:(x==("__debug__" : Str))=false:=by decide) (he:starEach (e::es) X.env=(false,eval e X.env)::starEach es X.env:=by rfl) (hpl:(backTo pos (starEach es X.env)).any (·.1)=false:=by rfl) :
  PV X (.Call (.Name x p) (e::es) [] pos) (qJ n F g):=by
 obtain⟨f,fd,ps,Fn,hb,hk,hm⟩:=C.ex;exact SW Fn (hr.mono hj) hm hk hb ha hg hdb he hpl
theorem jV(C:Cal X.prog X.w X.K X.mg X.base x k n F)(hr:Room j X.A)(ha:PAn X (e::es) g)(hj:k<=j:=by decide)
  (hg:Gl X x:=by rfl) (hdb:(x==("__debug__" : Str))=false:=by decide) (he:starEach (e::es) X.env=(false,eval e X.env)::starEach es X.env:=by rfl) (hpl:(backTo pos (starEach es X.env)).any (·.1)=false:=by rfl) :
  PVf X (.Call (.Name x p) (e::es) [] pos) (callF n F g):=by
 obtain⟨f,fd,ps,Fn,hb,hk,hm⟩:=C.ex;exact NX Fn (hr.mono hj) hm hk hb ha hg hdb he hpl
end
end
section
variable{X:Cx}{a b:Expr}{fa fb:FE}{pos:Pos}
theorem pv_le(ha:PVw X a fa)(hb:PVw X b fb):PV X (.Compare a [.LtE] [b] pos) (zI leD fa fb):=JC op_le vJ ha hb (iX _)
theorem pv_gt(ha:PVw X a fa)(hb:PVw X b fb):PV X (.Compare a [.Gt] [b] pos) (zI gtD fa fb):=JC op_gt vJ ha hb (iX _)
theorem CO(ha:PVw X a fa)(hb:PVw X b fb):PTv X (.Compare a [.Lt] [b] pos) (zT (zI ltD fa fb)):=vB op_lt vJ ha hb (iX _)
theorem pt_le(ha:PVw X a fa)(hb:PVw X b fb):PTv X (.Compare a [.LtE] [b] pos) (zT (zI leD fa fb)):=vB op_le vJ ha hb (iX _)
theorem sS(ha:PVw X a fa)(hb:PVw X b fb):PTv X (.Compare a [.Gt] [b] pos) (zT (zI gtD fa fb)):=vB op_gt vJ ha hb (iX _)
theorem pt_ge(ha:PVw X a fa)(hb:PVw X b fb):PTv X (.Compare a [.GtE] [b] pos) (zT (zI geD fa fb)):=vB op_ge vJ ha hb (iX _)
theorem zZ(ha:PVw X a fa)(hb:PVw X b fb):PV X (.BinOp a .Add b pos) (zI yA fa fb):=rJ YY os_add ha hb
theorem yT(ha:PVw X a fa)(hb:PVw X b fb):PV X (.BinOp a .Sub b pos) (zI subD fa fb):=rJ op_sub os_sub ha hb
theorem pE(ha:PVw X a fa)(hb:PVw X b fb):PV X (.BinOp a .Mult b pos) (zI mulD fa fb):=rJ YW os_mul ha hb
theorem EC(ha:PVw X a fa)(hb:PVw X b fb):PV X (.BinOp a .Pow b pos) (zI powD fa fb):=rJ YV os_pow ha hb
theorem qV(ha:PVw X a fa)(hb:PVw X b fb):PV X (.BinOp a .Mod b pos) (zI wB fa fb):=rJ op_mod os_mod ha hb
theorem yH(ha:PVw X a fa)(hb:PVw X b fb):PV X (.BinOp a .FloorDiv b pos) (zI xD fa fb):=rJ UB YU ha hb
end
end FL
namespace L2
open PySem PySem.Spec PyProof.Rows
section
variable{X:Cx}{tg:Expr}
theorem TM{l:Expr}{tl:TE}(hl:PE X l tl):PI X tg l (fun σ H R=>iList X.K tl σ H R\/iTup X.K tl σ H R):=by
 intro pins s σ H R I h;rcases h with h | h
 . exact YM hl pins s σ H R I h
 . exact pi_tup hl pins s σ H R I h
end
end L2
namespace FL
open PySem PySem.Spec PyProof.Rows L2
section
variable{X:Cx}
theorem yM{tg e:Expr}{f:FE}(h:PV X e f):PIv X tg e (viaA f asLT):=by
 obtain⟨t,ht,hf⟩:=h;refine⟨_,TM ht,fun H₀ H O σ ds hd items R o e q=>?_⟩;unfold viaA at e;obtain⟨d,h1,e⟩:=bnd e;cases d with
 | lst l =>
   cases e;refine .inl (hf H₀ H O σ ds hd _ _ o h1 fun v H' s r=>?_);obtain⟨a,xs,rfl,hs,rs⟩:=WRep.seqL (.inl r);exact⟨a,rfl,⟨xs,hs⟩,q _ (.ref a,.lst items) H' s r RQ⟩
 | tup l =>
   cases e;refine .inr (hf H₀ H O σ ds hd _ _ o h1 fun v H' s r=>?_);obtain⟨a,xs,rfl,hs,rs⟩:=WRep.seqT (.inl r);exact⟨a,rfl,⟨xs,hs⟩,q _ (.ref a,.tup items) H' s r XD⟩
 |_=>cases e
end
end FL
namespace L2
open PySem PySem.Spec PyProof.Rows
noncomputable def Itr3(lo c:Int)(n:Nat):It:=⟨fun i _=>i<n,fun i H x H'=>H'=H/\x=.int (lo+(i:Int)*c),fun i _=>n<=i⟩
theorem GB{P:Program}{w:World}{K:aH}{tg:Expr}(it:Addr)(lo c:Int)(n:Nat):Turn P w K tg (Itr3 lo c n) [it] it (fun i h=>IsRangeIter h it (lo+(i:Nat)*c) ((n:Int)-(i:Nat)) c) where
 mem:=by simp
 obj:=fun i h st b hb=>by
  have e:b=it:=by simpa using hb
  subst e
  exact⟨_,st,fun v z=>by
   have z':Data.fields _=Data.cell v:=z
   cases z'⟩
 keep:=fun i h h' st k=>k it (by simp) _ st
 item:=by
  intro X hP hw hK hc i pins s σ H E I hf st hg;subst hP hw hK;obtain⟨f0,f1,f2,f3,f4,f5⟩:=hf it (by simp);have W:=Walks.range (prog:=X.prog) (w:=X.w) (I.ok.hd hc) it lo c n;refine W.item i s _ _ hg st fun v h' tk hv st' kk=>?_;obtain⟨t,rfl⟩:=hv;have I1:Inv X pins σ H { s with heap:=h',toks:=tk }:=I.turned (fun b o hb e=>kk b o (by simpa using hb) e) f0 f1 f3 f4 f5;exact⟨_,rfl,HG (s:={ s with heap:=h',toks:=tk }) (n:="range_iterator") st' rfl rfl (by decide) ⟨.int (lo+(i:Int)*c),H,I1,⟨t,rfl⟩,⟨rfl,rfl⟩,st',fun b hb=>(hf b hb).1⟩⟩
 done:=by
  intro X hP hw hK hc i pins s σ H E I hf st hg;subst hP hw hK;obtain⟨f0,f1,f2,f3,f4,f5⟩:=hf it (by simp);exact wpAny_pyNext_range_end (I.ok.hd hc) st (by have:n<=i:=hg;omega) fun h' eb=>⟨rfl,I.turned (t':=s.toks) (fun b o hb e=>eb b o hb e) f0 f1 f3 f4 f5⟩
 self:=fun _ _ _ _ _ st h=>wpAny_pyIter_rangeiter st h
theorem NL{i j c:Int}(hc:0<c):((FL.steps3 i j c:Nat):Int)=Builtin.Range.rangeSize i j c:=by
 unfold FL.steps3 Builtin.Range.rangeSize;rw[if_pos (show c>0 from hc)]
 by_cases h:i<j
 . rw[if_pos h, if_pos h];have:=WX (show 0<=j-i-1 by omega) (IH hc);omega
 . rw[if_neg h,if_neg h];rfl
theorem IZ{i j c:Int}(h:FL.okR3 i j c):Builtin.Range.small i j c=true:=by
 obtain⟨h1,h2,h3,h4,h5,h6⟩:=h;have e61:(2:Int) ^ 61=2305843009213693952:=by decide
 have hs:0<=Builtin.Range.rangeSize i j c/\Builtin.Range.rangeSize i j c<=2 ^ 62:=by
  unfold Builtin.Range.rangeSize;rw[if_pos (show c>0 from h5)];have e62:(2:Int) ^ 62=4611686018427387904:=by decide
  split
  . have h7 := WX (show 0<=j-i-1 by omega) (IH h5);have h8:(j-i-1)/c<=j-i-1:=Int.ediv_le_self _ (by omega);omega
  . omega
 have e62:(2:Int) ^ 62=4611686018427387904:=by decide
 unfold Builtin.Range.small;simp only[Builtin.Range.rangeFitsLong,bD,WL,decide_eq_true_eq,beq_iff_eq,show c>0 from h5,if_true];omega
section
variable{X:Cx}{tg:Expr}
noncomputable def iRng3(ta:TA):TI:=fun σ H R=>ta σ H fun vs H1=>∃i j c:Int,vs=[.int i,.int j,.int c]/\FL.okR3 i j c/\R (Itr3 i c (FL.steps3 i j c)) H1
theorem OA{a b c:Expr}{ta:TA}{p pos:Pos}(hg:Gl X "range")(hm:X.mg "range" = none)(ha:PA X [a,b,c] ta)(hs:starEach [a,b,c] X.env=(false,eval a X.env)::starEach [b,c] X.env:=by rfl)(hs2:(backTo pos (starEach [b,c] X.env)).any (·.1)=false:=by rfl) :
  PI X tg (.Call (.Name "range" p) [a,b,c] [] pos) (iRng3 ta):=by
 intro pins s σ H R I h;refine Call_ (AK I hg hm boot_range (iW (thn (ha pos pins s σ H _ I h) fun us s1 ⟨vs,H1,I1,r1,q1⟩=>?_) hs hs2));obtain⟨i,j,c,e,hk,q⟩:=q1;subst e;cases r1 with
 | cons r rr =>
   cases rr with
   | cons r' rr =>
     cases rr with
     | cons r'' rr =>
       cases rr;obtain⟨t,rfl⟩:=r;obtain⟨t',rfl⟩:=r';obtain⟨t'',rfl⟩:=r'';have hc0:0<c:=hk.2.2.2.2.1;refine call_range_3 (by omega) ?_ (.inl (PyProof.noPylong_small (by have:=hk.2.2.2.2.2;omega)));refine wpAny_pyIter_range (IsRange.new ..) (IZ hk) ?_;have I2:Inv X pins σ H1 { s1 with heap:=s1.heap.push { cls:=.type "range",data:=.fields #[.int i t,.int j t',.int c t''] },toks:=s1.toks }:=I1.kept fun b o e=>aL _ e
       refine⟨(s1.heap.push { cls:=.type "range",data:=.fields #[.int i t,.int j t',.int c t''] }).objs.size,[(s1.heap.push { cls:=.type "range",data:=.fields #[.int i t,.int j t',.int c t''] }).objs.size],_,_,H1,rfl,
        I2.kept (t':=s1.toks) fun b o e=>aL _ e,GB _ i c (FL.steps3 i j c),?_,fun b hb=>?_,q⟩
       . have e1 : i + ((0 : Nat) : Int) * c = i := by simp
         have e2:((FL.steps3 i j c:Nat):Int)-((0:Nat):Int)=Builtin.Range.rangeSize i j c:=by rw[NL hc0];simp
         show IsRangeIter _ _ (i+((0:Nat):Int)*c) (((FL.steps3 i j c:Nat):Int)-((0:Nat):Int)) c;rw[e1,e2];exact bF _ rfl
       . have e : b = (s1.heap.push { cls := .type "range", data := .fields #[.int i t, .int j t', .int c t''] }).objs.size := by simpa using hb
         subst e;exact I2.fpOk (aQ _) (I2.hok.fresh (aQ _))
end
end L2
namespace FL
open PySem PySem.Spec PyProof.Rows L2
section
variable{X:Cx}
theorem IU{K:Frag}{lo c:Int}{n:Nat}: Wlk K (Itr3 lo c n) (.non,.non) (kM lo c n):=by
 intro H O _ r;have hl:(kM lo c n).length=n:=by simp[kM]
 refine⟨fun i d hd=>?_,show n<=_ by rw[hl];exact aQ _⟩
 have hi:i<n:=by
  have:=(bK.mp hd).1
  rwa [hl] at this
 refine⟨hi,fun x H' y=>?_⟩;obtain⟨rfl,rfl⟩:=y
 have:d=D.int (lo+(i:Int)*c):=by
  simp only[kM,bV,KQ hi,aV] at hd;exact(Option.some.inj hd).symm
 subst this;exact⟨Same.refl _,.int _⟩
theorem JF{tg a b c:Expr}{p pos:Pos}{fa fb fc:FE}(hm:X.mg "range" = none)(ha:PVw X a fa)(hb:PVw X b fb)(hc:PVw X c fc)(hg:Gl X "range":=by rfl)
  (hs:starEach [a,b,c] X.env=(false,eval a X.env)::starEach [b,c] X.env:=by rfl) (hs2:starEach [b,c] X.env=(false,eval b X.env)::starEach [c] X.env:=by rfl) (hs3:starEach [c] X.env=(false,eval c X.env)::starEach [] X.env:=by rfl) (hp:(backTo pos (starEach [b,c] X.env)).any (·.1)=false:=by rfl) :
  PIv X tg (.Call (.Name "range" p) [a,b,c] [] pos) (rng3 fa fb fc):=by
 obtain⟨t,ht,hf⟩:=zQ ha (zQ hb (zQ hc qE hs3) hs2) hs;refine⟨_,OA hg hm ht hs hp,fun H₀ H O σ ds hd items R o e q=>?_⟩;unfold rng3 at e;cases h1:fa ds with
 |none=>rw[h1] at e;cases e
 | some dx =>
   cases h2:fb ds with
   |none=>rw[h1,h2] at e;cases e
   | some dy =>
     cases h3:fc ds with
     |none=>rw[h1,h2,h3] at e;cases e
     | some dz =>
       rw[h1,h2,h3] at e;simp only[aC] at e;cases dx<;>first | (cases e;done) | skip
       cases dy<;>first | (cases e;done) | skip
       cases dz<;>first | (cases e;done) | skip
       simp only at e
       split at e
       . rename_i i j c hk;cases e;refine hf H₀ H O σ ds hd [.int i,.int j,.int c] _ o (by simp [zF,h1,h2,h3,zR]) fun vs H' s r=>?_;cases r with
         | cons r1 rr =>
           cases rr with
           | cons r2 rr =>
             cases rr with
             | cons r3 rr =>
               cases rr;exact⟨i,j,c,by rw[r1.int',r2.int',r3.int'],hk,q _ (.non,.non) H' s .non IU⟩
       . cases e
theorem LJ{p pos:Pos}{e:Expr}{g:FA}(hm:X.mg "int" = none)(ha:PAv X [e] g)(hg:Gl X "int":=by rfl)(he:starEach [e] X.env=[(false,eval e X.env)]:=by rfl):PV X (.Call (.Name "int" p) [e] [] pos) (callB int1D g):=by
 obtain⟨t,ht,hf⟩:=ha;refine⟨_,rL DG hg hm (by decide +kernel) ht (by decide) (by decide) he rfl,fun H₀ H O σ ds hd d Q o e q=>?_⟩;unfold callB at e;obtain⟨l,h,e⟩:=bnd e;refine hf H₀ H O σ ds hd l _ o h fun vs H1 s1 r1=>?_
 match l,r1,e with
 | [.int i], .cons r .nil, e =>
   cases e;exact .inl ⟨i,by rw[r.int'],q _ H1 s1 (.int _)⟩
 | [.bl b], .cons r .nil, e =>
   cases e;exact .inr ⟨b,by rw[r.bl'],q _ H1 s1 (.int _)⟩
end
end FL
namespace L2
open PySem PySem.Spec PyProof.Rows
section
variable{X:Cx}{pins:List (Addr×Obj)}{σ : St}{H:Hp}{s:Shared}{h':Heap}
end
section
variable{X:Cx}
end
end L2
namespace FL
open PySem PySem.Spec PyProof.Rows L2
section
variable{X:Cx}
section
variable{scope:Scope}{NY:List Str}{mp:List (Option Nat)}{tg iter elt:Expr}{ifs:List Expr}{pos:Pos}{fi:FA}{ga:D->List Sl->Option (List Sl)}{tt:FT}{fe:FE}
end
end
end FL
namespace L2
open PySem PySem.Spec PyProof.Rows
section
variable{X:Cx}
end
end L2
namespace FL
open PySem PySem.Spec PyProof.Rows L2
section
variable{X:Cx}
end
section
variable{X:Cx}
end
section
variable{X:Cx}
theorem Reps.rep{K:Frag}{H:Hp}{O:Addr->Prop}{xs:List V}{l:List D}(h:Reps K H O xs l):∀k:Nat,Reps K H O (List.replicate k xs).flatten (List.replicate k l).flatten
 |0=>by simpa using .nil
 | k + 1 => by
   rw[eV,gG,eV,gG];exact h.append (Reps.rep h k)
theorem SS{a b:Expr}{fa:FA}{fb:FE}{pos:Pos}(ha:PVf X a fa)(hb:PVw X b fb):PVf X (.BinOp a .Mult b pos) (repF fa fb):=by
 obtain⟨ta,pa,ha⟩:=ha;obtain⟨tb,pb,hb⟩:=hb;refine⟨_,TW op_rep pa pb,fun H₀ H O σ ds hd l Q o e q=>?_⟩;unfold repF at e;obtain⟨l0,h1,e⟩:=bnd e;obtain⟨dy,h2,e⟩:=bnd e;cases dy<;>first | (cases e;done) | skip
 rename_i k;simp only at e
 split at e
 . rename_i hk;cases e;refine ha H₀ H O σ ds hd l0 _ o h1 fun a1 xs H1 s1 n1 e1 r1=>?_;refine hb H₀ H1 O σ ds hd _ _ (o.mono s1) h2 fun v H2 s2 r2=>?_;have r2':=r2.int';subst r2';refine ⟨a1,k,xs,rfl,rfl,s2 _ _ e1,?_,?_,?_,fun p hp=>?_⟩
   . have : (2 : Int) ^ 63 = 9223372036854775808 := by decide
     omega
   . have : (2 : Int) ^ 63 = 9223372036854775808 := by decide
     omega
   . rw[r1.length];exact hk.2.2
   . have ss := s1.trans s2;refine q p _ _ (ss.trans (jA hp _)) (ss.free hp) cF ?_;have r3:Reps X.K H2 O xs l0:=(r1.less fun _ z=>.inr z).mono s2;exact((r3.rep k.toNat).more hp).mono (jA hp _)
 . cases e
end
end FL
namespace L2
open PySem PySem.Spec PyProof.Rows
section
variable{X:Cx}
end
end L2
namespace FL
open PySem PySem.Spec PyProof.Rows L2
section
variable{X:Cx}
end
end FL
namespace L2
open PySem PySem.Spec PyProof.Rows
section
variable{X:Cx}
noncomputable def SD(X:Cx)(m:Str)(k:Nat)(ta:TE)(t:TA):TE:=fun σ H Q=>ta σ H fun x H1=>∃(a C dx:Addr) (fs:List (Str×V)) (f:Addr) (fd:FuncData) (ps:List Str) (sp:Sp),x=.ref a/\H1 a=some (.ins C dx fs)/\fs.lookup m=none ∧
 Cls X.K C/\Meth X.K C m f/\FnOk X.prog X.w X.K X.mg X.base CX0 k f fd ps sp/\Binds X.K fd ps []/\t σ H1 fun vs H2=>sp (x::vs) H2 Q E0
theorem OC{k:Nat}{m:Str}{o:Expr}{apos pos:Pos}{ta:TE}{pl:Sem Bool}(he:PE X o ta)(hr:Room k X.A)
  (ht:eval (.Call (.Attribute o m apos) [] [] pos) X.env=(do
    let ov <- eval o X.env
    standAt apos.atName
    let (f,first) <- holding [ov] (getMethod ov m pl)
    callWith pos f first (backTo pos (starEach [] X.env)) (backToKw pos (keywordEach [] X.env))):=by rfl) :
  PE X (.Call (.Attribute o m apos) [] [] pos) (SD X m k ta tNil):=by
 intro pins s σ H Q I h;refine PySem.W.methodCall_KW (pl:=pl) (thn (he pins s σ H _ I h) fun u s1 ⟨x,H1,I1,rx,a,C,dx,fs,f,fd,ps,sp,ex,ea,l,c,hm,F,hb,q⟩=>?_) ht;subst ex;obtain rfl:u=Value.ref a:=rx;refine JY I1 ea c hm l ?_;exact FU (first:=[.ref a]) I1.kIn hm.kp (SM (us:=[.ref a]) (vs:=[.ref a]) F hr hb .nil pass0 I1 (.cons rfl .nil) q)
end
end L2
namespace FL
open PySem PySem.Spec PyProof.Rows L2
section
variable{X:Cx}
theorem PVd.v{e:Expr}{f:FE}(h:PVd X e f):PV X e f:=by
 obtain⟨t,ht,hf⟩:=h;exact⟨t,ht,fun H₀ H O σ ds hd d Q o e q=>hf H₀ H O σ ds hd d Q o e fun v H' s r=>q v H' s (r.less fun a z=>o.old z)⟩
noncomputable def FldOk(K:Frag)(f:Str)(ix:List (Nat×Nat)):Prop:=∀t i,ix.lookup t=some i->(eK t)[i]?=some f/\(∀j,j<i->(eK t)[j]?≠some f)/\∀C,aJ K mainGlobals (gD t)=some (some (.ref C))->Cls K C/\gU K C f
theorem PU{K:Frag}{f:Str}: FldOk K f []:=fun t i h=>by simp at h
theorem AV{K:Frag}{f:Str}{t i:Nat}{C:Addr}{ix:List (Nat×Nat)}(a:aJ K mainGlobals (gD t)=some (some (.ref C)))(c:Cls K C)(n:gU K C f)(h1:(eK t)[i]?=some f)(h2:∀j,j<i->(eK t)[j]?≠some f)
  (h:FldOk K f ix):FldOk K f ((t,i)::ix):=by
 intro t' i' e
 by_cases q:t'=t
 . subst q;simp at e;subst e;refine⟨h1,h2,fun C' e'=>?_⟩;rw[a] at e';cases e';exact⟨c,n⟩
 . have : (t' == t) = false := by simpa using q
   rw[bT,this] at e;exact h t' i' e
theorem AJ{f:Str}:∀{kvs:List (Str×V)} {i:Nat} {v:V},(kvs.map (·.1))[i]?=some f->(∀j,j<i->(kvs.map (·.1))[j]?≠some f)->(kvs.map (·.2))[i]?=some v->kvs.lookup f=some v
 |[],_,_,h,_,_=>by simp at h
 | (g, x) :: r, 0, v, h1, _, h3 => by
   simp at h1 h3;subst h1 h3;simp[List.lookup]
 | (g, x) :: r, i + 1, v, h1, h2, h3 => by
   have hg:g≠f:=fun z=>h2 0 (by omega) (by simp[z]);have:(f==g)=false:=by simpa using fun z=>hg z.symm
   rw[bT,this];exact AJ (i:=i) (by simpa using h1) (fun j hj=>by have:=h2 (j+1) (by omega);simpa using this) (by simpa using h3)
theorem EE{e:Expr}{f:Str}{pos:Pos}{fe:FE}{ix:List (Nat×Nat)}(hF:FldOk X.K f ix)(he:PV X e fe)(hb:attributeBase e f X.env (eval e X.env)=eval e X.env:=by rfl):PV X (.Attribute e f pos) (fldG ix fe):=by
 obtain⟨t,ht,hf⟩:=he;refine⟨_,pe_fld ht hb,fun H₀ H O σ ds hd d Q o e q=>?_⟩;unfold fldG at e;obtain⟨x,h,e⟩:=bnd e;refine hf H₀ H O σ ds hd x _ o h fun v H1 s1 r1=>?_;cases x with
 | ins t es =>
   simp only[fldD] at e;obtain⟨i,hl,e⟩:=bnd e;obtain⟨h1,h2,h3⟩:=hF t i hl;cases r1 with
   | @ins a C dx _ kvs _ c n ha ek rr =>
     obtain⟨cl,na⟩:=h3 C c;obtain⟨w,hw,rw'⟩:=rr.get e;refine⟨a,C,dx,kvs,w,rfl,ha,cl,na,AJ (i:=i) (by rw[ek];exact h1) (by rw[ek];exact h2) hw,?_⟩;exact q w H1 s1 rw'
 |_=>simp[fldD] at e
structure MCal(P:Program)(w:World)(K:Frag)(mg:Str->Option Value)(base:Heap)(m:Str)(k n:Nat)(cs:List Nat)(F:Nat->List D->Option Ret):Prop where
 no:∀t∈cs,m∉eK t
 of:∀t∈cs,∀C,aJ K mainGlobals (gD t)=some (some (.ref C))->∃(f:Addr) (fd:FuncData) (ps:List Str),Cls K C/\Meth K C m f/\FnOk P w K mg base CX0 k f fd ps (spF K (n+1) (F t))/\Binds K fd ps []
theorem HB{P:Program}{w:World}{K:Frag}{mg:Str->Option Value}{base:Heap}{m:Str}{k n:Nat}{F:Nat->List D->Option Ret}: MCal P w K mg base m k n [] F:=⟨fun _ h=>(nomatch h),fun _ h=>(nomatch h)⟩
theorem yW{P:Program}{w:World}{K:Frag}{mg:Str->Option Value}{base:Heap}{m:Str}{j k n t:Nat}{cs:List Nat}{F:Nat->List D->Option Ret}{C f:Addr}{fd:FuncData}{ps:List Str}(a:aJ K mainGlobals (gD t)=some (some (.ref C)))
  (c:Cls K C) (hm:Meth K C m f) (G:FnOk P w K mg base CX0 j f fd ps (spF K (n+1) (F t))) (hj:j<=k) (b:Binds K fd ps []) (hn:m∉eK t) (h:MCal P w K mg base m k n cs F):MCal P w K mg base m k n (t::cs) F:=by
 refine⟨fun t' ht=>(aF.mp ht).elim (fun e=>e▸hn) (h.no t'),fun t' ht C' e=>?_⟩;rcases aF.mp ht with rfl | ht
 . rw[a] at e;cases e;exact⟨f,fd,ps,c,hm,G.mono hj,b⟩
 . exact h.of t' ht C' e
theorem nJ{m:Str}:∀{kvs:List (Str×V)},m∉kvs.map (·.1)->kvs.lookup m=none
 |[],_=>rfl
 | (g, x) :: r, h => by
   have hg:(m==g)=false:=by simpa using fun z=>h (by simp[z])
   rw[bT,hg];exact nJ fun z=>h (by simp at z ⊢;exact .inr z)
theorem UR{m:Str}{k n:Nat}{cs:List Nat}{F:Nat->List D->Option Ret}(M:MCal X.prog X.w X.K X.mg X.base m k n cs F){ta:TE}{t:TA}{fo:FE}{g:FA}
  (hfo:∀H₀ H O σ ds hd d Q,Ok X.K H₀ H O σ ds hd->fo ds=some d->(∀v H',Same H H'->Rep X.K H' O v d->Q v H')->ta σ H Q)
  (hfg:∀H₀ H O σ ds hd l Q,Ok X.K H₀ H O σ ds hd->g ds=some l->(∀vs H',Same H H'->Reps X.K H' yE vs l->Q vs H')->t σ H Q)
  {H₀ H:Hp} {O:Addr->Prop} {σ : L2.St} {ds:List Sl} {hd:Hold} {x:D} {l:List D} {r:Ret} {Q:VK} (o:Ok X.K H₀ H O σ ds hd) (h1:fo ds=some x) (h2:g ds=some l) (h3:methR n cs F x l=some r)
  (q:∀v H1 H',Same H H1->Same H1 H'->RetOk X.K H1 H' v r->Q v H'):SD X m k ta t σ H Q:=by
 refine hfo H₀ H O σ ds hd x _ o h1 fun v H1 s1 r1=>?_;cases x with
 | ins c es =>
   simp only[methR] at h3
   split at h3
   . rename_i hc;cases r1 with
     | @ins a C dx _ kvs _ cc nn ha ek rr =>
       obtain⟨f,fd,ps,cl,hm,Fn,hb⟩:=M.of c hc.1 C cc;refine⟨a,C,dx,kvs,f,fd,ps,_,rfl,ha,nJ (by rw[ek];exact M.no c hc.1),cl,hm,Fn,hb,?_⟩;refine hfg H₀ H1 O σ ds hd l _ (o.mono s1) h2 fun vs H2 s2 r2=>?_;have hl:=r2.length;have r1':Rep X.K H2 yE (.ref a) (.ins c es):=(Rep.ins cc (fun z=>z.elim) (s2 _ _ ha) ek ((rr.mono s2).less fun _ z=>z.elim))
       exact⟨by simp only[aG];omega,_,r,.cons r1' r2,h3,fun v H' s' ro=>q v H2 H' (s1.trans s2) s' ro⟩
   . cases h3
 |_=>simp[methR] at h3
section
variable{m:Str}{k j n:Nat}{cs:List Nat}{F:Nat->List D->Option Ret}{o e:Expr}{es:List Expr}{apos pos:Pos}{fo:FE}{g:FA}
end
end
noncomputable def eH:Hp:=fun _=>none
noncomputable def Keepx(x:Addr)(H H':Hp):Prop:=∀b o,b≠x->H b=some o->H' b=some o
theorem Keepx.trans{x:Addr}{H H1 H2:Hp}(a:Keepx x H H1)(b:Keepx x H1 H2):Keepx x H H2:=fun c o n e=>b c o n (a c o n e)
theorem Keepx.of_same{x:Addr}{H H1:Hp}(s:Same H H1):Keepx x H H1:=fun c o _ e=>s c o e
section
variable{K:Frag}{H H':Hp}{O:Addr->Prop}{x:Addr}
theorem Keepx.rd{a C dx:Addr}{kvs:List (Str×V)}{xs:List V}(k:Keepx x H H')(hx:H x=some (.ins C dx kvs))(h:Rd H a (.tup xs)):Rd H' a (.tup xs):=by
 rcases h with h | ⟨o,h⟩
 . exact .inl (k _ _ (fun z=>by rw[z,hx] at h;cases h) h)
 . exact .inr ⟨o,k _ _ (fun z=>by rw[z,hx] at h;cases h) h⟩
mutual
theorem Rep.flatKeep{C dx:Addr}{kvs:List (Str×V)}(k:Keepx x H H')(hx:H x=some (.ins C dx kvs)):∀{v:V} {d:D},flat d=true->Rep K H O v d->Rep K H' O v d
 |_,_,_,.non=>.non
 |_,_,_,.bl b=>.bl b
 |_,_,_,.int i=>.int i
 |_,_,_,.str y=>.str y
 |_,_,f,.tup n h r=>.tup n (k.rd hx h) (Reps.flatKeep k hx (by simpa[flat] using f) r)
 |_,_,f,.tupK h r=>.tupK h (Reps.flatKeep k hx (by simpa[flat] using f) r)
 |_,_,f,.lst _ _ _=>by simp[flat] at f
 |_,_,f,.lstK _ _=>by simp[flat] at f
 |_,_,f,.dct _ _ _ _=>by simp[flat] at f
 |_,_,f,.dcf _ _ _ _=>by simp[flat] at f
 |_,_,f,.ins _ _ _ _ _=>by simp[flat] at f
 |_,_,f,.clo _ _ _ _ _ _=>by simp[flat] at f
 |_,_,f,.fnK _=>by simp[flat] at f
theorem Reps.flatKeep{C dx:Addr}{kvs:List (Str×V)}(k:Keepx x H H')(hx:H x=some (.ins C dx kvs)):∀{vs:List V} {ds:List D},flats ds=true->Reps K H O vs ds->Reps K H' O vs ds
 |_,_,_,.nil=>.nil
 | _, _, f, .cons h t => by
   simp only[flats,bD] at f;exact .cons (Rep.flatKeep k hx f.1 h) (Reps.flatKeep k hx f.2 t)
end
end
noncomputable def FlatS(ds:List Sl):Prop:=∀i:Nat,ds[i]?=none\/ds[i]?=some Sl.no\/∃d,ds[i]?=some (Sl.v d)/\flat d=true
noncomputable def nH(kvs:List (Str×V))(l:List (Str×V)):List (Str×V):=l.foldl (fun k p=>putF p.1 p.2 k) kvs
theorem GN{f:Str}{v:V}:∀{kvs:List (Str×V)},f∉kvs.map (·.1)->putF f v kvs=kvs++[(f,v)]
 |[],_=>rfl
 | (g, x) :: r, h => by
   have hg : ¬g=f:=fun z=>h (by simp[z]);rw[show putF f v ((g,x)::r)=(if g=f then (g,v)::r else (g,x)::putF f v r) from rfl,if_neg hg,GN fun z=>h (by simp at z ⊢;exact .inr z)];rfl
theorem uZ:∀{l kvs:List (Str×V)},(kvs.map (·.1)++l.map (·.1)).Nodup->nH kvs l=kvs++l
 |[],kvs,_=>by simp[nH]
 | p :: r, kvs, h => by
   have hp:p.1∉kvs.map (·.1):=fun z=>by
    rw[List.nodup_append] at h;exact h.2.2 _ z _ (by simp) rfl
   have:nH kvs (p::r)=nH (putF p.1 p.2 kvs) r:=rfl;rw[this,GN hp,uZ (by simpa[gH] using h)];simp
noncomputable def spN(K:Frag)(n:Nat)(ns:List Str)(G:List D->Option (List D)):Sp:=fun vs H Q _=>∃(x C dx:Addr) (kvs:List (Str×V)) (vs':List V) (ds new:List D),vs=.ref x::vs'/\vs'.length=n/\H x=some (.ins C dx kvs)/\Cls K C ∧
 Reps K H yE vs' ds/\flats ds=true/\G ds=some new/\(∀f∈ns,gU K C f)/\kvs.length+ns.length<1000 ∧
 ∀ws H',Keepx x H H'->H' x=some (.ins C dx (nH kvs (ns.zip ws)))->Reps K H' yE ws new->new.length=ns.length->flats new=true->Q .non H'
section
variable{X:Cx}
variable(X) in
noncomputable def PIs(st:List Stmt)(ns:List Str)(g:FN):Prop:=∃t,PSs X st t/\∀H σ ds x C dx kvs new E,Ok X.K eH H yE σ ds []->FlatS ds->σ[0]?=some (some (.ref x))->H x=some (.ins C dx kvs)->Cls X.K C->g ds=some new->flats new=true →
 (∀f∈ns,gU X.K C f)->kvs.length+ns.length<1000->(∀ws H',Keepx x H H'->H' x=some (.ins C dx (nH kvs (ns.zip ws)))->Reps X.K H' yE ws new->new.length=ns.length->E.nx σ H')->t E σ H
variable(X) in
noncomputable def PI1(st:Stmt)(ns:List Str)(g:FN):Prop:=∃t,PS X st t/\∀H σ ds x C dx kvs new E,Ok X.K eH H yE σ ds []->FlatS ds->σ[0]?=some (some (.ref x))->H x=some (.ins C dx kvs)->Cls X.K C->g ds=some new->flats new=true →
 (∀f∈ns,gU X.K C f)->kvs.length+ns.length<1000->(∀ws H',Keepx x H H'->H' x=some (.ins C dx (nH kvs (ns.zip ws)))->Reps X.K H' yE ws new->new.length=ns.length->E.nx σ H')->t E σ H
theorem LS{st:Stmt}{ns:List Str}{g:FN}(h:PI1 X st ns g):PIs X [st] ns g:=by
 obtain⟨t,ht,hf⟩:=h;exact⟨_,LP ht,hf⟩
theorem TN{y f:Str}{e:Expr}{p pos pos':Pos}{fe:FE}(he:PV X e fe)(hN:X.N[0]?=some y:=by rfl)(hv:Vis X.env.scope y:=by first | exact Or.inl rfl | exact Or.inr (Or.inl rfl) | exact Or.inr (Or.inr rfl))(hd:(y==("__debug__" : Str))=false:=by decide)
  (hcd:(y==("__classdict__" : Str))=false:=by decide) (hs:swapsWith e (some (.Attribute (.Name y p) f pos')) pos.line X.env=pure false:=by rfl):PI1 X (.Assign [.Attribute (.Name y p) f pos'] e pos) [f] (fldN fe):=by
 obtain⟨t,ht,hf⟩:=he;refine⟨_,ps_fld (wQ hN hv hd hcd) ht hs,fun H σ ds x C dx kvs new E o fl h0 hx cl e hfl hn hk q=>?_⟩;unfold fldN at e;obtain⟨d,e1,e⟩:=bnd e
 split at e
 . rename_i hd1;cases e;simp only [aG,hX] at hk;refine hf eH H yE σ ds [] d _ o e1 fun v H1 s1 r1=>?_;refine ⟨.ref x,h0,x,C,dx,kvs,rfl,s1 _ _ hx,cl,hn f (by simp),by omega,?_⟩;have k2:Keepx x H1 (upd H1 x (.ins C dx (putF f v kvs))):=fun b u hb e=>by rw [zX hb]; exact e
   exact q [v] _ ((Keepx.of_same s1).trans k2) cF (.cons (r1.flatKeep k2 (s1 _ _ hx) hd1) .nil) rfl
 . cases e
end
theorem DF:∀{ds:List D} {i:Nat} {d:D},flats ds=true->ds[i]?=some d->flat d=true
 |[],_,_,_,e=>by simp at e
 | c :: r, 0, d, h, e => by
   simp only[flats,bD] at h;simp at e;subst e;exact h.1
 | c :: r, i + 1, d, h, e => by
   simp only[flats,bD] at h;exact DF h.2 (by simpa using e)
theorem xU{n:Nat}{ds:List D}{i:Nat}{s:Sl}(e:(argsN n ds)[i]?=some s):s=.no\/∃j d,i=j+1/\ds[j]?=some d/\s=.v d:=by
 unfold argsN at e;cases i with
 |zero=>simp at e;exact .inl e.symm
 | succ j =>
   rw[aY] at e
   by_cases hj:j<ds.length
   . rw [cQ (by simpa using hj), bV] at e;cases h:ds[j]? with
     |none=>rw[h] at e;cases e
     |some d=>rw[h] at e;cases e;exact .inr ⟨j,d,rfl,h,rfl⟩
   . rw [dP (by simpa using hj), fP] at e
     split at e
     . cases e;exact .inl rfl
     . cases e
theorem MN{P:Program}{w:World}{K:Frag}{mg:Str->Option Value}{base:Heap}{x qual:Str}{st:Stmt}{f:Addr}{fd:FuncData}{N ps:List Str}{k n m:Nat}{ns:List Str}{g:FN}(Fn:Fun K x qual st f fd)(S:FnScope N ps (zH st))
  (hbody:∀(cdv:Value) (A:Around) (outer:List Env) (s:Shared) (H:Hp) (E:XK),Room k (A.deeper (envOfC qual (zH st) s.heap.objs.size f cdv))->PIs (cxOf CX0 P w K mg base N qual (zH st) f cdv A outer s H E).nox (qS st) ns g)
  (hn:ps.length=n+1) (hN:n+1<=m) (hm:N.length=m):FnOk P w K mg base CX0 (k+1) f fd ps (spN K n ns (runN g m)):=by
 subst hm;refine Fn.ok S (fun vs H Q E h=>?_) (fun cdv A outer s H vs Q E hr h=>?_)
 . obtain⟨x, C, dx, kvs, vs', ds, new, rfl, hl, _⟩ := h;simp[hl,hn]
 . obtain ⟨x, C, dx, kvs, vs', ds, new, rfl, hl, hx, cl, rv, hfl, e, hna, hk, q⟩ := h;obtain ⟨t,ht,hf⟩:=hbody cdv A outer s H E hr;refine ⟨t,ht,?_⟩;have hld:ds.length=n:=by rw [<- rv.length]; exact hl
   unfold runN at e;cases e1:g (argsN N.length ds) with
   |none=>rw[e1] at e;cases e
   | some new' =>
     rw[e1] at e;simp only[aC] at e
     split at e
     . rename_i hfn;cases e
       have o:Ok K eH H yE (L2.start N (.ref x::vs')) (argsN N.length ds) []:=by
        refine⟨(fun b u e=>by cases e),(fun i l a hi _=>by rcases xU hi with h | ⟨j,d,_,_,h⟩<;>cases h),fun _ z=>z.elim,by simp[L2.start,argsN,hl,hld],fun i s e=>?_,fun i j a _ ⟨l,hi⟩ _ _ _=>?_,(fun p hp=>by cases hp),.no fun i r t e=>by rcases xU e with h | ⟨j,d,_,_,h⟩<;>cases h⟩
        . rcases xU e with rfl | ⟨j, d, rfl, hj, rfl⟩
          . exact yS
          . obtain ⟨v, h1, h2⟩ := rv.get hj;have hjl:j < vs'.length:=(bK.mp h1).1
            have:(L2.start N (.ref x::vs'))[j+1]?=some (some v):=by
             unfold L2.start;rw[cQ (by simpa using hjl)];simp[h1]
            rw[this];exact vN h2
        . rcases xU hi with h | ⟨j,d,_,_,h⟩<;>cases h
       have fl:FlatS (argsN N.length ds):=fun i=>by
        cases e:(argsN N.length ds)[i]? with
        |none=>exact .inl rfl
        | some s =>
          rcases xU e with rfl | ⟨j,d,rfl,hj,rfl⟩
          . exact .inr (.inl rfl)
          . exact .inr (.inr ⟨d,rfl,DF hfl hj⟩)
       exact hf H _ _ x C dx kvs new _ o fl (by simp[L2.start]) hx cl e1 hfn hna hk fun ws H' k' x' r' l'=>q ws H' k' x' r' l' hfn
     . cases e
structure MkC(P:Program)(w:World)(K:Frag)(mg:Str->Option Value)(base:Heap)(t k n:Nat)(G:List D->Option (List D)):Prop where
 ex:∃(C f:Addr) (fd:FuncData) (ps:List Str),aJ K mainGlobals (gD t)=some (some (.ref C))/\mg (gD t)=some (.ref C)/\Mk K C f/\Cls K C/\FnOk P w K mg base CX0 k f fd ps (spN K n (eK t) G)/\Binds K fd ps []/\(∀f∈eK t,gU K C f)
section
variable{X:Cx}{t k j n:Nat}{G:List D->Option (List D)}{x:Str}{p pos:Pos}{e:Expr}{es:List Expr}{g:FA}
theorem UT{C:Addr}{ta:TA}{l:List D}{new:List D}{H₀ H:Hp}{O:Addr->Prop}{σ : L2.St}{ds:List Sl}{hd:Hold}{Q:VK}(hc:aJ X.K mainGlobals (gD t)=some (some (.ref C)))(hcl:Cls X.K C)(hna:∀f∈eK t,gU X.K C f)(hnd:(eK t).Nodup)(hln:(eK t).length<900)
  (hfa:∀H₀ H O σ ds hd l Q,Ok X.K H₀ H O σ ds hd->g ds=some l->(∀vs H',Same H H'->Reps X.K H' yE vs l->Q vs H')->ta σ H Q) (o:Ok X.K H₀ H O σ ds hd) (h1:g ds=some l) (hl:l.length=n/\flats l=true) (h2:G l=some new)
  (q:∀v H',Same H H'->Rep X.K H' (Old H) v (.ins t new)->Q v H'):tMake C (spN X.K n (eK t) G) [] E0 ta σ H Q:=by
 refine hfa H₀ H O σ ds hd l _ o h1 fun vs H1 s1 r1=>?_;intro x dx nx ndx nex
 have s2:Same H1 (upd (upd H1 dx (.own x)) x (.ins C dx [])):=fun b o e=>by
  rw[zX (yD e nx),zX (yD e ndx)];exact e
 refine⟨x,C,dx,[],vs,l,new,by simp,by rw[r1.length];exact hl.1,cF,hcl,r1.mono s2,hl.2,h2,hna,by simp;omega,fun ws H' k' x' r' l' f'=>⟨rfl,?_⟩⟩;have s3:Same H1 H':=fun b o e=>k' b o (yD e nx) (s2 b o e);have hlw:(eK t).length=ws.length:=by rw[r'.length];exact l'.symm
 have ek:nH [] ((eK t).zip ws)=(eK t).zip ws:=by
  rw[uZ (by simpa[RJ (lM hlw)] using hnd)];simp
 rw[ek] at x';have nx0:H x=none:=s1.free nx;refine q (.ref x) H' (s1.trans s3) (.ins hc (MA nx0) x' (RJ (lM hlw)) ?_);rw[List.map_snd_zip (lM hlw.symm)];exact Reps.flatten (fun a z=>Old.mono (s1.trans s3) z) f' r'
theorem xF(M:MkC X.prog X.w X.K X.mg X.base t k n G)(hr:Room j X.A)(ha:PAn X (e::es) g)(hj:k+1<=j:=by decide)(hx:gD t=x:=by rfl)(hnd:(eK t).Nodup:=by decide +kernel)(hln:(eK t).length<900:=by decide)
  (hg:Gl X x:=by rfl) (hdb:(x==("__debug__" : Str))=false:=by decide) (he:starEach (e::es) X.env=(false,eval e X.env)::starEach es X.env:=by rfl) (hpl:(backTo pos (starEach es X.env)).any (·.1)=false:=by rfl) :
  PVd X (.Call (.Name x p) (e::es) [] pos) (makeG t n G g):=by
 obtain⟨C,f,fd,ps,hc,hm,mk,cl,Fn,hb,hna⟩:=M.ex;obtain⟨ta,pa,hfa⟩:=ha;subst hx;refine⟨_,LT (CX:=CX0) (E:=E0) mk Fn (hr.mono hj) hg hm hb .nil pass0 pa hdb he hpl,fun H₀ H O σ ds hd d Q o e q=>?_⟩;unfold makeG at e;obtain⟨l,h1,e⟩:=bnd e
 split at e
 . rename_i hl;obtain⟨new,h2,rfl⟩:=mpd e;exact UT hc cl hna hnd hln hfa o h1 hl h2 q
 . cases e
end
theorem vS{K:Frag}(C:Addr):dZ K (.ref C) (.ref C)=some true:=by unfold dZ;rw[if_pos (by simp)]
theorem xT{K:Frag}{C C':Addr}(u:fU K C=true)(y:fJ K (.ref C)=some (.type "type"))(s:bX K (.ref C') (.ref C)=some false)(n:(Value.ref C'==Value.ref C)=false):dZ K (.ref C') (.ref C)=some false:=by
 unfold dZ;rw[n,if_neg (by decide)];unfold mV;simp only;rw[show(nP K C).isSome=true from u,y,if_pos (by simp),s]
section
variable{X:Cx}
end
section
variable{X:Cx}
theorem vT{x:Str}{i:Int}{pos:Pos}(hm:∃t,X.mg x=some (.int i t))(hg:Gl X x:=by rfl)(hd:(x==("__debug__" : Str))=false:=by decide):PV X (.Name x pos) (zA (.int i)):=
 let ⟨t,h⟩:=hm
 LL (v:=.int i) hg h ⟨t,rfl⟩ (fun _ _=>.int i) hd
theorem SV{x:Str}{i:Str}{pos:Pos}(hm:∃t,X.mg x=some (.str i t))(hg:Gl X x:=by rfl)(hd:(x==("__debug__" : Str))=false:=by decide):PV X (.Name x pos) (zA (.str i)):=
 let ⟨t,h⟩:=hm
 LL (v:=.str i) hg h ⟨t,rfl⟩ (fun _ _=>.str i) hd
end
inductive NoAll(K:Frag)(C:Addr):List Str->Prop
 |nil:NoAll K C []
 |cons {f:Str} {l:List Str} (h:gU K C f) (t:NoAll K C l):NoAll K C (f::l)
theorem CQ{K:Frag}{C:Addr}: NoAll K C []:=.nil
theorem AH{K:Frag}{C:Addr}{f:Str}{l:List Str}(h:gU K C f)(t:NoAll K C l):NoAll K C (f::l):=.cons h t
theorem kC{K:Frag}{C:Addr}:∀{l:List Str},NoAll K C l->∀f∈l,gU K C f
 |_,.nil,f,h=>(nomatch h)
 |_,.cons q t,f,h=>(aF.mp h).elim (fun e=>e▸q) (kC t f)
section
variable{X:Cx}
end
section
variable{X:Cx}{k j n:Nat}{F:List D->Option Ret}{x:Str}{p pos:Pos}{e:Expr}{es:List Expr}{g:FA}
end
end FL
namespace PySem
open Sem (wp)
section
variable{prog:Program}{w:World}{A:Around}{R:Result->Shared->Prop}{I:Addr}{fp wr:List Addr}{n:Nat}{P:Nat->Value->Prop}{St:Nat->Heap->Prop}{kw:List (Str×Value)}
end
section
variable{prog:Program}{w:World}{A:Around}{E:Value->Shared->Prop}{s:Shared}
end
end PySem
namespace FL
open PySem PySem.Spec PyProof.Rows L2
section
variable{X:Cx}
end
open PySem.Calls PySem.Builtin PySem.Builtin.ObjectAttr PySem.Builtin.Getset_descriptor
open PySem.W (Looks looks_findIn looks_mroIn findIn mroIn specialIn takesIn KitX)
structure XIn(K:Frag)(C:Addr):Prop where
 ga:findIn K (.ref C) "__getattribute__" = some (some (.builtin "BaseException.__getattribute__"))
 gt:findIn K (.ref C) "__getattr__" = some none
 cl:findIn K (.ref C) "__class__" = some (some (.builtin "object.__class__"))
 ob:mroIn K C (.type "object")=some true
 be:mroIn K C (.type "BaseException")=some true
section
variable{prog:Program}{w:World}{A:Around}{E:Value->Shared->Prop}{h:Heap}{g:Array GenState}{d:Drawn}{t:Nat}{os:OsState}{a C:Addr}{o:Obj}{K:Frag}
theorem rF{M:Model}(hx:h.get? a=some o)(hc:o.cls=.ref C):Looks M h (typeOf (.ref a)) (.ref C):=hc▸(CA hx).andThen .now
theorem FW{R:Result->Shared->Prop}{tp:Value}(X:K.In h)(hx:h.get? a=some o)(hc:o.cls=.ref C)(I:XIn K C)(hq:R (.ok (.ret (.ref C))) ⟨h,g,d,t,os⟩) :
  codeAny (model prog w) A (.call (.builtin "getset_descriptor.__get__") ⟨[.builtin "object.__class__",.ref a,tp],[]⟩) R ⟨h,g,d,t,os⟩:=by
 have L0:=rF (M:=model prog w) hx hc;have L1:=looks_mroIn (M:=model prog w) X I.ob;refine codeAny_call_builtin DN.plain PySem.W.KF.entry_gs (DN.check _ _ _ _ _ _ _ _ PySem.W.KF.type_class (PySem.W.KF.args_gs _ _ _) ?_);unfold Builtin.«getset_descriptor.__get__» descrGet;rw[PySem.W.dga_obj];refine wpAny_bind (wpAny_pure ?_);unfold descrGetter descrCheckInstance descrNameAndClass isInstance;simp only[PySem.W.KF.owner_class]
 repeat lk
 refine⟨Code.quiet_builtin _ (by decide +kernel),codeAny_builtin PySem.W.KF.entry_class ?_⟩;unfold Builtin.«object.__class__» shownTypeOf
 repeat lk
 exact hq
theorem IT{M:Model}{nameV:Value}{Q:Unit->Shared->Prop}(X:K.In h)(hx:h.get? a=some o)(hc:o.cls=.ref C)(I:XIn K C)(hq:Q () ⟨h,g,d,t,os⟩) :
  wpAny M A (checkBuiltinCall "BaseException.__getattribute__" ⟨[.ref a,nameV],[]⟩) Q E ⟨h,g,d,t,os⟩:=by
 have hk:builtinKind "BaseException.__getattribute__" = some .slot:=by decide +kernel
 have hsplit:splitId "BaseException.__getattribute__" = some ("BaseException","__getattribute__"):=by decide +kernel
 have L0:=rF (M:=M) hx hc;have L1:=looks_mroIn (M:=M) X I.be;have ha:=F.args_bexc_ga (.ref a) nameV;simp only[checkBuiltinCall,hk,hsplit];refine wpAny_bind ?_
 . unfold isInstance
   repeat (first | with_reducible refine L0.at ?_ | with_reducible refine L1.at ?_ | wp_step)
   exact hq
theorem WZ{tk:Tok}{Q:Fin->Shared->Prop}(X:K.In h)(hx:h.get? a=some o)(hc:o.cls=.ref C)(I:XIn K C)(hq:Q (.done (.ret (.ref C))) ⟨h,g,d,t,os⟩) :
  wpAny (model prog w) A (Builtin.«object.__getattribute__» ⟨[.ref a,.str "__class__" tk],[]⟩) Q E ⟨h,g,d,t,os⟩:=by
 have L0:=rF (M:=model prog w) hx hc;have L1:=looks_findIn (M:=model prog w) X I.cl;have hT5:(⟨h,g,d,t,os⟩:Shared).TypeIs (.builtin "object.__class__") "getset_descriptor":=F.typeOf_object_class;have f5:=F.typeOf_object_class;have f6:=F.slot_gs_get.lookup;have f7:=F.slot_gs_set.lookup
 repeat (any_goals (first | assumption | with_reducible refine L0.at ?_ | with_reducible refine L1.at ?_ | wp_step))
 refine FW X hx hc I ?_
 repeat (any_goals (first | assumption | wp_step))
theorem x_call{tk:Tok}{R:Result->Shared->Prop}(X:K.In h)(hx:h.get? a=some o)(hc:o.cls=.ref C)(I:XIn K C)(hq:R (.ok (.ret (.ref C))) ⟨h,g,d,t,os⟩) :
  codeAny (model prog w) A (.call (.builtin "BaseException.__getattribute__") ⟨[.ref a,.str "__class__" tk],[]⟩) R ⟨h,g,d,t,os⟩ :=
 codeAny_call_builtin F.attr_ValueError.ga.plain F.entry_bexc_ga (IT X hx hc I (WZ X hx hc I hq))
theorem x_by{tk:Tok}{fill expr:Bool}{Q:Value->Shared->Prop}(X:K.In h)(hx:h.get? a=some o)(hc:o.cls=.ref C)(I:XIn K C)(hq:Q (.ref C) ⟨h,g,d,t,os⟩) :
  wpAny (model prog w) A (getAttrBy (.ref a) (.str "__class__" tk) fill expr) Q E ⟨h,g,d,t,os⟩:=by
 have L0:=rF (M:=model prog w) hx hc;have L1:=looks_findIn (M:=model prog w) X I.ga;have L2:=looks_findIn (M:=model prog w) X I.gt;have f3:=F.attr_ValueError.ga.bind (.ref a);have hx0:(expr&&onTheHeap (Value.builtin "BaseException.__getattribute__"))=false:=by cases expr<;>rfl
 have hx2:(Value.builtin "BaseException.__getattribute__"==Value.builtin "object.__getattribute__")=false:=by decide +kernel
 have hx1:(onTheHeap (Value.ref C)&&Value.builtin "BaseException.__getattribute__"==Value.builtin "object.__getattribute__")=false:=by rw[hx2];rfl
 repeat (any_goals (first | assumption | with_reducible refine L0.at ?_ | with_reducible refine L1.at ?_ | with_reducible refine L2.at ?_ | wp_step))
 refine x_call X hx hc I ?_
 repeat (any_goals (first | assumption | wp_step))
theorem x_attr{Q:Option Value->Shared->Prop}(X:K.In h)(hx:h.get? a=some o)(hc:o.cls=.ref C)(I:XIn K C)(hq:Q (some (.ref C)) ⟨h,g,d,t+1,os⟩) :
  wpAny (model prog w) A (getAttr? (.ref a) "__class__") Q E ⟨h,g,d,t,os⟩:=by
 unfold getAttr? getAttrBy?
 repeat (any_goals (first | assumption | with_reducible apply x_by X hx hc I | wp_step))
noncomputable def IsX(a C:Addr)(h:Heap):Prop:=∃o,h.get? a=some o/\o.cls=.ref C
theorem UZ(I:XIn K C):KitX K (.ref a) (.ref C) (IsX a C) where
 ty:=fun _ _ _ ⟨o,h1,h2⟩=>rF h1 h2
 it:=fun _ _ X _=>by
  have hm:=I.ob;unfold mroIn at hm;obtain⟨cd,hcD,hm⟩:=bnd hm;unfold nP at hcD
  split at hcD
  . rename_i c' d' cd' sl' ho;intro A' Q' E' s' k q;unfold isType loadHead;exact wpAny_bind (wpAny_loadPart (k _ _ (X _ _ ho)) (wpAny_pure q))
  . cases hcD
 ne:=fun h tp dd its n sl X htp=>by
  have hm:=I.ob;unfold mroIn at hm;obtain⟨cd,hcD,hm⟩:=bnd hm;refine QS.mpr fun q=>?_;have e:C=tp:=Value.ref.inj (beq_iff_eq.mp q);subst e;unfold nP at hcD
  split at hcD
  . rename_i c' d' cd' sl' ho;have z:=(X _ _ ho).symm.trans htp;cases z
  . cases hcD
 ca:=fun {prog w A E Q s} X p k=>by
  obtain⟨o,h1,h2⟩:=p;obtain⟨h,g,d,t,os⟩:=s;exact x_attr X h1 h2 I k
end
end FL
namespace FL
open PySem PySem.Spec PyProof.Rows L2
noncomputable def Fl2(B:Heap)(l:List Env)(e:Addr)(cls a0 fl:Value)(h:Heap):Prop:=B.StaysIn h/\B.get? e=none/\h.FunFrames B l ∧
 ∃oe vs T oT ts,h.get? e=some oe/\(oe.cls=cls/\vs[0]?=some a0/\vs[2]?=some .none)/\oe.data=.fields vs/\vs[1]?=some (.ref T)/\B.get? T=none/\T≠e/\h.get? T=some oT/\oT.data=.fields ts/\ts[3]?=some fl
section
variable{M:Model}{A:Around}{E:Value->Shared->Prop}{s:Shared}{B:Heap}{l outer:List Env}{env:Env}{e L:Addr}{cls a0 fl:Value}{oe:Obj}{vs:Array Value}{Q:Unit->Shared->Prop}
theorem set2{v:Option Addr}(R:Fl2 B l e cls a0 fl s.heap)(h:∀h',Fl2 B l e cls a0 (v.elim .none fun f=>rawInt f) h'->s.heap.UpToSlots h'->Q () { s with heap:=h' }):wpAny M A (setFlight (.ref e) v) Q E s:=by
 obtain⟨r1,r2,r3,oe,vs,T,oT,ts,q1,q2,q3,q4,q5,q6,q7,q8,q9⟩:=R;have hz:3<ts.size:=(gL.mp q9).1;have ot:∀b,b≠T->(s.heap.update T (Obj.mapFields (·.setIfInBounds 3 (v.elim .none fun f=>rawInt f)))).get? b=s.heap.get? b:=fun b hb=>dQ _ _ (Ne.symm hb)
 have nr:∀b o,s.heap.get? b=some o->(∀vs,o.data≠.fields vs)->b≠T:=fun b o hb hn z=>by
  rw[z,q7] at hb;cases hb;exact hn _ q8
 unfold setFlight;refine wpAny_bind (wpAny_field q1 q3 q4 ?_);rw[if_pos (by simp)];refine wpAny_setField q7 q8 hz (h _ ⟨fun b o hb=>(ot b fun z=>?_).trans (r1 b o hb),r2,r3.of_keeps fun b o hb hn=>⟨o,(ot b (nr b o hb hn)).trans hb,rfl⟩,?_⟩ fun b o hb hn=>⟨o.slots,(ot b (nr b o hb hn)).trans hb⟩)
 . rw[z,q5] at hb;cases hb
 . exact⟨oe,vs,T,_,_,(ot e (Ne.symm q6)).trans q1,q2,q3,q4,q5,q6,nB _ q7 (Obj.isFreed_of_fields (Obj.data_mapFields q8 _)),Obj.data_mapFields q8 _,by simp[hz]⟩
theorem KL{head:Value}{had:Bool}(hfr:A.frames=some (env::outer))(hl:s.heap.FunFrames B (env::outer))(hf:env.frame=some L)(he:s.heap.get? e=some oe)(hk:B.StaysIn s.heap)(hn:B.get? e=none)(hd:oe.data=.fields vs)(hc:oe.cls=cls/\vs[0]?=some a0/\vs[2]?=some .none)
  (h:∀h',Fl2 B (env::outer) e cls a0 (rawInt L) h'->s.heap.UpToSlots h'->Q () { s with heap:=h' }) :
  wpAny M A (do let a <- frameOf env;let pl <- entryPlaceOf L had;let b <- EntryCells.newEntry head a .none (rawInt L) .none pl;setField (.ref e) 1 b) Q E s:=by
 have ne:e∉(env::outer).filterMap (·.frame):=fun hm=>by
  obtain⟨_,o,ho,hx⟩:=hl.mem hm;rw[he] at ho;cases ho;exact hx vs hd
 have hsz:1<vs.size:=by have:=(gL.mp hc.2.2).1;omega
 refine wpAny_bind (wpAny_frameOf_fun hfr hl hf fun h1 s1=>wpAny_bind (wpAny_entryPlaceOf fun pl hpl=>?_));unfold EntryCells.newEntry newFields;refine wpAny_bind (wpAny_newObj_type ?_ (hpl.sizeOk5 _ _ _ _ _));have e1:h1.get? e=some oe:=(s1.2.1 e ne).trans he;have k1:B.StaysIn h1:=fun b o q=>(s1.2.1 b fun hm=>by rw[(hl.mem hm).1] at q;cases q).trans (hk b o q);have te:h1.objs.size≠e:=Nat.ne_of_gt (aU e1);have ot:∀(O:Obj) b o,b≠e->h1.get? b=some o->((h1.push O).update e (Obj.mapFields (·.setIfInBounds 1 (Value.ref h1.objs.size)))).get? b=some o:=fun O b o hb q=>(dQ _ _ (Ne.symm hb)).trans (aL _ q)
 have nr:∀b o,s.heap.get? b=some o->(∀vs,o.data≠.fields vs)->b≠e:=fun b o q hx z=>by
  rw[z,he] at q;cases q;exact hx vs hd
 have d3:=Obj.data_mapFields hd (·.setIfInBounds 1 (Value.ref h1.objs.size));refine wpAny_setField (aL _ e1) hd hsz (h _ ⟨fun b o q=>ot _ b o (fun z=>by rw[z,hn] at q;cases q) (k1 b o q),hn,hl.of_keeps fun b o q hx=>?_,?_⟩ fun b o q hx=>?_)
 . obtain⟨sl, z⟩ := s1.2.2 b o q;exact⟨_,ot _ b _ (nr b o q hx) z,rfl⟩
 . refine ⟨_, _, h1.objs.size, _, _, nB _ (aL _ e1) (Obj.isFreed_of_fields d3), ⟨(Obj.cls_mapFields _ _).trans hc.1, ?_, ?_⟩, d3, by simp [hsz], k1.fresh, te, (dQ _ _ (Ne.symm te)).trans (bF _ rfl), rfl, by first | (simp; done) | (rcases hpl with rfl | ⟨_, _, _, _, _, _, _, rfl⟩ <;> simp)⟩
   . rw[rE (by decide)];exact hc.2.1
   . rw[rE (by decide)];exact hc.2.2
 . obtain⟨sl, z⟩ := s1.2.2 b o q;exact⟨sl,ot _ b _ (nr b o q hx) z⟩
theorem note2(hfr:A.frames=some (env::outer))(hf:env.frame=some L)(R:Fl2 B (env::outer) e cls a0 .none s.heap)(h:∀h',Fl2 B (env::outer) e cls a0 (rawInt L) h'->s.heap.UpToSlots h'->Q () { s with heap:=h' }):wpAny M A (noteFrame (.ref e) env) Q E s:=by
 obtain⟨r1,r2,r3,oe,vs,T,oT,ts,q1,q2,q3,q4,q5,q6,q7,q8,q9⟩:=R;have ot:∀b,b≠T->(s.heap.update T (Obj.mapFields (·.setIfInBounds 3 Value.none))).get? b=s.heap.get? b:=fun b hb=>dQ _ _ (Ne.symm hb)
 have nr:∀b o,s.heap.get? b=some o->(∀vs,o.data≠.fields vs)->b≠T:=fun b o hb hn z=>by
  rw[z,q7] at hb;cases hb;exact hn _ q8
 unfold noteFrame;simp only[hf];refine wpAny_bind (wpAny_field q1 q3 q4 ?_);rw[if_pos (by simp)];refine wpAny_bind (wpAny_field q7 q8 q9 ?_);rw[if_neg (by simp[rawInt])];refine wpAny_bind (wpAny_setField q7 q8 (gL.mp q9).1 ?_);exact KL hfr (r3.of_keeps fun b o hb hn=>⟨o,(ot b (nr b o hb hn)).trans hb,rfl⟩) hf ((ot e (Ne.symm q6)).trans q1) (fun b o hb=>(ot b fun z=>by rw[z,q5] at hb;cases hb).trans (r1 b o hb)) r2 q3 q2 fun h' f u=>h h' f fun b o hb hn=>u b o ((ot b (nr b o hb hn)).trans hb) hn
theorem wF(hf:env.frame=some L)(R:Fl2 B l e cls a0 (rawInt L) s.heap)(h:Q () s):wpAny M A (noteFrame (.ref e) env) Q E s:=by
 obtain⟨_,_,_,oe,vs,T,oT,ts,q1,_,q3,q4,_,_,q7,q8,q9⟩:=R;unfold noteFrame;simp only[hf];refine wpAny_bind (wpAny_field q1 q3 q4 ?_);rw[if_pos (by simp)];refine wpAny_bind (wpAny_field q7 q8 q9 ?_);rw[if_pos (by simp)];exact wpAny_pure h
theorem Fl2.tail(R:Fl2 B (env::outer) e cls a0 fl s.heap):Fl2 B outer e cls a0 fl s.heap:=let ⟨k1,k2,⟨_,_,k3⟩,k4⟩:=R;⟨k1,k2,k3,k4⟩
theorem leave2(hfr:A.frames=some (env::outer))(hf:env.frame=some L)(R:Fl2 B (env::outer) e cls a0 .none s.heap)(h:∀h',Fl2 B outer e cls a0 .none h'->s.heap.UpToSlots h'->Q () { s with heap:=h' }):wpAny M A (leaving env (.ref e)) Q E s:=by
 unfold leaving;refine wpAny_bind (note2 hfr hf R fun h1 f1 u1=>set2 (s:={ s with heap:=h1 }) f1 fun h2 f2 u2=>h h2 ?_ (u1.trans u2));obtain⟨k1,k2,⟨_,_,k3⟩,k4⟩:=f2;exact⟨k1,k2,k3,k4⟩
theorem made2{h:Heap}{args:List Value}(hfr:A.frames=some (env::outer))(hf:env.frame=some L)(hk:B.StaysIn h)(hl:h.FunFrames B (env::outer))(hx:Heap.MadeExcOf h s.heap e cls args)
  (hQ:∀h' t,Fl2 B outer e cls (.ref t) .none h'->s.heap.UpToSlots h'->Q () { s with heap:=h' }):wpAny M A (leaving env (.ref e)) Q E s:=by
 obtain⟨t,he,_,_⟩:=hx.there
 have hn:B.get? e=none:=by
  cases q:B.get? e with
  |none=>rfl
  |some o=>have:=hk e o q;rw[hx.new] at this;cases this
 unfold leaving noteFrame;simp only[hf];refine wpAny_bind (wpAny_bind (wpAny_field he rfl (x:=Value.none) rfl ?_));rw[if_neg (by decide)];refine KL (a0:=.ref t) hfr (hl.of_keeps fun b o hb _=>⟨o,hx.keeps b o hb,rfl⟩) hf he (fun b o hb=>hx.keeps b o (hk b o hb)) hn rfl ⟨rfl,rfl,rfl⟩ fun h1 f1 u1=>set2 (s:={ s with heap:=h1 }) f1 fun h2 f2 u2=>hQ h2 t ?_ (u1.trans u2);obtain⟨k1,k2,⟨_,_,k3⟩,k4⟩:=f2;exact⟨k1,k2,k3,k4⟩
end
noncomputable def HdA(A:Around)(H:Hp):Prop:=∃ea oe u vs,A.handled=some (.ref ea)/\H ea=some (.frz oe u)/\oe.data=.fields vs/\vs[2]?=some .none
noncomputable def HdP(X:Cx):Prop:=HdA X.A X.H₀
open PySem.W (hideAll hideAll_get of_hideAll hideAll_none funFrames_hide excIn tail_of_in nsMap_none_of_in isNs_of_in)
theorem ZA{P:Program}{w:World}{H:Hp}{h:Heap}{a:Addr}{o:HO}(x:ObjOk P w H h a o):∃u,h.get? a=some u:=by
 cases o with
 |lst xs=>obtain⟨_,_,_,_,e⟩:=x;exact⟨_,e⟩
 |tup xs=>obtain⟨_,_,_,_,e,_⟩:=x;exact⟨_,e⟩
 |dK kvs=>obtain⟨_,_,_,_,o,_,_,e,_⟩:=x;exact⟨_,e⟩
 |dT kvs=>obtain⟨_,_,_,_,o,_,_,e,_⟩:=x;exact⟨_,e⟩
 |set S n=>obtain⟨o,_,_,_,e,_⟩:=x;exact⟨_,e⟩
 |ins C dx fs=>obtain⟨_,_,_,e,_⟩:=x;exact⟨_,e⟩
 |own y=>obtain⟨_,e⟩:=x;exact⟨_,e⟩
 |xd fs=>obtain⟨_,⟨_,_,_,e,_⟩,_⟩:=x;exact⟨_,e⟩
 |rng lo hi=>obtain⟨_,_,_,e⟩:=x;exact⟨_,e⟩
 |frz ob u=>obtain⟨e,_⟩:=x;exact⟨_,e⟩
 |tbl ps=>obtain⟨_,e,_⟩:=x;exact⟨_,e⟩
 |met f y=>exact⟨_,(show h.get? a=some _ from x)⟩
 |ext φ=>obtain⟨_,⟨_,e⟩,_⟩:=x;exact⟨_,e⟩
structure Thrown(P:Program)(w:World)(outer:List Env)(H:Hp)(s:Shared)(cls:Value)(ea:Addr)(a0:Value)(B:Heap)(H':Hp)(h:Heap):Prop where
 fly:Fl2 B outer ea cls a0 .none h
 keep:∀b o,s.heap.get? b=some o->H b=none->b∉frs outer->B.get? b=some o
 there:∀b o,s.heap.get? b=some o->b∉frs outer->∃o',B.get? b=some o'
 slot:∀b o,s.heap.get? b=some o->b∈frs outer->∃sl,h.get? b=some { o with slots:=sl }
 free:∀b o,s.heap.get? b=some o->H b=none->H' b=none
 tups:∀b xs,H b=some (.tup xs)->H' b=some (.tup xs)
 frzs:∀b o u,H b=some (.frz o u)->H' b=some (.frz o u)
 tbls:∀b ps,H b=some (.tbl ps)->H' b=some (.tbl ps)
 hok:L2.HOk P w H' B
section
variable{P:Program}{w:World}{outer:List Env}{H H':Hp}{s:Shared}{cls a0:Value}{ea:Addr}{B h h':Heap}
theorem Thrown.un(t:Thrown P w outer H s cls ea a0 B H' h):Un (frs outer) [] H H' s.heap h where
 keep:=fun b o e n hb _=>t.fly.1 b o (t.keep b o e n hb)
 slot:=fun b o e n hb _=>t.slot b o e hb
 free:=fun b o e n _=>t.free b o e n
 there:=fun b o e _=>by
  by_cases hb:b∈frs outer
  . obtain⟨sl,q⟩:=t.slot b o e hb;exact⟨_,q⟩
  . obtain⟨o',q⟩:=t.there b o e hb;exact⟨o',t.fly.1 b o' q⟩
 tups:=t.tups
 frzs:=t.frzs
 tbls:=t.tbls
theorem Thrown.hokh(t:Thrown P w outer H s cls ea a0 B H' h):L2.HOk P w H' h:=t.hok.kept t.fly.1
theorem Thrown.on(t:Thrown P w outer H s cls ea a0 B H' h)(f:Fl2 B outer ea cls a0 .none h')(u:h.UpToSlots h'):Thrown P w outer H s cls ea a0 B H' h' where
 fly:=f
 keep:=t.keep
 there:=t.there
 slot:=fun b o e hb=>by
  obtain⟨sl,q⟩:=t.slot b o e hb;obtain⟨_,ob,ho,hd⟩:=t.fly.2.2.1.mem hb;rw[q] at ho;cases ho;obtain⟨sl',q'⟩:=u b _ q hd;exact⟨sl',q'⟩
 free:=t.free
 tups:=t.tups
 frzs:=t.frzs
 tbls:=t.tbls
 hok:=t.hok
theorem Thrown.no(t:Thrown P w outer H s cls ea a0 B H' h):H' ea=none:=by
 cases q:H' ea with
 |none=>rfl
 | some u =>
   obtain⟨o,e⟩:=ZA (t.hok _ _ q);rw[t.fly.2.1] at e;cases e
end
theorem AO{P:Program}{w:World}{H:Hp}{h:Heap}(x:L2.HOk P w H h)(l:List Addr)(hl:∀b∈l,H b=none):L2.HOk P w H (hideAll h l):=fun a o e =>
 (x a o e).stay (fun b u hb q=>hideAll_get _ q fun z=>by
   rcases hb with rfl | hb
   . rw[hl _ z] at e;cases e
   . rw[hl _ z] at hb;cases hb) (fun _ q=>q) fun _ _ q=>q
noncomputable def CXM(P:Program)(w:World):CXT:=fun outer H s E e s'=>∃ea cls a0 B H',e=.ref ea/\s'.os=s.os/\AllBare s'.gens/\Thrown P w outer H s cls ea a0 B H' s'.heap/\E cls none H'
noncomputable def XeOk(X:Cx)(C:Addr)(σ : L2.St)(H:Hp):Prop:=∀(pins:List (Addr×Obj)) (s:Shared) (h':Heap) (e:Addr) (as:List Value),Inv X pins σ H s->Heap.MadeExcOf s.heap h' e (.ref C) as->X.xe (.ref e) { s with heap:=h' }
theorem RP{P:Program}{w:World}{K:Frag}{mg:Str->Option Value}{base:Heap}{N:List Str}{qual:Str}{scope:Scope}{f C:Addr}{cd:Value}{A:Around}{outer:List Env}{s:Shared}{H H':Hp}{E:XK}{σ : L2.St}
  (hE:E (.ref C) none H'):XeOk (cxOf (CXM P w) P w K mg base N qual scope f cd A outer s H E) C σ H':=by
 intro pins s1 h1 e as I hx;have hfr:frs (envOfC qual scope s.heap.objs.size f cd::outer)=s.heap.objs.size::frs outer:=rfl
 have nm:∀b o,s.heap.get? b=some o->b∉frs outer->b∉frs (envOfC qual scope s.heap.objs.size f cd::outer):=fun b o q n z=>by
  rw[hfr] at z;rcases aF.mp z with z | z
  . exact absurd (aU q) (by rw[z];exact bZ _)
  . exact n z
 show wpAny _ _ (leaving _ _) _ _ _;refine made2 (B:=hideAll s1.heap (frs (envOfC qual scope s.heap.objs.size f cd::outer))) (h:=s1.heap) I.ok.frames rfl (fun b o q=>of_hideAll _ q) (funFrames_hide I.stack fun env he b hb=>fB.mpr ⟨env,he,hb⟩) hx fun h' t x1 x4=>?_;refine⟨e,.ref C,.ref t,_,H',rfl,I.os,I.bare,⟨x1,fun b o q n hb=>?_,fun b o q hb=>?_,fun b o q hb=>?_,fun b o q n=>I.base.free b o q n (by intro z;cases z),I.base.tups,I.base.frzs,I.base.tbls,?_⟩,hE⟩
 . exact hideAll_get _ (I.base.keep b o q n hb (by intro z;cases z)) (nm b o q hb)
 . obtain⟨o', q'⟩ := I.base.there b o q (by intro z;cases z);exact⟨o',hideAll_get _ q' (nm b o q hb)⟩
 . obtain⟨sl, q'⟩ := I.base.slot b o q (I.ok.frf b hb) hb (by intro z;cases z);obtain⟨_,ob,ho,hd⟩:=I.ok.funs.mem hb;have ho':s.heap.get? b=some ob:=ho;rw[q] at ho';cases ho';obtain⟨sl',q''⟩:=x4 b _ (hx.keeps _ _ q') hd;exact⟨sl',q''⟩
 . exact AO I.hok _ I.stkFree
abbrev bmVE:List Value:=[.type "ValueError",.type "Exception",.type "BaseException",.type "object"]
structure XCls(K:Frag)(C:Addr):Prop where
 exc:excIn K C bmVE "ValueError.__new__" = true
 xin:XIn K C
theorem WY{K:Frag}{h:Heap}{C:Addr}{bmB:List Value}{newId:String}(X:K.In h)(q:excIn K C bmB newId=true):∃bm N nm qn bs hdct sn sub ab col dd k0 k1 k2 k3 k5 mN,h.get? C=some (excClassObj nm qn C N bs bm hdct sn sub ab col dd k0 k1 k2 k3 k5 newId)/\h.Ns N mN/\mN "__init__" = none/\OwnTail h bmB bm:=by
 unfold excIn at q
 split at q
 . rename_i dd cd sl ho
   split at q
   . rename_i C' bm k0 k1 k2 k3 n k5 hm hs;simp only [bD,beq_iff_eq,QR] at q;obtain ⟨⟨⟨⟨⟨rfl,rfl⟩,hdel⟩,ht⟩,hok⟩,hni⟩:=q;obtain ⟨nm,bs,mro,ns,qn,hd,sn,sub,ab,col,del⟩:=cd;dsimp only at hm hdel hok hni;subst hm hdel
     have hsl:sl=#[k0,k1,k2,k3,some (.builtin n),k5]:=by
      obtain⟨l⟩:=sl;simp only at hs;rw[hs]
     subst hsl;exact⟨bm,ns,nm,qn,bs,hd,sn,sub,ab,col,dd,k0,k1,k2,k3,k5,_,X _ _ ho,.of_isNs (isNs_of_in X hok),nsMap_none_of_in X hok hni,tail_of_in X ht⟩
   . cases q
 . cases q
noncomputable def tRaise(X:Cx)(C:Addr):TS:=fun _ σ H=>XeOk X C σ H
theorem TF{X:Cx}{C:Addr}{x txt:Str}{j:Nat}{np cp cpos pos:Pos}(hC:XCls X.K C)(hm:X.mg x=some (.ref C))(hcalm:X.calm=true)(hg:Gl X x:=by rfl)(hdb:(x==("__debug__" : Str))=false:=by decide)
  (he:starEach [.Constant (.str txt) j cp] X.env=[(false,eval (.Constant (.str txt) j cp) X.env)]:=by rfl):PS X (.Raise (some (.Call (.Name x np) [.Constant (.str txt) j cp] [] cpos)) none pos) (tRaise X C):=by
 intro pins s σ H D I h;obtain⟨bm,N,nm,qn,bs,hdct,sn,sub,ab,col,dd,k0,k1,k2,k3,k5,mN,h1,h2,h3,h4⟩:=WY I.kIn hC.exc;have hbase:bm.contains (.type "BaseException")=true:=h4.hasType (by decide +kernel);refine wpAny_Raise_call_subU (C:=C) (mN:=mN) (N:=N) (nm:=nm) (q:=qn) (bs:=bs) (bm:=bm) (hdct:=hdct) (sn:=sn) (sub:=sub) (ab:=ab) (col:=col) (dd:=dd) (k0:=k0) (k1:=k1) (k2:=k2) (k3:=k3) (k5:=k5) F.excBase_ValueError (by decide +kernel) F.excBase_ValueError hbase (I.ok.hd hcalm) (by rw[he];rfl) h3 (wG I hg hm ⟨rfl,?_⟩ hdb);rw[he];show wpAny _ _ (evalArgs _ true ((false,eval (.Constant (.str txt) j cp) X.env)::[]) []) _ _ s;refine Calls.evalArgs_plain (Calls.spliced_cons ?_);refine Calls.Constant_str (k:=j) (pos:=cp) (Calls.spliced_nil ?_);have I2:=I.tok (s.toks+1);refine⟨rfl,by show 1<=sizeLine;decide,h1,h2,h4,fun h' e hx=>?_⟩;exact h pins _ h' e _ I2 hx
section
variable(X:Cx)(C:Addr)
noncomputable def PSx(st:Stmt)(x:List Sl->Bool):Prop:=∃t,PS X st t/\∀H₀ H O σ ds hd E,Ok X.K H₀ H O σ ds hd->x ds=true->(∀σ' H',Same H₀ H'->XeOk X C σ' H')->t E σ H
end
section
variable{X:Cx}{C:Addr}
theorem jY{x txt:Str}{j:Nat}{np cp cpos pos:Pos}(hC:XCls X.K C)(hm:X.mg x=some (.ref C))(hcalm:X.calm=true:=by rfl)(hg:Gl X x:=by rfl)(hdb:(x==("__debug__" : Str))=false:=by decide)
  (he:starEach [.Constant (.str txt) j cp] X.env=[(false,eval (.Constant (.str txt) j cp) X.env)]:=by rfl):PSx X C (.Raise (some (.Call (.Name x np) [.Constant (.str txt) j cp] [] cpos)) none pos) dR :=
 ⟨_,TF hC hm hcalm hg hdb he,fun H₀ H O σ ds hd E o _ h=>h σ H o.same⟩
end
noncomputable def spX(K:Frag)(n:Nat)(R:List D->Bool)(C:Addr):Sp:=fun vs H _ E=>vs.length=n/\∃ds,Reps K H yE vs ds/\R ds=true/\∀H',Same H H'->E (.ref C) none H'
structure CalX(P:Program)(w:World)(K:Frag)(mg:Str->Option Value)(base:Heap)(x:Str)(k n:Nat)(R:List D->Bool)(C:Addr):Prop where
 ex:∃(f:Addr) (fd:FuncData) (ps:List Str),FnOk P w K mg base (CXM P w) k f fd ps (spX K n R C)/\Binds K fd ps []/\bN K (.ref f)=true/\mg x=some (.ref f)
end FL
namespace FL
open PySem PySem.Spec PyProof.Rows L2
open PySem.W (Looks looks_mroIn mroIn)
abbrev gC(X:Cx)(ea:Addr)(xe:Value->Shared->Prop)(H0:Hp:=X.H₀):Cx:={ X with A:=X.A.mark (some (.ref ea)),calm:=false,H₀:=H0,xe:=xe }
section
variable{X:Cx}{pins:List (Addr×Obj)}{σ : L2.St}{H:Hp}{s:Shared}{ea:Addr}{oe:Obj}{xe:Value->Shared->Prop}
theorem PJ(I:Inv X pins σ H s):Inv (gC X ea xe) pins σ H s:=by
 have ok:=I.ok;exact⟨⟨ok.mod,ok.kind,ok.glob,ok.blt,ok.above,ok.inj,ok.has,ok.cab,(fun z=>by cases z),ok.frames,ok.stk,ok.exf,ok.bs,ok.bsz,ok.noex,ok.exfs,ok.funs,ok.frf⟩,I.os,I.bare,I.base,I.loc,I.cell,I.free,I.freeC,I.pin,I.hok,I.len⟩
theorem JV{u:HO}(I:Inv X pins σ H s)(hH:H ea=some (.frz oe u))(h0:X.s₀.heap.get? ea=none)(nt:∀q,X.H₀ ea≠some (.tbl q))(nf:ea∉X.fs):Inv (gC X ea xe (upd X.H₀ ea (.frz oe u))) pins σ H s:=by
 have ok:=I.ok;have n0:∀{b:Addr} {o:Obj},X.s₀.heap.get? b=some o->b≠ea:=fun e z=>by rw[z,h0] at e;cases e
 refine⟨⟨ok.mod,ok.kind,ok.glob,ok.blt,ok.above,ok.inj,ok.has,ok.cab,(fun z=>by cases z),ok.frames,ok.stk,ok.exf,fun b o e=>?_,⟨ok.bsz.1,ok.bsz.2.bm,fun x c P h1 h2=>?_⟩,ok.noex,ok.exfs,ok.funs,fun b hb=>?_⟩,I.os,I.bare,⟨fun b o e n=>?_,fun b o e n=>?_,fun b o e n=>?_,I.base.there,fun b xs e=>?_,fun b o u e=>?_,fun b q e=>?_⟩,I.loc,I.cell,I.free,I.freeC,I.pin,I.hok,I.len⟩
 . have := ok.bs b o e;exact⟨this.1,(zX (n0 this.1)).trans this.2⟩
 . have := ok.bsz.2.tab x c P h1 h2;exact⟨this.1,(zX (fun z:P=ea=>nt _ (z▸this.2))).trans this.2⟩
 . exact(zX (fun z:b=ea=>nf (z▸hb))).trans (ok.frf b hb)
 . exact I.base.keep b o e ((zX (n0 e)).symm.trans n)
 . exact I.base.slot b o e ((zX (n0 e)).symm.trans n)
 . exact I.base.free b o e ((zX (n0 e)).symm.trans n)
 . by_cases hb : b = ea
   . subst hb;cases(cF (o:=.frz oe u)).symm.trans e
   . exact I.base.tups b xs ((zX hb).symm.trans e)
 . by_cases hb : b = ea
   . subst hb;cases cF.symm.trans e;exact hH
   . exact I.base.frzs b o _ ((zX hb).symm.trans e)
 . by_cases hb : b = ea
   . subst hb;cases(cF (o:=.frz oe u)).symm.trans e
   . exact I.base.tbls b q ((zX hb).symm.trans e)
theorem ES{u:HO}{pins0:List (Addr×Obj)}{σ0:L2.St}{H0:Hp}{s0:Shared}(I0:Inv X pins0 σ0 H0 s0)(hn:H0 ea=none)(h0:X.s₀.heap.get? ea=none)(I:Inv (gC X ea xe (upd X.H₀ ea (.frz oe u))) pins σ H s):Inv X pins σ H s:=by
 have n0:∀{b:Addr} {o:Obj},X.s₀.heap.get? b=some o->b≠ea:=fun e z=>by rw[z,h0] at e;cases e
 have ne:∀{b:Addr} {v:HO},H0 b=some v->b≠ea:=fun e z=>by rw[z,hn] at e;cases e
 refine⟨I0.ok,I.os,I.bare,⟨fun b o e n=>I.base.keep b o e ?_,fun b o e n=>I.base.slot b o e ?_,fun b o e n=>I.base.free b o e ?_,I.base.there,fun b xs e=>I.base.tups b xs ?_,fun b o u e=>I.base.frzs b o u ?_,fun b q e=>I.base.tbls b q ?_⟩,I.loc,I.cell,I.free,I.freeC,I.pin,I.hok,I.len⟩
 . exact(zX (n0 e)).trans n
 . exact(zX (n0 e)).trans n
 . exact(zX (n0 e)).trans n
 . exact(zX (ne (I0.base.tups b xs e))).trans e
 . exact(zX (ne (I0.base.frzs b o u e))).trans e
 . exact(zX (ne (I0.base.tbls b q e))).trans e
theorem PH(I:Inv X pins σ H s)(hn:H ea=none)(h1:s.heap.get? ea=some oe)(h3:ea≠X.env.locals)(h0:X.s₀.heap.get? ea=none)(hc:∀v,oe.data≠.cell v)(hp:∀p∈X.pn++pins,p.1≠ea) :
  Inv X pins σ (upd H ea (.frz oe (.own ea))) s:=by
 have nz:∀b u,H b=some u->b≠ea:=fun b u e z=>by rw[z,hn] at e;cases e
 have n0:∀b o,X.s₀.heap.get? b=some o->b≠ea:=fun b o e z=>by rw[z,h0] at e;cases e
 refine⟨I.ok,I.os,I.bare,⟨I.base.keep,I.base.slot,fun b o e n hx=>?_,I.base.there,fun b xs e=>?_,fun b o u e=>?_,fun b ps e=>?_⟩,I.loc,I.cell,?_,fun x c e=>?_,fun p hpp=>?_,fun b u e=>?_,I.len⟩
 . rw[zX (n0 b o e)];exact I.base.free b o e n hx
 . have:=I.base.tups b xs e;rw[zX (nz b _ this)];exact this
 . have:=I.base.frzs b o u e;rw[zX (nz b _ this)];exact this
 . have:=I.base.tbls b ps e;rw[zX (nz b _ this)];exact this
 . rw[zX (Ne.symm h3)];exact I.free
 . have hz:c≠ea:=by
    intro z;obtain⟨v,o,ho,hd⟩:=I.cell x c e;rw[z,h1] at ho;cases ho;exact hc v hd
   have:=I.freeC x c e;unfold FreeC at this ⊢;rw[zX hz];exact this
 . obtain⟨q1, q2, q3, q4, q5⟩ := I.pin p hpp;exact⟨q1,by rw[zX (hp p hpp)];exact q2,q3,q4,q5⟩
 . by_cases hb : b = ea
   . subst hb;rw[cF] at e;cases e;exact⟨h1,oe,h1⟩
   . rw[zX hb] at e;exact(I.hok b u e).stay (fun _ _ _ q=>q) (fun c q=>by rw[zX (nz c _ q)];exact q) fun c xs q=>by rw[zX (nz c _ q)];exact q
theorem VG{i:Nat}{x:Str}{m:Str->Option Value}{h':Heap}{v:Option Value}{t':Nat}(I:Inv X pins σ H s)(hN:X.N.Nodup)(hi:X.N[i]?=some x)(hn:s.heap.Ns X.env.locals m)
  (hl:∀(i:Nat) (x:Str) (v:V),X.N[i]?=some x->σ[i]?=some (some v)->Vis X.env.scope x->∃u,RelV v u/\Look X.env s.heap m x u)
  (hn':h'.Ns X.env.locals (fun y=>if y=x then v else m y)) (hs:Heap.SameBut X.env.locals s.heap h'):Inv X pins (σ.set i none) H { s with heap:=h',toks:=t' }:=by
 have cne:=I.cne;obtain⟨oL,_,_,hoL,_⟩:=id hn;refine⟨I.ok,I.os,I.bare,⟨fun b o e n hb hx=>?_,fun b o e n hb hx=>?_,I.base.free,fun b o e hx=>?_,I.base.tups,I.base.frzs,I.base.tbls⟩,⟨_,hn',fun j y v' e1 e2 e3=>?_⟩,fun y c e=>?_,I.free,I.freeC,fun p hp=>?_,fun b ob e=>?_,by simpa using I.len⟩
 . exact(hs.2 b (bS (aZ (aU e) I.ok.above))).trans (I.base.keep b o e n hb hx)
 . obtain⟨sl, e1⟩ := I.base.slot b o e n hb hx;exact⟨sl,(hs.2 b (bS (aZ (aU e) I.ok.above))).trans e1⟩
 . obtain⟨o', e1⟩ := I.base.there b o e hx;exact⟨o',(hs.2 b (bS (aZ (aU e) I.ok.above))).trans e1⟩
 . by_cases hj : j = i
   . subst hj;have hiσ : j < σ.length:=by rw [I.len]; exact (bK.mp hi).1
     rw[aT hiσ] at e2;cases e2
   . rw [aD (Ne.symm hj)] at e2;obtain ⟨u',r',q⟩:=hl j y v' e1 e2 e3;refine ⟨u',r',?_⟩;rcases q with ⟨k,e⟩ | ⟨k,c,e,z⟩
     . refine .inl ⟨k, ?_⟩;have:y≠x:=fun e=>hj (AG hN e1 (e▸hi));simp[this,e]
     . exact .inr ⟨k,c,e,z.sameBut hs (cne y c e)⟩
 . obtain⟨w', z⟩ := I.cell y c e;exact⟨w',z.sameBut hs (cne y c e)⟩
 . obtain⟨e, n, ne, nf, d⟩ := I.pin p hp;exact⟨(hs.2 p.1 ne).trans e,n,ne,nf,d⟩
 . refine (I.hok b ob e).stay (fun c w' hc q => (hs.2 c ?_).trans q) (fun _ q => q) fun _ _ q => q;rintro rfl;have hfree:=I.free;rcases hc with rfl | hc
   . rw[hfree] at e;cases e
   . rw[hfree] at hc;cases hc
end
theorem Ok.setNo{K:Frag}{H₀ H:Hp}{O:Addr->Prop}{σ : L2.St}{ds:List Sl}{hd:Hold}(o:Ok K H₀ H O σ ds hd)(i:Nat)(v:Option V):Ok K H₀ H O (σ.set i v) (ds.set i .no) hd:=by
 have own':∀{j:Nat},IsOwn (ds.set i .no) j->j≠i/\IsOwn ds j:=fun {j} ⟨l,e⟩=>by
  by_cases hj:j=i
  . subst hj
    by_cases hl:j<ds.length
    . rw[aT hl] at e;cases e
    . rw[bL (by simpa using hl)] at e;cases e
  . rw[aD (Ne.symm hj)] at e;exact⟨hj,l,e⟩
 refine⟨o.same,fun j l a e1 e2=>?_,o.dom,by simpa using o.len,fun j s e=>?_,fun j k a hjk hj hk e1 e2=>?_,o.hold,o.obs.tr (fun _ _ _ r _=>r) (fun j r t e=>by
  obtain⟨e1,hj⟩:=oJ (fun r t=>by intro z;cases z) e
  exact⟨e1,by rw[aD (Ne.symm hj)]⟩) (fun j b oj ej=>by
  obtain⟨o1,hj⟩:=uC (fun l=>by intro z;cases z) oj;rw[aD (Ne.symm hj)] at ej
  exact .inl ⟨o1,ej⟩)⟩
 . obtain⟨n1, h1⟩ := own' ⟨l, e1⟩;rw[aD (Ne.symm n1)] at e1 e2;exact o.fresh j l a e1 e2
 . by_cases hj : j = i
   . subst hj
     by_cases hl:j<ds.length
     . rw[aT hl] at e;cases e;exact yS
     . rw[bL (by simpa using hl)] at e;cases e
   . rw[aD (Ne.symm hj)] at e;rw[aD (Ne.symm hj)];exact o.sl j s e
 . obtain⟨n1, h1⟩ := own' hj;obtain⟨n2,h2⟩:=own' hk;rw[aD (Ne.symm n1)] at e1;rw[aD (Ne.symm n2)] at e2;exact o.apart j k a hjk h1 h2 e1 e2
theorem Ok.setX{K:Frag}{H₀ H:Hp}{O:Addr->Prop}{σ : L2.St}{ds:List Sl}{hd:Hold}(o:Ok K H₀ H O σ ds hd){i t:Nat}{a C:Addr}{ob:Obj}{u:HO}(h1:aJ K mainGlobals (xName t)=some (some (.ref C)))(h2:H a=some (.frz ob u))(h3:ob.cls=.ref C) :
  Ok K H₀ H O (σ.set i (some (.ref a))) (ds.set i (.exc t)) hd:=by
 have own':∀{j:Nat},IsOwn (ds.set i (.exc t)) j->j≠i/\IsOwn ds j:=fun {j} ⟨l,e⟩=>by
  by_cases hj:j=i
  . subst hj
    by_cases hl:j<ds.length
    . rw[aT hl] at e;cases e
    . rw[bL (by simpa using hl)] at e;cases e
  . rw[aD (Ne.symm hj)] at e;exact⟨hj,l,e⟩
 refine⟨o.same,fun j l a e1 e2=>?_,o.dom,by simpa using o.len,fun j s e=>?_,fun j k a hjk hj hk e1 e2=>?_,o.hold,o.obs.tr (fun _ _ _ r _=>r) (fun j r t e=>by
  obtain⟨e1,hj⟩:=oJ (fun r t=>by intro z;cases z) e
  exact⟨e1,by rw[aD (Ne.symm hj)]⟩) (fun j b oj ej=>by
  obtain⟨o1,hj⟩:=uC (fun l=>by intro z;cases z) oj;rw[aD (Ne.symm hj)] at ej
  exact .inl ⟨o1,ej⟩)⟩
 . obtain⟨n1, h1⟩ := own' ⟨l, e1⟩;rw[aD (Ne.symm n1)] at e1 e2;exact o.fresh j l a e1 e2
 . by_cases hj : j = i
   . subst hj
     by_cases hl:j<ds.length
     . rw[aT hl] at e;cases e;rw[aT (by rw[o.len];exact hl)];exact⟨C,ob,u,h1,h2,h3⟩
     . rw[bL (by simpa using hl)] at e;cases e
   . rw[aD (Ne.symm hj)] at e;rw[aD (Ne.symm hj)];exact o.sl j s e
 . obtain⟨n1, h1⟩ := own' hj;obtain⟨n2,h2⟩:=own' hk;rw[aD (Ne.symm n1)] at e1;rw[aD (Ne.symm n2)] at e2;exact o.apart j k a hjk h1 h2 e1 e2
noncomputable def oR(X:Cx)(C:Addr)(st:Stmt)(x:List Sl->Bool):Prop:=∀(pins:List (Addr×Obj)) (s:Shared) (σ : L2.St) (H H₀ : Hp) (O:Addr->Prop) (ds:List Sl) (hd:Hold),Inv X pins σ H s->Ok X.K H₀ H O σ ds hd->x ds=true →
 (∀ea a0 B H1 H' s1 s',Inv X pins σ H1 s1->Same H H1->Same H1 H'->Thrown X.prog X.w X.stack H1 s1 (.ref C) ea a0 B H' s'.heap->s'.os=s1.os->AllBare s'.gens->X.xe (.ref ea) s')->wpAny (model X.prog X.w) X.A (exec st X.env) (fun _ _=>False) X.xe s
section
variable{X:Cx}{k j n:Nat}{R:List D->Bool}{C:Addr}{x:Str}{p pos:Pos}{e:Expr}{es:List Expr}{g:FA}
theorem HY(CX:CalX X.prog X.w X.K X.mg X.base x k n R C)(hr:Room j X.A)(ha:PAn X (e::es) g)(hj:k<=j)(hg:Gl X x)(hdb:(x==("__debug__" : Str))=false)
  (he:starEach (e::es) X.env=(false,eval e X.env)::starEach es X.env) (hpl:(backTo pos (starEach es X.env)).any (·.1)=false)
  {pins:List (Addr×Obj)} {s:Shared} {σ : L2.St} {H H₀ : Hp} {O:Addr->Prop} {ds:List Sl} {hd:Hold} {Q:Value->Shared->Prop} (I:Inv X pins σ H s) (o:Ok X.K H₀ H O σ ds hd) (ex:callX n R g ds=true)
  (W:∀ea a0 B H1 H' s1 s',Inv X pins σ H1 s1->Same H H1->Same H1 H'->Thrown X.prog X.w X.stack H1 s1 (.ref C) ea a0 B H' s'.heap->s'.os=s1.os->AllBare s'.gens->X.xe (.ref ea) s') :
  wpAny (model X.prog X.w) X.A (eval (.Call (.Name x p) (e::es) [] pos) X.env) Q X.xe s:=by
 obtain⟨f,fd,ps,Fn,hb,hk,hm⟩:=CX.ex;obtain⟨t,ht,hf⟩:=ha;unfold callX at ex;cases hl:g ds with
 |none=>rw[hl] at ex;cases ex
 | some l =>
   rw[hl] at ex;simp only[bD,decide_eq_true_eq] at ex;refine wpAny_Call_Name_kw (wG I hg hm ?_ hdb);refine nX (h₀:=X.base) I.ok.mod.kin hk (thn (ht pos pins s σ H (fun vs H1=>Same H H1/\Reps X.K H1 yE vs l) I (hf H₀ H O σ ds hd l _ o hl fun vs H1 s1 r=>⟨s1,r⟩)) fun us s1 ⟨vs,H1,I1,r,q1,q2⟩=>⟨I1.kIn,?_⟩) he hpl;have sp:spX X.K n R C vs H1 (fun _ _=>False) (fun cl _ H'=>cl=.ref C/\Same H1 H'):=⟨by rw[q2.length];exact ex.1,l,q2,ex.2,fun H' s'=>⟨rfl,s'⟩⟩
   have hl2:us.length=ps.length:=by rw[<- r.length];exact Fn.len _ _ _ _ sp
   have bd:=hb s1 us I1.kIn (by rw[fG];exact hl2);rw[fG] at bd;refine wpAny_call (codeAny_mono (Fn.run X.A X.stack s1 H1 ⟨us,[]⟩ us vs (fun _ _=>False) (fun cl _ H'=>cl=.ref C/\Same H1 H') (hr.mono hj) I1.env0 bd r sp) fun r s' hq=>?_);cases r with
   | error e' =>
     obtain⟨ea,cls,a0,B,H',rfl,os,bare,T,rfl,sm⟩:=hq;exact W ea a0 B H1 H' s1 s' I1 q1 sm T os bare
   | ok fl =>
     cases fl with
     |ret u=>obtain⟨v,H',_,_,_,_,_,z⟩:=hq;exact z.elim
     |next=>exact False.elim hq
     |brk=>exact False.elim hq
     |cont=>exact False.elim hq
theorem tV{y:Str}{py pos':Pos}(CX:CalX X.prog X.w X.K X.mg X.base x k n R C)(hr:Room j X.A)(ha:PAn X (e::es) g)(hj:k<=j:=by decide)(hg:Gl X x:=by rfl)(hdb:(x==("__debug__" : Str))=false:=by decide)
  (he:starEach (e::es) X.env=(false,eval e X.env)::starEach es X.env:=by rfl) (hpl:(backTo pos (starEach es X.env)).any (·.1)=false:=by rfl) (hs:swapsWith (.Call (.Name x p) (e::es) [] pos) (some (.Name y py)) pos'.line X.env=pure false:=by rfl) :
  oR X C (.Assign [.Name y py] (.Call (.Name x p) (e::es) [] pos) pos') (callX n R g):=by
 intro pins s σ H H₀ O ds hd I o ex W;exact wpAny_Assign_Name (HY CX hr ha hj hg hdb he hpl I o ex W) hs
end
end FL
namespace FL
open PySem PySem.Spec PyProof.Rows L2
open PySem.W (Looks looks_mroIn mroIn clsIn)
structure XCatch(K:Frag)(C S:Addr):Prop where
 kit:mV K (.ref C) (.ref S)=some true
 be:mroIn K S (.type "BaseException")=some true
section
variable{prog:Program}{w:World}{A:Around}{E:Value->Shared->Prop}{h:Heap}{g:Array GenState}{d:Drawn}{t:Nat}{os:OsState}{a C S:Addr}{o:Obj}{K:Frag}
theorem NG{M:Model}{Q:Bool->Shared->Prop}(X:K.In h)(hx:h.get? a=some o)(hc:o.cls=.ref C)(hS:XCatch K C S)(hq:Q true ⟨h,g,d,t,os⟩) :
  wpAny M A (excMatches (.ref a) (.ref S)) Q E ⟨h,g,d,t,os⟩:=by
 have L0:=rF (M:=M) hx hc;have L1:=looks_mroIn (M:=M) X hS.be;obtain⟨L3,L4,L2⟩:=PySem.W.kit_cls (M:=M) X hS.kit;have f:=tc_notTuple;unfold excMatches
 repeat (first | with_reducible refine L0.at ?_ | with_reducible refine L1.at ?_ | with_reducible refine L2.at ?_ | with_reducible refine L3.at ?_ | with_reducible refine L4.at ?_ | with_reducible refine wpAny_loadPart_at hx ?_ | wp_step)
 exact hq
end
section
variable{X:Cx}
theorem NR{ea:Addr}{H0:Hp}{xe0:Value->Shared->Prop}{sts:List Stmt}{h:FS}{pins:List (Addr×Obj)}{σ : L2.St}{H H₀ : Hp}{O:Addr->Prop}{ds:List Sl}{hd:Hold}{out:Out}{D:Ends}{s:Shared}
  (hs:∀xe,PSsv (gC X ea xe H0) sts h) (I:Inv (gC X ea xe0 H0) pins σ H s) (o:Ok X.K H₀ H O σ ds hd) (e:h ds=some out) (af:After X H₀ hd D out) {EXC:Value->Shared->Prop} {POST:Flow->Shared->Prop}
  (hp:∀f s',SP (gC X ea EXC H0) pins D f s'->POST f s'):wpAny (model X.prog X.w) (X.A.mark (some (.ref ea))) (execs sts X.env) POST EXC s:=by
 obtain⟨t,ht,hf⟩:=hs EXC;exact wpAny_mono (ht pins s σ H D (I.wish EXC) (hf H₀ H O σ ds hd out D o e af)) hp (fun _ _ z=>z)
theorem KM{H₀ : Hp}{hd:Hold}{D:Ends}{i:Nat}{out:Out}(af:After X H₀ hd D (goneO i out)) :
  After X H₀ hd { nx:=fun σ H=>D.nx (σ.set i none) H,rt:=D.rt,bk:=fun σ H=>D.bk (σ.set i none) H,ct:=fun σ H=>D.ct (σ.set i none) H } out:=by
 cases out with
 |nx ds=>exact fun σ H O o=>af _ _ O (o.setNo i none)
 |bk ds=>exact fun σ H O o=>af _ _ O (o.setNo i none)
 |ct ds=>exact fun σ H O o=>af _ _ O (o.setNo i none)
 |rt r=>exact af
theorem DE{B h:Heap}{l:List Env}{e:Addr}{cls a0:Value}(f:Fl2 B l e cls a0 .none h):e∉frs l/\∃oe,h.get? e=some oe/\oe.cls=cls/\(∀v,oe.data≠.cell v)/\∃vs,oe.data=.fields vs/\vs[2]?=some .none:=by
 obtain⟨_,_,f3,oe,vs,T,oT,ts,he,hc,hd,_⟩:=f;refine⟨fun z=>?_,oe,he,hc.1,(fun v q=>by rw[hd] at q;cases q),vs,hd,hc.2.2⟩;obtain⟨_,o,ho,hn⟩:=f3.mem z;rw[he] at ho;cases ho;exact hn vs hd
noncomputable def tryE(X:Cx)(pins:List (Addr×Obj))(D:Ends)(hs:List ExceptHandler):Value->Shared->Prop:=fun e s₁=>wpAny (model X.prog X.w) X.A (noteFrame e X.env) (fun _ s₂=>wpAny (model X.prog X.w) X.A (setFlight e none) (fun _ s₃=>wpAny (model X.prog X.w) X.A (handleBy e X.env hs) (SP X pins D) X.xe s₃) X.xe s₂) X.xe s₁
theorem NJ{st b₀ : Stmt}{suite:List Stmt}{sx en:Str}{hp hpos:Pos}{i t:Nat}{C S:Addr}{h:FS}{x:List Sl->Bool}
  (hN:X.N.Nodup) (hm:X.mg sx=some (.ref S)) (hS:XCatch X.K C S) (hC:aJ X.K mainGlobals (xName t)=some (some (.ref C)))
  (hx:∀W,oR (X.wish W) C st x) (hs:∀ea oe xe,HdP (gC X ea xe (upd X.H₀ ea (.frz oe (.own ea))))->PSsv (gC X ea xe (upd X.H₀ ea (.frz oe (.own ea)))) (b₀::suite) h)
  (hi:X.N[i]?=some en) (hlo:X.env.kindOf en=some .local) (hst:X.stack=X.env::X.outer) (hfr:X.env.frame=some X.env.locals) (hex:X.ex=[])
  (hgS:Gl X sx) (hdb:(sx==("__debug__" : Str))=false)
  {pins:List (Addr×Obj)} {s:Shared} {σ : L2.St} {H H₀ : Hp} {O:Addr->Prop} {ds:List Sl} {hd:Hold} {D:Ends} {out':Out} (I:Inv X pins σ H s) (o:Ok X.K H₀ H O σ ds hd) (hxd:x ds=true) (hh:h (ds.set i (.exc t))=some out') (af:After X H₀ hd D (goneO i out')) :
  wpAny (model X.prog X.w) X.A (exec st X.env) (fun _ _=>False) (tryE X pins D [.ExceptHandler (some (.Name sx hp)) (some en) (b₀::suite) hpos]) s:=by
 have hLoc:Loc X.env.scope en:=.inl hlo
 have hsub:∀b,b∈X.env.locals::X.fs->b∈frs X.stack:=fun b hb=>by
  rw[hst];unfold frs;rw[dE,hfr];exact hb
 refine hx (tryE X pins D [.ExceptHandler (some (.Name sx hp)) (some en) (b₀::suite) hpos]) pins s σ H H₀ O ds hd (I.wish _) o hxd ?_;intro ea a0 B H1 H' s1 s' I1 m1 m2 T os bare;have I1':Inv X pins σ H1 s1:=I1.unwish;have T:Thrown X.prog X.w X.stack H1 s1 (.ref C) ea a0 B H' s'.heap:=T;show wpAny _ _ (noteFrame _ _) _ _ _;have hA:X.A.frames=some (X.env::X.outer):=by rw[<- hst];exact I.ok.frames
 refine note2 hA hfr (by rw[<- hst];exact T.fly) fun h₄ held₄ sm₄=>?_;refine set2 (s:={ s' with heap:=h₄ }) held₄ fun h₅ fly₅ sm₅=>?_;have T5:=T.on (h':=h₅) (by rw[hst];exact fly₅) (sm₄.trans sm₅);have I5:Inv X pins σ H' { s' with heap:=h₅ }:=I1'.call' (ch:=[]) os T5.un T5.hokh bare (fun b z=>by cases z);obtain⟨ap5,ob,hob,hobc,hobd,_⟩:=DE T5.fly;refine wpAny_handleBy_cons (codeAny_handlers_test ?_) (by intro q;cases q);refine wG (X:=gC X ea X.xe) (PJ I5) hgS hm ?_ hdb;refine NG (K:=X.K) I5.kIn hob hobc hS ?_;refine codeAny_handlers_suite_as ?_;refine set2 (s:={ s' with heap:=h₅ }) fly₅ fun h₆ fly₆ sm₆=>?_;have T6:=T5.on (h':=h₆) (by rw[hst];exact fly₆) sm₆;have I6:Inv X pins σ H' { s' with heap:=h₆ }:=I1'.call' (ch:=[]) os T6.un T6.hokh bare (fun b z=>by cases z);obtain⟨ap6,oe,hoe,hoec,hoed,vs,hvs,hv2⟩:=DE T6.fly
 have nb:∀b o,s1.heap.get? b=some o->b≠ea:=fun b o e z=>by
  subst z;obtain⟨o',q⟩:=T6.there b o e ap6;rw[T6.fly.2.1] at q;cases q
 have h0:X.s₀.heap.get? ea=none:=by
  cases q:X.s₀.heap.get? ea with
  |none=>rfl
  | some o' =>
    obtain⟨o'',q'⟩:=I1'.base.there ea o' q (by rw[hex];intro z;cases z);exact(nb ea o'' q' rfl).elim
 have It:=PH I6 T6.no hoe (fun z=>ap6 (hsub _ (by rw[z];exact aP))) h0 hoed fun p hpp=>nb p.1 p.2 (I1'.pin p hpp).1;have sm:Same H' (upd H' ea (.frz oe (.own ea))):=fun b u e=>by rw[zX (fun z=>by rw[z,T6.no] at e;cases e)];exact e
 have Is:Inv (gC X ea X.xe (upd X.H₀ ea (.frz oe (.own ea)))) pins σ (upd H' ea (.frz oe (.own ea))) { s' with heap:=h₆ }:=JV It cF h0 (fun q e=>by have:=I6.base.tbls _ _ e;rw[T6.no] at this;cases this) (fun z=>ap6 (hsub _ (aI _ z)));refine uP (X:=gC X ea X.xe (upd X.H₀ ea (.frz oe (.own ea)))) (i:=i) (v:=.ref ea) Is hN hi hLoc rfl (fun s7 I7=>?_) (.inr hlo);refine NR (fun xe=>hs ea oe xe ⟨ea,oe,_,vs,rfl,cF,hvs,hv2⟩) I7 ((o.mono ((m1.trans m2).trans sm)).setX hC cF hoec) hh (KM af) fun f s8 h8=>?_;have hcls:(X.env.scope.kind==.class||(X.env.scope.kind==.module&&X.env.locals != X.env.globals))=false:=by rw[I.ok.kind];rfl
 have gone:∀xe σ' H8,Inv (gC X ea xe (upd X.H₀ ea (.frz oe (.own ea)))) pins σ' H8 s8->∀Q:Unit->Shared->Prop,(∀s9,Inv X pins (σ'.set i none) H8 s9->Q () s9)->wpAny (model X.prog X.w) X.A (do bindName X.env en .none;unbindBehindTheSuite X.env en hpos) Q X.xe s8:=fun xe σ' H8 I8 Q k=>by
  have I8':=ES I6 T6.no h0 I8;obtain⟨m,hn,hl⟩:=id I8'.loc;exact wpAny_nameGoes_keeps hlo hn hcls fun h' v hn' hs'=>k _ (VG I8' hN hi hn hl hn' hs')
 cases f with
 |next=>obtain⟨σ',H8,I8,q⟩:=h8;exact gone _ σ' H8 I8 _ fun s9 I9=>⟨_,H8,I9,q⟩
 |brk=>obtain⟨σ',H8,I8,q⟩:=h8;exact gone _ σ' H8 I8 _ fun s9 I9=>⟨_,H8,I9,q⟩
 |cont=>obtain⟨σ',H8,I8,q⟩:=h8;exact gone _ σ' H8 I8 _ fun s9 I9=>⟨_,H8,I9,q⟩
 |ret u=>obtain⟨v,σ',H8,I8,r,q⟩:=h8;exact gone _ σ' H8 I8 _ fun s9 I9=>⟨v,_,H8,I9,r,q⟩
end
end FL
namespace FL
open PySem PySem.Spec PyProof.Rows L2
noncomputable def IsxOk(K:Frag)(cv:Value)(tb:List (Nat×Bool)):Prop:=∀t b,tb.lookup t=some b->∀C,aJ K mainGlobals (xName t)=some (some (.ref C))->XIn K C/\dZ K (.ref C) cv=some b
section
variable{X:Cx}
theorem WD:CallR X (.builtin "isinstance") (fun xs H Q=>∃a o u C c cv b,xs=[.ref a,c]/\clsV c cv/\H a=some (.frz o u)/\o.cls=.ref C/\XIn X.K C/\dZ X.K (.ref C) cv=some b/\Q (.bl b) H):=by
 intro pins s σ H xs us Q I r h;obtain⟨a,o,v,C,c,cv,b,rfl,hc,ha,ho,hx,e,q⟩:=h;obtain⟨u,u2,rfl,ru,ru2⟩:=vals2 r
 have e2:u2=cv:=by
  cases c with
  |ty n=>cases(show cv=.type n from hc);cases(show u2=.type n from ru2);rfl
  |ref a=>cases(show cv=.ref a from hc);cases(show u2=.ref a from ru2);rfl
  |_=>exact(show False from hc).elim
 subst e2;cases(show u=Value.ref a from ru);have hg:s.heap.get? a=some o:=(show s.heap.get? a=some o/\ObjOk X.prog X.w H s.heap a v from I.hok a _ ha).1;exact cA (UZ hx) I.kIn ⟨o,hg,ho⟩ e (fun z=>nomatch z) fun tk=>⟨.bl b,H,I.tok tk,rfl,q⟩
section
variable{en:Str}{i:Nat}{p pe pT pos:Pos}{tb:List (Nat×Bool)}
theorem VF{σ : L2.St}{H₀ H:Hp}{O:Addr->Prop}{ds:List Sl}{hd:Hold}{d:D}(o:Ok X.K H₀ H O σ ds hd)(e:isxG i tb ds=some d):∃t b,ds[i]?=some (.exc t)/\tb.lookup t=some b/\d=.bl b:=by
 unfold isxG at e;cases hs:ds[i]? with
 |none=>rw[hs] at e;cases e
 | some s =>
   rw[hs] at e;cases s with
   | exc t =>
     simp only at e;cases hl:tb.lookup t with
     |none=>rw[hl] at e;cases e
     |some b=>rw[hl] at e;cases e;exact⟨t,b,rfl,hl,rfl⟩
   |no=>cases e
   |v d=>cases e
   |own l=>cases e
   |fr l=>cases e
   |ob _ _=>cases e
theorem ED{x:Str}(hm:X.mg "isinstance" = none)(hI:∃D,X.mg x=some (.ref D)/\IsxOk X.K (.ref D) tb)(hN:X.N[i]?=some en:=by rfl)(hv:Vis X.env.scope en:=by exact Or.inl rfl)(hde:(en==("__debug__" : Str))=false:=by decide)
  (hcd:(en==("__classdict__" : Str))=false:=by decide) (hg:Gl X "isinstance":=by rfl) (hgT:Gl X x:=by rfl)
  (h1:starEach [.Name en pe,.Name x pT] X.env=(false,eval (.Name en pe) X.env)::starEach [.Name x pT] X.env:=by rfl) (h2:starEach [.Name x pT] X.env=(false,eval (.Name x pT) X.env)::starEach [] X.env:=by rfl) (h3:(backTo pos (starEach [.Name x pT] X.env)).any (·.1)=false:=by rfl)
  (hd:(x==("__debug__" : Str))=false:=by decide):PV X (.Call (.Name "isinstance" p) [.Name en pe,.Name x pT] [] pos) (isxG i tb):=by
 obtain⟨D,hT,hI⟩:=hI;refine⟨_,AD WD hg hm (by decide +kernel) (jS (wQ hN hv hde hcd) (jS (LU (v:=.ref D) hgT hT rfl hd) xB h2) h1) (by decide) (by decide) h1 h3,fun H₀ H O σ ds hd d Q o e q=>?_⟩;obtain⟨t,b,hs,hl,rfl⟩:=VF o e;obtain⟨a,C,ob,u,q1,q2,q3,q4⟩:=o.readX hs;obtain⟨x1,x2⟩:=hI t b hl C q2;exact⟨.ref a,q1,a,ob,u,C,.ref D,.ref D,b,rfl,rfl,q3,q4,x1,x2,q _ H (Same.refl _) (.bl b)⟩
end
end
structure XR(K:Frag)(mg:Str->Option Value)(t:Nat)(C:Addr):Prop where
 nm:aJ K mainGlobals (xName t)=some (some (.ref C))
 gl:mg (xName t)=some (.ref C)
 cls:XCls K C
structure XT(K:Frag)(mg:Str->Option Value)(t:Nat)(x:Str)(C S:Addr):Prop where
 nm:aJ K mainGlobals (xName t)=some (some (.ref C))
 gl:mg x=some (.ref S)
 cat:XCatch K C S
section
variable{X:Cx}{m:Str}{k j:Nat}{cs:List Nat}{F:Nat->List D->Option Ret}{o:Expr}{apos pos:Pos}{fo:FE}
theorem vX{pl:Sem Bool}(M:MCal X.prog X.w X.K X.mg X.base m k 0 cs F)(hr:Room j X.A)(ho:PV X o fo)(hj:k<=j:=by decide)
  (ht:eval (.Call (.Attribute o m apos) [] [] pos) X.env=(do
    let ov <- eval o X.env
    standAt apos.atName
    let (f,first) <- holding [ov] (getMethod ov m pl)
    callWith pos f first (backTo pos (starEach [] X.env)) (backToKw pos (keywordEach [] X.env))):=by rfl):PV X (.Call (.Attribute o m apos) [] [] pos) (methV 0 cs F fo zR):=by
 obtain⟨ta,pa,hfo⟩:=ho;refine⟨_,OC (pl:=pl) (k:=k) pa (hr.mono hj) ht,fun H₀ H O σ ds hd d Q o e q=>?_⟩;unfold methV at e;obtain⟨x,h1,e⟩:=bnd e;simp only[zR,aC] at e;obtain⟨r,h3,e⟩:=bnd e;refine UR (g:=zR) M hfo (fun _ H _ _ _ _ _ _ _ e q=>by cases e;exact q _ H (Same.refl _) .nil) o h1 rfl h3 fun v H1 H' s1 s' ro=>q v H' (s1.trans s') ?_;exact DX ro e fun a ha=>(o.mono s1).old ha
end
section
variable{X:Cx}{C:Addr}{x:Str}{p pos:Pos}
structure MkP(K:Frag)(mg:Str->Option Value)(t:Nat):Prop where
 ex:∃C,aJ K mainGlobals (gD t)=some (some (.ref C))/\mg (gD t)=some (.ref C)/\fT K C=true/\aR K (.ref C) "__init__" = some (some (.builtin "object.__init__"))/\bN K (.ref C)=true
theorem NU{pins:List (Addr×Obj)}{σ : L2.St}{H:Hp}{s:Shared}{Q:VK}(hm:fT X.K C=true)(hi:aR X.K (.ref C) "__init__" = some (some (.builtin "object.__init__")))(I:Inv X pins σ H s)
  (h:∀x dx,H x=none->H dx=none->dx≠x->Q (.ref x) (upd (upd H dx (.own x)) x (.ins C dx []))):wpAny (model X.prog X.w) X.A (call (.ref C) []) (EP X pins σ Q) X.xe s:=by
 have hq:=h (s.heap.objs.size+1) s.heap.objs.size (I.hok.fresh (Nat.le_succ _)) (I.hok.fresh (aQ _)) (bS (mP _));have I2:=Inv.made (C:=C) I;refine wpAny_call ?_;have X':=I.kIn;obtain⟨hh,g,d,t,os⟩:=s;have Y:=KN (M:=model X.prog X.w) X' hm;refine IK Y (FR X' hi) (fun self=>RH.of_pure (PySem.W.oi_bind self)) (.inr ⟨rfl,rfl⟩) ?_
 have gx:((hh.push cB).push (cR C hh.objs.size)).get? (hh.objs.size+1)=some (cR C hh.objs.size):=by
  have:=bF (hh.push cB) (o:=cR C hh.objs.size) rfl
  rwa [nT] at this
 have t1:RH (model X.prog X.w) ((hh.push cB).push (cR C hh.objs.size)) (typeOf (.ref (hh.objs.size+1))) (.ref C):=(CA gx).andThen .now;have t2:RH (model X.prog X.w) ((hh.push cB).push (cR C hh.objs.size)) (isInstance (.ref (hh.objs.size+1)) (.type "object")) true:=t1.andThen (Y.top.keeps fun b o e=>aL _ (aL _ e));refine codeAny_call_builtin PySem.W.oi_plain PySem.W.entry_oi (@PySem.W.check_slot (model X.prog X.w) _ _ _ "object.__init__" "object" "__init__" (.ref (hh.objs.size+1)) [] [] _ PySem.W.oi_kind PySem.W.oi_split t2 (PySem.W.oi_args (.ref (hh.objs.size+1))) ?_);rw[PySem.W.oi_run];exact wpAny_pure (And.intro rfl ⟨V.ref (hh.objs.size+1),_,I2,rfl,hq⟩)
theorem wY{t:Nat}(M:MkP X.K X.mg t)(hx:gD t=x:=by rfl)(hf:eK t=[]:=by rfl)(hg:Gl X x:=by rfl)(hdb:(x==("__debug__" : Str))=false:=by decide) :
  PVd X (.Call (.Name x p) [] [] pos) (zA (.ins t [])):=by
 obtain⟨C,hc,hm,mk,hi,kp⟩:=M.ex;subst hx;refine⟨fun σ H Q=>∀x dx,H x=none->H dx=none->dx≠x->Q (.ref x) (upd (upd H dx (.own x)) x (.ins C dx [])),fun pins s σ H Q I h=>?_,fun H₀ H O σ ds hd d Q o e q x dx nx ndx ne=>?_⟩
 . refine wpAny_Call_Name_kw (wG I hg hm ?_ hdb);exact FU I.kIn kp (NU mk hi I h)
 . cases e;refine q _ _ (fun b u e=>?_) (.ins hc (fun z=>?_) cF (by rw [hf]; rfl) .nil)
   . rw[zX (fun z=>by rw[z,nx] at e;cases e),zX (fun z=>by rw[z,ndx] at e;cases e)];exact e
   . obtain⟨u, e, _⟩ := z;rw[nx] at e;cases e
end
theorem xY{K:Frag}{C C':Addr}(u:fU K C=true)(y:fJ K (.ref C)=some (.type "type"))(s:bX K (.ref C') (.ref C)=some true):mV K (.ref C') (.ref C)=some true:=by
 unfold mV;simp only;rw[show(nP K C).isSome=true from u,y,if_pos (by simp),s]
section
variable{K:Frag}{H:Hp}{O:Addr->Prop}{a:Addr}{xs ys:List V}
end
section
variable{X:Cx}
end
theorem yU{P:Program}{w:World}{K:Frag}{mg:Str->Option Value}{base:Heap}{N:List Str}{qual:Str}{scope:Scope}{f:Addr}{cd:Value}{A:Around}{outer:List Env}{s:Shared}{H:Hp}{E:XK} :
  mO (CXM P w) (cxOf (CXM P w) P w K mg base N qual scope f cd A outer s H E) E:=by
 intro pins σ H1 s1 e s' I h;obtain⟨ea,cls,a0,B,H',rfl,os,bare,T,hE⟩:=h;have hfr:frs (envOfC qual scope s.heap.objs.size f cd::outer)=s.heap.objs.size::frs outer:=rfl
 have nm:∀b o,s.heap.get? b=some o->b∉frs outer->b∉frs (envOfC qual scope s.heap.objs.size f cd::outer):=fun b o q n z=>by
  rw[hfr] at z;rcases aF.mp z with z | z
  . exact absurd (aU q) (by rw[z];exact bZ _)
  . exact n z
 show wpAny _ _ (leaving _ _) _ _ _;refine leave2 I.ok.frames rfl T.fly fun h' x1 x4=>?_;refine⟨ea,cls,a0,B,H',rfl,os.trans I.os,bare,⟨x1,fun b o q n hb=>?_,fun b o q hb=>?_,fun b o q hb=>?_,fun b o q n=>?_,fun b xs q=>T.tups b xs (I.base.tups b xs q),fun b o u q=>T.frzs b o u (I.base.frzs b o u q),fun b ps q=>?_,T.hok⟩,hE⟩
 . exact T.keep b o (I.base.keep b o q n hb (by intro z;cases z)) (I.base.free b o q n (by intro z;cases z)) (nm b o q hb)
 . obtain⟨o', q'⟩ := I.base.there b o q (by intro z;cases z);exact T.there b o' q' (nm b o q hb)
 . obtain⟨sl, q'⟩ := I.base.slot b o q (I.ok.frf b hb) hb (by intro z;cases z);obtain⟨sl2,q2⟩:=T.slot b _ q' (aI _ hb);obtain⟨_,ob,ho,hd⟩:=I.ok.funs.mem hb;have ho':s.heap.get? b=some ob:=ho;rw[q] at ho';cases ho';obtain⟨sl',q''⟩:=x4 b _ q2 hd;exact⟨sl',q''⟩
 . obtain⟨o', q'⟩ := I.base.there b o q (by intro z;cases z);exact T.free b o' q' (I.base.free b o q n (by intro z;cases z))
 . exact T.tbls b ps (I.base.tbls b ps q)
section
variable(X:Cx)(E:XK)(C:Addr)
noncomputable def PSy(st:Stmt)(x:List Sl->Bool):Prop:=∃t,PS X st t/\∀H₀ H O σ ds hd D,Ok X.K H₀ H O σ ds hd->x ds=true->(∀σ' H',Same H₀ H'->XeOk X C σ' H')->(∀H',Same H₀ H'->E (.ref C) none H')->t D σ H
noncomputable def PSsy(st:List Stmt)(x:List Sl->Bool):Prop:=∃t,PSs X st t/\∀H₀ H O σ ds hd D,Ok X.K H₀ H O σ ds hd->x ds=true->(∀σ' H',Same H₀ H'->XeOk X C σ' H')->(∀H',Same H₀ H'->E (.ref C) none H')->t D σ H
noncomputable def PEy(e:Expr)(x:List Sl->Bool):Prop:=∃t,PE X e t/\∀H₀ H O σ ds hd Q,Ok X.K H₀ H O σ ds hd->x ds=true->(∀H',Same H₀ H'->E (.ref C) none H')->t σ H Q
noncomputable def FM(st:List Stmt):Prop:=∃t,PSs X st t
end
section
variable{X:Cx}{E:XK}{C:Addr}
theorem PSx.y{st:Stmt}{x:List Sl->Bool}(h:PSx X C st x):PSy X E C st x:=by
 obtain⟨t,ht,hf⟩:=h;exact⟨t,ht,fun H₀ H O σ ds hd D o e q _=>hf H₀ H O σ ds hd D o e q⟩
theorem PSsv.any{st:List Stmt}{g:FS}(h:PSsv X st g):FM X st:=let ⟨t,ht,_⟩:=h;⟨t,ht⟩
theorem qZ{st:List Stmt}(h:FM X st):PSsy X E C st dI:=by
 obtain⟨t,ht⟩:=h;exact⟨t,ht,fun _ _ _ _ _ _ _ _ e _ _=>by cases e⟩
theorem qG{st:Stmt}{rest:List Stmt}{x:List Sl->Bool}(h1:PSy X E C st x)(h2:FM X rest):PSsy X E C (st::rest) x:=by
 obtain⟨t,ht,hf⟩:=h1;obtain⟨u,hu⟩:=h2;exact⟨_,wX ht hu,fun H₀ H O σ ds hd D o e q p=>hf H₀ H O σ ds hd _ o e q p⟩
theorem qB{st:Stmt}{rest:List Stmt}{f:FS}{x:List Sl->Bool}(h1:PSv X st f)(h2:PSsy X E C rest x):PSsy X E C (st::rest) (seqX f x):=by
 obtain⟨t,ht,hf⟩:=h1;obtain⟨u,hu,hg⟩:=h2;refine⟨_,wX ht hu,fun H₀ H O σ ds hd D o e q p=>?_⟩;unfold seqX at e;cases h1:f ds with
 |none=>rw[h1] at e;cases e
 | some o1 =>
   rw[h1] at e;cases o1 with
   |nx ds'=>exact hf H₀ H O σ ds hd _ _ o h1 (fun σ' H' O' o'=>hg H₀ H' O' σ' ds' hd D o' e q p)
   |_=>cases e
theorem ps_or{st:Stmt}{t u:TS}(h1:PS X st t)(h2:PS X st u):PS X st (fun D σ H=>t D σ H\/u D σ H):=fun pins s σ H D I h=>h.elim (h1 pins s σ H D I) (h2 pins s σ H D I)
theorem jW{st:Stmt}{rest:List Stmt}{f:FS}{x y:List Sl->Bool}(h0:PSy X E C st x)(h1:PSv X st f)(h2:PSsy X E C rest y):PSsy X E C (st::rest) (orX x (seqX f y)):=by
 obtain⟨t0,ht0,hf0⟩:=h0;obtain⟨t,ht,hf⟩:=h1;obtain⟨u,hu,hg⟩:=h2;refine⟨_,wX (ps_or ht0 ht) hu,fun H₀ H O σ ds hd D o e q p=>?_⟩;unfold orX at e;rcases fO.mp e with e | e
 . exact .inl (hf0 H₀ H O σ ds hd _ o e q p)
 . refine .inr ?_;unfold seqX at e;cases h1:f ds with
   |none=>rw[h1] at e;cases e
   | some o1 =>
     rw[h1] at e;cases o1 with
     |nx ds'=>exact hf H₀ H O σ ds hd _ _ o h1 (fun σ' H' O' o'=>hg H₀ H' O' σ' ds' hd D o' e q p)
     |_=>cases e
theorem xK{c:Expr}{a b:List Stmt}{pos:Pos}{fc:FT}{xa xb:List Sl->Bool}(hc:PTv X c fc)(ha:PSsy X E C a xa)(hb:PSsy X E C b xb):PSy X E C (.If c a b pos) (ifX fc xa xb):=by
 obtain⟨tc,hc,hcf⟩:=hc;obtain⟨ta,ha,haf⟩:=ha;obtain⟨tb,hb,hbf⟩:=hb;refine⟨_,ps_if hc ha hb,fun H₀ H O σ ds hd D o e q p=>?_⟩;unfold ifX at e;cases hh:fc ds with
 |none=>rw[hh] at e;cases e
 | some k =>
   rw[hh] at e;refine hcf H₀ H O σ ds hd k _ o hh fun H' s=>?_;cases k with
   |true=>exact haf H₀ H' O σ ds hd D (o.mono s) e q p
   |false=>exact hbf H₀ H' O σ ds hd D (o.mono s) e q p
theorem xW{e:Expr}{pos:Pos}{x:List Sl->Bool}(h:PEy X E C e x):PSy X E C (.Return (some e) pos) x:=by
 obtain⟨t,ht,hf⟩:=h;exact⟨_,rK ht,fun H₀ H O σ ds hd D o e _ p=>hf H₀ H O σ ds hd _ o e p⟩
section
variable{k j n:Nat}{R:List D->Bool}{x:Str}{p pos:Pos}{e:Expr}{es:List Expr}{g:FA}
theorem jJ(hp:mO (CXM X.prog X.w) X E)(CX:CalX X.prog X.w X.K X.mg X.base x k n R C)(hr:Room j X.A)(ha:PAn X (e::es) g)(hj:k<=j:=by decide)(hg:Gl X x:=by rfl)(hdb:(x==("__debug__" : Str))=false:=by decide)
  (he:starEach (e::es) X.env=(false,eval e X.env)::starEach es X.env:=by rfl) (hpl:(backTo pos (starEach es X.env)).any (·.1)=false:=by rfl):PEy X E C (.Call (.Name x p) (e::es) [] pos) (callX n R g):=by
 obtain⟨f,fd,ps,Fn,hb,hk,hm⟩:=CX.ex;obtain⟨t,ht,hf⟩:=ha;refine⟨_,uB (E:=E) Fn (hr.mono hj) hg hm hk hb .nil hp ht hdb he hpl,fun H₀ H O σ ds hd Q o ex q=>?_⟩;unfold callX at ex;cases hl:g ds with
 |none=>rw[hl] at ex;cases ex
 | some l =>
   rw[hl] at ex;simp only[bD,decide_eq_true_eq] at ex;refine hf H₀ H O σ ds hd l _ o hl fun vs H1 s1 r1=>?_;have hl':=r1.length;exact⟨by simp only[fG];rw[hl'];exact ex.1,l,by simpa using r1,ex.2,fun H' s'=>q H' (o.same.trans (s1.trans s'))⟩
end
end
theorem yL{P:Program}{w:World}{K:Frag}{mg:Str->Option Value}{base:Heap}{x qual:Str}{st:Stmt}{f C:Addr}{fd:FuncData}{N ps:List Str}{k:Nat}{R:List D->Bool}(Fn:Fun K x qual st f fd)(S:FnScope N ps (zH st))
  {g:List Sl->Bool} (hbody:∀(cdv:Value) (A:Around) (outer:List Env) (s:Shared) (H:Hp) (E:XK),Room k (A.deeper (envOfC qual (zH st) s.heap.objs.size f cdv))->PSsy (cxOf (CXM P w) P w K mg base N qual (zH st) f cdv A outer s H E) E C (qS st) g)
  (hg:∀ds,ds.length=ps.length->R ds=true->g (args N.length ds)=true):FnOk P w K mg base (CXM P w) (k+1) f fd ps (spX K ps.length R C):=by
 obtain⟨oc,od,kV,doc,pm,an,cdv,ct,osl,rfl,lk,hcd⟩:=Fn.ex;refine fn_of lk hcd S (fun vs H Q E h=>h.1) fun A outer s H vs Q E hr h=>?_;obtain⟨hl,ds,rv,e,q⟩:=h;obtain⟨t,ht,hf⟩:=hbody cdv A outer s H E hr;exact⟨t,ht,hf H H yE _ _ [] _ (GV (N:=N) rv) (hg ds (by rw[<- rv.length];exact hl) e) (fun σ' H' s'=>RP (q H' s')) q⟩
section
variable{X:Cx}{E:XK}{C:Addr}{t k j n:Nat}{R:List D->Bool}{x:Str}{p pos:Pos}{e:Expr}{es:List Expr}{g:FA}
end
section
variable{X:Cx}
end
structure RoomH(k:Nat)(A:Around):Prop where
 dp:A.depth+3*k+5<recursionLimit
 un:A.units+16*k+200<cLine
theorem RoomH.mono{j k:Nat}{A:Around}(r:RoomH k A)(h:j<=k):RoomH j A:=⟨by have:=r.dp;omega,by have:=r.un;omega⟩
theorem RoomH.depth{k:Nat}{A:Around}(r:RoomH k A):A.depth<recursionLimit:=by have:=r.dp;omega
section
variable{X:Cx}{k j i:Nat}{F:Nat->Option Ret}{x en:Str}{p pe pos:Pos}
end
theorem uF{K:Frag}{cv:Value}: IsxOk K cv []:=fun t b e=>by cases e
theorem jI{K:Frag}{cv:Value}{t:Nat}{b:Bool}{C:Addr}{tb:List (Nat×Bool)}(n:aJ K mainGlobals (xName t)=some (some (.ref C)))(x:XIn K C)(k:dZ K (.ref C) cv=some b)(r:IsxOk K cv tb):IsxOk K cv ((t,b)::tb):=fun t' b' e C' n'=>by
 by_cases h:t'=t
 . subst h;simp[List.lookup] at e;subst e;rw[n] at n';cases n';exact⟨x,k⟩
 . have hf : (t'==t)=false := beq_eq_false_iff_ne.mpr h;simp only[List.lookup,hf] at e;exact r t' b' e C' n'
end FL
namespace L2
open PySem PySem.Spec PyProof.Rows
section
variable{X:Cx}
end
end L2
namespace FL
open PySem PySem.Spec PyProof.Rows L2
section
variable{X:Cx}
end
section
variable{X:Cx}
variable(X) in
noncomputable def PVe(e:Expr)(f:FE):Prop:=∃t,PE X e t/\∀H₀ H O σ ds hd d Q,Ok X.K H₀ H O σ ds hd->f ds=some d->(∀v H',Same H H'->Rep X.K H' (Old H₀) v d->Q v H')->t σ H Q
variable(X) in
noncomputable def PAe(es:List Expr)(f:FA):Prop:=∃t,PA X es t/\∀H₀ H O σ ds hd l Q,Ok X.K H₀ H O σ ds hd->f ds=some l->(∀vs H',Same H H'->Reps X.K H' (Old H₀) vs l->Q vs H')->t σ H Q
theorem PVd.e{e:Expr}{f:FE}(h:PVd X e f):PVe X e f:=by
 obtain⟨t,ht,hf⟩:=h;exact⟨t,ht,fun H₀ H O σ ds hd d Q o e q=>hf H₀ H O σ ds hd d Q o e fun v H' s r=>q v H' s (r.less fun a z=>Old.mono o.same z)⟩
theorem YS:PAe X [] zR:=⟨_,xB,fun _ H _ _ _ _ _ _ _ e q=>by cases e;exact q _ H (Same.refl _) .nil⟩
theorem GT{e:Expr}{es:List Expr}{f:FE}{g:FA}(ha:PVe X e f)(hr:PAe X es g)(hs:starEach (e::es) X.env=(false,eval e X.env)::starEach es X.env:=by rfl):PAe X (e::es) (zF f g):=by
 obtain⟨t,ht,hf⟩:=ha;obtain⟨u,hu,hg⟩:=hr;refine⟨_,jS ht hu hs,fun H₀ H O σ ds hd l Q o e q=>?_⟩;unfold zF at e;obtain⟨x,h,e⟩:=bnd e;obtain⟨r,h2,rfl⟩:=mpd e;refine hf H₀ H O σ ds hd x _ o h fun v H1 s1 r1=>?_;refine hg H₀ H1 O σ ds hd r _ (o.mono s1) h2 fun vs H2 s2 r2=>?_;exact q _ H2 (s1.trans s2) (.cons (r1.mono s2) r2)
theorem YC{es:List Expr}{x1}{pos:Pos}{g:FA}(h:PAe X es g):PVe X (.Tuple es x1 pos) (mkT (qI g)):=by
 obtain⟨t,ht,hf⟩:=h;refine⟨_,JG ht,fun H₀ H O σ ds hd d Q o e q=>?_⟩;unfold mkT qI at e;cases h:g ds with
 |none=>rw[h] at e;cases e
 | some l' =>
   rw[h] at e;simp only[aC] at e
   split at e
   . rename_i hl;cases e;refine hf H₀ H O σ ds hd l' _ o h fun vs H1 s1 r1=>⟨by rw [r1.length]; exact hl,fun p hp=>?_⟩
     refine q _ _ (s1.trans (jA hp _)) ?_;exact .tup (MA ((o.same.trans s1).free hp)) (.inl cF) (r1.mono (jA hp _))
   . cases e
theorem TD{e:Expr}{pos:Pos}{f:FE}(he:PVe X e f):PSv X (.Return (some e) pos) (retDG f):=by
 obtain⟨t,ht,hg⟩:=he;refine⟨_,rK ht,fun H₀ H O σ ds hd out E o e h=>?_⟩;unfold retDG at e;obtain⟨d,h1,rfl⟩:=mpd e;exact hg H₀ H O σ ds hd d _ o h1 fun v H' s r=>h _ _ (o.same.trans s) r True.intro
end
end FL
namespace L2
open PySem PySem.Spec PyProof.Rows
section
variable{X:Cx}
end
end L2
namespace FL
open PySem PySem.Spec PyProof.Rows L2
section
variable{X:Cx}
end
end FL
namespace L2
open PySem PySem.Spec PyProof.Rows
section
variable{prog:Program}{w:World}{A:Around}{E:Value->Shared->Prop}{s:Shared}
end
section
variable{X:Cx}
end
end L2
namespace FL
open PySem PySem.Spec PyProof.Rows L2
section
variable{X:Cx}
end
open PySem.W (tabIn CodeHd tabObj kla_eval kla_makeFunction kla_makeFunctionHit kla_obj kla_fn kla_callFunE kla_codeExpr FnAt callWith_F envX)
section
variable{X:Cx}
end
section
variable{X:Cx}{pins:List (Addr×Obj)}{σ : L2.St}{H H':Hp}{s s':Shared}{cs:List Addr}
end
section
variable{K:Frag}{H:Hp}{O:Addr->Prop}{cs:List Addr}
end
section
variable{X:Cx}
theorem LamAt.mono{H H':Hp}{O:Addr->Prop}{f:Addr}{t:LamT}{cl:List (Str×Addr)}(k:Same H H')(h:LamAt H O f t cl):LamAt H' O f t cl:=h.keep (.of_same k)
end
end FL
namespace FL
open PySem PySem.Spec PyProof.Rows L2
open PySem.W (tabIn CodeHd tabObj kla_callFunE kla_codeExpr FnAt callWith_F envX)
section
variable{X:Cx}
section
variable{k j' n m j:Nat}{F:List D->Option Ret}{x y:Str}{p pos:Pos}{e:Expr}{es:List Expr}{g:FA}{is:List Nat}{t:LamT}{st:Stmt}{f c P:Addr}
end
end
theorem ClosOk.get{H:Hp}{O:Addr->Prop}:∀{cl:List (Str×Addr)} {xs:List V},ClosOk H O cl xs->∀{i:Nat} {v:V},xs[i]?=some v->∃p o u w,cl[i]?=some p/\H p.2=some (.frz o u)/\o.data=.cell (some w)/\RelV v w
 |_,_,.nil,_,_,h=>by cases h
 |_,_,.cons no h d r t,0,v,hv=>by cases hv;exact⟨_,_,_,_,rfl,h,d,r⟩
 |_,_,.cons no h d r t,i+1,v,hv=>t.get hv
theorem ClosOk.length{H:Hp}{O:Addr->Prop}:∀{cl:List (Str×Addr)} {xs:List V},ClosOk H O cl xs->cl.length=xs.length
 |_,_,.nil=>rfl
 |_,_,.cons no h d r t=>by simp[t.length]
noncomputable def FQ(P:Program)(w:World)(K:Frag)(mg:Str->Option Value)(base:Heap)(k m n:Nat)(F:List D->List D->Option Ret):Prop:=∀(A:Around) (outer:List Env) (s:Shared) (H:Hp) (f:Addr) (caps:List D) (us:List Value) (vs:List V) (as:List D) (r:Ret) (Q:VK),Room k A->Env0 P w K mg base A outer s H →
 Rep K H yE (.ref f) (.clo m n caps)->Vals vs us->Reps K H yE vs as->F caps as=some r->(∀v H',Same H H'->RetOk K H H' v r->Q v H')->codeAny (model P w) A (.call (.ref f) ⟨us,[]⟩) (CR CX0 outer P w H s Q E0) s
section
variable{X:Cx}{k j i:Nat}{Φ : Fun2}{x:Str}{p pos:Pos}{e:Expr}{es:List Expr}{g:FA}
end
end FL
namespace FL
open PySem PySem.Spec PyProof.Rows L2
theorem Reps.pick{K:Frag}{H:Hp}{O:Addr->Prop}{xs:List V}{ds:List D}(r:Reps K H O xs ds):∀ix:List Nat,Reps K H O (ix.filterMap (xs[·]?)) (ix.filterMap (ds[·]?))
 |[]=>.nil
 | i :: ix => by
   have ih:=r.pick ix;rw[dE,dE];cases hd:ds[i]? with
   | none =>
     have:xs[i]?=none:=by
      rw[CB] at hd ⊢;rw[r.length];exact hd
     rw[this];exact ih
   | some d =>
     obtain⟨v,h1,h2⟩:=r.get hd;rw[h1];exact .cons h2 ih
theorem CG{xs:List V}{us:List Value}(r:Vals xs us):∀ix:List Nat,Vals (ix.filterMap (xs[·]?)) (ix.filterMap (us[·]?))
 |[]=>.nil
 | i :: ix => by
   have ih:=CG r ix;rw[dE,dE];cases hd:xs[i]? with
   | none =>
     have:us[i]?=none:=by
      rw[CB] at hd ⊢;rw[<- r.length];exact hd
     rw[this];exact ih
   | some v =>
     obtain⟨u,h1,h2⟩:=r.get hd;rw[h1];exact .cons h2 ih
theorem uS(its:List Value)(lo hi:Option Int)(c:Int):slicePick its.toArray lo hi (some c)=(wI its lo hi c).toArray:=by
 unfold slicePick wI;simp
section
variable{X:Cx}
theorem YQ{e:Expr}{lo hi:Option Expr}{te:TE}{tl th:TO}{c:Int}{j:Nat}{cp p2 pos:Pos}(he:PE X e te)(hl:PO X lo tl)(hu:PO X hi th)(hc:c≠0) :
  PE X (.Subscript e (.Slice lo hi (some (.Constant (.int c) j cp)) p2) pos) (fun σ H Q=>te σ H fun x H1=>tl σ H1 fun l H2=>th σ H2 fun u H3=>∃a xs,x=.ref a/\SqL X.K H3 a xs/\∀p,H3 p=none->Q (.ref p) (upd H3 p (.lst (wI xs l u c)))):=by
 intro pins s σ H Q I h;refine Subscript_ (thn (he pins s σ H _ I h) fun v s1 ⟨x,H1,I1,r1,q1⟩=>?_);refine wpAny_Slice (thn (hl pins s1 σ H1 _ I1 q1) fun vl s2 ⟨l,H2,I2,pl,q2⟩=>thn (hu pins s2 σ H2 _ I2 q2) fun vu s3 ⟨u,H3,I3,pu,q3⟩=>?_);rw[evalPart_some];refine wpAny_Constant_int ?_;obtain⟨a,xs,rfl,hx,q⟩:=q3;cases r1;generalize hct:Value.int c s3.toks=vc;have pc:IsPart vc (some c):=by rw[<- hct];exact .int c _
 have I4:Inv X pins σ H3 { s3 with heap:=s3.heap.push { cls:=.type "slice",data:=.fields #[vl,vu,vc] },toks:=s3.toks+1 }:=I3.kept (t':=s3.toks+1) fun b ob q=>aL _ q;obtain⟨its,r,ht,hz⟩:=I4.list hx;have hlen:=r.length
 have hg:wpAny (model X.prog X.w) X.A (getItem (.ref a) (.ref s3.heap.objs.size)) (EP X pins σ Q) X.xe { s3 with heap:=s3.heap.push { cls:=.type "slice",data:=.fields #[vl,vu,vc] },toks:=s3.toks+1 }:=by
  refine wpAny_getItem_list_slice ht.isList (uM ..) pl pu pc (fun z=>hc (Option.some.inj z)) ?_ (by rw[aX];omega);have hsl:=slicePick_size_le its.toArray l u (some c);rw[uS] at hsl ⊢;refine⟨.ref _,_,I4.laid (t':=s3.toks+1) (o:=.lst (wI xs l u c)) (fun b ob q=>aL _ q) (aQ _) ?_,rfl,q _ (I4.hok.fresh (aQ _))⟩
  have rp:Vals (wI xs l u c) (wI its l u c):=by
   unfold wI;rw[hlen];exact CG r _
  refine⟨?_,_,0,rp,bF _ rfl⟩;rw[rp.length];simp only[aX] at hsl;omega
 show wpAny (model X.prog X.w) X.A (subscriptTail e (.Slice lo hi (some (.Constant (.int c) j cp)) p2) (.ref a) (.ref s3.heap.objs.size)) (EP X pins σ Q) X.xe _;exact tail_any (ops:=[.ref a,.ref s3.heap.objs.size]) ht.isList.typeIs slot_list_getitem.lookup hg (by with_unfolding_all rfl)
theorem wV{e:Expr}{lo hi:Option Expr}{f:FE}{gl gh:List Sl->Option (Option Int)}{c:Int}{j:Nat}{cp p2 pos:Pos}(he:PVw X e f)(hl:POv X lo gl)(hh:POv X hi gh)(hc:c≠0:=by decide) :
  PVf X (.Subscript e (.Slice lo hi (some (.Constant (.int c) j cp)) p2) pos) (stpA f gl gh c):=by
 obtain⟨te,pe,he⟩:=he;obtain⟨tl,pl,hl⟩:=hl;obtain⟨th,ph,hh⟩:=hh;refine⟨_,YQ pe pl ph hc,fun H₀ H O σ ds hd l Q o e q=>?_⟩;unfold stpA at e;cases h1:f ds with
 |none=>rw[h1] at e;cases e
 | some d =>
   cases h2:gl ds with
   |none=>rw[h1,h2] at e;cases e
   | some a =>
     cases h3:gh ds with
     |none=>rw[h1,h2,h3] at e;cases e
     | some b =>
       rw[h1,h2,h3] at e;simp only[aC] at e;cases d<;>first | (cases e;done) | skip
       rename_i l0;cases e;refine he H₀ H O σ ds hd _ _ o h1 fun v H1 s1 r1=>?_;refine hl H₀ H1 O σ ds hd _ _ (o.mono s1) h2 fun H2 s2=>?_;refine hh H₀ H2 O σ ds hd _ _ ((o.mono s1).mono s2) h3 fun H3 s3=>?_;obtain⟨a1,xs,rfl,hq,rs⟩:=((r1.mono s2).mono s3).seqL;refine⟨a1,xs,rfl,hq,fun p hp=>?_⟩;have ss:=(s1.trans s2).trans s3;refine q p _ _ (ss.trans (jA hp _)) (ss.free hp) cF ?_
       have rp:Reps X.K H3 O (wI xs a b c) (wI l0 a b c):=by
        unfold wI;rw[rs.length];exact rs.pick _
       exact(rp.more hp).mono (jA hp _)
end
open PySem.W (tabIn CodeHd tabObj makeFunction_K makeFunction_hit fnMade fnX nestDef_K kla_callFunE envX)
section
variable{X:Cx}{pins:List (Addr×Obj)}{σ : L2.St}{H:Hp}{s:Shared}
end
section
variable{X:Cx}
end
section
variable{X:Cx}{pins:List (Addr×Obj)}{σ : L2.St}{H:Hp}{s:Shared}{cs:List Addr}
end
section
variable{X:Cx}
end
theorem FQ.mono{P:Program}{w:World}{K:Frag}{mg:Str->Option Value}{base:Heap}{j k m n:Nat}{F:List D->List D->Option Ret}(h:FQ P w K mg base j m n F)(hj:j<=k):FQ P w K mg base k m n F :=
 fun A outer s H f caps us vs as r Q hr=>h A outer s H f caps us vs as r Q (hr.mono hj)
end FL
namespace FL
open PySem PySem.Spec PyProof.Rows L2
section
variable{X:Cx}{tg:Expr}
end
section
variable{X:Cx}
theorem qH{st:List Stmt}: FM X st:=⟨fun _ _ _=>False,fun _ _ _ _ _ _ h=>h.elim⟩
end
open PySem.W (tabIn CodeHd)
section
variable{X:Cx}
end
section
variable{X:Cx}{E:XK}{C:Addr}
theorem EH{i:Nat}{x:Str}{e:Expr}{pos pos':Pos}{y:List Sl->Bool}(hN:X.N.Nodup)(h:PEy X E C e y)(hi:X.N[i]?=some x:=by rfl)(hx:Loc X.env.scope x:=by first | exact Or.inl rfl | exact Or.inr rfl)(hs:swapsWith e (some (.Name x pos')) pos.line X.env=pure false:=by rfl)
  (hf:X.fn x=true\/X.env.scope.names.lookup x=some .local:=by first | exact .inl rfl | exact .inr rfl):PSy X E C (.Assign [.Name x pos'] e pos) y:=by
 obtain⟨t,ht,hg⟩:=h;exact⟨_,JD hN hi hx ht hs hf,fun H₀ H O σ ds hd D o e _ p=>hg H₀ H O σ ds hd _ o e p⟩
end
section
variable{X:Cx}{k j:Nat}{n:Nat}{F:List D->Option Ret}{x:Str}{p pos:Pos}{e:Expr}{es:List Expr}{g:FA}
theorem CN(C:Cal X.prog X.w X.K X.mg X.base x k n F)(hr:Room j X.A)(ha:PAn X (e::es) g)(hj:k<=j:=by decide)
  (hg:Gl X x:=by rfl) (hdb:(x==("__debug__" : Str))=false:=by decide) (he:starEach (e::es) X.env=(false,eval e X.env)::starEach es X.env:=by rfl) (hpl:(backTo pos (starEach es X.env)).any (·.1)=false:=by rfl) :
  PVd X (.Call (.Name x p) (e::es) [] pos) (qJ n F g):=by
 obtain⟨f,fd,ps,Fn,hb,hk,hm⟩:=C.ex;obtain⟨t,ht,hf⟩:=ha;refine⟨_,uB (CX:=CX0) (E:=E0) Fn (hr.mono hj) hg hm hk hb .nil pass0 ht hdb he hpl,fun H₀ H O σ ds hd d Q o e q=>?_⟩;unfold qJ at e;obtain⟨l,h,e⟩:=bnd e
 split at e
 . rename_i hln;obtain⟨r,h2,e⟩:=bnd e;refine hf H₀ H O σ ds hd l _ o h fun vs H1 s1 r1=>?_;have hl:=r1.length;refine⟨by simp only[fG];omega,l,r,by simpa using r1,h2,fun v H' s' ro=>q v H' (s1.trans s') ?_⟩;exact DX ro e fun a ha=>Old.mono s1 ha
 . cases e
end
end FL
namespace FL
open PySem PySem.Spec PyProof.Rows L2
noncomputable def Thr(X:Cx)(E:XK):Value->Shared->Prop:=fun e s'=>∃(pins:List (Addr×Obj)) (σ : L2.St) (H1:Hp) (s1:Shared) (ea:Addr) (cls a0:Value) (B:Heap) (H':Hp) (h0:Heap),e=.ref ea/\Inv X pins σ H1 s1/\s'.os=s1.os/\AllBare s'.gens ∧
 Thrown X.prog X.w X.stack H1 s1 cls ea a0 B H' h0/\E cls none H'/\(h0=s'.heap\/(h0.UpToSlots s'.heap/\Fl2 B X.stack ea cls a0 (rawInt X.env.locals) s'.heap))
section
variable{X:Cx}{E:XK}{C:Addr}
theorem XH(hst:X.stack=X.env::X.outer)(hfr:X.env.frame=some X.env.locals):PassesOwn (model X.prog X.w) X.A X.env (Thr X E):=by
 rintro _ s' ⟨pins,σ,H1,s1,ea,cls,a0,B,H',h0,rfl,I,os,bare,T,hE,hh⟩;have hA:X.A.frames=some (X.env::X.outer):=by rw[<- hst];exact I.ok.frames
 have back:∀h4,h0.UpToSlots h4->Fl2 B X.stack ea cls a0 (rawInt X.env.locals) h4->cameBackBy (model X.prog X.w) X.A X.env (Thr X E) (.ref ea) { s' with heap:=h4 }:=fun h4 sm hd=>by
  obtain⟨_,_,_,oe,vs,TT,oT,ts,q1,q2,q3,q4,_⟩:=id hd;unfold cameBackBy;refine wpAny_bind (wpAny_field (s:={ s' with heap:=h4 }) q1 q3 q4 ?_);rw[if_neg (by simp)];show wpAny _ _ (setFlight (.ref ea) X.env.frame) _ _ _;rw[hfr];exact set2 (s:={ s' with heap:=h4 }) hd fun h5 hd5 sm5=>⟨pins,σ,H1,s1,ea,cls,a0,B,H',h0,rfl,I,os,bare,T,hE,.inr ⟨sm.trans sm5,hd5⟩⟩
 unfold notedBy;rcases hh with rfl | ⟨sm,hd⟩
 . exact note2 hA hfr (by rw[<- hst];exact T.fly) fun h4 hd4 sm4=>back h4 sm4 (by rw[hst];exact hd4)
 . exact wF hfr hd (back s'.heap sm hd)
theorem uN:mO (CXM X.prog X.w) (X.wish (Thr X E)) E:=by
 intro pins σ H1 s1 e s' I h;obtain⟨ea,cls,a0,B,H',rfl,os,bare,T,hE⟩:=h;exact⟨pins,σ,H1,s1,ea,cls,a0,B,H',s'.heap,rfl,I.unwish,os,bare,T,hE,.inl rfl⟩
end
theorem DQ{P:Program}{w:World}{K:Frag}{mg:Str->Option Value}{base:Heap}{N:List Str}{qual:Str}{scope:Scope}{f:Addr}{cd:Value}{A:Around}{outer:List Env}{s:Shared}{H:Hp}{E:XK} :
  ∀e s',Thr (cxOf (CXM P w) P w K mg base N qual scope f cd A outer s H E) E e s'->(cxOf (CXM P w) P w K mg base N qual scope f cd A outer s H E).xe e s':=by
 rintro _ s' ⟨pins,σ,H1,s1,ea,cls,a0,B,H',h0,rfl,I,os,bare,T,hE,hh⟩;rcases hh with rfl | ⟨sm,hd⟩
 . exact yU pins σ H1 s1 _ s' I ⟨ea,cls,a0,B,H',rfl,os,bare,T,hE⟩
 . have hfr : frs (envOfC qual scope s.heap.objs.size f cd :: outer) = s.heap.objs.size :: frs outer := rfl
   have nm:∀b o,s.heap.get? b=some o->b∉frs outer->b∉frs (envOfC qual scope s.heap.objs.size f cd::outer):=fun b o q n z=>by
    rw[hfr] at z;rcases aF.mp z with z | z
    . exact absurd (aU q) (by rw[z];exact bZ _)
    . exact n z
   show wpAny _ _ (leaving _ _) _ _ _;unfold leaving;refine wpAny_bind (wF (L:=s.heap.objs.size) rfl hd ?_);refine set2 hd fun h' fl x4'=>?_;obtain⟨k1,k2,⟨_,_,k3⟩,k4⟩:=fl;have x1:Fl2 B outer ea cls a0 .none h':=⟨k1,k2,k3,k4⟩
   have x4:=sm.trans x4';refine⟨ea,cls,a0,B,H',rfl,os.trans I.os,bare,⟨x1,fun b o q n hb=>?_,fun b o q hb=>?_,fun b o q hb=>?_,fun b o q n=>?_,fun b xs q=>T.tups b xs (I.base.tups b xs q),fun b o u q=>T.frzs b o u (I.base.frzs b o u q),fun b ps q=>T.tbls b ps (I.base.tbls b ps q),T.hok⟩,hE⟩
   . exact T.keep b o (I.base.keep b o q n hb (by intro z;cases z)) (I.base.free b o q n (by intro z;cases z)) (nm b o q hb)
   . obtain⟨o', q'⟩ := I.base.there b o q (by intro z;cases z);exact T.there b o' q' (nm b o q hb)
   . obtain⟨sl, q'⟩ := I.base.slot b o q (I.ok.frf b hb) hb (by intro z;cases z);obtain⟨sl2,q2⟩:=T.slot b _ q' (aI _ hb);obtain⟨_,ob,ho,hd'⟩:=I.ok.funs.mem hb;have ho':s.heap.get? b=some ob:=ho;rw[q] at ho';cases ho';obtain⟨sl',q''⟩:=x4 b _ q2 hd';exact⟨sl',q''⟩
   . obtain⟨o', q'⟩ := I.base.there b o q (by intro z;cases z);exact T.free b o' q' (I.base.free b o q n (by intro z;cases z))
section
variable{X:Cx}{E:XK}{C:Addr}
theorem pss_or{st:List Stmt}{t u:TS}(h1:PSs X st t)(h2:PSs X st u):PSs X st (fun D σ H=>t D σ H\/u D σ H):=fun pins s σ H D I h=>h.elim (h1 pins s σ H D I) (h2 pins s σ H D I)
variable(X E C) in
noncomputable def PSsz(st:List Stmt)(x:List Sl->Bool):Prop:=∃t,PSs X st t/\∀H₀ H O σ ds hd D,Ok X.K H₀ H O σ ds hd->x ds=true->(∀H',Same H₀ H'->E (.ref C) none H')->t D σ H
theorem EI{tg iter:Expr}{body:List Stmt}{pos:Pos}{fi:FA}{ga:D->List Sl->Option (List Sl)}{g:FS}{x:List Sl->Bool}(hout:∀e s',Thr X E e s'->X.xe e s')(hi:PIv (X.wish (Thr X E)) tg iter fi)(hg:PGv (X.wish (Thr X E)) tg ga)(hb:PSsv (X.wish (Thr X E)) body g)
  (hy:PSsz (X.wish (Thr X E)) E C body x) (hc:X.calm=true:=by rfl) (hs:∀x,foldedSetIterable iter X.env x=pure x:=by intro _;rfl) (hst:X.stack=X.env::X.outer:=by rfl) (hfr:X.env.frame=some X.env.locals:=by rfl):PSy X E C (.For tg iter body [] pos) (forX fi ga g x):=by
 obtain⟨wi,pi,hi⟩:=hi;obtain⟨tg',pg,hg⟩:=hg;obtain⟨tb,pb,hb⟩:=hb;obtain⟨tz,pz,hz⟩:=hy;have pf:=TJ (X:=X.wish (Thr X E)) (XH hst hfr) hc pi pg (pss_or pz pb) hs (pos:=pos);refine⟨_,fun pins s σ H D I h=>wpAny_mono (pf pins s σ H D (I.wish _) h) (fun f s1 q=>q.unwish) hout,fun H₀ H O σ ds hd D o e _ hE=>?_⟩;unfold forX at e;cases h1:fi ds with
 |none=>rw[h1] at e;cases e
 | some items =>
   rw[h1] at e;simp only at e;refine hi H₀ H O σ ds hd items _ o h1 fun J p H' s r wk=>?_;refine⟨fun i m σ' H'=>i<=items.length/\m=items.length-i/\∃O' ds',Ok X.K H₀ H' O' σ' ds' (HI.rep p.1 p.2::hd)/\loopX ga g x (items.drop i) ds'=true,⟨items.length,cL _,rfl,O,ds,(o.mono s).holdMore (p:=HI.rep p.1 p.2) r,by simpa using e⟩,?_⟩;rintro i m σ1 H1 ⟨hi1,rfl,O1,ds1,o1,e1⟩;obtain⟨go,_⟩:=wk H1 O1 o1.dom (o1.hold (HI.rep p.1 p.2) aP)
   by_cases hlt:i<items.length
   . right;have hd0:items[i]? = some items[i]:=fH hlt;obtain ⟨hgo,hyl⟩:=go i _ hd0;rw [gY hlt,loopX] at e1;refine ⟨hgo,fun σ' H'=>i+1<=items.length/\∃ O' ds',Ok X.K H₀ H' O' σ' ds' (HI.rep p.1 p.2::hd)/\loopX ga g x (items.drop (i+1)) ds'=true,fun σ' H' ⟨q1,q2⟩=>⟨items.length - (i+1),by omega,q1,rfl,q2⟩,fun v H2 y=>?_⟩;obtain ⟨s2,r2⟩:=hyl v H2 y;cases h2:ga items[i] ds1 with
     |none=>rw[h2] at e1;cases e1
     | some ds2 =>
       rw[h2] at e1;simp only at e1;refine hg H₀ H2 O1 σ1 ds1 (HI.rep p.1 p.2::hd) v _ ds2 _ (o1.mono s2) r2 h2 fun σ' o'=>?_;rcases fO.mp e1 with e2 | e2
       . exact .inl (hz H₀ H2 O1 σ' ds2 (HI.rep p.1 p.2::hd) _ o' e2 hE)
       . right;cases h3:g ds2 with
         |none=>rw[h3] at e2;cases e2
         | some o3 =>
           rw[h3] at e2;refine hb H₀ H2 O1 σ' ds2 (HI.rep p.1 p.2::hd) o3 _ o' h3 ?_;cases o3 with
           |nx ds3=>exact fun σ3 H3 O3 ok3=>⟨hlt,O3,ds3,ok3,e2⟩
           |ct ds3=>exact fun σ3 H3 O3 ok3=>⟨hlt,O3,ds3,ok3,e2⟩
           |bk ds3=>cases e2
           |rt rr=>cases e2
   . exfalso;have ei:i=items.length:=by omega
     subst ei;rw[mM,loopX] at e1;cases e1
theorem AB{i:Nat}{x:Str}{e:Expr}{pos p1 p2 p3:Pos}{y:List Sl->Bool}(he:PEy X E C e y)(hN:X.N[i]?=some x:=by rfl)(hv:Vis X.env.scope x:=by first | exact Or.inl rfl | exact Or.inr (Or.inl rfl) | exact Or.inr (Or.inr rfl))(hd:(x==("__debug__" : Str))=false:=by decide)
  (hcd:(x==("__classdict__" : Str))=false:=by decide)
  (hfew:((backTo p3 (starEach [e] X.env)).all (fun x=>!x.1)&&(backToKw p3 (keywordEach [] X.env)).all (fun x=>x.1.isSome)
    && decide ([e].length+([]:List Keyword).length+(if ([]:List Keyword).isEmpty then 0 else 1)<30))=true:=by rfl)
  (hline:(p2.endLine==p3.line)=true:=by rfl) (hs:starEach [e] X.env=(false,eval e X.env)::starEach [] X.env:=by rfl)
  (hbase:attributeBase (.Name x p1) "extend" X.env (eval (.Name x p1) X.env)=eval (.Name x p1) X.env:=by rfl) (hsw:swapsWith (.Call (.Attribute (.Name x p1) "extend" p2) [e] [] p3) none pos.line X.env=pure false:=by rfl) :
  PSsz X E C [.Expr (.Call (.Attribute (.Name x p1) "extend" p2) [e] [] p3) pos] (extX i y):=by
 obtain⟨te,pe,hf⟩:=he;refine⟨_,wX (EK (AE lZ BG BF CS (wQ hN hv hd hcd) (jS pe xB hs) hbase hfew hline hs rfl) hsw) LQ,fun H₀ H O σ ds hd D o e hE=>?_⟩;unfold extX at e;cases hsl:ds[i]? with
 |none=>rw[hsl] at e;cases e
 | some sl =>
   rw[hsl] at e;cases sl with
   | own l =>
     simp only at e;obtain⟨a,xs,q1,q2,q3,q4⟩:=o.readO hsl;refine⟨.ref a,q1,.inl ⟨rfl,xs,SqL.of q3⟩,?_⟩;exact hf H₀ H O σ ds hd _ o e hE
   |no=>cases e
   |v d=>cases e
   |exc t=>cases e
   |fr l=>cases e
   |ob _ _=>cases e
end
end FL
namespace L2
open PySem PySem.Spec PyProof.Rows
section
variable{X:Cx}
end
end L2
namespace FL
open PySem PySem.Spec PyProof.Rows L2
section
variable{X:Cx}{E:XK}{C:Addr}
theorem PSv.ofNox{st:Stmt}{g:FS}(h:PSv X.nox st g):PSv X st g:=by
 obtain⟨t,ht,hf⟩:=h;exact⟨t,fun pins s σ H D I hw=>wpAny_mono (ht pins s σ H D (I.wish _) hw) (fun _ _ q=>q.unwish) fun _ _ z=>False.elim z,hf⟩
theorem TV{scope:Scope}{NY:List Str}{mp:List (Option Nat)}{tg iter elt:Expr}{ifs:List Expr}{pos:Pos}{y:List Sl->Bool}{ga:D->List Sl->Option (List Sl)}{tt:FT}{fe:FE}
  (S:CompScope X scope NY mp) (hc:X.calm=true) (hi:PEy X E C iter y) (hg:∀c,PGv (qT X scope NY c) tg ga) (ht:∀c,PFv (qT X scope NY c) ifs tt) (he:∀c,PV (qT X scope NY c) elt fe)
  (hs:∀x,foldedSetIterable iter X.env x=pure x:=by intro _;rfl):PEy X E C (.ListComp elt [⟨tg,iter,ifs,0⟩] scope pos) y:=by
 obtain⟨t,pt,hf⟩:=hi;refine⟨_,LV S hc (TM pt) (fun c=>(Classical.choose_spec (hg c)).1) (fun c=>(Classical.choose_spec (ht c)).1) (fun c=>(Classical.choose_spec (he c)).1) hs,fun H₀ H O σ ds hd Q o e p=>?_⟩;exact Or.inl (hf H₀ H O σ ds hd _ o e p)
end
section
variable{X:Cx}
end
end FL
namespace L2
open PySem PySem.Spec PyProof.Rows
open Builtin Builtin.Str
section
variable{X:Cx}
noncomputable def rTxt(F:Str->Str->V):V->List V->Hp->VK->Prop:=fun x vs H Q=>∃a b,x=.str a/\vs=[.str b]/\Q (F a b) H
theorem BM:MtR X "str.startswith" (rTxt fun a b=>.bl (Txt.startswith a b)):=by
 intro pins s σ H x vs v us Q I rx rv h;obtain⟨a,b,rfl,rfl,q⟩:=h;obtain⟨tk,rfl⟩:=(show ∃tk,v=Value.str a tk from rx)
 obtain⟨u,rfl,ru⟩:=rv.one;obtain⟨tk2,rfl⟩:=(show ∃tk,u=Value.str b tk from ru)
 exact SC.startswith ⟨.bl _,H,I,rfl,q⟩
theorem HA:MtR X "str.endswith" (rTxt fun a b=>.bl (Txt.endswith a b)):=by
 intro pins s σ H x vs v us Q I rx rv h;obtain⟨a,b,rfl,rfl,q⟩:=h;obtain⟨tk,rfl⟩:=(show ∃tk,v=Value.str a tk from rx)
 obtain⟨u,rfl,ru⟩:=rv.one;obtain⟨tk2,rfl⟩:=(show ∃tk,u=Value.str b tk from ru)
 exact SC.endswith ⟨.bl _,H,I,rfl,q⟩
theorem XN{prog:Program}{w:World}{A:Around}{E:Value->Shared->Prop}{s:Shared}{x y:Str}{t u:Tok}{Q:Value->Shared->Prop}(hy:(y.length==0)=false)
  (hq:∀l k,l.map (·.1)=Txt.split x y->Q (.ref s.heap.objs.size) { s with heap:=s.heap.push { cls:=.type "list",data:=.seq (strValues l).toArray },toks:=k })
  (hsz:x.length+2<=sizeLine):wpAny (model prog w) A (call (.builtin "str.split") [.str x t,.str y u]) Q E s:=by
 have hsz2:(partsBetween x (occurrences x y 0 x.length (x.length+1)) y.length).length<=sizeLine:=by
  have e1:=StrLaws.occ_length_le x y 0 x.length (x.length+1);rw[length_partsBetween];omega
 cases h1:(decide (x.length<y.length)||decide (strKind x<strKind y))
 . cases hf : (occurrences x y 0 x.length (x.length + 1)).isEmpty
   . refine call_meets F.slot_str_split (typeIs_str _ _ _) F.entry_str_split (F.args_str_split_2 _ _) (meets_str_split_sep x y t u h1 hy hf (by omega) hsz2) ?_;show wants Q E _ { s with toks:=_,heap:=s.heap.push { cls:=.type "list",data:=.seq (strsFrom s.toks (partsBetween x (occurrences x y 0 x.length (x.length+1)) y.length)).toArray } };rw[strsFrom_eq];exact hq (numbered s.toks _) _ ((numbered_texts _ _).trans ((if_neg (ne_true_of_eq_false h1)).trans (if_neg (ne_true_of_eq_false hf))).symm)
   . exact call_meets F.slot_str_split (typeIs_str _ _ _) F.entry_str_split (F.args_str_split_2 _ _) (meets_str_split_not_found x y t u h1 hy hf)
      (hq [(x,t)] s.toks ((if_neg (ne_true_of_eq_false h1)).trans (if_pos hf)).symm)
 . exact call_meets F.slot_str_split (typeIs_str _ _ _) F.entry_str_split (F.args_str_split_2 _ _) (meets_str_split_cannot_occur x y t u h1)
    (hq [(x,t)] s.toks (if_pos h1).symm)
theorem CF:∀(l:List (Str×Tok)),Vals ((l.map (·.1)).map V.str) (strValues l)
 |[]=>.nil
 |(a,t)::l=>.cons ⟨t,rfl⟩ (CF l)
theorem split_len(x y:Str):(Txt.split x y).length<=x.length+2:=by
 unfold Txt.split;have e1:=StrLaws.occ_length_le x y 0 x.length (x.length+1)
 split
 . simp
 . split
   . simp
   . rw[length_partsBetween];omega
noncomputable def rSplit:V->List V->Hp->VK->Prop:=fun x vs H Q=>∃a b,x=.str a/\vs=[.str b]/\(b.length==0)=false/\a.length+2<=sizeLine/\∀p,H p=none->Q (.ref p) (upd H p (.lst ((Txt.split a b).map V.str)))
theorem UP:MtR X "str.split" rSplit:=by
 intro pins s σ H x vs v us Q I rx rv h;obtain⟨a,b,rfl,rfl,hb,hz,q⟩:=h;obtain⟨tk,rfl⟩:=(show ∃tk,v=Value.str a tk from rx)
 obtain⟨u,rfl,ru⟩:=rv.one;obtain⟨tk2,rfl⟩:=(show ∃tk,u=Value.str b tk from ru)
 refine XN hb (fun l k e=>?_) hz;have hv:=CF l;rw[e] at hv;have:=split_len a b;exact⟨.ref _,_,I.lnew (t':=k) hv (by rw[dC];omega),rfl,q _ I.fresh⟩
noncomputable def rPart:V->List V->Hp->VK->Prop:=fun x vs H Q=>∃a b,x=.str a/\vs=[.str b]/\(b.length==0)=false/\a.length<=sizeLine/\∀p,H p=none->Q (.ref p) (upd H p (.tup [.str (Txt.partition a b).1,.str (Txt.partition a b).2.1,.str (Txt.partition a b).2.2]))
theorem EN:MtR X "str.partition" rPart:=by
 intro pins s σ H x vs v us Q I rx rv h;obtain⟨a,b,rfl,rfl,hb,hz,q⟩:=h;obtain⟨tk,rfl⟩:=(show ∃tk,v=Value.str a tk from rx)
 obtain⟨u,rfl,ru⟩:=rv.one;obtain⟨tk2,rfl⟩:=(show ∃tk,u=Value.str b tk from ru)
 have lay:∀(p1 p2 p3:Str) (ta tb tc:Tok) (k:Nat),EP X pins σ (fun v' H'=>∀q':VK,(∀p,H p=none->q' (.ref p) (upd H p (.tup [.str p1,.str p2,.str p3])))->q' v' H') (.ref s.heap.objs.size) { s with toks:=k,heap:=s.heap.push { cls:=.type "tuple",data:=.seq [.str p1 ta,.str p2 tb,.str p3 tc].toArray } }:=by
  intro p1 p2 p3 ta tb tc k;refine⟨.ref s.heap.objs.size,_,I.laid (o:=.tup [.str p1,.str p2,.str p3]) (fun b o e=>aL _ e) (aQ _) ⟨by simp only[aG,hX];rw[sizeLine_eq];decide,[.str p1 ta,.str p2 tb,.str p3 tc],.cons ⟨_,rfl⟩ (.cons ⟨_,rfl⟩ (.cons ⟨_,rfl⟩ .nil)),?_⟩,rfl,fun q' hq=>hq _ (I.hok.fresh (aQ _))⟩;exact⟨_,bF s.heap rfl,rfl,0,rfl⟩
 refine call_meets F.slot_str_partition (typeIs_str _ _ _) F.entry_str_partition (F.args_str_partition_2 _ _) (meets_str_partition a b tk tk2 hb hz) ?_;unfold Txt.partition at q;show wants _ _ _ (match occurrences a b 0 a.length 1 with | i::_=>_ | []=>_);cases ho:occurrences a b 0 a.length 1 with
 | nil =>
   rw[ho] at q;obtain⟨v',H',I',r',z⟩:=lay a Str.empty Str.empty tk s.toks s.toks (s.toks+1);exact⟨v',H',I',r',z Q q⟩
 | cons i rest =>
   rw[ho] at q;obtain⟨v',H',I',r',z⟩:=lay (strSub a 0 i) b (strSub a (i+b.length) a.length) s.toks tk2 (s.toks+1) (s.toks+1+1);exact⟨v',H',I',r',z Q q⟩
theorem QI:CallR X (.type "int") (fun xs H Q=>(∃x n,xs=[.str x]/\x.length<=640/\PySem.intText? x=some n/\Q (.int n) H)\/(∃i,xs=[.int i]/\Q (.int i) H)\/∃k,xs=[.bl k]/\Q (.int (if k then 1 else 0)) H):=by
 intro pins s σ H xs us Q I r h;rcases h with⟨x,n,rfl,hl,hn,q⟩ | h
 . obtain⟨u, rfl, t, rfl⟩ := vals1 r;exact PySem.W.KIN.call_text hn hl ⟨.int n,H,I.tok _,⟨_,rfl⟩,q⟩
 . exact DG pins s σ H xs us Q I r h
noncomputable def rSlS:V->Option Int->Option Int->Hp->VK->Prop:=fun x lo hi H Q=>∃a,x=.str a/\a.length<=sizeLine/\Q (.str (Txt.slice a lo hi)) H
theorem sl_str:SlR X rSlS:=by
 intro pins s σ H x v vl vu lo hi sl Q I rx hs pl pu h;obtain⟨a,rfl,hz,q⟩:=h;obtain⟨tk,rfl⟩:=(show ∃tk,v=Value.str a tk from rx)
 obtain⟨o,ho,hc,hd⟩:=hs
 have fin:∀(l u:Option (Int×Tok)),partValue l=vl->partValue u=vu->l.map (·.1)=lo->u.map (·.1)=hi->wpAny (model X.prog X.w) X.A (getItem (.str a tk) (.ref sl)) (EP X pins σ Q) X.xe s:=by
  intro l u e1 e2 e3 e4;refine wpAny_getItem_str_slice (l:=l) (u:=u) (st:=none) ⟨o,ho,hc,by rw[hd,e1,e2];rfl⟩ rfl ?_;subst e3 e4;exact post_val_or_str ⟨cM (Txt.slice_le a _ _) hz,fun t' k=>⟨.str _,H,I.tok _,⟨_,rfl⟩,q⟩⟩
 refine⟨"str",_,F.slot_str_getitem.lookup,typeIs_str _ _ _,?_⟩;cases pl with
 | none =>
   cases pu with
   |none=>exact fin none none rfl rfl rfl rfl
   |int j t2=>exact fin none (some (j,t2)) rfl rfl rfl rfl
 | int i t1 =>
   cases pu with
   |none=>exact fin (some (i,t1)) none rfl rfl rfl rfl
   |int j t2=>exact fin (some (i,t1)) (some (j,t2)) rfl rfl rfl rfl
end
end L2
namespace FL
open PySem PySem.Spec PyProof.Rows L2
section
variable{X:Cx}
section
variable{o e:Expr}{apos cpos:Pos}{f g:FE}{name:Str}{id:String}
theorem SU{F:Str->Str->V}{G:D->D->Option D}(slot:Slot "str" name id)(hty:typeOf (.builtin id)=pure (.type "method_descriptor"))(hm:MtR X id (rTxt F))(hG:∀dx dy d,G dx dy=some d->∃a b,dx=.str a/\dy=.str b/\∀H O,Rep X.K H O (F a b) d)
  (ho:PVw X o f) (he:PVw X e g)
  (hbase:attributeBase o name X.env (eval o X.env)=eval o X.env:=by rfl)
  (hfew:((backTo cpos (starEach [e] X.env)).all (fun x=>!x.1)&&(backToKw cpos (keywordEach [] X.env)).all (fun x=>x.1.isSome)
    && decide ([e].length+([]:List Keyword).length+(if ([]:List Keyword).isEmpty then 0 else 1)<30))=true:=by rfl)
  (hline:(apos.endLine==cpos.line)=true:=by rfl) (hs:starEach [e] X.env=(false,eval e X.env)::starEach [] X.env:=by rfl) :
  PV X (.Call (.Attribute o name apos) [e] [] cpos) (zI G f g):=by
 obtain⟨to,po,ho⟩:=ho;obtain⟨te,pe,he⟩:=he;refine⟨_,AE iB slot hty hm po (jS pe xB hs) hbase hfew hline hs rfl,fun H₀ H O σ ds hd d Q o e q=>?_⟩;unfold zI at e;obtain⟨dx,h1,e⟩:=bnd e;obtain⟨dy,h2,e⟩:=bnd e;obtain⟨a,b,rfl,rfl,rr⟩:=hG dx dy d e;refine ho H₀ H O σ ds hd _ _ o h1 fun x H1 s1 r1=>?_;rw[r1.str'];refine⟨rfl,?_⟩;refine he H₀ H1 O σ ds hd _ _ (o.mono s1) h2 fun y H2 s2 r2=>?_;rw[r2.str'];exact⟨a,b,rfl,rfl,q _ H2 (s1.trans s2) (rr H2 O)⟩
theorem oH(ho:PVw X o f)(he:PVw X e g)
  (hbase:attributeBase o "startswith" X.env (eval o X.env)=eval o X.env:=by rfl)
  (hfew:((backTo cpos (starEach [e] X.env)).all (fun x=>!x.1)&&(backToKw cpos (keywordEach [] X.env)).all (fun x=>x.1.isSome)
    && decide ([e].length+([]:List Keyword).length+(if ([]:List Keyword).isEmpty then 0 else 1)<30))=true:=by rfl)
  (hline:(apos.endLine==cpos.line)=true:=by rfl) (hs:starEach [e] X.env=(false,eval e X.env)::starEach [] X.env:=by rfl) :
  PV X (.Call (.Attribute o "startswith" apos) [e] [] cpos) (zI stwD f g):=
 SU PySem.F.slot_str_startswith PySem.F.type_str_startswith BM (fun dx dy d e=>by cases dx<;>cases dy<;>simp[stwD] at e;subst e;exact⟨_,_,rfl,rfl,fun H O=>.bl _⟩) ho he hbase hfew hline hs
theorem rH(ho:PVw X o f)(he:PVw X e g)
  (hbase:attributeBase o "endswith" X.env (eval o X.env)=eval o X.env:=by rfl)
  (hfew:((backTo cpos (starEach [e] X.env)).all (fun x=>!x.1)&&(backToKw cpos (keywordEach [] X.env)).all (fun x=>x.1.isSome)
    && decide ([e].length+([]:List Keyword).length+(if ([]:List Keyword).isEmpty then 0 else 1)<30))=true:=by rfl)
  (hline:(apos.endLine==cpos.line)=true:=by rfl) (hs:starEach [e] X.env=(false,eval e X.env)::starEach [] X.env:=by rfl) :
  PV X (.Call (.Attribute o "endswith" apos) [e] [] cpos) (zI enwD f g):=
 SU PySem.F.slot_str_endswith PySem.F.type_str_endswith HA (fun dx dy d e=>by cases dx<;>cases dy<;>simp[enwD] at e;subst e;exact⟨_,_,rfl,rfl,fun H O=>.bl _⟩) ho he hbase hfew hline hs
theorem CL{K:Frag}{H:Hp}{O:Addr->Prop}:∀(l:List Str),Reps K H O (l.map V.str) (l.map D.str)
 |[]=>.nil
 |a::l=>.cons (.str a) (CL l)
theorem qU(ho:PVw X o f)(he:PVw X e g)
  (hbase:attributeBase o "split" X.env (eval o X.env)=eval o X.env:=by rfl)
  (hfew:((backTo cpos (starEach [e] X.env)).all (fun x=>!x.1)&&(backToKw cpos (keywordEach [] X.env)).all (fun x=>x.1.isSome)
    && decide ([e].length+([]:List Keyword).length+(if ([]:List Keyword).isEmpty then 0 else 1)<30))=true:=by rfl)
  (hline:(apos.endLine==cpos.line)=true:=by rfl) (hs:starEach [e] X.env=(false,eval e X.env)::starEach [] X.env:=by rfl) :
  PVf X (.Call (.Attribute o "split" apos) [e] [] cpos) (splA f g):=by
 obtain⟨to,po,ho⟩:=ho;obtain⟨te,pe,he⟩:=he;refine⟨_,AE iB PySem.F.slot_str_split PySem.F.type_str_split UP po (jS pe xB hs) hbase hfew hline hs rfl,fun H₀ H O σ ds hd l Q o e q=>?_⟩;unfold splA at e;cases h1:f ds with
 |none=>rw[h1] at e;cases e
 | some dx =>
   cases h2:g ds with
   |none=>rw[h1,h2] at e;cases e
   | some dy =>
     rw[h1,h2] at e;simp only[aC] at e;cases dx<;>cases dy<;>first | (cases e;done) | skip
     rename_i a b;simp only at e
     split at e
     . rename_i hc;cases e;refine ho H₀ H O σ ds hd _ _ o h1 fun x H1 s1 r1=>?_;rw[r1.str'];refine⟨rfl,?_⟩;refine he H₀ H1 O σ ds hd _ _ (o.mono s1) h2 fun y H2 s2 r2=>?_;rw[r2.str'];refine⟨a,b,rfl,rfl,hc.1,hc.2,fun p hp=>?_⟩;exact q p _ _ ((s1.trans s2).trans (jA hp _)) ((s1.trans s2).free hp) cF (CL _)
     . cases e
theorem LG(ho:PVw X o f)(he:PVw X e g)
  (hbase:attributeBase o "partition" X.env (eval o X.env)=eval o X.env:=by rfl)
  (hfew:((backTo cpos (starEach [e] X.env)).all (fun x=>!x.1)&&(backToKw cpos (keywordEach [] X.env)).all (fun x=>x.1.isSome)
    && decide ([e].length+([]:List Keyword).length+(if ([]:List Keyword).isEmpty then 0 else 1)<30))=true:=by rfl)
  (hline:(apos.endLine==cpos.line)=true:=by rfl) (hs:starEach [e] X.env=(false,eval e X.env)::starEach [] X.env:=by rfl) :
  PV X (.Call (.Attribute o "partition" apos) [e] [] cpos) (zI prtD f g):=by
 obtain⟨to,po,ho⟩:=ho;obtain⟨te,pe,he⟩:=he;refine⟨_,AE iB PySem.F.slot_str_partition PySem.F.type_str_partition EN po (jS pe xB hs) hbase hfew hline hs rfl,fun H₀ H O σ ds hd d Q o e q=>?_⟩;unfold zI at e;cases h1:f ds with
 |none=>rw[h1] at e;cases e
 | some dx =>
   cases h2:g ds with
   |none=>rw[h1,h2] at e;cases e
   | some dy =>
     rw[h1,h2] at e;simp only[aC] at e;cases dx<;>cases dy<;>first | (simp[prtD] at e;done) | skip
     rename_i a b;simp only[prtD] at e
     split at e
     . rename_i hc;cases e;refine ho H₀ H O σ ds hd _ _ o h1 fun x H1 s1 r1=>?_;rw[r1.str'];refine⟨rfl,?_⟩;refine he H₀ H1 O σ ds hd _ _ (o.mono s1) h2 fun y H2 s2 r2=>?_;rw[r2.str'];refine⟨a,b,rfl,rfl,hc.1,hc.2,fun p hp=>?_⟩;have ss:=s1.trans s2;exact q _ _ (ss.trans (jA hp _)) (.tup ((o.mono ss).free hp) (.inl cF) (.cons (.str _) (.cons (.str _) (.cons (.str _) .nil))))
     . cases e
end
theorem xA{p pos:Pos}{e:Expr}{g:FA}(hm:X.mg "str" = none)(ha:PAv X [e] g)(hg:Gl X "str":=by rfl)(he:starEach [e] X.env=[(false,eval e X.env)]:=by rfl):PV X (.Call (.Name "str" p) [e] [] pos) (callB strD g):=by
 obtain⟨t,ht,hf⟩:=ha;refine⟨_,rL FF hg hm (by decide +kernel) ht (by decide) (by decide) he rfl,fun H₀ H O σ ds hd d Q o e q=>?_⟩;unfold callB at e;obtain⟨l,h,e⟩:=bnd e;refine hf H₀ H O σ ds hd l _ o h fun vs H1 s1 r1=>?_
 match l,r1,e with
 | [.int i], .cons r .nil, e =>
   simp only[strD] at e
   split at e
   . rename_i hc;cases e;exact⟨i,by rw[r.int'],hc,q _ H1 s1 (.str _)⟩
   . cases e
theorem LI{p pos:Pos}{e:Expr}{g:FA}(hm:X.mg "int" = none)(ha:PAv X [e] g)(hg:Gl X "int":=by rfl)(he:starEach [e] X.env=[(false,eval e X.env)]:=by rfl):PV X (.Call (.Name "int" p) [e] [] pos) (callB intTD g):=by
 obtain⟨t,ht,hf⟩:=ha;refine⟨_,rL QI hg hm (by decide +kernel) ht (by decide) (by decide) he rfl,fun H₀ H O σ ds hd d Q o e q=>?_⟩;unfold callB at e;obtain⟨l,h,e⟩:=bnd e;refine hf H₀ H O σ ds hd l _ o h fun vs H1 s1 r1=>?_
 match l,r1,e with
 | [.str x], .cons r .nil, e =>
   simp only[intTD] at e
   split at e
   . rename_i hc;obtain⟨n,hn,rfl⟩:=mpd e;exact .inl ⟨x,n,by rw[r.str'],hc,hn,q _ H1 s1 (.int _)⟩
   . cases e
 | [.int i], .cons r .nil, e =>
   cases e;exact .inr (.inl ⟨i,by rw[r.int'],q _ H1 s1 (.int _)⟩)
 | [.bl b], .cons r .nil, e =>
   cases e;exact .inr (.inr ⟨b,by rw[r.bl'],q _ H1 s1 (.int _)⟩)
theorem yF{e:Expr}{lo hi:Option Expr}{f:FE}{gl gh:List Sl->Option (Option Int)}{p2 pos:Pos}(he:PVw X e f)(hl:POv X lo gl)(hh:POv X hi gh):PV X (.Subscript e (.Slice lo hi none p2) pos) (slsS f gl gh):=by
 obtain⟨te,pe,he⟩:=he;obtain⟨tl,pl,hl⟩:=hl;obtain⟨th,ph,hh⟩:=hh;refine⟨_,GR sl_str pe pl ph,fun H₀ H O σ ds hd d' Q o e q=>?_⟩;unfold slsS at e;obtain⟨d,h1,e⟩:=bnd e;obtain⟨a,h2,e⟩:=bnd e;obtain⟨b,h3,e⟩:=bnd e;cases d<;>first | (cases e;done) | skip
 simp only at e
 split at e
 . rename_i hc;cases e;refine he H₀ H O σ ds hd _ _ o h1 fun v H1 s1 r1=>?_;refine hl H₀ H1 O σ ds hd _ _ (o.mono s1) h2 fun H2 s2=>?_;refine hh H₀ H2 O σ ds hd _ _ ((o.mono s1).mono s2) h3 fun H3 s3=>?_;rw[r1.str'];exact⟨_,rfl,hc,q _ H3 ((s1.trans s2).trans s3) (.str _)⟩
 . cases e
end
section
variable{X:Cx}{E:XK}{C:Addr}
theorem pe_or{e:Expr}{t u:TE}(h1:PE X e t)(h2:PE X e u):PE X e (fun σ H Q=>t σ H Q\/u σ H Q):=fun pins s σ H Q I h=>h.elim (h1 pins s σ H Q I) (h2 pins s σ H Q I)
theorem TU{a b:Expr}{x1}{pos:Pos}{fa:FE}{xa xb:List Sl->Bool}(ha:PEy X E C a xa)(hn:PV X a fa)(hb:PEy X E C b xb)
  (h1:starEach [a,b] X.env=(false,eval a X.env)::starEach [b] X.env:=by rfl) (h2:starEach [b] X.env=(false,eval b X.env)::starEach [] X.env:=by rfl):PEy X E C (.Tuple [a,b] x1 pos) (orX xa (thenX fa xb)):=by
 obtain⟨ta,pa,ha⟩:=ha;obtain⟨tn,pn,hn⟩:=hn;obtain⟨tb,pb,hb⟩:=hb;refine⟨_,JG (jS (pe_or pa pn) (jS pb xB h2) h1),fun H₀ H O σ ds hd Q o e q=>?_⟩;unfold orX at e;rcases fO.mp e with e | e
 . exact .inl (ha H₀ H O σ ds hd _ o e q)
 . unfold thenX at e;cases h:fa ds with
   |none=>rw[h] at e;cases e
   | some d =>
     rw[h] at e;exact .inr (hn H₀ H O σ ds hd d _ o h fun v H' s r=>hb H₀ H' O σ ds hd _ (o.mono s) e q)
section
variable{x:Str}{p pos:Pos}{e:Expr}{t k j:Nat}{G:List D->Option (List D)}{y:List Sl->Bool}
theorem wK(M:MkC X.prog X.w X.K X.mg X.base t k 1 G)(hr:Room j X.A)(hy:PEy X E C e y)(hj:k+1<=j:=by decide)(hx:gD t=x:=by rfl)
  (hg:Gl X x:=by rfl) (hdb:(x==("__debug__" : Str))=false:=by decide) (he:starEach [e] X.env=(false,eval e X.env)::starEach [] X.env:=by rfl) (hpl:(backTo pos (starEach [] X.env)).any (·.1)=false:=by rfl) :
  PEy X E C (.Call (.Name x p) [e] [] pos) y:=by
 obtain⟨D,f,fd,ps,hc,hm,mk,cl,Fn,hb,hna⟩:=M.ex;obtain⟨te,pe,hf⟩:=hy;subst hx;exact⟨_,LT (CX:=CX0) (E:=E0) mk Fn (hr.mono hj) hg hm hb .nil pass0 (jS pe xB he) hdb he hpl,fun H₀ H O σ ds hd Q o e q=>hf H₀ H O σ ds hd _ o e q⟩
end
theorem LX:OpS X (fun x y H Q=>∃i j,x=.str i/\y=.str j/\Q (.bl (!(!(Builtin.Str.occurrences j i 0 j.length 1).isEmpty))) H) notS:=by
 intro H O x y dx dy d Q ho rx ry e q;cases dx<;>cases dy<;>first | (simp[notS] at e;done) | skip
 cases e;rw[rx.str',ry.str'];exact⟨_,_,rfl,rfl,q _ H (Same.refl _) (.bl _)⟩
end
end FL
namespace L2
open PySem PySem.Spec PyProof.Rows
section
variable{prog:Program}{w:World}{A:Around}{E:Value->Shared->Prop}{s:Shared}
end
section
variable{X:Cx}{pos:Pos}
end
end L2
namespace FL
open PySem PySem.Spec PyProof.Rows L2
section
variable{X:Cx}
end
section
variable{K:Frag}{H H' H₀ : Hp}{O O':Addr->Prop}
abbrev orL(fs:List Addr)(O:Addr->Prop):Addr->Prop:=fun b=>b∈fs\/O b
inductive Kid(H:Hp)(b:Addr):List V->Prop
 |tup {xs:List V} (h:Rd H b (.tup xs)):Kid H b xs
 |lst {xs:List V} (h:H b=some (.lst xs)):Kid H b xs
 |dct {kvs:List (Key×V)} (h:H b=some (.dK kvs)):Kid H b (kvs.map (·.2))
 |ins {C dx:Addr} {kvs:List (Str×V)} (h:H b=some (.ins C dx kvs)):Kid H b (kvs.map (·.2))
theorem RepsO.length:∀{xs:List V} {ts:List OT} {fs:List Addr},RepsO K H O xs ts fs->xs.length=ts.length
 |_,_,_,.nil=>rfl
 |_,_,_,.cons _ r=>by simp[RepsO.length r]
end
section
variable(X:Cx)
noncomputable def PVo(e:Expr)(f:FO):Prop:=∃t,PE X e t/\∀H₀ H O σ ds hd T Q,Ok X.K H₀ H O σ ds hd->f ds=some T->(∀v H' fs,Same H H'->RepO X.K H' (orL fs O) v T fs->fs.Nodup->(∀b∈fs,H b=none)->Q v H')->t σ H Q
end
section
variable{X:Cx}
section
variable{x:Str}{k j n:Nat}{F:List D->Option Ret}{p pos:Pos}{e:Expr}{es:List Expr}{g:FA}
end
mutual
theorem RepO.flatten{K:Frag}{H:Hp}{O O':Addr->Prop}(ho:∀a,O a->Old H a):∀{v:V} {t:OT} {fs:List Addr},flatO t=true->RepO K H O' v t fs->(∀b∈fs,O b)->RepO K H O v t fs
 |_,_,_,f,.val r,_=>.val (Rep.flatten ho (by simpa[flatO] using f) r)
 |_,_,_,f,.lst n h r,hb=>.lst (hb _ (.head _)) h (RepsO.flatten ho (by simpa[flatO] using f) r fun b z=>hb b (.tail _ z))
 |_,_,_,f,.dct n h e r,hb=>.dct (hb _ (.head _)) h e (RepsO.flatten ho (by simpa[flatO] using f) r fun b z=>hb b (.tail _ z))
 |_,_,_,f,.ins c n h e r,hb=>.ins c (hb _ (.head _)) h e (RepsO.flatten ho (by simpa[flatO] using f) r fun b z=>hb b (.tail _ z))
 |_,_,_,f,.tup (a:=a) n h r,hb=>.tup (fun z=>by
    obtain⟨u,e,m⟩:=ho a z;rcases h with h | ⟨o,h⟩
    . rw[e] at h;cases h;cases m
    . rw[e] at h;cases h;cases m) h (RepsO.flatten ho (by simpa[flatO] using f) r hb)
theorem RepsO.flatten{K:Frag}{H:Hp}{O O':Addr->Prop}(ho:∀a,O a->Old H a):∀{v:List V} {t:List OT} {fs:List Addr},oP t=true->RepsO K H O' v t fs->(∀b∈fs,O b)->RepsO K H O v t fs
 |_,_,_,_,.nil,_=>.nil
 | _, _, _, f, .cons h r, hb => by
   simp only[oP,bD] at f;exact .cons (RepO.flatten ho f.1 h fun b z=>hb b (dB _ z)) (RepsO.flatten ho f.2 r fun b z=>hb b (bC _ z))
end
end
section
variable{X:Cx}
end
section
variable{K:Frag}{H H' H₀ : Hp}{O O':Addr->Prop}
theorem Kid.mono(s:Same H H'){b:Addr}{xs:List V}(h:Kid H b xs):Kid H' b xs:=by
 cases h with
 |tup h=>exact .tup (Keep.rd (O:=yE) (.of_same s) (fun z=>z) h)
 |lst h=>exact .lst (s _ _ h)
 |dct h=>exact .dct (s _ _ h)
 |ins h=>exact .ins (s _ _ h)
end
section
variable{X:Cx}
end
section
variable{K:Frag}{H H' H₀ : Hp}{O O':Addr->Prop}
mutual
theorem RepO.frz:∀{v:V} {t:OT} {fs:List Addr},RepO K H O v t fs->(∀a,O' a->O a/\a∉fs)->Rep K H O' v (otD t)
 |_,_,_,.val r,h=>r.less fun a z=>(h a z).1
 |_,_,_,.lst n hh r,h=>by unfold otD;exact .lst (fun z=>(h _ z).2 (.head _)) (.inl hh) (RepsO.frz r fun a z=>⟨(h a z).1,fun y=>(h a z).2 (.tail _ y)⟩)
 |_,_,_,.tup n hh r,h=>by unfold otD;exact .tup (fun z=>n (h _ z).1) hh (RepsO.frz r h)
 |_,_,_,.dct n hh e r,h=>by unfold otD;exact .dct (fun z=>(h _ z).2 (.head _)) hh e (RepsO.frz r fun a z=>⟨(h a z).1,fun y=>(h a z).2 (.tail _ y)⟩)
 |_,_,_,.ins c n hh e r,h=>by unfold otD;exact .ins c (fun z=>(h _ z).2 (.head _)) hh e (RepsO.frz r fun a z=>⟨(h a z).1,fun y=>(h a z).2 (.tail _ y)⟩)
theorem RepsO.frz:∀{v:List V} {t:List OT} {fs:List Addr},RepsO K H O v t fs->(∀a,O' a->O a/\a∉fs)->Reps K H O' v (otDs t)
 |_,_,_,.nil,_=>by unfold otDs;exact .nil
 |_,_,_,.cons hh r,h=>by unfold otDs;exact .cons (RepO.frz hh fun a z=>⟨(h a z).1,fun y=>(h a z).2 (dB _ y)⟩) (RepsO.frz r fun a z=>⟨(h a z).1,fun y=>(h a z).2 (bC _ y)⟩)
end
theorem Ok.frz{σ : L2.St}{ds:List Sl}{hd:Hold}{i:Nat}{r:Option Nat}{T:OT}(o:Ok K H₀ H O σ ds hd)(e:ds[i]?=some (.ob r T)):∃O',Ok K H₀ H O' σ (ds.set i (.v (otD T))) hd:=by
 obtain⟨F,hF⟩:=o.obs;obtain⟨v,h1,h2,h3,h4,h5⟩:=hF i r T e;have hl:i<ds.length:=(bK.mp e).1
 let O':Addr->Prop:=fun b=>O b/\b∉F i
 have sub:∀b,O' b->O b:=fun b hb=>hb.1;have own':∀{j:Nat},IsOwn (ds.set i (.v (otD T))) j->IsOwn ds j/\j≠i:=fun h=>uC (fun l=>by intro z;cases z) h;refine⟨O',o.same,fun j l' b e1 e2=>?_,fun b hb=>o.dom b (sub b hb),by simpa using o.len,fun j s es=>?_,fun j m b hjm hj hm e1 e2=>o.apart j m b hjm (own' hj).1 (own' hm).1 e1 e2,fun p hp=>?_,?_⟩
 . obtain⟨⟨l2, e2'⟩, _⟩ := own' ⟨l', e1⟩;exact o.fresh j l2 b e2' e2
 . by_cases hj : j = i
   . subst hj;rw[aT hl] at es;cases es;rw[h1];exact vN (h2.frz fun a z=>z)
   . rw [aD (Ne.symm hj)] at es;cases s with
     |no=>exact yS
     |ob r t=>exact DU
     | exc t =>
       obtain⟨a',C',ob',u',q1,q2,q3,q4⟩:=o.readX es;rw[q1];exact⟨C',ob',u',q2,q3,q4⟩
     | fr l' =>
       obtain⟨a',xs',q1,q2,q0,q3,q4⟩:=o.readF es;rw[q1];exact⟨fun z=>q2 (sub _ z),q0,xs',q3,q4.less sub⟩
     | v d =>
       obtain⟨v,q1,q2⟩:=o.read es;rw[q1];exact vN (q2.less sub)
     | own l' =>
       obtain⟨b,ys,q1,q2,q3,q4⟩:=o.readO es;rw[q1];exact⟨⟨q2,fun z=>(h5 b z).2.2 j ⟨l',es⟩ q1⟩,ys,q3,q4.less sub⟩
 . have := o.hold p hp;cases p with
   |rep v d=>exact Rep.less sub this
   |base B=>exact fun b hb=>⟨⟨(this b hb).1,fun z=>(this b hb).2 (h5 b z).1⟩,(this b hb).2⟩
   |root k a=>exact True.intro
   |fz a' o' kvs' l'=>exact⟨fun z=>this.1 (sub _ z),this.2.1,Reps.less sub this.2.2⟩
 . refine⟨F, fun j r' t' ej => ?_⟩;obtain⟨ej,hj⟩:=oJ (fun r t=>by intro z;cases z) ej;obtain⟨w,g1,g2,g3,g4,g5⟩:=hF j r' t' ej;refine⟨w,g1,g2.less sub fun b hb=>⟨(g2.owns b hb).1,fun z=>(h5 b z).2.1 j r' t' hj ej hb⟩,g3,g4,fun b hb=>⟨(g5 b hb).1,fun m r2 t2 hm em=>(g5 b hb).2.1 m r2 t2 hm (oJ (fun r t=>by intro z;cases z) em).1,fun m om em=>(g5 b hb).2.2 m (own' om).1 em⟩⟩
end
section
variable{X:Cx}
end
section
variable{X:Cx}{m:Str}{k j n:Nat}{cs:List Nat}{F:Nat->OT->List D->Option OT}{oe e:Expr}{es:List Expr}{apos pos pos':Pos}{f:FP}{g:FA}
end
section
variable{K:Frag}{H H' H₀ : Hp}{O O':Addr->Prop}
end
section
variable{X:Cx}{i:Nat}
end
end FL
namespace L2
open PySem PySem.Spec PyProof.Rows
section
variable{X:Cx}
end
theorem KV.get{κ : Type}:∀{kvs:List (κ×V)} {vs:List (κ×Value)} {i:Nat} {k : κ} {x:V},KV kvs vs->kvs[i]?=some (k,x)->∃u,vs[i]?=some (k,u)/\RelV x u
 | _ :: _, q :: _, 0, k, x, .cons h _, e => by
   simp only[aO,Option.some.injEq] at e;subst e;exact⟨q.2,by simp only[aO];rw[show k=q.1 from h.1],h.2⟩
 | _ :: _, _ :: _, i + 1, k, x, .cons _ t, e => by
   simp only[aY] at e ⊢;exact KV.get t e
section
variable{X:Cx}
end
end L2
namespace FL
open PySem PySem.Spec PyProof.Rows L2
section
variable{K:Frag}{H H' H₀ : Hp}{O O':Addr->Prop}
end
section
variable{X:Cx}
end
section
variable{K:Frag}{H H' H₀ : Hp}{O O':Addr->Prop}
end
section
variable{X:Cx}
section
variable{t k j n m:Nat}{F:OT->List D->Option OT}{x:Str}{p pos:Pos}{e:Expr}{es:List Expr}{g:FA}
end
end
section
variable{X:Cx}
section
variable{m:Str}{k j n:Nat}{cs:List Nat}{F:Nat->OT->List D->Option OT}{oe e:Expr}{es:List Expr}{apos pos pos':Pos}{f:FP}{g:FA}
end
end
end FL
namespace L2
open PySem PySem.Spec PyProof.Rows
section
variable{X:Cx}
end
end L2
namespace FL
open PySem PySem.Spec PyProof.Rows L2
section
variable{X:Cx}
end
end FL
namespace L2
open PySem PySem.Spec PyProof.Rows
section
variable{X:Cx}
end
end L2
namespace FL
open PySem PySem.Spec PyProof.Rows L2
section
variable{X:Cx}
end
section
variable{X:Cx}
end
abbrev LkF(K:Frag)(f:Addr)(oc:Value)(od:Option Addr)(nm q:Str)(st:Stmt)(dV kV dc pm:Value)(an:Option Addr)(cd ct:Value)(sl:Array (Option Value)):Prop:=K.lookup f=some ⟨oc,od,.func (eQ nm q (xP st) (qS st) (zH st) dV kV dc pm an cd ct),sl⟩
structure FunD(K:Frag)(x qual:Str)(st:Stmt)(f:Addr)(fd:FuncData)(its:Array Value):Prop where
 ex:∃(Tu:Addr) (ob:Obj) (n:Nat) (oc:Value) (od:Option Addr) (kV doc pm:Value) (an:Option Addr) (cdv ct:Value) (osl:Array (Option Value)),
  fd=eQ x qual (xP st) (qS st) (zH st) (.ref Tu) kV doc pm an cdv ct/\K.lookup f=some ⟨oc,od,.func fd,osl⟩/\gF K cdv qual=true/\K.lookup Tu=some ob/\ob.data=.seq its n
 kp:bN K (.ref f)=true
section
variable{P:Program}{w:World}{K:Frag}{mg:Str->Option Value}{base:Heap}{x qual:Str}{st:Stmt}{f:Addr}{fd:FuncData}{its:Array Value}
theorem FunD.binds{ps:List Str}{ds:List Value}(F:FunD K x qual st f fd its)
  (h:∀(Tu:Addr) (kV doc pm:Value) (an:Option Addr) (cdv ct:Value) (us:List Value),(us++ds).length=ps.length->∃k:Option (Array Value)->Sem (List (Str×Value)),bindArgs (eQ x qual (xP st) (qS st) (zH st) (.ref Tu) kV doc pm an cdv ct) ⟨us,[]⟩=seqItems? (.ref Tu) >>= k/\k (some its)=pure (ps.zip (us++ds))):Binds K fd ps ds:=by
 obtain⟨Tu,ob,n,oc,od,kV,doc,pm,an,cdv,ct,osl,rfl,lk,hcd,lt,hs⟩:=F.ex;intro s us X hl;obtain⟨k,h1,h2⟩:=h Tu kV doc pm an cdv ct us hl;exact PySem.W.binds_K X rfl lt hs h1 h2
theorem len0{P:List Value->Prop}(h:P []):∀us:List Value,us.length=0->P us:=fun us hl=>by cases us with | nil=>exact h | cons _ _=>cases hl
theorem len1{P:List Value->Prop}(h:∀a0,P [a0]):∀us:List Value,us.length=1->P us:=fun us hl=>by
 cases us with
 |nil=>cases hl
 | cons x0 r0 =>
   cases r0 with
   |nil=>exact h x0
   |cons _ _=>simp at hl
theorem len2{P:List Value->Prop}(h:∀a0 a1,P [a0,a1]):∀us:List Value,us.length=2->P us:=fun us hl=>by
 cases us with
 |nil=>cases hl
 | cons x0 r0 =>
   cases r0 with
   |nil=>cases hl
   | cons x1 r1 =>
     cases r1 with
     |nil=>exact h x0 x1
     |cons _ _=>simp at hl
theorem len3{P:List Value->Prop}(h:∀a0 a1 a2,P [a0,a1,a2]):∀us:List Value,us.length=3->P us:=fun us hl=>by
 cases us with
 |nil=>cases hl
 | cons x0 r0 =>
   cases r0 with
   |nil=>cases hl
   | cons x1 r1 =>
     cases r1 with
     |nil=>cases hl
     | cons x2 r2 =>
       cases r2 with
       |nil=>exact h x0 x1 x2
       |cons _ _=>simp at hl
theorem len4{P:List Value->Prop}(h:∀a0 a1 a2 a3,P [a0,a1,a2,a3]):∀us:List Value,us.length=4->P us:=fun us hl=>by
 cases us with
 |nil=>cases hl
 | cons x0 r0 =>
   cases r0 with
   |nil=>cases hl
   | cons x1 r1 =>
     cases r1 with
     |nil=>cases hl
     | cons x2 r2 =>
       cases r2 with
       |nil=>cases hl
       | cons x3 r3 =>
         cases r3 with
         |nil=>exact h x0 x1 x2 x3
         |cons _ _=>simp at hl
theorem len5{P:List Value->Prop}(h:∀a0 a1 a2 a3 a4,P [a0,a1,a2,a3,a4]):∀us:List Value,us.length=5->P us:=fun us hl=>by
 cases us with
 |nil=>cases hl
 | cons x0 r0 =>
   cases r0 with
   |nil=>cases hl
   | cons x1 r1 =>
     cases r1 with
     |nil=>cases hl
     | cons x2 r2 =>
       cases r2 with
       |nil=>cases hl
       | cons x3 r3 =>
         cases r3 with
         |nil=>cases hl
         | cons x4 r4 =>
           cases r4 with
           |nil=>exact h x0 x1 x2 x3 x4
           |cons _ _=>simp at hl
noncomputable def DefM(K:Frag)(x:Str)(st:Stmt)(f:Addr):Prop:=∃(oc:Value) (od:Option Addr) (kV dc pm:Value) (an:Option Addr) (cd ct:Value) (sl:Array (Option Value)),aJ K mainGlobals x=some (some (.ref f))/\LkF K f oc od x x st .none kV dc pm an cd ct sl/\gF K cd x=true/\bN K (.ref f)=true
noncomputable def DefC(K:Frag)(C:Addr)(m q:Str)(st:Stmt)(f:Addr):Prop:=∃(oc:Value) (od:Option Addr) (kV dc pm:Value) (an:Option Addr) (cd ct:Value) (sl:Array (Option Value)),aR K (.ref C) m=some (some (.ref f))/\LkF K f oc od m q st .none kV dc pm an cd ct sl/\gF K cd q=true/\bN K (.ref f)=true/\mG K (.ref f)=true
theorem DefM.get{x:Str}{st:Stmt}{f:Addr}(h:DefM K x st f):∃fd,Fun K x x st f fd/\aJ K mainGlobals x=some (some (.ref f))/\bN K (.ref f)=true :=
 let ⟨_,_,_,_,_,_,_,_,_,a,l,c,k⟩:=h;⟨_,KA l c k,a,k⟩
theorem DefC.get{C:Addr}{m q:Str}{st:Stmt}{f:Addr}(h:DefC K C m q st f):∃fd,Fun K m q st f fd/\aR K (.ref C) m=some (some (.ref f))/\bN K (.ref f)=true/\mG K (.ref f)=true :=
 let ⟨_,_,_,_,_,_,_,_,_,a,l,c,k,i⟩:=h;⟨_,KA l c k,a,k,i⟩
theorem xV{k n:Nat}{x:Str}{f:Addr}{fd:FuncData}{ps:List Str}{F:List D->Option Ret}(G:FnOk P w K mg base CX0 k f fd ps (spF K n F))(b:Binds K fd ps [])(h:bN K (.ref f)=true)(m:mg x=some (.ref f)):Cal P w K mg base x k n F:=⟨f,_,_,G,b,h,m⟩
theorem DefM.cal{k n:Nat}{x:Str}{st:Stmt}{f:Addr}{ps:List Str}{F:List D->Option Ret}{h:Heap}(d:DefM K x st f)(X:K.In h)(G:h.Ns mainGlobals mg)(hf:∀{fd},Fun K x x st f fd->FnOk P w K mg base CX0 k f fd ps (spF K n F))
  (hb:∀(kV doc pm:Value) (an:Option Addr) (cdv ct:Value) (us:List Value),us.length=ps.length->bindArgs (eQ x x (xP st) (qS st) (zH st) .none kV doc pm an cdv ct) ⟨us,[]⟩=pure (ps.zip us):=by
    intro _ _ _ _ _ _;first | exact len0 rfl | exact len1 fun _=>rfl | exact len2 fun _ _=>rfl | exact len3 fun _ _ _=>rfl | exact len4 fun _ _ _ _=>rfl | exact len5 fun _ _ _ _ _=>rfl):Cal P w K mg base x k n F :=
 let ⟨_,F1,a,c⟩:=d.get;xV (hf F1) (F1.binds hb) c (aM X G a)
end
section
variable{X:Cx}
end
section
variable{X:Cx}{m:Str}{k j:Nat}{cs:List Nat}{F:Nat->List D->Option Ret}{o:Expr}{apos pos:Pos}{fo:FE}
end
end FL
namespace L2
open PySem PySem.Spec PyProof.Rows
section
variable{prog:Program}{w:World}{A:Around}{E:Value->Shared->Prop}{s:Shared}
end
section
variable{X:Cx}
end
section
variable{X:Cx}
end
section
variable{X:Cx}
end
end L2
namespace FL
open PySem PySem.Spec PyProof.Rows L2
section
variable{X:Cx}
end
section
variable{X:Cx}
section
variable{scope:Scope}{NY:List Str}{mp:List (Option Nat)}{tg iter elt:Expr}{ifs:List Expr}{pos:Pos}{fi:FA}{ga:D->List Sl->Option (List Sl)}{tt:FT}{fe:FE}
end
theorem PVo.n{e:Expr}{f:FO}(h:PVo X e f):PVn X e (seeO f):=by
 obtain⟨t,ht,hf⟩:=h;refine⟨t,ht,fun H₀ H O σ ds hd d Q o e q=>?_⟩;unfold seeO at e;obtain⟨T,h1,rfl⟩:=mpd e;exact hf H₀ H O σ ds hd T Q o h1 fun v H' fs s r nd hn=>q v H' s (r.frz fun a z=>z.elim)
end
section
variable{X:Cx}
end
end FL
namespace L2
open PySem PySem.Spec PyProof.Rows
section
variable{X:Cx}
end
end L2
namespace FL
open PySem PySem.Spec PyProof.Rows L2
section
variable{X:Cx}
end
section
variable{prog:Program}{w:World}{A:Around}{E:Value->Shared->Prop}{s:Shared}
end
section
variable{X:Cx}{tg:Expr}
end
section
variable{K:Frag}{H H' H₀ : Hp}{O O':Addr->Prop}
end
section
variable{X:Cx}
end
section
variable{X:Cx}
section
variable{scope:Scope}{NY:List Str}{mp:List (Option Nat)}{tg iter elt:Expr}{pos:Pos}{fi:FA}{ga:D->List Sl->Option (List Sl)}{fe:FX}{i p:Nat}
end
end
section
variable{P:Program}{w:World}{K:Frag}{mg:Str->Option Value}{base:Heap}
end
open PySem.W (hideAll hideAll_get of_hideAll hideAll_none)
noncomputable def Thr0(X:Cx)(E:XK):Value->Shared->Prop:=fun e s'=>∃(pins:List (Addr×Obj)) (σ : L2.St) (H1:Hp) (s1:Shared) (ea:Addr) (cls a0:Value) (B:Heap) (H':Hp),e=.ref ea/\Inv X pins σ H1 s1/\s'.os=s1.os/\AllBare s'.gens/\Thrown X.prog X.w X.stack H1 s1 cls ea a0 B H' s'.heap/\E cls none H'
noncomputable def ThrC(X:Cx)(E:XK):Value->Shared->Prop:=fun e s'=>∃(pins:List (Addr×Obj)) (σ : L2.St) (H1:Hp) (s1:Shared) (ea:Addr) (cls a0 fl:Value) (B:Heap) (H':Hp) (h0:Heap) (C:Addr),e=.ref ea/\Inv X pins σ H1 s1/\s'.os=s1.os/\AllBare s'.gens ∧
 Thrown X.prog X.w X.stack H1 s1 cls ea a0 B H' h0/\E cls none H'/\X.s₀.heap.objs.size<=C/\H' C=none/\C∉frs X.stack/\(∀b o,b≠C->h0.get? b=some o->(∀vs,o.data≠.fields vs)->∃sl,s'.heap.get? b=some { o with slots:=sl })/\Fl2 (hideAll B [C]) X.stack ea cls a0 fl s'.heap
section
variable{M:Model}{A:Around}{E:Value->Shared->Prop}{s:Shared}{B:Heap}{l outer:List Env}{env:Env}{e L:Addr}{cls a0 fl:Value}{Q:Unit->Shared->Prop}
theorem OJ(hfr:A.frames=some (env::outer))(hf:env.frame=some L)(R:Fl2 B (env::outer) e cls a0 fl s.heap)(h:∀h',Fl2 B (env::outer) e cls a0 (rawInt L) h'->s.heap.UpToSlots h'->Q () { s with heap:=h' }):wpAny M A (noteFrame (.ref e) env) Q E s:=by
 by_cases hfl:fl=rawInt L
 . subst hfl;exact wF hf R (h s.heap R (Heap.UpToSlots.refl _))
 . obtain ⟨r1, r2, r3, oe, vs, T, oT, ts, q1, q2, q3, q4, q5, q6, q7, q8, q9⟩ := R;have ot:∀ b,b≠T->(s.heap.update T (Obj.mapFields (·.setIfInBounds 3 Value.none))).get? b=s.heap.get? b:=fun b hb=>dQ _ _ (Ne.symm hb)
   have nr:∀b o,s.heap.get? b=some o->(∀vs,o.data≠.fields vs)->b≠T:=fun b o hb hn z=>by
    rw[z,q7] at hb;cases hb;exact hn _ q8
   unfold noteFrame;simp only[hf];refine wpAny_bind (wpAny_field q1 q3 q4 ?_);rw[if_pos (by simp)];refine wpAny_bind (wpAny_field q7 q8 q9 ?_);rw[if_neg (by simpa using hfl)];refine wpAny_bind (wpAny_setField q7 q8 (gL.mp q9).1 ?_);exact KL hfr (r3.of_keeps fun b o hb hn=>⟨o,(ot b (nr b o hb hn)).trans hb,rfl⟩) hf ((ot e (Ne.symm q6)).trans q1) (fun b o hb=>(ot b fun z=>by rw[z,q5] at hb;cases hb).trans (r1 b o hb)) r2 q3 q2 fun h' f u=>h h' f fun b o hb hn=>u b o ((ot b (nr b o hb hn)).trans hb) hn
theorem KB{h h':Heap}{C:Addr}(hc:C∉frs l)(sb:Heap.SameBut C h h')(hl:h.FunFrames B l):h'.FunFrames (hideAll B [C]) l:=by
 have no:∀b,B.get? b=none->(hideAll B [C]).get? b=none:=fun b hb=>by
  cases q:(hideAll B [C]).get? b with
  |none=>rfl
  |some o=>rw[of_hideAll _ q] at hb;cases hb
 induction l with
 |nil=>trivial
 | cons env rest ih =>
   obtain⟨hk,⟨L,o,hf,hn,ho,hd⟩,hr⟩:=hl;have hL:L∈frs (env::rest):=fB.mpr ⟨env,.head _,hf⟩;refine⟨hk,⟨L,o,hf,no _ hn,(sb.2 L fun z=>hc (z▸hL)).trans ho,hd⟩,ih (fun z=>hc ?_) hr⟩;obtain⟨e,he,q⟩:=fB.mp z;exact fB.mpr ⟨e,.tail _ he,q⟩
end
section
variable{X:Cx}{E:XK}{C:Addr}
theorem NK:mO (CXM X.prog X.w) (X.wish (Thr0 X E)) E:=by
 intro pins σ H1 s1 e s' I h;obtain⟨ea,cls,a0,B,H',rfl,os,bare,T,hE⟩:=h;exact⟨pins,σ,H1,s1,ea,cls,a0,B,H',rfl,I.unwish,os,bare,T,hE⟩
theorem WA{scope:Scope}{NY:List Str}{pins:List (Addr×Obj)}{σ : L2.St}{c:CI}{use:Option (Value->Sem Unit)}{Q:Value->Shared->Prop}{acc:Value}(hout:∀e s',ThrC X E e s'->X.xe e s')(hst:X.stack=X.env::X.outer)(hfr:X.env.frame=some X.env.locals)
  (h1:X.s₀.heap.objs.size<=c.C) (h2:c.C∉frs X.stack) (toX:∀pl σ' H' s1,Inv (qT X scope NY c) pl σ' H' s1->Inv X pins σ H' s1):∀e s',Thr0 (qT X scope NY c) E e s'->notedBy (model X.prog X.w) X.A (qT X scope NY c).env (fun x s''=>compPost (model X.prog X.w) X.A X.xe use Q acc c.C (.error x) s'') e s':=by
 rintro _ s' ⟨pl,σ1,H1,s1,ea,cls,a0,B,H',rfl,I1,os,bare,T,hE⟩;have J:=toX _ _ _ _ I1;have hA:X.A.frames=some (X.env::X.outer):=by rw[<- hst];exact J.ok.frames
 have T':Thrown X.prog X.w X.stack H1 s1 cls ea a0 B H' s'.heap:=T;obtain⟨m,hn,_⟩:=I1.loc;have hn:s1.heap.Ns c.C m:=hn;have fC:H1 c.C=none:=I1.free;obtain⟨oC,esC,epC,eC,rC⟩:=hn;have n1:s'.heap.Ns c.C m:=⟨oC,esC,epC,T'.un.keep _ _ eC fC h2 (by intro z;cases z),rC⟩
 unfold notedBy;show wpAny _ _ (noteFrame (.ref ea) X.env) _ _ _;refine note2 hA hfr (by rw[<- hst];exact T'.fly) fun h4 f4 u4=>?_;have n4:=u4.ns n1;refine⟨m,n4,fun h' sb cenv _=>?_⟩;obtain⟨oD,esD,epD,eD,rD⟩:=n4
 have nf:∀{b:Addr} {o:Obj} {vs:Array Value},h4.get? b=some o->o.data=.fields vs->b≠c.C:=fun {b o vs} hb hd z=>by
  rw[z,eD] at hb;cases hb;rw[rD.1] at hd;cases hd
 obtain⟨r1,r2,r3,oe,vs,TT,oT,ts,q1,q2,q3,q4,q5,q6,q7,q8,q9⟩:=f4
 have noB:∀b,B.get? b=none->(hideAll B [c.C]).get? b=none:=fun b hb=>by
  cases q:(hideAll B [c.C]).get? b with
  |none=>rfl
  |some o=>rw[of_hideAll _ q] at hb;cases hb
 have fl:Fl2 (hideAll B [c.C]) X.stack ea cls a0 (rawInt X.env.locals) h':=by
  refine⟨fun b o hb=>?_,noB _ r2,KB h2 sb (by rw[hst];exact r3),oe,vs,TT,oT,ts,(sb.2 _ (nf q1 q3)).trans q1,q2,q3,q4,noB _ q5,q6,(sb.2 _ (nf q7 q8)).trans q7,q8,q9⟩;have nb:b≠c.C:=fun z=>by rw[z,hideAll_none _ (.head _)] at hb;cases hb
  exact(sb.2 b nb).trans (r1 b o (of_hideAll _ hb))
 unfold PySem.passOn;refine wpAny_bind (wpAny_field (s:={ s' with heap:=h' }) ((sb.2 _ (nf q1 q3)).trans q1) q3 q4 ?_);rw[if_neg (by simp)];refine wpAny_bind (set2 (s:={ s' with heap:=h' }) fl fun h5 f5 u5=>wpAny_throw (hout _ _ ?_));refine⟨pins,σ,H1,s1,ea,cls,a0,_,B,H',s'.heap,c.C,rfl,J,os,bare,T',hE,h1,T'.free _ _ eC fC,h2,fun b o nb hb hd=>?_,f5⟩;obtain⟨sl,e4⟩:=u4 b o hb hd;obtain⟨sl',e5⟩:=u5 b _ ((sb.2 b nb).trans e4) hd;exact⟨sl',e5⟩
end
theorem RV{P:Program}{w:World}{K:Frag}{mg:Str->Option Value}{base:Heap}{N:List Str}{qual:Str}{scope:Scope}{f:Addr}{cd:Value}{A:Around}{outer:List Env}{s:Shared}{H:Hp}{E:XK} :
  ∀e s',ThrC (cxOf (CXM P w) P w K mg base N qual scope f cd A outer s H E) E e s'->(cxOf (CXM P w) P w K mg base N qual scope f cd A outer s H E).xe e s':=by
 rintro _ s' ⟨pins,σ,H1,s1,ea,cls,a0,fl,B,H',h0,C,rfl,I,os,bare,T,hE,hC,hC',hCs,sm,hd⟩;have hfr:frs (envOfC qual scope s.heap.objs.size f cd::outer)=s.heap.objs.size::frs outer:=rfl
 have nm:∀b o,s.heap.get? b=some o->b∉frs outer->b∉frs (envOfC qual scope s.heap.objs.size f cd::outer):=fun b o q n z=>by
  rw[hfr] at z;rcases aF.mp z with z | z
  . exact absurd (aU q) (by rw[z];exact bZ _)
  . exact n z
 have neC:∀{b:Addr} {o:Obj},s.heap.get? b=some o->b≠C:=fun {b o} q z=>absurd (aZ (aU q) hC) (by rw[z];exact bZ _);have inB:∀{b:Addr} {o o':Obj},s.heap.get? b=some o->B.get? b=some o'->(hideAll B [C]).get? b=some o':=fun {b o o'} q e=>hideAll_get _ e fun z=>neC q (bG.mp z);show wpAny _ _ (leaving _ _) _ _ _;unfold leaving;refine wpAny_bind (OJ (L:=s.heap.objs.size) I.ok.frames rfl hd fun h1 f1 u1=>?_);refine set2 (s:={ s' with heap:=h1 }) f1 fun h' fl' x4'=>?_;obtain⟨k1,k2,⟨_,_,k3⟩,k4⟩:=fl';have x1:Fl2 (hideAll B [C]) outer ea cls a0 .none h':=⟨k1,k2,k3,k4⟩
 have x4:=u1.trans x4';refine⟨ea,cls,a0,hideAll B [C],H',rfl,os.trans I.os,bare,⟨x1,fun b o q n hb=>?_,fun b o q hb=>?_,fun b o q hb=>?_,fun b o q n=>?_,fun b xs q=>T.tups b xs (I.base.tups b xs q),fun b o u q=>T.frzs b o u (I.base.frzs b o u q),fun b ps q=>T.tbls b ps (I.base.tbls b ps q),AO T.hok _ fun b z=>by cases bG.mp z;exact hC'⟩,hE⟩
 . exact inB q (T.keep b o (I.base.keep b o q n hb (by intro z;cases z)) (I.base.free b o q n (by intro z;cases z)) (nm b o q hb))
 . obtain⟨o', q'⟩ := I.base.there b o q (by intro z;cases z);obtain⟨o2,q2⟩:=T.there b o' q' (nm b o q hb);exact⟨o2,inB q q2⟩
 . obtain⟨sl, q'⟩ := I.base.slot b o q (I.ok.frf b hb) hb (by intro z;cases z);obtain⟨sl2,q2⟩:=T.slot b _ q' (aI _ hb);obtain⟨_,ob,ho,hd'⟩:=I.ok.funs.mem hb;have ho':s.heap.get? b=some ob:=ho;have q0:=q;rw[q] at ho';cases ho';obtain⟨sl3,q3⟩:=sm b _ (neC q0) q2 hd';obtain⟨sl',q''⟩:=x4 b _ q3 hd';exact⟨sl',q''⟩
 . obtain⟨o', q'⟩ := I.base.there b o q (by intro z;cases z);exact T.free b o' q' (I.base.free b o q n (by intro z;cases z))
section
variable{X:Cx}{E:XK}{C:Addr}{scope:Scope}{NY:List Str}{mp:List (Option Nat)}{tg iter elt:Expr}{pos:Pos}{fi:FA}{ga:D->List Sl->Option (List Sl)}{fe:FE}{x:List Sl->Bool}
theorem TB{i:Nat}{y:Str}{py spos:Pos}(hN:X.N.Nodup)(hout:∀e s',ThrC X E e s'->X.xe e s')(S:CompScope X scope NY mp)(hc:X.calm=true)(hi:PIv X tg iter fi)(hg:∀c,PGv (qT X scope NY c) tg ga)
  (he:∀c,PV ((qT X scope NY c).wish (Thr0 (qT X scope NY c) E)) elt fe) (hx:∀c,PEy ((qT X scope NY c).wish (Thr0 (qT X scope NY c) E)) E C elt x)
  (hy:X.N[i]?=some y:=by rfl) (hl:X.env.scope.names.lookup y=some .local:=by rfl)
  (hsw:swapsWith (.ListComp elt [⟨tg,iter,[],0⟩] scope pos) (some (.Name y py)) spos.line X.env=pure true:=by rfl)
  (hs:∀x,foldedSetIterable iter X.env x=pure x:=by intro _;rfl) (hst:X.stack=X.env::X.outer:=by rfl) (hfr:X.env.frame=some X.env.locals:=by rfl) :
  PSy X E C (.Assign [.Name y py] (.ListComp elt [⟨tg,iter,[],0⟩] scope pos) spos) (AZ fi mp ga fe x):=by
 obtain⟨wi,pi,hi⟩:=hi;have pg:=fun c=>(Classical.choose_spec (hg c)).1;have pe:=fun c=>pe_or (Classical.choose_spec (hx c)).1 (Classical.choose_spec (he c)).1;have hg':=fun c=>(Classical.choose_spec (hg c)).2;have he':=fun c=>(Classical.choose_spec (he c)).2;have hx':=fun c=>(Classical.choose_spec (hx c)).2;refine⟨SE wi mp (fun c=>Classical.choose (hg c)) (fun _=>tNoIf) (fun c σ H Q=>Classical.choose (hx c) σ H Q\/Classical.choose (he c) σ H Q) i,?_,fun H₀ H O σ ds hd D o e _ hE=>?_⟩
 rotate_left
 . unfold AZ at e;cases h1:fi ds with
   |none=>rw[h1] at e;cases e
   | some items =>
     rw[h1] at e;obtain⟨hsz,e⟩:=IS.mp e;have hsz:=of_decide_eq_true hsz;refine hi H₀ H O σ ds hd items _ o h1 fun J p H1 s1 r1 wk=>fun c=>?_;have oI:Ok X.K H₀ H1 O (hU mp σ) (yI mp ds) (HI.rep p.1 p.2::hd):=((o.mono s1).holdMore (p:=HI.rep p.1 p.2) r1).inner mp
     refine⟨fun n m ys H2=>n<=items.length/\m=items.length-n/\Same H1 H2/\ys.length<=n/\oQ ga fe x (yI mp ds) (items.drop n)=true,
      ⟨items.length,cL _,rfl,Same.refl _,aQ _,by simpa using e⟩,?_⟩
     rintro n m ys H2 ⟨hn,rfl,s2,hy',er⟩;have o2:=oI.mono s2;obtain⟨go,_⟩:=wk H2 O o2.dom (o2.hold (HI.rep p.1 p.2) aP)
     by_cases hlt:n<items.length
     . right;have hd0:items[n]? = some items[n]:=fH hlt;obtain ⟨hgo,hyl⟩:=go n _ hd0;refine ⟨hgo,by omega,fun v H3 yy=>?_⟩;obtain ⟨s3,r3⟩:=hyl v H3 yy;rw [gY hlt,oQ] at er;cases h2:ga items[n] (yI mp ds) with
       |none=>rw[h2] at er;cases er
       | some ds1 =>
         rw[h2] at er;simp only at er;refine hg' c H₀ H3 O _ _ (HI.rep p.1 p.2::hd) v _ ds1 _ (o2.mono s3) r3 h2 fun σ' o3=>?_;unfold tNoIf;refine iteT ?_;rcases fO.mp er with e2 | e2
         . exact .inl (hx' c H₀ H3 O σ' ds1 (HI.rep p.1 p.2::hd) _ o3 e2 hE)
         . right;cases h4:fe ds1 with
           |none=>rw[h4] at e2;cases e2
           | some yd =>
             rw[h4] at e2;refine he' c H₀ H3 O σ' ds1 (HI.rep p.1 p.2::hd) yd _ o3 h4 fun v5 H5 s5 r5=>?_;exact⟨items.length-(n+1),by omega,hlt,rfl,(s2.trans s3).trans s5,by simp;omega,e2⟩
     . exfalso;have ei:n=items.length:=by omega
       subst ei;rw[mM,oQ] at er;cases er
 . intro pins s σ H D I h;rw [exec_Assign_Name_used _ _ _ _ hsw];refine wpAny_bind (wpAny_standAt (wpAny_bind ?_));show wpAny _ X.A (do let _ <- comprehension (.ListComp elt [⟨tg,iter,[],0⟩] scope pos) scope X.env _ (newList []) false (eval iter X.env) (some (assign (.Name y py) X.env))) _ _ s
   refine wpAny_bind (wpAny_mono (wpAny_comprehension_free (use:=some (assign (.Name y py) X.env)) (Q:=fun _ s'=>SP X pins D .next s') rfl hs (xO fun y hy hk=>I.ok.has y.1 (S.free y hy hk)) S.kind S.names
    (thn (pi pins s σ H _ I h) fun v s1 h1=>thn h1 fun itv s2 h2=>?_)) (fun _ s' hq=>wpAny_pure (wpAny_pure hq)) fun _ _ e=>e)
   obtain⟨it,fp,tn,J,H2,e,I2,T,st2,f2,hk⟩:=h2;subst e
   refine vG (RR:=fun acc C=>compPost (model X.prog X.w) X.A X.xe (some (assign (.Name y py) X.env)) (fun _ s'=>SP X pins D .next s') acc C) (WW:=fun c=>Thr0 (qT X scope NY c) E) S (fun _ _=>hc) I2 T st2 f2 pg (fun c=>TR) pe
    (fun c k1 k2 k3=>WA hout hst hfr k1 k2 k3) hk ?_
   intro s' C' m ys H' q hD hC hCD hn hI hct;have J':=hI q.1;refine wpAny_assign_Name (kD J' hN hy (.inl hl) (v:=.ref s2.heap.objs.size) rfl (fun s'' I'' sb=>?_) (.inr hl));obtain⟨a,sba,ha⟩:=sb
   have haC:C'≠a:=by
    rcases ha with rfl | ha
    . exact hct.1
    . exact fun z=>hct.2.2.1 _ _ ha z.symm
   refine⟨m,hn.sameBut sba haC,fun h' sb'=>?_⟩;exact⟨_,_,I''.turned (it:=C') (t':=s''.toks) (fun b o hb e=>(sb'.2 b hb).trans e) (by rw[zX hCD];exact hC) hct.1 (.inr hct.2.1) hct.2.2.1 hct.2.2.2,q.2 _ hD⟩
end
section
variable{X:Cx}
theorem TC{st b₀ : Stmt}{suite:List Stmt}{sx en:Str}{hp hpos pos:Pos}{i t u v v':Nat}{C C' C2 C3 S:Addr}{g h:FS}{x y z z':List Sl->Bool}
  (hN:X.N.Nodup) (hm:X.mg sx=some (.ref S)) (hS:XCatch X.K C S) (hS':XCatch X.K C' S) (hS2:XCatch X.K C2 S) (hS3:XCatch X.K C3 S) (hC:aJ X.K mainGlobals (xName t)=some (some (.ref C))) (hC':aJ X.K mainGlobals (xName u)=some (some (.ref C'))) (hC2:aJ X.K mainGlobals (xName v)=some (some (.ref C2))) (hC3:aJ X.K mainGlobals (xName v')=some (some (.ref C3)))
  (hg:∀W,PSv (X.wish W) st g) (hx:∀W,oR (X.wish W) C st x) (hy:∀W,oR (X.wish W) C' st y) (hz:∀W,oR (X.wish W) C2 st z) (hz':∀W,oR (X.wish W) C3 st z') (hs:∀ea oe xe,HdP (gC X ea xe (upd X.H₀ ea (.frz oe (.own ea))))->PSsv (gC X ea xe (upd X.H₀ ea (.frz oe (.own ea)))) (b₀::suite) h)
  (hi:X.N[i]?=some en:=by rfl) (hlo:X.env.kindOf en=some .local:=by rfl) (hst:X.stack=X.env::X.outer:=by rfl) (hfr:X.env.frame=some X.env.locals:=by rfl) (hex:X.ex=[]:=by rfl)
  (hgS:Gl X sx:=by rfl) (hdb:(sx==("__debug__" : Str))=false:=by decide) :
  PSv X (.Try [st] [.ExceptHandler (some (.Name sx hp)) (some en) (b₀::suite) hpos] [] [] pos) (tryG4 i t u v v' g x y z z' h):=by
 refine⟨fun D σ H=>∀pins s,Inv X pins σ H s->wpAny (model X.prog X.w) X.A (exec (.Try [st] [.ExceptHandler (some (.Name sx hp)) (some en) (b₀::suite) hpos] [] [] pos) X.env) (SP X pins D) X.xe s,
  fun pins s σ H D I h=>h pins s I,fun H₀ H O σ ds hd out D o e af pins s I=>?_⟩
 refine wpAny_Try_except (wpAny_execs_cons ?_);show wpAny _ _ _ _ (tryE X pins D [.ExceptHandler (some (.Name sx hp)) (some en) (b₀::suite) hpos]) s;unfold tryG4 at e
 have one:∀{t':Nat} {C':Addr} {x':List Sl->Bool},XCatch X.K C' S->aJ X.K mainGlobals (xName t')=some (some (.ref C'))->(∀W,oR (X.wish W) C' st x')->x' ds=true->(h (ds.set i (.exc t'))).map (goneO i)=some out →
   wpAny (model X.prog X.w) X.A (exec st X.env) (fun f s1=>wpAny (model X.prog X.w) X.A (execs [] X.env) (fun f s2=>SP X pins D f s2) (tryE X pins D [.ExceptHandler (some (.Name sx hp)) (some en) (b₀::suite) hpos]) s1/\False) (tryE X pins D [.ExceptHandler (some (.Name sx hp)) (some en) (b₀::suite) hpos]) s:=fun {t' C' x'} k1 k2 k3 k4 k5=>by
  cases hh:h (ds.set i (.exc t')) with
  |none=>rw[hh] at k5;cases k5
  | some out' =>
    rw[hh] at k5;cases k5;exact wpAny_mono (NJ hN hm k1 k2 k3 hs hi hlo hst hfr hex hgS hdb I o k4 hh af) (fun _ _ z=>z.elim) (fun _ _ z=>z)
 by_cases hxd:x ds=true
 . rw[if_pos hxd] at e;exact wpAny_mono (one hS hC hx hxd e) (fun _ _ z=>z.2.elim) (fun _ _ z=>z)
 rw[if_neg hxd] at e
 by_cases hyd:y ds=true
 . rw[if_pos hyd] at e;exact wpAny_mono (one hS' hC' hy hyd e) (fun _ _ z=>z.2.elim) (fun _ _ z=>z)
 rw[if_neg hyd] at e
 by_cases hzd:z ds=true
 . rw[if_pos hzd] at e;exact wpAny_mono (one hS2 hC2 hz hzd e) (fun _ _ z=>z.2.elim) (fun _ _ z=>z)
 rw[if_neg hzd] at e
 by_cases hzd':z' ds=true
 . rw[if_pos hzd'] at e;exact wpAny_mono (one hS3 hC3 hz' hzd' e) (fun _ _ z=>z.2.elim) (fun _ _ z=>z)
 . rw [if_neg hzd'] at e;obtain ⟨t,ht,hf⟩:=hg (tryE X pins D [.ExceptHandler (some (.Name sx hp)) (some en) (b₀::suite) hpos]);refine wpAny_mono (ht pins s σ H D (I.wish _) (hf H₀ H O σ ds hd out D o e af)) (fun f s1 q=>?_) (fun _ _ z=>z);have q':=q.unwish;cases f with
   |next=>exact wpAny_execs_nil (wpAny_execs_nil q')
   |brk=>exact q'
   |cont=>exact q'
   |ret u=>exact q'
end
end FL
namespace FL
open PySem PySem.Spec PyProof.Rows L2
noncomputable def oi:Option Int->D
 |none=>.non
 |some i=>.int i
@[simp] theorem oi_none:oi none=.non:=rfl
@[simp] theorem oi_some(i:Int):oi (some i)=.int i:=rfl
noncomputable def andK(r:Option D):D->Option D:=fun d=>match d with | .bl true=>r | .bl false=>some (.bl false) | _=>none
noncomputable def orK(r:Option D):D->Option D:=fun d=>match d with | .bl true=>some (.bl true) | .bl false=>r | _=>none
@[simp] theorem andK_bl(r:Option D)(b:Bool):andK r (.bl b)=if b=true then r else some (.bl false):=by cases b<;>rfl
@[simp] theorem orK_bl(r:Option D)(b:Bool):orK r (.bl b)=if b=true then some (.bl true) else r:=by cases b<;>rfl
@[simp] theorem ite_andD(b c:Bool):(if b=true then some (D.bl c) else some (D.bl false))=some (.bl (b&&c)):=by cases b<;>rfl
@[simp] theorem ite_orD(b c:Bool):(if b=true then some (D.bl true) else some (D.bl c))=some (.bl (b||c)):=by cases b<;>rfl
@[simp] theorem ite_andB(b c:Bool):(if b=true then some c else some false)=some (b&&c):=by cases b<;>rfl
@[simp] theorem ite_orB(b c:Bool):(if b=true then some true else some c)=some (b||c):=by cases b<;>rfl
@[simp] theorem ite_andB'(p:Prop)[Decidable p](c:Bool):(if p then some c else some false)=some (decide p&&c):=by by_cases h:p<;>simp[h]
@[simp] theorem ite_orB'(p:Prop)[Decidable p](c:Bool):(if p then some true else some c)=some (decide p||c):=by by_cases h:p<;>simp[h]
@[simp] theorem szl:sizeLine=16777216:=sizeLine_eq
section
variable(ds:List Sl)
@[simp] theorem getV_eq(i:Nat):yR i ds=match ds[i]? with | some (.v d)=>some d | _=>none:=rfl
@[simp] theorem jX(i:Nat):zG i ds=match ds[i]? with | some (.v d)=>some d | some (.own l)=>some (.lst l) | _=>none:=rfl
@[simp] theorem qY(d:D):zA d ds=some d:=rfl
@[simp] theorem yK(op:D->D->Option D)(fa fb:FE):zI op fa fb ds=(fa ds).bind fun x=>(fb ds).bind fun y=>op x y:=rfl
@[simp] theorem RT(op:D->Option D)(f:FE):un1 op f ds=(f ds).bind op:=rfl
@[simp] theorem xE(F:List D->Option D)(g:FA):callB F g ds=(g ds).bind F:=rfl
@[simp] theorem HZ(n:Nat)(F:List D->Option Ret)(g:FA):qJ n F g ds=(g ds).bind fun l=>if l.length=n then (F l).bind retV else none:=rfl
@[simp] theorem callF_eq(n:Nat)(F:List D->Option Ret)(g:FA):callF n F g ds=(g ds).bind fun l=>if l.length=n then (F l).bind retF else none:=rfl
@[simp] theorem retV_val(d:D):retV (.val d)=some d:=rfl
@[simp] theorem uW(l:List D):retV (.fresh l)=some (.lst l):=rfl
@[simp] theorem retF_val(d:D):retF (.val d)=none:=rfl
@[simp] theorem retF_fresh(l:List D):retF (.fresh l)=some l:=rfl
@[simp] theorem xC(f:FE)(g:FA):zF f g ds=(f ds).bind fun x=>(g ds).map fun r=>x::r:=rfl
@[simp] theorem xR:zR ds=some []:=rfl
@[simp] theorem wS(f:FA):qI f ds=(f ds).bind fun l=>if l.length<=sizeLine then some l else none:=rfl
@[simp] theorem yY(f:FA):mkL f ds=(f ds).map D.lst:=rfl
@[simp] theorem mkT_eq(f:FA):mkT f ds=(f ds).map D.tup:=rfl
@[simp] theorem testB_eq(f:FE):zT f ds=(f ds).bind isB:=rfl
@[simp] theorem GD(f:FE):testT f ds=(f ds).bind truD:=rfl
@[simp] theorem isB_bl(b:Bool):isB (.bl b)=some b:=rfl
@[simp] theorem andT_eq(c d:FT):andT c d ds=(c ds).bind fun b=>if b=true then d ds else some false:=rfl
@[simp] theorem orT_eq(c d:FT):orT c d ds=(c ds).bind fun b=>if b=true then some true else d ds:=rfl
@[simp] theorem MB(c:FT):notT c ds=(c ds).map not:=rfl
@[simp] theorem andV_eq(f g:FE):andV f g ds=(f ds).bind (andK (g ds)):=rfl
@[simp] theorem orV_eq(f g:FE):orV f g ds=(f ds).bind (orK (g ds)):=rfl
@[simp] theorem notV_eq(f:FE):notV f ds=(f ds).bind fun d=>match d with | .bl b=>some (.bl (!b)) | _=>none:=rfl
@[simp] theorem ifV_eq(c:FT)(f g:FE):ifV c f g ds=(c ds).bind fun b=>if b=true then f ds else g ds:=rfl
@[simp] theorem seqG_eq(f g:FS):qM f g ds=(f ds).bind fun o=>match o with | .nx ds'=>g ds' | o=>some o:=rfl
@[simp] theorem VH(c:FT)(f g:FS):ifG c f g ds=(c ds).bind fun b=>if b=true then f ds else g ds:=rfl
@[simp] theorem jZ(i:Nat)(f:FE):jG i f ds=(f ds).map fun d=>.nx (ds.set i (.v d)):=rfl
@[simp] theorem setOG_eq(i:Nat)(f:FA):setOG i f ds=(f ds).map fun l=>.nx (ds.set i (.own l)):=rfl
@[simp] theorem XX(f:FE):retG f ds=(f ds).bind flatR:=rfl
@[simp] theorem uX(f:FA):retOG f ds=(f ds).bind flatF:=rfl
@[simp] theorem retXG_eq(i:Nat):retXG i ds=match ds[i]? with | some (.own l)=>flatF l | _=>none:=rfl
@[simp] theorem nextG_eq:qD ds=some (.nx ds):=rfl
@[simp] theorem appG_eq(i:Nat)(fe:FE):appG i fe ds=match ds[i]? with
 |some (.own l)=>(fe ds).bind fun d=>if l.length<sizeLine then some (.nx (ds.set i (.own (l++[d])))) else none
 |_=>none:=rfl
@[simp] theorem extG_eq(i:Nat)(fe:FA):extG i fe ds=match ds[i]? with
 |some (.own l)=>(fe ds).bind fun d=>if l.length+d.length<=sizeLine then some (.nx (ds.set i (.own (l++d)))) else none
 |_=>none:=rfl
@[simp] theorem putG_eq(i:Nat)(fk fe:FE):putG i fk fe ds=match ds[i]? with
 | some (.own l) => (fe ds).bind fun d => (fk ds).bind fun k => match k with
   | .int n=>(ixN l.length n).map fun j=>.nx (ds.set i (.own (l.set j d)))
   |_=>none
 |_=>none:=rfl
@[simp] theorem clrG_eq(i:Nat):clrG i ds=match ds[i]? with
 |some (.own l)=>some (.nx (ds.set i (.own [])))
 |_=>none:=rfl
@[simp] theorem NB(ga:D->List Sl->Option (List Sl))(f:FE):asgG ga f ds=(f ds).bind fun d=>(ga d ds).map .nx:=rfl
@[simp] theorem relS_eq(i:Nat):relS i ds=match ds[i]? with | some (.own l)=>ds.set i (.v (.lst l)) | _=>ds:=rfl
@[simp] theorem XG(f:FE)(k:D->Option (List D)):viaA f k ds=(f ds).bind k:=rfl
@[simp] theorem asLT_lst(l:List D):asLT (.lst l)=some l:=rfl
@[simp] theorem asLT_tup(l:List D):asLT (.tup l)=some l:=rfl
@[simp] theorem MY(fa fb:FE):catA fa fb ds=(fa ds).bind fun x=>(fb ds).bind fun y=>match x,y with
 | .lst a,.lst b=>if a.length+b.length<=sizeLine then some (a++b) else none
 |_,_=>none:=rfl
@[simp] theorem sliA_eq(f:FE)(lo hi:List Sl->Option (Option Int)):sliA f lo hi ds=(f ds).bind fun d=>(lo ds).bind fun a=>(hi ds).bind fun b=>match d with
 | .lst l=>some (cutD l a b)
 |_=>none:=rfl
@[simp] theorem lisA_eq(f:FE):lisA f ds=(f ds).bind asLT:=rfl
@[simp] theorem noP_eq:noP ds=some none:=rfl
@[simp] theorem soP_eq(f:FE):soP f ds=(f ds).bind fun d=>match d with | .int i=>some (some i) | _=>none:=rfl
@[simp] theorem wD(fi:FA)(ga:D->List Sl->Option (List Sl))(body:FS):forG fi ga body ds=(fi ds).bind fun items=>jH ga body items ds:=rfl
@[simp] theorem nameG_eq(i:Nat)(d:D):qL i d ds=some (ds.set i (.v d)):=rfl
@[simp] theorem tupG_eq(n:Nat)(h:List D->List Sl->Option (List Sl))(l:List D):tupG n h (.tup l) ds=if l.length=n then h l ds else none:=rfl
@[simp] theorem tgCons_eq(g:D->List Sl->Option (List Sl))(h:List D->List Sl->Option (List Sl))(d:D)(r:List D):jF g h (d::r) ds=(g d ds).bind fun ds'=>h r ds':=rfl
@[simp] theorem tgNil_eq:tgNil [] ds=some ds:=rfl
@[simp] theorem isiG_eq(T:String)(f:FE):isiG T f ds=(f ds).bind (isiD T):=rfl
@[simp] theorem chain_eq(op op':D->D->Option D)(fa fb fc:FE):chain op op' fa fb fc ds=(fa ds).bind fun x=>(fb ds).bind fun y=>(op x y).bind fun z=>match z with
 | .bl true=>(fc ds).bind fun w=>op' y w
 | .bl false=>some (.bl false)
 |_=>none:=rfl
end
@[simp] theorem addD_int(i j:Int):yA (.int i) (.int j)=some (.int (i+j)):=rfl
@[simp] theorem vV(i j:Int):subD (.int i) (.int j)=some (.int (i-j)):=rfl
@[simp] theorem GY(i:Int):negD (.int i)=some (.int (-i)):=rfl
@[simp] theorem ltD_int(i j:Int):ltD (.int i) (.int j)=some (.bl (decide (i<j))):=rfl
@[simp] theorem leD_int(i j:Int):leD (.int i) (.int j)=some (.bl (decide (i<=j))):=rfl
@[simp] theorem gtD_int(i j:Int):gtD (.int i) (.int j)=some (.bl (decide (j<i))):=rfl
@[simp] theorem geD_int(i j:Int):geD (.int i) (.int j)=some (.bl (decide (j<=i))):=rfl
@[simp] theorem UQ{j:Int}(i:Int)(h:0<j):wB (.int i) (.int j)=some (.int (i%j)):=if_pos h
theorem HU{j:Int}(h:0<j)(h2:j<1000000000):divOk j:=⟨h,by
 have h3:j.natAbs<2 ^ 30:=by
  have:(2:Nat) ^ 30=1073741824:=by decide
  omega
 have h4:j.natAbs≠0:=by omega
 have:=(Nat.log2_lt h4).mpr h3
 omega⟩
@[simp] theorem fdivD_small{j:Int}(i:Int)(h:0<j)(h2:j<1000000000):xD (.int i) (.int j)=some (.int (i/j)):=if_pos (HU h h2)
theorem uD{i j:Int}(h:IntMulOk i j):mulD (.int i) (.int j)=some (.int (i*j)):=if_pos h
theorem YI{i j:Int}(h:CPowB i j):powD (.int i) (.int j)=some (.int (i ^ j.toNat)):=if_pos h
theorem ZV{i j:Int}{n m:Nat}(h:i.natAbs<2 ^ n)(h0:0<=j)(h1:j<=m)(h2:n*m<=134217728):CPowB i j:=by
 refine⟨h0,?_⟩;have hb:Builtin.Int.intBits i<=n:=intBits_le_iff.mpr h;have h3:(Builtin.Int.intBits i:Int)*j<=(n:Int)*(m:Int):=Int.mul_le_mul (by omega) h1 h0 (by omega);have h4:((n*m:Nat):Int)<=134217728:=by omega
 have e:((n*m:Nat):Int)=(n:Int)*(m:Int):=Int.natCast_mul n m;have e2:(2:Int) ^ 27=134217728:=by decide
 rw[e2];omega
@[simp] theorem pow10{j:Int}(h0:0<=j)(h1:j<=1000):powD (.int 10) (.int j)=some (.int (10 ^ j.toNat)):=YI (ZV (n:=4) (m:=1000) (by decide) h0 h1 (by decide))
@[simp] theorem mxD_int(i j:Int):mxD [.int i,.int j]=some (.int (max i j)):=by
 show some (D.int (if j>i then j else i))=_;congr 2
 split<;>omega
@[simp] theorem mnD_int(i j:Int):mnD [.int i,.int j]=some (.int (min i j)):=by
 show some (D.int (if j<i then j else i))=_;congr 2
 split<;>omega
@[simp] theorem lenD_lst(l:List D):lenD [.lst l]=some (.int l.length):=rfl
@[simp] theorem lenD_tup(l:List D):lenD [.tup l]=some (.int l.length):=rfl
@[simp] theorem isD_non:isD .non .non=some (.bl true):=rfl
@[simp] theorem isD_int(i:Int):isD (.int i) .non=some (.bl false):=rfl
@[simp] theorem isD_bl(i:Bool):isD (.bl i) .non=some (.bl false):=rfl
@[simp] theorem isD_tup(i:List D):isD (.tup i) .non=some (.bl false):=rfl
@[simp] theorem isD_lst(i:List D):isD (.lst i) .non=some (.bl false):=rfl
@[simp] theorem isD_oi(o:Option Int):isD (oi o) .non=some (.bl o.isNone):=by cases o<;>rfl
@[simp] theorem notD_non:notD .non .non=some (.bl false):=rfl
@[simp] theorem notD_int(i:Int):notD (.int i) .non=some (.bl true):=rfl
@[simp] theorem notD_bl(i:Bool):notD (.bl i) .non=some (.bl true):=rfl
@[simp] theorem notD_tup(i:List D):notD (.tup i) .non=some (.bl true):=rfl
@[simp] theorem notD_lst(i:List D):notD (.lst i) .non=some (.bl true):=rfl
@[simp] theorem notD_oi(o:Option Int):notD (oi o) .non=some (.bl o.isSome):=by cases o<;>rfl
@[simp] theorem KS(b:Bool):truD (.bl b)=some b:=rfl
@[simp] theorem truD_non:truD .non=some false:=rfl
@[simp] theorem truD_lst(l:List D):truD (.lst l)=some (!l.isEmpty):=rfl
@[simp] theorem truD_tup(l:List D):truD (.tup l)=some (!l.isEmpty):=rfl
theorem uE{n:Nat}{i:Int}(h:0<=i)(h2:i<n):ixN n i=some i.toNat:=by
 unfold ixN;rw[if_pos h,if_pos h2]
theorem xQ(l:List D){i:Int}(h:0<=i)(h2:i<l.length):ixD (.lst l) (.int i)=l[i.toNat]?:=by
 show atI l i=_;unfold atI;rw[uE h h2];rfl
theorem kK(l:List D){i:Int}(h:0<=i)(h2:i<l.length):ixD (.tup l) (.int i)=l[i.toNat]?:=by
 show atI l i=_;unfold atI;rw[uE h h2];rfl
@[simp] theorem ixT0(a:D)(l:List D):ixD (.tup (a::l)) (.int 0)=some a:=by
 rw[kK _ (by decide) (by rw[aG];omega)];rfl
@[simp] theorem ixT1(a b:D)(l:List D):ixD (.tup (a::b::l)) (.int 1)=some b:=by
 rw[kK _ (by decide) (by rw[aG,aG];omega)];rfl
@[simp] theorem ixT2(a b c:D)(l:List D):ixD (.tup (a::b::c::l)) (.int 2)=some c:=by
 rw[kK _ (by decide) (by rw[aG,aG,aG];omega)];rfl
@[simp] theorem ixL0(a:D)(l:List D):ixD (.lst (a::l)) (.int 0)=some a:=by
 rw[xQ _ (by decide) (by rw[aG];omega)];rfl
@[simp] theorem ixL1(a b:D)(l:List D):ixD (.lst (a::b::l)) (.int 1)=some b:=by
 rw[xQ _ (by decide) (by rw[aG,aG];omega)];rfl
theorem VC(l:List D)(a:D):ixD (.lst (l++[a])) (.int (-1))=some a:=by
 show atI (l++[a]) (-1)=_;unfold atI ixN;rw[if_neg (by decide),if_pos (by rw[bO,gE];omega),bO,gE];have e:(-1+((l.length+1:Nat):Int)).toNat=l.length:=by omega
 rw[e];simp
@[simp] theorem flat_non:flat .non=true:=by simp[flat]
@[simp] theorem flat_bl(b:Bool):flat (.bl b)=true:=by simp[flat]
@[simp] theorem flat_int(i:Int):flat (.int i)=true:=by simp[flat]
@[simp] theorem flat_str(i:Str):flat (.str i)=true:=by simp[flat]
@[simp] theorem flat_tup(l:List D):flat (.tup l)=flats l:=by simp[flat]
@[simp] theorem flats_nil:flats []=true:=by simp[flats]
@[simp] theorem flats_cons(d:D)(l:List D):flats (d::l)=(flat d&&flats l):=by simp[flats]
@[simp] theorem flat_oi(o:Option Int):flat (oi o)=true:=by cases o<;>simp
theorem wZ{d:D}(h:flat d=true):flatR d=some (.rt (.val d)):=if_pos h
@[simp] theorem flatR_non:flatR .non=some (.rt (.val .non)):=wZ (by simp)
@[simp] theorem flatR_bl(b:Bool):flatR (.bl b)=some (.rt (.val (.bl b))):=wZ (by simp)
@[simp] theorem flatR_int(i:Int):flatR (.int i)=some (.rt (.val (.int i))):=wZ (by simp)
@[simp] theorem flatR_str(i:Str):flatR (.str i)=some (.rt (.val (.str i))):=wZ (by simp)
@[simp] theorem flatR_tup(l:List D)(h:flats l=true):flatR (.tup l)=some (.rt (.val (.tup l))):=wZ (by simpa using h)
@[simp] theorem flatF_of(l:List D)(h:flats l=true):flatF l=some (.rt (.fresh l)):=if_pos h
@[simp] theorem shal_int(n:Nat)(i:Int):shal n (.int i)=true:=by simp[shal]
@[simp] theorem shal_non(n:Nat):shal n .non=true:=by simp[shal]
@[simp] theorem shal_bl(n:Nat)(b:Bool):shal n (.bl b)=true:=by simp[shal]
@[simp] theorem shal_oi(n:Nat)(o:Option Int):shal n (oi o)=true:=by cases o<;>simp
@[simp] theorem shal_lst(n:Nat)(l:List D):shal n (.lst l)=shals n l:=by simp[shal]
@[simp] theorem shals_nil(n:Nat):shals n []=true:=by cases n<;>simp[shals]
@[simp] theorem shals_cons(n:Nat)(d:D)(l:List D):shals (n+1) (d::l)=(shal n d&&shals (n+1) l):=by simp[shals]
theorem wC{x y:D}(h:shal 40 x=true)(h2:shal 40 y=true):eqD x y=some (.bl (eqvD x y)):=if_pos ⟨h,h2⟩
theorem UO{x y:D}(h:shal 40 x=true)(h2:shal 40 y=true):neD x y=some (.bl (!eqvD x y)):=if_pos ⟨h,h2⟩
@[simp] theorem eqvD_int(i j:Int):eqvD (.int i) (.int j)=decide (i=j):=by
 show(i==j)=_;rw[gA];simp
@[simp] theorem eqvD_bl(i j:Bool):eqvD (.bl i) (.bl j)=decide (i=j):=by
 show(i==j)=_;rw[gA];simp
@[simp] theorem eqvD_non:eqvD .non .non=true:=rfl
@[simp] theorem ZR(j:Int):eqvD .non (.int j)=false:=rfl
@[simp] theorem ZS(j:Int):eqvD (.int j) .non=false:=rfl
@[simp] theorem eqvD_oi(o p:Option Int):eqvD (oi o) (oi p)=decide (o=p):=by cases o<;>cases p<;>simp
@[simp] theorem eqvD_lst(a b:List D):eqvD (.lst a) (.lst b)=eqvs a b:=by simp[eqvD,eqvs,toPy,PyData.eqv]
@[simp] theorem eqvs_nil:eqvs [] []=true:=by simp[eqvs,toPys,PyData.eqvAll]
@[simp] theorem eqvs_cons(x y:D)(a b:List D):eqvs (x::a) (y::b)=(eqvD x y&&eqvs a b):=by simp[eqvs,eqvD,toPys,PyData.eqvAll]
@[simp] theorem WP(y:D)(b:List D):eqvs [] (y::b)=false:=by simp[eqvs,toPys,PyData.eqvAll]
@[simp] theorem WQ(y:D)(b:List D):eqvs (y::b) []=false:=by simp[eqvs,toPys,PyData.eqvAll]
@[simp] theorem eqD_int(i j:Int):eqD (.int i) (.int j)=some (.bl (decide (i=j))):=by rw[wC (by simp) (by simp)];simp
@[simp] theorem neD_int(i j:Int):neD (.int i) (.int j)=some (.bl (!decide (i=j))):=by rw[UO (by simp) (by simp)];simp
@[simp] theorem eqD_oi(i j:Option Int):eqD (oi i) (oi j)=some (.bl (decide (i=j))):=by rw[wC (by simp) (by simp)];simp
@[simp] theorem bind_ite{α β : Type}{c:Prop}[Decidable c](a b:Option α)(f : α->Option β):(if c then a else b).bind f=if c then a.bind f else b.bind f:=by split<;>rfl
@[simp] theorem map_ite{α β : Type}{c:Prop}[Decidable c](a b:Option α)(f : α->β):(if c then a else b).map f=if c then a.map f else b.map f:=by split<;>rfl
theorem wM{fi:FA}{mp:List (Option Nat)}{ga:D->List Sl->Option (List Sl)}{tt:FT}{fe:FE}{ds:List Sl}{items l:List D}(h:fi ds=some items)(hl:items.length<=sizeLine)(hc:compL ga tt fe (yI mp ds) items=some l):compG fi mp ga tt fe ds=some l:=by
 unfold compG;rw[h];show(if items.length<=sizeLine then compL ga tt fe (yI mp ds) items else none)=_;rw[if_pos hl];exact hc
theorem IC:∀bs:List Bool,blsD (bs.map D.bl)=some bs
 |[]=>rfl
 |b::r=>by simp[blsD,IC r]
@[simp] theorem WG(bs:List Bool):allD [.lst (bs.map D.bl)]=some (.bl (bs.all id)):=by simp[allD,IC]
theorem CT{ga:D->List Sl->Option (List Sl)}{body:FS}(P:Nat->List Sl->Prop):∀(items:List D) (n:Nat) (ds:List Sl),P n ds →
  (∀d∈items,∀m ds,m<n+items.length->P m ds->∃ds1 ds2,ga d ds=some ds1/\(body ds1=some (.nx ds2)\/body ds1=some (.ct ds2))/\P (m+1) ds2)->∃ds',jH ga body items ds=some (.nx ds')/\P (n+items.length) ds'
 |[],n,ds,h,_=>⟨ds,rfl,h⟩
 | d :: r, n, ds, h, H => by
   obtain⟨ds1,ds2,e1,e2,h2⟩:=H d aP n ds (by simp) h;obtain⟨ds',e3,h3⟩:=CT P r (n+1) ds2 h2 fun x hx m ds hm=>H x (aI _ hx) m ds (by simp only[aG];omega)
   refine ⟨ds', ?_, by rw [aG]; have e : n + (r.length + 1) = n + 1 + r.length := by omega
                       rw[e];exact h3⟩
   rcases e2 with e2 | e2<;>simp only[jH,e1,e2,aC,e3]
@[simp] theorem ixL2(a b c:D)(l:List D):ixD (.lst (a::b::c::l)) (.int 2)=some c:=by
 rw[xQ _ (by decide) (by rw[aG,aG,aG];omega)];rfl
@[simp] theorem ixL3(a b c d:D)(l:List D):ixD (.lst (a::b::c::d::l)) (.int 3)=some d:=by
 rw[xQ _ (by decide) (by rw[aG,aG,aG,aG];omega)];rfl
@[simp] theorem rng3_eq(fa fb fc:FE)(ds:List Sl):rng3 fa fb fc ds=(fa ds).bind fun x=>(fb ds).bind fun y=>(fc ds).bind fun z=>match x,y,z with
 | .int i,.int j,.int c=>if okR3 i j c then some (kM i c (steps3 i j c)) else none
 |_,_,_=>none:=rfl
@[simp] theorem rng2_eq(fa fb:FE)(ds:List Sl):rng2 fa fb ds=(fa ds).bind fun x=>(fb ds).bind fun y=>match x,y with
 | .int i,.int j=>if okR i/\okR j then some (gT i (j-i).toNat) else none
 |_,_=>none:=rfl
@[simp] theorem rng1_eq(f:FE)(ds:List Sl):rng1 f ds=(f ds).bind fun d=>match d with | .int j=>if okR j then some (gT 0 j.toNat) else none | _=>none:=rfl
theorem wN{j:Int}(h : -1000000000<=j)(h2:j<=1000000000):okR j:=⟨IG (by decide) h,pU h2 (by decide)⟩
theorem JI{i j c:Int}(h : -1000000000<=i)(h2:i<=1000000000)(h3 : -1000000000<=j)(h4:j<=1000000000)(h5:0<c)(h6:c<1000000):okR3 i j c :=
 ⟨IG (by decide) h,pU h2 (by decide),IG (by decide) h3,pU h4 (by decide),h5,h6⟩
@[simp] theorem absD_int(i:Int):absD [.int i]=some (.int (if i<0 then -i else i)):=rfl
@[simp] theorem int1D_int(i:Int):int1D [.int i]=some (.int i):=rfl
@[simp] theorem int1D_bl(b:Bool):int1D [.bl b]=some (.int (if b then 1 else 0)):=rfl
@[simp] theorem augA_eq(i:Nat)(f:FE)(ds:List Sl):augA i f ds=(yR i ds).bind fun x=>(f ds).bind fun y=>match x,y with
 | .int a,.int b=>some (.nx (ds.set i (.v (.int (a+b)))))
 |_,_=>none:=rfl
@[simp] theorem parG_eq(i j:Nat)(f:FA)(ds:List Sl):parG i j f ds=(f ds).bind fun l=>match l with
 |[a,b]=>some (.nx ((ds.set i (.v a)).set j (.v b)))
 |_=>none:=rfl
@[simp] theorem revA_eq(f:FE)(ds:List Sl):revA f ds=(f ds).bind fun d=>match d with
 | .lst l=>some l.reverse
 |_=>none:=rfl
theorem JO{d:D}{lo c:Int}{n:Nat}(h:d∈kM lo c n):∃k:Nat,k<n/\d=.int (lo+(k:Int)*c):=by
 obtain⟨k,hk,rfl⟩:=mR.mp h;exact⟨k,nQ.mp hk,rfl⟩
theorem zN{f g:FS}{ds ds':List Sl}(h:f ds=some (.nx ds')):qM f g ds=g ds':=by simp[h]
theorem qR{f g:FS}{ds:List Sl}{r:Ret}(h:f ds=some (.rt r)):qM f g ds=some (.rt r):=by simp[h]
theorem jT{g:FS}{n:Nat}{ds:List D}{r:Ret}(h:g (args n ds)=some (.rt r)):runG g n ds=some r:=by unfold runG;rw[h]
end FL
section
open PySem PyProof.Rows L2 FL
noncomputable def kO:FS:=(retG (andV (zI notD (zG 0) (zA .non)) (andV (zI notD (zG 1) (zA .non)) (zI leD (zG 0) (zG 1)))))
noncomputable def cT:List D->Option Ret:=runG kO 2
noncomputable def lU:FS:=(retG (fldG [(7,0),(8,0)] (yR 0)))
noncomputable def lV:List D->Option Ret:=runG lU 1
noncomputable def lX:FS:=(retG (zI yA (fldG [(7,0),(8,0)] (yR 0)) (zA (.int 1))))
noncomputable def lY:List D->Option Ret:=runG lX 1
noncomputable def gQ:FS:=(retG (zA .non))
noncomputable def fM:List D->Option Ret:=runG gQ 1
noncomputable def iQ:FS:=(retG (zI yA (fldG [(7,0),(8,0)] (yR 0)) (zA (.int 1))))
noncomputable def iR:List D->Option Ret:=runG iQ 1
noncomputable def iS:FS:=(retG (fldG [(7,0),(8,0)] (yR 0)))
noncomputable def iT:List D->Option Ret:=runG iS 1
noncomputable def fI:FS:=(retG (zA .non))
noncomputable def eP:List D->Option Ret:=runG fI 1
noncomputable def cU:Nat->List D->Option Ret
 |7=>lV
 |8=>lY
 |9=>fM
 |10=>fM
 |_=>fun _=>none
noncomputable def bW:Nat->List D->Option Ret
 |7=>iR
 |8=>iT
 |9=>eP
 |10=>eP
 |_=>fun _=>none
noncomputable def oG:FS:=(qM (jG 2 (methV 0 [7,8,9,10] cU (yR 0) zR))
 (qM (jG 3 (methV 0 [7,8,9,10] bW (yR 1) zR))
 (qM (ifG (testT (qJ 2 cT (zF (zG 3) (zF (zG 2) zR)))) (fun _=>none) qD)
 (retG (mkT (qI (zF (yR 2) (zF (yR 3) zR))))))))
noncomputable def dW:List D->Option Ret:=runG oG 4
noncomputable def fS:FN:=(fldN (yR 1))
noncomputable def aN:List D->Option (List D):=runN fS 2
noncomputable def mY:FS:=(qM (ifG (orT (zT (zI isD (zI ixD (zG 0) (zA (.int 0))) (zA .non))) (zT (zI isD (zI ixD (zG 0) (zA (.int 1))) (zA .non)))) (retG (zA .non)) qD)
 (retG (zI subD (zI ixD (zG 0) (zA (.int 1))) (zI ixD (zG 0) (zA (.int 0))))))
noncomputable def cY:List D->Option Ret:=runG mY 1
noncomputable def lI:FS:=(qM (ifG (zT (zI isD (zG 0) (zA .non))) (retG (zG 1)) qD)
 (qM (ifG (zT (zI isD (zG 1) (zA .non))) (retG (zG 0)) qD)
 (retG (callB mxD (zF (zG 0) (zF (zG 1) zR))))))
noncomputable def gI:List D->Option Ret:=runG lI 2
noncomputable def gS:FS:=(qM (ifG (zT (zI isD (zG 0) (zA .non))) (retG (zG 1)) qD)
 (qM (ifG (zT (zI isD (zG 1) (zA .non))) (retG (zG 0)) qD)
 (retG (callB mnD (zF (zG 0) (zF (zG 1) zR))))))
noncomputable def eO:List D->Option Ret:=runG gS 2
noncomputable def pW:FS:=(qM (jG 2 (qJ 2 gI (zF (zI ixD (zG 0) (zA (.int 0))) (zF (zI ixD (zG 1) (zA (.int 0))) zR))))
 (qM (jG 3 (qJ 2 eO (zF (zI ixD (zG 0) (zA (.int 1))) (zF (zI ixD (zG 1) (zA (.int 1))) zR))))
 (qM (ifG (testT (qJ 2 cT (zF (zG 3) (zF (zG 2) zR)))) (retG (zA .non)) qD)
 (retG (mkT (qI (zF (yR 2) (zF (yR 3) zR))))))))
noncomputable def lF:List D->Option Ret:=runG pW 4
noncomputable def lJ:FS:=(qM (ifG (zT (zI isD (zG 4) (zA .non))) (fun ds=>some (.ct ds)) qD)
 (ifG (andT (testT (zG 1)) (andT (zT (zI eqD (zI ixD (zI ixD (zG 1) (un1 negD (zA (.int 1)))) (zA (.int 1))) (zG 2))) (zT (zI eqD (zI ixD (zI ixD (zG 1) (un1 negD (zA (.int 1)))) (zA (.int 2))) (zG 4))))) (putG 1 (un1 negD (zA (.int 1))) (mkT (qI (zF (zI ixD (zI ixD (zG 1) (un1 negD (zA (.int 1)))) (zA (.int 0))) (zF (yR 3) (zF (yR 4) zR)))))) (appG 1 (mkT (qI (zF (yR 2) (zF (yR 3) (zF (yR 4) zR))))))))
noncomputable def pX:FS:=(qM (setOG 1 (qI zR))
 (qM (forG (viaA (yR 0) asLT) (tupG 3 (jF (qL 2) (jF (qL 3) (jF (qL 4) tgNil)))) lJ)
 (retXG 1)))
noncomputable def lG:List D->Option Ret:=runG pX 5
noncomputable def fL:FS:=(qM (jG 6 (qJ 2 lF (zF (mkT (qI (zF (yR 3) (zF (yR 4) zR)))) (zF (zG 1) zR))))
 (ifG (zT (zI notD (zG 6) (zA .non))) (appG 2 (mkT (qI (zF (zI ixD (zG 6) (zA (.int 0))) (zF (zI ixD (zG 6) (zA (.int 1))) (zF (yR 5) zR)))))) qD))
noncomputable def lS:FS:=(qM (setOG 2 (qI zR))
 (qM (forG (viaA (yR 0) asLT) (tupG 3 (jF (qL 3) (jF (qL 4) (jF (qL 5) tgNil)))) fL)
 (retXG 2)))
noncomputable def eW:List D->Option Ret:=runG lS 7
noncomputable def lH:FS:=(qM (setOG 3 (qI zR))
 (qM (ifG (zT (zI notD (zI ixD (zG 1) (zA (.int 0))) (zA .non))) (extG 3 (callF 2 eW (zF (zG 0) (zF (mkT (qI (zF (zA .non) (zF (zI ixD (zG 1) (zA (.int 0))) zR)))) zR)))) qD)
 (qM (appG 3 (mkT (qI (zF (zI ixD (zG 1) (zA (.int 0))) (zF (zI ixD (zG 1) (zA (.int 1))) (zF (yR 2) zR))))))
 (qM (ifG (zT (zI notD (zI ixD (zG 1) (zA (.int 1))) (zA .non))) (extG 3 (callF 2 eW (zF (zG 0) (zF (mkT (qI (zF (zI ixD (zG 1) (zA (.int 1))) (zF (zA .non) zR)))) zR)))) qD)
 (retXG 3)))))
noncomputable def fK:List D->Option Ret:=runG lH 4
noncomputable def kX:FS:=(setOG 1 (callF 1 lG (zF (qJ 3 fK (zF (zG 1) (zF (zG 2) (zF (zG 3) zR)))) zR)))
noncomputable def mZ:FS:=(qM (setOG 1 (qI zR))
 (qM (forG (viaA (yR 0) asLT) (tupG 2 (jF (qL 2) (jF (qL 3) tgNil))) kX)
 (retXG 1)))
noncomputable def gJ:List D->Option Ret:=runG mZ 4
noncomputable def mJ:FS:=(qM (jG 1 (zI subD (zI ixD (zG 0) (zA (.int 1))) (zI ixD (zG 0) (zA (.int 0)))))
 (qM (jG 2 (zI ixD (zG 0) (zA (.int 2))))
 (qM (jG 3 (zI ixD (zG 0) (zA (.int 3))))
 (qM (ifG (orT (zT (zI ltD (zG 1) (zA (.int 1)))) (orT (zT (zI ltD (zG 3) (zA (.int 1)))) (zT (zI gtD (zG 3) (zA (.int 100)))))) (retG (zA (.bl false))) qD)
 (retG (ifV (zT (zI eqD (zG 3) (zA (.int 1)))) (zI eqD (zG 2) (zA (.int 0))) (zI gtD (zG 2) (zG 1))))))))
noncomputable def eS:List D->Option Ret:=runG mJ 4
noncomputable def iF:FS:=(qM (ifG (notT (testT (qJ 1 eS (zF (zG 0) zR)))) (fun _=>none) qD)
 (qM (jG 1 (zI ixD (zG 0) (zA (.int 2))))
 (retOG (compG (rng1 (zI ixD (zG 0) (zA (.int 3)))) [none,some 0,some 1] (qL 0) (fun _=>some true) (mkT (qI (zF (zI yA (zI ixD (zG 1) (zA (.int 0))) (zI mulD (zG 0) (zG 2))) (zF (zI yA (zI ixD (zG 1) (zA (.int 1))) (zI mulD (zG 0) (zG 2))) zR))))))))
noncomputable def dF:List D->Option Ret:=runG iF 2
noncomputable def iJ:FS:=(qM (ifG (zT (zI gtD (callB lenD (zF (zG 0) zR)) (zA (.int 300)))) (fun _=>none) qD)
 (retOG (callF 1 gJ (zF (zG 0) zR))))
noncomputable def cE:List D->Option Ret:=runG iJ 1
noncomputable def iG:FS:=(retOG (compG (viaA (qJ 1 dF (zF (zG 0) zR)) asLT) [none,some 0] (qL 0) (fun _=>some true) (mkT (qI (zF (yR 0) (zF (zI ixD (zG 1) (zA (.int 4))) zR))))))
noncomputable def cS:List D->Option Ret:=runG iG 1
noncomputable def lK:FS:=(qM (ifG (notT (testT (isiG "str" (zG 0)))) (retG (zA (.bl false))) qD)
 (qM (jG 1 (ifV (testT (zI stwD (zG 0) (zA (.str "-")))) (slsS (zG 0) (soP (zA (.int 1))) noP) (yR 0)))
 (qM (ifG (orT (zT (zI ltD (callB lenD (zF (zG 1) zR)) (zA (.int 1)))) (zT (zI gtD (callB lenD (zF (zG 1) zR)) (zA (.int 60))))) (retG (zA (.bl false))) qD)
 (qM (ifG (notT (testT (callB allD (zF (mkL (compG (viaA (yR 1) asS) [none] (qL 0) (fun _=>some true) (zI inS (zG 0) (zA (.str "0123456789"))))) zR)))) (retG (zA (.bl false))) qD)
 (retG (orV (zI neD (zI ixD (zG 1) (zA (.int 0))) (zA (.str "0"))) (zI eqD (zG 0) (zA (.str "0")))))))))
noncomputable def eZ:List D->Option Ret:=runG lK 2
noncomputable def gP:FS:=(qM (ifG (notT (testT (qJ 1 eZ (zF (zG 0) zR)))) (fun _=>none) qD)
 (retG (callB intTD (zF (zG 0) zR))))
noncomputable def aK:List D->Option Ret:=runG gP 1
noncomputable def iH:FS:=(qM (ifG (zT (zI eqD (zG 0) (zA (.str "(..")))) (retDG (zA (.ins 9 []))) qD)
 (qM (ifG (testT (zI stwD (zG 0) (zA (.str "[")))) (retDG (makeG 7 1 aN (zF (qJ 1 aK (zF (slsS (zG 0) (soP (zA (.int 1))) noP) zR)) zR))) qD)
 (qM (ifG (testT (zI stwD (zG 0) (zA (.str "(")))) (retDG (makeG 8 1 aN (zF (qJ 1 aK (zF (slsS (zG 0) (soP (zA (.int 1))) noP) zR)) zR))) qD)
 (fun _=>none))))
noncomputable def dD:List D->Option Ret:=runG iH 1
noncomputable def hO:FS:=(qM (ifG (zT (zI eqD (zG 0) (zA (.str "..)")))) (retDG (zA (.ins 9 []))) qD)
 (qM (ifG (testT (zI enwD (zG 0) (zA (.str "]")))) (retDG (makeG 7 1 aN (zF (qJ 1 aK (zF (slsS (zG 0) noP (soP (un1 negD (zA (.int 1))))) zR)) zR))) qD)
 (qM (ifG (testT (zI enwD (zG 0) (zA (.str ")")))) (retDG (makeG 8 1 aN (zF (qJ 1 aK (zF (slsS (zG 0) noP (soP (un1 negD (zA (.int 1))))) zR)) zR))) qD)
 (fun _=>none))))
noncomputable def dH:List D->Option Ret:=runG hO 1
noncomputable def iI:FS:=(qM (ifG (notT (testT (isiG "str" (zG 0)))) (fun _=>none) qD)
 (qM (jG 1 (mkL (splA (zG 0) (zA (.str ",")))))
 (qM (ifG (zT (zI neD (callB lenD (zF (zG 1) zR)) (zA (.int 2)))) (fun _=>none) qD)
 (retDG (mkT (qI (zF (qJ 1 dD (zF (zI ixD (zG 1) (zA (.int 0))) zR)) (zF (qJ 1 dH (zF (zI ixD (zG 1) (zA (.int 1))) zR)) zR))))))))
noncomputable def bJ:List D->Option Ret:=runG iI 2
noncomputable def kP:FS:=(retG (andV (zI eqD (callB lenD (zF (zG 0) zR)) (zA (.int 5))) (andV (zI eqD (zI ixD (zG 0) (zA (.int 1))) (zA (.str "each"))) (zI eqD (zI ixD (zG 0) (zA (.int 3))) (zA (.str "times"))))))
noncomputable def bQ:List D->Option Ret:=runG kP 1
noncomputable def dA:FS:=(qM (jG 1 (mkL (splA (zG 0) (zA (.str " ")))))
 (qM (jG 2 (mkL (splA (zI ixD (zG 1) (zA (.int 0))) (zA (.str "=")))))
 (qM (ifG (orT (zT (zI neD (callB lenD (zF (zG 2) zR)) (zA (.int 2)))) (notT (orT (zT (zI eqD (callB lenD (zF (zG 1) zR)) (zA (.int 1)))) (testT (qJ 1 bQ (zF (zG 1) zR)))))) (fun _=>none) qD)
 (qM (jG 3 (qJ 1 bJ (zF (zI ixD (zG 2) (zA (.int 0))) zR)))
 (qM (jG 4 (qJ 1 aK (zF (zI ixD (zG 2) (zA (.int 1))) zR)))
 (qM (jG 5 (mkL (compG (viaA (mkL (stpA (zG 1) (soP (zA (.int 2))) noP 2)) asLT) [none] (qL 0) (fun _=>some true) (qJ 1 aK (zF (zG 0) zR)))))
 (qM (jG 6 (qJ 2 dW (zF (zI ixD (zG 3) (zA (.int 0))) (zF (zI ixD (zG 3) (zA (.int 1))) zR))))
 (qM (ifG (notT (testT (zG 5))) (retOG (qI (zF (mkT (qI (zF (yR 6) (zF (yR 4) zR)))) zR))) qD)
 (qM (ifG (zT (zI isD (qJ 1 cY (zF (zG 6) zR)) (zA .non))) (fun _=>none) qD)
 (retOG (callF 1 cS (zF (mkT (qI (zF (zI ixD (zG 6) (zA (.int 0))) (zF (zI ixD (zG 6) (zA (.int 1))) (zF (zI ixD (zG 5) (zA (.int 0))) (zF (zI ixD (zG 5) (zA (.int 1))) (zF (yR 4) zR))))))) zR))))))))))))
noncomputable def bA:List D->Option Ret:=runG dA 7
noncomputable def cD:FS:=(extG 1 (callF 1 bA (zF (zG 2) zR)))
noncomputable def iZ:FS:=(qM (ifG (notT (testT (isiG "str" (zG 0)))) (fun _=>none) qD)
 (qM (ifG (zT (zI eqD (zG 0) (zA (.str "")))) (retOG (qI zR)) qD)
 (qM (setOG 1 (qI zR))
 (qM (forG (viaA (mkL (splA (zG 0) (zA (.str "; ")))) asLT) (qL 2) cD)
 (retOG (callF 1 cE (zF (zG 1) zR)))))))
noncomputable def kL:List D->Option Ret:=runG iZ 3
noncomputable def mK:FS:=(qM (ifG (zT (zI ltD (zG 1) (callB lenD (zF (zG 0) zR)))) (retG (zI ixD (zG 0) (zG 1))) qD)
 (retG (zA (.int 0))))
noncomputable def dL:List D->Option Ret:=runG mK 2
noncomputable def iV:FS:=(ifG (zT (zI notS (zG 2) (zA (.str "0123456789")))) (retG (zA .non)) qD)
noncomputable def pY:FS:=(qM (jG 1 (yR 0))
 (qM (ifG (zT (zI eqD (slsS (zG 0) noP (soP (zA (.int 1)))) (zA (.str "-")))) (jG 1 (slsS (zG 0) (soP (zA (.int 1))) noP)) qD)
 (qM (ifG (orT (zT (zI eqD (zG 1) (zA (.str "")))) (orT (zT (zI gtD (callB lenD (zF (zG 1) zR)) (zA (.int 60)))) (andT (zT (zI eqD (zI ixD (zG 1) (zA (.int 0))) (zA (.str "0")))) (zT (zI neD (zG 0) (zA (.str "0"))))))) (retG (zA .non)) qD)
 (qM (forG (viaA (yR 1) asS) (qL 2) iV)
 (retG (callB intTD (zF (zG 0) zR)))))))
noncomputable def iU:List D->Option Ret:=runG pY 3
noncomputable def pZ:FS:=(qM (ifG (andT (zT (zI eqD (zG 1) (zA (.str "..")))) (zT (zI neD (zG 0) (zG 2)))) (retOG (qI (zF (zA .non) zR))) qD)
 (qM (jG 4 (qJ 1 iU (zF (zG 1) zR)))
 (qM (ifG (zT (zI isD (zG 4) (zA .non))) (retOG (qI zR)) qD)
 (retOG (qI (zF (zI yA (zG 4) (zG 3)) zR))))))
noncomputable def mB:List D->Option Ret:=runG pZ 5
noncomputable def nA:FS:=(qM (ifG (zT (zI eqD (zI wB (zG 0) (zA (.int 3))) (zA (.int 0)))) (retG (zI subD (zI wB (zI mulD (zI xD (zG 0) (zA (.int 3))) (zI yA (zI powD (zA (.int 10)) (zA (.int 41))) (zA (.int 9)))) (zI yA (zI mulD (zA (.int 2)) (zI powD (zA (.int 10)) (zA (.int 58)))) (zA (.int 1)))) (zI powD (zA (.int 10)) (zA (.int 58))))) qD)
 (retG (zI subD (zI wB (zI xD (zG 0) (zA (.int 3))) (zA (.int 41))) (zA (.int 20)))))
noncomputable def lP:List D->Option Ret:=runG nA 1
end
namespace FL
open PySem PySem.Spec PyProof.Rows L2
abbrev Spn:=Option Int×Option Int
noncomputable def spD(s:Spn):D:=.tup [oi s.1,oi s.2]
noncomputable def oS:Option Spn->D
 |none=>.non
 |some s=>spD s
noncomputable def hasS(s:Spn)(p:Int):Bool:=(match s.1 with | none=>true | some a=>decide (a<=p))&&(match s.2 with | none=>true | some b=>decide (p<b))
noncomputable def okS(s:Spn):Prop:=∀a b,s.1=some a->s.2=some b->a<b
@[simp] theorem spD_0(s:Spn):ixD (spD s) (.int 0)=some (oi s.1):=ixT0 _ _
@[simp] theorem spD_1(s:Spn):ixD (spD s) (.int 1)=some (oi s.2):=ixT1 _ _ _
@[simp] theorem spD_flat(s:Spn):flat (spD s)=true:=by simp[spD]
@[simp] theorem spD_isD(s:Spn):isD (spD s) .non=some (.bl false):=rfl
@[simp] theorem spD_notD(s:Spn):notD (spD s) .non=some (.bl true):=rfl
@[simp] theorem spD_asLT(s:Spn):asLT (spD s)=some [oi s.1,oi s.2]:=rfl
@[simp] theorem oS_isD(o:Option Spn):isD (oS o) .non=some (.bl o.isNone):=by cases o<;>rfl
@[simp] theorem oS_notD(o:Option Spn):notD (oS o) .non=some (.bl o.isSome):=by cases o<;>rfl
theorem OV(s:Spn):cY [spD s]=some (.val (oi (match s.1,s.2 with | some a,some b=>some (b-a) | _,_=>none))):=by
 obtain⟨a,b⟩:=s;unfold cY runG mY;cases a<;>cases b<;>simp[args]
noncomputable def lateL:Option Int->Option Int->Option Int
 |none,b=>b
 |a,none=>a
 |some a,some b=>some (max a b)
noncomputable def vD:Option Int->Option Int->Option Int
 |none,b=>b
 |a,none=>a
 |some a,some b=>some (min a b)
noncomputable def eI:Option Int->Option Int->Bool
 |some b,some l=>decide (b<=l)
 |_,_=>false
theorem UX(a b:Option Int):gI [oi a,oi b]=some (.val (oi (lateL a b))):=by
 unfold gI runG lI;cases a<;>cases b<;>simp[args,lateL]
theorem VX(a b:Option Int):eO [oi a,oi b]=some (.val (oi (vD a b))):=by
 unfold eO runG gS;cases a<;>cases b<;>simp[args,vD]
theorem DL(a b:Option Int):cT [oi a,oi b]=some (.val (.bl (eI a b))):=by
 unfold cT runG kO;cases a<;>cases b<;>simp[args,eI]
noncomputable def meetS(s t:Spn):Option Spn:=if eI (vD s.2 t.2) (lateL s.1 t.1)=true then none else some (lateL s.1 t.1,vD s.2 t.2)
theorem ZF(s t:Spn):lF [spD s,spD t]=some (.val (oS (meetS s t))):=by
 unfold lF runG pW;cases h:eI (vD s.2 t.2) (lateL s.1 t.1)<;>simp[args,UX,VX,DL,h,meetS,oS,spD]
noncomputable def HasS(s:Spn)(p:Int):Prop:=(∀a,s.1=some a->a<=p)/\(∀b,s.2=some b->p<b)
theorem vQ(s:Spn)(p:Int):hasS s p=true↔HasS s p:=by
 obtain⟨a,b⟩:=s;cases a<;>cases b<;>simp[hasS,HasS]
theorem HC{a c:Option Int}{p:Int}:(∀x,lateL a c=some x->x<=p)↔(∀x,a=some x->x<=p)/\(∀x,c=some x->x<=p):=by
 cases a<;>cases c<;>simp[lateL]
 omega
theorem HR{a c:Option Int}{p:Int}:(∀x,vD a c=some x->p<x)↔(∀x,a=some x->p<x)/\(∀x,c=some x->p<x):=by
 cases a<;>cases c<;>simp[vD]
 omega
theorem QM{b l:Option Int}{p:Int}(h:eI b l=true)(h1:∀x,l=some x->x<=p)(h2:∀x,b=some x->p<x):False:=by
 cases b<;>cases l<;>simp[eI] at h
 have:=h1 _ rfl;have:=h2 _ rfl;omega
noncomputable def hasO(o:Option Spn)(p:Int):Bool:=match o with
 |none=>false
 |some u=>hasS u p
theorem PP(s t:Spn)(p:Int):hasO (meetS s t) p=(hasS s p&&hasS t p):=by
 rw[gA,bD,vQ,vQ];unfold meetS
 by_cases h:eI (vD s.2 t.2) (lateL s.1 t.1)=true
 . rw[if_pos h];refine⟨fun z=>by simp[hasO] at z,fun z=>(QM h (HC.mpr ⟨z.1.1,z.2.1⟩) (HR.mpr ⟨z.1.2,z.2.2⟩)).elim⟩
 . rw[if_neg h];show hasS _ p=true↔_;rw[vQ];show(∀x,lateL s.1 t.1=some x->x<=p)/\(∀x,vD s.2 t.2=some x->p<x)↔_;rw[HC,HR];exact⟨fun⟨⟨a,b⟩,c,d⟩=>⟨⟨a,c⟩,b,d⟩,fun⟨⟨a,c⟩,b,d⟩=>⟨⟨a,b⟩,c,d⟩⟩
theorem US{s t u:Spn}(h:meetS s t=some u):okS u:=by
 unfold meetS at h
 split at h
 . cases h
 . rename_i hn;cases h;intro a b h1 h2;simp only at h1 h2;rw[h1,h2] at hn;simp[eI] at hn;omega
end FL
namespace FL
open PySem PyProof.Rows L2 Builtin.Str
noncomputable def txS(cs:List Nat):Str:=⟨cs.toArray⟩
theorem yP(x:Str):txS x.cps.toList=x:=by cases x;simp[txS]
@[simp] theorem yO(cs:List Nat):(txS cs).cps.toList=cs:=rfl
@[simp] theorem jR(cs:List Nat):(txS cs).length=cs.length:=by simp[txS,Str.length]
theorem tU{a b:List Nat}: txS a=txS b↔a=b:=⟨fun h=>by have:=congrArg (fun x:Str=>x.cps.toList) h;simpa using this,fun h=>by rw[h]⟩
@[simp] theorem vE(a b:List Nat):txS a++txS b=txS (a++b):=Str.ext' (by rw[Str.cps_append];simp[txS])
theorem DS(cs:List Nat)(c:Nat):Txt.startswith (txS cs) (txS [c])=decide (cs[0]?=some c):=by
 have h:=StrLaws.subAt_one (txS cs) c 0;rw[yO] at h;rw[gA,decide_eq_true_eq,<- h];unfold Txt.startswith;simp only[bD,decide_eq_true_eq];rfl
theorem MV(cs:List Nat)(c:Nat):Txt.endswith (txS cs) (txS [c])=decide (cs.getLast?=some c):=by
 have h:=StrLaws.subAt_one (txS cs) c (cs.length-1);rw[yO,<- List.getLast?_eq_getElem?] at h;rw[gA,decide_eq_true_eq,<- h];unfold Txt.endswith;simp only[bD,decide_eq_true_eq,jR];have e:(⟨#[c]⟩:Str).length=1:=rfl;have e2:([c]:List Nat).length=1:=rfl;have e3:txS [c]=(⟨#[c]⟩:Str):=rfl;rw[e,e2,e3];constructor
 . rintro⟨h1,h2⟩;exact⟨by omega,h2⟩
 . rintro ⟨h1, h2⟩;refine ⟨?_,h2⟩;cases cs with
   |nil=>exfalso;simp at h1
   |cons a r=>simp
theorem yQ(x:Str)(l u:Option Int):Txt.slice x l u=StrLaws.sliceText x l u:=rfl
theorem kB(cs:List Nat){a b:Nat}(hab:a<=b)(hb:b<=cs.length):Txt.slice (txS cs) (some (a:Int)) (some (b:Int))=txS ((cs.drop a).take (b-a)):=by
 rw[yQ,StrLaws.sliceText_nat _ hab (by simpa using hb)];rfl
theorem uR(cs:List Nat){b:Nat}(hb:b<=cs.length):Txt.slice (txS cs) none (some (b:Int))=txS (cs.take b):=by
 have e:Txt.slice (txS cs) none (some (b:Int))=Txt.slice (txS cs) (some ((0:Nat):Int)) (some (b:Int)):=by
  rw[yQ,yQ];unfold StrLaws.sliceText;rw[StrLaws.sliceIdx_none_lo];rfl
 rw[e,kB cs (cL _) hb];simp
theorem xM(cs:List Nat)(a:Nat):Txt.slice (txS cs) (some (a:Int)) none=txS (cs.drop a):=by
 have key:∀a:Nat,a<=cs.length->Txt.slice (txS cs) (some (a:Int)) none=txS (cs.drop a):=by
  intro a ha
  have e:Txt.slice (txS cs) (some (a:Int)) none=Txt.slice (txS cs) (some (a:Int)) (some (cs.length:Int)):=by
   rw[yQ,yQ];unfold StrLaws.sliceText;rw[StrLaws.sliceIdx_none_hi];simp
  rw[e,kB cs ha (aQ _)];congr 1;exact iM (by simp)
 by_cases ha:a<=cs.length
 . exact key a ha
 . have e:Txt.slice (txS cs) (some (a:Int)) none=Txt.slice (txS cs) (some (cs.length:Int)) none:=by
    have:strSliceIndices (some (a:Int)) none 1 (txS cs).length=strSliceIndices (some (cs.length:Int)) none 1 (txS cs).length:=by
     have h1 : ¬((a:Int)<0):=by omega
     have h2 : ¬((cs.length:Int)<0):=by omega
     have e1:max (0:Int) (min (a:Int) (cs.length:Int))=cs.length:=by omega
     have e2:max (0:Int) (min (cs.length:Int) (cs.length:Int))=cs.length:=by omega
     simp only[strSliceIndices,jR,h1,h2,if_false,e1,e2,show((1:Int)>0)=True from by simp,if_true]
    rw[yQ,yQ];unfold StrLaws.sliceText;rw[this]
   rw[e,key _ (aQ _),FV (by omega),FV (by omega)]
theorem MO(l:Option Int){n:Nat}(h:1<=n):strSliceIndices l (some (-1)) 1 n=strSliceIndices l (some ((n-1:Nat):Int)) 1 n:=by
 have h1:((-1:Int)<0):=by decide
 have h2 : ¬(((n-1:Nat):Int)<0):=by omega
 have e1:max (0:Int) (min (-1+(n:Int)) (n:Int))=((n-1:Nat):Int):=by omega
 have e2:max (0:Int) (min ((n-1:Nat):Int) (n:Int))=((n-1:Nat):Int):=by omega
 simp only[strSliceIndices,h1,h2,if_true,if_false,e1,e2,show((1:Int)>0)=True from by simp]
theorem NP(cs:List Nat)(h:cs≠[]):Txt.slice (txS cs) none (some (-1))=txS cs.dropLast:=by
 have hl:1<=cs.length:=List.length_pos_iff.mpr h
 have e:Txt.slice (txS cs) none (some (-1))=Txt.slice (txS cs) none (some ((cs.length-1:Nat):Int)):=by
  rw[yQ,yQ];unfold StrLaws.sliceText;rw[jR,MO none hl]
 rw[e,uR cs (by omega),IF]
theorem NO(cs:List Nat)(h:2<=cs.length):Txt.slice (txS cs) (some 1) (some (-1))=txS cs.tail.dropLast:=by
 have e:Txt.slice (txS cs) (some 1) (some (-1))=Txt.slice (txS cs) (some ((1:Nat):Int)) (some ((cs.length-1:Nat):Int)):=by
  rw[yQ,yQ];unfold StrLaws.sliceText;rw[jR,MO _ (by omega)];rfl
 rw[e,kB cs (by omega) (by omega),IF,<- DP,RL]
theorem EM(x:Str)(c lim:Nat):∀(m a:Nat) (st:Array Nat×Nat),st.snd<=a->st.fst.size+m<=lim->(forIn (m:=Id) (List.range' a m) st (StrLaws.occBody x ⟨#[c]⟩ x.length lim)).run.fst.size=st.fst.size+((List.range' a m).filter (fun i=>decide (x.cps.toList[i]?=some c))).length
 |0,a,st,_,_=>by simp
 | m + 1, a, st, h1, h2 => by
   rw[tE,WK,mL];have one:=StrLaws.subAt_one x c a;unfold StrLaws.occBody
   by_cases h:x.cps.toList[a]?=some c
   . obtain⟨k1, k2⟩ := one.mpr h;rw[if_pos ⟨⟨⟨by omega,h1⟩,k1⟩,k2⟩,if_pos (by simpa using h)];have ih:=EM x c lim m (a+1) (st.fst.push a,a+(⟨#[c]⟩:Str).length) (aQ _) (by simp;omega);simp only[Array.size_push] at ih;simp only[aG];exact ih.trans (by omega)
   . rw[if_neg (fun z => h (one.mp ⟨z.1.2, z.2⟩)), if_neg (by simpa using h)];exact EM x c lim m (a+1) st (by omega) (by omega)
theorem sZ(c:Nat):∀(l:List Nat) (p:List Nat),((List.range' p.length l.length).filter (fun i=>decide ((p++l)[i]?=some c))).length=l.count c
 |[],p=>by simp
 | a :: l, p => by
   have ih:=sZ c l (p++[a]);simp only[bO,gE,gH,List.singleton_append] at ih;rw[aG,tE,mL,dP (aQ _)];simp only[Nat.sub_self,aO,Option.some.injEq]
   by_cases h:a=c
   . subst h;simp[ih]
   . simp[h,ih]
theorem OI(cs:List Nat)(c:Nat):(occurrences (txS cs) (txS [c]) 0 (txS cs).length ((txS cs).length+1)).length=cs.count c:=by
 have e3:txS [c]=(⟨#[c]⟩:Str):=rfl;rw[StrLaws.occ_eq,e3,nY,EM (txS cs) c _ _ 0 (#[],0) (aQ _) (by simp)];have ec:∀m,((List.range' 0 m).filter (fun i=>decide ((txS cs).cps.toList[i]?=some c))).length=((List.range' 0 m).filter (fun i=>decide (cs[i]?=some c))).length:=fun m=>rfl;rw[ec];have:=sZ c cs [];simp only[hX,kY] at this;rw[jR,Nat.sub_zero,List.range'_concat,List.filter_append,bO,this];simp
theorem wJ(cs:List Nat)(c:Nat)(hc:c<256):(Txt.split (txS cs) (txS [c])).length=cs.count c+1:=by
 have oc:=OI cs c;unfold Txt.split
 split
 . rename_i h;rcases fO.mp h with h | h
   . have : cs.length < 1 := by simpa using h
     have:cs=[]:=List.eq_nil_of_length_eq_zero (by omega);subst this;rfl
   . exfalso;have k1:Builtin.Str.strKind (txS [c])=1:=by simp [Builtin.Str.strKind,txS,hc]
     have k2:1<=Builtin.Str.strKind (txS cs):=by
      unfold Builtin.Str.strKind
      split
      . decide
      . split<;>decide
     rw[k1] at h;have:=of_decide_eq_true h;omega
 . split
   . rename_i h;rw[List.isEmpty_iff.mp h] at oc;simp at oc;simp only[gE];omega
   . rw[length_partsBetween,oc]
theorem kE{cs:List Nat}{c:Nat}(hc:c<256)(h:cs.count c=1):∃A B,cs=A++c::B/\c∉A/\c∉B/\Txt.split (txS cs) (txS [c])=[txS A,txS B]:=by
 have hl:=wJ cs c hc;rw[h] at hl;have hj:=StrLaws.join_split (txS cs) (txS [c])
 match hs:Txt.split (txS cs) (txS [c]),hl with
 | [p, q], _ =>
   rw[hs] at hj;have e:p++txS [c]++q=txS cs:=hj;rw[<- yP p,<- yP q,vE,vE,tU] at e;rw[<- yP p,<- yP q];generalize p.cps.toList=A at *;generalize q.cps.toList=B at *
   have hc':A.count c+(B.count c+1)=1:=by
    rw[<- e] at h;simp only[gH,iO,iA,List.count_nil,beq_self_eq_true,if_true] at h;omega
   exact⟨A,B,by rw[<- e];simp,fW.mp (by omega),fW.mp (by omega),rfl⟩
theorem vF{A B:List Nat}{c:Nat}(h:c∉A):Txt.partition (txS (A++c::B)) (txS [c])=(txS A,txS [c],txS B):=by
 have e3:txS [c]=(⟨#[c]⟩:Str):=rfl;have hat:(A++c::B)[A.length]?=some c:=by simp
 unfold Txt.partition;rcases StrLaws.occ_head (txS (A++c::B)) (txS [c]) 1 (aQ 1) with⟨_,hn⟩ | ⟨i,r,e,ha,hk⟩
 . exact(hn A.length ((StrLaws.subAt_one _ c _).mpr (by rw[yO];exact hat))).elim
 . have hi : (A ++ c :: B)[i]? = some c := by have := (StrLaws.subAt_one _ c i).mp ha; rwa [yO] at this
   have h1 : ¬i<A.length:=fun z=>by
    rw[cQ z] at hi;exact h (nR hi)
   have h2 : ¬A.length<i:=fun z=>hk A.length z ((StrLaws.subAt_one _ c _).mpr (by rw[yO];exact hat));obtain rfl:i=A.length:=by omega
   rw[e];show(strSub _ 0 A.length,txS [c],strSub _ (A.length+(txS [c]).length) _)=_
   have s1:strSub (txS (A++c::B)) 0 A.length=txS A:=by
    rw[<- yP (strSub _ _ _),StrLaws.strSub_toList,yO];simp
   have s2:strSub (txS (A++c::B)) (A.length+(txS [c]).length) (txS (A++c::B)).length=txS B:=by
    rw[<- yP (strSub _ _ _),StrLaws.strSub_toList,yO,jR,jR];congr 1
    have e5:(A++c::B).drop (A.length+[c].length)=B:=by
     rw[List.drop_append];simp
    rw[e5];exact iM (by simp;omega)
   rw[s1,s2]
theorem in_one(cs:List Nat)(c:Nat):inS (.str (txS [c])) (.str (txS cs))=some (.bl (decide (c∈cs))):=by
 have e3:txS [c]=(⟨#[c]⟩:Str):=rfl;have e:=StrLaws.found_one (txS cs) c;rw[yO] at e;rw[e3];show some (D.bl _)=_;rw[e]
theorem rM(cs:List Nat)(c:Nat):notS (.str (txS [c])) (.str (txS cs))=some (.bl (!decide (c∈cs))):=by
 have e3:txS [c]=(⟨#[c]⟩:Str):=rfl;have e:=StrLaws.found_one (txS cs) c;rw[yO] at e;rw[e3];show some (D.bl (!_))=_;rw[e]
theorem ER(c:Nat)(r:List Nat)(h:(c::r).length<=16777216):ixD (.str (txS (c::r))) (.int 0)=some (.str (txS [c])):=by
 show(if (txS (c::r)).length<=sizeLine then (atI (c::r) 0).map fun c=>D.str ⟨#[c]⟩ else none)=_;rw[jR,if_pos (by simpa using h)];unfold atI;rw[uE (by decide) (by simp)];rfl
theorem VA(r:List Nat)(c:Nat)(h:(r++[c]).length<=16777216):ixD (.str (txS (r++[c]))) (.int (-1))=some (.str (txS [c])):=by
 show(if (txS (r++[c])).length<=sizeLine then (atI (r++[c]) (-1)).map fun c=>D.str ⟨#[c]⟩ else none)=_;rw[jR,if_pos (by simpa using h)];unfold atI
 have e:ixN (r++[c]).length (-1)=some r.length:=by
  unfold ixN;simp;omega
 rw[e];simp;rfl
theorem rP(cs:List Nat)(h:cs.length<=16777216):lenD [.str (txS cs)]=some (.int cs.length):=by
 simp[lenD,h]
theorem BD(a b:List Nat)(h:a.length+b.length<=16777216):yA (.str (txS a)) (.str (txS b))=some (.str (txS (a++b))):=by
 simp[yA,h]
noncomputable def Asc(cs:List Nat):Prop:=∀c∈cs,c<1000
theorem tY{cs:List Nat}(h:Asc cs)(n:Nat):shal n (.str (txS cs))=true:=by
 have:PyData.strOk (txS cs)=true:=by
  unfold PyData.strOk;rw[<- Array.all_toList,yO,fQ];intro c hc;have:=h c hc;simp;omega
 simp[shal,this]
theorem FB(a b:List Nat):eqvD (.str (txS a)) (.str (txS b))=decide (a=b):=by
 have e:(txS a==txS b)=decide (a=b):=by
  rw[gA,decide_eq_true_eq,beq_iff_eq,tU]
 simpa[eqvD,toPy,PyData.eqv] using e
theorem vA{a b:List Nat}(ha:Asc a)(hb:Asc b):eqD (.str (txS a)) (.str (txS b))=some (.bl (decide (a=b))):=by rw[wC (tY ha 40) (tY hb 40),FB]
theorem GZ{a b:List Nat}(ha:Asc a)(hb:Asc b):neD (.str (txS a)) (.str (txS b))=some (.bl (!decide (a=b))):=by rw[UO (tY ha 40) (tY hb 40),FB]
end FL
namespace FL
open PySem PySem.Spec PyProof.Rows L2
abbrev Rw:=Option Int×Option Int×Option Int
noncomputable def rwD(r:Rw):D:=.tup [oi r.1,oi r.2.1,oi r.2.2]
noncomputable def has3(r:Rw)(p:Int):Bool:=hasS (r.1,r.2.1) p
noncomputable def ok3(r:Rw):Prop:=okS (r.1,r.2.1)
@[simp] theorem rwD_0(r:Rw):ixD (rwD r) (.int 0)=some (oi r.1):=ixT0 _ _
@[simp] theorem rwD_1(r:Rw):ixD (rwD r) (.int 1)=some (oi r.2.1):=ixT1 _ _ _
@[simp] theorem rwD_2(r:Rw):ixD (rwD r) (.int 2)=some (oi r.2.2):=ixT2 _ _ _ _
@[simp] theorem rwD_flat(r:Rw):flat (rwD r)=true:=by simp[rwD]
@[simp] theorem rwD_tupG(h:List D->List Sl->Option (List Sl))(r:Rw)(ds:List Sl):tupG 3 h (rwD r) ds=h [oi r.1,oi r.2.1,oi r.2.2] ds:=by simp[rwD]
theorem wA(l:List Rw):flats (l.map rwD)=true:=by
 induction l with
 |nil=>simp
 |cons a r ih=>simp[ih]
theorem VB{n:Nat}(h:0<n):ixN n (-1)=some (n-1):=by
 unfold ixN;rw[if_neg (by decide),if_pos (by omega)];congr 1;omega
noncomputable def ahead(a b:Rw):Prop:=∃x y,a.2.1=some x/\b.1=some y/\x<=y
structure Ord(rows:List Rw):Prop where
 ok:∀r∈rows,ok3 r
 pw:rows.Pairwise ahead
noncomputable def Tel(rows:List Rw)(p v:Int):Prop:=∃r∈rows,has3 r p=true/\r.2.2=some v
noncomputable def knit1(acc:List Rw)(r:Rw):List Rw:=match r.2.2 with
 |none=>acc
 | some v => match acc with
   |[]=>[r]
   |q::t=>if q.2.1=r.1/\q.2.2=some v then (q.1,r.2.1,some v)::t else r::q::t
noncomputable def knitF(rows:List Rw):List Rw:=(rows.foldl knit1 []).reverse
theorem OX(acc:List Rw)(r:Rw)(R a b c:Sl)(hl:acc.length<16777216) :
  lJ [R,.own (acc.map rwD).reverse,.v (oi r.1),.v (oi r.2.1),.v (oi r.2.2)]=some (.nx [R,.own ((knit1 acc r).map rwD).reverse,.v (oi r.1),.v (oi r.2.1),.v (oi r.2.2)]) ∨
  lJ [R,.own (acc.map rwD).reverse,.v (oi r.1),.v (oi r.2.1),.v (oi r.2.2)]=some (.ct [R,.own ((knit1 acc r).map rwD).reverse,.v (oi r.1),.v (oi r.2.1),.v (oi r.2.2)]):=by
 obtain⟨lo,bh,v⟩:=r;unfold lJ;cases v with
 |none=>right;simp[knit1]
 | some v =>
   left;cases acc with
   | nil =>
     have e:D.tup [oi lo,oi bh,.int v]=rwD (lo,bh,some v):=rfl;simp[knit1,e]
   | cons q t =>
     have last:ixD (.lst ((t.map rwD).reverse++[rwD q])) (.int (-1))=some (rwD q):=VC _ _;have le:ixN (t.length+1) (-1)=some t.length:=by rw[VB (by omega)];rfl
     have hl':t.length+1<16777216:=by simpa using hl
     have e2:∀x:Option Int,eqD (oi x) (D.int v)=some (.bl (decide (x=some v))):=fun x=>eqD_oi x (some v)
     by_cases h1:q.2.1=lo
     . by_cases h2 : q.2.2 = some v
       . have e : D.tup [oi q.1, oi bh, .int v]=rwD (q.1, bh, some v):= rfl;simp[knit1,h1,h2,last,le,e2,e]
       . have e : D.tup [oi lo, oi bh, .int v]=rwD (lo, bh, some v):= rfl;simp[knit1,h1,h2,last,le,e2,hl',e]
     . have e : D.tup [oi lo, oi bh, .int v]=rwD (lo, bh, some v):= rfl;simp[knit1,h1,last,le,hl',e]
theorem CW(acc:List Rw)(r:Rw):(knit1 acc r).length<=acc.length+1:=by
 unfold knit1
 split
 . omega
 . split
   . simp
   . split<;>simp
theorem CU(R:Sl):∀(rows acc:List Rw) (a b c:Sl),acc.length+rows.length<16777216 →
  ∃a' b' c',jH (tupG 3 (jF (qL 2) (jF (qL 3) (jF (qL 4) tgNil)))) lJ (rows.map rwD) [R,.own (acc.map rwD).reverse,a,b,c]=some (.nx [R,.own ((rows.foldl knit1 acc).map rwD).reverse,a',b',c'])
 |[],acc,a,b,c,_=>⟨a,b,c,rfl⟩
 | r :: rows, acc, a, b, c, h => by
   simp only[aG] at h;have hl:=CW acc r;obtain⟨a',b',c',ih⟩:=CU R rows (knit1 acc r) (.v (oi r.1)) (.v (oi r.2.1)) (.v (oi r.2.2)) (by omega);refine⟨a',b',c',?_⟩;rcases OX acc r R a b c (by omega) with e | e<;>simp[jH,e,ih]
theorem ZK(rows:List Rw)(h:rows.length<16777216):lG [.lst (rows.map rwD)]=some (.fresh ((knitF rows).map rwD)):=by
 obtain⟨a,b,c,e⟩:=CU (.v (.lst (rows.map rwD))) rows [] .no .no .no (by simpa using h);simp only[List.reverse_nil,dO] at e;unfold lG runG pX;have fl:=wA (knitF rows);unfold knitF at fl ⊢;rw[List.map_reverse] at fl ⊢;simp[args,e,fl]
theorem OZ(rows:List Rw):(knitF rows).length<=rows.length:=by
 unfold knitF;rw[KP]
 have:∀(rows acc:List Rw),(rows.foldl knit1 acc).length<=acc.length+rows.length:=by
  intro rows
  induction rows with
  |nil=>intro acc;simp
  | cons r t ih =>
    intro acc;have:=ih (knit1 acc r);have:=CW acc r;simp only[mX,aG];omega
 have:=this rows [];simpa using this
noncomputable def adjOk:List Rw->Prop
 |b::a::t=>¬(a.2.1=b.1/\a.2.2=b.2.2)/\adjOk (a::t)
 |_=>True
structure KI(acc:List Rw):Prop where
 ok:∀r∈acc,ok3 r
 pw:acc.Pairwise fun b a=>ahead a b
 val:∀r∈acc,r.2.2≠none
 adj:adjOk acc
theorem KI.nil:KI []:=⟨(fun _ h=>nomatch h),List.Pairwise.nil,(fun _ h=>nomatch h),trivial⟩
theorem AQ(r:Rw)(p:Int):has3 r p=true↔(∀a,r.1=some a->a<=p)/\(∀b,r.2.1=some b->p<b):=vQ _ _
theorem JT{acc:List Rw}{r:Rw}(k:KI acc)(ho:ok3 r)(ha:∀a∈acc,ahead a r) :
  KI (knit1 acc r)/\(∀r',ahead r r'->(∀a∈acc,ahead a r')->∀a∈knit1 acc r,ahead a r')/\∀p v,Tel (knit1 acc r) p v↔Tel acc p v\/(has3 r p=true/\r.2.2=some v):=by
 obtain⟨lo,bh,w⟩:=r;cases w with
 | none =>
   refine⟨k,fun r' _ h=>h,fun p v=>⟨.inl,fun h=>h.elim id fun z=>by simp at z⟩⟩
 | some w =>
   cases acc with
   | nil =>
     refine⟨⟨?_,?_,?_,trivial⟩,?_,?_⟩
     . intro x hx;simp[knit1] at hx;subst hx;exact ho
     . simp[knit1]
     . intro x hx;simp[knit1] at hx;subst hx;simp
     . intro r' h1 _ a h;simp[knit1] at h;subst h;exact h1
     . intro p v;simp[knit1,Tel]
   | cons q t =>
     obtain⟨x,y,hx,hy,hxy⟩:=ha q aP;simp only at hy;have pw:=fA.mp k.pw
     by_cases hm:q.2.1=lo/\q.2.2=some w
     . have e : knit1 (q :: t) (lo, bh, some w) = (q.1, bh, some w) :: t := by simp [knit1, hm.1, hm.2]
       rw[e]
       have exy:x=y:=by
        have:=hm.1;rw[hx,hy] at this;exact Option.some.inj this
       have hn:∀p,has3 (q.1,bh,some w) p=true↔has3 q p=true\/has3 (lo,bh,some w) p=true:=by
        intro p;rw[AQ,AQ,AQ];simp only;constructor
        . rintro ⟨h1, h2⟩
          by_cases hp:p<x
          . exact .inl ⟨h1,fun b hb=>by rw[hx] at hb;cases hb;exact hp⟩
          . exact .inr ⟨fun a h=>by rw[hy] at h;cases h;omega,h2⟩
        . rintro (⟨h1, h2⟩ | ⟨h1, h2⟩)
          . refine⟨h1, fun b hb => ?_⟩;have:=h2 x hx;have:=ho y b hy hb;omega
          . refine⟨fun a h => ?_, h2⟩;have:=k.ok q aP a x h hx;have:=h1 y hy;omega
       refine⟨⟨?_,?_,?_,?_⟩,?_,?_⟩
       . intro z hz;rcases aF.mp hz with rfl | hz
         . intro a b h1 h2;have:=k.ok q aP a x h1 hx;have:=ho y b hy h2;omega
         . exact k.ok z (aI _ hz)
       . refine fA.mpr ⟨fun a h => ?_, pw.2⟩;exact pw.1 a h
       . intro z hz;rcases aF.mp hz with rfl | hz
         . simp
         . exact k.val z (aI _ hz)
       . have ka := k.adj;cases t with
         |nil=>trivial
         | cons a t =>
           refine⟨fun h=>ka.1 ⟨h.1,?_⟩,ka.2⟩;rw[hm.2];exact h.2
       . intro r' h1 h2 a h;rcases aF.mp h with rfl | h
         . exact h1
         . exact h2 a (aI _ h)
       . intro p v;constructor
         . rintro ⟨z, hz, h1, h2⟩;rcases aF.mp hz with rfl | hz
           . rcases (hn p).mp h1 with h3 | h3
             . exact .inl ⟨q,aP,h3,hm.2.trans h2⟩
             . exact .inr ⟨h3,h2⟩
           . exact .inl ⟨z,aI _ hz,h1,h2⟩
         . rintro (⟨z, hz, h1, h2⟩ | ⟨h1, h2⟩)
           . rcases aF.mp hz with rfl | hz
             . exact⟨_,aP,(hn p).mpr (.inl h1),by rw[hm.2] at h2;exact h2⟩
             . exact⟨z,aI _ hz,h1,h2⟩
           . exact⟨_,aP,(hn p).mpr (.inr h1),h2⟩
     . have e : knit1 (q :: t) (lo, bh, some w) = (lo, bh, some w) :: q :: t := by simp only [knit1]; rw [if_neg hm]
       rw[e];refine⟨⟨?_,fA.mpr ⟨ha,k.pw⟩,?_,hm,k.adj⟩,?_,?_⟩
       . intro z hz;rcases aF.mp hz with rfl | hz
         . exact ho
         . exact k.ok z hz
       . intro z hz;rcases aF.mp hz with rfl | hz
         . simp
         . exact k.val z hz
       . intro r' h1 h2 a h;rcases aF.mp h with rfl | h
         . exact h1
         . exact h2 a h
       . intro p v;constructor
         . rintro ⟨z, hz, h1, h2⟩;rcases aF.mp hz with rfl | hz
           . exact .inr ⟨h1,h2⟩
           . exact .inl ⟨z,hz,h1,h2⟩
         . rintro (⟨z, hz, h1, h2⟩ | ⟨h1, h2⟩)
           . exact⟨z,aI _ hz,h1,h2⟩
           . exact⟨_,aP,h1,h2⟩
theorem CV:∀(rows acc:List Rw),KI acc->Ord rows->(∀a∈acc,∀r∈rows,ahead a r)->KI (rows.foldl knit1 acc)/\∀p v,Tel (rows.foldl knit1 acc) p v↔Tel acc p v\/Tel rows p v
 |[],acc,k,_,_=>⟨k,fun p v=>⟨.inl,fun h=>h.elim id fun⟨r,hr,_⟩=>nomatch hr⟩⟩
 | r :: rows, acc, k, o, h => by
   have pw:=fA.mp o.pw;obtain⟨k1,h1,t1⟩:=JT k (o.ok r aP) fun a ha=>h a ha r aP;obtain⟨k2,t2⟩:=CV rows (knit1 acc r) k1 ⟨fun z hz=>o.ok z (aI _ hz),pw.2⟩ fun a ha r' hr'=>h1 r' (pw.1 r' hr') (fun b hb=>h b hb r' (aI _ hr')) a ha;refine⟨k2,fun p v=>?_⟩;show Tel (rows.foldl knit1 (knit1 acc r)) p v↔_;rw[t2,t1];constructor
   . rintro ((h | ⟨h, e⟩) | ⟨z, hz, h⟩)
     . exact .inl h
     . exact .inr ⟨r,aP,h,e⟩
     . exact .inr ⟨z,aI _ hz,h⟩
   . rintro (h' | ⟨z, hz, h'⟩)
     . exact .inl (.inl h')
     . rcases aF.mp hz with rfl | hz
       . exact .inl (.inr h')
       . exact .inr ⟨z,hz,h'⟩
structure MapF(ps:List Rw):Prop where
 ord:Ord ps
 val:∀r∈ps,r.2.2≠none
 adj:∀(i:Nat) (a b:Rw),ps[i]?=some a->ps[i+1]?=some b->¬(a.2.1=b.1/\a.2.2=b.2.2)
theorem DM:∀{l:List Rw},adjOk l->∀(i:Nat) (b a:Rw),l[i]?=some b->l[i+1]?=some a->¬(a.2.1=b.1/\a.2.2=b.2.2)
 |[],_,i,b,a,e,_=>by simp at e
 |[x],_,i,b,a,e,e2=>by simp at e2
 | x :: y :: t, h, 0, b, a, e, e2 => by
   simp at e e2;subst e e2;exact h.1
 |x::y::t,h,i+1,b,a,e,e2=>DM h.2 i b a (by simpa using e) (by simpa using e2)
theorem KI.map{acc:List Rw}(k:KI acc):MapF acc.reverse:=by
 refine⟨⟨fun r hr=>k.ok r (RI.mp hr),List.pairwise_reverse.mpr k.pw⟩,fun r hr=>k.val r (RI.mp hr),fun i a b h1 h2=>?_⟩;have l2:=(bK.mp h2).1;rw[KP] at l2;rw[List.getElem?_reverse (by omega)] at h1 h2;refine DM k.adj (acc.length-1-(i+1)) b a h2 ?_;rw[<- h1];congr 1;omega
theorem OY{rows:List Rw}(o:Ord rows):MapF (knitF rows):=(CV rows [] KI.nil o (fun _ h=>nomatch h)).1.map
noncomputable def part1(s:Spn)(r:Rw):Option Rw:=(meetS (r.1,r.2.1) s).map fun u=>(u.1,u.2,r.2.2)
noncomputable def qN(ps:List Rw)(s:Spn):List Rw:=ps.filterMap (part1 s)
theorem vC(R:Sl)(s:Spn):∀(ps acc:List Rw) (a b c d:Sl),acc.length+ps.length<16777216->∃a' b' c' d',jH (tupG 3 (jF (qL 3) (jF (qL 4) (jF (qL 5) tgNil)))) fL (ps.map rwD) [R,.v (spD s),.own (acc.map rwD),a,b,c,d]=some (.nx [R,.v (spD s),.own ((acc++qN ps s).map rwD),a',b',c',d'])
 |[],acc,a,b,c,d,_=>⟨a,b,c,d,by simp[qN,jH]⟩
 | r :: ps, acc, a, b, c, d, h => by
   simp only[aG] at h;have me:lF [.tup [oi r.1,oi r.2.1],spD s]=some (.val (oS (meetS (r.1,r.2.1) s))):=ZF (r.1,r.2.1) s;cases hm:meetS (r.1,r.2.1) s with
   | none =>
     rw[hm] at me;obtain⟨a',b',c',d',ih⟩:=vC R s ps acc (.v (oi r.1)) (.v (oi r.2.1)) (.v (oi r.2.2)) (.v .non) (by omega);refine⟨a',b',c',d',?_⟩;have turn:fL [R,.v (spD s),.own (acc.map rwD),.v (oi r.1),.v (oi r.2.1),.v (oi r.2.2),d]=some (.nx [R,.v (spD s),.own (acc.map rwD),.v (oi r.1),.v (oi r.2.1),.v (oi r.2.2),.v .non]):=by simp[fL,me,oS]
     have e:qN (r::ps) s=qN ps s:=by simp[qN,part1,hm]
     rw[e];simp[jH,turn,ih]
   | some u =>
     rw[hm] at me;obtain⟨a',b',c',d',ih⟩:=vC R s ps (acc++[(u.1,u.2,r.2.2)]) (.v (oi r.1)) (.v (oi r.2.1)) (.v (oi r.2.2)) (.v (spD u)) (by simp;omega);refine⟨a',b',c',d',?_⟩;have z:acc.length<16777216:=by omega
     have e0:D.tup [oi u.1,oi u.2,oi r.2.2]=rwD (u.1,u.2,r.2.2):=rfl;have turn:fL [R,.v (spD s),.own (acc.map rwD),.v (oi r.1),.v (oi r.2.1),.v (oi r.2.2),d]=some (.nx [R,.v (spD s),.own (acc.map rwD++[rwD (u.1,u.2,r.2.2)]),.v (oi r.1),.v (oi r.2.1),.v (oi r.2.2),.v (spD u)]):=by simp[fL,me,oS,z,e0]
     have e:qN (r::ps) s=(u.1,u.2,r.2.2)::qN ps s:=by simp[qN,part1,hm]
     rw[e];simp only[fY,bB,dO,gH,RN,kY] at ih ⊢;simp[jH,turn,ih]
theorem yX(ps:List Rw)(s:Spn):(qN ps s).length<=ps.length:=List.length_filterMap_le _ _
theorem GS(ps:List Rw)(s:Spn)(h:ps.length<16777216):eW [.lst (ps.map rwD),spD s]=some (.fresh ((qN ps s).map rwD)):=by
 obtain⟨a,b,c,d,e⟩:=vC (.v (.lst (ps.map rwD))) s ps [] .no .no .no .no (by simpa using h);simp only[dO,kY] at e;unfold eW runG lS;simp[args,e,wA]
theorem yB{s:Spn}{r r':Rw}(h:part1 s r=some r'):ok3 r'/\r'.2.2=r.2.2/\(∀p,has3 r' p=(has3 r p&&hasS s p))/\(∀x,r.2.1=some x->∃x',r'.2.1=some x'/\x'<=x)/\(∀y,r.1=some y->∃y',r'.1=some y'/\y<=y')/\(∀x,s.2=some x->∃x',r'.2.1=some x'/\x'<=x)/\(∀y,s.1=some y->∃y',r'.1=some y'/\y<=y'):=by
 unfold part1 at h;cases hm:meetS (r.1,r.2.1) s with
 |none=>rw[hm] at h;cases h
 | some u =>
   rw[hm] at h;cases h;have hp:=fun p=>PP (r.1,r.2.1) s p;rw[hm] at hp;refine⟨US hm,rfl,fun p=>hp p,?_,?_,?_,?_⟩
   all_goals (unfold meetS at hm;split at hm;(· cases hm);cases hm)
   . intro x hx;show ∃ x',vD r.2.1 s.2=some x'/\x'<=x;rw [hx];cases s.2 <;> simp [vD]
     omega
   . intro y hy;show ∃ y',lateL r.1 s.1=some y'/\y<=y';rw [hy];cases s.1 <;> simp [lateL]
     omega
   . intro x hx;show ∃ x',vD r.2.1 s.2=some x'/\x'<=x;rw [hx];cases r.2.1 <;> simp [vD]
     omega
   . intro y hy;show ∃ y',lateL r.1 s.1=some y'/\y<=y';rw [hy];cases r.1 <;> simp [lateL]
     omega
theorem rO{ps:List Rw}{s:Spn}{r':Rw}: r'∈qN ps s↔∃r∈ps,part1 s r=some r':=fB
theorem CP{ps:List Rw}(o:Ord ps)(s:Spn):Ord (qN ps s):=by
 refine⟨fun r' h=>?_,?_⟩
 . obtain⟨r, _, h⟩ := rO.mp h;exact(yB h).1
 . unfold qN;rw[List.pairwise_filterMap];refine o.pw.imp fun {a b} hab a' ha b' hb=>?_;obtain⟨x,y,hx,hy,hxy⟩:=hab;obtain⟨x',e1,h1⟩:=(yB ha).2.2.2.1 x hx;obtain⟨y',e2,h2⟩:=(yB hb).2.2.2.2.1 y hy;exact⟨x',y',e1,e2,by omega⟩
noncomputable def loP(ps:List Rw):Option Int->List Rw
 |none=>[]
 |some a=>qN ps (none,some a)
noncomputable def hiP(ps:List Rw):Option Int->List Rw
 |none=>[]
 |some b=>qN ps (some b,none)
noncomputable def overF(ps:List Rw)(s:Spn)(v:Option Int):List Rw:=loP ps s.1++(s.1,s.2,v)::hiP ps s.2
theorem OD{ps:List Rw}(o:Ord ps){a b:Int}(h:a<b):(qN ps (none,some a)).length+(qN ps (some b,none)).length<=ps.length+1:=by
 induction ps with
 |nil=>simp[qN]
 | cons r t ih =>
   have pw:=fA.mp o.pw;have ot:Ord t:=⟨fun z hz=>o.ok z (aI _ hz),pw.2⟩
   have ih:=ih ot;cases h1:part1 (none,some a) r with
   | none =>
     have e1:qN (r::t) (none,some a)=qN t (none,some a):=by simp[qN,h1]
     rw[e1]
     have:(qN (r::t) (some b,none)).length<=(qN t (some b,none)).length+1:=by
      unfold qN;rw[dE]
      split<;>simp
     simp only[aG];omega
   | some r1 =>
     have e1:qN (r::t) (none,some a)=r1::qN t (none,some a):=by simp[qN,h1]
     rw[e1];cases h2:part1 (some b,none) r with
     | none =>
       have e2:qN (r::t) (some b,none)=qN t (some b,none):=by simp[qN,h2]
       rw[e2];simp only[aG];omega
     | some r2 =>
       have e2:qN (r::t) (some b,none)=r2::qN t (some b,none):=by simp[qN,h2]
       have e3:qN t (none,some a)=[]:=by
        unfold qN;rw[List.filterMap_eq_nil_iff];intro z hz;cases hz':part1 (none,some a) z with
        |none=>rfl
        | some z' =>
          exfalso;obtain⟨x,y,hx,hy,hxy⟩:=pw.1 z hz;have k2:=yB h2;have kz:=yB hz';obtain⟨x2,ex2,hx2⟩:=k2.2.2.2.1 x hx;obtain⟨y2,ey2,hy2⟩:=k2.2.2.2.2.2.2 b rfl;have:=k2.1 y2 x2 ey2 ex2;obtain⟨y3,ey3,hy3⟩:=kz.2.2.2.2.1 y hy;obtain⟨x3,ex3,hx3⟩:=kz.2.2.2.2.2.1 a rfl;have:=kz.1 y3 x3 ey3 ex3;omega
       rw[e2,e3];have:=yX t (some b,none);simp only[aG,hX];omega
theorem GU{ps:List Rw}(o:Ord ps)(s:Spn)(hs:okS s)(v:Option Int):(overF ps s v).length<=ps.length+2:=by
 obtain⟨lo,bh⟩:=s;unfold overF loP hiP;cases lo with
 | none =>
   cases bh with
   |none=>simp
   | some b =>
     have:=yX ps (some b,none);simp;omega
 | some a =>
   cases bh with
   | none =>
     have:=yX ps (none,some a);simp;omega
   | some b =>
     have:=OD o (hs a b rfl rfl);simp;omega
theorem TZ{ps:List Rw}(o:Ord ps)(s:Spn)(hs:okS s)(v:Option Int):Ord (overF ps s v):=by
 obtain⟨lo,bh⟩:=s;unfold overF
 have l1:∀r∈(loP ps lo),ok3 r/\∃a x,lo=some a/\r.2.1=some x/\x<=a:=by
  cases lo with
  |none=>intro r h;cases h
  | some a =>
    intro r h;obtain⟨q,_,h⟩:=rO.mp h;obtain⟨x,e,hx⟩:=(yB h).2.2.2.2.2.1 a rfl;exact⟨(yB h).1,a,x,rfl,e,hx⟩
 have l2:∀r∈(hiP ps bh),ok3 r/\∃b y,bh=some b/\r.1=some y/\b<=y:=by
  cases bh with
  |none=>intro r h;cases h
  | some b =>
    intro r h;obtain⟨q,_,h⟩:=rO.mp h;obtain⟨y,e,hy⟩:=(yB h).2.2.2.2.2.2 b rfl;exact⟨(yB h).1,b,y,rfl,e,hy⟩
 have o1:Ord (loP ps lo):=by
  cases lo with
  |none=>exact⟨(fun _ h=>nomatch h),List.Pairwise.nil⟩
  |some a=>exact CP o _
 have o2:Ord (hiP ps bh):=by
  cases bh with
  |none=>exact⟨(fun _ h=>nomatch h),List.Pairwise.nil⟩
  |some b=>exact CP o _
 refine⟨fun r h=>?_,?_⟩
 . rcases bU.mp h with h | h
   . exact(l1 r h).1
   . rcases aF.mp h with rfl | h
     . exact hs
     . exact(l2 r h).1
 . refine List.pairwise_append.mpr ⟨o1.pw, fA.mpr ⟨fun r h => ?_, o2.pw⟩, fun a ha b hb => ?_⟩
   . obtain⟨_, b, y, e, e2, hy⟩ := l2 r h;exact⟨b,y,e,e2,hy⟩
   . obtain ⟨_, x, x', e, e2, hx⟩ := l1 a ha;rcases aF.mp hb with rfl | hb
     . exact⟨x',x,e2,e,hx⟩
     . obtain⟨_, y, y', e3, e4, hy⟩ := l2 b hb;have:=hs x y e e3;exact⟨x',y',e2,e4,by omega⟩
theorem YT{ps:List Rw}(s:Spn)(v:Option Int)(h:ps.length<=1000000):fK [.lst (ps.map rwD),spD s,oi v]=some (.fresh ((overF ps s v).map rwD)):=by
 obtain⟨lo,bh⟩:=s;have p1:∀a:Int,eW [.lst (ps.map rwD),.tup [.non,.int a]]=some (.fresh ((qN ps (none,some a)).map rwD)):=fun a=>GS ps (none,some a) (by omega);have p2:∀a:Int,eW [.lst (ps.map rwD),.tup [.int a,.non]]=some (.fresh ((qN ps (some a,none)).map rwD)):=fun a=>GS ps (some a,none) (by omega);have e0:D.tup [oi lo,oi bh,oi v]=rwD (lo,bh,v):=rfl;have fl:=wA (overF ps (lo,bh) v);unfold overF loP hiP at fl ⊢;unfold fK runG lH;cases lo with
 | none =>
   cases bh with
   |none=>simp at fl e0;simp[args,e0]
   | some b =>
     have z:=yX ps (some b,none);have z1:1+(qN ps (some b,none)).length<=16777216:=by omega
     simp at fl e0;simp[args,p2,e0,z1,fl]
 | some a =>
   have z:=yX ps (none,some a);have z0:(qN ps (none,some a)).length<=16777216:=by omega
   have z1:(qN ps (none,some a)).length<16777216:=by omega
   cases bh with
   | none =>
     simp at fl e0;simp[args,p1,e0,z0,z1,fl]
   | some b =>
     have z':=yX ps (some b,none);have z2:(qN ps (none,some a)).length+1+(qN ps (some b,none)).length<=16777216:=by omega
     simp at fl e0;simp[args,p1,p2,e0,z0,z1,z2,fl]
abbrev Rv:=Spn×Option Int
noncomputable def rvD(r:Rv):D:=.tup [spD r.1,oi r.2]
@[simp] theorem rvD_flat(r:Rv):flat (rvD r)=true:=by simp[rvD]
@[simp] theorem rvD_tupG(h:List D->List Sl->Option (List Sl))(r:Rv)(ds:List Sl):tupG 2 h (rvD r) ds=h [spD r.1,oi r.2] ds:=by simp[rvD]
theorem HN(l:List Rv):flats (l.map rvD)=true:=by
 induction l with
 |nil=>simp
 |cons a r ih=>simp[ih]
noncomputable def put1(ps:List Rw)(r:Rv):List Rw:=knitF (overF ps r.1 r.2)
noncomputable def hJ(rows:List Rv):List Rw:=rows.foldl put1 []
theorem SX{ps:List Rw}(m:MapF ps){r:Rv}(h:okS r.1):MapF (put1 ps r):=OY (TZ m.ord r.1 h r.2)
theorem SY{ps:List Rw}(m:MapF ps){r:Rv}(h:okS r.1):(put1 ps r).length<=ps.length+2:=cM (OZ _) (GU m.ord r.1 h r.2)
theorem YF{ps:List Rw}(m:MapF ps)(hl:ps.length<=100000){s:Spn}{v:Option Int}(h:okS s):(fK [.lst (ps.map rwD),spD s,oi v]=some (.fresh ((overF ps s v).map rwD)))/\lG [.lst ((overF ps s v).map rwD)]=some (.fresh ((put1 ps (s,v)).map rwD)):=
 ⟨YT s v (by omega),ZK _ (by have:=GU m.ord s h v;omega)⟩
theorem MapF.nil:MapF []:=⟨⟨(fun _ h=>nomatch h),List.Pairwise.nil⟩,(fun _ h=>nomatch h),(fun i a b h _=>by simp at h)⟩
theorem sY(R:Sl):∀(rows:List Rv) (ps:List Rw) (a b:Sl),MapF ps->(∀r∈rows,okS r.1)->ps.length+2*rows.length<=100000 →
  (∃a' b',jH (tupG 2 (jF (qL 2) (jF (qL 3) tgNil))) kX (rows.map rvD) [R,.own (ps.map rwD),a,b]=some (.nx [R,.own ((rows.foldl put1 ps).map rwD),a',b']))/\MapF (rows.foldl put1 ps)/\(rows.foldl put1 ps).length<=ps.length+2*rows.length
 |[],ps,a,b,m,_,_=>⟨⟨a,b,rfl⟩,m,by simp⟩
 | r :: rows, ps, a, b, m, hs, hl => by
   simp only[aG] at hl;have hr:=hs r aP;have z:=SY m hr;obtain⟨⟨a',b',ih⟩,m',l'⟩:=sY R rows (put1 ps r) (.v (spD r.1)) (.v (oi r.2)) (SX m hr) (fun x hx=>hs x (aI _ hx)) (by omega);obtain⟨e1,e2⟩:=YF m (by omega) (s:=r.1) (v:=r.2) hr;refine⟨⟨a',b',?_⟩,m',by simp only[mX,aG];omega⟩;have turn:kX [R,.own (ps.map rwD),.v (spD r.1),.v (oi r.2)]=some (.nx [R,.own ((put1 ps r).map rwD),.v (spD r.1),.v (oi r.2)]):=by simp[kX,e1,e2]
   rw[mX];simp[jH,turn,ih]
theorem PR(rows:List Rv)(hs:∀r∈rows,okS r.1)(hl:rows.length<=1000):gJ [.lst (rows.map rvD)]=some (.fresh ((hJ rows).map rwD))/\MapF (hJ rows)/\(hJ rows).length<=2*rows.length:=by
 obtain⟨⟨a,b,e⟩,m,l⟩:=sY (.v (.lst (rows.map rvD))) rows [] .no .no MapF.nil hs (by simp;omega);refine⟨?_,m,by unfold hJ;simpa using l⟩;simp only[dO] at e;have fl:=wA (hJ rows);unfold hJ at fl ⊢;unfold gJ runG mZ;simp[args,e,fl]
open Builtin.Int (intBits)
noncomputable def cel(ns:List Int)(k:Nat):Int:=ns.getD k 0
theorem WC(ns:List Int){k:Int}(h:0<=k):dL [.lst (ns.map D.int),.int k]=some (.val (.int (ns.getD k.toNat 0))):=by
 unfold dL runG mK
 by_cases hk:k<(ns.length:Int)
 . have hl : k < ((ns.map D.int).length : Int) := by simpa using hk
   have e:(ns.map D.int)[k.toNat]?=some (.int (ns.getD k.toNat 0)):=by
    have:k.toNat<ns.length:=by omega
    simp[this,List.getD]
   simp[args,hk,xQ _ h hl,e]
 . have:ns.getD k.toNat 0=0:=by
    have:ns.length<=k.toNat:=by omega
    simp[List.getD,bL this]
   rw[this];simp[args,hk]
theorem FD(ns:List Int)(k:Nat):dL [.lst (ns.map D.int),.int (k:Int)]=some (.val (.int (cel ns k))):=WC ns (k:=(k:Int)) (by omega)
theorem QK{a b:Int}{m:Nat}(hb:0<=b)(h:intBits a<=m):intBits (a/b)<=m:=by
 rw[<- CD _ hb];exact bits_fdiv h
theorem wP{a:Int}{m:Nat}(h:a.natAbs<2 ^ m):intBits a<=m:=intBits_le_iff.mpr h
theorem QL{ns:List Int}(hb:∀c∈ns,intBits c<=1048576)(k:Nat):intBits (cel ns k)<=1048576:=by
 show intBits (ns.getD k 0)<=1048576
 by_cases h:k<ns.length
 . have : ns.getD k 0 = ns[k] := by simp [List.getD, h]
   rw[this];exact hb _ (RM h)
 . have : ns.getD k 0 = 0 := by simp [List.getD, bL (WI h)]
   rw[this];decide
structure Drawn(rows:List Rw)(s:Int):Prop where
 ord:Ord rows
 fin:∀r∈rows,∃lo bh,r.1=some lo/\r.2.1=some bh/\bh<=s
theorem uG(ns:List Int){k:Int}(h0:0<=k)(h1:k<ns.length):ixD (.lst (ns.map D.int)) (.int k)=some (.int (cel ns k.toNat)):=by
 have h3:k.toNat<ns.length:=by omega
 rw[xQ _ h0 (by simpa using h1)];simp[h3,cel,List.getD]
end FL
namespace FL
open PySem PySem.Spec PyProof.Rows L2
theorem wO{α : Type}{ga:D->List Sl->Option (List Sl)}{fe:FE}{s0:List Sl}(f h : α->D):∀(xs:List α),(∀x∈xs,∃ds1,ga (f x) s0=some ds1/\fe ds1=some (h x))->compL ga (fun _=>some true) fe s0 (xs.map f)=some (xs.map h)
 |[],_=>rfl
 | x :: xs, H => by
   obtain⟨ds1,e1,e2⟩:=H x aP;have ih:=wO (ga:=ga) (fe:=fe) (s0:=s0) f h xs fun y hy=>H y (aI _ hy);simp only[bB,compL,e1,e2,ih,aC,if_true,aV]
theorem PX(l:List Spn):flats (l.map spD)=true:=by
 induction l with
 |nil=>simp
 |cons a r ih=>simp[ih,spD]
open Builtin.Int (intBits)
@[simp] theorem eqS_put_put:eqD (.str "put") (.str "put")=some (.bl true):=by kernel_rfl
@[simp] theorem neS_put_put:neD (.str "put") (.str "put")=some (.bl false):=by kernel_rfl
@[simp] theorem WS:eqD (.str "put") (.str "widen")=some (.bl false):=by kernel_rfl
@[simp] theorem WN:neD (.str "put") (.str "widen")=some (.bl true):=by kernel_rfl
@[simp] theorem VS:eqD (.str "put") (.str "narrow")=some (.bl false):=by kernel_rfl
@[simp] theorem UJ:neD (.str "put") (.str "narrow")=some (.bl true):=by kernel_rfl
@[simp] theorem ZT:eqD (.str "put") (.str "move")=some (.bl false):=by kernel_rfl
@[simp] theorem ZC:neD (.str "put") (.str "move")=some (.bl true):=by kernel_rfl
@[simp] theorem RC:eqD (.str "put") (.str "stretch")=some (.bl false):=by kernel_rfl
@[simp] theorem QV:neD (.str "put") (.str "stretch")=some (.bl true):=by kernel_rfl
@[simp] theorem VT:eqD (.str "put") (.str "mirror")=some (.bl false):=by kernel_rfl
@[simp] theorem UK:neD (.str "put") (.str "mirror")=some (.bl true):=by kernel_rfl
@[simp] theorem WR:eqD (.str "widen") (.str "put")=some (.bl false):=by kernel_rfl
@[simp] theorem WM:neD (.str "widen") (.str "put")=some (.bl true):=by kernel_rfl
@[simp] theorem RA:eqD (.str "widen") (.str "widen")=some (.bl true):=by kernel_rfl
@[simp] theorem QT:neD (.str "widen") (.str "widen")=some (.bl false):=by kernel_rfl
@[simp] theorem PY:eqD (.str "widen") (.str "narrow")=some (.bl false):=by kernel_rfl
@[simp] theorem OK:neD (.str "widen") (.str "narrow")=some (.bl true):=by kernel_rfl
@[simp] theorem VR:eqD (.str "widen") (.str "move")=some (.bl false):=by kernel_rfl
@[simp] theorem UI:neD (.str "widen") (.str "move")=some (.bl true):=by kernel_rfl
@[simp] theorem MP:eqD (.str "widen") (.str "stretch")=some (.bl false):=by kernel_rfl
@[simp] theorem MD:neD (.str "widen") (.str "stretch")=some (.bl true):=by kernel_rfl
@[simp] theorem PZ:eqD (.str "widen") (.str "mirror")=some (.bl false):=by kernel_rfl
@[simp] theorem OL:neD (.str "widen") (.str "mirror")=some (.bl true):=by kernel_rfl
@[simp] theorem VU:eqD (.str "narrow") (.str "put")=some (.bl false):=by kernel_rfl
@[simp] theorem UL:neD (.str "narrow") (.str "put")=some (.bl true):=by kernel_rfl
@[simp] theorem QB:eqD (.str "narrow") (.str "widen")=some (.bl false):=by kernel_rfl
@[simp] theorem ON:neD (.str "narrow") (.str "widen")=some (.bl true):=by kernel_rfl
@[simp] theorem MR:eqD (.str "narrow") (.str "narrow")=some (.bl true):=by kernel_rfl
@[simp] theorem MF:neD (.str "narrow") (.str "narrow")=some (.bl false):=by kernel_rfl
@[simp] theorem RD:eqD (.str "narrow") (.str "move")=some (.bl false):=by kernel_rfl
@[simp] theorem QW:neD (.str "narrow") (.str "move")=some (.bl true):=by kernel_rfl
@[simp] theorem KJ:eqD (.str "narrow") (.str "stretch")=some (.bl false):=by kernel_rfl
@[simp] theorem JM:neD (.str "narrow") (.str "stretch")=some (.bl true):=by kernel_rfl
@[simp] theorem MS:eqD (.str "narrow") (.str "mirror")=some (.bl false):=by kernel_rfl
@[simp] theorem MG:neD (.str "narrow") (.str "mirror")=some (.bl true):=by kernel_rfl
@[simp] theorem ZU:eqD (.str "move") (.str "put")=some (.bl false):=by kernel_rfl
@[simp] theorem ZD:neD (.str "move") (.str "put")=some (.bl true):=by kernel_rfl
@[simp] theorem VV:eqD (.str "move") (.str "widen")=some (.bl false):=by kernel_rfl
@[simp] theorem UM:neD (.str "move") (.str "widen")=some (.bl true):=by kernel_rfl
@[simp] theorem RE:eqD (.str "move") (.str "narrow")=some (.bl false):=by kernel_rfl
@[simp] theorem QX:neD (.str "move") (.str "narrow")=some (.bl true):=by kernel_rfl
@[simp] theorem WT:eqD (.str "move") (.str "move")=some (.bl true):=by kernel_rfl
@[simp] theorem WO:neD (.str "move") (.str "move")=some (.bl false):=by kernel_rfl
@[simp] theorem QC:eqD (.str "move") (.str "stretch")=some (.bl false):=by kernel_rfl
@[simp] theorem OP:neD (.str "move") (.str "stretch")=some (.bl true):=by kernel_rfl
@[simp] theorem RF:eqD (.str "move") (.str "mirror")=some (.bl false):=by kernel_rfl
@[simp] theorem QY:neD (.str "move") (.str "mirror")=some (.bl true):=by kernel_rfl
@[simp] theorem RB:eqD (.str "stretch") (.str "put")=some (.bl false):=by kernel_rfl
@[simp] theorem QU:neD (.str "stretch") (.str "put")=some (.bl true):=by kernel_rfl
@[simp] theorem MQ:eqD (.str "stretch") (.str "widen")=some (.bl false):=by kernel_rfl
@[simp] theorem ME:neD (.str "stretch") (.str "widen")=some (.bl true):=by kernel_rfl
@[simp] theorem KG:eqD (.str "stretch") (.str "narrow")=some (.bl false):=by kernel_rfl
@[simp] theorem JK:neD (.str "stretch") (.str "narrow")=some (.bl true):=by kernel_rfl
@[simp] theorem QA:eqD (.str "stretch") (.str "move")=some (.bl false):=by kernel_rfl
@[simp] theorem OM:neD (.str "stretch") (.str "move")=some (.bl true):=by kernel_rfl
@[simp] theorem IJ:eqD (.str "stretch") (.str "stretch")=some (.bl true):=by kernel_rfl
@[simp] theorem II:neD (.str "stretch") (.str "stretch")=some (.bl false):=by kernel_rfl
@[simp] theorem KH:eqD (.str "stretch") (.str "mirror")=some (.bl false):=by kernel_rfl
@[simp] theorem JL:neD (.str "stretch") (.str "mirror")=some (.bl true):=by kernel_rfl
@[simp] theorem VW:eqD (.str "mirror") (.str "put")=some (.bl false):=by kernel_rfl
@[simp] theorem UN:neD (.str "mirror") (.str "put")=some (.bl true):=by kernel_rfl
@[simp] theorem QD:eqD (.str "mirror") (.str "widen")=some (.bl false):=by kernel_rfl
@[simp] theorem OQ:neD (.str "mirror") (.str "widen")=some (.bl true):=by kernel_rfl
@[simp] theorem MT:eqD (.str "mirror") (.str "narrow")=some (.bl false):=by kernel_rfl
@[simp] theorem MH:neD (.str "mirror") (.str "narrow")=some (.bl true):=by kernel_rfl
@[simp] theorem RG:eqD (.str "mirror") (.str "move")=some (.bl false):=by kernel_rfl
@[simp] theorem QZ:neD (.str "mirror") (.str "move")=some (.bl true):=by kernel_rfl
@[simp] theorem KK:eqD (.str "mirror") (.str "stretch")=some (.bl false):=by kernel_rfl
@[simp] theorem JN:neD (.str "mirror") (.str "stretch")=some (.bl true):=by kernel_rfl
@[simp] theorem MU:eqD (.str "mirror") (.str "mirror")=some (.bl true):=by kernel_rfl
@[simp] theorem MI:neD (.str "mirror") (.str "mirror")=some (.bl false):=by kernel_rfl
@[simp] theorem fldG_eq(ix:List (Nat×Nat))(f:FE)(ds:List Sl):fldG ix f ds=(f ds).bind (fldD ix):=rfl
@[simp] theorem fldD_ins(ix:List (Nat×Nat))(t:Nat)(es:List D):fldD ix (.ins t es)=(ix.lookup t).bind fun i=>es[i]?:=rfl
@[simp] theorem methV_eq(n:Nat)(cs:List Nat)(F:Nat->List D->Option Ret)(fo:FE)(g:FA)(ds:List Sl):methV n cs F fo g ds=(fo ds).bind fun o=>(g ds).bind fun l=>(methR n cs F o l).bind retV:=rfl
@[simp] theorem methF_eq(n:Nat)(cs:List Nat)(F:Nat->List D->Option Ret)(fo:FE)(g:FA)(ds:List Sl):methF n cs F fo g ds=(fo ds).bind fun o=>(g ds).bind fun l=>(methR n cs F o l).bind retF:=rfl
@[simp] theorem makeG_eq(t n:Nat)(G:List D->Option (List D))(g:FA)(ds:List Sl):makeG t n G g ds=(g ds).bind fun l=>if l.length=n/\flats l=true then (G l).map (D.ins t) else none:=rfl
@[simp] theorem retDG_eq(f:FE)(ds:List Sl):retDG f ds=(f ds).map fun d=>.rt (.val d):=rfl
@[simp] theorem methR_ins(n:Nat)(cs:List Nat)(F:Nat->List D->Option Ret)(t:Nat)(es l:List D):methR n cs F (.ins t es) l=if t∈cs/\l.length=n then F t (.ins t es::l) else none:=rfl
end FL
namespace FL
open PySem PySem.Spec PyProof.Rows L2
theorem later{r z:Rw}{t:List Rw}(o:Ord (r::t))(hz:z∈t){p:Int}(hp:has3 z p=true):∃x y,r.2.1=some x/\z.1=some y/\x<=y/\y<=p:=by
 obtain⟨x,y,h1,h2,h3⟩:=(fA.mp o.pw).1 z hz;refine⟨x,y,h1,h2,h3,?_⟩;unfold has3 hasS at hp;simp only[h2,bD,decide_eq_true_eq] at hp;exact hp.1
noncomputable def shR(f:Int)(r:Rw):Rw:=(r.1.map (·+f),r.2.1.map (·+f),r.2.2)
noncomputable def SH(ps:List Rw)(a c f:Int):List Rw:=qN ps (none,some a)++(qN ps (some c,none)).map (shR f)
theorem split_len(ps:List Rw)(a c f:Int):(SH ps a c f).length<=2*ps.length:=by
 have h1:=yX ps (none,some a);have h2:=yX ps (some c,none);simp only[SH,bO,dC];omega
open Builtin.Int (intBits)
structure DrawM(rows:List Rw)(s:Int):Prop where
 map:MapF rows
 fin:∀r∈rows,∃lo bh,r.1=some lo/\r.2.1=some bh/\bh<=s
 last:∀r,rows.getLast?=some r->r.2.1=some s
theorem DrawM.nil(s:Int):DrawM [] s:=⟨MapF.nil,(fun _ h=>nomatch h),fun r h=>by simp at h⟩
theorem AI{ga:D->List Sl->Option (List Sl)}{body:FS}(P:Nat->List Sl->Prop)(N:Nat)(H:∀k,k<N->∀ds,P k ds->∃ds1 ds2,ga (.int (k:Int)) ds=some ds1/\body ds1=some (.nx ds2)/\P (k+1) ds2) :
  ∀n k ds,k+n=N->P k ds->∃ds',jH ga body ((List.range' k n).map fun(j:Nat)=>D.int (0+(j:Int))) ds=some (.nx ds')/\P N ds'
 | 0, k, ds, h, hp => ⟨ds, rfl, by have : k = N := by omega
                                   subst this;exact hp⟩
 | n + 1, k, ds, h, hp => by
   obtain⟨ds1,ds2,e1,e2,h2⟩:=H k (by omega) ds hp;obtain⟨ds',e,h'⟩:=AI P N H n (k+1) ds2 (by omega) h2;refine⟨ds',?_,h'⟩;rw[tE,bB,jH];have:(0+(k:Int))=(k:Int):=by omega
   rw[this,e1,aC,e2,aC];exact e
theorem BL(n:Nat):gT 0 n=(List.range' 0 n).map fun(j:Nat)=>D.int (0+(j:Int)):=by rw[gT,List.range_eq_range']
@[simp] theorem notD_rw(r:Rw):notD (rwD r) .non=some (.bl true):=rfl
end FL
namespace FL
open PySem PySem.Spec PyProof.Rows L2
theorem AN{t:FT}{f g:FS}{ds:List Sl}(h:t ds=some true):ifG t f g ds=f ds:=by simp[h]
theorem JX{t:FT}{f g:FS}{ds:List Sl}(h:t ds=some false):ifG t f g ds=g ds:=by simp[h]
end FL
namespace FL
open PySem PyProof.Rows L2 NumText
theorem kitS:kitF "str" "str" = some true/\kitF "int" "str" = some false/\kitF "NoneType" "str" = some false/\kitF "tuple" "str" = some false/\kitF "list" "str" = some false/\kitF "str" "tuple" = some false/\kitF "str" "bool" = some false:=by
 refine⟨?_,?_,?_,?_,?_,?_,?_⟩<;>decide +kernel
@[simp] theorem isi_str_str(x:Str):isiD "str" (.str x)=some (.bl true):=by simp[isiD,tyD,kitS.1]
@[simp] theorem isi_str_int(i:Int):isiD "str" (.int i)=some (.bl false):=by simp[isiD,tyD,kitS.2.1]
@[simp] theorem isi_str_non:isiD "str" .non=some (.bl false):=by simp[isiD,tyD,kitS.2.2.1]
@[simp] theorem isi_str_tup(l:List D):isiD "str" (.tup l)=some (.bl false):=by simp[isiD,tyD,kitS.2.2.2.1]
@[simp] theorem isi_str_lst(l:List D):isiD "str" (.lst l)=some (.bl false):=by simp[isiD,tyD,kitS.2.2.2.2.1]
theorem KW:Str.ofString "-" = txS [45]:=by decide
theorem RW:Str.ofString "0" = txS [48]:=by decide
theorem SA:Str.ofString "0123456789" = txS [48,49,50,51,52,53,54,55,56,57]:=by decide
theorem kJ:Str.ofString "" = txS []:=by decide
theorem vM:Str.ofString "," = txS [44]:=by decide
theorem uO:Str.ofString "[" = txS [91]:=by decide
theorem GE:Str.ofString "(" = txS [40]:=by decide
theorem GF:Str.ofString "]" = txS [93]:=by decide
theorem GG:Str.ofString ")" = txS [41]:=by decide
theorem t_dots:Str.ofString ".." = txS [46,46]:=by decide
theorem RY:Str.ofString "(.." = txS [40,46,46]:=by decide
theorem RZ:Str.ofString "..)" = txS [46,46,41]:=by decide
noncomputable def dig(c:Nat):Bool:=decide (48<=c)&&decide (c<=57)
noncomputable def figs:List Nat->List Nat
 |[]=>[]
 |c::r=>if c=45 then r else c::r
noncomputable def numL(cs:List Nat):Bool:=decide (1<=(figs cs).length)&&(decide ((figs cs).length<=60)&&((figs cs).all dig&&(decide ((figs cs).head?≠some 48)||decide (cs=[48]))))
noncomputable def valT:List Nat->Int
 |[]=>0
 |c::r=>if c=45 then -((digitsVal r:Nat):Int) else ((digitsVal (c::r):Nat):Int)
theorem ID{cs:List Nat}(h:Asc cs):Asc (figs cs):=by
 cases cs with
 |nil=>exact h
 | cons c r =>
   show Asc (if c=45 then r else c::r)
   by_cases hc:c=45
   . rw[if_pos hc];exact fun d hd=>h d (.tail _ hd)
   . rw[if_neg hc];exact h
theorem HP(cs:List Nat):(figs cs).length<=cs.length:=by
 cases cs with
 |nil=>simp[figs]
 | cons c r =>
   show(if c=45 then r else c::r).length<=_
   split<;>simp
theorem jE{cs:List Nat}(h:cs.all (fun c=>decide (c<1000))=true):Asc cs:=fun c hc=>by simpa using fQ.mp h c hc
theorem MJ(c:Nat):decide (c∈[48,49,50,51,52,53,54,55,56,57])=dig c:=by
 rw[gA];simp only[dig,decide_eq_true_eq,aF,tF,or_false,bD];omega
theorem VP(cs:List Nat)(hl:cs.length<=100000)(ds:List Sl)(h:ds[0]?=some (.v (.str (txS cs)))):ifV (testT (zI stwD (zG 0) (zA (.str (Str.ofString "-"))))) (slsS (zG 0) (soP (zA (.int 1))) noP) (yR 0) ds=some (.str (txS (figs cs))):=by
 have z:cs.length<=16777216:=by omega
 have e1:=DS cs 45;have e2:Txt.slice (txS cs) (some 1) none=txS (cs.drop 1):=xM cs 1;rw[KW];cases cs with
 |nil=>simp[h,stwD,e1,figs]
 | cons c r =>
   simp only[aG] at z
   by_cases hc:c=45
   . subst hc;simp[h,stwD,e1,slsS,z,e2,figs]
   . simp[h,stwD,e1,hc,figs]
theorem pH{cs:List Nat}(ha:Asc cs)(hl:cs.length<=100000):eZ [.str (txS cs)]=some (.val (.bl (numL cs))):=by
 have hf:=VP cs hl [.v (.str (txS cs)),.no] rfl;have fl:=HP cs;have fa:=ID ha;have lf:=rP (figs cs) (by omega)
 have comp:compG (viaA (yR 1) asS) [none] (qL 0) (fun _=>some true) (zI inS (zG 0) (zA (.str (Str.ofString "0123456789")))) [.v (.str (txS cs)),.v (.str (txS (figs cs)))]=some (((figs cs).map dig).map D.bl):=by
  rw[SA];refine wM (items:=(figs cs).map fun c=>D.str (txS [c])) (by simp;rfl) (by simp;omega) ?_;rw[wO (fun c=>D.str (txS [c])) (fun c=>D.bl (dig c)) (figs cs),fV]
  . rfl
  . intro c _;have:=in_one [48,49,50,51,52,53,54,55,56,57] c;rw[MJ] at this;exact⟨_,rfl,by simp[yI,this]⟩
 have al:allD [.lst (((figs cs).map dig).map D.bl)]=some (.bl ((figs cs).all dig)):=by rw[WG,List.all_map];rfl
 have eq0:=vA ha (jE (cs:=[48]) rfl);refine jT ?_;unfold lK;have ar:args 2 [.str (txS cs)]=[.v (.str (txS cs)),.no]:=by simp[args]
 rw[ar,zN (ds':=[.v (.str (txS cs)),.no]) (by simp),zN (ds':=[.v (.str (txS cs)),.v (.str (txS (figs cs)))]) (by rw[jZ,hf];rfl)];unfold numL;generalize hF:figs cs=F at *
 by_cases h1:1<=F.length
 . have k1 : ¬ ((F.length : Int) < 1) := by omega
   by_cases h2:F.length<=60
   . have k2 : ¬ ((60 : Int) < (F.length : Int)) := by omega
     rw[zN (ds':=[.v (.str (txS cs)),.v (.str (txS F))]) (by simp[lf,k1,k2])];cases h3:F.all dig with
     | false =>
       rw[h3] at al;refine qR ?_;simp only[VH,MB,GD,xE,xC,yY,comp,xR,aV,aC,al,KS];simp[h1,h2,h3]
     | true =>
       rw[h3] at al
       rw[zN (ds':=[.v (.str (txS cs)),.v (.str (txS F))]) (by
        simp only[VH,MB,GD,xE,xC,yY,comp,xR,aV,aC,al,KS]
        simp)]
       cases F with
       |nil=>simp at h1
       | cons c r =>
         have ix:=ER c r (by omega);have ne0:=GZ (a:=[c]) (fun d hd=>by rw[bG.mp hd];exact fa c (.head _)) (jE (cs:=[48]) rfl);rw[RW];have h5:r.length<=59:=by simp at h2;omega
         by_cases h4:c=48
         . subst h4;simp[ix,ne0,eq0,h1,h2,h3,h5]
         . simp[ix,ne0,eq0,h1,h2,h3,h4,h5]
   . have k2 : (60 : Int) < (F.length : Int) := by omega
     refine qR ?_;simp[lf,k1,k2,h1,h2]
 . have k1 : (F.length : Int) < 1 := by omega
   refine qR ?_;simp[lf,k1,h1]
theorem HD{cs:List Nat}(h:numL cs=true):cs.length<=61/\intText? (txS cs)=some (valT cs):=by
 unfold numL at h;simp only[bD,decide_eq_true_eq] at h;obtain⟨h1,h2,h3,h4⟩:=h
 have hd:AllDigits (figs cs):=fun c hc=>by
  have:=fQ.mp h3 c hc;simpa[dig] using this
 cases cs with
 |nil=>simp[figs] at h1
 | cons c r =>
   by_cases hc:c=45
   . subst hc;have e:figs (45::r)=r:=by simp [figs]
     rw[e] at h1 h2 hd;refine⟨by simp;omega,?_⟩;have:=intText_neg (x:=txS (45::r)) (cs:=r) rfl hd (by intro z;rw[z] at h1;simp at h1) (by simp;omega);rw[this];simp[valT]
   . have e : figs (c :: r) = c :: r := by simp [figs, hc]
     rw[e] at h1 h2 hd;refine⟨by simp at h2 ⊢;omega,?_⟩;have:=intText_digits (x:=txS (c::r)) hd (by simp) (by simp at h2 ⊢;omega);rw[this];simp[valT,hc]
theorem uY{cs:List Nat}(ha:Asc cs)(hl:cs.length<=100000)(h:numL cs=true):aK [.str (txS cs)]=some (.val (.int (valT cs))):=by
 have e:=pH ha hl;rw[h] at e;obtain⟨i1,i2⟩:=HD h
 have it:intTD [.str (txS cs)]=some (.int (valT cs)):=by
  simp only[intTD,jR];rw[if_pos (by omega),i2];rfl
 refine jT ?_;unfold gP;simp[args,e,it]
noncomputable def readL(cs:List Nat):Option Int:=if numL cs=true then some (valT cs) else none
theorem sV{cs:List Nat}(ha:Asc cs)(hl:cs.length<=100000):iU [.str (txS cs)]=some (.val (oi (readL cs))):=by
 have z:cs.length<=16777216:=by omega
 have fl:=HP cs;have fa:=ID ha;have lf:=rP (figs cs) (by omega);have eqe:=vA fa (jE (cs:=[]) rfl);have ne0:=GZ ha (jE (cs:=[48]) rfl);refine jT ?_;unfold pY;have ar:args 3 [.str (txS cs)]=[.v (.str (txS cs)),.no,.no]:=by simp[args]
 rw[ar,zN (ds':=[.v (.str (txS cs)),.v (.str (txS cs)),.no]) (by simp),zN (ds':=[.v (.str (txS cs)),.v (.str (txS (figs cs))),.no]) (by
  rw[KW];have e2:Txt.slice (txS cs) (some 1) none=txS (cs.drop 1):=xM cs 1;cases cs with
  | nil =>
    have e1:Txt.slice (txS []) none (some 1)=txS []:=by decide
    have eq1:=vA (a:=[]) (b:=[45]) (jE rfl) (jE rfl);simp[slsS,e1,eq1,figs]
  | cons c r =>
    have e1:Txt.slice (txS (c::r)) none (some 1)=txS [c]:=by
     have:=uR (c::r) (b:=1) (by simp);simpa using this
    have eq1:=vA (a:=[c]) (b:=[45]) (fun d hd=>by rw[bG.mp hd];exact ha c (.head _)) (jE rfl);simp only[aG] at z
    by_cases hc:c=45
    . subst hc;simp[slsS,z,e1,e2,eq1,figs]
    . simp[slsS,z,e1,eq1,hc,figs])]
 have lp:∀(f:List Nat) (a b:Sl) (x:Sl),∃y,jH (qL 2) iV (f.map fun c=>D.str (txS [c])) [a,b,x]=if f.all dig=true then some (.nx [a,b,y]) else some (.rt (.val .non)):=by
  intro f
  induction f with
  |nil=>intro a b x;exact⟨x,by simp[jH]⟩
  | cons c r ih =>
    intro a b x;have:=rM [48,49,50,51,52,53,54,55,56,57] c;rw[MJ,<- SA] at this;cases hd:dig c with
    | false =>
      rw[hd] at this;exact⟨x,by simp[jH,iV,this,hd]⟩
    | true =>
      rw[hd] at this;have t1:iV [a,b,.v (.str (txS [c]))]=some (.nx [a,b,.v (.str (txS [c]))]):=by simp[iV,this]
      obtain⟨y,ih'⟩:=ih a b (.v (.str (txS [c])));refine⟨y,?_⟩;simp only[bB,jH,qL,aC,List.set_cons_succ,List.set_cons_zero,t1,ih'];simp[hd]
 obtain⟨Y,lpf⟩:=lp (figs cs) (.v (.str (txS cs))) (.v (.str (txS (figs cs)))) .no;have sg:viaA (yR 1) asS [.v (.str (txS cs)),.v (.str (txS (figs cs))),.no]=some ((figs cs).map fun c=>D.str (txS [c])):=by simp;rfl
 have tail:∀h3:(figs cs).all dig=true,numL cs=true->qM (forG (viaA (yR 1) asS) (qL 2) iV) (retG (callB intTD (zF (zG 0) zR))) [.v (.str (txS cs)),.v (.str (txS (figs cs))),.no]=some (.rt (.val (.int (valT cs)))):=by
  intro h3 hn;obtain⟨i1,i2⟩:=HD hn
  have it:intTD [.str (txS cs)]=some (.int (valT cs)):=by
   simp only[intTD,jR];rw[if_pos (by omega),i2];rfl
  rw[h3,if_pos rfl] at lpf;rw[zN (ds':=[.v (.str (txS cs)),.v (.str (txS (figs cs))),Y]) (by rw[wD,sg];exact lpf)];simp[it]
 rw[kJ,RW];unfold readL;have nl:numL cs=(decide (1<=(figs cs).length)&&(decide ((figs cs).length<=60)&&((figs cs).all dig&&(decide ((figs cs).head?≠some 48)||decide (cs=[48]))))):=rfl;generalize hF:figs cs=F at *;cases F with
 | nil =>
   rw[nl];refine qR ?_;simp[eqe]
 | cons c r =>
   have ix:=ER c r (by omega);have eq0:=vA (a:=[c]) (b:=[48]) (fun d hd=>by rw[bG.mp hd];exact fa c (.head _)) (jE rfl);simp only[aG] at lf nl
   by_cases h2:r.length+1<=60
   . have k2 : ¬ ((60 : Int) < (r.length : Int) + 1) := by omega
     by_cases h4:c=48/\cs≠[48]
     . have : numL cs = false := by rw [nl]; simp [h4.1, h4.2]
       rw[this];obtain⟨rfl,h5⟩:=h4;refine qR ?_;simp[eqe,lf,k2,ix,eq0,ne0,h5]
     . have hh:(decide ((c::r).head?≠some 48)||decide (cs=[48]))=true:=by
        by_cases hc:c=48
        . have : cs=[48]:= Classical.byContradiction fun z => h4 ⟨hc, z⟩;simp[this]
        . simp[hc]
       rw[zN (ds':=[.v (.str (txS cs)),.v (.str (txS (c::r))),.no]) (by
        by_cases hc:c=48
        . have h5 : cs=[48]:= Classical.byContradiction fun z => h4 ⟨hc, z⟩;subst hc;rw[show decide (cs=[48])=true from by simp[h5]] at ne0;simp[eqe,lf,k2,ix,eq0,ne0]
        . simp[eqe,lf,k2,ix,eq0,hc])]
       cases h3:(c::r).all dig with
       | true =>
         have:numL cs=true:=by rw[nl,h3,hh];simp[h2]
         rw[if_pos this];exact tail h3 this
       | false =>
         have:numL cs=false:=by rw[nl,h3];simp
         rw[this];rw[h3,if_neg (by simp)] at lpf;refine qR ?_;rw[wD,sg];exact lpf
   . have k2 : (60 : Int) < (r.length : Int) + 1 := by omega
     have:numL cs=false:=by rw[nl];simp[h2]
     rw[this];refine qR ?_;simp[eqe,lf,k2]
noncomputable def cZ(c:Nat):List Nat->List (List Nat)
 |[]=>[[]]
 | a :: r => if a = c then [] :: cZ c r else match cZ c r with
   |h::t=>(a::h)::t
   |[]=>[[a]]
noncomputable def joinL(c:Nat):List (List Nat)->List Nat
 |[]=>[]
 |[p]=>p
 |p::q::r=>p++c::joinL c (q::r)
theorem rG(c:Nat)(s:List Nat):∀p:List Nat,c∉p->∀h t,cZ c s=h::t->cZ c (p++s)=(p++h)::t
 |[],_,h,t,e=>e
 | a :: p, hp, h, t, e => by
   have ih:=rG c s p (fun z=>hp (.tail _ z)) h t e;have ha:a≠c:=fun z=>hp (z▸.head _);show(if a=c then []::cZ c (p++s) else match cZ c (p++s) with | h::t=>(a::h)::t | []=>[[a]])=_;rw[if_neg ha,ih];rfl
theorem uQ(c:Nat):∀ps:List (List Nat),ps≠[]->(∀p∈ps,c∉p)->cZ c (joinL c ps)=ps
 |[],h,_=>(h rfl).elim
 | [p], _, h => by
   have:=rG c [] p (h p (.head _)) [] [] rfl;simpa[joinL] using this
 | p :: q :: r, _, h => by
   have ih:=uQ c (q::r) (by simp) fun x hx=>h x (.tail _ hx)
   have e:cZ c (c::joinL c (q::r))=[]::(q::r):=by
    show(if c=c then []::cZ c (joinL c (q::r)) else _)=_;rw[if_pos rfl,ih]
   have:=rG c (c::joinL c (q::r)) p (h p (.head _)) [] (q::r) e;simpa[joinL] using this
theorem AY(c:Nat):∀ps:List (List Nat),ps≠[]->(joinL c ps).count c+1=ps.length+(ps.map (·.count c)).sum
 |[],h=>(h rfl).elim
 |[p],_=>by simp[joinL];omega
 | p :: q :: r, _ => by
   have ih:=AY c (q::r) (by simp);simp only[joinL,iO,iA,beq_self_eq_true,if_true,aG,bB,DO] at ih ⊢;omega
theorem MK(c:Nat):∀ps:List (List Nat),Str.join (txS [c]) (ps.map txS)=txS (joinL c ps)
 |[]=>rfl
 |[p]=>rfl
 | p :: q :: r => by
   have ih:=MK c (q::r);show txS p++txS [c]++Str.join (txS [c]) ((q::r).map txS)=_;rw[ih,vE,vE];simp[joinL]
theorem LZ(x:Nat):∀l:List Nat,x∈l->x<=l.sum
 | a :: l, h => by
   rw[DO];rcases aF.mp h with z | z
   . omega
   . have:=LZ x l z;omega
theorem GK(cs:List Nat){c:Nat}(hc:c<256):Txt.split (txS cs) (txS [c])=(cZ c cs).map txS:=by
 have hl:=wJ cs c hc;have hj:=StrLaws.join_split (txS cs) (txS [c]);generalize Txt.split (txS cs) (txS [c])=L at *
 have eL:L=(L.map fun x=>x.cps.toList).map txS:=by
  rw[fV];have:(txS ∘ fun x:Str=>x.cps.toList)=id:=funext fun x=>yP x;rw[this,IR]
 generalize hP:(L.map fun x=>x.cps.toList)=ps at *;have hlen:ps.length=cs.count c+1:=by rw[<- hP,dC];exact hl
 rw[eL,MK,tU] at hj;have hne:ps≠[]:=fun z=>by rw[z] at hlen;simp at hlen
 have cj:=AY c ps hne;rw[hj] at cj;have z0:(ps.map (·.count c)).sum=0:=by omega
 have no:∀p∈ps,c∉p:=fun p hp=>by
  rw[<- fW];have:p.count c<=(ps.map (·.count c)).sum:=LZ (p.count c) _ (mR.mpr ⟨p,hp,rfl⟩);omega
 rw[eL,<- hj,uQ c ps hne no]
end FL
namespace FL
open PySem PyProof.Rows L2 NumText Builtin.Str
noncomputable def join2:List (List Nat)->List Nat
 |[]=>[]
 |[p]=>p
 |p::q::r=>p++59::32::join2 (q::r)
end FL
namespace FL
open PySem PyProof.Rows L2 NumText
open Builtin.Int (intBits)
noncomputable def endT(w:Nat)(p:Int):D:=if w=0 then .ins 7 [.int p] else if w=1 then .ins 8 [.int p] else .ins 9 []
noncomputable def lowT(w:Nat)(p:Int):Option Int:=if w=0 then some p else if w=1 then some (p+1) else none
noncomputable def behT(w:Nat)(p:Int):Option Int:=if w=0 then some (p+1) else if w=1 then some p else none
theorem ZG(w:Nat)(p:Int):methR 0 [7,8,9,10] cU (endT w p) []=some (.val (oi (lowT w p))):=by
 unfold endT lowT
 by_cases h0:w=0
 . simp[h0,cU,lV,runG,lU,args,List.lookup]
 . by_cases h1 : w = 1
   . simp[h1,cU,lY,runG,lX,args,List.lookup]
   . simp[h0,h1,cU,fM,runG,gQ,args]
theorem ZW(w:Nat)(p:Int):methR 0 [7,8,9,10] bW (endT w p) []=some (.val (oi (behT w p))):=by
 unfold endT behT
 by_cases h0:w=0
 . simp[h0,bW,iR,runG,iQ,args,List.lookup]
 . by_cases h1 : w = 1
   . simp[h1,bW,iT,runG,iS,args,List.lookup]
   . simp[h0,h1,bW,eP,runG,fI,args]
theorem initX(p:Int):aN [.int p]=some [.int p]:=by
 unfold aN FL.runN fS;simp[fldN,argsN]
noncomputable def lowP(A:List Nat):Option (Nat×Int):=if A=[40,46,46] then some (2,0) else if A[0]?=some 91 then (if numL (A.drop 1)=true then some (0,valT (A.drop 1)) else none) else if A[0]?=some 40 then (if numL (A.drop 1)=true then some (1,valT (A.drop 1)) else none) else none
noncomputable def highP(B:List Nat):Option (Nat×Int):=if B=[46,46,41] then some (2,0) else if B.getLast?=some 93 then (if numL B.dropLast=true then some (0,valT B.dropLast) else none) else if B.getLast?=some 41 then (if numL B.dropLast=true then some (1,valT B.dropLast) else none) else none
theorem VI:∀m:Nat,0<m->(Nat.toDigits 10 m).head?≠some '0':=by
 intro m
 induction m using Nat.strongRecOn with
 | _ m ih =>
   intro h
   by_cases h10:m<10
   . rw [Nat.toDigits_of_lt_base h10];have:∀ k:Nat,k < 10->0 < k->Nat.digitChar k≠'0':=by decide
     simpa using this m h10 h
   . have t := Nat.toDigits_append_toDigits (b := 10) (n := m / 10) (d := m % 10) (by decide) (by omega) (Nat.mod_lt m (by decide));rw [Nat.div_add_mod] at t;rw [<- t];have i2:=ih (m / 10) (by omega) (by omega);cases hd:Nat.toDigits 10 (m / 10) with
     |nil=>have:=BE (m/10);rw[hd] at this;simp[digitsVal] at this;omega
     |cons a r=>rw[hd] at i2;simpa using i2
theorem VY(m:Nat)(h:m<10 ^ 61):∃d:List Nat,d=(Nat.toDigits 10 m).map Char.toNat/\AllDigits d/\1<=d.length/\(d.length<=61/\(m<10 ^ 60->d.length<=60))/\digitsVal d=m/\(d.head?≠some 48\/d=[48]):=by
 refine⟨_,rfl,?_,?_,?_,BE m,?_⟩
 . intro c hc;obtain⟨ch,hch,e⟩:=mR.mp hc;have r:=digit_range (Nat.isDigit_of_mem_toDigits (by decide) (by decide) hch);rw[<- e];exact r
 . rw [dC];cases hd:Nat.toDigits 10 m with
   | nil =>
     have:=toDigits_len_ge 10 m;rw[hd] at this;exact absurd this (by decide)
   |cons a r=>simp
 . have e := uI m;have el:(Str.ofString (toString ((m:Nat):Int))).length=((Nat.toDigits 10 m).map Char.toNat).length:=by rw [<- e]; simp [Str.length]
   constructor
   . have hl := toString_length_le (v := (m : Int)) (by omega) (k := 61) (by decide) (by exact_mod_cast h);rw[el] at hl;exact hl
   . intro h';have hl:=toString_length_le (v:=(m:Int)) (by omega) (k:=60) (by decide) (by exact_mod_cast h');rw[el] at hl;exact hl
 . by_cases h0 : m = 0
   . subst h0;right;decide
   . left;have:=VI m (by omega);cases hd:Nat.toDigits 10 m with
     |nil=>simp
     | cons a r =>
       rw[hd] at this;intro z;have z':a.toNat=48:=by simpa using z
       refine this ?_;have:a='0':=Char.ext (UInt32.toNat_inj.mp (by exact z'));rw[this];rfl
theorem SG(n:Int)(h:n.natAbs<10 ^ 61):∃w,strD [.int n]=some (.str (txS w))/\Asc w/\44∉w/\w.length<=62/\(n.natAbs<10 ^ 60->numL w=true)/\valT w=n:=by
 obtain⟨d,hd,d1,d2,⟨d3,d3'⟩,d4,d5⟩:=VY n.natAbs h
 have lg:n.natAbs.log2<1920:=by
  by_cases h0:n.natAbs=0
  . rw[h0];decide
  . exact(Nat.log2_lt (k:=1920) h0).mpr (Nat.lt_trans h (by decide))
 have dg:∀c∈d,dig c=true:=fun c hc=>by simpa[dig] using d1 c hc
 have all:d.all dig=true:=fQ.mpr dg;have n44:44∉d:=fun z=>by have:=d1 44 z;omega
 have n45:d.head?≠some 45:=by
  cases d with
  |nil=>simp
  |cons c r=>have:=d1 c (.head _);simp;omega
 have hs:strD [.int n]=some (.str (Str.ofString (toString n))):=by simp[strD,lg]
 by_cases hn:0<=n
 . have en : ((n.natAbs : Nat) : Int) = n := by omega
   have e:Str.ofString (toString n)=txS d:=by
    rw[<- yP (Str.ofString (toString n)),<- en,uI,<- hd]
   have fg:figs d=d:=by
    cases d with
    |nil=>rfl
    |cons c r=>exact if_neg (by simpa using n45)
   refine⟨d,by rw[hs,e],fun c hc=>by have:=d1 c hc;omega,n44,by omega,?_,?_⟩
   . intro hb;have d3:=d3' hb;unfold numL;rw [fg,all];rcases d5 with z | z
     . simp[d2,d3,z]
     . simp[z]
   . cases d with
     |nil=>simp at d2
     | cons c r =>
       show(if c=45 then _ else _)=_;rw[if_neg (by simpa using n45),d4];omega
 . obtain⟨k,rfl⟩:∃k:Nat,n=Int.negSucc k:=by
    cases n with
    |ofNat k=>simp at hn
    |negSucc k=>exact⟨k,rfl⟩
   have hk:(Int.negSucc k).natAbs=k+1:=rfl;rw[hk] at hd d4 d3';rw[hk]
   have e:Str.ofString (toString (Int.negSucc k))=txS (45::d):=by
    rw[<- yP (Str.ofString (toString (Int.negSucc k))),signs_ofString];have e1:toString (Int.negSucc k) = "-"++Nat.repr (k+1):=rfl;rw[e1,String.toList_append,Nat.toList_repr,fY,<- hd];rfl
   have hne:d≠[48]:=fun z=>by rw[z] at d4;simp[digitsVal] at d4
   refine⟨45::d,by rw[hs,e],fun c hc=>?_,fun z=>?_,by simp;omega,?_,?_⟩
   . rcases aF.mp hc with z | z
     . omega
     . have:=d1 c z;omega
   . rcases aF.mp z with z | z
     . omega
     . exact n44 z
   . intro hb;have d3:=d3' hb;have fg:figs (45::d)=d:=by simp [figs]
     unfold numL;rw[fg,all];rcases d5 with z | z
     . simp[d2,d3,z]
     . exact(hne z).elim
   . simp only[valT, if_true, d4];omega
end FL
namespace FL
open PySem PyProof.Rows L2
open Builtin.Int (intBits)
abbrev Rl:=Int×Int×Int×Int×Int
noncomputable def R5(a b s t v:Int):D:=.tup [.int a,.int b,.int s,.int t,.int v]
noncomputable def rlD(r:Rl):D:=R5 r.1 r.2.1 r.2.2.1 r.2.2.2.1 r.2.2.2.2
noncomputable def isR(a b s t:Int):Bool:=decide (a<b)&&(decide (1<=t)&&(decide (t<=100)&&(if t=1 then decide (s=0) else decide (b-a<s))))
noncomputable def okL(r:Rl):Bool:=isR r.1 r.2.1 r.2.2.1 r.2.2.2.1
theorem DC(x y z w u:D):ixD (.tup [x,y,z,w,u]) (.int 3)=some w:=by rw[kK _ (by decide) (by simp)];rfl
theorem ix5_4(x y z w u:D):ixD (.tup [x,y,z,w,u]) (.int 4)=some u:=by rw[kK _ (by decide) (by simp)];rfl
theorem rl0(r:Rl):ixD (rlD r) (.int 0)=some (.int r.1):=by unfold rlD R5;simp
theorem rl1(r:Rl):ixD (rlD r) (.int 1)=some (.int r.2.1):=by unfold rlD R5;simp
theorem rl2(r:Rl):ixD (rlD r) (.int 2)=some (.int r.2.2.1):=by unfold rlD R5;simp
theorem rl3(r:Rl):ixD (rlD r) (.int 3)=some (.int r.2.2.2.1):=by unfold rlD R5;exact DC _ _ _ _ _
theorem rl4(r:Rl):ixD (rlD r) (.int 4)=some (.int r.2.2.2.2):=by unfold rlD R5;exact ix5_4 _ _ _ _ _
theorem vL(a b s t v:Int):eS [R5 a b s t v]=some (.val (.bl (isR a b s t))):=by
 unfold eS runG mJ isR R5
 by_cases h1:a<b
 . have e1 : ¬ b - a < 1 := by omega
   by_cases h2:1<=t
   . have e2 : ¬ t < 1 := by omega
     by_cases h3:t<=100
     . have e3 : ¬ 100 < t := by omega
       by_cases h4:t=1
       . subst h4;simp[args,DC,e1,h1]
       . simp[args,DC,e1,h1,h2,e2,h3,e3,h4]
     . have e3 : 100 < t := by omega
       simp[args,DC,e1,h1,h2,e2,h3,e3]
   . have e2 : t < 1 := by omega
     simp[args,DC,e1,h1,h2,e2]
 . have e1 : b - a < 1 := by omega
   simp[args,DC,e1,h1]
theorem UG(r:Rl):eS [rlD r]=some (.val (.bl (okL r))):=vL _ _ _ _ _
theorem AF{r:Rl}(h:okL r=true):1<=r.2.2.2.1/\r.2.2.2.1<=100/\r.1<r.2.1/\(r.2.2.2.1=1->r.2.2.1=0)/\(r.2.2.2.1≠1->r.2.1-r.1<r.2.2.1):=by
 unfold okL isR at h;simp only[bD,decide_eq_true_eq] at h;obtain⟨h1,h2,h3,h4⟩:=h;refine⟨h2,h3,h1,fun z=>?_,fun z=>?_⟩
 . rw[if_pos z] at h4;simpa using h4
 . rw[if_neg z] at h4;simpa using h4
noncomputable def strP(a b s:Int)(n:Nat):List Spn:=(List.range n).map fun(k:Nat)=>(some (a+(k:Int)*s),some (b+(k:Int)*s))
noncomputable def strQ(r:Rl):List Spn:=strP r.1 r.2.1 r.2.2.1 r.2.2.2.1.toNat
theorem str_eq{r:Rl}(h:okL r=true):dF [rlD r]=some (.fresh ((strQ r).map spD)):=by
 have pr:=UG r;rw[h] at pr;obtain⟨t1,t2,_⟩:=AF h;have ok:okR r.2.2.2.1:=wN (by omega) (by omega);have i0:=rl0 r;have i1:=rl1 r;have i2:=rl2 r;have i3:=rl3 r;have fl:=PX (strQ r);unfold dF;refine jT ?_;unfold iF;unfold strQ at fl ⊢;obtain⟨a,b,s,t,v⟩:=r;simp only at *;generalize rlD (a,b,s,t,v)=R at *;rw[zN (ds':=[.v R,.no]) (by simp[args,pr])];rw[zN (ds':=[.v R,.v (.int s)]) (by simp[i2])]
 have cp:(compG (rng1 (zI ixD (zG 0) (zA (.int 3)))) [none,some 0,some 1] (qL 0) (fun _=>some true) (mkT (qI (zF (zI yA (zI ixD (zG 1) (zA (.int 0))) (zI mulD (zG 0) (zG 2))) (zF (zI yA (zI ixD (zG 1) (zA (.int 1))) (zI mulD (zG 0) (zG 2))) zR))))) [.v R,.v (.int s)]=some ((strP a b s t.toNat).map spD):=by
  refine wM (items:=gT 0 t.toNat) (by simp[i3,ok]) (by simp[gT];omega) ?_;have e:gT 0 t.toNat=(List.range t.toNat).map (fun(k:Nat)=>D.int (k:Int)):=by simp[gT]
  rw[e,wO (fun(k:Nat)=>D.int (k:Int)) (fun(k:Nat)=>spD (some (a+(k:Int)*s),some (b+(k:Int)*s))),strP,fV]
  . rfl
  . intro k hk;have hk':k<t.toNat:=nQ.mp hk;have ml:mulD (.int (k:Int)) (.int s)=some (.int ((k:Int)*s)):=uD (.of_left (wP (aZ (show(k:Int).natAbs<128 by omega) (by decide))));exact⟨_,rfl,by simp[yI,i0,i1,ml,spD]⟩
 simp only[uX,cp,aC];simp[fl]
noncomputable def rowsR(r:Rl):List Rv:=(strQ r).map fun s=>(s,some r.2.2.2.2)
theorem kF{r:Rl}(h:okL r=true):(rowsR r).length<=100/\((rowsR r).length:Int)=r.2.2.2.1:=by
 obtain⟨t1,t2,_⟩:=AF h;have e:(rowsR r).length=r.2.2.2.1.toNat:=by simp[rowsR,strQ,strP]
 rw[e];omega
theorem SO{r:Rl}(h:okL r=true):∀q∈rowsR r,okS q.1:=by
 intro q hq;obtain⟨s,hs,rfl⟩:=mR.mp hq;obtain⟨k,_,rfl⟩:=mR.mp hs;intro a b e1 e2;cases e1;cases e2;have:=(AF h).2.2.1;omega
theorem DW{r:Rl}(h:okL r=true):cS [rlD r]=some (.fresh ((rowsR r).map rvD)):=by
 have se:=str_eq h;have i4:=rl4 r;have fl:=HN (rowsR r);have hl:=(kF h).1;have hl':(strQ r).length<=100:=by simpa[rowsR] using hl
 refine jT ?_;unfold iG;have ar:args 1 [rlD r]=[.v (rlD r)]:=by simp[args]
 rw[ar]
 have cp:compG (viaA (qJ 1 dF (zF (zG 0) zR)) asLT) [none,some 0] (qL 0) (fun _=>some true) (mkT (qI (zF (yR 0) (zF (zI ixD (zG 1) (zA (.int 4))) zR)))) [.v (rlD r)]=some ((rowsR r).map rvD):=by
  refine wM (items:=(strQ r).map spD) (by simp[se]) (by simp;omega) ?_;rw[wO spD (fun s=>rvD (s,some r.2.2.2.2)) (strQ r),rowsR,fV]
  . rfl
  . intro s _;exact⟨_,rfl,by simp[yI,i4,rvD]⟩
 simp only[uX,cp,aC];simp[fl]
theorem EQ{rows:List Rv}(hs:∀r∈rows,okS r.1)(hl:rows.length<=300):cE [.lst (rows.map rvD)]=some (.fresh ((hJ rows).map rwD)):=by
 obtain⟨e,_,_⟩:=PR rows hs (by omega);have fl:=wA (hJ rows);have hn : ¬(300:Int)<((rows.map rvD).length:Int):=by simp;omega
 refine jT ?_;unfold iJ;generalize (hJ rows).map rwD=F at *;generalize rows.map rvD=Q at *;simp[args,e,fl,hn]
end FL
namespace FL
open PySem PyProof.Rows L2 NumText
theorem DR:Str.ofString " " = txS [32]:=by decide
theorem XJ:Str.ofString "=" = txS [61]:=by decide
noncomputable def eachL:List Nat:=[101,97,99,104]
noncomputable def gK:List Nat:=[116,105,109,101,115]
theorem SB:Str.ofString "each" = txS eachL:=by decide
theorem KU:Str.ofString "times" = txS gK:=by decide
end FL
namespace FL
open PySem PyProof.Rows L2
open Builtin.Int (intBits)
end FL
section
open PySem PyProof.Rows L2 FL
end
namespace FL
open PySem PySem.Spec PyProof.Rows L2
open Builtin.Int (intBits)
@[simp] theorem sltW_eq(f:FE)(lo hi:List Sl->Option (Option Int))(ds:List Sl):sltW f lo hi ds=(f ds).bind fun d=>(lo ds).bind fun a=>(hi ds).bind fun b=>match d with
 | .tup l=>some (.tup (cutD l a b))
 |_=>none:=rfl
end FL
namespace FL
open PySem PyProof.Rows L2 NumText
noncomputable def Bd(B:Int)(x:Int):Prop:=-B<x/\x<B
noncomputable def EB(B:Int)(r:Rw):Prop:=(∀x,r.1=some x->Bd B x)/\(∀x,r.2.1=some x->Bd B x)/\(∀x,r.2.2=some x->Bd B x)
structure Wd(n:Int)(w:List Nat):Prop where
 st:strD [.int n]=some (.str (txS w))
 asc:Asc w
 len:w.length<=62
 num:numL w=true
 val:valT w=n
 sg:∀c∈w,c=45\/(48<=c/\c<=57)
theorem Wd.no{n:Int}{w:List Nat}(h:Wd n w){c:Nat}(h1:c≠45)(h2 : ¬(48<=c/\c<=57)):c∉w:=fun z=>(h.sg c z).elim h1 h2
noncomputable def LowC(lo:Option Int)(o:Bool)(A:List Nat):Prop:=match lo with
 |none=>A=[40,46,46]
 |some a=>if o=true then ∃w,Wd (a-1) w/\A=40::w else ∃w,Wd a w/\A=91::w
noncomputable def HighC(bh:Option Int)(o:Bool)(B:List Nat):Prop:=match bh with
 |none=>B=[46,46,41]
 |some b=>if o=true then ∃w,Wd (b-1) w/\B=w++[93] else ∃w,Wd b w/\B=w++[41]
structure Sg(A:List Nat):Prop where
 asc:Asc A
 len:A.length<=63
 c44:44∉A
 c32:32∉A
 c61:61∉A
 c59:59∉A
theorem tZ{n:Int}{w:List Nat}(h:Wd n w){c:Nat}(hc:c<1000)(h1:c≠44/\c≠32/\c≠61/\c≠59):Sg (c::w):=by
 refine⟨fun x hx=>?_,by have:=h.len;simp;omega,?_,?_,?_,?_⟩
 . rcases aF.mp hx with z | z
   . rw[z];exact hc
   . exact h.asc x z
 all_goals
  intro z;rcases aF.mp z with z | z
 . exact h1.1 z.symm
 . exact h.no (by decide) (by decide) z
 . exact h1.2.1 z.symm
 . exact h.no (by decide) (by decide) z
 . exact h1.2.2.1 z.symm
 . exact h.no (by decide) (by decide) z
 . exact h1.2.2.2 z.symm
 . exact h.no (by decide) (by decide) z
theorem Sg.app{w:List Nat}{c:Nat}(h:Sg (c::w)):Sg (w++[c]):=by
 have m:∀x,x∈w++[c]->x∈c::w:=fun x hx=>by
  rcases bU.mp hx with z | z
  . exact .tail _ z
  . rw[bG.mp z];exact .head _
 exact⟨fun x hx=>h.asc x (m x hx),by have:=h.len;simpa using this,fun z=>h.c44 (m _ z),fun z=>h.c32 (m _ z),fun z=>h.c61 (m _ z),fun z=>h.c59 (m _ z)⟩
theorem LowC.sg{lo:Option Int}{o:Bool}{A:List Nat}(h:LowC lo o A):Sg A/\∃a,lowP A=some a/\lowT a.1 a.2=lo:=by
 cases lo with
 | none =>
   have h:A=[40,46,46]:=h;subst h;exact⟨⟨jE rfl,by decide,by decide,by decide,by decide,by decide⟩,(2,0),rfl,rfl⟩
 | some a =>
   cases o with
   | true =>
     obtain⟨w,hw,rfl⟩:∃w,Wd (a-1) w/\A=40::w:=h;refine⟨tZ hw (by decide) (by decide),(1,a-1),?_,?_⟩
     . unfold lowP;rw[if_neg (fun z=>hw.no (c:=46) (by decide) (by decide) (by rw[List.cons.inj z |>.2];decide))];simp[hw.num,hw.val]
     . simp[lowT]
   | false =>
     obtain⟨w,hw,rfl⟩:∃w,Wd a w/\A=91::w:=h;refine⟨tZ hw (by decide) (by decide),(0,a),?_,?_⟩
     . unfold lowP;rw[if_neg (fun z=>by simp at z)];simp[hw.num,hw.val]
     . simp[lowT]
theorem HighC.sg{bh:Option Int}{o:Bool}{A:List Nat}(h:HighC bh o A):Sg A/\∃a,highP A=some a/\behT a.1 a.2=bh:=by
 cases bh with
 | none =>
   have h:A=[46,46,41]:=h;subst h;exact⟨⟨jE rfl,by decide,by decide,by decide,by decide,by decide⟩,(2,0),rfl,rfl⟩
 | some a =>
   cases o with
   | true =>
     obtain⟨w,hw,rfl⟩:∃w,Wd (a-1) w/\A=w++[93]:=h;refine⟨(tZ hw (by decide) (by decide)).app,(0,a-1),?_,?_⟩
     . unfold highP;rw[if_neg (fun z=>by have:=congrArg List.getLast? z;simp at this)];simp[hw.num,hw.val]
     . simp[behT]
   | false =>
     obtain⟨w,hw,rfl⟩:∃w,Wd a w/\A=w++[41]:=h;refine⟨(tZ hw (by decide) (by decide)).app,(1,a),?_,?_⟩
     . unfold highP
       rw[if_neg (fun z=>hw.no (c:=46) (by decide) (by decide) (by
        have e:w=[46,46]:=List.append_inj_left' (t₁:=[41]) (s₂:=[46,46]) (t₂:=[41]) z rfl
        rw[e];decide))]
       simp[hw.num,hw.val]
     . simp[behT]
theorem asc_mid{A B:List Nat}{c:Nat}(h1:Asc A)(h2:Asc B)(hc:c<1000):Asc (A++c::B):=fun x hx=>by
 rcases bU.mp hx with z | z
 . exact h1 x z
 . rcases aF.mp z with z | z
   . rw[z];exact hc
   . exact h2 x z
theorem AL:∀ps:List (List Nat),Str.join (txS [59,32]) (ps.map txS)=txS (join2 ps)
 |[]=>rfl
 |[p]=>rfl
 | p :: q :: r => by
   have ih:=AL (q::r);show txS p++txS [59,32]++Str.join (txS [59,32]) ((q::r).map txS)=_;rw[ih,vE,vE];simp[join2]
theorem RX:Str.ofString "; " = txS [59,32]:=by decide
theorem KZ:∀ws:List (List Nat),strsD (ws.map fun w=>.str (txS w))=some (ws.map txS)
 |[]=>rfl
 |w::r=>by simp[strsD,KZ r]
theorem KY:∀{ws:List (List Nat)} {m:Nat},(∀w∈ws,w.length<=m)->((ws.map txS).map (·.length)).sum<=m*ws.length
 |[],m,_=>by simp
 | w :: r, m, h => by
   have ih:=KY (ws:=r) (m:=m) fun x hx=>h x (.tail _ hx);have h1:=h w (.head _);simp only[bB,DO,aG,jR,Nat.mul_add,Nat.mul_one];omega
theorem CZ:∀{ws:List (List Nat)} {m:Nat},(∀w∈ws,w.length<=m)->(join2 ws).length<=(m+2)*ws.length
 |[],m,_=>by simp[join2]
 |[w],m,h=>by have:=h w (.head _);simp[join2];omega
 | w :: q :: r, m, h => by
   have ih:=CZ (ws:=q::r) (m:=m) fun x hx=>h x (.tail _ hx);have h1:=h w (.head _);simp only[join2,bO,aG,Nat.mul_add,Nat.mul_one] at ih ⊢;omega
theorem DB:∀{ws:List (List Nat)},(∀w∈ws,Asc w)->Asc (join2 ws)
 |[],_=>(fun _ h=>nomatch h)
 |[w],h=>h w (.head _)
 |w::q::r,h=>asc_mid (h w (.head _)) (fun x hx=>by
    rcases aF.mp hx with z | z
    . rw[z];decide
    . exact DB (ws:=q::r) (fun x hx=>h x (.tail _ hx)) x z) (by decide)
theorem PB{ws:List (List Nat)}(h:∀w∈ws,w.length<=1000)(hl:ws.length<=1000):joinD (.str (Str.ofString "; ")) (.lst (ws.map fun w=>.str (txS w)))=some (.str (txS (join2 ws))):=by
 have z:=KY h;rw[RX];unfold joinD;simp only[KZ,aC];rw[if_pos ⟨by decide,by simp only[dC];omega⟩]
 have:Txt.join (txS [59,32]) (ws.map txS)=Str.join (txS [59,32]) (ws.map txS):=by
  show Builtin.Str.glued _ _=_;rw[StrLaws.glued_eq_join]
 rw[this,AL]
noncomputable def WH(r:Rw)(w:List Nat):Prop:=∃v A B W,r.2.2=some v/\LowC r.1 false A/\HighC r.2.1 false B/\Wd v W/\w=(A++44::B)++61::W
theorem WH.len{r:Rw}{w:List Nat}(h:WH r w):w.length<=1000:=by
 obtain⟨v,A,B,W,hv,hA,hB,hW,rfl⟩:=h;have lA:=hA.sg.1.len;have lB:=hB.sg.1.len;have lW:=hW.len;simp;omega
end FL
section
open PySem PyProof.Rows L2 FL
noncomputable def iC:List Sl->Bool:=(seqX (jG 2 (methV 0 [7,8,9,10] cU (yR 0) zR))
 (seqX (jG 3 (methV 0 [7,8,9,10] bW (yR 1) zR))
 (ifX (testT (qJ 2 cT (zF (zG 3) (zF (zG 2) zR)))) dR dI)))
noncomputable def eB:List D->Bool:=runX iC 4
noncomputable def eM:List Sl->Bool:=(ifX (notT (testT (qJ 1 eS (zF (zG 0) zR)))) dR dI)
noncomputable def cI:List D->Bool:=runX eM 2
noncomputable def eN:List Sl->Bool:=(callX 1 cI (zF (zG 0) zR))
noncomputable def bP:List D->Bool:=runX eN 1
noncomputable def eF:List Sl->Bool:=(ifX (zT (zI gtD (callB lenD (zF (zG 0) zR)) (zA (.int 300)))) dR dI)
noncomputable def cC:List D->Bool:=runX eF 1
noncomputable def eR:List Sl->Bool:=(ifX (notT (testT (qJ 1 eZ (zF (zG 0) zR)))) dR dI)
noncomputable def aS:List D->Bool:=runX eR 1
noncomputable def eJ:List Sl->Bool:=(seqX (ifG (zT (zI eqD (zG 0) (zA (.str "(..")))) (retDG (zA (.ins 9 []))) qD)
 (orX (ifX (testT (zI stwD (zG 0) (zA (.str "[")))) (callX 1 aS (zF (slsS (zG 0) (soP (zA (.int 1))) noP) zR)) dI)
 (seqX (ifG (testT (zI stwD (zG 0) (zA (.str "[")))) (retDG (makeG 7 1 aN (zF (qJ 1 aK (zF (slsS (zG 0) (soP (zA (.int 1))) noP) zR)) zR))) qD)
 (orX (ifX (testT (zI stwD (zG 0) (zA (.str "(")))) (callX 1 aS (zF (slsS (zG 0) (soP (zA (.int 1))) noP) zR)) dI)
 (seqX (ifG (testT (zI stwD (zG 0) (zA (.str "(")))) (retDG (makeG 8 1 aN (zF (qJ 1 aK (zF (slsS (zG 0) (soP (zA (.int 1))) noP) zR)) zR))) qD)
 dR)))))
noncomputable def cK:List D->Bool:=runX eJ 1
noncomputable def dX:List Sl->Bool:=(seqX (ifG (zT (zI eqD (zG 0) (zA (.str "..)")))) (retDG (zA (.ins 9 []))) qD)
 (orX (ifX (testT (zI enwD (zG 0) (zA (.str "]")))) (callX 1 aS (zF (slsS (zG 0) noP (soP (un1 negD (zA (.int 1))))) zR)) dI)
 (seqX (ifG (testT (zI enwD (zG 0) (zA (.str "]")))) (retDG (makeG 7 1 aN (zF (qJ 1 aK (zF (slsS (zG 0) noP (soP (un1 negD (zA (.int 1))))) zR)) zR))) qD)
 (orX (ifX (testT (zI enwD (zG 0) (zA (.str ")")))) (callX 1 aS (zF (slsS (zG 0) noP (soP (un1 negD (zA (.int 1))))) zR)) dI)
 (seqX (ifG (testT (zI enwD (zG 0) (zA (.str ")")))) (retDG (makeG 8 1 aN (zF (qJ 1 aK (zF (slsS (zG 0) noP (soP (un1 negD (zA (.int 1))))) zR)) zR))) qD)
 dR)))))
noncomputable def cG:List D->Bool:=runX dX 1
noncomputable def eE:List Sl->Bool:=(orX (ifX (notT (testT (isiG "str" (zG 0)))) dR dI)
 (seqX (ifG (notT (testT (isiG "str" (zG 0)))) (fun _=>none) qD)
 (seqX (jG 1 (mkL (splA (zG 0) (zA (.str ",")))))
 (orX (ifX (zT (zI neD (callB lenD (zF (zG 1) zR)) (zA (.int 2)))) dR dI)
 (seqX (ifG (zT (zI neD (callB lenD (zF (zG 1) zR)) (zA (.int 2)))) (fun _=>none) qD)
 (orX (callX 1 cK (zF (zI ixD (zG 1) (zA (.int 0))) zR)) (thenX (qJ 1 dD (zF (zI ixD (zG 1) (zA (.int 0))) zR)) (callX 1 cG (zF (zI ixD (zG 1) (zA (.int 1))) zR)))))))))
noncomputable def bH:List D->Bool:=runX eE 2
noncomputable def cX:List Sl->Bool:=(seqX (jG 1 (mkL (splA (zG 0) (zA (.str " ")))))
 (seqX (jG 2 (mkL (splA (zI ixD (zG 1) (zA (.int 0))) (zA (.str "=")))))
 (seqX (ifG (orT (zT (zI neD (callB lenD (zF (zG 2) zR)) (zA (.int 2)))) (notT (orT (zT (zI eqD (callB lenD (zF (zG 1) zR)) (zA (.int 1)))) (testT (qJ 1 bQ (zF (zG 1) zR)))))) (fun _=>none) qD)
 (seqX (jG 3 (qJ 1 bJ (zF (zI ixD (zG 2) (zA (.int 0))) zR)))
 (seqX (jG 4 (qJ 1 aK (zF (zI ixD (zG 2) (zA (.int 1))) zR)))
 (seqX (jG 5 (mkL (compG (viaA (mkL (stpA (zG 1) (soP (zA (.int 2))) noP 2)) asLT) [none] (qL 0) (fun _=>some true) (qJ 1 aK (zF (zG 0) zR)))))
 (callX 2 eB (zF (zI ixD (zG 3) (zA (.int 0))) (zF (zI ixD (zG 3) (zA (.int 1))) zR)))))))))
noncomputable def bM:List D->Bool:=runX cX 7
noncomputable def bR:List Sl->Bool:=(seqX (jG 1 (mkL (splA (zG 0) (zA (.str " ")))))
 (seqX (jG 2 (mkL (splA (zI ixD (zG 1) (zA (.int 0))) (zA (.str "=")))))
 (seqX (ifG (orT (zT (zI neD (callB lenD (zF (zG 2) zR)) (zA (.int 2)))) (notT (orT (zT (zI eqD (callB lenD (zF (zG 1) zR)) (zA (.int 1)))) (testT (qJ 1 bQ (zF (zG 1) zR)))))) (fun _=>none) qD)
 (seqX (jG 3 (qJ 1 bJ (zF (zI ixD (zG 2) (zA (.int 0))) zR)))
 (seqX (jG 4 (qJ 1 aK (zF (zI ixD (zG 2) (zA (.int 1))) zR)))
 (seqX (jG 5 (mkL (compG (viaA (mkL (stpA (zG 1) (soP (zA (.int 2))) noP 2)) asLT) [none] (qL 0) (fun _=>some true) (qJ 1 aK (zF (zG 0) zR)))))
 (seqX (jG 6 (qJ 2 dW (zF (zI ixD (zG 3) (zA (.int 0))) (zF (zI ixD (zG 3) (zA (.int 1))) zR))))
 (seqX (ifG (notT (testT (zG 5))) (retOG (qI (zF (mkT (qI (zF (yR 6) (zF (yR 4) zR)))) zR))) qD)
 (orX (ifX (zT (zI isD (qJ 1 cY (zF (zG 6) zR)) (zA .non))) dR dI)
 (seqX (ifG (zT (zI isD (qJ 1 cY (zF (zG 6) zR)) (zA .non))) (fun _=>none) qD)
 (callX 1 bP (zF (mkT (qI (zF (zI ixD (zG 6) (zA (.int 0))) (zF (zI ixD (zG 6) (zA (.int 1))) (zF (zI ixD (zG 5) (zA (.int 0))) (zF (zI ixD (zG 5) (zA (.int 1))) (zF (yR 4) zR))))))) zR))))))))))))
noncomputable def bE:List D->Bool:=runX bR 7
noncomputable def cN:List Sl->Bool:=(seqX (jG 1 (mkL (splA (zG 0) (zA (.str " ")))))
 (seqX (jG 2 (mkL (splA (zI ixD (zG 1) (zA (.int 0))) (zA (.str "=")))))
 (orX (ifX (orT (zT (zI neD (callB lenD (zF (zG 2) zR)) (zA (.int 2)))) (notT (orT (zT (zI eqD (callB lenD (zF (zG 1) zR)) (zA (.int 1)))) (testT (qJ 1 bQ (zF (zG 1) zR)))))) dR dI)
 (seqX (ifG (orT (zT (zI neD (callB lenD (zF (zG 2) zR)) (zA (.int 2)))) (notT (orT (zT (zI eqD (callB lenD (zF (zG 1) zR)) (zA (.int 1)))) (testT (qJ 1 bQ (zF (zG 1) zR)))))) (fun _=>none) qD)
 (orX (callX 1 bH (zF (zI ixD (zG 2) (zA (.int 0))) zR))
 (seqX (jG 3 (qJ 1 bJ (zF (zI ixD (zG 2) (zA (.int 0))) zR)))
 (orX (callX 1 aS (zF (zI ixD (zG 2) (zA (.int 1))) zR))
 (seqX (jG 4 (qJ 1 aK (zF (zI ixD (zG 2) (zA (.int 1))) zR)))
 (AZ (viaA (mkL (stpA (zG 1) (soP (zA (.int 2))) noP 2)) asLT) [none] (qL 0) (qJ 1 aK (zF (zG 0) zR)) (callX 1 aS (zF (zG 0) zR)))))))))))
noncomputable def bI:List D->Bool:=runX cN 7
noncomputable def dU:List Sl->Bool:=(seqX (ifG (notT (testT (isiG "str" (zG 0)))) (fun _=>none) qD)
 (seqX (ifG (zT (zI eqD (zG 0) (zA (.str "")))) (retOG (qI zR)) qD)
 (seqX (setOG 1 (qI zR))
 (forX (viaA (mkL (splA (zG 0) (zA (.str "; ")))) asLT) (qL 2) cD (extX 1 (callX 1 bM (zF (zG 2) zR)))))))
noncomputable def cP:List D->Bool:=runX dU 3
noncomputable def dS:List Sl->Bool:=(seqX (ifG (notT (testT (isiG "str" (zG 0)))) (fun _=>none) qD)
 (seqX (ifG (zT (zI eqD (zG 0) (zA (.str "")))) (retOG (qI zR)) qD)
 (seqX (setOG 1 (qI zR))
 (forX (viaA (mkL (splA (zG 0) (zA (.str "; ")))) asLT) (qL 2) cD (extX 1 (callX 1 bE (zF (zG 2) zR)))))))
noncomputable def cO:List D->Bool:=runX dS 3
noncomputable def cW:List Sl->Bool:=(seqX (ifG (notT (testT (isiG "str" (zG 0)))) (fun _=>none) qD)
 (seqX (ifG (zT (zI eqD (zG 0) (zA (.str "")))) (retOG (qI zR)) qD)
 (seqX (setOG 1 (qI zR))
 (seqX (forG (viaA (mkL (splA (zG 0) (zA (.str "; ")))) asLT) (qL 2) cD)
 (callX 1 cC (zF (zG 1) zR))))))
noncomputable def bY:List D->Bool:=runX cW 3
noncomputable def dM:List Sl->Bool:=(orX (ifX (notT (testT (isiG "str" (zG 0)))) dR dI)
 (seqX (ifG (notT (testT (isiG "str" (zG 0)))) (fun _=>none) qD)
 (seqX (ifG (zT (zI eqD (zG 0) (zA (.str "")))) (retOG (qI zR)) qD)
 (seqX (setOG 1 (qI zR))
 (forX (viaA (mkL (splA (zG 0) (zA (.str "; ")))) asLT) (qL 2) cD (extX 1 (callX 1 bI (zF (zG 2) zR))))))))
noncomputable def cJ:List D->Bool:=runX dM 3
noncomputable def kU:FS:=(qM (jG 5 (zI subD (zI yA (zG 0) (zI wB (zG 1) (zA (.int 41)))) (zA (.int 20))))
 (qM (jG 6 (zI subD (zI wB (zG 2) (zA (.int 8))) (zA (.int 1))))
 (qM (jG 7 (zI ixD (mkL (qI (zF (zI yA (zA (.str "[")) (callB strD (zF (zG 5) zR))) (zF (zI yA (zA (.str "(")) (callB strD (zF (zI subD (zG 5) (zA (.int 1))) zR))) zR)))) (zI wB (zI xD (zG 1) (zA (.int 41))) (zA (.int 2)))))
 (qM (jG 8 (zI ixD (mkL (qI (zF (zI yA (callB strD (zF (zI yA (zG 5) (zG 6)) zR)) (zA (.str ")"))) (zF (zI yA (callB strD (zF (zI subD (zI yA (zG 5) (zG 6)) (zA (.int 1))) zR)) (zA (.str "]"))) zR)))) (zI wB (zI xD (zG 1) (zA (.int 82))) (zA (.int 2)))))
 (qM (ifG (zT (zI eqD (zI wB (zG 3) (zA (.int 8))) (zA (.int 3)))) (jG 7 (zA (.str "(.."))) qD)
 (qM (ifG (zT (zI eqD (zI wB (zG 3) (zA (.int 8))) (zA (.int 5)))) (jG 8 (zA (.str "..)"))) qD)
 (qM (jG 9 (zI yA (zI yA (zI yA (zI yA (zG 7) (zA (.str ","))) (zG 8)) (zA (.str "="))) (callB strD (zF (zI subD (zI wB (zI xD (zG 3) (zA (.int 8))) (zA (.int 19))) (zA (.int 9))) zR))))
 (qM (ifG (zT (zI eqD (zI wB (zG 4) (zA (.int 2))) (zA (.int 0)))) (retG (zG 9)) qD)
 (qM (jG 10 (zI subD (zI wB (zI xD (zG 4) (zA (.int 2))) (zA (.int 9))) (zA (.int 1))))
 (qM (ifG (zT (zI eqD (zI wB (zI xD (zG 4) (zA (.int 18))) (zA (.int 4))) (zA (.int 3)))) (jG 10 (zI yA (zA (.int 99)) (zI wB (zI xD (zG 4) (zA (.int 72))) (zA (.int 3))))) qD)
 (retG (zI yA (zI yA (zI yA (zI yA (zG 9) (zA (.str " each "))) (callB strD (zF (zI yA (zI subD (zG 6) (zA (.int 2))) (zI wB (zI xD (zG 2) (zA (.int 8))) (zA (.int 10)))) zR))) (zA (.str " times "))) (callB strD (zF (zG 10) zR))))))))))))))
noncomputable def kW:List D->Option Ret:=runG kU 11
noncomputable def gB:FS:=(qM (jG 5 (zI yA (zG 0) (zI mulD (zA (.int 1000)) (zG 4))))
 (qM (jG 6 (zI yA (zI yA (zI yA (zI yA (zI yA (zA (.str "[")) (callB strD (zF (zG 5) zR))) (zA (.str ","))) (callB strD (zF (zI yA (zI yA (zG 5) (zA (.int 1))) (zG 4)) zR))) (zA (.str ")="))) (callB strD (zF (zG 4) zR))))
 (appG 3 (zI yA (zI yA (zI yA (zG 6) (zA (.str " each "))) (callB strD (zF (zI yA (zG 4) (zA (.int 2))) zR))) (zA (.str " times 100"))))))
noncomputable def iP:FS:=(qM (setOG 3 (qI zR))
 (qM (forG (rng1 (yR 1)) (qL 4) gB)
 (retOG (catA (zG 3) (mkL (repF (qI (zF (zI yA (zI yA (zA (.str "[")) (callB strD (zF (zG 0) zR))) (zA (.str ",..)=7"))) zR)) (zG 2)))))))
noncomputable def gO:List D->Option Ret:=runG iP 7
noncomputable def iD:FS:=(qM (jG 2 (zA (.str "[](),.-0 =;eats")))
 (qM (jG 3 (zI ixD (zG 2) (zI wB (zI xD (zG 1) (zA (.int 6))) (callB lenD (zF (zG 2) zR)))))
 (qM (jG 4 (zI wB (zI xD (zG 1) (zA (.int 96))) (zI yA (callB lenD (zF (zG 0) zR)) (zA (.int 1)))))
 (qM (ifG (zT (zI eqD (zI wB (zG 1) (zA (.int 6))) (zA (.int 1)))) (retG (zI yA (zI yA (slsS (zG 0) noP (soP (zG 4))) (zG 3)) (slsS (zG 0) (soP (zG 4)) noP))) qD)
 (qM (ifG (zT (zI eqD (zI wB (zG 1) (zA (.int 6))) (zA (.int 3)))) (retG (zI yA (zI yA (slsS (zG 0) noP (soP (zG 4))) (zG 3)) (slsS (zG 0) (soP (zI yA (zG 4) (zA (.int 1)))) noP))) qD)
 (qM (ifG (zT (zI eqD (zI wB (zG 1) (zA (.int 6))) (zA (.int 5)))) (retG (zI yA (slsS (zG 0) noP (soP (zG 4))) (slsS (zG 0) (soP (zI yA (zG 4) (zA (.int 1)))) noP))) qD)
 (retG (zG 0))))))))
noncomputable def iE:List D->Option Ret:=runG iD 5
noncomputable def kT:FS:=(qM (ifG (orT (zT (zI ltD (callB lenD (zF (zG 0) zR)) (zA (.int 2)))) (orT (zT (zI (inD true) (zI ixD (zG 0) (zA (.int 0))) (mkL (qI (zF (zA (.str "[")) (zF (zA (.str "(")) zR)))))) (orT (zT (zI (inD true) (zI ixD (zG 0) (un1 negD (zA (.int 1)))) (mkL (qI (zF (zA (.str "]")) (zF (zA (.str ")")) zR)))))) (zT (zI notS (zA (.str ",")) (zG 0)))))) (retOG (qI zR)) qD)
 (qM (asgG (tupG 3 (jF (qL 1) (jF (qL 2) (jF (qL 3) tgNil)))) (zI prtD (slsS (zG 0) (soP (zA (.int 1))) (soP (un1 negD (zA (.int 1))))) (zA (.str ","))))
 (qM (jG 4 (qJ 4 mB (zF (zI ixD (zG 0) (zA (.int 0))) (zF (zG 1) (zF (zA (.str "[")) (zF (callB int1D (zF (zI eqD (zI ixD (zG 0) (zA (.int 0))) (zA (.str "("))) zR)) zR))))))
 (qM (jG 5 (qJ 4 mB (zF (zI ixD (zG 0) (un1 negD (zA (.int 1)))) (zF (zG 3) (zF (zA (.str "]")) (zF (callB int1D (zF (zI eqD (zI ixD (zG 0) (un1 negD (zA (.int 1)))) (zA (.str "]"))) zR)) zR))))))
 (qM (ifG (orT (zT (zI eqD (zG 4) (mkL (qI zR)))) (zT (zI eqD (zG 5) (mkL (qI zR))))) (retOG (qI zR)) qD)
 (retOG (qI (zF (zI ixD (zG 4) (zA (.int 0))) (zF (zI ixD (zG 5) (zA (.int 0))) zR)))))))))
noncomputable def fR:List D->Option Ret:=runG kT 6
noncomputable def iY:FS:=(qM (jG 1 (mkL (splA (zG 0) (zA (.str " ")))))
 (qM (ifG (andT (zT (zI neD (callB lenD (zF (zG 1) zR)) (zA (.int 1)))) (orT (zT (zI neD (callB lenD (zF (zG 1) zR)) (zA (.int 5)))) (orT (zT (zI neD (zI ixD (zG 1) (zA (.int 1))) (zA (.str "each")))) (zT (zI neD (zI ixD (zG 1) (zA (.int 3))) (zA (.str "times"))))))) (retG (zA (.str "NoText"))) qD)
 (qM (asgG (tupG 3 (jF (qL 2) (jF (qL 3) (jF (qL 4) tgNil)))) (zI prtD (zI ixD (zG 1) (zA (.int 0))) (zA (.str "="))))
 (qM (jG 5 (qJ 1 fR (zF (zG 2) zR)))
 (qM (jG 6 (mkL (compG (viaA (mkL (catA (mkL (qI (zF (yR 4) zR))) (mkL (stpA (zG 1) (soP (zA (.int 2))) (soP (zA (.int 5))) 2)))) asLT) [none] (qL 0) (fun _=>some true) (qJ 1 iU (zF (zG 0) zR)))))
 (qM (ifG (orT (zT (zI eqD (zG 5) (mkL (qI zR)))) (zT (zI (inD false) (zA .non) (zG 6)))) (retG (zA (.str "NoText"))) qD)
 (qM (ifG (andT (zT (zI notD (zI ixD (zG 5) (zA (.int 0))) (zA .non))) (andT (zT (zI notD (zI ixD (zG 5) (zA (.int 1))) (zA .non))) (zT (zI geD (zI ixD (zG 5) (zA (.int 0))) (zI ixD (zG 5) (zA (.int 1))))))) (retG (zA (.str "Empty"))) qD)
 (qM (ifG (zT (zI eqD (callB lenD (zF (zG 1) zR)) (zA (.int 1)))) (retG (zA (.int 1))) qD)
 (qM (ifG (orT (zT (zI (inD false) (zA .non) (zG 5))) (orT (zT (zI ltD (zI ixD (zG 6) (zA (.int 2))) (zA (.int 1)))) (zT (zI gtD (zI ixD (zG 6) (zA (.int 2))) (zA (.int 100)))))) (retG (zA (.str "NoRule"))) qD)
 (qM (ifG (orT (andT (zT (zI eqD (zI ixD (zG 6) (zA (.int 2))) (zA (.int 1)))) (zT (zI neD (zI ixD (zG 6) (zA (.int 1))) (zA (.int 0))))) (andT (zT (zI gtD (zI ixD (zG 6) (zA (.int 2))) (zA (.int 1)))) (zT (zI leD (zI ixD (zG 6) (zA (.int 1))) (zI subD (zI ixD (zG 5) (zA (.int 1))) (zI ixD (zG 5) (zA (.int 0)))))))) (retG (zA (.str "NoRule"))) qD)
 (retG (zI ixD (zG 6) (zA (.int 2))))))))))))))
noncomputable def dJ:List D->Option Ret:=runG iY 7
noncomputable def fE:FS:=(qM (jG 3 (qJ 1 dJ (zF (zG 2) zR)))
 (qM (ifG (testT (isiG "str" (zG 3))) (retG (zG 3)) qD)
 (jG 1 (zI yA (zG 1) (zG 3)))))
noncomputable def hV:FS:=(qM (jG 1 (zA (.int 0)))
 (qM (ifG (zT (zI eqD (zG 0) (zA (.str "")))) (retG (zA (.str "list"))) qD)
 (qM (forG (viaA (mkL (splA (zG 0) (zA (.str "; ")))) asLT) (qL 2) fE)
 (qM (ifG (zT (zI gtD (zG 1) (zA (.int 300)))) (retG (zA (.str "TooMuch"))) qD)
 (retG (zA (.str "list")))))))
noncomputable def lN:List D->Option Ret:=runG hV 4
noncomputable def dY:FS:=(ifG (zT (zI eqD (zG 1) (mkL (compG (rng1 (zA (.int 4))) [none,some 4] (qL 0) (fun _=>some true) (zI eqD (zG 1) (zG 0)))))) (retG (zI ixD (mkL (qI (zF (zA (.str "NoText")) (zF (zA (.str "Empty")) (zF (zA (.str "NoRule")) (zF (zA (.str "TooMuch")) zR)))))) (zG 4))) qD)
noncomputable def mI:FS:=(qM (jG 1 (mkL (qI zR)))
 (qM (jG 2 (zA .non))
 (qM (tryG4 3 1 9 10 11 (jG 2 (qJ 1 kL (zF (zG 0) zR))) (callX 1 cP (zF (zG 0) zR)) (callX 1 cO (zF (zG 0) zR)) (callX 1 bY (zF (zG 0) zR)) (callX 1 cJ (zF (zG 0) zR))
 (jG 1 (mkL (qI (zF (isxG 3 [(1,false),(9,false),(10,false),(11,true)]) (zF (isxG 3 [(1,true),(9,false),(10,false),(11,false)]) (zF (isxG 3 [(1,false),(9,true),(10,false),(11,false)]) (zF (isxG 3 [(1,false),(9,false),(10,true),(11,false)]) zR))))))))
 (qM (forG (rng1 (zA (.int 4))) (qL 4) dY)
 (qM (ifG (andT (zT (zI eqD (zG 1) (mkL (qI zR)))) (testT (isiG "list" (zG 2)))) (retG (zA (.str "list"))) qD)
 (retG (zA (.str "none of these"))))))))
noncomputable def gM:List D->Option Ret:=runG mI 5
noncomputable def mH:FS:=(appG 3 (qJ 5 kW (zF (zG 2) (zF (zI ixD (zG 0) (zG 4)) (zF (zI ixD (zG 0) (zI yA (zG 4) (zA (.int 1)))) (zF (zI ixD (zG 0) (zI yA (zG 4) (zA (.int 2)))) (zF (zI ixD (zG 0) (zI yA (zG 4) (zA (.int 3)))) zR)))))))
noncomputable def nM:FS:=(qM (jG 1 (qJ 2 dL (zF (zG 0) (zF (zA (.int 0)) zR))))
 (qM (jG 2 (qJ 1 lP (zF (qJ 2 dL (zF (zG 0) (zF (zA (.int 1)) zR))) zR)))
 (qM (setOG 3 (qI zR))
 (qM (forG (rng3 (zA (.int 3)) (callB mnD (zF (zI subD (callB lenD (zF (zG 0) zR)) (zA (.int 3))) (zF (zA (.int 23)) zR))) (zA (.int 4))) (qL 4) mH)
 (qM (ifG (zT (zI eqD (zI wB (zG 1) (zA (.int 8))) (zA (.int 1)))) (setOG 3 (catA (qJ 3 gO (zF (zG 2) (zF (zI yA (zA (.int 2)) (zI wB (zI xD (zG 1) (zA (.int 8))) (zA (.int 2)))) (zF (zI wB (zI xD (zG 1) (zA (.int 16))) (zA (.int 3))) zR)))) (mkL (sliA (zG 3) noP (soP (zI wB (zI xD (zG 1) (zA (.int 48))) (zA (.int 2)))))))) qD)
 (qM (jG 5 (zI joinD (zA (.str "; ")) (zG 3)))
 (qM (ifG (zT (zI eqD (zI wB (zI xD (zG 1) (zA (.int 96))) (zA (.int 16))) (zA (.int 3)))) (retG (zI eqD (qJ 1 gM (zF (zI ixD (mkL (qI (zF (zA .non) (zF (zA (.int 7)) (zF (mkL (qI (zF (zA (.str "[1,2)=3")) zR))) (zF (mkT (qI (zF (zA (.str "")) zR))) zR)))))) (zI wB (zI xD (zG 1) (zA (.int 1536))) (zA (.int 4)))) zR)) (zA (.str "NoText")))) qD)
 (qM (jG 5 (qJ 2 iE (zF (zG 5) (zF (qJ 2 dL (zF (zG 0) (zF (zA (.int 2)) zR))) zR))))
 (retG (zI eqD (qJ 1 gM (zF (zG 5) zR)) (qJ 1 lN (zF (zG 5) zR))))))))))))
noncomputable def pV:List D->Option Ret:=runG nM 6
end
namespace K93
open PySem PyProof.Rows L2 FL
noncomputable def top(i:Nat):Stmt:=PySem.Challenge.pw_spanmap_k93_items_refused.main.body.getD i (.Pass ⟨0,0,0,0⟩)
structure Glb(K:Frag)(mg:Str->Option Value):Prop where
 b_all:mg "all" = none
 b_int:mg "int" = none
 b_isinstance:mg "isinstance" = none
 b_len:mg "len" = none
 b_list:mg "list" = none
 b_max:mg "max" = none
 b_min:mg "min" = none
 b_range:mg "range" = none
 b_str:mg "str" = none
 c_FIGURES:∃t,mg "FIGURES" = some (.str "0123456789" t)
 c_MOST_FIGURES:∃t,mg "MOST_FIGURES" = some (.int 60 t)
 c_MOST_TIMES:∃t,mg "MOST_TIMES" = some (.int 100 t)
 c_MOST_TOGETHER:∃t,mg "MOST_TOGETHER" = some (.int 300 t)
 fl_place:FldOk K "place" [(7,0),(8,0)]
 isx_NoText_1_9_10_11:∃D,mg "NoText" = some (.ref D)/\IsxOk K (.ref D) [(1,false),(9,false),(10,false),(11,true)]
 isx_TooMuch_1_9_10_11:∃D,mg "TooMuch" = some (.ref D)/\IsxOk K (.ref D) [(1,false),(9,false),(10,true),(11,false)]
 isx_NoRule_1_9_10_11:∃D,mg "NoRule" = some (.ref D)/\IsxOk K (.ref D) [(1,false),(9,true),(10,false),(11,false)]
 isx_Empty_1_9_10_11:∃D,mg "Empty" = some (.ref D)/\IsxOk K (.ref D) [(1,true),(9,false),(10,false),(11,false)]
theorem pwI{X:Cx}{i:Int}{k:Nat}{p:Pos}: PVw X (.Constant (.int i) k p) (zA (.int i)):=PV.w yN
theorem pnI{X:Cx}{i:Int}{k:Nat}{p:Pos}: PVn X (.Constant (.int i) k p) (zA (.int i)):=PV.n yN
theorem pnV{X:Cx}(i:Nat){x:Str}{pos:Pos}(hN:X.N[i]?=some x:=by rfl)(hv:Vis X.env.scope x:=by first | exact Or.inl rfl | exact Or.inr (Or.inl rfl) | exact Or.inr (Or.inr rfl))(hd:(x==("__debug__" : Str))=false:=by decide)(hcd:(x==("__classdict__" : Str))=false:=by decide):PVn X (.Name x pos) (zG i):=(zB i hN hv hd hcd).n
section
variable{P:Program}{w:World}{K:Frag}{mg:Str->Option Value}{base:Heap}
theorem uV:FnScope ["self"] ["self"] (zH (cV (top 1) 0)):={}
theorem HM{f:Addr}{fd:FuncData}(Fn:Fun K "low" "End.low" (cV (top 1) 0) f fd)(T:Glb K mg): FnOk P w K mg base CX0 1 f fd ["self"] (spF K 1 fM):=by
 have nd:=uV.nd;refine qP (k:=0) (g:=gQ) Fn uV (fun cdv A outer s H E hr=>?_) (fun ds r hl e=>zY e);exact(zD (zV (PV.w qW)))
theorem oE:FnScope ["self"] ["self"] (zH (cV (top 1) 1)):={}
theorem AU{f:Addr}{fd:FuncData}(Fn:Fun K "behind" "End.behind" (cV (top 1) 1) f fd)(T:Glb K mg): FnOk P w K mg base CX0 1 f fd ["self"] (spF K 1 eP):=by
 have nd:=oE.nd;refine qP (k:=0) (g:=fI) Fn oE (fun cdv A outer s H E hr=>?_) (fun ds r hl e=>zY e);exact(zD (zV (PV.w qW)))
theorem mE:FnScope ["self","place"] ["self","place"] (zH (cV (top 2) 0)):={}
theorem pN{f:Addr}{fd:FuncData}(Fn:Fun K "__init__" "Shut.__init__" (cV (top 2) 0) f fd)(T:Glb K mg): FnOk P w K mg base CX0 1 f fd ["self","place"] (spN K 1 ["place"] aN):=by
 have nd:=mE.nd;refine MN (k:=0) (n:=1) (m:=2) (g:=fS) Fn mE (fun cdv A outer s H E hr=>?_) rfl (by decide) rfl;exact(LS (TN (qQ 1)))
theorem sQ:FnScope ["self"] ["self"] (zH (cV (top 2) 1)):={}
theorem EX{f:Addr}{fd:FuncData}(Fn:Fun K "low" "Shut.low" (cV (top 2) 1) f fd)(T:Glb K mg): FnOk P w K mg base CX0 1 f fd ["self"] (spF K 1 lV):=by
 have nd:=sQ.nd;refine qP (k:=0) (g:=lU) Fn sQ (fun cdv A outer s H E hr=>?_) (fun ds r hl e=>zY e);exact(zD (zV (PV.w (EE T.fl_place (qQ 0)))))
theorem nE:FnScope ["self"] ["self"] (zH (cV (top 2) 2)):={}
theorem tM{f:Addr}{fd:FuncData}(Fn:Fun K "behind" "Shut.behind" (cV (top 2) 2) f fd)(T:Glb K mg): FnOk P w K mg base CX0 1 f fd ["self"] (spF K 1 iR):=by
 have nd:=nE.nd;refine qP (k:=0) (g:=iQ) Fn nE (fun cdv A outer s H E hr=>?_) (fun ds r hl e=>zY e);exact(zD (zV (PV.w (zZ (PV.w (EE T.fl_place (qQ 0))) pwI))))
theorem mF:FnScope ["self","place"] ["self","place"] (zH (cV (top 3) 0)):={}
theorem pO{f:Addr}{fd:FuncData}(Fn:Fun K "__init__" "Open.__init__" (cV (top 3) 0) f fd)(T:Glb K mg): FnOk P w K mg base CX0 1 f fd ["self","place"] (spN K 1 ["place"] aN):=by
 have nd:=mF.nd;refine MN (k:=0) (n:=1) (m:=2) (g:=fS) Fn mF (fun cdv A outer s H E hr=>?_) rfl (by decide) rfl;exact(LS (TN (qQ 1)))
theorem sR:FnScope ["self"] ["self"] (zH (cV (top 3) 1)):={}
theorem EY{f:Addr}{fd:FuncData}(Fn:Fun K "low" "Open.low" (cV (top 3) 1) f fd)(T:Glb K mg): FnOk P w K mg base CX0 1 f fd ["self"] (spF K 1 lY):=by
 have nd:=sR.nd;refine qP (k:=0) (g:=lX) Fn sR (fun cdv A outer s H E hr=>?_) (fun ds r hl e=>zY e);exact(zD (zV (PV.w (zZ (PV.w (EE T.fl_place (qQ 0))) pwI))))
theorem nF:FnScope ["self"] ["self"] (zH (cV (top 3) 2)):={}
theorem tN{f:Addr}{fd:FuncData}(Fn:Fun K "behind" "Open.behind" (cV (top 3) 2) f fd)(T:Glb K mg): FnOk P w K mg base CX0 1 f fd ["self"] (spF K 1 iT):=by
 have nd:=nF.nd;refine qP (k:=0) (g:=iS) Fn nF (fun cdv A outer s H E hr=>?_) (fun ds r hl e=>zY e);exact(zD (zV (PV.w (EE T.fl_place (qQ 0)))))
theorem nG:FnScope ["self"] ["self"] (zH (cV (top 4) 0)):={}
theorem tP{f:Addr}{fd:FuncData}(Fn:Fun K "low" "Endless.low" (cV (top 4) 0) f fd)(T:Glb K mg): FnOk P w K mg base CX0 1 f fd ["self"] (spF K 1 fM):=by
 have nd:=nG.nd;refine qP (k:=0) (g:=gQ) Fn nG (fun cdv A outer s H E hr=>?_) (fun ds r hl e=>zY e);exact(zD (zV (PV.w qW)))
theorem lR:FnScope ["self"] ["self"] (zH (cV (top 4) 1)):={}
theorem oO{f:Addr}{fd:FuncData}(Fn:Fun K "behind" "Endless.behind" (cV (top 4) 1) f fd)(T:Glb K mg): FnOk P w K mg base CX0 1 f fd ["self"] (spF K 1 eP):=by
 have nd:=lR.nd;refine qP (k:=0) (g:=fI) Fn lR (fun cdv A outer s H E hr=>?_) (fun ds r hl e=>zY e);exact(zD (zV (PV.w qW)))
theorem nZ:FnScope ["behind","low"] ["behind","low"] (zH (top 15)):={}
theorem AR{f:Addr}{fd:FuncData}(Fn:Fun K "ends_ahead" "ends_ahead" (top 15) f fd)(T:Glb K mg): FnOk P w K mg base CX0 1 f fd ["behind","low"] (spF K 2 cT):=by
 have nd:=nZ.nd;refine qP (k:=0) (g:=kO) Fn nZ (fun cdv A outer s H E hr=>?_) (fun ds r hl e=>zY e);exact(zD (zV (PV.w (EG (GM (pnV 0) (PV.n qW)) (EG (GM (pnV 1) (PV.n qW)) (JB (pv_le (zB 0) (zB 1))))))))
theorem uA:FnScope ["low_end","high_end","low","behind"] ["low_end","high_end"] (zH (top 12)):={}
theorem VL{f:Addr}{fd:FuncData}(Fn:Fun K "span" "span" (top 12) f fd)(T:Glb K mg)(C_ends_ahead:Cal P w K mg base "ends_ahead" 1 2 cT)(M_low:MCal P w K mg base "low" 1 0 [7,8,9,10] cU)(M_behind:MCal P w K mg base "behind" 1 0 [7,8,9,10] bW):FnOk P w K mg base CX0 2 f fd ["low_end","high_end"] (spF K 2 dW):=by
 have nd:=uA.nd;refine qP (k:=1) (g:=oG) Fn uA (fun cdv A outer s H E hr=>?_) (fun ds r hl e=>zY e)
 exact(zC (zS (i:=2) nd (vX M_low hr (qQ 0) ))
  (zC (zS (i:=3) nd (vX M_behind hr (qQ 1) ))
  (zC (zU (PVn.t (PV.n (zO C_ends_ahead hr (zE (pnV 3) (zE (pnV 2) zL))))) (zD qO) zJ)
  (zD (zV (PV.w (yZ (zM (qQ 2) (zM (qQ 3) zW)))))))))
theorem IB{f XC:Addr}(T:Glb K mg)(C_ends_ahead:Cal P w K mg base "ends_ahead" 1 2 cT)(M_low:MCal P w K mg base "low" 1 0 [7,8,9,10] cU)(M_behind:MCal P w K mg base "behind" 1 0 [7,8,9,10] bW)(R:XR K mg 1 XC)(cdv:Value)(A:Around)(outer:List Env)(s:Shared)(H:Hp)(E:XK)(hr:Room 1 (A.deeper (envOfC "span" (zH (top 12)) s.heap.objs.size f cdv))) :
  PSsy (cxOf (CXM P w) P w K mg base ["low_end","high_end","low","behind"] "span" (zH (top 12)) f cdv A outer s H E) E XC (qS (top 12)) iC:=by
 have nd:(["low_end","high_end","low","behind"]:List Str).Nodup:=uA.nd
 exact(qB (zS (i:=2) nd (vX M_low hr (qQ 0) ))
  (qB (zS (i:=3) nd (vX M_behind hr (qQ 1) ))
  (qG (xK (PVn.t (PV.n (zO C_ends_ahead hr (zE (pnV 3) (zE (pnV 2) zL))))) (qG (PSx.y (jY R.cls R.gl))
  qH) (qZ qH))
  qH)))
theorem HJ{f XC:Addr}{fd:FuncData}(Fn:Fun K "span" "span" (top 12) f fd)(T:Glb K mg)(C_ends_ahead:Cal P w K mg base "ends_ahead" 1 2 cT)(M_low:MCal P w K mg base "low" 1 0 [7,8,9,10] cU)(M_behind:MCal P w K mg base "behind" 1 0 [7,8,9,10] bW)(R:XR K mg 1 XC):FnOk P w K mg base (CXM P w) 2 f fd ["low_end","high_end"] (spX K 2 eB XC):=
 yL (k:=1) (g:=iC) Fn uA (fun cdv A outer s H E hr=>IB T C_ends_ahead M_low M_behind R cdv A outer s H E hr) (fun ds hl e=>e)
theorem oY:FnScope ["one","other"] ["one","other"] (zH (top 16)):={}
theorem BR{f:Addr}{fd:FuncData}(Fn:Fun K "later_low" "later_low" (top 16) f fd)(T:Glb K mg): FnOk P w K mg base CX0 1 f fd ["one","other"] (spF K 2 gI):=by
 have nd:=oY.nd;refine qP (k:=0) (g:=lI) Fn oY (fun cdv A outer s H E hr=>?_) (fun ds r hl e=>zY e)
 exact(zC (zU (nI (pnV 0) (PV.n qW)) (zD (zV (zB 1))) zJ)
  (zC (zU (nI (pnV 1) (PV.n qW)) (zD (zV (zB 0))) zJ)
  (zD (zV (PV.w (YD rfl T.b_max (zQ (zB 0) (zQ (zB 1) qE))))))))
theorem lQ:FnScope ["one","other"] ["one","other"] (zH (top 17)):={}
theorem oN{f:Addr}{fd:FuncData}(Fn:Fun K "earlier_behind" "earlier_behind" (top 17) f fd)(T:Glb K mg): FnOk P w K mg base CX0 1 f fd ["one","other"] (spF K 2 eO):=by
 have nd:=lQ.nd;refine qP (k:=0) (g:=gS) Fn lQ (fun cdv A outer s H E hr=>?_) (fun ds r hl e=>zY e)
 exact(zC (zU (nI (pnV 0) (PV.n qW)) (zD (zV (zB 1))) zJ)
  (zC (zU (nI (pnV 1) (PV.n qW)) (zD (zV (zB 0))) zJ)
  (zD (zV (PV.w (LH rfl T.b_min (zQ (zB 0) (zQ (zB 1) qE))))))))
theorem LC:FnScope ["one","other","low","behind"] ["one","other"] (zH (top 13)):={}
theorem VM{f:Addr}{fd:FuncData}(Fn:Fun K "meet" "meet" (top 13) f fd)(T:Glb K mg)(C_later_low:Cal P w K mg base "later_low" 1 2 gI)(C_earlier_behind:Cal P w K mg base "earlier_behind" 1 2 eO)(C_ends_ahead:Cal P w K mg base "ends_ahead" 1 2 cT):FnOk P w K mg base CX0 2 f fd ["one","other"] (spF K 2 lF):=by
 have nd:=LC.nd;refine qP (k:=1) (g:=pW) Fn LC (fun cdv A outer s H E hr=>?_) (fun ds r hl e=>zY e)
 exact(zC (zS (i:=2) nd (zO C_later_low hr (zE (PV.n (qA (zB 0) pwI)) (zE (PV.n (qA (zB 1) pwI)) zL))))
  (zC (zS (i:=3) nd (zO C_earlier_behind hr (zE (PV.n (qA (zB 0) pwI)) (zE (PV.n (qA (zB 1) pwI)) zL))))
  (zC (zU (PVn.t (PV.n (zO C_ends_ahead hr (zE (pnV 3) (zE (pnV 2) zL))))) (zD (zV (PV.w qW))) zJ)
  (zD (zV (PV.w (yZ (zM (qQ 2) (zM (qQ 3) zW)))))))))
theorem CJ:FnScope ["one"] ["one"] (zH (top 14)):={}
theorem KC{f:Addr}{fd:FuncData}(Fn:Fun K "length" "length" (top 14) f fd)(T:Glb K mg): FnOk P w K mg base CX0 1 f fd ["one"] (spF K 1 cY):=by
 have nd:=CJ.nd;refine qP (k:=0) (g:=mY) Fn CJ (fun cdv A outer s H E hr=>?_) (fun ds r hl e=>zY e)
 exact(zC (zU (PWv.t (jN (nI (PV.n (qA (zB 0) pwI)) (PV.n qW)) (jL (nI (PV.n (qA (zB 0) pwI)) (PV.n qW))))) (zD (zV (PV.w qW))) zJ)
  (zD (zV (PV.w (yT (PV.w (qA (zB 0) pwI)) (PV.w (qA (zB 0) pwI)))))))
theorem LD:FnScope ["rows","pieces","low","behind","value"] ["rows"] (zH (top 19)):={}
theorem VN{f:Addr}{fd:FuncData}(Fn:Fun K "knit" "knit" (top 19) f fd)(T:Glb K mg): FnOk P w K mg base CX0 1 f fd ["rows"] (spF K 1 lG):=by
 have nd:=LD.nd;refine qP (k:=0) (g:=pX) Fn LD (fun cdv A outer s H E hr=>?_) (fun ds r hl e=>zY e)
 exact(zC (yC (i:=1) nd (qK zW))
  (zC (xI PassesOwn.never rfl (yM (qQ 0)) (pF (n:=3) rfl (jD (qF (i:=2) nd) (jD (qF (i:=3) nd) (jD (qF (i:=4) nd) wU)))) (zC (zU (nI (pnV 4) (PV.n qW)) (zD EJ) zJ)
  (zD (zU (PWv.t (xJ (PVn.t (pnV 1)) (xJ (jQ hr (PV.n (qA (PV.w (qA (zB 1) (PV.w (xG yN)))) pwI)) (pnV 2)) (xH (jQ hr (PV.n (qA (PV.w (qA (zB 1) (PV.w (xG yN)))) pwI)) (pnV 4)))))) (zD (YG (i:=1) (yZ (zM (qA (PV.w (qA (zB 1) (PV.w (xG yN)))) pwI) (zM (qQ 3) (zM (qQ 4) zW)))) (xG yN))) (zD (kA (i:=1) (yZ (zM (qQ 2) (zM (qQ 3) (zM (qQ 4) zW))))))))))
  (zD (vR 1))))
theorem sN:FnScope ["pieces","within","parts","low","behind","value","common"] ["pieces","within"] (zH (top 21)):={}
theorem EU{f:Addr}{fd:FuncData}(Fn:Fun K "parts_in" "parts_in" (top 21) f fd)(T:Glb K mg)(C_meet:Cal P w K mg base "meet" 2 2 lF):FnOk P w K mg base CX0 3 f fd ["pieces","within"] (spF K 2 eW):=by
 have nd:=sN.nd;refine qP (k:=2) (g:=lS) Fn sN (fun cdv A outer s H E hr=>?_) (fun ds r hl e=>zY e)
 exact(zC (yC (i:=2) nd (qK zW))
  (zC (xI PassesOwn.never rfl (yM (qQ 0)) (pF (n:=3) rfl (jD (qF (i:=3) nd) (jD (qF (i:=4) nd) (jD (qF (i:=5) nd) wU)))) (zC (zS (i:=6) nd (zO C_meet hr (zE (PV.n (yZ (zM (qQ 3) (zM (qQ 4) zW)))) (zE (pnV 1) zL))))
  (zD (zU (wR (pnV 6) (PV.n qW)) (zD (kA (i:=2) (yZ (zM (qA (zB 6) pwI) (zM (qA (zB 6) pwI) (zM (qQ 5) zW)))))) zJ))))
  (zD (vR 2))))
theorem oX:FnScope ["pieces","over","value","rows"] ["pieces","over","value"] (zH (top 22)):={}
theorem BP{f:Addr}{fd:FuncData}(Fn:Fun K "rows_over" "rows_over" (top 22) f fd)(T:Glb K mg)(C_parts_in:Cal P w K mg base "parts_in" 3 2 eW):FnOk P w K mg base CX0 4 f fd ["pieces","over","value"] (spF K 3 fK):=by
 have nd:=oX.nd;refine qP (k:=3) (g:=lH) Fn oX (fun cdv A outer s H E hr=>?_) (fun ds r hl e=>zY e)
 exact(zC (yC (i:=3) nd (qK zW))
  (zC (zU (wR (PV.n (qA (zB 1) pwI)) (PV.n qW)) (zD (wE (i:=3) (jV C_parts_in hr (zE (pnV 0) (zE (PV.n (yZ (zM qW (zM (qA (zB 1) pwI) zW)))) zL))))) zJ)
  (zC (kA (i:=3) (yZ (zM (qA (zB 1) pwI) (zM (qA (zB 1) pwI) (zM (qQ 2) zW)))))
  (zC (zU (wR (PV.n (qA (zB 1) pwI)) (PV.n qW)) (zD (wE (i:=3) (jV C_parts_in hr (zE (pnV 0) (zE (PV.n (yZ (zM (qA (zB 1) pwI) (zM qW zW)))) zL))))) zJ)
  (zD (vR 3))))))
theorem CK:FnScope ["rows","pieces","over","value"] ["rows"] (zH (top 20)):={}
theorem KD{f:Addr}{fd:FuncData}(Fn:Fun K "formed" "formed" (top 20) f fd)(T:Glb K mg)(C_knit:Cal P w K mg base "knit" 1 1 lG)(C_rows_over:Cal P w K mg base "rows_over" 4 3 fK):FnOk P w K mg base CX0 5 f fd ["rows"] (spF K 1 gJ):=by
 have nd:=CK.nd;refine qP (k:=4) (g:=mZ) Fn CK (fun cdv A outer s H E hr=>?_) (fun ds r hl e=>zY e)
 exact(zC (yC (i:=1) nd (qK zW))
  (zC (xI PassesOwn.never rfl (yM (qQ 0)) (pF (n:=2) rfl (jD (qF (i:=2) nd) (jD (qF (i:=3) nd) wU))) (zD (yC (i:=1) nd (jV C_knit hr (zE (PV.n (zO C_rows_over hr (zE (pnV 1) (zE (pnV 2) (zE (pnV 3) zL))))) zL)))))
  (zD (vR 1))))
theorem uU:FnScope ["rule","wide","step","times"] ["rule"] (zH (top 29)):={}
theorem HL{f:Addr}{fd:FuncData}(Fn:Fun K "is_rule" "is_rule" (top 29) f fd)(T:Glb K mg): FnOk P w K mg base CX0 1 f fd ["rule"] (spF K 1 eS):=by
 have nd:=uU.nd;refine qP (k:=0) (g:=mJ) Fn uU (fun cdv A outer s H E hr=>?_) (fun ds r hl e=>zY e)
 exact(zC (zS (i:=1) nd (yT (PV.w (qA (zB 0) pwI)) (PV.w (qA (zB 0) pwI))))
  (zC (zS (i:=2) nd (qA (zB 0) pwI))
  (zC (zS (i:=3) nd (qA (zB 0) pwI))
  (zC (zU (PWv.t (jN (CO (zB 1) pwI) (jN (CO (zB 3) pwI) (jL (sS (zB 3) (PV.w (vT T.c_MOST_TIMES))))))) (zD (zV (PV.w LM))) zJ)
  (zD (zV (PV.w (pv_if (jQ hr (pnV 3) pnI) (oF hr (pnV 2) pnI) (pv_gt (zB 2) (zB 1))))))))))
theorem kZ:FnScope ["rule","step"] ["rule"] (zH (top 26)):={}
theorem BN{f:Addr}{fd:FuncData}(Fn:Fun K "stretches" "stretches" (top 26) f fd)(T:Glb K mg)(C_is_rule:Cal P w K mg base "is_rule" 1 1 eS):FnOk P w K mg base CX0 2 f fd ["rule"] (spF K 1 dF):=by
 have nd:=kZ.nd;have nI0:(["number","rule","step"]:List Str).Nodup:=by decide +kernel
 refine qP (k:=1) (g:=iF) Fn kZ (fun cdv A outer s H E hr=>?_) (fun ds r hl e=>zY e)
 exact(zC (zU (jC (PVn.t (PV.n (zO C_is_rule hr (zE (pnV 0) zL))))) (zD qO) zJ)
  (zC (zS (i:=1) nd (qA (zB 0) pwI))
  (zD (qX (vY (NY:=["number","rule","step"]) (mp:=[none,some 0,some 1]) (jU (by kernel_rfl)) rfl (xX T.b_range (qA (zB 0) pwI)) (fun c=>(qF (i:=0) nI0)) (fun c=>xN) (fun c=>(yZ (zM (zZ (PV.w (qA (zB 1) pwI)) (PV.w (pE (zB 0) (zB 2)))) (zM (zZ (PV.w (qA (zB 1) pwI)) (PV.w (pE (zB 0) (zB 2)))) zW)))))))))
theorem sF{f XC:Addr}(T:Glb K mg)(C_is_rule:Cal P w K mg base "is_rule" 1 1 eS)(R:XR K mg 9 XC)(cdv:Value)(A:Around)(outer:List Env)(s:Shared)(H:Hp)(E:XK)(hr:Room 1 (A.deeper (envOfC "stretches" (zH (top 26)) s.heap.objs.size f cdv))) :
  PSsy (cxOf (CXM P w) P w K mg base ["rule","step"] "stretches" (zH (top 26)) f cdv A outer s H E) E XC (qS (top 26)) eM:=by
 have nd:(["rule","step"]:List Str).Nodup:=kZ.nd
 exact(qG (xK (jC (PVn.t (PV.n (zO C_is_rule hr (zE (pnV 0) zL))))) (qG (PSx.y (jY R.cls R.gl))
  qH) (qZ qH))
  qH)
theorem rR{f XC:Addr}{fd:FuncData}(Fn:Fun K "stretches" "stretches" (top 26) f fd)(T:Glb K mg)(C_is_rule:Cal P w K mg base "is_rule" 1 1 eS)(R:XR K mg 9 XC):FnOk P w K mg base (CXM P w) 2 f fd ["rule"] (spX K 1 cI XC):=
 yL (k:=1) (g:=eM) Fn kZ (fun cdv A outer s H E hr=>sF T C_is_rule R cdv A outer s H E hr) (fun ds hl e=>e)
theorem lC:FnScope ["rule"] ["rule"] (zH (top 27)):={}
theorem BO{f:Addr}{fd:FuncData}(Fn:Fun K "rule_rows" "rule_rows" (top 27) f fd)(T:Glb K mg)(C_stretches:Cal P w K mg base "stretches" 2 1 dF):FnOk P w K mg base CX0 3 f fd ["rule"] (spF K 1 cS):=by
 have nd:=lC.nd;have nI0:(["stretch","rule"]:List Str).Nodup:=by decide +kernel
 refine qP (k:=2) (g:=iG) Fn lC (fun cdv A outer s H E hr=>?_) (fun ds r hl e=>zY e);exact(zD (qX (vY (NY:=["stretch","rule"]) (mp:=[none,some 0]) (jU (by kernel_rfl)) rfl (yM (zO C_stretches hr (zE (pnV 0) zL))) (fun c=>(qF (i:=0) nI0)) (fun c=>xN) (fun c=>(yZ (zM (qQ 0) (zM (qA (zB 1) pwI) zW)))))))
theorem sG{f XC:Addr}(T:Glb K mg)(C_stretches:Cal P w K mg base "stretches" 2 1 dF)(CX_stretches_9:CalX P w K mg base "stretches" 2 1 cI XC)(cdv:Value)(A:Around)(outer:List Env)(s:Shared)(H:Hp)(E:XK)(hr:Room 2 (A.deeper (envOfC "rule_rows" (zH (top 27)) s.heap.objs.size f cdv))) :
  PSsy (cxOf (CXM P w) P w K mg base ["rule"] "rule_rows" (zH (top 27)) f cdv A outer s H E) E XC (qS (top 27)) eN:=by
 have nd:(["rule"]:List Str).Nodup:=lC.nd;have nI0:(["stretch","rule"]:List Str).Nodup:=by decide +kernel
 exact(qG (xW (TV (NY:=["stretch","rule"]) (mp:=[none,some 0]) (jU (by kernel_rfl)) rfl (jJ yU CX_stretches_9 hr (zE (pnV 0) zL)) (fun c=>(qF (i:=0) nI0)) (fun c=>xN) (fun c=>(yZ (zM (qQ 0) (zM (qA (zB 1) pwI) zW))))))
  qH)
theorem rT{f XC:Addr}{fd:FuncData}(Fn:Fun K "rule_rows" "rule_rows" (top 27) f fd)(T:Glb K mg)(C_stretches:Cal P w K mg base "stretches" 2 1 dF)(CX_stretches_9:CalX P w K mg base "stretches" 2 1 cI XC):FnOk P w K mg base (CXM P w) 3 f fd ["rule"] (spX K 1 bP XC):=
 yL (k:=2) (g:=eN) Fn lC (fun cdv A outer s H E hr=>sG T C_stretches CX_stretches_9 cdv A outer s H E hr) (fun ds hl e=>e)
theorem lE:FnScope ["rows"] ["rows"] (zH (top 28)):={}
theorem BS{f:Addr}{fd:FuncData}(Fn:Fun K "laid_rows" "laid_rows" (top 28) f fd)(T:Glb K mg)(C_formed:Cal P w K mg base "formed" 5 1 gJ):FnOk P w K mg base CX0 6 f fd ["rows"] (spF K 1 cE):=by
 have nd:=lE.nd;refine qP (k:=5) (g:=iJ) Fn lE (fun cdv A outer s H E hr=>?_) (fun ds r hl e=>zY e)
 exact(zC (zU (sS (PV.w (jM T.b_len (zQ (zB 0) qE))) (PV.w (vT T.c_MOST_TOGETHER))) (zD qO) zJ)
  (zD (qX (jV C_formed hr (zE (pnV 0) zL)))))
theorem pQ{f XC:Addr}(T:Glb K mg)(C_formed:Cal P w K mg base "formed" 5 1 gJ)(R:XR K mg 10 XC)(cdv:Value)(A:Around)(outer:List Env)(s:Shared)(H:Hp)(E:XK)(hr:Room 5 (A.deeper (envOfC "laid_rows" (zH (top 28)) s.heap.objs.size f cdv))) :
  PSsy (cxOf (CXM P w) P w K mg base ["rows"] "laid_rows" (zH (top 28)) f cdv A outer s H E) E XC (qS (top 28)) eF:=by
 have nd:(["rows"]:List Str).Nodup:=lE.nd
 exact(qG (xK (sS (PV.w (jM T.b_len (zQ (zB 0) qE))) (PV.w (vT T.c_MOST_TOGETHER))) (qG (PSx.y (jY R.cls R.gl))
  qH) (qZ qH))
  qH)
theorem pJ{f XC:Addr}{fd:FuncData}(Fn:Fun K "laid_rows" "laid_rows" (top 28) f fd)(T:Glb K mg)(C_formed:Cal P w K mg base "formed" 5 1 gJ)(R:XR K mg 10 XC):FnOk P w K mg base (CXM P w) 6 f fd ["rows"] (spX K 1 cC XC):=
 yL (k:=5) (g:=eF) Fn lE (fun cdv A outer s H E hr=>pQ T C_formed R cdv A outer s H E hr) (fun ds hl e=>e)
theorem oZ:FnScope ["text","figures"] ["text"] (zH (top 35)):={}
theorem BU{f:Addr}{fd:FuncData}(Fn:Fun K "is_number" "is_number" (top 35) f fd)(T:Glb K mg): FnOk P w K mg base CX0 1 f fd ["text"] (spF K 1 eZ):=by
 have nd:=oZ.nd;have nI0:(["sign"]:List Str).Nodup:=by decide +kernel
 refine qP (k:=0) (g:=lK) Fn oZ (fun cdv A outer s H E hr=>?_) (fun ds r hl e=>zY e)
 exact(zC (zU (jC (PVn.t (PV.n (xS T.b_isinstance T.b_str (by decide +kernel) (zB 0))))) (zD (zV (PV.w LM))) zJ)
  (zC (zS (i:=1) nd (pv_if (PVn.t (PV.n (oH (zB 0) (PV.w zP)))) (yF (zB 0) (jB pwI) jO) (qQ 0)))
  (zC (zU (PWv.t (jN (CO (PV.w (jM T.b_len (zQ (zB 1) qE))) pwI) (jL (sS (PV.w (jM T.b_len (zQ (zB 1) qE))) (PV.w (vT T.c_MOST_FIGURES)))))) (zD (zV (PV.w LM))) zJ)
  (zC (zU (jC (PVn.t (PV.n (pv_all rfl T.b_all (zQ (PV.w (PVf.s (vY (NY:=["sign"]) (mp:=[none]) (jU (by kernel_rfl)) rfl (LR (qQ 1)) (fun c=>(qF (i:=0) nI0)) (fun c=>xN) (fun c=>(JC OF os_inS (zB 0) (PV.w (SV T.c_FIGURES)) rfl))))) qE))))) (zD (zV (PV.w LM))) zJ)
  (zD (zV (PV.w (pv_or (pv_ne hr (PV.n (qA (zB 1) pwI)) (PV.n zP)) (JB (oF hr (pnV 0) (PV.n zP)))))))))))
theorem iK:FnScope ["text"] ["text"] (zH (top 33)):={}
theorem tJ{f:Addr}{fd:FuncData}(Fn:Fun K "read_number" "read_number" (top 33) f fd)(T:Glb K mg)(C_is_number:Cal P w K mg base "is_number" 1 1 eZ):FnOk P w K mg base CX0 2 f fd ["text"] (spF K 1 aK):=by
 have nd:=iK.nd;refine qP (k:=1) (g:=gP) Fn iK (fun cdv A outer s H E hr=>?_) (fun ds r hl e=>zY e)
 exact(zC (zU (jC (PVn.t (PV.n (zO C_is_number hr (zE (pnV 0) zL))))) (zD qO) zJ)
  (zD (zV (PV.w (LI T.b_int (zQ (zB 0) qE))))))
theorem nV{f XC:Addr}(T:Glb K mg)(C_is_number:Cal P w K mg base "is_number" 1 1 eZ)(R:XR K mg 11 XC)(cdv:Value)(A:Around)(outer:List Env)(s:Shared)(H:Hp)(E:XK)(hr:Room 1 (A.deeper (envOfC "read_number" (zH (top 33)) s.heap.objs.size f cdv))) :
  PSsy (cxOf (CXM P w) P w K mg base ["text"] "read_number" (zH (top 33)) f cdv A outer s H E) E XC (qS (top 33)) eR:=by
 have nd:(["text"]:List Str).Nodup:=iK.nd
 exact(qG (xK (jC (PVn.t (PV.n (zO C_is_number hr (zE (pnV 0) zL))))) (qG (PSx.y (jY R.cls R.gl))
  qH) (qZ qH))
  qH)
theorem nU{f XC:Addr}{fd:FuncData}(Fn:Fun K "read_number" "read_number" (top 33) f fd)(T:Glb K mg)(C_is_number:Cal P w K mg base "is_number" 1 1 eZ)(R:XR K mg 11 XC):FnOk P w K mg base (CXM P w) 2 f fd ["text"] (spX K 1 aS XC):=
 yL (k:=1) (g:=eR) Fn iK (fun cdv A outer s H E hr=>nV T C_is_number R cdv A outer s H E hr) (fun ds hl e=>e)
theorem gZ:FnScope ["text"] ["text"] (zH (top 37)):={}
theorem rZ{f:Addr}{fd:FuncData}(Fn:Fun K "read_low_end" "read_low_end" (top 37) f fd)(T:Glb K mg)(C_read_number:Cal P w K mg base "read_number" 2 1 aK)(Mk_Endless:MkP K mg 9)(Mk_Shut:MkC P w K mg base 7 1 1 aN)(Mk_Open:MkC P w K mg base 8 1 1 aN):FnOk P w K mg base CX0 3 f fd ["text"] (spF K 1 dD):=by
 have nd:=gZ.nd;refine qP (k:=2) (g:=iH) Fn gZ (fun cdv A outer s H E hr=>?_) (fun ds r hl e=>zY e)
 exact(zC (zU (jQ hr (pnV 0) (PV.n zP)) (zD (yJ (wY Mk_Endless))) zJ)
  (zC (zU (PVn.t (PV.n (oH (zB 0) (PV.w zP)))) (zD (yJ (xF Mk_Shut hr (zE (PV.n (zO C_read_number hr (zE (PV.n (yF (zB 0) (jB pwI) jO)) zL))) zL)))) zJ)
  (zC (zU (PVn.t (PV.n (oH (zB 0) (PV.w zP)))) (zD (yJ (xF Mk_Open hr (zE (PV.n (zO C_read_number hr (zE (PV.n (yF (zB 0) (jB pwI) jO)) zL))) zL)))) zJ)
  (zD qO))))
theorem nL{f XC:Addr}(T:Glb K mg)(C_read_number:Cal P w K mg base "read_number" 2 1 aK)(Mk_Endless:MkP K mg 9)(Mk_Shut:MkC P w K mg base 7 1 1 aN)(Mk_Open:MkC P w K mg base 8 1 1 aN)(R:XR K mg 11 XC)(CX_read_number_11:CalX P w K mg base "read_number" 2 1 aS XC)(cdv:Value)(A:Around)(outer:List Env)(s:Shared)(H:Hp)(E:XK)(hr:Room 2 (A.deeper (envOfC "read_low_end" (zH (top 37)) s.heap.objs.size f cdv))) :
  PSsy (cxOf (CXM P w) P w K mg base ["text"] "read_low_end" (zH (top 37)) f cdv A outer s H E) E XC (qS (top 37)) eJ:=by
 have nd:(["text"]:List Str).Nodup:=gZ.nd
 exact(qB (zU (jQ hr (pnV 0) (PV.n zP)) (zD (yJ (wY Mk_Endless))) zJ)
  (jW (xK (PVn.t (PV.n (oH (zB 0) (PV.w zP)))) (qG (xW (wK Mk_Shut hr (jJ yU CX_read_number_11 hr (zE (PV.n (yF (zB 0) (jB pwI) jO)) zL))))
  qH) (qZ qH))
  (zU (PVn.t (PV.n (oH (zB 0) (PV.w zP)))) (zD (yJ (xF Mk_Shut hr (zE (PV.n (zO C_read_number hr (zE (PV.n (yF (zB 0) (jB pwI) jO)) zL))) zL)))) zJ)
  (jW (xK (PVn.t (PV.n (oH (zB 0) (PV.w zP)))) (qG (xW (wK Mk_Open hr (jJ yU CX_read_number_11 hr (zE (PV.n (yF (zB 0) (jB pwI) jO)) zL))))
  qH) (qZ qH))
  (zU (PVn.t (PV.n (oH (zB 0) (PV.w zP)))) (zD (yJ (xF Mk_Open hr (zE (PV.n (zO C_read_number hr (zE (PV.n (yF (zB 0) (jB pwI) jO)) zL))) zL)))) zJ)
  (qG (PSx.y (jY R.cls R.gl))
  qH))))
theorem nK{f XC:Addr}{fd:FuncData}(Fn:Fun K "read_low_end" "read_low_end" (top 37) f fd)(T:Glb K mg)(C_read_number:Cal P w K mg base "read_number" 2 1 aK)(Mk_Endless:MkP K mg 9)(Mk_Shut:MkC P w K mg base 7 1 1 aN)(Mk_Open:MkC P w K mg base 8 1 1 aN)(R:XR K mg 11 XC)(CX_read_number_11:CalX P w K mg base "read_number" 2 1 aS XC):FnOk P w K mg base (CXM P w) 3 f fd ["text"] (spX K 1 cK XC):=
 yL (k:=2) (g:=eJ) Fn gZ (fun cdv A outer s H E hr=>nL T C_read_number Mk_Endless Mk_Shut Mk_Open R CX_read_number_11 cdv A outer s H E hr) (fun ds hl e=>e)
theorem gR:FnScope ["text"] ["text"] (zH (top 38)):={}
theorem pL{f:Addr}{fd:FuncData}(Fn:Fun K "read_high_end" "read_high_end" (top 38) f fd)(T:Glb K mg)(C_read_number:Cal P w K mg base "read_number" 2 1 aK)(Mk_Endless:MkP K mg 9)(Mk_Shut:MkC P w K mg base 7 1 1 aN)(Mk_Open:MkC P w K mg base 8 1 1 aN):FnOk P w K mg base CX0 3 f fd ["text"] (spF K 1 dH):=by
 have nd:=gR.nd;refine qP (k:=2) (g:=hO) Fn gR (fun cdv A outer s H E hr=>?_) (fun ds r hl e=>zY e)
 exact(zC (zU (jQ hr (pnV 0) (PV.n zP)) (zD (yJ (wY Mk_Endless))) zJ)
  (zC (zU (PVn.t (PV.n (rH (zB 0) (PV.w zP)))) (zD (yJ (xF Mk_Shut hr (zE (PV.n (zO C_read_number hr (zE (PV.n (yF (zB 0) jO (jB (PV.w (xG yN))))) zL))) zL)))) zJ)
  (zC (zU (PVn.t (PV.n (rH (zB 0) (PV.w zP)))) (zD (yJ (xF Mk_Open hr (zE (PV.n (zO C_read_number hr (zE (PV.n (yF (zB 0) jO (jB (PV.w (xG yN))))) zL))) zL)))) zJ)
  (zD qO))))
theorem mT{f XC:Addr}(T:Glb K mg)(C_read_number:Cal P w K mg base "read_number" 2 1 aK)(Mk_Endless:MkP K mg 9)(Mk_Shut:MkC P w K mg base 7 1 1 aN)(Mk_Open:MkC P w K mg base 8 1 1 aN)(R:XR K mg 11 XC)(CX_read_number_11:CalX P w K mg base "read_number" 2 1 aS XC)(cdv:Value)(A:Around)(outer:List Env)(s:Shared)(H:Hp)(E:XK)(hr:Room 2 (A.deeper (envOfC "read_high_end" (zH (top 38)) s.heap.objs.size f cdv))) :
  PSsy (cxOf (CXM P w) P w K mg base ["text"] "read_high_end" (zH (top 38)) f cdv A outer s H E) E XC (qS (top 38)) dX:=by
 have nd:(["text"]:List Str).Nodup:=gR.nd
 exact(qB (zU (jQ hr (pnV 0) (PV.n zP)) (zD (yJ (wY Mk_Endless))) zJ)
  (jW (xK (PVn.t (PV.n (rH (zB 0) (PV.w zP)))) (qG (xW (wK Mk_Shut hr (jJ yU CX_read_number_11 hr (zE (PV.n (yF (zB 0) jO (jB (PV.w (xG yN))))) zL))))
  qH) (qZ qH))
  (zU (PVn.t (PV.n (rH (zB 0) (PV.w zP)))) (zD (yJ (xF Mk_Shut hr (zE (PV.n (zO C_read_number hr (zE (PV.n (yF (zB 0) jO (jB (PV.w (xG yN))))) zL))) zL)))) zJ)
  (jW (xK (PVn.t (PV.n (rH (zB 0) (PV.w zP)))) (qG (xW (wK Mk_Open hr (jJ yU CX_read_number_11 hr (zE (PV.n (yF (zB 0) jO (jB (PV.w (xG yN))))) zL))))
  qH) (qZ qH))
  (zU (PVn.t (PV.n (rH (zB 0) (PV.w zP)))) (zD (yJ (xF Mk_Open hr (zE (PV.n (zO C_read_number hr (zE (PV.n (yF (zB 0) jO (jB (PV.w (xG yN))))) zL))) zL)))) zJ)
  (qG (PSx.y (jY R.cls R.gl))
  qH))))
theorem mS{f XC:Addr}{fd:FuncData}(Fn:Fun K "read_high_end" "read_high_end" (top 38) f fd)(T:Glb K mg)(C_read_number:Cal P w K mg base "read_number" 2 1 aK)(Mk_Endless:MkP K mg 9)(Mk_Shut:MkC P w K mg base 7 1 1 aN)(Mk_Open:MkC P w K mg base 8 1 1 aN)(R:XR K mg 11 XC)(CX_read_number_11:CalX P w K mg base "read_number" 2 1 aS XC):FnOk P w K mg base (CXM P w) 3 f fd ["text"] (spX K 1 cG XC):=
 yL (k:=2) (g:=dX) Fn gR (fun cdv A outer s H E hr=>mT T C_read_number Mk_Endless Mk_Shut Mk_Open R CX_read_number_11 cdv A outer s H E hr) (fun ds hl e=>e)
theorem lD:FnScope ["text","sides"] ["text"] (zH (top 36)):={}
theorem BQ{f:Addr}{fd:FuncData}(Fn:Fun K "read_ends" "read_ends" (top 36) f fd)(T:Glb K mg)(C_read_low_end:Cal P w K mg base "read_low_end" 3 1 dD)(C_read_high_end:Cal P w K mg base "read_high_end" 3 1 dH):FnOk P w K mg base CX0 4 f fd ["text"] (spF K 1 bJ):=by
 have nd:=lD.nd;refine qP (k:=3) (g:=iI) Fn lD (fun cdv A outer s H E hr=>?_) (fun ds r hl e=>zY e)
 exact(zC (zU (jC (PVn.t (PV.n (xS T.b_isinstance T.b_str (by decide +kernel) (zB 0))))) (zD qO) zJ)
  (zC (zS (i:=1) nd (PVf.s (qU (zB 0) (PV.w zP))))
  (zC (zU (wH hr (PV.n (jM T.b_len (zQ (zB 1) qE))) pnI) (zD qO) zJ)
  (zD (TD (YC (GT (PVd.e (CN C_read_low_end hr (zE (PV.n (qA (zB 1) pwI)) zL))) (GT (PVd.e (CN C_read_high_end hr (zE (PV.n (qA (zB 1) pwI)) zL))) YS))))))))
theorem pP{f XC:Addr}(T:Glb K mg)(C_read_low_end:Cal P w K mg base "read_low_end" 3 1 dD)(C_read_high_end:Cal P w K mg base "read_high_end" 3 1 dH)(R:XR K mg 11 XC)(CX_read_low_end_11:CalX P w K mg base "read_low_end" 3 1 cK XC)(CX_read_high_end_11:CalX P w K mg base "read_high_end" 3 1 cG XC)(cdv:Value)(A:Around)(outer:List Env)(s:Shared)(H:Hp)(E:XK)(hr:Room 3 (A.deeper (envOfC "read_ends" (zH (top 36)) s.heap.objs.size f cdv))) :
  PSsy (cxOf (CXM P w) P w K mg base ["text","sides"] "read_ends" (zH (top 36)) f cdv A outer s H E) E XC (qS (top 36)) eE:=by
 have nd:(["text","sides"]:List Str).Nodup:=lD.nd
 exact(jW (xK (jC (PVn.t (PV.n (xS T.b_isinstance T.b_str (by decide +kernel) (zB 0))))) (qG (PSx.y (jY R.cls R.gl))
  qH) (qZ qH))
  (zU (jC (PVn.t (PV.n (xS T.b_isinstance T.b_str (by decide +kernel) (zB 0))))) (zD qO) zJ)
  (qB (zS (i:=1) nd (PVf.s (qU (zB 0) (PV.w zP))))
  (jW (xK (wH hr (PV.n (jM T.b_len (zQ (zB 1) qE))) pnI) (qG (PSx.y (jY R.cls R.gl))
  qH) (qZ qH))
  (zU (wH hr (PV.n (jM T.b_len (zQ (zB 1) qE))) pnI) (zD qO) zJ)
  (qG (xW (TU (jJ yU CX_read_low_end_11 hr (zE (PV.n (qA (zB 1) pwI)) zL)) (zO C_read_low_end hr (zE (PV.n (qA (zB 1) pwI)) zL)) (jJ yU CX_read_high_end_11 hr (zE (PV.n (qA (zB 1) pwI)) zL))))
  qH))))
theorem pI{f XC:Addr}{fd:FuncData}(Fn:Fun K "read_ends" "read_ends" (top 36) f fd)(T:Glb K mg)(C_read_low_end:Cal P w K mg base "read_low_end" 3 1 dD)(C_read_high_end:Cal P w K mg base "read_high_end" 3 1 dH)(R:XR K mg 11 XC)(CX_read_low_end_11:CalX P w K mg base "read_low_end" 3 1 cK XC)(CX_read_high_end_11:CalX P w K mg base "read_high_end" 3 1 cG XC):FnOk P w K mg base (CXM P w) 4 f fd ["text"] (spX K 1 bH XC):=
 yL (k:=3) (g:=eE) Fn lD (fun cdv A outer s H E hr=>pP T C_read_low_end C_read_high_end R CX_read_low_end_11 CX_read_high_end_11 cdv A outer s H E hr) (fun ds hl e=>e)
theorem oA:FnScope ["words"] ["words"] (zH (top 40)):={}
theorem AS{f:Addr}{fd:FuncData}(Fn:Fun K "comes_each" "comes_each" (top 40) f fd)(T:Glb K mg): FnOk P w K mg base CX0 1 f fd ["words"] (spF K 1 bQ):=by
 have nd:=oA.nd;refine qP (k:=0) (g:=kP) Fn oA (fun cdv A outer s H E hr=>?_) (fun ds r hl e=>zY e);exact(zD (zV (PV.w (EG (oF hr (PV.n (jM T.b_len (zQ (zB 0) qE))) pnI) (EG (oF hr (PV.n (qA (zB 0) pwI)) (PV.n zP)) (JB (oF hr (PV.n (qA (zB 0) pwI)) (PV.n zP))))))))
theorem fF:FnScope ["item","words","sides","ends","value","numbers","stretch"] ["item"] (zH (top 39)):={}
theorem BT{f:Addr}{fd:FuncData}(Fn:Fun K "item_rows" "item_rows" (top 39) f fd)(T:Glb K mg)(C_read_ends:Cal P w K mg base "read_ends" 4 1 bJ)(C_read_number:Cal P w K mg base "read_number" 2 1 aK)(C_span:Cal P w K mg base "span" 2 2 dW)(C_rule_rows:Cal P w K mg base "rule_rows" 3 1 cS)(C_length:Cal P w K mg base "length" 1 1 cY)(C_comes_each:Cal P w K mg base "comes_each" 1 1 bQ):FnOk P w K mg base CX0 5 f fd ["item"] (spF K 1 bA):=by
 have nd:=fF.nd;have nI0:(["word"]:List Str).Nodup:=by decide +kernel
 refine qP (k:=4) (g:=dA) Fn fF (fun cdv A outer s H E hr=>?_) (fun ds r hl e=>zY e)
 exact(zC (zS (i:=1) nd (PVf.s (qU (zB 0) (PV.w zP))))
  (zC (zS (i:=2) nd (PVf.s (qU (PV.w (qA (zB 1) pwI)) (PV.w zP))))
  (zC (zU (PWv.t (jN (wH hr (PV.n (jM T.b_len (zQ (zB 2) qE))) pnI) (jL (jC (PWv.t (jN (jQ hr (PV.n (jM T.b_len (zQ (zB 1) qE))) pnI) (jL (PVn.t (PV.n (zO C_comes_each hr (zE (pnV 1) zL))))))))))) (zD qO) zJ)
  (zC (zS (i:=3) nd (zO C_read_ends hr (zE (PV.n (qA (zB 2) pwI)) zL)))
  (zC (zS (i:=4) nd (zO C_read_number hr (zE (PV.n (qA (zB 2) pwI)) zL)))
  (zC (wL (i:=5) nd (NY:=["word"]) (mp:=[none]) (jU (by kernel_rfl)) rfl (yM (PVf.s (wV (zB 1) (jB pwI) jO))) (fun c=>(qF (i:=0) nI0)) (fun c=>xN) (fun c=>(zO C_read_number hr (zE (pnV 0) zL))))
  (zC (zS (i:=6) nd (zO C_span hr (zE (PV.n (qA (zB 3) pwI)) (zE (PV.n (qA (zB 3) pwI)) zL))))
  (zC (zU (jC (PVn.t (pnV 5))) (zD (qX (qK (zM (yZ (zM (qQ 6) (zM (qQ 4) zW))) zW)))) zJ)
  (zC (zU (nI (PV.n (zO C_length hr (zE (pnV 6) zL))) (PV.n qW)) (zD qO) zJ)
  (zD (qX (jV C_rule_rows hr (zE (PV.n (yZ (zM (qA (zB 6) pwI) (zM (qA (zB 6) pwI) (zM (qA (zB 5) pwI) (zM (qA (zB 5) pwI) (zM (qQ 4) zW))))))) zL)))))))))))))
theorem sK{f XC:Addr}(T:Glb K mg)(C_read_ends:Cal P w K mg base "read_ends" 4 1 bJ)(C_read_number:Cal P w K mg base "read_number" 2 1 aK)(C_span:Cal P w K mg base "span" 2 2 dW)(C_rule_rows:Cal P w K mg base "rule_rows" 3 1 cS)(C_length:Cal P w K mg base "length" 1 1 cY)(C_comes_each:Cal P w K mg base "comes_each" 1 1 bQ)(CX_span_1:CalX P w K mg base "span" 2 2 eB XC)(cdv:Value)(A:Around)(outer:List Env)(s:Shared)(H:Hp)(E:XK)(hr:Room 4 (A.deeper (envOfC "item_rows" (zH (top 39)) s.heap.objs.size f cdv))) :
  PSsy (cxOf (CXM P w) P w K mg base ["item","words","sides","ends","value","numbers","stretch"] "item_rows" (zH (top 39)) f cdv A outer s H E) E XC (qS (top 39)) cX:=by
 have nd:(["item","words","sides","ends","value","numbers","stretch"]:List Str).Nodup:=fF.nd;have nI0:(["word"]:List Str).Nodup:=by decide +kernel
 exact(qB (zS (i:=1) nd (PVf.s (qU (zB 0) (PV.w zP))))
  (qB (zS (i:=2) nd (PVf.s (qU (PV.w (qA (zB 1) pwI)) (PV.w zP))))
  (qB (zU (PWv.t (jN (wH hr (PV.n (jM T.b_len (zQ (zB 2) qE))) pnI) (jL (jC (PWv.t (jN (jQ hr (PV.n (jM T.b_len (zQ (zB 1) qE))) pnI) (jL (PVn.t (PV.n (zO C_comes_each hr (zE (pnV 1) zL))))))))))) (zD qO) zJ)
  (qB (zS (i:=3) nd (zO C_read_ends hr (zE (PV.n (qA (zB 2) pwI)) zL)))
  (qB (zS (i:=4) nd (zO C_read_number hr (zE (PV.n (qA (zB 2) pwI)) zL)))
  (qB (wL (i:=5) nd (NY:=["word"]) (mp:=[none]) (jU (by kernel_rfl)) rfl (yM (PVf.s (wV (zB 1) (jB pwI) jO))) (fun c=>(qF (i:=0) nI0)) (fun c=>xN) (fun c=>(zO C_read_number hr (zE (pnV 0) zL))))
  (qG (EH (i:=6) nd (jJ yU CX_span_1 hr (zE (PV.n (qA (zB 3) pwI)) (zE (PV.n (qA (zB 3) pwI)) zL))))
  qH)))))))
theorem rY{f XC:Addr}{fd:FuncData}(Fn:Fun K "item_rows" "item_rows" (top 39) f fd)(T:Glb K mg)(C_read_ends:Cal P w K mg base "read_ends" 4 1 bJ)(C_read_number:Cal P w K mg base "read_number" 2 1 aK)(C_span:Cal P w K mg base "span" 2 2 dW)(C_rule_rows:Cal P w K mg base "rule_rows" 3 1 cS)(C_length:Cal P w K mg base "length" 1 1 cY)(C_comes_each:Cal P w K mg base "comes_each" 1 1 bQ)(CX_span_1:CalX P w K mg base "span" 2 2 eB XC):FnOk P w K mg base (CXM P w) 5 f fd ["item"] (spX K 1 bM XC):=
 yL (k:=4) (g:=cX) Fn fF (fun cdv A outer s H E hr=>sK T C_read_ends C_read_number C_span C_rule_rows C_length C_comes_each CX_span_1 cdv A outer s H E hr) (fun ds hl e=>e)
theorem sJ{f XC:Addr}(T:Glb K mg)(C_read_ends:Cal P w K mg base "read_ends" 4 1 bJ)(C_read_number:Cal P w K mg base "read_number" 2 1 aK)(C_span:Cal P w K mg base "span" 2 2 dW)(C_rule_rows:Cal P w K mg base "rule_rows" 3 1 cS)(C_length:Cal P w K mg base "length" 1 1 cY)(C_comes_each:Cal P w K mg base "comes_each" 1 1 bQ)(R:XR K mg 9 XC)(CX_rule_rows_9:CalX P w K mg base "rule_rows" 3 1 bP XC)(cdv:Value)(A:Around)(outer:List Env)(s:Shared)(H:Hp)(E:XK)(hr:Room 4 (A.deeper (envOfC "item_rows" (zH (top 39)) s.heap.objs.size f cdv))) :
  PSsy (cxOf (CXM P w) P w K mg base ["item","words","sides","ends","value","numbers","stretch"] "item_rows" (zH (top 39)) f cdv A outer s H E) E XC (qS (top 39)) bR:=by
 have nd:(["item","words","sides","ends","value","numbers","stretch"]:List Str).Nodup:=fF.nd;have nI0:(["word"]:List Str).Nodup:=by decide +kernel
 exact(qB (zS (i:=1) nd (PVf.s (qU (zB 0) (PV.w zP))))
  (qB (zS (i:=2) nd (PVf.s (qU (PV.w (qA (zB 1) pwI)) (PV.w zP))))
  (qB (zU (PWv.t (jN (wH hr (PV.n (jM T.b_len (zQ (zB 2) qE))) pnI) (jL (jC (PWv.t (jN (jQ hr (PV.n (jM T.b_len (zQ (zB 1) qE))) pnI) (jL (PVn.t (PV.n (zO C_comes_each hr (zE (pnV 1) zL))))))))))) (zD qO) zJ)
  (qB (zS (i:=3) nd (zO C_read_ends hr (zE (PV.n (qA (zB 2) pwI)) zL)))
  (qB (zS (i:=4) nd (zO C_read_number hr (zE (PV.n (qA (zB 2) pwI)) zL)))
  (qB (wL (i:=5) nd (NY:=["word"]) (mp:=[none]) (jU (by kernel_rfl)) rfl (yM (PVf.s (wV (zB 1) (jB pwI) jO))) (fun c=>(qF (i:=0) nI0)) (fun c=>xN) (fun c=>(zO C_read_number hr (zE (pnV 0) zL))))
  (qB (zS (i:=6) nd (zO C_span hr (zE (PV.n (qA (zB 3) pwI)) (zE (PV.n (qA (zB 3) pwI)) zL))))
  (qB (zU (jC (PVn.t (pnV 5))) (zD (qX (qK (zM (yZ (zM (qQ 6) (zM (qQ 4) zW))) zW)))) zJ)
  (jW (xK (nI (PV.n (zO C_length hr (zE (pnV 6) zL))) (PV.n qW)) (qG (PSx.y (jY R.cls R.gl))
  qH) (qZ qH))
  (zU (nI (PV.n (zO C_length hr (zE (pnV 6) zL))) (PV.n qW)) (zD qO) zJ)
  (qG (xW (jJ yU CX_rule_rows_9 hr (zE (PV.n (yZ (zM (qA (zB 6) pwI) (zM (qA (zB 6) pwI) (zM (qA (zB 5) pwI) (zM (qA (zB 5) pwI) (zM (qQ 4) zW))))))) zL)))
  qH))))))))))
theorem rX{f XC:Addr}{fd:FuncData}(Fn:Fun K "item_rows" "item_rows" (top 39) f fd)(T:Glb K mg)(C_read_ends:Cal P w K mg base "read_ends" 4 1 bJ)(C_read_number:Cal P w K mg base "read_number" 2 1 aK)(C_span:Cal P w K mg base "span" 2 2 dW)(C_rule_rows:Cal P w K mg base "rule_rows" 3 1 cS)(C_length:Cal P w K mg base "length" 1 1 cY)(C_comes_each:Cal P w K mg base "comes_each" 1 1 bQ)(R:XR K mg 9 XC)(CX_rule_rows_9:CalX P w K mg base "rule_rows" 3 1 bP XC):FnOk P w K mg base (CXM P w) 5 f fd ["item"] (spX K 1 bE XC):=
 yL (k:=4) (g:=bR) Fn fF (fun cdv A outer s H E hr=>sJ T C_read_ends C_read_number C_span C_rule_rows C_length C_comes_each R CX_rule_rows_9 cdv A outer s H E hr) (fun ds hl e=>e)
theorem pR{f XC:Addr}(T:Glb K mg)(C_read_ends:Cal P w K mg base "read_ends" 4 1 bJ)(C_read_number:Cal P w K mg base "read_number" 2 1 aK)(C_span:Cal P w K mg base "span" 2 2 dW)(C_rule_rows:Cal P w K mg base "rule_rows" 3 1 cS)(C_length:Cal P w K mg base "length" 1 1 cY)(C_comes_each:Cal P w K mg base "comes_each" 1 1 bQ)(R:XR K mg 11 XC)(CX_read_ends_11:CalX P w K mg base "read_ends" 4 1 bH XC)(CX_read_number_11:CalX P w K mg base "read_number" 2 1 aS XC)(cdv:Value)(A:Around)(outer:List Env)(s:Shared)(H:Hp)(E:XK)(hr:Room 4 (A.deeper (envOfC "item_rows" (zH (top 39)) s.heap.objs.size f cdv))) :
  PSsy (cxOf (CXM P w) P w K mg base ["item","words","sides","ends","value","numbers","stretch"] "item_rows" (zH (top 39)) f cdv A outer s H E) E XC (qS (top 39)) cN:=by
 have nd:(["item","words","sides","ends","value","numbers","stretch"]:List Str).Nodup:=fF.nd;have nI0:(["word"]:List Str).Nodup:=by decide +kernel
 exact(qB (zS (i:=1) nd (PVf.s (qU (zB 0) (PV.w zP))))
  (qB (zS (i:=2) nd (PVf.s (qU (PV.w (qA (zB 1) pwI)) (PV.w zP))))
  (jW (xK (PWv.t (jN (wH hr (PV.n (jM T.b_len (zQ (zB 2) qE))) pnI) (jL (jC (PWv.t (jN (jQ hr (PV.n (jM T.b_len (zQ (zB 1) qE))) pnI) (jL (PVn.t (PV.n (zO C_comes_each hr (zE (pnV 1) zL))))))))))) (qG (PSx.y (jY R.cls R.gl))
  qH) (qZ qH))
  (zU (PWv.t (jN (wH hr (PV.n (jM T.b_len (zQ (zB 2) qE))) pnI) (jL (jC (PWv.t (jN (jQ hr (PV.n (jM T.b_len (zQ (zB 1) qE))) pnI) (jL (PVn.t (PV.n (zO C_comes_each hr (zE (pnV 1) zL))))))))))) (zD qO) zJ)
  (jW (EH (i:=3) nd (jJ yU CX_read_ends_11 hr (zE (PV.n (qA (zB 2) pwI)) zL)))
  (zS (i:=3) nd (zO C_read_ends hr (zE (PV.n (qA (zB 2) pwI)) zL)))
  (jW (EH (i:=4) nd (jJ yU CX_read_number_11 hr (zE (PV.n (qA (zB 2) pwI)) zL)))
  (zS (i:=4) nd (zO C_read_number hr (zE (PV.n (qA (zB 2) pwI)) zL)))
  (qG (TB (i:=5) (NY:=["word"]) (mp:=[none]) nd RV (jU (by kernel_rfl)) rfl (yM (PVf.s (wV (zB 1) (jB pwI) jO))) (fun c=>(qF (i:=0) nI0)) (fun c=>(zO C_read_number hr (zE (pnV 0) zL))) (fun c=>(jJ NK CX_read_number_11 hr (zE (pnV 0) zL))))
  qH))))))
theorem pK{f XC:Addr}{fd:FuncData}(Fn:Fun K "item_rows" "item_rows" (top 39) f fd)(T:Glb K mg)(C_read_ends:Cal P w K mg base "read_ends" 4 1 bJ)(C_read_number:Cal P w K mg base "read_number" 2 1 aK)(C_span:Cal P w K mg base "span" 2 2 dW)(C_rule_rows:Cal P w K mg base "rule_rows" 3 1 cS)(C_length:Cal P w K mg base "length" 1 1 cY)(C_comes_each:Cal P w K mg base "comes_each" 1 1 bQ)(R:XR K mg 11 XC)(CX_read_ends_11:CalX P w K mg base "read_ends" 4 1 bH XC)(CX_read_number_11:CalX P w K mg base "read_number" 2 1 aS XC):FnOk P w K mg base (CXM P w) 5 f fd ["item"] (spX K 1 bI XC):=
 yL (k:=4) (g:=cN) Fn fF (fun cdv A outer s H E hr=>pR T C_read_ends C_read_number C_span C_rule_rows C_length C_comes_each R CX_read_ends_11 CX_read_number_11 cdv A outer s H E hr) (fun ds hl e=>e)
theorem eY:FnScope ["text","rows","item"] ["text"] (zH (top 34)):={}
theorem ET{f:Addr}{fd:FuncData}(Fn:Fun K "read_map" "read_map" (top 34) f fd)(T:Glb K mg)(C_laid_rows:Cal P w K mg base "laid_rows" 6 1 cE)(C_item_rows:Cal P w K mg base "item_rows" 5 1 bA):FnOk P w K mg base CX0 7 f fd ["text"] (spF K 1 kL):=by
 have nd:=eY.nd;refine qP (k:=6) (g:=iZ) Fn eY (fun cdv A outer s H E hr=>?_) (fun ds r hl e=>zY e)
 exact(zC (zU (jC (PVn.t (PV.n (xS T.b_isinstance T.b_str (by decide +kernel) (zB 0))))) (zD qO) zJ)
  (zC (zU (jQ hr (pnV 0) (PV.n zP)) (zD (qX (qK zW))) zJ)
  (zC (yC (i:=1) nd (qK zW))
  (zC (xI PassesOwn.never rfl (yM (PVf.s (qU (zB 0) (PV.w zP)))) (qF (i:=2) nd) (zD (wE (i:=1) (jV C_item_rows hr (zE (pnV 2) zL)))))
  (zD (qX (jV C_laid_rows hr (zE (pnV 1) zL))))))))
theorem tR{f XC:Addr}(T:Glb K mg)(C_laid_rows:Cal P w K mg base "laid_rows" 6 1 cE)(C_item_rows:Cal P w K mg base "item_rows" 5 1 bA)(CX_item_rows_1:CalX P w K mg base "item_rows" 5 1 bM XC)(cdv:Value)(A:Around)(outer:List Env)(s:Shared)(H:Hp)(E:XK)(hr:Room 6 (A.deeper (envOfC "read_map" (zH (top 34)) s.heap.objs.size f cdv))) :
  PSsy (cxOf (CXM P w) P w K mg base ["text","rows","item"] "read_map" (zH (top 34)) f cdv A outer s H E) E XC (qS (top 34)) dU:=by
 have nd:(["text","rows","item"]:List Str).Nodup:=eY.nd
 exact(qB (zU (jC (PVn.t (PV.n (xS T.b_isinstance T.b_str (by decide +kernel) (zB 0))))) (zD qO) zJ)
  (qB (zU (jQ hr (pnV 0) (PV.n zP)) (zD (qX (qK zW))) zJ)
  (qB (yC (i:=1) nd (qK zW))
  (qG (EI DQ (yM (PVf.s (qU (zB 0) (PV.w zP)))) (qF (i:=2) nd) (zD (wE (i:=1) (jV C_item_rows hr (zE (pnV 2) zL)))) (AB (i:=1) (jJ uN CX_item_rows_1 hr (zE (pnV 2) zL))))
  qH))))
theorem tI{f XC:Addr}{fd:FuncData}(Fn:Fun K "read_map" "read_map" (top 34) f fd)(T:Glb K mg)(C_laid_rows:Cal P w K mg base "laid_rows" 6 1 cE)(C_item_rows:Cal P w K mg base "item_rows" 5 1 bA)(CX_item_rows_1:CalX P w K mg base "item_rows" 5 1 bM XC):FnOk P w K mg base (CXM P w) 7 f fd ["text"] (spX K 1 cP XC):=
 yL (k:=6) (g:=dU) Fn eY (fun cdv A outer s H E hr=>tR T C_laid_rows C_item_rows CX_item_rows_1 cdv A outer s H E hr) (fun ds hl e=>e)
theorem tQ{f XC:Addr}(T:Glb K mg)(C_laid_rows:Cal P w K mg base "laid_rows" 6 1 cE)(C_item_rows:Cal P w K mg base "item_rows" 5 1 bA)(CX_item_rows_9:CalX P w K mg base "item_rows" 5 1 bE XC)(cdv:Value)(A:Around)(outer:List Env)(s:Shared)(H:Hp)(E:XK)(hr:Room 6 (A.deeper (envOfC "read_map" (zH (top 34)) s.heap.objs.size f cdv))) :
  PSsy (cxOf (CXM P w) P w K mg base ["text","rows","item"] "read_map" (zH (top 34)) f cdv A outer s H E) E XC (qS (top 34)) dS:=by
 have nd:(["text","rows","item"]:List Str).Nodup:=eY.nd
 exact(qB (zU (jC (PVn.t (PV.n (xS T.b_isinstance T.b_str (by decide +kernel) (zB 0))))) (zD qO) zJ)
  (qB (zU (jQ hr (pnV 0) (PV.n zP)) (zD (qX (qK zW))) zJ)
  (qB (yC (i:=1) nd (qK zW))
  (qG (EI DQ (yM (PVf.s (qU (zB 0) (PV.w zP)))) (qF (i:=2) nd) (zD (wE (i:=1) (jV C_item_rows hr (zE (pnV 2) zL)))) (AB (i:=1) (jJ uN CX_item_rows_9 hr (zE (pnV 2) zL))))
  qH))))
theorem tH{f XC:Addr}{fd:FuncData}(Fn:Fun K "read_map" "read_map" (top 34) f fd)(T:Glb K mg)(C_laid_rows:Cal P w K mg base "laid_rows" 6 1 cE)(C_item_rows:Cal P w K mg base "item_rows" 5 1 bA)(CX_item_rows_9:CalX P w K mg base "item_rows" 5 1 bE XC):FnOk P w K mg base (CXM P w) 7 f fd ["text"] (spX K 1 cO XC):=
 yL (k:=6) (g:=dS) Fn eY (fun cdv A outer s H E hr=>tQ T C_laid_rows C_item_rows CX_item_rows_9 cdv A outer s H E hr) (fun ds hl e=>e)
theorem sI{f XC:Addr}(T:Glb K mg)(C_laid_rows:Cal P w K mg base "laid_rows" 6 1 cE)(C_item_rows:Cal P w K mg base "item_rows" 5 1 bA)(CX_laid_rows_10:CalX P w K mg base "laid_rows" 6 1 cC XC)(cdv:Value)(A:Around)(outer:List Env)(s:Shared)(H:Hp)(E:XK)(hr:Room 6 (A.deeper (envOfC "read_map" (zH (top 34)) s.heap.objs.size f cdv))) :
  PSsy (cxOf (CXM P w) P w K mg base ["text","rows","item"] "read_map" (zH (top 34)) f cdv A outer s H E) E XC (qS (top 34)) cW:=by
 have nd:(["text","rows","item"]:List Str).Nodup:=eY.nd
 exact(qB (zU (jC (PVn.t (PV.n (xS T.b_isinstance T.b_str (by decide +kernel) (zB 0))))) (zD qO) zJ)
  (qB (zU (jQ hr (pnV 0) (PV.n zP)) (zD (qX (qK zW))) zJ)
  (qB (yC (i:=1) nd (qK zW))
  (qB (PSv.ofNox (xI PassesOwn.never rfl (yM (PVf.s (qU (zB 0) (PV.w zP)))) (qF (i:=2) nd) (zD (wE (i:=1) (jV C_item_rows hr (zE (pnV 2) zL))))))
  (qG (xW (jJ yU CX_laid_rows_10 hr (zE (pnV 1) zL)))
  qH)))))
theorem rW{f XC:Addr}{fd:FuncData}(Fn:Fun K "read_map" "read_map" (top 34) f fd)(T:Glb K mg)(C_laid_rows:Cal P w K mg base "laid_rows" 6 1 cE)(C_item_rows:Cal P w K mg base "item_rows" 5 1 bA)(CX_laid_rows_10:CalX P w K mg base "laid_rows" 6 1 cC XC):FnOk P w K mg base (CXM P w) 7 f fd ["text"] (spX K 1 bY XC):=
 yL (k:=6) (g:=cW) Fn eY (fun cdv A outer s H E hr=>sI T C_laid_rows C_item_rows CX_laid_rows_10 cdv A outer s H E hr) (fun ds hl e=>e)
theorem sH{f XC:Addr}(T:Glb K mg)(C_laid_rows:Cal P w K mg base "laid_rows" 6 1 cE)(C_item_rows:Cal P w K mg base "item_rows" 5 1 bA)(R:XR K mg 11 XC)(CX_item_rows_11:CalX P w K mg base "item_rows" 5 1 bI XC)(cdv:Value)(A:Around)(outer:List Env)(s:Shared)(H:Hp)(E:XK)(hr:Room 6 (A.deeper (envOfC "read_map" (zH (top 34)) s.heap.objs.size f cdv))) :
  PSsy (cxOf (CXM P w) P w K mg base ["text","rows","item"] "read_map" (zH (top 34)) f cdv A outer s H E) E XC (qS (top 34)) dM:=by
 have nd:(["text","rows","item"]:List Str).Nodup:=eY.nd
 exact(jW (xK (jC (PVn.t (PV.n (xS T.b_isinstance T.b_str (by decide +kernel) (zB 0))))) (qG (PSx.y (jY R.cls R.gl))
  qH) (qZ qH))
  (zU (jC (PVn.t (PV.n (xS T.b_isinstance T.b_str (by decide +kernel) (zB 0))))) (zD qO) zJ)
  (qB (zU (jQ hr (pnV 0) (PV.n zP)) (zD (qX (qK zW))) zJ)
  (qB (yC (i:=1) nd (qK zW))
  (qG (EI DQ (yM (PVf.s (qU (zB 0) (PV.w zP)))) (qF (i:=2) nd) (zD (wE (i:=1) (jV C_item_rows hr (zE (pnV 2) zL)))) (AB (i:=1) (jJ uN CX_item_rows_11 hr (zE (pnV 2) zL))))
  qH))))
theorem rV{f XC:Addr}{fd:FuncData}(Fn:Fun K "read_map" "read_map" (top 34) f fd)(T:Glb K mg)(C_laid_rows:Cal P w K mg base "laid_rows" 6 1 cE)(C_item_rows:Cal P w K mg base "item_rows" 5 1 bA)(R:XR K mg 11 XC)(CX_item_rows_11:CalX P w K mg base "item_rows" 5 1 bI XC):FnOk P w K mg base (CXM P w) 7 f fd ["text"] (spX K 1 cJ XC):=
 yL (k:=6) (g:=dM) Fn eY (fun cdv A outer s H E hr=>sH T C_laid_rows C_item_rows R CX_item_rows_11 cdv A outer s H E hr) (fun ds hl e=>e)
theorem mQ:FnScope ["_law_script","_law_k"] ["_law_script","_law_k"] (zH (top 42)):={}
theorem sC{f:Addr}{fd:FuncData}(Fn:Fun K "_law_cell_at" "_law_cell_at" (top 42) f fd)(T:Glb K mg): FnOk P w K mg base CX0 1 f fd ["_law_script","_law_k"] (spF K 2 dL):=by
 have nd:=mQ.nd;refine qP (k:=0) (g:=mK) Fn mQ (fun cdv A outer s H E hr=>?_) (fun ds r hl e=>zY e)
 exact(zC (zU (CO (zB 1) (PV.w (jM T.b_len (zQ (zB 0) qE)))) (zD (zV (PV.w (qA (zB 0) (zB 1))))) zJ)
  (zD (zV pwI)))
theorem nD:FnScope ["_law_cell"] ["_law_cell"] (zH (top 43)):={}
theorem tL{f:Addr}{fd:FuncData}(Fn:Fun K "_law_number" "_law_number" (top 43) f fd)(T:Glb K mg): FnOk P w K mg base CX0 1 f fd ["_law_cell"] (spF K 1 lP):=by
 have nd:=nD.nd;refine qP (k:=0) (g:=nA) Fn nD (fun cdv A outer s H E hr=>?_) (fun ds r hl e=>zY e)
 exact(zC (zU (jQ hr (PV.n (qV (zB 0) pwI)) pnI) (zD (zV (PV.w (yT (PV.w (qV (PV.w (pE (PV.w (yH (zB 0) pwI)) (PV.w (zZ (PV.w (EC pwI pwI)) pwI)))) (PV.w (zZ (PV.w (pE pwI (PV.w (EC pwI pwI)))) pwI)))) (PV.w (EC pwI pwI)))))) zJ)
  (zD (zV (PV.w (yT (PV.w (qV (PV.w (yH (zB 0) pwI)) pwI)) pwI)))))
theorem pD:FnScope ["_law_base","_law_one","_law_two","_law_three","_law_four","_law_low","_law_size","_law_left","_law_right","_law_text","_law_times_here"] ["_law_base","_law_one","_law_two","_law_three","_law_four"] (zH (top 44)):={}
theorem BY{f:Addr}{fd:FuncData}(Fn:Fun K "_law_item" "_law_item" (top 44) f fd)(T:Glb K mg): FnOk P w K mg base CX0 1 f fd ["_law_base","_law_one","_law_two","_law_three","_law_four"] (spF K 5 kW):=by
 have nd:=pD.nd;refine qP (k:=0) (g:=kU) Fn pD (fun cdv A outer s H E hr=>?_) (fun ds r hl e=>zY e)
 exact(zC (zS (i:=5) nd (yT (PV.w (zZ (zB 0) (PV.w (qV (zB 1) pwI)))) pwI))
  (zC (zS (i:=6) nd (yT (PV.w (qV (zB 2) pwI)) pwI))
  (zC (zS (i:=7) nd (qA (PV.w (PVf.s (qK (zM (zZ (PV.w zP) (PV.w (xA T.b_str (zQ (zB 5) qE)))) (zM (zZ (PV.w zP) (PV.w (xA T.b_str (zQ (PV.w (yT (zB 5) pwI)) qE)))) zW))))) (PV.w (qV (PV.w (yH (zB 1) pwI)) pwI))))
  (zC (zS (i:=8) nd (qA (PV.w (PVf.s (qK (zM (zZ (PV.w (xA T.b_str (zQ (PV.w (zZ (zB 5) (zB 6))) qE))) (PV.w zP)) (zM (zZ (PV.w (xA T.b_str (zQ (PV.w (yT (PV.w (zZ (zB 5) (zB 6))) pwI)) qE))) (PV.w zP)) zW))))) (PV.w (qV (PV.w (yH (zB 1) pwI)) pwI))))
  (zC (zU (jQ hr (PV.n (qV (zB 3) pwI)) pnI) (zD (zS (i:=7) nd zP)) zJ)
  (zC (zU (jQ hr (PV.n (qV (zB 3) pwI)) pnI) (zD (zS (i:=8) nd zP)) zJ)
  (zC (zS (i:=9) nd (zZ (PV.w (zZ (PV.w (zZ (PV.w (zZ (zB 7) (PV.w zP))) (zB 8))) (PV.w zP))) (PV.w (xA T.b_str (zQ (PV.w (yT (PV.w (qV (PV.w (yH (zB 3) pwI)) pwI)) pwI)) qE)))))
  (zC (zU (jQ hr (PV.n (qV (zB 4) pwI)) pnI) (zD (zV (zB 9))) zJ)
  (zC (zS (i:=10) nd (yT (PV.w (qV (PV.w (yH (zB 4) pwI)) pwI)) pwI))
  (zC (zU (jQ hr (PV.n (qV (PV.w (yH (zB 4) pwI)) pwI)) pnI) (zD (zS (i:=10) nd (zZ pwI (PV.w (qV (PV.w (yH (zB 4) pwI)) pwI))))) zJ)
  (zD (zV (PV.w (zZ (PV.w (zZ (PV.w (zZ (PV.w (zZ (zB 9) (PV.w zP))) (PV.w (xA T.b_str (zQ (PV.w (zZ (PV.w (yT (zB 6) pwI)) (PV.w (qV (PV.w (yH (zB 2) pwI)) pwI)))) qE))))) (PV.w zP))) (PV.w (xA T.b_str (zQ (zB 10) qE)))))))))))))))))
theorem mD:FnScope ["_law_base","_law_many","_law_more","_law_items","_law_k","_law_low","_law_text"] ["_law_base","_law_many","_law_more"] (zH (top 45)):={}
theorem pM{f:Addr}{fd:FuncData}(Fn:Fun K "_law_hundreds" "_law_hundreds" (top 45) f fd)(T:Glb K mg): FnOk P w K mg base CX0 1 f fd ["_law_base","_law_many","_law_more"] (spF K 3 gO):=by
 have nd:=mD.nd;refine qP (k:=0) (g:=iP) Fn mD (fun cdv A outer s H E hr=>?_) (fun ds r hl e=>zY e)
 exact(zC (yC (i:=3) nd (qK zW))
  (zC (xI PassesOwn.never rfl (xX T.b_range (qQ 1)) (qF (i:=4) nd) (zC (zS (i:=5) nd (zZ (zB 0) (PV.w (pE pwI (zB 4)))))
  (zC (zS (i:=6) nd (zZ (PV.w (zZ (PV.w (zZ (PV.w (zZ (PV.w (zZ (PV.w zP) (PV.w (xA T.b_str (zQ (zB 5) qE))))) (PV.w zP))) (PV.w (xA T.b_str (zQ (PV.w (zZ (PV.w (zZ (zB 5) pwI)) (zB 4))) qE))))) (PV.w zP))) (PV.w (xA T.b_str (zQ (zB 4) qE)))))
  (zD (kA (i:=3) (zZ (PV.w (zZ (PV.w (zZ (zB 6) (PV.w zP))) (PV.w (xA T.b_str (zQ (PV.w (zZ (zB 4) pwI)) qE))))) (PV.w zP)))))))
  (zD (qX (DY (zB 3) (PV.w (PVf.s (SS (qK (zM (zZ (PV.w (zZ (PV.w zP) (PV.w (xA T.b_str (zQ (zB 0) qE))))) (PV.w zP)) zW)) (zB 2)))))))))
theorem nC:FnScope ["_law_text","_law_cell","_law_signs","_law_sign","_law_at"] ["_law_text","_law_cell"] (zH (top 46)):={}
theorem tK{f:Addr}{fd:FuncData}(Fn:Fun K "_law_spoilt" "_law_spoilt" (top 46) f fd)(T:Glb K mg): FnOk P w K mg base CX0 1 f fd ["_law_text","_law_cell"] (spF K 2 iE):=by
 have nd:=nC.nd;refine qP (k:=0) (g:=iD) Fn nC (fun cdv A outer s H E hr=>?_) (fun ds r hl e=>zY e)
 exact(zC (zS (i:=2) nd zP)
  (zC (zS (i:=3) nd (qA (zB 2) (PV.w (qV (PV.w (yH (zB 1) pwI)) (PV.w (jM T.b_len (zQ (zB 2) qE)))))))
  (zC (zS (i:=4) nd (qV (PV.w (yH (zB 1) pwI)) (PV.w (zZ (PV.w (jM T.b_len (zQ (zB 0) qE))) pwI))))
  (zC (zU (jQ hr (PV.n (qV (zB 1) pwI)) pnI) (zD (zV (PV.w (zZ (PV.w (zZ (PV.w (yF (zB 0) jO (jB (zB 4)))) (zB 3))) (PV.w (yF (zB 0) (jB (zB 4)) jO)))))) zJ)
  (zC (zU (jQ hr (PV.n (qV (zB 1) pwI)) pnI) (zD (zV (PV.w (zZ (PV.w (zZ (PV.w (yF (zB 0) jO (jB (zB 4)))) (zB 3))) (PV.w (yF (zB 0) (jB (PV.w (zZ (zB 4) pwI))) jO)))))) zJ)
  (zC (zU (jQ hr (PV.n (qV (zB 1) pwI)) pnI) (zD (zV (PV.w (zZ (PV.w (yF (zB 0) jO (jB (zB 4)))) (PV.w (yF (zB 0) (jB (PV.w (zZ (zB 4) pwI))) jO)))))) zJ)
  (zD (zV (zB 0)))))))))
theorem pC:FnScope ["_law_word","_law_figures","_law_sign"] ["_law_word"] (zH (top 47)):={}
theorem BX{f:Addr}{fd:FuncData}(Fn:Fun K "_law_read" "_law_read" (top 47) f fd)(T:Glb K mg): FnOk P w K mg base CX0 1 f fd ["_law_word"] (spF K 1 iU):=by
 have nd:=pC.nd;refine qP (k:=0) (g:=pY) Fn pC (fun cdv A outer s H E hr=>?_) (fun ds r hl e=>zY e)
 exact(zC (zS (i:=1) nd (qQ 0))
  (zC (zU (jQ hr (PV.n (yF (zB 0) jO (jB pwI))) (PV.n zP)) (zD (zS (i:=1) nd (yF (zB 0) (jB pwI) jO))) zJ)
  (zC (zU (PWv.t (jN (jQ hr (pnV 1) (PV.n zP)) (jN (sS (PV.w (jM T.b_len (zQ (zB 1) qE))) pwI) (jL (PWv.t (xJ (jQ hr (PV.n (qA (zB 1) pwI)) (PV.n zP)) (xH (wH hr (pnV 0) (PV.n zP))))))))) (zD (zV (PV.w qW))) zJ)
  (zC (xI PassesOwn.never rfl (LR (qQ 1)) (qF (i:=2) nd) (zD (zU (vB pG LX (zB 2) (PV.w zP) rfl) (zD (zV (PV.w qW))) zJ)))
  (zD (zV (PV.w (LI T.b_int (zQ (zB 0) qE)))))))))
theorem sO:FnScope ["_law_bracket","_law_word","_law_shut","_law_more","_law_place"] ["_law_bracket","_law_word","_law_shut","_law_more"] (zH (top 48)):={}
theorem EV{f:Addr}{fd:FuncData}(Fn:Fun K "_law_end" "_law_end" (top 48) f fd)(T:Glb K mg)(C__law_read:Cal P w K mg base "_law_read" 1 1 iU):FnOk P w K mg base CX0 2 f fd ["_law_bracket","_law_word","_law_shut","_law_more"] (spF K 4 mB):=by
 have nd:=sO.nd;refine qP (k:=1) (g:=pZ) Fn sO (fun cdv A outer s H E hr=>?_) (fun ds r hl e=>zY e)
 exact(zC (zU (PWv.t (xJ (jQ hr (pnV 1) (PV.n zP)) (xH (wH hr (pnV 0) (pnV 2))))) (zD (qX (qK (zM qW zW)))) zJ)
  (zC (zS (i:=4) nd (zO C__law_read hr (zE (pnV 1) zL)))
  (zC (zU (nI (pnV 4) (PV.n qW)) (zD (qX (qK zW))) zJ)
  (zD (qX (qK (zM (zZ (zB 4) (zB 3)) zW)))))))
theorem pB:FnScope ["_law_text","_law_left","_law_comma","_law_right","_law_low","_law_behind"] ["_law_text"] (zH (top 49)):={}
theorem BW{f:Addr}{fd:FuncData}(Fn:Fun K "_law_span" "_law_span" (top 49) f fd)(T:Glb K mg)(C__law_end:Cal P w K mg base "_law_end" 2 4 mB):FnOk P w K mg base CX0 3 f fd ["_law_text"] (spF K 1 fR):=by
 have nd:=pB.nd;refine qP (k:=2) (g:=kT) Fn pB (fun cdv A outer s H E hr=>?_) (fun ds r hl e=>zY e)
 exact(zC (zU (PWv.t (jN (CO (PV.w (jM T.b_len (zQ (zB 0) qE))) pwI) (jN (GO (PV.n (qA (zB 0) pwI)) (PV.n (PVf.s (qK (zM zP (zM zP zW)))))) (jN (GO (PV.n (qA (zB 0) (PV.w (xG yN)))) (PV.n (PVf.s (qK (zM zP (zM zP zW)))))) (jL (vB pG LX (PV.w zP) (zB 0) rfl)))))) (zD (qX (qK zW))) zJ)
  (zC (LO (LG (PV.w (yF (zB 0) (jB pwI) (jB (PV.w (xG yN))))) (PV.w zP)) (pF (n:=3) rfl (jD (qF (i:=1) nd) (jD (qF (i:=2) nd) (jD (qF (i:=3) nd) wU)))))
  (zC (zS (i:=4) nd (zO C__law_end hr (zE (PV.n (qA (zB 0) pwI)) (zE (pnV 1) (zE (PV.n zP) (zE (PV.n (LJ T.b_int (zQ (PV.w (oF hr (PV.n (qA (zB 0) pwI)) (PV.n zP))) qE))) zL))))))
  (zC (zS (i:=5) nd (zO C__law_end hr (zE (PV.n (qA (zB 0) (PV.w (xG yN)))) (zE (pnV 3) (zE (PV.n zP) (zE (PV.n (LJ T.b_int (zQ (PV.w (oF hr (PV.n (qA (zB 0) (PV.w (xG yN)))) (PV.n zP))) qE))) zL))))))
  (zC (zU (PWv.t (jN (jQ hr (pnV 4) (PV.n (PVf.s (qK zW)))) (jL (jQ hr (pnV 5) (PV.n (PVf.s (qK zW))))))) (zD (qX (qK zW))) zJ)
  (zD (qX (qK (zM (qA (zB 4) pwI) (zM (qA (zB 5) pwI) zW))))))))))
theorem oB:FnScope ["_law_text","_law_words","_law_left","_law_sign","_law_right","_law_one","_law_numbers"] ["_law_text"] (zH (top 50)):={}
theorem AT{f:Addr}{fd:FuncData}(Fn:Fun K "_law_times" "_law_times" (top 50) f fd)(T:Glb K mg)(C__law_span:Cal P w K mg base "_law_span" 3 1 fR)(C__law_read:Cal P w K mg base "_law_read" 1 1 iU):FnOk P w K mg base CX0 4 f fd ["_law_text"] (spF K 1 dJ):=by
 have nd:=oB.nd;have nI0:(["_law_word"]:List Str).Nodup:=by decide +kernel
 refine qP (k:=3) (g:=iY) Fn oB (fun cdv A outer s H E hr=>?_) (fun ds r hl e=>zY e)
 exact(zC (zS (i:=1) nd (PVf.s (qU (zB 0) (PV.w zP))))
  (zC (zU (PWv.t (xJ (wH hr (PV.n (jM T.b_len (zQ (zB 1) qE))) pnI) (xH (PWv.t (jN (wH hr (PV.n (jM T.b_len (zQ (zB 1) qE))) pnI) (jN (wH hr (PV.n (qA (zB 1) pwI)) (PV.n zP)) (jL (wH hr (PV.n (qA (zB 1) pwI)) (PV.n zP))))))))) (zD (zV (PV.w zP))) zJ)
  (zC (LO (LG (PV.w (qA (zB 1) pwI)) (PV.w zP)) (pF (n:=3) rfl (jD (qF (i:=2) nd) (jD (qF (i:=3) nd) (jD (qF (i:=4) nd) wU)))))
  (zC (zS (i:=5) nd (zO C__law_span hr (zE (pnV 2) zL)))
  (zC (wL (i:=6) nd (NY:=["_law_word"]) (mp:=[none]) (jU (by kernel_rfl)) rfl (yM (PVf.s (DY (PV.w (PVf.s (qK (zM (qQ 4) zW)))) (PV.w (PVf.s (wV (zB 1) (jB pwI) (jB pwI))))))) (fun c=>(qF (i:=0) nI0)) (fun c=>xN) (fun c=>(zO C__law_read hr (zE (pnV 0) zL))))
  (zC (zU (PWv.t (jN (jQ hr (pnV 5) (PV.n (PVf.s (qK zW)))) (jL (pt_in (PV.n qW) (pnV 6))))) (zD (zV (PV.w zP))) zJ)
  (zC (zU (PWv.t (xJ (wR (PV.n (qA (zB 5) pwI)) (PV.n qW)) (xJ (wR (PV.n (qA (zB 5) pwI)) (PV.n qW)) (xH (pt_ge (PV.w (qA (zB 5) pwI)) (PV.w (qA (zB 5) pwI))))))) (zD (zV (PV.w zP))) zJ)
  (zC (zU (jQ hr (PV.n (jM T.b_len (zQ (zB 1) qE))) pnI) (zD (zV pwI)) zJ)
  (zC (zU (PWv.t (jN (pt_in (PV.n qW) (pnV 5)) (jN (CO (PV.w (qA (zB 6) pwI)) pwI) (jL (sS (PV.w (qA (zB 6) pwI)) pwI))))) (zD (zV (PV.w zP))) zJ)
  (zC (zU (PWv.t (jN (PWv.t (xJ (jQ hr (PV.n (qA (zB 6) pwI)) pnI) (xH (wH hr (PV.n (qA (zB 6) pwI)) pnI)))) (jL (PWv.t (xJ (sS (PV.w (qA (zB 6) pwI)) pwI) (xH (pt_le (PV.w (qA (zB 6) pwI)) (PV.w (yT (PV.w (qA (zB 5) pwI)) (PV.w (qA (zB 5) pwI))))))))))) (zD (zV (PV.w zP))) zJ)
  (zD (zV (PV.w (qA (zB 6) pwI))))))))))))))
theorem sP:FnScope ["_law_text","_law_total","_law_item_here","_law_times_here"] ["_law_text"] (zH (top 51)):={}
theorem EW{f:Addr}{fd:FuncData}(Fn:Fun K "_law_due" "_law_due" (top 51) f fd)(T:Glb K mg)(C__law_times:Cal P w K mg base "_law_times" 4 1 dJ):FnOk P w K mg base CX0 5 f fd ["_law_text"] (spF K 1 lN):=by
 have nd:=sP.nd;refine qP (k:=4) (g:=hV) Fn sP (fun cdv A outer s H E hr=>?_) (fun ds r hl e=>zY e)
 exact(zC (zS (i:=1) nd yN)
  (zC (zU (jQ hr (pnV 0) (PV.n zP)) (zD (zV (PV.w zP))) zJ)
  (zC (xI PassesOwn.never rfl (yM (PVf.s (qU (zB 0) (PV.w zP)))) (qF (i:=2) nd) (zC (zS (i:=3) nd (zO C__law_times hr (zE (pnV 2) zL)))
  (zC (zU (PVn.t (PV.n (xS T.b_isinstance T.b_str (by decide +kernel) (zB 3)))) (zD (zV (zB 3))) zJ)
  (zD (zS (i:=1) nd (zZ (zB 1) (zB 3)))))))
  (zC (zU (sS (zB 1) pwI) (zD (zV (PV.w zP))) zJ)
  (zD (zV (PV.w zP)))))))
theorem pA:FnScope ["_law_text","_law_classes","_law_found","e","_law_k"] ["_law_text"] (zH (top 52)):={}
theorem BV{f:Addr}{fd:FuncData}(Fn:Fun K "_law_told" "_law_told" (top 52) f fd)(T:Glb K mg)(C_read_map:Cal P w K mg base "read_map" 7 1 kL){XS0:Addr}{XC1:Addr}(XT_1:XT K mg 1 "SpanError" XC1 XS0)(CX_read_map_1:CalX P w K mg base "read_map" 7 1 cP XC1){XC9:Addr}(XT_9:XT K mg 9 "SpanError" XC9 XS0)(CX_read_map_9:CalX P w K mg base "read_map" 7 1 cO XC9){XC10:Addr}(XT_10:XT K mg 10 "SpanError" XC10 XS0)(CX_read_map_10:CalX P w K mg base "read_map" 7 1 bY XC10){XC11:Addr}(XT_11:XT K mg 11 "SpanError" XC11 XS0)(CX_read_map_11:CalX P w K mg base "read_map" 7 1 cJ XC11):FnOk P w K mg base CX0 8 f fd ["_law_text"] (spF K 1 gM):=by
 have nd:=pA.nd;have nI0:(["_law_j","_law_k"]:List Str).Nodup:=by decide +kernel
 refine qP (k:=7) (g:=mI) Fn pA (fun cdv A outer s H E hr=>?_) (fun ds r hl e=>zY e)
 exact(zC (zS (i:=1) nd (PVf.s (qK zW)))
  (zC (zS (i:=2) nd qW)
  (zC (TC (i:=3) (t:=1) (u:=9) (v:=10) (v':=11) nd XT_1.gl XT_1.cat XT_9.cat XT_10.cat XT_11.cat XT_1.nm XT_9.nm XT_10.nm XT_11.nm (fun W=>(zS (i:=2) nd (zO C_read_map hr (zE (pnV 0) zL))))
  (fun W=>tV CX_read_map_1 hr (zE (pnV 0) zL))
  (fun W=>tV CX_read_map_9 hr (zE (pnV 0) zL))
  (fun W=>tV CX_read_map_10 hr (zE (pnV 0) zL))
  (fun W=>tV CX_read_map_11 hr (zE (pnV 0) zL))
  (fun ea oe xe hH=>(zD (zS (i:=1) nd (PVf.s (qK (zM (ED (i:=3) T.b_isinstance T.isx_NoText_1_9_10_11) (zM (ED (i:=3) T.b_isinstance T.isx_Empty_1_9_10_11) (zM (ED (i:=3) T.b_isinstance T.isx_NoRule_1_9_10_11) (zM (ED (i:=3) T.b_isinstance T.isx_TooMuch_1_9_10_11) zW))))))))))
  (zC (xI PassesOwn.never rfl (xX T.b_range yN) (qF (i:=4) nd) (zD (zU (jQ hr (pnV 1) (PV.n (PVf.s (vY (NY:=["_law_j","_law_k"]) (mp:=[none,some 4]) (jU (by kernel_rfl)) rfl (xX T.b_range yN) (fun c=>(qF (i:=0) nI0)) (fun c=>xN) (fun c=>(oF hr (pnV 1) (pnV 0))))))) (zD (zV (PV.w (qA (PV.w (PVf.s (qK (zM zP (zM zP (zM zP (zM zP zW))))))) (zB 4))))) zJ)))
  (zC (zU (PWv.t (xJ (jQ hr (pnV 1) (PV.n (PVf.s (qK zW)))) (xH (PVn.t (PV.n (xS T.b_isinstance T.b_list (by decide +kernel) (zB 2))))))) (zD (zV (PV.w zP))) zJ)
  (zD (zV (PV.w zP))))))))
theorem SK:FnScope ["_law_script","_law_way","_law_base","_law_items","_law_k","_law_text"] ["_law_script"] (zH (top 53)):={}
theorem ZQ{f:Addr}{fd:FuncData}(Fn:Fun K "law" "law" (top 53) f fd)(T:Glb K mg)(C__law_cell_at:Cal P w K mg base "_law_cell_at" 1 2 dL)(C__law_number:Cal P w K mg base "_law_number" 1 1 lP)(C__law_spoilt:Cal P w K mg base "_law_spoilt" 1 2 iE)(C__law_told:Cal P w K mg base "_law_told" 8 1 gM)(C__law_due:Cal P w K mg base "_law_due" 5 1 lN)(C__law_item:Cal P w K mg base "_law_item" 1 5 kW)(C__law_hundreds:Cal P w K mg base "_law_hundreds" 1 3 gO):FnOk P w K mg base CX0 9 f fd ["_law_script"] (spF K 1 pV):=by
 have nd:=SK.nd;refine qP (k:=8) (g:=nM) Fn SK (fun cdv A outer s H E hr=>?_) (fun ds r hl e=>zY e)
 exact(zC (zS (i:=1) nd (zO C__law_cell_at hr (zE (pnV 0) (zE pnI zL))))
  (zC (zS (i:=2) nd (zO C__law_number hr (zE (PV.n (zO C__law_cell_at hr (zE (pnV 0) (zE pnI zL)))) zL)))
  (zC (yC (i:=3) nd (qK zW))
  (zC (xI PassesOwn.never rfl (JF T.b_range pwI (PV.w (LH rfl T.b_min (zQ (PV.w (yT (PV.w (jM T.b_len (zQ (zB 0) qE))) pwI)) (zQ pwI qE)))) pwI) (qF (i:=4) nd) (zD (kA (i:=3) (zO C__law_item hr (zE (pnV 2) (zE (PV.n (qA (zB 0) (zB 4))) (zE (PV.n (qA (zB 0) (PV.w (zZ (zB 4) pwI)))) (zE (PV.n (qA (zB 0) (PV.w (zZ (zB 4) pwI)))) (zE (PV.n (qA (zB 0) (PV.w (zZ (zB 4) pwI)))) zL)))))))))
  (zC (zU (jQ hr (PV.n (qV (zB 1) pwI)) pnI) (zD (yC (i:=3) nd (DY (PV.w (zO C__law_hundreds hr (zE (pnV 2) (zE (PV.n (zZ pwI (PV.w (qV (PV.w (yH (zB 1) pwI)) pwI)))) (zE (PV.n (qV (PV.w (yH (zB 1) pwI)) pwI)) zL))))) (PV.w (PVf.s (NW (zB 3) jO (jB (PV.w (qV (PV.w (yH (zB 1) pwI)) pwI))))))))) zJ)
  (zC (zS (i:=5) nd (YE (PV.w zP) (zB 3)))
  (zC (zU (jQ hr (PV.n (qV (PV.w (yH (zB 1) pwI)) pwI)) pnI) (zD (zV (PV.w (oF hr (PV.n (zO C__law_told hr (zE (PV.n (qA (PV.w (PVf.s (qK (zM qW (zM yN (zM (PVf.s (qK (zM zP zW))) (zM (yZ (zM zP zW)) zW))))))) (PV.w (qV (PV.w (yH (zB 1) pwI)) pwI)))) zL))) (PV.n zP))))) zJ)
  (zC (zS (i:=5) nd (zO C__law_spoilt hr (zE (pnV 5) (zE (PV.n (zO C__law_cell_at hr (zE (pnV 0) (zE pnI zL)))) zL))))
  (zD (zV (PV.w (oF hr (PV.n (zO C__law_told hr (zE (pnV 5) zL))) (PV.n (zO C__law_due hr (zE (pnV 5) zL)))))))))))))))
end
end K93
namespace K93
open PySem PyProof.Rows L2 FL NumText
open Builtin.Int (intBits)
theorem spanX(w v:Nat)(p q:Int):eB [endT w p,endT v q]=eI (behT v q) (lowT w p)/\dW [endT w p,endT v q]=if eI (behT v q) (lowT w p)=true then none else some (.val (spD (lowT w p,behT v q))):=by
 have m1:=ZG w p;have m2:=ZW v q;have a:=DL (behT v q) (lowT w p);have ar:args 4 [endT w p,endT v q]=[.v (endT w p),.v (endT v q),.no,.no]:=by simp[args]
 unfold eB runX iC dW runG oG;rw[ar];generalize endT w p=A at *;generalize endT v q=B at *;generalize lowT w p=L at *;generalize behT v q=H at *;have e1:jG 2 (methV 0 [7,8,9,10] cU (yR 0) zR) [.v A,.v B,.no,.no]=some (.nx [.v A,.v B,.v (oi L),.no]):=by simp[m1]
 have e2:jG 3 (methV 0 [7,8,9,10] bW (yR 1) zR) [.v A,.v B,.v (oi L),.no]=some (.nx [.v A,.v B,.v (oi L),.v (oi H)]):=by simp[m2]
 have e3:testT (qJ 2 cT (zF (zG 3) (zF (zG 2) zR))) [.v A,.v B,.v (oi L),.v (oi H)]=some (eI H L):=by simp[a]
 constructor
 . simp only[seqX, e1, e2, ifX, e3];cases eI H L<;>rfl
 . rw [zN e1, zN e2];cases h:eI H L with
   |true=>simp[a,h]
   |false=>simp[a,h,spD]
theorem numX{r:List Nat}(ha:Asc r)(hl:r.length<=100000):aK [.str (txS r)]=(if numL r=true then some (.val (.int (valT r))) else none)/\aS [.str (txS r)]=!numL r:=by
 have e:=pH ha hl;constructor
 . cases h : numL r with
   |true=>rw[if_pos rfl];exact uY ha hl h
   | false =>
     rw[h] at e;unfold aK runG gP;simp[args,e]
 . unfold aS runX eR ifX;cases h:numL r with
   |true=>rw[h] at e;simp[args,e,dI]
   |false=>rw[h] at e;simp[args,e,dR]
theorem lowX{A:List Nat}(ha:Asc A)(hl:A.length<=100000):dD [.str (txS A)]=(lowP A).map (fun q=>.val (endT q.1 q.2))/\cK [.str (txS A)]=(lowP A).isNone:=by
 have hd:Asc (A.drop 1):=fun c hc=>ha c (IQ hc);obtain⟨n1,n2⟩:=numX hd (by simp;omega);have z:A.length<=16777216:=by omega
 have eqA:=vA ha (jE (cs:=[40,46,46]) rfl);have s1:stwD (.str (txS A)) (.str (txS [91]))=some (.bl (decide (A[0]?=some 91))):=by simp only[stwD,DS]
 have s2:stwD (.str (txS A)) (.str (txS [40]))=some (.bl (decide (A[0]?=some 40))):=by simp only[stwD,DS]
 have sl:Txt.slice (txS A) (some 1) none=txS (A.drop 1):=xM A 1;have ii:=initX (valT (A.drop 1));have ss:slsS (zG 0) (soP (zA (.int 1))) noP [.v (.str (txS A))]=some (.str (txS (A.drop 1))):=by simp[slsS,z,sl]
 unfold dD runG iH cK runX eJ;have ar:args 1 [.str (txS A)]=[.v (.str (txS A))]:=by simp[args]
 rw[ar,RY,uO,GE];have lp:lowP A=if A=[40,46,46] then some (2,0) else if A[0]?=some 91 then (if numL (A.drop 1)=true then some (0,valT (A.drop 1)) else none) else if A[0]?=some 40 then (if numL (A.drop 1)=true then some (1,valT (A.drop 1)) else none) else none:=rfl
 rw[lp];clear lp sl ha hd hl z;generalize txS (A.drop 1)=XR at *;generalize numL (A.drop 1)=nb at *;generalize valT (A.drop 1)=vv at *;generalize txS A=XA at *
 by_cases h0:A=[40,46,46]
 . rw [decide_eq_true h0] at eqA;rw [if_pos h0];constructor
   . simp[eqA,retDG,endT]
   . simp[eqA,retDG,seqX]
 . rw [decide_eq_false h0] at eqA;rw [if_neg h0]
   by_cases h1:A[0]?=some 91
   . rw [decide_eq_true h1] at s1;rw [if_pos h1];cases nb with
     | true =>
       rw[if_pos rfl] at n1 ⊢;constructor
       . simp[eqA,s1,ss,n1,makeG,ii,retDG,endT]
       . simp[eqA,s1,ss,n1,n2,makeG,ii,retDG,seqX,orX,ifX,callX]
     | false =>
       rw[if_neg (by simp)] at n1 ⊢;constructor
       . simp[eqA,s1,ss,n1,makeG,retDG]
       . simp[eqA,s1,ss,n1,n2,seqX,orX,ifX,callX]
   . rw [decide_eq_false h1] at s1;rw [if_neg h1]
     by_cases h2:A[0]?=some 40
     . rw [decide_eq_true h2] at s2;rw [if_pos h2];cases nb with
       | true =>
         rw[if_pos rfl] at n1 ⊢;constructor
         . simp[eqA,s1,s2,ss,n1,makeG,ii,retDG,endT]
         . simp[eqA,s1,s2,ss,n1,n2,makeG,ii,retDG,seqX,orX,ifX,callX,dI]
       | false =>
         rw[if_neg (by simp)] at n1 ⊢;constructor
         . simp[eqA,s1,s2,ss,n1,makeG,retDG]
         . simp[eqA,s1,s2,ss,n1,n2,seqX,orX,ifX,callX,dI]
     . rw [decide_eq_false h2] at s2;rw [if_neg h2];constructor
       . simp[eqA,s1,s2]
       . simp[eqA,s1,s2,seqX,orX,ifX,dI,dR]
theorem highX{A:List Nat}(ha:Asc A)(hl:A.length<=100000):dH [.str (txS A)]=(highP A).map (fun q=>.val (endT q.1 q.2))/\cG [.str (txS A)]=(highP A).isNone:=by
 have hd:Asc A.dropLast:=fun c hc=>ha c ((List.dropLast_sublist A).subset hc);obtain⟨n1,n2⟩:=numX hd (by simp;omega);have z:A.length<=16777216:=by omega
 have eqA:=vA ha (jE (cs:=[46,46,41]) rfl);have s1:enwD (.str (txS A)) (.str (txS [93]))=some (.bl (decide (A.getLast?=some 93))):=by simp only[enwD,MV]
 have s2:enwD (.str (txS A)) (.str (txS [41]))=some (.bl (decide (A.getLast?=some 41))):=by simp only[enwD,MV]
 have ii:=initX (valT A.dropLast)
 have ss:A.getLast?≠none->slsS (zG 0) noP (soP (un1 negD (zA (.int 1)))) [.v (.str (txS A))]=some (.str (txS A.dropLast)):=fun h=>by
  have sl:=NP A (fun e=>h (by rw[e];rfl));simp[slsS,z,sl]
 unfold dH runG hO cG runX dX;have ar:args 1 [.str (txS A)]=[.v (.str (txS A))]:=by simp[args]
 rw[ar,RZ,GF,GG];have lp:highP A=if A=[46,46,41] then some (2,0) else if A.getLast?=some 93 then (if numL A.dropLast=true then some (0,valT A.dropLast) else none) else if A.getLast?=some 41 then (if numL A.dropLast=true then some (1,valT A.dropLast) else none) else none:=rfl
 rw[lp];clear lp ha hd hl z;generalize txS A.dropLast=XR at *;generalize numL A.dropLast=nb at *;generalize valT A.dropLast=vv at *;generalize txS A=XA at *
 by_cases h0:A=[46,46,41]
 . rw [decide_eq_true h0] at eqA;rw [if_pos h0];constructor
   . simp[eqA,retDG,endT]
   . simp[eqA,retDG,seqX]
 . rw [decide_eq_false h0] at eqA;rw [if_neg h0]
   by_cases h1:A.getLast?=some 93
   . have ss := ss (by rw [h1]; simp);rw [decide_eq_true h1] at s1;rw [if_pos h1];cases nb with
     | true =>
       rw[if_pos rfl] at n1 ⊢;constructor
       . simp[eqA,s1,ss,n1,makeG,ii,retDG,endT]
       . simp[eqA,s1,ss,n1,n2,makeG,ii,retDG,seqX,orX,ifX,callX]
     | false =>
       rw[if_neg (by simp)] at n1 ⊢;constructor
       . simp[eqA,s1,ss,n1,makeG,retDG]
       . simp[eqA,s1,ss,n1,n2,seqX,orX,ifX,callX]
   . rw [decide_eq_false h1] at s1;rw [if_neg h1]
     by_cases h2:A.getLast?=some 41
     . have ss := ss (by rw [h2]; simp);rw [decide_eq_true h2] at s2;rw [if_pos h2];cases nb with
       | true =>
         rw[if_pos rfl] at n1 ⊢;constructor
         . simp[eqA,s1,s2,ss,n1,makeG,ii,retDG,endT]
         . simp[eqA,s1,s2,ss,n1,n2,makeG,ii,retDG,seqX,orX,ifX,callX,dI]
       | false =>
         rw[if_neg (by simp)] at n1 ⊢;constructor
         . simp[eqA,s1,s2,ss,n1,makeG,retDG]
         . simp[eqA,s1,s2,ss,n1,n2,seqX,orX,ifX,callX,dI]
     . rw [decide_eq_false h2] at s2;rw [if_neg h2];constructor
       . simp[eqA,s1,s2]
       . simp[eqA,s1,s2,seqX,orX,ifX,dI,dR]
theorem MW{cs:List Nat}(hl:cs.length<=100000)(h:cs.count 44≠1):bJ [.str (txS cs)]=none/\bH [.str (txS cs)]=true:=by
 have z:cs.length+2<=16777216:=by omega
 have sc:=wJ cs 44 (by decide);have hn:((Txt.split (txS cs) (txS [44])).map D.str).length≠2:=by rw[dC,sc];omega
 have sp:splA (zG 0) (zA (.str (Str.ofString ","))) [.v (.str (txS cs)),.no]=some ((Txt.split (txS cs) (txS [44])).map D.str):=by
  rw[vM];have z2:cs.length<=16777214:=by omega
  simp[splA,z,z2]
 unfold bJ runG iI bH runX eE;have ar:args 2 [.str (txS cs)]=[.v (.str (txS cs)),.no]:=by simp[args]
 rw[ar];generalize (Txt.split (txS cs) (txS [44])).map D.str=L at *;generalize txS cs=XA at *;have hn' : ¬((L.length:Int)=2):=by omega
 constructor
 . simp[sp,hn']
 . simp[sp,hn',orX,seqX,ifX,dI,dR]
theorem HQ{A B:List Nat}(ha:Asc A)(hb:Asc B)(hl:A.length+B.length<=90000)(h1:44∉A)(h2:44∉B):bJ [.str (txS (A++44::B))]=(match lowP A,highP B with | some a,some b=>some (.val (.tup [endT a.1 a.2,endT b.1 b.2])) | _,_=>none)/\bH [.str (txS (A++44::B))]=((lowP A).isNone||(highP B).isNone):=by
 have hc:(A++44::B).count 44=1:=by
  rw[iO,iA,fW.mpr h1,fW.mpr h2];rfl
 obtain⟨A',B',e,k1,k2,es⟩:=kE (by decide) hc
 have eA:A=A'/\B=B':=by
  have q1:(A++44::B).takeWhile (· != 44)=A:=by
   rw[uJ (fun c hc=>by simp;intro z;exact h1 (z▸hc))];simp
  have q2:(A'++44::B').takeWhile (· != 44)=A':=by
   rw[uJ (fun c hc=>by simp;intro z;exact k1 (z▸hc))];simp
  rw[e] at q1;have:A=A':=q1.symm.trans q2;subst this;exact⟨rfl,by simpa using e⟩
 obtain⟨rfl,rfl⟩:=eA;have z:(A++44::B).length+2<=16777216:=by simp;omega
 have sp:splA (zG 0) (zA (.str (Str.ofString ","))) [.v (.str (txS (A++44::B))),.no]=some [.str (txS A),.str (txS B)]:=by
  rw[vM];simp only[splA,jX,qY,aO,aC,jR,szl];rw[if_pos ⟨rfl,z⟩,es];rfl
 obtain⟨l1,l2⟩:=lowX ha (by omega);obtain⟨g1,g2⟩:=highX hb (by omega);have ar:args 2 [.str (txS (A++44::B))]=[.v (.str (txS (A++44::B))),.no]:=by simp[args]
 clear es e hc k1 k2;generalize txS (A++44::B)=XC at *;generalize txS A=XA at *;generalize txS B=XB at *
 have R1:bJ [.str XC]=(match lowP A,highP B with | some a,some b=>some (.val (.tup [endT a.1 a.2,endT b.1 b.2])) | _,_=>none):=by
  unfold bJ runG iI;rw[ar];cases h3:lowP A with
  | none =>
    rw[h3] at l1;simp[sp,l1,retDG]
  | some a =>
    rw[h3] at l1;cases h4:highP B with
    |none=>rw[h4] at g1;simp[sp,l1,g1,retDG]
    |some b=>rw[h4] at g1;simp[sp,l1,g1,retDG]
 have R2:bH [.str XC]=((lowP A).isNone||(highP B).isNone):=by
  unfold bH runX eE;rw[ar];cases h3:lowP A with
  | none =>
    rw[h3] at l1 l2;simp[sp,l1,l2,orX,seqX,ifX,dI,callX]
  | some a =>
    rw[h3] at l1 l2;simp[sp,l1,l2,g2,orX,seqX,ifX,dI,callX,thenX]
 exact⟨R1,R2⟩
theorem inT2(c a b:Nat):inD true (.str (txS [c])) (.lst [.str (txS [a]),.str (txS [b])])=some (.bl (!(decide (a=c)||decide (b=c)))):=by
 have e1:=FB [a] [c];have e2:=FB [b] [c];simp[inD,sclD,e1,e2]
noncomputable def dueE(b sh:Nat)(W:List Nat)(m:Int):Option (Option Int):=if W=[46,46]/\b≠sh then some none else (readL W).map (fun n=>some (n+m))
noncomputable def listO:Option (Option Int)->List D
 |none=>[]
 |some o=>[oi o]
theorem MX{b sh:Nat}{W:List Nat}(m:Int)(hb:b<1000)(hs:sh<1000)(ha:Asc W)(hl:W.length<=100000):mB [.str (txS [b]),.str (txS W),.str (txS [sh]),.int m]=some (.fresh (listO (dueE b sh W m))):=by
 have asc1:∀{c:Nat},c<1000->Asc [c]:=fun h d hd=>by rw[bG.mp hd];exact h
 have e1:=vA ha (jE (cs:=[46,46]) rfl);have e2:=GZ (asc1 hb) (asc1 hs);have rd:=sV ha hl;refine jT ?_;unfold pZ dueE;have ar:args 5 [.str (txS [b]),.str (txS W),.str (txS [sh]),.int m]=[.v (.str (txS [b])),.v (.str (txS W)),.v (.str (txS [sh])),.v (.int m),.no]:=by simp[args]
 rw[ar,t_dots];generalize readL W=R at *;generalize txS W=XW at *;generalize txS [46,46]=X46 at *;have e2':neD (.str (txS [b])) (.str (txS [sh]))=some (.bl (!decide (b=sh))):=by rw[e2];simp
 clear e2;generalize txS [b]=XB at *;generalize txS [sh]=XS at *
 by_cases h1:W=[46,46]
 . rw [decide_eq_true h1] at e1
   by_cases h2:b=sh
   . rw [decide_eq_true h2] at e2';rw [if_neg (fun z=>z.2 h2)];cases R with
     |none=>simp[e1,e2',rd,listO]
     |some n=>simp[e1,e2',rd,listO]
   . rw[decide_eq_false h2] at e2';rw[if_pos ⟨h1,h2⟩];simp[e1,e2',listO]
 . rw [decide_eq_false h1] at e1;rw [if_neg (fun z=>h1 z.1)];cases R with
   |none=>simp[e1,rd,listO]
   |some n=>simp[e1,rd,listO]
noncomputable def listP:Option (Option Int)->Option (Option Int)->List D
 |some l,some h=>[oi l,oi h]
 |_,_=>[]
theorem XO{cs:List Nat}(ha:Asc cs)(hl:cs.length<=100000)(h : ¬(2<=cs.length/\(cs[0]?=some 91\/cs[0]?=some 40)/\(cs.getLast?=some 93\/cs.getLast?=some 41)/\44∈cs)):fR [.str (txS cs)]=some (.fresh []):=by
 refine jT ?_;unfold kT;have ar:args 6 [.str (txS cs)]=[.v (.str (txS cs)),.no,.no,.no,.no,.no]:=by simp[args]
 have ln:=rP cs (by omega);have nc:=rM cs 44;rw[ar,uO,GE,GF,GG,vM];refine qR ?_;refine(AN ?_).trans (by simp)
 by_cases h1:2<=cs.length
 . have k1 : ¬ ((cs.length : Int) < 2) := by omega
   obtain⟨c,r,rfl⟩:∃c r,cs=c::r:=by cases cs with | nil=>simp at h1 | cons c r=>exact⟨c,r,rfl⟩
   have i0:=ER c r (by omega);obtain⟨r',c',e'⟩:∃r' c',c::r=r'++[c']:=⟨_,_,(uL (by simp:c::r≠[])).symm⟩
   have iL:ixD (.str (txS (c::r))) (.int (-1))=some (.str (txS [c'])):=by rw[e'];exact VA r' c' (by rw[<- e'];omega)
   have gl:(c::r).getLast?=some c':=by rw[e'];simp
   have j1:=inT2 c 91 40;have j2:=inT2 c' 93 41;rw[gl] at h;simp only[aO,Option.some.injEq] at h;generalize txS (c::r)=XC at *
   by_cases h2:c=91\/c=40
   . by_cases h3 : c' = 93 \/ c' = 41
     . have h4 : ¬ 44 ∈ c :: r := fun z => h ⟨h1, h2, h3, z⟩;rw [decide_eq_false h4] at nc;have q1:(decide (91=c) || decide (40=c))=true:=by rcases h2 with rfl | rfl <;> simp
       have q2:(decide (93=c')||decide (41=c'))=true:=by rcases h3 with rfl | rfl<;>simp
       rw[q1] at j1;rw[q2] at j2;simp[ln,k1,i0,iL,j1,j2,nc]
     . have q1 : (decide (91 = c) || decide (40 = c)) = true := by rcases h2 with rfl | rfl <;> simp
       have q2:(decide (93=c')||decide (41=c'))=false:=by simp;omega
       rw[q1] at j1;rw[q2] at j2;simp[ln,k1,i0,iL,j1,j2]
   . have q1 : (decide (91 = c) || decide (40 = c)) = false := by simp; omega
     rw[q1] at j1;simp[ln,k1,i0,j1]
 . have k1 : (cs.length : Int) < 2 := by omega
   simp[ln,k1]
theorem SI{b1 b2:Nat}{A B:List Nat}(hb1:b1=91\/b1=40)(hb2:b2=93\/b2=41)(ha:Asc A)(hb:Asc B)(hl:A.length+B.length<=90000)(h4:44∉A):fR [.str (txS (b1::(A++44::B)++[b2]))]=some (.fresh (listP (dueE b1 91 A (if b1=40 then 1 else 0)) (dueE b2 93 B (if b2=93 then 1 else 0)))):=by
 have lt1:b1<1000:=by omega
 have lt2:b2<1000:=by omega
 have lc:(b1::(A++44::B)++[b2]).length=A.length+B.length+3:=by simp;omega
 have ln:=rP (b1::(A++44::B)++[b2]) (by omega);rw[lc] at ln;have i0:ixD (.str (txS (b1::(A++44::B)++[b2]))) (.int 0)=some (.str (txS [b1])):=ER b1 ((A++44::B)++[b2]) (by simp;omega);have iL:=VA (b1::(A++44::B)) b2 (by rw[lc];omega);have j1:=inT2 b1 91 40;have j2:=inT2 b2 93 41;have q1:(decide (91=b1)||decide (40=b1))=true:=by rcases hb1 with rfl | rfl<;>simp
 have q2:(decide (93=b2)||decide (41=b2))=true:=by rcases hb2 with rfl | rfl<;>simp
 rw[q1] at j1;rw[q2] at j2;have nc:=rM (b1::(A++44::B)++[b2]) 44;rw[decide_eq_true (by simp)] at nc
 have sm:Txt.slice (txS (b1::(A++44::B)++[b2])) (some 1) (some (-1))=txS (A++44::B):=by
  rw[NO _ (by rw[lc];omega)];congr 1;show((A++44::B)++[b2]).dropLast=_;exact nS
 have pf:=vF (B:=B) h4;have en1:=MX (b:=b1) (sh:=91) (if b1=40 then 1 else 0) lt1 (by decide) ha (by omega);have en2:=MX (b:=b2) (sh:=93) (if b2=93 then 1 else 0) lt2 (by decide) hb (by omega);have asc1:∀{c:Nat},c<1000->Asc [c]:=fun h d hd=>by rw[bG.mp hd];exact h
 have e40:eqD (.str (txS [b1])) (.str (txS [40]))=some (.bl (decide (b1=40))):=by rw[vA (asc1 lt1) (asc1 (by decide))];simp
 have e93:eqD (.str (txS [b2])) (.str (txS [93]))=some (.bl (decide (b2=93))):=by rw[vA (asc1 lt2) (asc1 (by decide))];simp
 refine jT ?_;unfold kT;have ar:args 6 [.str (txS (b1::(A++44::B)++[b2]))]=[.v (.str (txS (b1::(A++44::B)++[b2]))),.no,.no,.no,.no,.no]:=by simp[args]
 have sls:slsS (zG 0) (soP (zA (.int 1))) (soP (un1 negD (zA (.int 1)))) [.v (.str (txS (b1::(A++44::B)++[b2]))),.no,.no,.no,.no,.no]=some (.str (txS (A++44::B))):=by
  have z:A.length+B.length+3<=16777216:=by omega
  simp only[slsS,jX,soP_eq,qY,RT,GY,aO,aC,jR,lc,szl,z,if_true,sm]
 have prt:prtD (.str (txS (A++44::B))) (.str (txS [44]))=some (.tup [.str (txS A),.str (txS [44]),.str (txS B)]):=by
  simp only[prtD,pf];rw[if_pos ⟨rfl,by rw[jR,szl];simp;omega⟩]
 rw[ar,uO,GE,GF,GG,vM];clear sm pf lc q1 q2;generalize txS (b1::(A++44::B)++[b2])=XC at *;generalize txS (A++44::B)=XM at *;have k1 : ¬(((A.length+B.length+3:Nat):Int)<2):=by omega
 generalize ((A.length+B.length+3:Nat):Int)=N at *;rw[zN (ds':=[.v (.str XC),.no,.no,.no,.no,.no]) (by simp[ln,k1,i0,iL,j1,j2,nc])]
 rw[zN (ds':=[.v (.str XC),.v (.str (txS A)),.v (.str (txS [44])),.v (.str (txS B)),.no,.no]) (by
  simp only[NB,yK,sls,qY,aC,prt]
  simp)]
 generalize hD1:dueE b1 91 A (if b1=40 then 1 else 0)=D1 at *;generalize hD2:dueE b2 93 B (if b2=93 then 1 else 0)=D2 at *;clear hD1 hD2;have in1:int1D [.bl (decide (b1=40))]=some (.int (if b1=40 then 1 else 0)):=by simp
 have in2':int1D [.bl (decide (b2=93))]=some (.int (if b2=93 then 1 else 0)):=by simp
 generalize (if b1=40 then (1:Int) else 0)=M1 at *;generalize (if b2=93 then (1:Int) else 0)=M2 at *;generalize txS A=XA at *;generalize txS B=XB at *
 rw[zN (ds':=[.v (.str XC),.v (.str XA),.v (.str (txS [44])),.v (.str XB),.v (.lst (listO D1)),.no]) (by
  simp only[jZ,HZ,xC,yK,xE,jX,qY,xR,aO,aY,aC,aV,i0,e40,in1,en1,aG,hX,if_true,uW]
  simp)]
 rw[zN (ds':=[.v (.str XC),.v (.str XA),.v (.str (txS [44])),.v (.str XB),.v (.lst (listO D1)),.v (.lst (listO D2))]) (by
  simp only[jZ,HZ,xC,yK,xE,RT,GY,jX,qY,xR,aO,aY,aC,aV,iL,e93,in2',en2,aG,hX,if_true,uW]
  simp)]
 have eqn:eqD (.lst []) (.lst [])=some (.bl true):=by rw[wC (by simp) (by simp)];simp
 have eqo:∀o:Option Int,eqD (.lst [oi o]) (.lst [])=some (.bl false):=fun o=>by rw[wC (by simp) (by simp)];simp
 cases D1 with
 |none=>exact qR (by simp[eqn,listP,listO])
 | some l =>
   cases D2 with
   |none=>exact qR (by simp[eqn,eqo,listP,listO])
   | some h =>
     rw[zN (ds':=[.v (.str XC),.v (.str XA),.v (.str (txS [44])),.v (.str XB),.v (.lst [oi l]),.v (.lst [oi h])]) (by simp[eqo,listO])];simp[listP]
theorem UV{b1:Nat}(h:b1=91\/b1=40)(A:List Nat):(lowP (b1::A)).map (fun q=>lowT q.1 q.2)=dueE b1 91 A (if b1=40 then 1 else 0):=by
 rcases h with rfl | rfl
 . simp only[lowP, dueE, readL, DP, WU];cases numL A<;>simp[lowT]
 . by_cases hA : A = [46, 46]
   . subst hA;simp[lowP,dueE,lowT]
   . simp only[lowP, dueE, readL, DP, WU];cases numL A<;>simp[lowT,hA]
theorem PM{b2:Nat}(h:b2=93\/b2=41)(B:List Nat):(highP (B++[b2])).map (fun q=>behT q.1 q.2)=dueE b2 93 B (if b2=93 then 1 else 0):=by
 have e:(B++[b2]=[46,46,41])↔(B=[46,46]/\b2=41):=by
  rw[show([46,46,41]:List Nat)=[46,46]++[41] from rfl];constructor
  . intro z;obtain⟨z1,z2⟩:=List.append_inj' z rfl;exact⟨z1,by simpa using z2⟩
  . rintro⟨rfl,rfl⟩;rfl
 rcases h with rfl | rfl
 . have e' : ¬ (B ++ [93] = [46, 46, 41]) := fun z => by have := (e.mp z).2; simp at this
   simp only[highP,dueE,readL,if_neg e',kQ,nS];cases numL B<;>simp[behT]
 . by_cases hB : B = [46, 46]
   . subst hB;simp[highP,dueE,behT]
   . have e' : ¬(B ++ [41]=[46, 46, 41]):= fun z => hB (e.mp z).1;simp only[highP,dueE,readL,if_neg e',kQ,nS];cases numL B<;>simp[behT,hB]
theorem num_no{B:List Nat}(h:44∈B):numL B=false:=by
 have:(figs B).all dig=false:=by
  rw[QP];refine⟨44,?_,by decide⟩;cases B with
  |nil=>cases h
  | cons c r =>
    show 44∈(if c=45 then r else c::r)
    by_cases hc:c=45
    . rw [if_pos hc];rcases aF.mp h with z | z
      . rw[<- z] at hc;cases hc
      . exact z
    . rw[if_neg hc];exact h
 simp[numL,this]
abbrev En:=(Nat×Int)×(Nat×Int)
noncomputable def listQ:Option En->List D
 |some q=>[oi (lowT q.1.1 q.1.2),oi (behT q.2.1 q.2.2)]
 |none=>[]
structure Ends(cs:List Nat)(R:Option En):Prop where
 ok:bJ [.str (txS cs)]=R.map (fun q=>.val (.tup [endT q.1.1 q.1.2,endT q.2.1 q.2.2]))
 x:bH [.str (txS cs)]=R.isNone
 sp:fR [.str (txS cs)]=some (.fresh (listQ R))
theorem both{cs:List Nat}(ha:Asc cs)(hl:cs.length<=9000):∃R,Ends cs R:=by
 by_cases hF:2<=cs.length/\(cs[0]?=some 91\/cs[0]?=some 40)/\(cs.getLast?=some 93\/cs.getLast?=some 41)/\44∈cs
 . obtain ⟨f1, f2, f3, f4⟩ := hF;obtain ⟨b1,r,rfl⟩:∃ c r,cs=c::r:=by cases cs with | nil=>simp at f1 | cons c r=>exact ⟨c,r,rfl⟩
   have hr:r≠[]:=fun z=>by rw[z] at f1;simp at f1
   obtain⟨r',b2,rfl⟩:∃r' c',r=r'++[c']:=⟨_,_,(uL hr).symm⟩
   have hb1:b1=91\/b1=40:=by simpa using f2
   have hb2:b2=93\/b2=41:=by
    rw[show b1::(r'++[b2])=(b1::r')++[b2] from rfl,kQ] at f3;simpa using f3
   have h44:44∈r':=by
    rcases aF.mp f4 with z | z
    . omega
    . rcases bU.mp z with z | z
      . exact z
      . have:=bG.mp z;omega
   obtain⟨A,B,rfl,hA⟩:=BJ h44;have aA:Asc A:=fun c hc=>ha c (by simp[hc]);have aB:Asc B:=fun c hc=>ha c (by simp[hc]);have lAB:A.length+B.length<=9000:=by simp at hl;omega
   have due:=SI hb1 hb2 aA aB (by omega) hA;have ecs:b1::((A++44::B)++[b2])=b1::(A++44::B)++[b2]:=rfl;rw[ecs] at hl ⊢
   by_cases hB:44∈B
   . have d2:dueE b2 93 B (if b2=93 then 1 else 0)=none:=by
      unfold dueE;rw[if_neg (fun z=>by rw[z.1] at hB;simp at hB)];simp[readL,num_no hB]
     rw[d2] at due;have dn:∀x,listP x none=[]:=fun x=>by cases x<;>rfl
     rw[dn] at due
     have cnt:(b1::(A++44::B)++[b2]).count 44≠1:=by
      have:0<B.count 44:=NF.mpr hB;simp only[iO,iA,RN,beq_self_eq_true,if_true];omega
     obtain⟨e1,e2⟩:=MW (by omega) cnt;exact⟨none,e1,e2,due⟩
   . have hA':44∉b1::A:=fun z=>by
      rcases aF.mp z with z | z
      . omega
      . exact hA z
     have hB':44∉B++[b2]:=fun z=>by
      rcases bU.mp z with z | z
      . exact hB z
      . have := bG.mp z;omega
     have sA:Asc (b1::A):=fun c hc=>by
      rcases aF.mp hc with z | z
      . omega
      . exact aA c z
     have sB:Asc (B++[b2]):=fun c hc=>by
      rcases bU.mp hc with z | z
      . exact aB c z
      . have := bG.mp z;omega
     have tl:=HQ sA sB (by simp;omega) hA' hB';have e5:(b1::A)++44::(B++[b2])=b1::(A++44::B)++[b2]:=by simp
     rw[e5] at tl;rw[<- UV hb1,<- PM hb2] at due;obtain⟨t1,t2⟩:=tl;cases h1:lowP (b1::A) with
     | none =>
       rw[h1] at t1 t2 due;exact⟨none,t1,by rw[t2];rfl,due⟩
     | some a =>
       cases h2:highP (B++[b2]) with
       | none =>
         rw[h1,h2] at t1 t2 due;exact⟨none,t1,by rw[t2];rfl,due⟩
       | some b =>
         rw[h1,h2] at t1 t2 due;exact⟨some (a,b),t1,by rw[t2];rfl,due⟩
 . suffices h : bJ [.str (txS cs)] = none /\ bH [.str (txS cs)] = true from ⟨none, h.1, h.2, XO ha (by omega) hF⟩
   by_cases hc:cs.count 44=1
   . obtain ⟨A, B, rfl, k1, k2, _⟩ := kE (by decide) hc;have tl:=HQ (fun c hc=>ha c (by simp [hc])) (fun c hc=>ha c (by simp [hc])) (by simp at hl; omega) k1 k2
     have:(lowP A).isNone=true\/(highP B).isNone=true:=by
      cases h1:lowP A with
      |none=>exact .inl rfl
      | some a =>
        cases h2:highP B with
        |none=>exact .inr rfl
        | some b =>
          exfalso
          have q1:A[0]?=some 91\/A[0]?=some 40:=by
           unfold lowP at h1
           by_cases z0:A=[40,46,46]
           . subst z0;exact .inr rfl
           . rw [if_neg z0] at h1
             by_cases z1:A[0]?=some 91
             . exact .inl z1
             . rw [if_neg z1] at h1
               by_cases z2:A[0]?=some 40
               . exact .inr z2
               . rw[if_neg z2] at h1;cases h1
          have q2:B.getLast?=some 93\/B.getLast?=some 41:=by
           unfold highP at h2
           by_cases z0:B=[46,46,41]
           . subst z0;exact .inr rfl
           . rw [if_neg z0] at h2
             by_cases z1:B.getLast?=some 93
             . exact .inl z1
             . rw [if_neg z1] at h2
               by_cases z2:B.getLast?=some 41
               . exact .inr z2
               . rw[if_neg z2] at h2;cases h2
          cases A with
          |nil=>simp at q1
          | cons c r =>
            refine hF ⟨by simp;omega,by simpa using q1,?_,by simp⟩
            have:(c::r++44::B).getLast?=B.getLast?:=by
             cases B with
             |nil=>simp at q2
             | cons d B =>
               have e:c::r++44::d::B=(c::r++[44])++(d::B):=by simp
               rw[e,kQ,List.getLast?_eq_some_getLast (by simp:d::B≠[])];rfl
            rw[this];exact q2
     obtain⟨t1,t2⟩:=tl;refine⟨?_,?_⟩
     . rw [t1];rcases this with z | z
       . rw[BH.mp z]
       . rw[BH.mp z];cases lowP A<;>rfl
     . rw [t2];rcases this with z | z
       . rw[z];rfl
       . rw[z];simp
   . exact MW (by omega) hc
theorem OE{cs:List Nat}{c:Nat}(h:c∉cs):Txt.partition (txS cs) (txS [c])=(txS cs,txS [],txS []):=by
 unfold Txt.partition;rcases StrLaws.occ_head (txS cs) (txS [c]) 1 (aQ 1) with⟨e,_⟩ | ⟨i,r,e,ha,_⟩
 . rw[e];rfl
 . have hi : cs[i]? = some c := by have := (StrLaws.subAt_one _ c i).mp ha; rwa [yO] at this
   exact(h (nR hi)).elim
noncomputable def sD(p:List Nat):D:=.str (txS p)
theorem GJ(c:Nat)(cs:List Nat):cZ c cs≠[]:=by
 cases cs with
 |nil=>simp[cZ]
 | cons a r =>
   unfold cZ
   split
   . simp
   . split<;>simp
theorem jK(c:Nat):∀(cs p:List Nat),p∈cZ c cs->(∀x∈p,x∈cs)/\p.length<=cs.length
 | [], p, h => by
   have:p=[]:=by simpa[cZ] using h
   subst this;exact⟨fun _ z=>z,aQ _⟩
 | a :: r, p, h => by
   unfold cZ at h
   split at h
   . rcases aF.mp h with rfl | h
     . exact⟨(fun _ z=>nomatch z),cL _⟩
     . obtain⟨h1, h2⟩ := jK c r p h;exact⟨fun x hx=>.tail _ (h1 x hx),sM h2⟩
   . split at h
     . rename_i hd t e;rcases aF.mp h with rfl | h
       . obtain ⟨h1, h2⟩ := jK c r hd (by rw [e]; exact .head _);refine ⟨fun x hx=>?_,Nat.succ_le_succ h2⟩;rcases aF.mp hx with rfl | hx
         . exact .head _
         . exact .tail _ (h1 x hx)
       . obtain⟨h1, h2⟩ := jK c r p (by rw[e];exact .tail _ h);exact⟨fun x hx=>.tail _ (h1 x hx),sM h2⟩
     . have : p = [a] := by simpa using h
       subst this;exact⟨fun x hx=>by cases bG.mp hx;exact .head _,by simp⟩
theorem xL(c:Nat)(cs:List Nat):(cZ c cs).length=cs.count c+1:=by
 induction cs with
 |nil=>simp[cZ]
 | cons a r ih =>
   unfold cZ
   split
   . rename_i h;subst h;simp[ih]
   . rename_i h;rw [iA,if_neg (by simpa using h)];cases e:cZ c r with
     |nil=>exact(GJ c r e).elim
     |cons hd t=>rw[e] at ih;simpa using ih
theorem kG{c:Nat}(hc:c<256){w:List Nat}(hl:w.length<=100000){f:FE}{ds:List Sl}(h:f ds=some (.str (txS w))){x:Str}(hx:x=txS [c]):splA f (zA (.str x)) ds=some ((cZ c w).map sD):=by
 subst hx;simp only[splA,h,qY,aC];rw[if_pos ⟨rfl,by rw[jR,szl];omega⟩,GK _ hc,fV];rfl
noncomputable def eachB:List (List Nat)->Bool
 |[_,b,_,d,_]=>decide (b=eachL)&&decide (d=gK)
 |_=>false
theorem fiveL{α : Type}{l:List α}(h:l.length=5):∃a b c d e,l=[a,b,c,d,e]:=by
 match l,h with
 |[a,b,c,d,e],_=>exact⟨a,b,c,d,e,rfl⟩
theorem AX{ws:List (List Nat)}(h:ws.length≠5):eachB ws=false:=by
 unfold eachB
 split
 . exact(h rfl).elim
 . rfl
theorem QE{ws:List (List Nat)}(hw:∀p∈ws,Asc p)(hz:ws.length<=100000):bQ [.lst (ws.map sD)]=some (.val (.bl (eachB ws))):=by
 refine jT ?_;unfold kP
 by_cases h5:ws.length=5
 . obtain ⟨a, b, c, d, e, rfl⟩ := fiveL h5;have e1:=vA (hw b (by simp)) (jE (cs:=eachL) rfl);have e2:=vA (hw d (by simp)) (jE (cs:=gK) rfl);rw [SB,KU];simp only [sD,bB,dO];have eb:eachB [a,b,c,d,e]=(decide (b=eachL) && decide (d=gK)):=rfl;rw [eb];generalize txS eachL=XE at *;generalize txS gK=XT at *;cases h1:decide (b=eachL) with
   |false=>rw[h1] at e1;simp[args,e1]
   |true=>rw[h1] at e1;simp[args,e1,e2]
 . have hn : ¬ ((ws.length : Int) = 5) := by omega
   rw[AX h5];simp[args,hn]
theorem ix0D(x:D)(l:List D):ixD (.lst (x::l)) (.int 0)=some x:=by rw[xQ _ (by decide) (by simp)];rfl
inductive Oc where
 |rows (l:List Rv) | no | em | nr
noncomputable def Oc.f:Oc->Option Ret
 | .rows l=>some (.fresh (l.map rvD))
 |_=>none
noncomputable def Oc.t:Oc->D
 | .rows l=>.int l.length
 | .no=>.str (Str.ofString "NoText")
 | .em=>.str (Str.ofString "Empty")
 | .nr=>.str (Str.ofString "NoRule")
noncomputable def Oc.c:Oc->Nat
 | .rows _=>0
 | .no=>11
 | .em=>1
 | .nr=>9
structure ItemK(x:Str)(o:Oc):Prop where
 f:bA [.str x]=o.f
 x1:bM [.str x]=decide (o.c=1)
 x9:bE [.str x]=decide (o.c=9)
 x11:bI [.str x]=decide (o.c=11)
 ok:∀l,o=.rows l->(∀r∈l,okS r.1)/\l.length<=100
noncomputable abbrev tSh:FT:=orT (zT (zI neD (callB lenD (zF (zG 2) zR)) (zA (.int 2)))) (notT (orT (zT (zI eqD (callB lenD (zF (zG 1) zR)) (zA (.int 1)))) (testT (qJ 1 bQ (zF (zG 1) zR)))))
noncomputable abbrev gS1:FS:=jG 1 (mkL (splA (zG 0) (zA (.str (Str.ofString " ")))))
noncomputable abbrev gS2:FS:=jG 2 (mkL (splA (zI ixD (zG 1) (zA (.int 0))) (zA (.str (Str.ofString "=")))))
theorem LB{ws ss:List (List Nat)}(hw:∀p∈ws,Asc p)(hz:ws.length<=100000)(x0 x3 x4 x5 x6:Sl):tSh [x0,.v (.lst (ws.map sD)),.v (.lst (ss.map sD)),x3,x4,x5,x6]=some (!(decide (ss.length=2)&&(decide (ws.length=1)||eachB ws))):=by
 have ce:=QE hw hz;generalize hL:ws.map sD=L at *;have lL:L.length=ws.length:=by rw[<- hL];simp
 generalize eachB ws=b at *
 by_cases h2:ss.length=2
 . have h2' : (ss.length : Int) = 2 := by omega
   by_cases h1:ws.length=1
   . have h1' : (L.length : Int) = 1 := by omega
     simp[h2,h2',h1,h1',lL]
   . have h1' : ¬ ((ws.length : Int) = 1) := by omega
     cases b<;>simp[h2,h2',h1,h1',lL,ce]
 . have h2' : ¬ ((ss.length : Int) = 2) := by omega
   simp[h2,h2']
theorem MM{w w0:List Nat}{rest:List (List Nat)}(ha:Asc w)(hl:w.length<=9000)(hw:cZ 32 w=w0::rest)(hb:((cZ 61 w0).length=2&&(decide ((w0::rest).length=1)||eachB (w0::rest)))=false):ItemK (txS w) .no:=by
 have asc:∀p∈w0::rest,Asc p:=fun p hp x hx=>ha x ((jK 32 w p (by rw[hw];exact hp)).1 x hx);have l0:w0.length<=9000:=cM (jK 32 w w0 (by rw[hw];exact .head _)).2 hl;have lw:(w0::rest).length<=100000:=by rw[<- hw,xL];have:=kR (a:=32) (l:=w);omega
 have e1:gS1 [.v (.str (txS w)),.no,.no,.no,.no,.no,.no]=some (.nx [.v (.str (txS w)),.v (.lst ((w0::rest).map sD)),.no,.no,.no,.no,.no]):=by
  have:=kG (c:=32) (by decide) (w:=w) (by omega) (f:=zG 0) (ds:=[.v (.str (txS w)),.no,.no,.no,.no,.no,.no]) (by simp) DR;rw[hw] at this;unfold gS1;simp only[jZ,yY,this,aV];rfl
 have e2:gS2 [.v (.str (txS w)),.v (.lst ((w0::rest).map sD)),.no,.no,.no,.no,.no]=some (.nx [.v (.str (txS w)),.v (.lst ((w0::rest).map sD)),.v (.lst ((cZ 61 w0).map sD)),.no,.no,.no,.no]):=by
  have:=kG (c:=61) (by decide) (w:=w0) (by omega) (f:=zI ixD (zG 1) (zA (.int 0))) (ds:=[.v (.str (txS w)),.v (.lst ((w0::rest).map sD)),.no,.no,.no,.no,.no]) (by simp only[yK,jX,qY,aY,aO,aC,bB,ix0D];rfl) XJ;unfold gS2;simp only[jZ,yY,this,aV];rfl
 have e3:=LB (ss:=cZ 61 w0) asc lw (.v (.str (txS w))) .no .no .no .no;have ht:tSh [.v (.str (txS w)),.v (.lst ((w0::rest).map sD)),.v (.lst ((cZ 61 w0).map sD)),.no,.no,.no,.no]=some true:=by rw[e3];exact congrArg some (by rw[QR];exact hb)
 have ar:args 7 [.str (txS w)]=[.v (.str (txS w)),.no,.no,.no,.no,.no,.no]:=by simp[args]
 refine⟨?_,?_,?_,?_,fun l h=>by cases h⟩
 . unfold bA runG dA;rw[ar,zN e1,zN e2];have:qM (ifG tSh (fun _=>none) qD)=fun g ds=>qM (ifG tSh (fun _=>none) qD) g ds:=rfl;simp only[qM,ifG,ht,aC,if_true];rfl
 . unfold bM runX cX;rw[ar];simp only[seqX,e1,e2,ifG,ht,aC,if_true];rfl
 . unfold bE runX bR;rw[ar];simp only[seqX,e1,e2,ifG,ht,aC,if_true];rfl
 . unfold bI runX cN;rw[ar];simp only[seqX,orX,ifX,e1,e2,ht,if_true];rfl
theorem wT{f g:FS}{ds:List Sl}(h:f ds=none):qM f g ds=none:=by simp[h]
theorem qC{f:FS}{x:List Sl->Bool}{ds ds':List Sl}(h:f ds=some (.nx ds')):seqX f x ds=x ds':=by unfold seqX;rw[h]
theorem vZ{f:FS}{x:List Sl->Bool}{ds:List Sl}(h:f ds=none):seqX f x ds=false:=by unfold seqX;rw[h]
theorem GH{f:FS}{x:List Sl->Bool}{ds:List Sl}{r:Ret}(h:f ds=some (.rt r)):seqX f x ds=false:=by unfold seqX;rw[h]
theorem ox{x y:List Sl->Bool}{ds:List Sl}: orX x y ds=(x ds||y ds):=rfl
noncomputable abbrev cNum:FE:=qJ 1 aK (zF (zG 0) zR)
noncomputable abbrev xNum:List Sl->Bool:=callX 1 aS (zF (zG 0) zR)
theorem GW:∀(K:List (List Nat)),(∀p∈K,Asc p/\p.length<=100000)->compL (qL 0) (fun _=>some true) cNum [.no] (K.map sD)=(if K.all numL=true then some (K.map fun p=>.int (valT p)) else none)/\oQ (qL 0) cNum xNum [.no] (K.map sD)=!K.all numL
 |[],_=>⟨rfl,rfl⟩
 | p :: K, h => by
   obtain⟨i1,i2⟩:=GW K fun q hq=>h q (.tail _ hq);obtain⟨n1,n2⟩:=numX (h p (.head _)).1 (h p (.head _)).2
   have c1:cNum [.v (sD p)]=if numL p=true then some (.int (valT p)) else none:=by
    unfold cNum;cases hn:numL p with
    |true=>rw[hn] at n1;simp[sD,n1]
    |false=>rw[hn] at n1;simp[sD,n1]
   have c2:xNum [.v (sD p)]=!numL p:=by
    unfold xNum;simp[callX,sD,n2]
   have g0:qL 0 (sD p) [.no]=some [.v (sD p)]:=rfl;rw[bB,compL,oQ];simp only[g0,aC,if_true,c1,c2];rw[i1,i2];cases hn:numL p with
   | true =>
     cases ha:K.all numL with
     |true=>simp[hn,ha]
     |false=>simp[hn,ha]
   |false=>simp[hn]
noncomputable abbrev g4:FS:=jG 3 (qJ 1 bJ (zF (zI ixD (zG 2) (zA (.int 0))) zR))
noncomputable abbrev g5:FS:=jG 4 (qJ 1 aK (zF (zI ixD (zG 2) (zA (.int 1))) zR))
noncomputable abbrev g6:FS:=jG 5 (mkL (compG (viaA (mkL (stpA (zG 1) (soP (zA (.int 2))) noP 2)) asLT) [none] (qL 0) (fun _=>some true) cNum))
noncomputable abbrev g7:FS:=jG 6 (qJ 2 dW (zF (zI ixD (zG 3) (zA (.int 0))) (zF (zI ixD (zG 3) (zA (.int 1))) zR)))
noncomputable abbrev x4:List Sl->Bool:=callX 1 bH (zF (zI ixD (zG 2) (zA (.int 0))) zR)
noncomputable abbrev x5:List Sl->Bool:=callX 1 aS (zF (zI ixD (zG 2) (zA (.int 1))) zR)
noncomputable abbrev x6:List Sl->Bool:=AZ (viaA (mkL (stpA (zG 1) (soP (zA (.int 2))) noP 2)) asLT) [none] (qL 0) cNum xNum
noncomputable abbrev x7:List Sl->Bool:=callX 2 eB (zF (zI ixD (zG 3) (zA (.int 0))) (zF (zI ixD (zG 3) (zA (.int 1))) zR))
inductive Sh:List (List Nat)->List (List Nat)->Prop
 |one:Sh [] []
 |five (S N:List Nat):Sh [eachL,S,gK,N] [S,N]
noncomputable def ocL(W S N:List Nat):Option Int->Option Int->Oc
 |some a,some b=>if isR a b (valT S) (valT N)=true then .rows (rowsR (a,b,valT S,valT N,valT W)) else .nr
 |_,_=>.nr
noncomputable def ocK(lo bh:Option Int)(W:List Nat):List (List Nat)->Oc
 |[S,N]=>ocL W S N lo bh
 |_=>.rows [((lo,bh),some (valT W))]
noncomputable def ocOf(q:En)(W:List Nat)(K:List (List Nat)):Oc:=if eI (behT q.2.1 q.2.2) (lowT q.1.1 q.1.2)=true then .em else ocK (lowT q.1.1 q.1.2) (behT q.2.1 q.2.2) W K
noncomputable def ocR(R:Option En)(W:List Nat)(K:List (List Nat)):Oc:=match R with
 |none=>.no
 |some q=>if numL W=true then (if K.all numL=true then ocOf q W K else .no) else .no
theorem YL{w0:List Nat}{rest K:List (List Nat)}(h:Sh rest K){ds:List Sl}(hd:ds[1]?=some (.v (.lst ((w0::rest).map sD)))):viaA (mkL (stpA (zG 1) (soP (zA (.int 2))) noP 2)) asLT ds=some (K.map sD):=by
 cases h with
 | one =>
   have pk:wI [sD w0] (some 2) none 2=[]:=by
    have hr:sliceRange (sliceBounds (some 2) none (some 2) 1).1 (sliceBounds (some 2) none (some 2) 1).2.1 (sliceBounds (some 2) none (some 2) 1).2.2=[]:=by decide
    show(sliceRange (sliceBounds (some 2) none (some 2) 1).1 (sliceBounds (some 2) none (some 2) 1).2.1 (sliceBounds (some 2) none (some 2) 1).2.2).filterMap _=_;rw[hr];rfl
   simp[stpA,hd,pk]
 | five S N =>
   have pk:wI [sD w0,sD eachL,sD S,sD gK,sD N] (some 2) none 2=[sD S,sD N]:=by
    have hr:sliceRange (sliceBounds (some 2) none (some 2) 5).1 (sliceBounds (some 2) none (some 2) 5).2.1 (sliceBounds (some 2) none (some 2) 5).2.2=[2,4]:=by decide
    show(sliceRange (sliceBounds (some 2) none (some 2) 5).1 (sliceBounds (some 2) none (some 2) 5).2.1 (sliceBounds (some 2) none (some 2) 5).2.2).filterMap _=_;rw[hr];rfl
   simp[stpA,hd,pk]
theorem XV{a b s t v:Int}(h:isR a b s t=false):cS [R5 a b s t v]=none/\bP [R5 a b s t v]=true:=by
 have e:=vL a b s t v;rw[h] at e
 have s1:dF [R5 a b s t v]=none:=by
  unfold dF runG iF;simp[args,e]
 have s2:cI [R5 a b s t v]=true:=by
  unfold cI runX eM ifX;simp[args,e,dR]
 constructor
 . unfold cS runG iG;simp[args,s1,compG]
 . unfold bP runX eN callX;simp[args,s2]
theorem SN{a b s t v:Int}(h:isR a b s t=true):bP [R5 a b s t v]=false:=by
 have e:=vL a b s t v;rw[h] at e
 have s2:cI [R5 a b s t v]=false:=by
  unfold cI runX eM ifX;simp[args,e,dI]
 unfold bP runX eN callX;simp[args,s2]
theorem JS(s:Spn):∃d,cY [spD s]=some (.val d)/\isD d .non=some (.bl (s.1.isNone||s.2.isNone)):=by
 have le:=OV s;obtain⟨a,b⟩:=s;cases a with
 |none=>exact⟨.non,le,rfl⟩
 | some a =>
   cases b with
   |none=>exact⟨.non,le,rfl⟩
   |some b=>exact⟨_,le,rfl⟩
theorem PC{w w0 E W:List Nat}{rest K:List (List Nat)}{R:Option En}(ha:Asc w)(hl:w.length<=9000)(hw:cZ 32 w=w0::rest)(h61:cZ 61 w0=[E,W])(hs:Sh rest K)(en:Ends E R):ItemK (txS w) (ocR R W K):=by
 have mem:∀p∈w0::rest,Asc p/\p.length<=9000:=fun p hp=>⟨fun x hx=>ha x ((jK 32 w p (by rw[hw];exact hp)).1 x hx),cM (jK 32 w p (by rw[hw];exact hp)).2 hl⟩
 have l0:=(mem w0 (.head _)).2;have aW:Asc W:=fun x hx=>(mem w0 (.head _)).1 x ((jK 61 w0 W (by rw[h61];exact .tail _ (.head _))).1 x hx);have lW:W.length<=9000:=cM (jK 61 w0 W (by rw[h61];exact .tail _ (.head _))).2 l0;have lw:(w0::rest).length<=100000:=by rw[<- hw,xL];have:=kR (a:=32) (l:=w);omega
 have hK:∀p∈K,Asc p/\p.length<=100000:=fun p hp=>by
  have:p∈w0::rest:=by
   cases hs with
   |one=>cases hp
   | five S N =>
     simp only[aF,tF,or_false] at hp;rcases hp with rfl | rfl<;>simp
  exact⟨(mem p this).1,by have:=(mem p this).2;omega⟩
 have e1:gS1 [.v (.str (txS w)),.no,.no,.no,.no,.no,.no]=some (.nx [.v (.str (txS w)),.v (.lst ((w0::rest).map sD)),.no,.no,.no,.no,.no]):=by
  have:=kG (c:=32) (by decide) (w:=w) (by omega) (f:=zG 0) (ds:=[.v (.str (txS w)),.no,.no,.no,.no,.no,.no]) (by simp) DR;rw[hw] at this;unfold gS1;simp only[jZ,yY,this,aV];rfl
 have e2:gS2 [.v (.str (txS w)),.v (.lst ((w0::rest).map sD)),.no,.no,.no,.no,.no]=some (.nx [.v (.str (txS w)),.v (.lst ((w0::rest).map sD)),.v (.lst [sD E,sD W]),.no,.no,.no,.no]):=by
  have:=kG (c:=61) (by decide) (w:=w0) (by omega) (f:=zI ixD (zG 1) (zA (.int 0))) (ds:=[.v (.str (txS w)),.v (.lst ((w0::rest).map sD)),.no,.no,.no,.no,.no]) (by simp only[yK,jX,qY,aY,aO,aC,bB,ix0D];rfl) XJ;rw[h61] at this;unfold gS2;simp only[jZ,yY,this,aV];rfl
 have hsh:(decide ((w0::rest).length=1)||eachB (w0::rest))=true:=by
  cases hs with
  |one=>rfl
  |five S N=>rfl
 have ht:tSh [.v (.str (txS w)),.v (.lst ((w0::rest).map sD)),.v (.lst [sD E,sD W]),.no,.no,.no,.no]=some false:=by
  have:=LB (ss:=[E,W]) (fun p hp=>(mem p hp).1) lw (.v (.str (txS w))) .no .no .no .no;rw[hsh] at this;exact this
 have ar:args 7 [.str (txS w)]=[.v (.str (txS w)),.no,.no,.no,.no,.no,.no]:=by simp[args]
 obtain⟨n1,n2⟩:=numX aW (by omega);obtain⟨c1,c2⟩:=GW K hK;have pk:=fun ds hd=>YL (w0:=w0) hs (ds:=ds) hd;have zK:(K.map sD).length<=16777216:=by cases hs<;>simp
 obtain⟨en1,en2,_⟩:=en;clear mem hK hw h61;generalize hL:(w0::rest).map sD=L at *;generalize txS w=XC at *
 have t3:ifG tSh (fun _=>none) qD [.v (.str XC),.v (.lst L),.v (.lst [sD E,sD W]),.no,.no,.no,.no]=some (.nx [.v (.str XC),.v (.lst L),.v (.lst [sD E,sD W]),.no,.no,.no,.no]):=by
  simp only[ifG,ht,aC,oW,if_false];rfl
 have u3:ifX tSh dR dI [.v (.str XC),.v (.lst L),.v (.lst [sD E,sD W]),.no,.no,.no,.no]=false:=by
  simp only[ifX,ht];rfl
 have ix1:ixD (.lst [sD E,sD W]) (.int 1)=some (sD W):=by simp
 have u4:x4 [.v (.str XC),.v (.lst L),.v (.lst [sD E,sD W]),.no,.no,.no,.no]=R.isNone:=by
  unfold x4;simp[callX,sD,en2]
 delta x4 at u4
 cases R with
 | none =>
   have f4:g4 [.v (.str XC),.v (.lst L),.v (.lst [sD E,sD W]),.no,.no,.no,.no]=none:=by
    unfold g4;simp[sD,en1]
   refine⟨?_,?_,?_,?_,fun l h=>by cases h⟩
   . unfold bA runG dA;rw[ar,zN e1,zN e2,zN t3,wT f4];rfl
   . unfold bM runX cX;rw[ar,qC e1,qC e2,qC t3,vZ f4];rfl
   . unfold bE runX bR;rw[ar,qC e1,qC e2,qC t3,vZ f4];rfl
   . unfold bI runX cN;rw[ar,qC e1,qC e2,ox,u3,qC t3,ox,u4];rfl
 | some q =>
   have f4:g4 [.v (.str XC),.v (.lst L),.v (.lst [sD E,sD W]),.no,.no,.no,.no]=some (.nx [.v (.str XC),.v (.lst L),.v (.lst [sD E,sD W]),.v (.tup [endT q.1.1 q.1.2,endT q.2.1 q.2.2]),.no,.no,.no]):=by
    unfold g4;simp[sD,en1]
   have u5:x5 [.v (.str XC),.v (.lst L),.v (.lst [sD E,sD W]),.v (.tup [endT q.1.1 q.1.2,endT q.2.1 q.2.2]),.no,.no,.no]=!numL W:=by
    unfold x5;simp[callX,sD,n2]
   delta x5 at u5
   obtain⟨sp1,sp2⟩:=spanX q.1.1 q.2.1 q.1.2 q.2.2;cases hn:numL W with
   | false =>
     have f5:g5 [.v (.str XC),.v (.lst L),.v (.lst [sD E,sD W]),.v (.tup [endT q.1.1 q.1.2,endT q.2.1 q.2.2]),.no,.no,.no]=none:=by
      rw[hn] at n1;unfold g5;simp[sD,n1]
     have eo:ocR (some q) W K=.no:=by simp[ocR,hn]
     rw[eo];rw[hn] at u5;refine⟨?_,?_,?_,?_,fun l h=>by cases h⟩
     . unfold bA runG dA;rw[ar,zN e1,zN e2,zN t3,zN f4,wT f5];rfl
     . unfold bM runX cX;rw[ar,qC e1,qC e2,qC t3,qC f4,vZ f5];rfl
     . unfold bE runX bR;rw[ar,qC e1,qC e2,qC t3,qC f4,vZ f5];rfl
     . unfold bI runX cN;rw[ar,qC e1,qC e2,ox,u3,qC t3,ox,u4,qC f4,ox,u5];rfl
   | true =>
     rw[hn] at n1 u5
     have f5:g5 [.v (.str XC),.v (.lst L),.v (.lst [sD E,sD W]),.v (.tup [endT q.1.1 q.1.2,endT q.2.1 q.2.2]),.no,.no,.no]=some (.nx [.v (.str XC),.v (.lst L),.v (.lst [sD E,sD W]),.v (.tup [endT q.1.1 q.1.2,endT q.2.1 q.2.2]),.v (.int (valT W)),.no,.no]):=by
      unfold g5;simp[sD,n1]
     generalize endT q.1.1 q.1.2=EA at *;generalize endT q.2.1 q.2.2=EB at *;have pk':=pk [.v (.str XC),.v (.lst L),.v (.lst [sD E,sD W]),.v (.tup [EA,EB]),.v (.int (valT W)),.no,.no] rfl
     have u6:x6 [.v (.str XC),.v (.lst L),.v (.lst [sD E,sD W]),.v (.tup [EA,EB]),.v (.int (valT W)),.no,.no]=!K.all numL:=by
      unfold x6 AZ;rw[pk'];simp only[decide_eq_true (show(K.map sD).length<=sizeLine from zK),Bool.true_and];exact c2
     delta x6 at u6
     have k6:compG (viaA (mkL (stpA (zG 1) (soP (zA (.int 2))) noP 2)) asLT) [none] (qL 0) (fun _=>some true) cNum [.v (.str XC),.v (.lst L),.v (.lst [sD E,sD W]),.v (.tup [EA,EB]),.v (.int (valT W)),.no,.no]=(if K.all numL=true then some (K.map fun p=>.int (valT p)) else none):=by
      unfold compG;rw[pk',aC,if_pos (show(K.map sD).length<=sizeLine from zK)];exact c1
     cases hk:K.all numL with
     | false =>
       rw[hk] at u6 k6
       have f6:g6 [.v (.str XC),.v (.lst L),.v (.lst [sD E,sD W]),.v (.tup [EA,EB]),.v (.int (valT W)),.no,.no]=none:=by
        unfold g6;simp only[jZ,yY,k6];rfl
       have eo:ocR (some q) W K=.no:=by simp[ocR,hn,hk]
       rw[eo];refine⟨?_,?_,?_,?_,fun l h=>by cases h⟩
       . unfold bA runG dA;rw[ar,zN e1,zN e2,zN t3,zN f4,zN f5,wT f6];rfl
       . unfold bM runX cX;rw[ar,qC e1,qC e2,qC t3,qC f4,qC f5,vZ f6];rfl
       . unfold bE runX bR;rw[ar,qC e1,qC e2,qC t3,qC f4,qC f5,vZ f6];rfl
       . unfold bI runX cN;rw[ar,qC e1,qC e2,ox,u3,qC t3,ox,u4,qC f4,ox,u5,qC f5,u6];rfl
     | true =>
       rw[hk] at u6 k6;have eo:ocR (some q) W K=ocOf q W K:=by simp[ocR,hn,hk]
       rw[eo]
       have f6:g6 [.v (.str XC),.v (.lst L),.v (.lst [sD E,sD W]),.v (.tup [EA,EB]),.v (.int (valT W)),.no,.no]=some (.nx [.v (.str XC),.v (.lst L),.v (.lst [sD E,sD W]),.v (.tup [EA,EB]),.v (.int (valT W)),.v (.lst (K.map fun p=>.int (valT p))),.no]):=by
        unfold g6;simp only[jZ,yY,k6];rfl
       have u11:bI [.str XC]=false:=by
        unfold bI runX cN;rw[ar,qC e1,qC e2,ox,u3,qC t3,ox,u4,qC f4,ox,u5,qC f5,u6];rfl
       have u7:x7 [.v (.str XC),.v (.lst L),.v (.lst [sD E,sD W]),.v (.tup [EA,EB]),.v (.int (valT W)),.v (.lst (K.map fun p=>.int (valT p))),.no]=eI (behT q.2.1 q.2.2) (lowT q.1.1 q.1.2):=by
        unfold x7;simp[callX,sp1]
       have v1:bM [.str XC]=eI (behT q.2.1 q.2.2) (lowT q.1.1 q.1.2):=by
        unfold bM runX cX;rw[ar,qC e1,qC e2,qC t3,qC f4,qC f5,qC f6];exact u7
       cases hah:eI (behT q.2.1 q.2.2) (lowT q.1.1 q.1.2) with
       | true =>
         rw[hah] at sp2 v1
         have f7:g7 [.v (.str XC),.v (.lst L),.v (.lst [sD E,sD W]),.v (.tup [EA,EB]),.v (.int (valT W)),.v (.lst (K.map fun p=>.int (valT p))),.no]=none:=by
          unfold g7;simp[sp2]
         have eo:ocOf q W K=.em:=by unfold ocOf;rw[if_pos hah]
         rw[eo];refine⟨?_,v1,?_,u11,fun l h=>by cases h⟩
         . unfold bA runG dA;rw[ar,zN e1,zN e2,zN t3,zN f4,zN f5,zN f6,wT f7];rfl
         . unfold bE runX bR;rw[ar,qC e1,qC e2,qC t3,qC f4,qC f5,qC f6,vZ f7];rfl
       | false =>
         rw[hah,if_neg (by simp)] at sp2;rw[hah] at v1
         have hlo:okS ((lowT q.1.1 q.1.2,behT q.2.1 q.2.2):Spn):=fun x y e1 e2=>by
          simp only at e1 e2;rw[e1,e2] at hah;simpa[eI] using hah
         have eo:ocOf q W K=ocK (lowT q.1.1 q.1.2) (behT q.2.1 q.2.2) W K:=by unfold ocOf;rw[if_neg (by rw[hah];simp)]
         rw[eo];clear eo;generalize lowT q.1.1 q.1.2=lo at *;generalize behT q.2.1 q.2.2=bh at *
         have f7:g7 [.v (.str XC),.v (.lst L),.v (.lst [sD E,sD W]),.v (.tup [EA,EB]),.v (.int (valT W)),.v (.lst (K.map fun p=>.int (valT p))),.no]=some (.nx [.v (.str XC),.v (.lst L),.v (.lst [sD E,sD W]),.v (.tup [EA,EB]),.v (.int (valT W)),.v (.lst (K.map fun p=>.int (valT p))),.v (spD (lo,bh))]):=by
          unfold g7;simp[sp2]
         cases hs with
         | one =>
           simp only[dO] at f6 f7
           have f8:ifG (notT (testT (zG 5))) (retOG (qI (zF (mkT (qI (zF (yR 6) (zF (yR 4) zR)))) zR))) qD [.v (.str XC),.v (.lst L),.v (.lst [sD E,sD W]),.v (.tup [EA,EB]),.v (.int (valT W)),.v (.lst []),.v (spD (lo,bh))]=some (.rt (.fresh ([((lo,bh),some (valT W))].map rvD))):=by
            simp[rvD,spD]
           show ItemK XC (.rows [((lo,bh),some (valT W))]);refine⟨?_,v1,?_,u11,fun l h=>?_⟩
           . unfold bA runG dA;rw[ar,zN e1,zN e2,zN t3,zN f4,zN f5,zN f6,zN f7,qR f8];rfl
           . unfold bE runX bR;rw[ar,qC e1,qC e2,qC t3,qC f4,qC f5,qC f6,qC f7,GH f8];rfl
           . cases h;exact⟨fun r hr=>by cases bG.mp hr;exact hlo,by simp⟩
         | five S N =>
           simp only[bB,dO] at f6 f7
           have f8:ifG (notT (testT (zG 5))) (retOG (qI (zF (mkT (qI (zF (yR 6) (zF (yR 4) zR)))) zR))) qD [.v (.str XC),.v (.lst L),.v (.lst [sD E,sD W]),.v (.tup [EA,EB]),.v (.int (valT W)),.v (.lst [.int (valT S),.int (valT N)]),.v (spD (lo,bh))]=some (.nx [.v (.str XC),.v (.lst L),.v (.lst [sD E,sD W]),.v (.tup [EA,EB]),.v (.int (valT W)),.v (.lst [.int (valT S),.int (valT N)]),.v (spD (lo,bh))]):=by
            simp
           obtain⟨d,ld,id⟩:=JS (lo,bh)
           have t9:zT (zI isD (qJ 1 cY (zF (zG 6) zR)) (zA .non)) [.v (.str XC),.v (.lst L),.v (.lst [sD E,sD W]),.v (.tup [EA,EB]),.v (.int (valT W)),.v (.lst [.int (valT S),.int (valT N)]),.v (spD (lo,bh))]=some (lo.isNone||bh.isNone):=by
            simp[ld,id]
           by_cases hnn:(lo.isNone||bh.isNone)=true
           . rw [hnn] at t9
             have eo:ocK lo bh W [S,N]=.nr:=by
              cases lo with
              |none=>rfl
              | some a =>
                cases bh with
                |none=>rfl
                |some b=>simp at hnn
             rw[eo];refine⟨?_,v1,?_,u11,fun l h=>by cases h⟩
             . unfold bA runG dA;rw[ar,zN e1,zN e2,zN t3,zN f4,zN f5,zN f6,zN f7,zN f8,wT (by simp only[ifG,t9,aC,if_true])];rfl
             . unfold bE runX bR;rw[ar,qC e1,qC e2,qC t3,qC f4,qC f5,qC f6,qC f7,qC f8,ox];simp only[ifX,t9];rfl
           . have hnf : (lo.isNone || bh.isNone) = false := QS.mpr hnn;rw [hnf] at t9;obtain ⟨a,rfl⟩:∃ a,lo=some a:=by cases lo with | none=>simp at hnf | some a=>exact ⟨a,rfl⟩
             obtain⟨b,rfl⟩:∃b,bh=some b:=by cases bh with | none=>simp at hnf | some b=>exact⟨b,rfl⟩
             have t9':ifG (zT (zI isD (qJ 1 cY (zF (zG 6) zR)) (zA .non))) (fun _=>none) qD [.v (.str XC),.v (.lst L),.v (.lst [sD E,sD W]),.v (.tup [EA,EB]),.v (.int (valT W)),.v (.lst [.int (valT S),.int (valT N)]),.v (spD (some a,some b))]=some (.nx [.v (.str XC),.v (.lst L),.v (.lst [sD E,sD W]),.v (.tup [EA,EB]),.v (.int (valT W)),.v (.lst [.int (valT S),.int (valT N)]),.v (spD (some a,some b))]):=by
              simp only[ifG,t9,aC,oW,if_false];rfl
             have r5:R5 a b (valT S) (valT N) (valT W)=.tup [.int a,.int b,.int (valT S),.int (valT N),.int (valT W)]:=rfl
             have x9v:(callX 1 bP (zF (mkT (qI (zF (zI ixD (zG 6) (zA (.int 0))) (zF (zI ixD (zG 6) (zA (.int 1))) (zF (zI ixD (zG 5) (zA (.int 0))) (zF (zI ixD (zG 5) (zA (.int 1))) (zF (yR 4) zR))))))) zR)) [.v (.str XC),.v (.lst L),.v (.lst [sD E,sD W]),.v (.tup [EA,EB]),.v (.int (valT W)),.v (.lst [.int (valT S),.int (valT N)]),.v (spD (some a,some b))]=bP [R5 a b (valT S) (valT N) (valT W)]:=by
              simp[callX,spD,r5]
             have X9:bE [.str XC]=bP [R5 a b (valT S) (valT N) (valT W)]:=by
              unfold bE runX bR;rw[ar,qC e1,qC e2,qC t3,qC f4,qC f5,qC f6,qC f7,qC f8,ox,qC t9',x9v];simp only[ifX,t9];rfl
             have eo:ocK (some a) (some b) W [S,N]=if isR a b (valT S) (valT N)=true then .rows (rowsR (a,b,valT S,valT N,valT W)) else .nr:=rfl
             rw[eo];clear eo;cases hR:isR a b (valT S) (valT N) with
             | false =>
               obtain⟨r1,r2⟩:=XV (v:=valT W) hR;rw[if_neg (by simp)];refine⟨?_,v1,X9.trans r2,u11,fun l h=>by cases h⟩;unfold bA runG dA;rw[ar,zN e1,zN e2,zN t3,zN f4,zN f5,zN f6,zN f7,zN f8,zN t9'];rw[r5] at r1;simp[spD,r1];rfl
             | true =>
               have okl:okL (a,b,valT S,valT N,valT W)=true:=hR;have rr:=DW okl;have rd:rlD (a,b,valT S,valT N,valT W)=.tup [.int a,.int b,.int (valT S),.int (valT N),.int (valT W)]:=rfl;rw[rd] at rr;have fl:=HN (rowsR (a,b,valT S,valT N,valT W));rw[if_pos rfl];refine⟨?_,v1,X9.trans (SN hR),u11,fun l h=>?_⟩
               . unfold bA runG dA;rw[ar,zN e1,zN e2,zN t3,zN f4,zN f5,zN f6,zN f7,zN f8,zN t9'];generalize (rowsR (a,b,valT S,valT N,valT W))=RR at *;simp[spD,rr,fl];rfl
               . cases h;exact⟨SO okl,(kF okl).1⟩
noncomputable abbrev cRd:FE:=qJ 1 iU (zF (zG 0) zR)
theorem CM:∀(K:List (List Nat)),(∀p∈K,Asc p/\p.length<=100000)->compL (qL 0) (fun _=>some true) cRd [.no] (K.map sD)=some (K.map fun p=>oi (readL p))
 |[],_=>rfl
 | p :: K, h => by
   have i1:=CM K fun q hq=>h q (.tail _ hq);have n1:=sV (h p (.head _)).1 (h p (.head _)).2
   have c1:cRd [.v (sD p)]=some (oi (readL p)):=by
    unfold cRd;simp[sD,n1]
   have g0:qL 0 (sD p) [.no]=some [.v (sD p)]:=rfl;rw[bB,compL];simp only[g0,aC,if_true,c1,i1,aV];rfl
theorem in1n(a:Option Int):inD false .non (.lst [oi a])=some (.bl a.isNone):=by cases a<;>simp[inD,sclD]
theorem in2n(a b:Option Int):inD false .non (.lst [oi a,oi b])=some (.bl (a.isNone||b.isNone)):=by cases a<;>cases b<;>simp[inD,sclD]
theorem in3n(a b c:Option Int):inD false .non (.lst [oi a,oi b,oi c])=some (.bl (a.isNone||(b.isNone||c.isNone))):=by cases a<;>cases b<;>cases c<;>simp[inD,sclD]
theorem eqQ(R:Option En):eqD (.lst (listQ R)) (.lst [])=some (.bl R.isNone):=by
 cases R with
 |none=>rw[wC (by simp[listQ]) (by simp)];simp[listQ]
 |some q=>rw[wC (by simp[listQ]) (by simp)];simp[listQ]
noncomputable abbrev tW:FT:=andT (zT (zI neD (callB lenD (zF (zG 1) zR)) (zA (.int 1)))) (orT (zT (zI neD (callB lenD (zF (zG 1) zR)) (zA (.int 5)))) (orT (zT (zI neD (zI ixD (zG 1) (zA (.int 1))) (zA (.str (Str.ofString "each"))))) (zT (zI neD (zI ixD (zG 1) (zA (.int 3))) (zA (.str (Str.ofString "times")))))))
theorem RS{ws:List (List Nat)}(hw:∀p∈ws,Asc p)(hz:ws.length<=100000)(x0 x2 x3 x4 x5 x6:Sl):tW [x0,.v (.lst (ws.map sD)),x2,x3,x4,x5,x6]=some (!(decide (ws.length=1)||eachB ws)):=by
 unfold tW
 by_cases h1:ws.length=1
 . have h1' : (ws.length : Int) = 1 := by omega
   simp[h1,h1']
 . have h1' : ¬ ((ws.length : Int) = 1) := by omega
   by_cases h5:ws.length=5
   . obtain ⟨a, b, c, d, e, rfl⟩ := fiveL h5;have e1:=GZ (hw b (by simp)) (jE (cs:=eachL) rfl);have e2:=GZ (hw d (by simp)) (jE (cs:=gK) rfl);rw [SB,KU];have eb:eachB [a,b,c,d,e]=(decide (b=eachL) && decide (d=gK)):=rfl;rw [eb];have i1:ixD (.lst [sD a,sD b,sD c,sD d,sD e]) (.int 1)=some (.str (txS b)):=by simp [sD]
     have i3:ixD (.lst [sD a,sD b,sD c,sD d,sD e]) (.int 3)=some (.str (txS d)):=by rw[xQ _ (by decide) (by simp)];rfl
     simp only[bB,dO];generalize txS eachL=XE at *;generalize txS gK=XT at *;cases h1:decide (b=eachL) with
     |false=>rw[h1] at e1;simp[i1,i3,e1]
     | true =>
       rw[h1] at e1;cases h2:decide (d=gK) with
       |false=>rw[h2] at e2;simp[i1,i3,e1,e2]
       |true=>rw[h2] at e2;simp[i1,i3,e1,e2]
   . have h5' : ¬ ((ws.length : Int) = 5) := by omega
     rw[AX h5];simp[h1,h1',h5']
theorem TL{w0:List Nat}{rest K:List (List Nat)}(h:Sh rest K){ds:List Sl}(hd:ds[1]?=some (.v (.lst ((w0::rest).map sD)))):stpA (zG 1) (soP (zA (.int 2))) (soP (zA (.int 5))) 2 ds=some (K.map sD):=by
 cases h with
 | one =>
   have pk:wI [sD w0] (some 2) (some 5) 2=[]:=by
    have hr:sliceRange (sliceBounds (some 2) (some 5) (some 2) 1).1 (sliceBounds (some 2) (some 5) (some 2) 1).2.1 (sliceBounds (some 2) (some 5) (some 2) 1).2.2=[]:=by decide
    show(sliceRange (sliceBounds (some 2) (some 5) (some 2) 1).1 (sliceBounds (some 2) (some 5) (some 2) 1).2.1 (sliceBounds (some 2) (some 5) (some 2) 1).2.2).filterMap _=_;rw[hr];rfl
   simp[stpA,hd,pk]
 | five S N =>
   have pk:wI [sD w0,sD eachL,sD S,sD gK,sD N] (some 2) (some 5) 2=[sD S,sD N]:=by
    have hr:sliceRange (sliceBounds (some 2) (some 5) (some 2) 5).1 (sliceBounds (some 2) (some 5) (some 2) 5).2.1 (sliceBounds (some 2) (some 5) (some 2) 5).2.2=[2,4]:=by decide
    show(sliceRange (sliceBounds (some 2) (some 5) (some 2) 5).1 (sliceBounds (some 2) (some 5) (some 2) 5).2.1 (sliceBounds (some 2) (some 5) (some 2) 5).2.2).filterMap _=_;rw[hr];rfl
   simp[stpA,hd,pk]
noncomputable abbrev gW:FS:=jG 1 (mkL (splA (zG 0) (zA (.str (Str.ofString " ")))))
theorem KR{w w0:List Nat}{rest:List (List Nat)}(hl:w.length<=9000)(hw:cZ 32 w=w0::rest):gW [.v (.str (txS w)),.no,.no,.no,.no,.no,.no]=some (.nx [.v (.str (txS w)),.v (.lst ((w0::rest).map sD)),.no,.no,.no,.no,.no]):=by
 have:=kG (c:=32) (by decide) (w:=w) (by omega) (f:=zG 0) (ds:=[.v (.str (txS w)),.no,.no,.no,.no,.no,.no]) (by simp) DR;rw[hw] at this;unfold gW;simp only[jZ,yY,this,aV];rfl
theorem RU{w w0:List Nat}{rest:List (List Nat)}(ha:Asc w)(hl:w.length<=9000)(hw:cZ 32 w=w0::rest)(hb:(decide ((w0::rest).length=1)||eachB (w0::rest))=false):dJ [.str (txS w)]=some (.val Oc.no.t):=by
 have asc:∀p∈w0::rest,Asc p:=fun p hp x hx=>ha x ((jK 32 w p (by rw[hw];exact hp)).1 x hx);have lw:(w0::rest).length<=100000:=by rw[<- hw,xL];have:=kR (a:=32) (l:=w);omega
 have t2:=RS asc lw (.v (.str (txS w))) .no .no .no .no .no;rw[hb] at t2;have ar:args 7 [.str (txS w)]=[.v (.str (txS w)),.no,.no,.no,.no,.no,.no]:=by simp[args]
 refine jT ?_;unfold iY;rw[ar,zN (KR hl hw)];refine qR ((AN t2).trans ?_);simp[Oc.t]
noncomputable abbrev gN:FS:=jG 6 (mkL (compG (viaA (mkL (catA (mkL (qI (zF (yR 4) zR))) (mkL (stpA (zG 1) (soP (zA (.int 2))) (soP (zA (.int 5))) 2)))) asLT) [none] (qL 0) (fun _=>some true) cRd))
theorem vH{w w0 A B:List Nat}{sg:Str}{rest K:List (List Nat)}{R:Option En}(ha:Asc w)(hl:w.length<=9000)(hw:cZ 32 w=w0::rest)(hs:Sh rest K)(hp:prtD (.str (txS w0)) (.str (txS [61]))=some (.tup [.str (txS A),.str sg,.str (txS B)]))(en:Ends A R)(aB:Asc B)(lB:B.length<=9000):dJ [.str (txS w)]=some (.val (ocR R B K).t):=by
 have mem:∀p∈w0::rest,Asc p/\p.length<=9000:=fun p hp=>⟨fun x hx=>ha x ((jK 32 w p (by rw[hw];exact hp)).1 x hx),cM (jK 32 w p (by rw[hw];exact hp)).2 hl⟩
 have lw:(w0::rest).length<=100000:=by rw[<- hw,xL];have:=kR (a:=32) (l:=w);omega
 have hK:∀p∈B::K,Asc p/\p.length<=100000:=fun p hp=>by
  rcases aF.mp hp with rfl | hp
  . exact⟨aB,by omega⟩
  . have:p∈w0::rest:=by
     cases hs with
     |one=>cases hp
     | five S N =>
       simp only[aF,tF,or_false] at hp;rcases hp with rfl | rfl<;>simp
    exact⟨(mem p this).1,by have:=(mem p this).2;omega⟩
 have hsh:(decide ((w0::rest).length=1)||eachB (w0::rest))=true:=by
  cases hs with
  |one=>rfl
  |five S N=>rfl
 have t2:=RS (fun p hp=>(mem p hp).1) lw (.v (.str (txS w))) .no .no .no .no .no;rw[hsh] at t2;have ar:args 7 [.str (txS w)]=[.v (.str (txS w)),.no,.no,.no,.no,.no,.no]:=by simp[args]
 have rc:=CM (B::K) hK;have e1:=KR hl hw
 have e3:asgG (tupG 3 (jF (qL 2) (jF (qL 3) (jF (qL 4) tgNil)))) (zI prtD (zI ixD (zG 1) (zA (.int 0))) (zA (.str (Str.ofString "=")))) [.v (.str (txS w)),.v (.lst ((w0::rest).map sD)),.no,.no,.no,.no,.no]=some (.nx [.v (.str (txS w)),.v (.lst ((w0::rest).map sD)),.v (.str (txS A)),.v (.str sg),.v (.str (txS B)),.no,.no]):=by
  rw[XJ];have i0:ixD (.lst ((w0::rest).map sD)) (.int 0)=some (.str (txS w0)):=by rw[bB,ix0D];rfl
  simp only[NB,yK,jX,qY,aY,aO,aC,i0,hp];simp
 have e4:jG 5 (qJ 1 fR (zF (zG 2) zR)) [.v (.str (txS w)),.v (.lst ((w0::rest).map sD)),.v (.str (txS A)),.v (.str sg),.v (.str (txS B)),.no,.no]=some (.nx [.v (.str (txS w)),.v (.lst ((w0::rest).map sD)),.v (.str (txS A)),.v (.str sg),.v (.str (txS B)),.v (.lst (listQ R)),.no]):=by
  have:=en.sp;simp[this]
 have zK:(K.map sD).length+1<=16777216:=by cases hs<;>simp
 have e5:gN [.v (.str (txS w)),.v (.lst ((w0::rest).map sD)),.v (.str (txS A)),.v (.str sg),.v (.str (txS B)),.v (.lst (listQ R)),.no]=some (.nx [.v (.str (txS w)),.v (.lst ((w0::rest).map sD)),.v (.str (txS A)),.v (.str sg),.v (.str (txS B)),.v (.lst (listQ R)),.v (.lst ((B::K).map fun p=>oi (readL p)))]):=by
  have pk:=TL (w0:=w0) hs (ds:=[.v (.str (txS w)),.v (.lst ((w0::rest).map sD)),.v (.str (txS A)),.v (.str sg),.v (.str (txS B)),.v (.lst (listQ R)),.no]) rfl
  have cm:compG (viaA (mkL (catA (mkL (qI (zF (yR 4) zR))) (mkL (stpA (zG 1) (soP (zA (.int 2))) (soP (zA (.int 5))) 2)))) asLT) [none] (qL 0) (fun _=>some true) cRd [.v (.str (txS w)),.v (.lst ((w0::rest).map sD)),.v (.str (txS A)),.v (.str sg),.v (.str (txS B)),.v (.lst (listQ R)),.no]=some ((B::K).map fun p=>oi (readL p)):=by
   refine wM (items:=(B::K).map sD) ?_ (by simp;simp at zK;omega) rc;have zK':1+(K.map sD).length<=16777216:=by omega
   have zK2:1+K.length<=16777216:=by simpa using zK'
   simp only[XG,yY,MY,pk];simp[sD,zK2]
  unfold gN;simp only[jZ,yY,cm,aV];rfl
 refine jT ?_;unfold iY;rw[ar,zN e1,zN (show ifG tW (retG (zA (.str (Str.ofString "NoText")))) qD [.v (.str (txS w)),.v (.lst ((w0::rest).map sD)),.no,.no,.no,.no,.no]=_ from (JX t2).trans rfl),zN e3,zN e4,zN e5];clear e1 e3 e4 e5 t2 rc ar hp en hK mem hsh;have eq:=eqQ R;have lL:((w0::rest).map sD).length=rest.length+1:=by simp
 generalize hLL:(w0::rest).map sD=L at *;generalize txS w=XC at *;generalize txS A=XA at *;generalize txS B=XB at *;cases R with
 | none =>
   have eq':eqD (.lst []) (.lst [])=some (.bl true):=eq;refine qR ?_;simp[eq',listQ,ocR,Oc.t]
 | some q =>
   have lq:listQ (some q)=[oi (lowT q.1.1 q.1.2),oi (behT q.2.1 q.2.2)]:=rfl;rw[lq] at eq ⊢;have eo:ocR (some q) B K=if numL B=true then (if K.all numL=true then (if eI (behT q.2.1 q.2.2) (lowT q.1.1 q.1.2)=true then .em else ocK (lowT q.1.1 q.1.2) (behT q.2.1 q.2.2) B K) else .no) else .no:=rfl
   rw[eo];clear eo lq;generalize lowT q.1.1 q.1.2=lo at *;generalize behT q.2.1 q.2.2=bh at *;simp only[IM] at eq
   have t7:∀Z:D,(andT (zT (zI notD (zI ixD (zG 5) (zA (.int 0))) (zA .non))) (andT (zT (zI notD (zI ixD (zG 5) (zA (.int 1))) (zA .non))) (zT (zI geD (zI ixD (zG 5) (zA (.int 0))) (zI ixD (zG 5) (zA (.int 1))))))) [.v (.str XC),.v (.lst L),.v (.str XA),.v (.str sg),.v (.str XB),.v (.lst [oi lo,oi bh]),.v Z]=some (eI bh lo):=fun Z=>by
    cases lo with
    |none=>cases bh<;>simp[eI]
    | some x =>
      cases bh with
      |none=>simp[eI]
      |some y=>simp[eI]
   cases hs with
   | one =>
     have l1:(L.length:Int)=1:=by rw[lL];rfl
     have iN:=in1n (readL B);simp only[bB,dO,List.all_nil,if_true];cases hn:numL B with
     | false =>
       have rb:readL B=none:=by simp[readL,hn]
       rw[rb] at iN ⊢;refine qR ?_;simp[eq,Oc.t];simp[iN] at *
       first | done | (simp[inD,sclD])
     | true =>
       have rb:readL B=some (valT B):=by simp[readL,hn]
       rw[rb] at iN ⊢;rw[zN (ds':=[.v (.str XC),.v (.lst L),.v (.str XA),.v (.str sg),.v (.str XB),.v (.lst [oi lo,oi bh]),.v (.lst [oi (some (valT B))])]) (by simp only[ifG,orT,zT,zI,zG,zA,aY,aO,aC,yY,qI,zR,eq,iN];simp[eq])];cases ah:eI bh lo with
       | true =>
         refine qR ((AN (by rw[t7,ah])).trans ?_);simp[Oc.t]
       | false =>
         rw[zN (show ifG _ (retG (zA (.str (Str.ofString "Empty")))) qD [.v (.str XC),.v (.lst L),.v (.str XA),.v (.str sg),.v (.str XB),.v (.lst [oi lo,oi bh]),.v (.lst [oi (some (valT B))])]=_ from (JX (by rw[t7,ah])).trans rfl)];refine qR ?_;simp[l1,ocK,Oc.t]
   | five S N =>
     have l5:(L.length:Int)=5:=by rw[lL];rfl
     have iN:=in3n (readL B) (readL S) (readL N);simp only[bB,dO,mC,List.all_nil,Bool.and_true]
     have bad:((readL B).isNone||((readL S).isNone||(readL N).isNone))=true->∀g:FS,qM (ifG (orT (zT (zI eqD (zG 5) (mkL (qI zR)))) (zT (zI (inD false) (zA .non) (zG 6)))) (retG (zA (.str (Str.ofString "NoText")))) qD) g [.v (.str XC),.v (.lst L),.v (.str XA),.v (.str sg),.v (.str XB),.v (.lst [oi lo,oi bh]),.v (.lst [oi (readL B),oi (readL S),oi (readL N)])]=some (.rt (.val Oc.no.t)):=fun h g=>by
      rw[h] at iN;generalize [oi (readL B),oi (readL S),oi (readL N)]=ZZ at *;refine qR ?_;simp[eq,iN,Oc.t]
     cases hB:numL B with
     |false=>rw[if_neg (by simp)];exact bad (by simp[readL,hB]) _
     | true =>
       cases hS:numL S with
       |false=>rw[if_pos rfl,if_neg (by simp)];exact bad (by simp[readL,hS]) _
       | true =>
         cases hN:numL N with
         |false=>rw[if_pos rfl,if_neg (by simp)];exact bad (by simp[readL,hN]) _
         | true =>
           have rB:readL B=some (valT B):=by simp[readL,hB]
           have rS:readL S=some (valT S):=by simp[readL,hS]
           have rN:readL N=some (valT N):=by simp[readL,hN]
           rw[rB,rS,rN] at iN ⊢;rw[if_pos rfl,if_pos (show(true&&true)=true from rfl)];have iN':inD false .non (.lst [.int (valT B),.int (valT S),.int (valT N)])=some (.bl false):=iN;have ol:oi (some (valT B))=.int (valT B):=rfl;have o2:oi (some (valT S))=.int (valT S):=rfl;have o3:oi (some (valT N))=.int (valT N):=rfl;rw[ol,o2,o3];have i1:ixD (.lst [.int (valT B),.int (valT S),.int (valT N)]) (.int 1)=some (.int (valT S)):=by simp
           have i2:ixD (.lst [.int (valT B),.int (valT S),.int (valT N)]) (.int 2)=some (.int (valT N)):=by simp
           have rl:=fun a b (h:isR a b (valT S) (valT N)=true)=>(kF (r:=(a,b,valT S,valT N,valT B)) h).2;generalize [D.int (valT B),.int (valT S),.int (valT N)]=ZZ at *;rw[zN (ds':=[.v (.str XC),.v (.lst L),.v (.str XA),.v (.str sg),.v (.str XB),.v (.lst [oi lo,oi bh]),.v (.lst ZZ)]) (by simp[eq,iN'])];cases ah:eI bh lo with
           | true =>
             refine qR ((AN (by rw[t7,ah])).trans ?_);simp[Oc.t]
           | false =>
             rw[zN (show ifG _ (retG (zA (.str (Str.ofString "Empty")))) qD [.v (.str XC),.v (.lst L),.v (.str XA),.v (.str sg),.v (.str XB),.v (.lst [oi lo,oi bh]),.v (.lst ZZ)]=_ from (JX (by rw[t7,ah])).trans rfl)];rw[if_neg (by simp)];rw[zN (ds':=[.v (.str XC),.v (.lst L),.v (.str XA),.v (.str sg),.v (.str XB),.v (.lst [oi lo,oi bh]),.v (.lst ZZ)]) (by simp[l5])];have j2:=in2n lo bh;generalize hs':valT S=s at *;generalize hn':valT N=n at *;have ok2:∀c:Oc,c=ocL B S N lo bh->c=ocK lo bh B [S,N]:=fun c h=>h;rw[<- ok2 _ rfl];cases lo with
             | none =>
               refine qR ?_;simp only[IN,Bool.true_or] at j2;generalize [oi none,oi bh]=OO at *;simp[j2,ocL,Oc.t]
             | some a =>
               cases bh with
               | none =>
                 refine qR ?_;simp only[IN,Bool.or_true] at j2;generalize [oi (some a),oi none]=OO at *;simp[j2,ocL,Oc.t]
               | some b =>
                 have hab:a<b:=by simpa[eI] using ah
                 have eo:ocL B S N (some a) (some b)=if isR a b s n=true then .rows (rowsR (a,b,s,n,valT B)) else .nr:=by
                  show(if isR a b (valT S) (valT N)=true then Oc.rows (rowsR (a,b,valT S,valT N,valT B)) else .nr)=_;rw[hs',hn']
                 rw[eo];have j0:ixD (.lst [oi (some a),oi (some b)]) (.int 0)=some (.int a):=by simp
                 have j1:ixD (.lst [oi (some a),oi (some b)]) (.int 1)=some (.int b):=by simp
                 simp only[IM,Bool.or_false] at j2;generalize [oi (some a),oi (some b)]=OO at *
                 by_cases hn1:n<1
                 . have hr : isR a b s n = false := by simp [isR]; omega
                   rw[hr];refine qR ?_;simp[j2,i2,hn1,Oc.t]
                 . by_cases hn2 : 100 < n
                   . have hr : isR a b s n = false := by simp [isR]; omega
                     rw[hr];refine qR ?_;simp[j2,i2,hn1,hn2,Oc.t]
                   . rw [zN (ds' := [.v (.str XC), .v (.lst L), .v (.str XA), .v (.str sg), .v (.str XB), .v (.lst OO), .v (.lst ZZ)]) (by simp [j2, i2, hn1, hn2])]
                     by_cases h1:n=1
                     . by_cases h0 : s = 0
                       . have hr : isR a b s n = true := by simp [isR, h1, h0]; omega
                         have:=rl a b hr;rw[hr,if_pos rfl];rw[zN (ds':=[.v (.str XC),.v (.lst L),.v (.str XA),.v (.str sg),.v (.str XB),.v (.lst OO),.v (.lst ZZ)]) (by simp[i1,i2,h1,h0])];simp only at this;simp[i2,Oc.t,this]
                       . have hr : isR a b s n = false := by simp [isR, h1, h0]
                         rw[hr];refine qR ?_;simp[i1,i2,h1,h0,Oc.t]
                     . have h1' : 1 < n := by omega
                       by_cases h0:s<=b-a
                       . have hr : isR a b s n = false := by simp [isR, h1]; omega
                         rw[hr];refine qR ?_;simp[i1,i2,j0,j1,h1,h1',h0,Oc.t]
                       . have hr : isR a b s n = true := by simp [isR, h1]; omega
                         have:=rl a b hr;rw[hr,if_pos rfl];rw[zN (ds':=[.v (.str XC),.v (.lst L),.v (.str XA),.v (.str sg),.v (.str XB),.v (.lst OO),.v (.lst ZZ)]) (by simp[i1,i2,j0,j1,h1,h1',h0])];simp only at this;simp[i2,Oc.t,this]
theorem ZB{c:Nat}{B:List Nat}(hc:dig c=false)(h45:c≠45)(h:c∈B):numL B=false:=by
 have:(figs B).all dig=false:=by
  rw[QP];refine⟨c,?_,by rw[hc];simp⟩;cases B with
  |nil=>cases h
  | cons a r =>
    show c∈(if a=45 then r else a::r)
    by_cases ha:a=45
    . rw [if_pos ha];rcases aF.mp h with z | z
      . exact(h45 (z.trans ha)).elim
      . exact z
    . rw[if_neg ha];exact h
 simp[numL,this]
theorem UH{R:Option En}{B:List Nat}{K:List (List Nat)}(h:numL B=false):ocR R B K=.no:=by
 cases R with
 |none=>rfl
 |some q=>simp[ocR,h]
theorem JE{x l s r:Str}(h:Txt.partition x (txS [61])=(l,s,r))(hz:x.length<=9000):prtD (.str x) (.str (txS [61]))=some (.tup [.str l,.str s,.str r]):=by
 simp only[prtD,h];rw[if_pos ⟨rfl,by rw[szl];omega⟩]
theorem ZN{w:List Nat}(ha:Asc w)(hl:w.length<=9000):∃o,ItemK (txS w) o/\dJ [.str (txS w)]=some (.val o.t):=by
 obtain⟨w0,rest,hw⟩:∃w0 rest,cZ 32 w=w0::rest:=by
  cases h:cZ 32 w with
  |nil=>exact(GJ 32 w h).elim
  |cons a b=>exact⟨a,b,rfl⟩
 have m0:=jK 32 w w0 (by rw[hw];exact .head _);have a0:Asc w0:=fun x hx=>ha x (m0.1 x hx);have l0:w0.length<=9000:=cM m0.2 hl;have lt0:(txS w0).length<=9000:=by rw[jR];exact l0
 by_cases hsh:(decide ((w0::rest).length=1)||eachB (w0::rest))=false
 . exact⟨.no,MM ha hl hw (by rw[hsh];simp),RU ha hl hw hsh⟩
 . have hsh:(decide ((w0::rest).length=1)||eachB (w0::rest))=true:=by
    cases h:(decide ((w0::rest).length=1)||eachB (w0::rest)) with
    |true=>rfl
    |false=>exact(hsh h).elim
   obtain⟨K,hK⟩:∃K,Sh rest K:=by
    rcases fO.mp hsh with h | h
    . have:rest=[]:=by
       have:=of_decide_eq_true h;simpa using this
      subst this;exact⟨_,.one⟩
    . by_cases h5 : (w0 :: rest).length = 5
      . obtain⟨a, b, c, d, e, e5⟩ := fiveL h5;cases e5;have:(decide (b=eachL)&&decide (d=gK))=true:=h;obtain⟨h1,h2⟩:=IS.mp this;have h1:=of_decide_eq_true h1;have h2:=of_decide_eq_true h2;subst h1;subst h2;exact⟨_,.five c e⟩
      . rw[AX h5] at h;cases h
   by_cases hc:w0.count 61=1
   . obtain ⟨E, W, rfl, k1, k2, es⟩ := kE (c := 61) (by decide) hc
     have h61:cZ 61 (E++61::W)=[E,W]:=by
      rw[GK _ (by decide)] at es;have e2:(cZ 61 (E++61::W)).map txS=[E,W].map txS:=es;have:=congrArg (List.map fun x:Str=>x.cps.toList) e2;rw[fV,fV] at this;have id':((fun x:Str=>x.cps.toList) ∘ txS)=id:=by funext y;simp[txS]
      rw[id',IR,IR] at this;exact this
     have aE:Asc E:=fun x hx=>a0 x (by simp[hx]);have aW:Asc W:=fun x hx=>a0 x (by simp[hx]);obtain⟨R,en⟩:=both aE (by simp at l0;omega);exact⟨ocR R W K,PC ha hl hw h61 hK en,vH ha hl hw hK (JE (vF k1) lt0) en aW (by simp at l0;omega)⟩
   . have hlen : (cZ 61 w0).length ≠ 2 := by rw [xL]; omega
     refine⟨.no,MM ha hl hw (by simp[hlen]),?_⟩
     by_cases hm:61∈w0
     . obtain ⟨A, B, rfl, hA⟩ := BJ hm
       have hB:61∈B:=by
        have:(A++61::B).count 61=B.count 61+1:=by
         rw[iO,iA,fW.mpr hA];simp
        have h0:B.count 61≠0:=by omega
        exact NF.mp (Nat.pos_of_ne_zero h0)
       have aA:Asc A:=fun x hx=>a0 x (by simp[hx]);have aB:Asc B:=fun x hx=>a0 x (by simp[hx]);obtain⟨R,en⟩:=both aA (by simp at l0;omega);have:=vH ha hl hw hK (JE (vF hA) lt0) en aB (by simp at l0;omega)
       rwa [UH (ZB (by decide) (by decide) hB)] at this
     . obtain ⟨R, en⟩ := both a0 l0;have:=vH (B:=[]) ha hl hw hK (JE (OE hm) lt0) en (fun _ h=>nomatch h) (cL _)
       rwa [UH (by decide)] at this
noncomputable def eG:List Oc->Nat
 |[]=>0
 |o::r=>if o.c=0 then eG r else o.c
noncomputable def rowsO:Oc->List Rv
 | .rows l=>l
 |_=>[]
theorem ZX(X:Sl)(acc:List Rv){x:Str}{o:Oc}(h:ItemK x o)(hz:acc.length+100<16777216):cD [X,.own (acc.map rvD),.v (.str x)]=if o.c=0 then some (.nx [X,.own ((acc++rowsO o).map rvD),.v (.str x)]) else none:=by
 have e:=h.f;cases o with
 | rows l =>
   have l1:(acc.map rvD).length+(l.map rvD).length<=16777216:=by have:=(h.ok l rfl).2;simp;omega
   have e:bA [.str x]=some (.fresh (l.map rvD)):=e;unfold cD;rw[if_pos (show(Oc.rows l).c=0 from rfl)];show _=some (Out.nx [X,.own ((acc++l).map rvD),.v (.str x)]);rw[fY];generalize acc.map rvD=P at *;generalize l.map rvD=Q at *;simp[e,l1]
 |no=>have e:bA [.str x]=none:=e;unfold cD;simp[e,Oc.c]
 |em=>have e:bA [.str x]=none:=e;unfold cD;simp[e,Oc.c]
 |nr=>have e:bA [.str x]=none:=e;unfold cD;simp[e,Oc.c]
noncomputable def xOf:Nat->List D->Bool
 |1=>bM
 |9=>bE
 |11=>bI
 |_=>fun _=>false
theorem ItemK.x{x:Str}{o:Oc}(h:ItemK x o)(t:Nat)(ht:t=1\/t=9\/t=11):xOf t [.str x]=decide (o.c=t):=by
 rcases ht with rfl | rfl | rfl
 . exact h.x1
 . exact h.x9
 . exact h.x11
theorem loopK(X:Sl)(t:Nat)(ht:t=1\/t=9\/t=11):∀(its:List (Str×Oc)) (acc:List Rv) (y:Sl),(∀i∈its,ItemK i.1 i.2)->acc.length+100*its.length<16777216 →
  (∃y',jH (qL 2) cD (its.map fun i=>.str i.1) [X,.own (acc.map rvD),y]=if eG (its.map (·.2))=0 then some (.nx [X,.own ((acc++its.flatMap (fun i=>rowsO i.2)).map rvD),y']) else none) ∧
  loopX (qL 2) cD (extX 1 (callX 1 (xOf t) (zF (zG 2) zR))) (its.map fun i=>.str i.1) [X,.own (acc.map rvD),y]=decide (eG (its.map (·.2))=t)
 |[],acc,y,_,_=>⟨⟨y,by simp[jH,eG]⟩,by rcases ht with rfl | rfl | rfl<;>rfl⟩
 | i :: its, acc, y, h, hz => by
   simp only[aG] at hz;have hi:=h i (.head _);have t1:=ZX X acc hi (by omega);have hx:=hi.x t ht;have g0:qL 2 (.str i.1) [X,.own (acc.map rvD),y]=some [X,.own (acc.map rvD),.v (.str i.1)]:=rfl
   have e0:extX 1 (callX 1 (xOf t) (zF (zG 2) zR)) [X,.own (acc.map rvD),.v (.str i.1)]=decide (i.2.c=t):=by
    unfold extX callX;simp[hx]
   by_cases hc:i.2.c=0
   . rw [if_pos hc] at t1
     have hl:(rowsO i.2).length<=100:=by
      cases ho:i.2 with
      |rows l=>exact(hi.ok l ho).2
      |no=>exact cL _
      |em=>exact cL _
      |nr=>exact cL _
     obtain⟨⟨y',ih1⟩,ih2⟩:=loopK X t ht its (acc++rowsO i.2) (.v (.str i.1)) (fun q hq=>h q (.tail _ hq)) (by simp only[bO];omega);have fc:eG ((i::its).map (·.2))=eG (its.map (·.2)):=by simp[eG,hc]
     rw[fc];refine⟨⟨y',?_⟩,?_⟩
     . simp only[bB, jH, g0, aC, t1, rA];rw[ih1,gH]
     . simp only [bB, loopX, g0, e0, t1];rw [ih2];have:decide (i.2.c=t)=false:=by rw [hc]; rcases ht with rfl | rfl | rfl <;> rfl
       rw[this];rfl
   . rw [if_neg hc] at t1;have fc:eG ((i::its).map (·.2))=i.2.c:=by simp [eG,hc]
     rw[fc];refine⟨⟨y,?_⟩,?_⟩
     . simp only[bB, jH, g0, aC, t1];rw[if_neg hc];rfl
     . simp only[bB, loopX, g0, e0, t1];simp
noncomputable def nmC:Nat->Str
 |0=>Str.ofString "list"
 |1=>Str.ofString "Empty"
 |9=>Str.ofString "NoRule"
 |10=>Str.ofString "TooMuch"
 |_=>Str.ofString "NoText"
noncomputable def hot(k:Nat):List D:=[.bl (decide (k=0)),.bl (decide (k=1)),.bl (decide (k=2)),.bl (decide (k=3))]
noncomputable def nm4:Nat->Str
 |0=>Str.ofString "NoText"
 |1=>Str.ofString "Empty"
 |2=>Str.ofString "NoRule"
 |_=>Str.ofString "TooMuch"
theorem eqB4(a b c d e f g h:Bool):eqD (.lst [.bl a,.bl b,.bl c,.bl d]) (.lst [.bl e,.bl f,.bl g,.bl h])=some (.bl (decide (a=e)&&(decide (b=f)&&(decide (c=g)&&decide (d=h))))):=by
 rw[wC (by simp) (by simp)];simp
theorem eqB40(e f g h:Bool):eqD (.lst []) (.lst [.bl e,.bl f,.bl g,.bl h])=some (.bl false):=by
 rw[wC (by simp) (by simp)];simp
theorem HE{k:Nat}{kI:Int}(hk:kI=(k:Int))(x0 x1 x2 x3:Sl):compG (rng1 (zA (.int 4))) [none,some 4] (qL 0) (fun _=>some true) (zI eqD (zG 1) (zG 0)) [x0,x1,x2,x3,.v (.int kI)]=some (hot k):=by
 refine wM (items:=[.int 0,.int 1,.int 2,.int 3]) ?_ (by simp) ?_
 . have : okR 4 := wN (by decide) (by decide);simp[this];rfl
 . have h0 : decide (kI = 0) = decide (k = 0) := by rw [decide_eq_decide]; omega
   have h1:decide (kI=1)=decide (k=1):=by rw[decide_eq_decide];omega
   have h2:decide (kI=2)=decide (k=2):=by rw[decide_eq_decide];omega
   have h3:decide (kI=3)=decide (k=3):=by rw[decide_eq_decide];omega
   unfold hot;rw[<- h0,<- h1,<- h2,<- h3];simp[compL,yI]
theorem FJ{k i:Nat}{kI:Int}(hkI:kI=(k:Int))(hk:k<4)(hi:i<4)(x0 x2 x3:Sl):dY [x0,.v (.lst (hot i)),x2,x3,.v (.int kI)]=if i=k then some (.rt (.val (.str (nm4 k)))) else some (.nx [x0,.v (.lst (hot i)),x2,x3,.v (.int kI)]):=by
 have hc:=HE hkI x0 (.v (.lst (hot i))) x2 x3;unfold dY
 have eq:eqD (.lst (hot i)) (.lst (hot k))=some (.bl (decide (i=k))):=by
  unfold hot;rw[eqB4];congr 2;rcases(by omega:k=0\/k=1\/k=2\/k=3) with rfl | rfl | rfl | rfl<;>rcases(by omega:i=0\/i=1\/i=2\/i=3) with rfl | rfl | rfl | rfl<;>rfl
 by_cases h:i=k
 . subst h;have eq:eqD (.lst (hot i)) (.lst (hot i))=some (.bl true):=by rw [eq]; simp
   generalize hot i=HH at *;rw[if_pos rfl]
   have nmx:ixD (.lst [.str (Str.ofString "NoText"),.str (Str.ofString "Empty"),.str (Str.ofString "NoRule"),.str (Str.ofString "TooMuch")]) (.int kI)=some (.str (nm4 i)):=by
    rw[xQ _ (by omega) (by simp;omega)];have:kI.toNat=i:=by omega
    rw[this];rcases(by omega:i=0\/i=1\/i=2\/i=3) with rfl | rfl | rfl | rfl<;>rfl
   simp[hc,eq,nmx]
 . rw[decide_eq_false h] at eq;rw[if_neg h];generalize hot i=HH at *;generalize hot k=HK at *;simp[hc,eq]
theorem FI{k:Nat}{kI:Int}(hkI:kI=(k:Int))(x0 x2 x3:Sl):dY [x0,.v (.lst []),x2,x3,.v (.int kI)]=some (.nx [x0,.v (.lst []),x2,x3,.v (.int kI)]):=by
 have hc:=HE hkI x0 (.v (.lst [])) x2 x3;have eq:eqD (.lst []) (.lst (hot k))=some (.bl false):=eqB40 _ _ _ _;unfold dY;generalize hot k=HK at *;simp[hc,eq]
theorem vU(i:Nat)(hi:i<4)(x0 x2 x3 x4:Sl):jH (qL 4) dY [.int 0,.int 1,.int 2,.int 3] [x0,.v (.lst (hot i)),x2,x3,x4]=some (.rt (.val (.str (nm4 i)))):=by
 have b0:=FJ (k:=0) (kI:=0) rfl (by decide) hi x0 x2 x3;have b1:=FJ (k:=1) (kI:=1) rfl (by decide) hi x0 x2 x3;have b2:=FJ (k:=2) (kI:=2) rfl (by decide) hi x0 x2 x3;have b3:=FJ (k:=3) (kI:=3) rfl (by decide) hi x0 x2 x3;rcases(by omega:i=0\/i=1\/i=2\/i=3) with rfl | rfl | rfl | rfl
 . simp[jH,b0]
 . simp[jH,b0,b1]
 . simp[jH,b0,b1,b2]
 . simp[jH,b0,b1,b2,b3]
theorem UW(x0 x2 x3 x4:Sl):jH (qL 4) dY [.int 0,.int 1,.int 2,.int 3] [x0,.v (.lst []),x2,x3,x4]=some (.nx [x0,.v (.lst []),x2,x3,.v (.int 3)]):=by
 have b0:=FI (k:=0) (kI:=0) rfl x0 x2 x3;have b1:=FI (k:=1) (kI:=1) rfl x0 x2 x3;have b2:=FI (k:=2) (kI:=2) rfl x0 x2 x3;have b3:=FI (k:=3) (kI:=3) rfl x0 x2 x3;simp[jH,b0,b1,b2,b3]
structure Rd(d:D)(c:Nat):Prop where
 f:c=0->∃l,kL [d]=some (.fresh l)
 x1:cP [d]=decide (c=1)
 x9:cO [d]=decide (c=9)
 x10:bY [d]=decide (c=10)
 x11:cJ [d]=decide (c=11)
 mem:c=0\/c=1\/c=9\/c=10\/c=11
theorem GC{d:D}{c:Nat}(h:Rd d c):gM [d]=some (.val (.str (nmC c))):=by
 obtain⟨hf,h1,h9,h10,h11,hm⟩:=h;refine jT ?_;unfold mI;have ar:args 5 [d]=[.v d,.no,.no,.no,.no]:=by simp[args]
 have rg:rng1 (zA (.int 4))=fun ds=>rng1 (zA (.int 4)) ds:=rfl
 have fr:∀x0 x1 x2 x3 x4:Sl,forG (rng1 (zA (.int 4))) (qL 4) dY [x0,x1,x2,x3,x4]=jH (qL 4) dY [.int 0,.int 1,.int 2,.int 3] [x0,x1,x2,x3,x4]:=fun x0 x1 x2 x3 x4=>by
  have:okR 4:=wN (by decide) (by decide);rw[wD];simp[this];rfl
 rw[ar,zN (ds':=[.v d,.v (.lst []),.no,.no,.no]) (by simp),zN (ds':=[.v d,.v (.lst []),.v .non,.no,.no]) (by simp)];rcases hm with rfl | rfl | rfl | rfl | rfl
 . obtain ⟨l, hf⟩ := hf rfl
   rw[zN (ds':=[.v d,.v (.lst []),.v (.lst l),.no,.no]) (by
    unfold tryG4;rw[if_neg (by simp[callX,h1]),if_neg (by simp[callX,h9]),if_neg (by simp[callX,h10]),if_neg (by simp[callX,h11])]
    simp[hf])]
   rw[zN (ds':=[.v d,.v (.lst []),.v (.lst l),.no,.v (.int 3)]) (by rw[fr];exact UW _ _ _ _)];refine qR ?_;have eqn:eqD (.lst []) (.lst [])=some (.bl true):=by rw[wC (by simp) (by simp)];simp
   have is:isiD "list" (.lst l)=some (.bl true):=by simp[isiD,tyD];rfl
   simp[eqn,is,nmC]
 . rw[zN (ds':=[.v d,.v (.lst (hot 1)),.v .non,.no,.no]) (by
    unfold tryG4;rw[if_pos (by simp[callX,h1])]
    simp[isxG,List.lookup,goneO,hot])]
   exact qR (by rw[fr];exact vU 1 (by decide) _ _ _ _)
 . rw[zN (ds':=[.v d,.v (.lst (hot 2)),.v .non,.no,.no]) (by
    unfold tryG4;rw[if_neg (by simp[callX,h1]),if_pos (by simp[callX,h9])]
    simp[isxG,List.lookup,goneO,hot])]
   exact qR (by rw[fr];exact vU 2 (by decide) _ _ _ _)
 . rw[zN (ds':=[.v d,.v (.lst (hot 3)),.v .non,.no,.no]) (by
    unfold tryG4;rw[if_neg (by simp[callX,h1]),if_neg (by simp[callX,h9]),if_pos (by simp[callX,h10])]
    simp[isxG,List.lookup,goneO,hot])]
   exact qR (by rw[fr];exact vU 3 (by decide) _ _ _ _)
 . rw[zN (ds':=[.v d,.v (.lst (hot 0)),.v .non,.no,.no]) (by
    unfold tryG4;rw[if_neg (by simp[callX,h1]),if_neg (by simp[callX,h9]),if_neg (by simp[callX,h10]),if_pos (by simp[callX,h11])]
    simp[isxG,List.lookup,goneO,hot])]
   exact qR (by rw[fr];exact vU 0 (by decide) _ _ _ _)
theorem CY:∀(ps:List (List Nat)) (p:List Nat),p∈ps->(∀x∈p,x∈join2 ps)/\p.length<=(join2 ps).length
 | [q], p, h => by
   cases bG.mp h;exact⟨fun _ z=>z,aQ _⟩
 | q :: r :: t, p, h => by
   have e:join2 (q::r::t)=q++59::32::join2 (r::t):=rfl;rw[e];rcases aF.mp h with rfl | h
   . exact⟨fun x hx=>by simp[hx],by simp⟩
   . obtain⟨h1, h2⟩ := CY (r :: t) p h;exact⟨fun x hx=>by simp[h1 x hx],by simp;omega⟩
theorem DA:∀(ps:List (List Nat)),ps.length<=(join2 ps).length+1
 |[]=>by simp
 |[q]=>by simp
 | q :: r :: t => by
   have e:join2 (q::r::t)=q++59::32::join2 (r::t):=rfl;have:=DA (r::t);rw[e];simp at this ⊢;omega
theorem VD:∀(ps:List (List Nat)),(∀p∈ps,Asc p/\p.length<=9000)->∃its:List (Str×Oc),its.map (·.1)=ps.map txS/\∀i∈its,ItemK i.1 i.2/\dJ [.str i.1]=some (.val i.2.t)
 |[],_=>⟨[],rfl,fun _ h=>nomatch h⟩
 | p :: ps, h => by
   obtain⟨o,h1,h2⟩:=ZN (h p (.head _)).1 (h p (.head _)).2;obtain⟨its,e,k⟩:=VD ps fun q hq=>h q (.tail _ hq);refine⟨(txS p,o)::its,by simp[e],fun i hi=>?_⟩;rcases aF.mp hi with rfl | hi
   . exact⟨h1,h2⟩
   . exact k i hi
theorem nm_t{o:Oc}(h:o.c≠0):o.t=.str (nmC o.c):=by
 cases o with
 |rows l=>exact(h rfl).elim
 |no=>rfl
 |em=>rfl
 |nr=>rfl
theorem HS(X:Sl):∀(its:List (Str×Oc)) (tot:Int) (y z:Sl),(∀i∈its,dJ [.str i.1]=some (.val i.2.t)) →
  ∃y' z',jH (qL 2) fE (its.map fun i=>.str i.1) [X,.v (.int tot),y,z]=if eG (its.map (·.2))=0 then some (.nx [X,.v (.int (tot+((its.flatMap (fun i=>rowsO i.2)).length:Int))),y',z']) else some (.rt (.val (.str (nmC (eG (its.map (·.2)))))))
 |[],tot,y,z,_=>⟨y,z,by simp[jH,eG]⟩
 | i :: its, tot, y, z, h => by
   have hi:=h i (.head _);have g0:qL 2 (.str i.1) [X,.v (.int tot),y,z]=some [X,.v (.int tot),.v (.str i.1),z]:=rfl
   by_cases hc:i.2.c=0
   . obtain⟨l,hl⟩:∃l,i.2=.rows l:=by
      cases ho:i.2 with
      |rows l=>exact⟨l,rfl⟩
      |no=>rw[ho] at hc;cases hc
      |em=>rw[ho] at hc;cases hc
      |nr=>rw[ho] at hc;cases hc
     have e:dJ [.str i.1]=some (.val (.int (l.length:Int))):=by rw[hi,hl];rfl
     have t1:fE [X,.v (.int tot),.v (.str i.1),z]=some (.nx [X,.v (.int (tot+(l.length:Int))),.v (.str i.1),.v (.int (l.length:Int))]):=by
      unfold fE;simp[e]
     obtain⟨y',z',ih⟩:=HS X its (tot+(l.length:Int)) (.v (.str i.1)) (.v (.int (l.length:Int))) fun q hq=>h q (.tail _ hq);have fc:eG ((i::its).map (·.2))=eG (its.map (·.2)):=by simp[eG,hc]
     rw[fc];refine⟨y',z',?_⟩;simp only[bB,jH,g0,aC,t1,rA];rw[ih];have er:rowsO i.2=l:=by rw[hl];rfl
     rw[er,bO];simp[Int.add_assoc]
   . have e : dJ [.str i.1] = some (.val (.str (nmC i.2.c))) := by rw [hi, nm_t hc]
     have t1:fE [X,.v (.int tot),.v (.str i.1),z]=some (.rt (.val (.str (nmC i.2.c)))):=by
      unfold fE;generalize nmC i.2.c=NM at *;simp[e]
     have fc:eG ((i::its).map (·.2))=i.2.c:=by simp[eG,hc]
     refine⟨y,z,?_⟩;rw[fc,if_neg hc];simp only[bB,jH,g0,aC,t1]
theorem ZJ{rows:List Rv}(h:300<rows.length)(hz:rows.length<=16777216):cE [.lst (rows.map rvD)]=none/\cC [.lst (rows.map rvD)]=true:=by
 have hl:(300:Int)<(rows.length:Int):=by omega
 constructor
 . unfold cE runG iJ;simp[args,hl]
 . unfold cC runX eF ifX;simp[args,hl,dR]
theorem UY{rows:List Rv}(h:rows.length<=300):cC [.lst (rows.map rvD)]=false:=by
 have hl : ¬((300:Int)<(rows.length:Int)):=by omega
 unfold cC runX eF ifX;simp[args,hl,dI]
theorem AW:∀os:List Oc,eG os=0\/eG os=1\/eG os=9\/eG os=11
 |[]=>.inl rfl
 | o :: r => by
   unfold eG
   split
   . exact AW r
   . cases o<;>simp[Oc.c]
theorem LE:∀(its:List (Str×Oc)),(∀i∈its,ItemK i.1 i.2)->(its.flatMap (fun i=>rowsO i.2)).length<=100*its.length/\∀r∈its.flatMap (fun i=>rowsO i.2),okS r.1
 |[],_=>⟨cL _,fun _ h=>nomatch h⟩
 | i :: its, h => by
   obtain⟨h1,h2⟩:=LE its fun q hq=>h q (.tail _ hq);have hi:=h i (.head _)
   have hl:(rowsO i.2).length<=100/\∀r∈rowsO i.2,okS r.1:=by
    cases ho:i.2 with
    |rows l=>exact⟨(hi.ok l ho).2,(hi.ok l ho).1⟩
    |no=>exact⟨cL _,fun _ h=>nomatch h⟩
    |em=>exact⟨cL _,fun _ h=>nomatch h⟩
    |nr=>exact⟨cL _,fun _ h=>nomatch h⟩
   rw[rA,bO,aG];refine⟨by omega,fun r hr=>?_⟩;rcases bU.mp hr with z | z
   . exact hl.2 r z
   . exact h2 r z
theorem XI{cs:List Nat}(ha:Asc cs)(hl:cs.length<=9000):∃c,Rd (.str (txS cs)) c/\lN [.str (txS cs)]=some (.val (.str (nmC c))):=by
 have ee:=vA ha (jE (cs:=[]) rfl);have ar:args 3 [.str (txS cs)]=[.v (.str (txS cs)),.no,.no]:=by simp[args]
 have ar4:args 4 [.str (txS cs)]=[.v (.str (txS cs)),.no,.no,.no]:=by simp[args]
 have t1:ifG (notT (testT (isiG "str" (zG 0)))) (fun _=>none) qD [.v (.str (txS cs)),.no,.no]=some (.nx [.v (.str (txS cs)),.no,.no]):=by simp
 have u1:ifX (notT (testT (isiG "str" (zG 0)))) dR dI [.v (.str (txS cs)),.no,.no]=false:=by simp[ifX,dI]
 by_cases hn:cs=[]
 . rw [decide_eq_true hn] at ee
   have t2:ifG (zT (zI eqD (zG 0) (zA (.str (Str.ofString ""))))) (retOG (qI zR)) qD [.v (.str (txS cs)),.no,.no]=some (.rt (.fresh [])):=by
    rw[kJ];generalize txS cs=XC at *;generalize txS []=X0 at *;simp[ee]
   refine⟨0,⟨fun _=>⟨[],?_⟩,?_,?_,?_,?_,.inl rfl⟩,?_⟩
   . refine jT ?_;unfold iZ;rw[ar,zN t1,qR t2]
   . unfold cP runX dU;rw[ar,qC t1,GH t2];rfl
   . unfold cO runX dS;rw[ar,qC t1,GH t2];rfl
   . unfold bY runX cW;rw[ar,qC t1,GH t2];rfl
   . unfold cJ runX dM;rw[ar,ox,u1,qC t1,GH t2];rfl
   . refine jT ?_;unfold hV;rw[ar4,zN (ds':=[.v (.str (txS cs)),.v (.int 0),.no,.no]) (by simp)];refine qR ?_;rw[kJ];generalize txS cs=XC at *;generalize txS []=X0 at *;simp[ee,nmC]
 . rw [decide_eq_false hn] at ee;have hj:=StrLaws.join_split (txS cs) (txS [59,32]);obtain ⟨ps,hps⟩:∃ ps:List (List Nat),Txt.split (txS cs) (txS [59,32])=ps.map txS:=⟨(Txt.split (txS cs) (txS [59,32])).map fun x=>x.cps.toList,by rw [fV]; exact (List.map_id'' (fun x=>yP x) _).symm⟩
   rw[hps,AL,tU] at hj
   have hp:∀p∈ps,Asc p/\p.length<=9000:=fun p hp=>by
    obtain⟨h1,h2⟩:=CY ps p hp;rw[hj] at h1 h2;exact⟨fun x hx=>ha x (h1 x hx),by omega⟩
   have hc:=DA ps;rw[hj] at hc;obtain⟨its,e1,e2⟩:=VD ps hp;have li:its.length=ps.length:=by have:=congrArg List.length e1;simpa using this
   have hk:∀i∈its,ItemK i.1 i.2:=fun i hi=>(e2 i hi).1
   have hsp:(Txt.split (txS cs) (txS [59,32])).map D.str=its.map fun i=>.str i.1:=by
    rw[hps,<- e1,fV];rfl
   have z1:cs.length+2<=16777216:=by omega
   have sp:∀ds:List Sl,ds[0]?=some (.v (.str (txS cs)))->viaA (mkL (splA (zG 0) (zA (.str (Str.ofString "; "))))) asLT ds=some (its.map fun i=>.str i.1):=fun ds h=>by
    rw[RX]
    have:splA (zG 0) (zA (.str (txS [59,32]))) ds=some (its.map fun i=>.str i.1):=by
     simp only[splA,jX,h,qY,aC];rw[if_pos ⟨rfl,by rw[jR,szl];exact z1⟩,hsp]
    simp[this]
   have t2:ifG (zT (zI eqD (zG 0) (zA (.str (Str.ofString ""))))) (retOG (qI zR)) qD [.v (.str (txS cs)),.no,.no]=some (.nx [.v (.str (txS cs)),.no,.no]):=by
    rw[kJ];generalize txS cs=XC at *;generalize txS []=X0 at *;simp[ee]
   have t3:setOG 1 (qI zR) [.v (.str (txS cs)),.no,.no]=some (.nx [.v (.str (txS cs)),.own [],.no]):=by simp
   obtain⟨rl,rok⟩:=LE its hk;have hz:([]:List Rv).length+100*its.length<16777216:=by simp;omega
   have LK:=fun t ht=>loopK (.v (.str (txS cs))) t ht its [] .no hk hz;obtain⟨⟨y',lg⟩,_⟩:=LK 1 (.inl rfl);obtain⟨y2,z2,dl⟩:=HS (.v (.str (txS cs))) its 0 .no .no fun i hi=>(e2 i hi).2;have fm:=AW (its.map (·.2));simp only[kY,dO] at lg;simp only[Int.zero_add] at dl;have sp3:=sp [.v (.str (txS cs)),.own [],.no] rfl;have sp4:=sp [.v (.str (txS cs)),.v (.int 0),.no,.no] rfl
   have fr:forG (viaA (mkL (splA (zG 0) (zA (.str (Str.ofString "; "))))) asLT) (qL 2) cD [.v (.str (txS cs)),.own [],.no]=jH (qL 2) cD (its.map fun i=>.str i.1) [.v (.str (txS cs)),.own [],.no]:=by
    rw[wD,sp3,aC]
   have X1:cP [.str (txS cs)]=decide (eG (its.map (·.2))=1):=by
    unfold cP runX dU;rw[ar,qC t1,qC t2,qC t3];unfold forX;rw[sp3];exact(LK 1 (.inl rfl)).2
   have X9:cO [.str (txS cs)]=decide (eG (its.map (·.2))=9):=by
    unfold cO runX dS;rw[ar,qC t1,qC t2,qC t3];unfold forX;rw[sp3];exact(LK 9 (.inr (.inl rfl))).2
   have X11:cJ [.str (txS cs)]=decide (eG (its.map (·.2))=11):=by
    unfold cJ runX dM;rw[ar,ox,u1,qC t1,qC t2,qC t3];unfold forX;rw[sp3];exact(LK 11 (.inr (.inr rfl))).2
   have D4:jG 1 (zA (.int 0)) [.v (.str (txS cs)),.no,.no,.no]=some (.nx [.v (.str (txS cs)),.v (.int 0),.no,.no]):=by simp
   have D5:ifG (zT (zI eqD (zG 0) (zA (.str (Str.ofString ""))))) (retG (zA (.str (Str.ofString "list")))) qD [.v (.str (txS cs)),.v (.int 0),.no,.no]=some (.nx [.v (.str (txS cs)),.v (.int 0),.no,.no]):=by
    rw[kJ];generalize txS cs=XC at *;generalize txS []=X0 at *;simp[ee]
   have D6:forG (viaA (mkL (splA (zG 0) (zA (.str (Str.ofString "; "))))) asLT) (qL 2) fE [.v (.str (txS cs)),.v (.int 0),.no,.no]=jH (qL 2) fE (its.map fun i=>.str i.1) [.v (.str (txS cs)),.v (.int 0),.no,.no]:=by
    rw[wD,sp4,aC]
   generalize hF:eG (its.map (·.2))=F at *
   by_cases h0:F=0
   . rw [if_pos h0] at lg dl;subst h0;generalize hRR:its.flatMap (fun i=>rowsO i.2)=RR at *;have fr':=fr.trans lg
     by_cases h3:RR.length<=300
     . have n3 : ¬ ((300 : Int) < (RR.length : Int)) := by omega
       refine⟨0,⟨fun _=>⟨(hJ RR).map rwD,?_⟩,X1,X9,?_,X11,.inl rfl⟩,?_⟩
       . refine jT ?_;have lr:=EQ rok h3;have fl:flats ((hJ RR).map rwD)=true:=wA _;unfold iZ;rw[ar,zN t1,zN t2,zN t3,zN fr'];generalize RR.map rvD=P at *;generalize (hJ RR).map rwD=Q at *;simp[lr,fl]
       . have ly := UY h3;unfold bY runX cW;rw[ar,qC t1,qC t2,qC t3,qC fr'];generalize RR.map rvD=P at *;simp[callX,ly]
       . refine jT ?_;unfold hV;rw[ar4,zN D4,zN D5,zN (D6.trans dl)];rw[zN (ds':=[.v (.str (txS cs)),.v (.int (RR.length:Int)),y2,z2]) (by simp[n3])];simp[nmC]
     . have n3 : (300 : Int) < (RR.length : Int) := by omega
       obtain⟨l1,l2⟩:=ZJ (rows:=RR) (by omega) (by omega);refine⟨10,⟨(fun h=>by cases h),X1,X9,?_,X11,.inr (.inr (.inr (.inl rfl)))⟩,?_⟩
       . unfold bY runX cW;rw[ar,qC t1,qC t2,qC t3,qC fr'];generalize RR.map rvD=P at *;simp[callX,l2]
       . refine jT ?_;unfold hV;rw[ar4,zN D4,zN D5,zN (D6.trans dl)];refine qR ?_;simp[n3,nmC]
   . rw [if_neg h0] at lg dl;have fr':=fr.trans lg;refine ⟨F,⟨fun h=>(h0 h).elim,X1,X9,?_,X11,by omega⟩,?_⟩
     . unfold bY runX cW;rw [ar,qC t1,qC t2,qC t3,vZ fr'];have:F≠10:=by omega
       simp[this]
     . refine jT ?_;unfold hV;rw[ar4,zN D4,zN D5,qR (D6.trans dl)]
noncomputable def Gd(g:FS)(ds:List Sl)(P:Ret->Prop):Prop:=∃r,g ds=some (.rt r)/\P r
theorem sX{f g:FS}{ds:List Sl}{P:Ret->Prop}(Q:List Sl->Prop)(h1:∃ds',f ds=some (.nx ds')/\Q ds')(h2:∀ds',Q ds'->Gd g ds' P):Gd (qM f g) ds P:=by
 obtain⟨ds',e,q⟩:=h1;obtain⟨r,e2,p⟩:=h2 ds' q;exact⟨r,by rw[zN e];exact e2,p⟩
theorem kH{f g:FS}{ds ds':List Sl}{P:Ret->Prop}(h1:f ds=some (.nx ds'))(h2:Gd g ds' P):Gd (qM f g) ds P:=sX (· = ds') ⟨_,h1,rfl⟩ fun _ e=>by rw[e];exact h2
theorem gd_rt{f g:FS}{ds:List Sl}{P:Ret->Prop}(h:Gd f ds P):Gd (qM f g) ds P:=by
 obtain⟨r,e,p⟩:=h;exact⟨r,qR e,p⟩
noncomputable def Tx(n:Nat)(w:List Nat):Prop:=Asc w/\w.length<=n
theorem Tx.app{a b:List Nat}{n m:Nat}(h:Tx n a)(g:Tx m b):Tx (n+m) (a++b):=⟨fun x hx=>(bU.mp hx).elim (h.1 x) (g.1 x),by rw[bO];exact Nat.add_le_add h.2 g.2⟩
theorem Tx.mono{a:List Nat}{n m:Nat}(h:Tx n a)(g:n<=m):Tx m a:=⟨h.1,cM h.2 g⟩
theorem yV(w:List Nat)(h:w.all (fun c=>decide (c<1000))=true):Tx w.length w:=⟨jE h,aQ _⟩
theorem IX{n:Int}(h:n.natAbs<10 ^ 61):∃w,strD [.int n]=some (.str (txS w))/\Tx 62 w:=by
 obtain⟨w,e,a,_,l,_⟩:=SG n h;exact⟨w,e,a,l⟩
theorem yG{a b:List Nat}{n m:Nat}(h:Tx n a)(g:Tx m b)(hz:n+m<=16777216):yA (.str (txS a)) (.str (txS b))=some (.str (txS (a++b))):=BD a b (by have:=h.2;have:=g.2;omega)
theorem pickT{x y:D}{i:Int}(h:i=0\/i=1):ixD (.lst [x,y]) (.int i)=some (if i=1 then y else x):=by
 rcases h with rfl | rfl<;>simp
theorem VE{b c0 c1 c2 c3:Int}(hb : -(10 ^ 58)<=b/\b<=10 ^ 58):∃t,Tx 600 t/\kW [.int b,.int c0,.int c1,.int c2,.int c3]=some (.val (.str (txS t))):=by
 have P:(10:Nat) ^ 58+100<10 ^ 61:=by decide
 have hb':b.natAbs<=10 ^ 58:=by
  have:((10:Nat) ^ 58:Nat)=(10 ^ 58:Int).natAbs:=by decide
  rw[this];omega
 generalize hP:(10:Nat) ^ 58=P58 at *;generalize hQ:(10:Nat) ^ 61=P61 at *;have se:∀n:Int,n.natAbs<P61->∃w,strD [.int n]=some (.str (txS w))/\Tx 62 w:=fun n h=>IX (by rw[hQ];exact h)
 suffices G:Gd kU (args 11 [.int b,.int c0,.int c1,.int c2,.int c3]) (fun r=>∃t,Tx 600 t/\r=.val (.str (txS t))) by
  obtain⟨r,e,t,ht,rfl⟩:=G;exact⟨t,ht,jT e⟩
 have ar:args 11 [.int b,.int c0,.int c1,.int c2,.int c3]=[.v (.int b),.v (.int c0),.v (.int c1),.v (.int c2),.v (.int c3),.no,.no,.no,.no,.no,.no]:=by simp[args]
 rw[ar];unfold kU;clear hb;generalize hlo:b+c0%41-20=lo;have hlo':lo.natAbs<P58+50:=by omega
 generalize hsz:c1%8-1=sz;have hsz' : -1<=sz/\sz<=6:=by omega
 refine kH (ds':=[.v (.int b),.v (.int c0),.v (.int c1),.v (.int c2),.v (.int c3),.v (.int lo),.no,.no,.no,.no,.no]) (by simp[hlo]) ?_;refine kH (ds':=[.v (.int b),.v (.int c0),.v (.int c1),.v (.int c2),.v (.int c3),.v (.int lo),.v (.int sz),.no,.no,.no,.no]) (by simp[hsz]) ?_;obtain⟨w1,s1,t1⟩:=se lo (by omega);obtain⟨w2,s2,t2⟩:=se (lo-1) (by omega);obtain⟨w3,s3,t3⟩:=se (lo+sz) (by omega);obtain⟨w4,s4,t4⟩:=se (lo+sz-1) (by omega);have t91:=yV [91] rfl;have t40:=yV [40] rfl;have t93:=yV [93] rfl;have t41:=yV [41] rfl;have a1:=yG t91 t1 (by decide);have a2:=yG t40 t2 (by decide);have a3:=yG t3 t41 (by decide);have a4:=yG t4 t93 (by decide);refine sX (fun ds=>∃l,Tx 70 l/\ds=[.v (.int b),.v (.int c0),.v (.int c1),.v (.int c2),.v (.int c3),.v (.int lo),.v (.int sz),.v (.str (txS l)),.no,.no,.no]) ?_ ?_
 . have pk := pickT (x := .str (txS ([91] ++ w1))) (y := .str (txS ([40] ++ w2))) (i := c0 / 41 % 2) (by omega)
   by_cases h:c0/41%2=1
   . rw[if_pos h] at pk;refine⟨_,?_,[40]++w2,(t40.app t2).mono (by decide),rfl⟩;rw[uO,GE];simp only[jZ,yK,xE,xC,xR,jX,qY,yY,wS,aY,aO,aC,aV,s1,vV,s2,a1,a2];generalize txS ([91]++w1)=A1 at *;generalize txS ([40]++w2)=A2 at *;simp[pk]
   . rw[if_neg h] at pk;refine⟨_,?_,[91]++w1,(t91.app t1).mono (by decide),rfl⟩;rw[uO,GE];simp only[jZ,yK,xE,xC,xR,jX,qY,yY,wS,aY,aO,aC,aV,s1,vV,s2,a1,a2];generalize txS ([91]++w1)=A1 at *;generalize txS ([40]++w2)=A2 at *;simp[pk]
 rintro _ ⟨l,hl,rfl⟩;refine sX (fun ds=>∃r,Tx 70 r/\ds=[.v (.int b),.v (.int c0),.v (.int c1),.v (.int c2),.v (.int c3),.v (.int lo),.v (.int sz),.v (.str (txS l)),.v (.str (txS r)),.no,.no]) ?_ ?_
 . have pk := pickT (x := .str (txS (w3 ++ [41]))) (y := .str (txS (w4 ++ [93]))) (i := c0 / 82 % 2) (by omega);have ad:yA (.int lo) (.int sz)=some (.int (lo+sz)):=by simp
   by_cases h:c0/82%2=1
   . rw[if_pos h] at pk;refine⟨_,?_,w4++[93],(t4.app t93).mono (by decide),rfl⟩;rw[GF,GG];simp only[jZ,yK,xE,xC,xR,jX,qY,yY,wS,aY,aO,aC,aV,ad,vV,s3,s4,a3,a4];generalize txS (w3++[41])=A1 at *;generalize txS (w4++[93])=A2 at *;simp[pk]
   . rw[if_neg h] at pk;refine⟨_,?_,w3++[41],(t3.app t41).mono (by decide),rfl⟩;rw[GF,GG];simp only[jZ,yK,xE,xC,xR,jX,qY,yY,wS,aY,aO,aC,aV,ad,vV,s3,s4,a3,a4];generalize txS (w3++[41])=A1 at *;generalize txS (w4++[93])=A2 at *;simp[pk]
 rintro _ ⟨r,hr,rfl⟩;clear a1 a2 a3 a4 t1 t2 t3 t4 s1 s2 s3 s4 t91 t40 t93 t41;refine sX (fun ds=>∃l,Tx 70 l/\ds=[.v (.int b),.v (.int c0),.v (.int c1),.v (.int c2),.v (.int c3),.v (.int lo),.v (.int sz),.v (.str (txS l)),.v (.str (txS r)),.no,.no]) ?_ ?_
 . by_cases h : c2 % 8 = 3
   . exact⟨_,by rw[RY];simp[h],[40,46,46],(yV [40,46,46] rfl).mono (by decide),rfl⟩
   . exact⟨_,by simp[h],l,hl,rfl⟩
 rintro _ ⟨l,hl,rfl⟩;refine sX (fun ds=>∃r,Tx 70 r/\ds=[.v (.int b),.v (.int c0),.v (.int c1),.v (.int c2),.v (.int c3),.v (.int lo),.v (.int sz),.v (.str (txS l)),.v (.str (txS r)),.no,.no]) ?_ ?_
 . by_cases h : c2 % 8 = 5
   . exact⟨_,by rw[RZ];simp[h],[46,46,41],(yV [46,46,41] rfl).mono (by decide),rfl⟩
   . exact⟨_,by simp[h],r,hr,rfl⟩
 rintro _ ⟨r,hr,rfl⟩;obtain⟨w5,s5,t5⟩:=se (c2/8%19-9) (by omega);have k44:=yV [44] rfl;have k61:=yV [61] rfl;have b1:=hl.app k44;have b2:=b1.app hr;have b3:=b2.app k61;have b4:=b3.app t5;have d1:=yG hl k44 (by decide);have d2:=yG b1 hr (by decide);have d3:=yG b2 k61 (by decide);have d4:=yG b3 t5 (by decide);have b4':Tx 300 (l++[44]++r++[61]++w5):=b4.mono (by decide);refine kH (ds':=[.v (.int b),.v (.int c0),.v (.int c1),.v (.int c2),.v (.int c3),.v (.int lo),.v (.int sz),.v (.str (txS l)),.v (.str (txS r)),.v (.str (txS (l++[44]++r++[61]++w5))),.no]) ?_ ?_
 . rw [vM, XJ];have s5':callB strD (zF (zI subD (zI wB (zI xD (zG 3) (zA (.int 8))) (zA (.int 19))) (zA (.int 9))) zR) [.v (.int b),.v (.int c0),.v (.int c1),.v (.int c2),.v (.int c3),.v (.int lo),.v (.int sz),.v (.str (txS l)),.v (.str (txS r)),.no,.no]=some (.str (txS w5)):=by simp [s5]
   simp only[jZ,yK,s5',jX,qY,aY,aO,aC,d1,d2,d3,d4,aV];simp
 clear d1 d2 d3 d4 b1 b2 b3 b4 s5;generalize l++[44]++r++[61]++w5=t at *
 by_cases h:c3%2=0
 . refine gd_rt ⟨_,by simp[h],t,b4'.mono (by decide),rfl⟩
 . refine kH (ds' := [.v (.int b), .v (.int c0), .v (.int c1), .v (.int c2), .v (.int c3), .v (.int lo), .v (.int sz), .v (.str (txS l)), .v (.str (txS r)), .v (.str (txS t)), .no]) (by simp [h]) ?_;refine kH (ds':=[.v (.int b),.v (.int c0),.v (.int c1),.v (.int c2),.v (.int c3),.v (.int lo),.v (.int sz),.v (.str (txS l)),.v (.str (txS r)),.v (.str (txS t)),.v (.int (c3 / 2 % 9 - 1))]) (by simp) ?_;refine sX (fun ds=>∃ n:Int,n.natAbs < 200/\ds=[.v (.int b),.v (.int c0),.v (.int c1),.v (.int c2),.v (.int c3),.v (.int lo),.v (.int sz),.v (.str (txS l)),.v (.str (txS r)),.v (.str (txS t)),.v (.int n)]) ?_ ?_
   . by_cases h3 : c3 / 18 % 4 = 3
     . exact⟨_,by simp[h3],99+c3/72%3,by omega,rfl⟩
     . exact⟨_,by simp[h3],c3/2%9-1,by omega,rfl⟩
   rintro _ ⟨n,hn,rfl⟩;have P61':200<P61:=by rw[<- hQ];decide
   obtain⟨w6,s6,t6⟩:=se (sz-2+c1/8%10) (by omega);obtain⟨w7,s7,t7⟩:=se n (by omega);have te:Str.ofString " each " = txS (32::eachL++[32]):=by decide
   have tt:Str.ofString " times " = txS (32::gK++[32]):=by decide
   have ke:=yV (32::eachL++[32]) rfl;have kt:=yV (32::gK++[32]) rfl;have b1:=b4'.app ke;have b2:=b1.app t6;have b3:=b2.app kt;have b4:=b3.app t7;have d1:=yG b4' ke (by decide);have d2:=yG b1 t6 (by decide);have d3:=yG b2 kt (by decide);have d4:=yG b3 t7 (by decide);refine⟨_,?_,_,b4.mono (by decide),rfl⟩;rw[te,tt];have s6':callB strD (zF (zI yA (zI subD (zG 6) (zA (.int 2))) (zI wB (zI xD (zG 2) (zA (.int 8))) (zA (.int 10)))) zR) [.v (.int b),.v (.int c0),.v (.int c1),.v (.int c2),.v (.int c3),.v (.int lo),.v (.int sz),.v (.str (txS l)),.v (.str (txS r)),.v (.str (txS t)),.v (.int n)]=some (.str (txS w6)):=by simp[s6]
   have s7':callB strD (zF (zG 10) zR) [.v (.int b),.v (.int c0),.v (.int c1),.v (.int c2),.v (.int c3),.v (.int lo),.v (.int sz),.v (.str (txS l)),.v (.str (txS r)),.v (.str (txS t)),.v (.int n)]=some (.str (txS w7)):=by simp[s7]
   simp only[XX,yK,s6',s7',jX,qY,aY,aO,aC,d1,d2,d3,d4];rfl
theorem VO(l:List (List Nat)):flats (l.map sD)=true:=by
 induction l with
 |nil=>rfl
 |cons a l ih=>rw[bB];simp[flats,ih,sD]
theorem PL{b:Int}(hb : -(10 ^ 58)<=b/\b<=10 ^ 58)(x1 x2 x5 x6:Sl)(k:Nat)(hk:k<10)(acc:List (List Nat))(hz:acc.length<1000):∃(t:List Nat) (y5 y6:Sl),Tx 600 t/\gB [.v (.int b),x1,x2,.own (acc.map sD),.v (.int (k:Int)),x5,x6]=some (.nx [.v (.int b),x1,x2,.own ((acc++[t]).map sD),.v (.int (k:Int)),y5,y6]):=by
 have P:(10:Nat) ^ 58+20000<10 ^ 61:=by decide
 have hb':b.natAbs<=10 ^ 58:=by
  have:((10:Nat) ^ 58:Nat)=(10 ^ 58:Int).natAbs:=by decide
  rw[this];omega
 clear hb;generalize hP:(10:Nat) ^ 58=P58 at *;generalize hQ:(10:Nat) ^ 61=P61 at *;have se:∀n:Int,n.natAbs<P61->∃w,strD [.int n]=some (.str (txS w))/\Tx 62 w:=fun n h=>IX (by rw[hQ];exact h);have mu:mulD (.int 1000) (.int (k:Int))=some (.int (1000*(k:Int))):=uD (mulOk_of_bits (wP (m:=64) (by decide)) (wP (m:=64) (by omega)) (by decide));obtain⟨w1,s1,t1⟩:=se (b+1000*(k:Int)) (by omega);obtain⟨w2,s2,t2⟩:=se (b+1000*(k:Int)+1+(k:Int)) (by omega);obtain⟨w3,s3,t3⟩:=se (k:Int) (by omega);obtain⟨w4,s4,t4⟩:=se ((k:Int)+2) (by omega);have e1:Str.ofString ")=" = txS [41,61]:=by decide
 have te:Str.ofString " each " = txS (32::eachL++[32]):=by decide
 have tt:Str.ofString " times 100" = txS (32::gK++[32,49,48,48]):=by decide
 have k91:=yV [91] rfl;have k44:=yV [44] rfl;have k41:=yV [41,61] rfl;have ke:=yV (32::eachL++[32]) rfl;have kt:=yV (32::gK++[32,49,48,48]) rfl;have b1:=k91.app t1;have b2:=b1.app k44;have b3:=b2.app t2;have b4:=b3.app k41;have b5:=b4.app t3;have b6:=b5.app ke;have b7:=b6.app t4;have b8:=b7.app kt;have d1:=yG k91 t1 (by decide);have d2:=yG b1 k44 (by decide);have d3:=yG b2 t2 (by decide);have d4:=yG b3 k41 (by decide);have d5:=yG b4 t3 (by decide);have d6:=yG b5 ke (by decide);have d7:=yG b6 t4 (by decide);have d8:=yG b7 kt (by decide);refine⟨_,.v (.int (b+1000*(k:Int))),.v (.str (txS ([91]++w1++[44]++w2++[41,61]++w3))),b8.mono (by decide),?_⟩;unfold gB;rw[zN (ds':=[.v (.int b),x1,x2,.own (acc.map sD),.v (.int (k:Int)),.v (.int (b+1000*(k:Int))),x6]) (by simp[mu])]
 rw[zN (ds':=[.v (.int b),x1,x2,.own (acc.map sD),.v (.int (k:Int)),.v (.int (b+1000*(k:Int))),.v (.str (txS ([91]++w1++[44]++w2++[41,61]++w3)))]) (by
  rw[uO,vM,e1];have s1':callB strD (zF (zG 5) zR) [.v (.int b),x1,x2,.own (acc.map sD),.v (.int (k:Int)),.v (.int (b+1000*(k:Int))),x6]=some (.str (txS w1)):=by simp[s1]
  have s2':callB strD (zF (zI yA (zI yA (zG 5) (zA (.int 1))) (zG 4)) zR) [.v (.int b),x1,x2,.own (acc.map sD),.v (.int (k:Int)),.v (.int (b+1000*(k:Int))),x6]=some (.str (txS w2)):=by simp[s2]
  have s3':callB strD (zF (zG 4) zR) [.v (.int b),x1,x2,.own (acc.map sD),.v (.int (k:Int)),.v (.int (b+1000*(k:Int))),x6]=some (.str (txS w3)):=by simp[s3]
  simp only[jZ,yK,s1',s2',s3',qY,aC,d1,d2,d3,d4,d5,aV]
  simp)]
 rw[te,tt];have s4':callB strD (zF (zI yA (zG 4) (zA (.int 2))) zR) [.v (.int b),x1,x2,.own (acc.map sD),.v (.int (k:Int)),.v (.int (b+1000*(k:Int))),.v (.str (txS ([91]++w1++[44]++w2++[41,61]++w3)))]=some (.str (txS w4)):=by simp[s4]
 have z:(acc.map sD).length<16777216:=by simp;omega
 simp only[appG,yK,s4',jX,qY,aY,aO,aC,d6,d7,d8];rw[if_pos (show(acc.map sD).length<sizeLine from z),fY];rfl
theorem ZO{b m e:Int}(hb : -(10 ^ 58)<=b/\b<=10 ^ 58)(hm:m=2\/m=3)(he:e=0\/e=1\/e=2):∃hs:List (List Nat),hs.length<=5/\(∀t∈hs,Tx 600 t)/\gO [.int b,.int m,.int e]=some (.fresh (hs.map sD)):=by
 obtain⟨N,hN,hN2⟩:∃N:Nat,m=(N:Int)/\N<=3:=⟨m.toNat,by omega,by omega⟩
 have key:=AI (ga:=qL 4) (body:=gB) (fun k ds=>∃(acc:List (List Nat)) (x4 x5 x6:Sl),acc.length=k/\(∀t∈acc,Tx 600 t)/\ds=[.v (.int b),.v (.int m),.v (.int e),.own (acc.map sD),x4,x5,x6]) N (by
  rintro k hk _ ⟨acc,x4,x5,x6,ha,ht,rfl⟩;obtain⟨t,y5,y6,h1,h2⟩:=PL hb (.v (.int m)) (.v (.int e)) x5 x6 k (by omega) acc (by omega);refine⟨_,_,rfl,h2,acc++[t],_,y5,y6,by simp[ha],fun q hq=>?_,rfl⟩;rcases bU.mp hq with z | z
  . exact ht q z
  . cases bG.mp z;exact h1) N 0 _ (by omega) ⟨[],.no,.no,.no,rfl,(fun _ h=>nomatch h),rfl⟩
 obtain⟨ds',e1,acc,x4,x5,x6,ha,ht,rfl⟩:=key;rw[<- BL] at e1;have P:(10:Nat) ^ 58<10 ^ 61:=by decide
 have hb':b.natAbs<10 ^ 61:=by
  have:((10:Nat) ^ 58:Nat)=(10 ^ 58:Int).natAbs:=by decide
  have:b.natAbs<=10 ^ 58:=by rw[this];omega
  omega
 obtain⟨w,s1,t1⟩:=IX hb';have k91:=yV [91] rfl;have e2:Str.ofString ",..)=7" = txS [44,46,46,41,61,55]:=by decide
 have k7:=yV [44,46,46,41,61,55] rfl;have b1:=k91.app t1;have b2:=b1.app k7;have d1:=yG k91 t1 (by decide);have d2:=yG b1 k7 (by decide);have b2':Tx 600 ([91]++w++[44,46,46,41,61,55]):=b2.mono (by decide);refine⟨acc++List.replicate e.toNat ([91]++w++[44,46,46,41,61,55]),by simp;omega,fun t hq=>?_,jT ?_⟩
 . rcases bU.mp hq with z | z
   . exact ht t z
   . rw[(List.mem_replicate.mp z).2];exact b2'
 . unfold iP;have ar:args 7 [.int b,.int m,.int e]=[.v (.int b),.v (.int m),.v (.int e),.no,.no,.no,.no]:=by simp [args]
   have okm:okR m:=wN (by omega) (by omega);have mt:m.toNat=N:=by omega
   rw[ar,zN (ds':=[.v (.int b),.v (.int m),.v (.int e),.own [],.no,.no,.no]) (by simp),zN (ds':=[.v (.int b),.v (.int m),.v (.int e),.own (acc.map sD),x4,x5,x6]) (by
    rw[wD];simp only[dO] at e1
    simp[okm,mt,e1])]
   generalize [91]++w++[44,46,46,41,61,55]=T at *;have s1':callB strD (zF (zG 0) zR) [.v (.int b),.v (.int m),.v (.int e),.own (acc.map sD),x4,x5,x6]=some (.str (txS w)):=by simp[s1]
   have fl:=VO (acc++List.replicate e.toNat T)
   have rp:(List.replicate e.toNat [D.str (txS T)]).flatten=(List.replicate e.toNat T).map sD:=by
    rcases he with rfl | rfl | rfl<;>rfl
   have cat:catA (zG 3) (mkL (repF (qI (zF (zI yA (zI yA (zA (.str (Str.ofString "["))) (callB strD (zF (zG 0) zR))) (zA (.str (Str.ofString ",..)=7")))) zR)) (zG 2))) [.v (.int b),.v (.int m),.v (.int e),.own (acc.map sD),x4,x5,x6]=some ((acc++List.replicate e.toNat T).map sD):=by
    rw[uO,e2,fY];have z2:(acc.map sD).length+((List.replicate e.toNat T).map sD).length<=16777216:=by simp;omega
    have inner:repF (qI (zF (zI yA (zI yA (zA (.str (txS [91]))) (callB strD (zF (zG 0) zR))) (zA (.str (txS [44,46,46,41,61,55])))) zR)) (zG 2) [.v (.int b),.v (.int m),.v (.int e),.own (acc.map sD),x4,x5,x6]=some ((List.replicate e.toNat T).map sD):=by
     simp only[repF,wS,xC,yK,s1',qY,aC,d1,d2,xR,aV,jX,aY,aO];rw[<- rp];rcases he with rfl | rfl | rfl<;>simp
    simp only[MY,yY,inner,jX,aY,aO,aC,aV];generalize acc.map sD=AA at *;generalize (List.replicate e.toNat T).map sD=BB at *;simp[z2]
   generalize (acc++List.replicate e.toNat T).map sD=ZZ at *;simp only[uX,cat,aC];simp[fl]
noncomputable def sgK:List Nat:=[91,93,40,41,44,46,45,48,32,61,59,101,97,116,115]
theorem t_sgK:Str.ofString "[](),.-0 =;eats" = txS sgK:=by decide
theorem sgK_ok:∀s∈sgK,s<1000:=by decide
theorem ix_txK{cs:List Nat}{i:Nat}(h:i<cs.length)(hl:cs.length<=16777216):ixD (.str (txS cs)) (.int (i:Int))=some (.str (txS [cs[i]])):=by
 show(if (txS cs).length<=sizeLine then (atI cs (i:Int)).map fun c=>D.str ⟨#[c]⟩ else none)=_;rw[jR,if_pos (by simpa using hl)];unfold atI;rw[uE (by omega) (by omega),aC,RO,fH h];rfl
theorem NN{T:List Nat}(ha:Asc T)(hl:T.length<=8000)(c:Int):∃T',Asc T'/\T'.length<=T.length+1/\iE [.str (txS T),.int c]=some (.val (.str (txS T'))):=by
 have ls:=rP sgK (by decide);have lt:=rP T (by omega);obtain⟨j,hj⟩:∃j:Nat,c/6%15=(j:Int):=⟨(c/6%15).toNat,by omega⟩
 have hj2:j<sgK.length:=by show j<15;omega
 have ixs:=ix_txK hj2 (by decide);have so:=sgK_ok sgK[j] (RM hj2);generalize sgK[j]=s at *;have hp:(0:Int)<(T.length:Int)+1:=by omega
 have md:=UQ (c/96) hp;obtain⟨i,hi⟩:∃i:Nat,c/96%((T.length:Int)+1)=(i:Int):=⟨(c/96%((T.length:Int)+1)).toNat,by have:=WV (c/96) (show(T.length:Int)+1≠0 by omega);omega⟩
 have hi2:i<=T.length:=by have:=QQ (c/96) hp;omega
 rw[hi] at md;have s1:=uR T hi2;have s2:=xM T i;have s3:Txt.slice (txS T) (some ((i:Int)+1)) none=txS (T.drop (i+1)):=xM T (i+1);have z:T.length<=16777216:=by omega
 have a1:=BD (T.take i) [s] (by simp;omega);have a2:=BD (T.take i++[s]) (T.drop i) (by simp;omega);have a3:=BD (T.take i++[s]) (T.drop (i+1)) (by simp;omega);have a4:=BD (T.take i) (T.drop (i+1)) (by simp;omega);have atk:Asc (T.take i):=fun x hx=>ha x (IP hx);have adr:∀k,Asc (T.drop k):=fun k x hx=>ha x (IQ hx);have ap:∀{a b:List Nat},Asc a->Asc b->Asc (a++b):=fun h1 h2 x hx=>(bU.mp hx).elim (h1 x) (h2 x);have as1:Asc [s]:=fun x hx=>by rw[bG.mp hx];exact so
 suffices G:∃T',Asc T'/\T'.length<=T.length+1/\iD [.v (.str (txS T)),.v (.int c),.no,.no,.no]=some (.rt (.val (.str (txS T')))) by
  obtain⟨T',q2,q3,q4⟩:=G;have ar:args 5 [.str (txS T),.int c]=[.v (.str (txS T)),.v (.int c),.no,.no,.no]:=by simp[args]
  exact⟨T',q2,q3,jT (by rw[ar];exact q4)⟩
 unfold iD;rw[zN (ds':=[.v (.str (txS T)),.v (.int c),.v (.str (txS sgK)),.no,.no]) (by simp[t_sgK])];have e15:((sgK.length:Nat):Int)=15:=rfl;rw[e15] at ls;rw[zN (ds':=[.v (.str (txS T)),.v (.int c),.v (.str (txS sgK)),.v (.str (txS [s])),.no]) (by simp[ls,hj,ixs])];rw[zN (ds':=[.v (.str (txS T)),.v (.int c),.v (.str (txS sgK)),.v (.str (txS [s])),.v (.int (i:Int))]) (by simp[lt,md])]
 by_cases h1:c%6=1
 . refine⟨T.take i ++ [s] ++ T.drop i, ap (ap atk as1) (adr i), by simp;omega, qR ?_⟩;simp[h1,slsS,z,s1,s2,a1,a2]
 . rw [zN (ds' := [.v (.str (txS T)), .v (.int c), .v (.str (txS sgK)), .v (.str (txS [s])), .v (.int (i : Int))]) (by simp [h1])]
   by_cases h2:c%6=3
   . refine⟨T.take i ++ [s] ++ T.drop (i + 1), ap (ap atk as1) (adr _), by simp;omega, qR ?_⟩;simp[h2,slsS,z,s1,s3,a1,a3]
   . rw [zN (ds' := [.v (.str (txS T)), .v (.int c), .v (.str (txS sgK)), .v (.str (txS [s])), .v (.int (i : Int))]) (by simp [h2])]
     by_cases h3:c%6=5
     . refine⟨T.take i ++ T.drop (i + 1), ap atk (adr _), by simp;omega, qR ?_⟩;simp[h3,slsS,z,s1,s3,a4]
     . refine⟨T, ha, by omega, ?_⟩;rw[zN (ds':=[.v (.str (txS T)),.v (.int c),.v (.str (txS sgK)),.v (.str (txS [s])),.v (.int (i:Int))]) (by simp[h3])];simp
theorem SQ{d:D}(h:isiD "str" d=some (.bl false)):Rd d 11:=by
 have ar:args 3 [d]=[.v d,.no,.no]:=by simp[args]
 have t1:ifG (notT (testT (isiG "str" (zG 0)))) (fun _=>none) qD [.v d,.no,.no]=none:=by simp[h]
 have u1:ifX (notT (testT (isiG "str" (zG 0)))) dR dI [.v d,.no,.no]=true:=by simp[ifX,dR,h]
 refine⟨(fun z=>by cases z),?_,?_,?_,?_,.inr (.inr (.inr (.inr rfl)))⟩
 . unfold cP runX dU;rw[ar,vZ t1];rfl
 . unfold cO runX dS;rw[ar,vZ t1];rfl
 . unfold bY runX cW;rw[ar,vZ t1];rfl
 . unfold cJ runX dM;rw[ar,ox,u1];rfl
theorem eqNm(c:Nat):eqD (.str (nmC c)) (.str (nmC c))=some (.bl true):=by
 have:∀x:Str,x.cps.toList.all (fun c=>decide (c<1000))=true->eqD (.str x) (.str x)=some (.bl true):=fun x h=>by
  have:=vA (jE h) (jE h);rw[yP] at this;rw[this];simp
 unfold nmC
 split
 . exact this _ (by decide)
 . exact this _ (by decide)
 . exact this _ (by decide)
 . exact this _ (by decide)
 . exact this _ (by decide)
theorem JJ(c:Int)(hc:intBits c<=1048576):∃b:Int,-(10 ^ 58)<=b/\b<=10 ^ 58/\lP [.int c]=some (.val (.int b)):=by
 have p41:powD (.int 10) (.int 41)=some (.int (10 ^ 41)):=pow10 (by decide) (by decide);have p58:powD (.int 10) (.int 58)=some (.int (10 ^ 58)):=pow10 (by decide) (by decide);have m1:mulD (.int (c/3)) (.int (10 ^ 41+9))=some (.int (c/3*(10 ^ 41+9))):=uD (mulOk_of_bits (QK (by decide) hc) (wP (m:=200) (by decide)) (by decide));have m2:mulD (.int 2) (.int (10 ^ 58))=some (.int (2*10 ^ 58)):=uD (.of_left (wP (by decide)));have q:(0:Int)<2*10 ^ 58+1:=by decide
 have h1:=WV (c/3*(10 ^ 41+9)) (show(2*10 ^ 58+1:Int)≠0 by decide);have h2:=QQ (c/3*(10 ^ 41+9)) q
 by_cases h:c%3=0
 . refine ⟨_, ?_, ?_, jT (qR (by rw [AN (by simp [args, h])]; simp [-Int.reducePow, -Nat.reducePow, args, p41, p58, m1, m2, q]; rfl))⟩
   . omega
   . omega
 . refine⟨c/3%41-20, by omega, by omega, jT ?_⟩;unfold nA;simp[-Int.reducePow,-Nat.reducePow,args,h]
theorem WF(ns:List Int){b:Int}(hb : -(10 ^ 58)<=b/\b<=10 ^ 58)(k:Int)(h0:0<=k)(h1:k+3<ns.length)(x1 x5:Sl)(acc:List (List Nat))(hz:acc.length<1000):∃t,Tx 600 t/\mH [.v (.lst (ns.map D.int)),x1,.v (.int b),.own (acc.map sD),.v (.int k),x5]=some (.nx [.v (.lst (ns.map D.int)),x1,.v (.int b),.own ((acc++[t]).map sD),.v (.int k),x5]):=by
 have i0:=uG ns (k:=k) (by omega) (by omega);have i1:=uG ns (k:=k+1) (by omega) (by omega);have i2:=uG ns (k:=k+2) (by omega) (by omega);have i3:=uG ns (k:=k+3) (by omega) (by omega);obtain⟨t,ht,e⟩:=VE (c0:=cel ns k.toNat) (c1:=cel ns (k+1).toNat) (c2:=cel ns (k+2).toNat) (c3:=cel ns (k+3).toNat) hb;refine⟨t,ht,?_⟩;have z:(acc.map sD).length<16777216:=by simp;omega
 rw[fY];unfold mH;generalize ns.map D.int=NS at *;generalize acc.map sD=AA at *;simp[i0,i1,i2,i3,e,z,sD]
theorem run_law(ns:List Int)(hl:ns.length<=63)(hb:∀c∈ns,intBits c<=1048576):pV [.lst (ns.map D.int)]=some (.val (.bl true)):=by
 have c0:dL [.lst (ns.map D.int),.int 0]=some (.val (.int (cel ns 0))):=FD ns 0;have c1:dL [.lst (ns.map D.int),.int 1]=some (.val (.int (cel ns 1))):=FD ns 1;have c2:dL [.lst (ns.map D.int),.int 2]=some (.val (.int (cel ns 2))):=FD ns 2;obtain⟨b,hb1,hb2,eb⟩:=JJ (cel ns 1) (QL hb 1);generalize hw:cel ns 0=way at *;generalize cel ns 2=z2 at *;have hi:min ((ns.length:Int)-3) 23<=23/\min ((ns.length:Int)-3) 23<=(ns.length:Int)-3/\-3<=min ((ns.length:Int)-3) 23:=by omega
 generalize hH:min ((ns.length:Int)-3) 23=hh at *
 have st:steps3 3 hh 4<=5/\∀k:Nat,k<steps3 3 hh 4->3+(k:Int)*4<hh:=by
  unfold steps3;constructor
  . split<;>omega
  . intro k hk
    split at hk<;>omega
 have okh:okR3 3 hh 4:=JI (by decide) (by decide) (by omega) (by omega) (by decide) (by decide)
 suffices G:Gd nM (args 6 [.lst (ns.map D.int)]) (fun r=>r=.val (.bl true)) by
  obtain⟨r,e,rfl⟩:=G;exact jT e
 have ar:args 6 [.lst (ns.map D.int)]=[.v (.lst (ns.map D.int)),.no,.no,.no,.no,.no]:=by simp[args]
 rw[ar];unfold nM;refine kH (ds':=[.v (.lst (ns.map D.int)),.v (.int way),.no,.no,.no,.no]) (by simp[c0]) ?_;refine kH (ds':=[.v (.lst (ns.map D.int)),.v (.int way),.v (.int b),.no,.no,.no]) (by simp[c1,eb]) ?_;refine kH (ds':=[.v (.lst (ns.map D.int)),.v (.int way),.v (.int b),.own [],.no,.no]) (by simp) ?_;refine sX (fun ds=>∃(acc:List (List Nat)) (x4:Sl),acc.length<=5/\(∀t∈acc,Tx 600 t)/\ds=[.v (.lst (ns.map D.int)),.v (.int way),.v (.int b),.own (acc.map sD),x4,.no]) ?_ ?_
 . have ln : (kM 3 4 (steps3 3 hh 4)).length = steps3 3 hh 4 := by simp [kM]
   have key:=CT (ga:=qL 4) (body:=mH) (fun n ds=>∃(acc:List (List Nat)) (x4:Sl),acc.length=n/\(∀t∈acc,Tx 600 t)/\ds=[.v (.lst (ns.map D.int)),.v (.int way),.v (.int b),.own (acc.map sD),x4,.no]) (kM 3 4 (steps3 3 hh 4)) 0 [.v (.lst (ns.map D.int)),.v (.int way),.v (.int b),.own [],.no,.no] ⟨[],.no,rfl,(fun _ h=>nomatch h),rfl⟩ (by
    rintro d hd m _ hm ⟨acc,x4,ha,ht,rfl⟩;obtain⟨k,hk,rfl⟩:=JO hd;have:=st.2 k hk;obtain⟨t,h1,h2⟩:=WF ns ⟨hb1,hb2⟩ (3+(k:Int)*4) (by omega) (by omega) (.v (.int way)) .no acc (by rw[ln] at hm;omega);refine⟨_,_,rfl,.inl h2,acc++[t],_,by simp[ha],fun q hq=>?_,rfl⟩;rcases bU.mp hq with z | z
    . exact ht q z
    . cases bG.mp z;exact h1)
   obtain⟨ds',e1,acc,x4,ha,ht,rfl⟩:=key;refine⟨_,?_,acc,x4,by rw[ha,ln];omega,ht,rfl⟩;rw[wD];have lnn:lenD [.lst (ns.map D.int)]=some (.int (ns.length:Int)):=by simp
   generalize ns.map D.int=NS at *;simp[lnn,hH,okh,e1]
 rintro _ ⟨acc,x4,ha,ht,rfl⟩;refine sX (fun ds=>∃(ws:List (List Nat)),ws.length<=10/\(∀t∈ws,Tx 600 t)/\ds=[.v (.lst (ns.map D.int)),.v (.int way),.v (.int b),.own (ws.map sD),x4,.no]) ?_ ?_
 . by_cases h8 : way % 8 = 1
   . obtain ⟨hs, h1, h2, h3⟩ := ZO (b := b) (m := 2 + way / 8 % 2) (e := way / 16 % 3) ⟨hb1, hb2⟩ (by omega) (by omega);obtain ⟨j,hj⟩:∃ j:Nat,way / 48 % 2=(j:Int):=⟨(way / 48 % 2).toNat,by omega⟩
     have ct:cutD (acc.map sD) none (some (j:Int))=(acc.take j).map sD:=by
      unfold FL.cutD HT.sIx;have hj0 : ¬((j:Int)<0):=by omega
      simp only[hj0,if_false,Nat.sub_zero,List.drop_zero,RO,List.map_take,dC]
      by_cases hlt:j<=acc.length
      . rw[Nat.min_eq_left hlt]
      . rw[Nat.min_eq_right (by omega),iM (by simp),iM (by simp;omega)]
     have z:(hs.map sD).length+((acc.take j).map sD).length<=16777216:=by simp;omega
     refine⟨_,?_,hs++acc.take j,by simp;omega,fun t hq=>?_,rfl⟩
     . rw[fY];generalize (acc.take j).map sD=CC at *;generalize acc.map sD=AA at *;generalize hs.map sD=HH at *;simp[h8,h3,hj,ct,z]
     . rcases bU.mp hq with z | z
       . exact h2 t z
       . exact ht t (IP z)
   . exact⟨_,by simp[h8],acc,by omega,ht,rfl⟩
 rintro _ ⟨ws,hw1,hw2,rfl⟩;have jn:=PB (ws:=ws) (fun w h=>by have:=(hw2 w h).2;omega) (by omega);have jn':joinD (.str (Str.ofString "; ")) (.lst (ws.map sD))=some (.str (txS (join2 ws))):=jn;have ja:Asc (join2 ws):=DB fun w h=>(hw2 w h).1;have jl:(join2 ws).length<=(600+2)*ws.length:=CZ fun w h=>(hw2 w h).2;have jl':(join2 ws).length<=8000:=by omega
 refine kH (ds':=[.v (.lst (ns.map D.int)),.v (.int way),.v (.int b),.own (ws.map sD),x4,.v (.str (txS (join2 ws)))]) (by generalize ws.map sD=WW at *;simp[jn']) ?_
 by_cases h9:way/96%16=3
 . refine gd_rt ⟨_, ?_, rfl⟩;have n11:nmC 11=Str.ofString "NoText":=rfl;have eq:=eqNm 11;have go:∀ d,isiD "str" d=some (.bl false)->gM [d]=some (.val (.str (Str.ofString "NoText"))):=fun d h=>GC (SQ h);rw [n11] at eq;generalize hST:Str.ofString "NoText" = NT at *;rcases (by omega:way / 1536 % 4=0 \/ way / 1536 % 4=1 \/ way / 1536 % 4=2 \/ way / 1536 % 4=3) with h | h | h | h
   . have := go .non (by simp);simp[h9,h,this,eq]
   . have := go (.int 7) (by simp);simp[h9,h,this,eq]
   . have := go (.lst [.str (Str.ofString "[1,2)=3")]) (by simp);generalize Str.ofString "[1,2)=3" = S1 at *;simp[h9,h,this,eq]
   . have := go (.tup [.str (Str.ofString "")]) (by simp);generalize Str.ofString "" = S1 at *;simp[h9,h,this,eq]
 . refine kH (ds' := [.v (.lst (ns.map D.int)), .v (.int way), .v (.int b), .own (ws.map sD), x4, .v (.str (txS (join2 ws)))]) (by simp[h9]) ?_;obtain⟨T,hT,lT,eT⟩:=NN ja jl' z2;refine kH (ds':=[.v (.lst (ns.map D.int)),.v (.int way),.v (.int b),.own (ws.map sD),x4,.v (.str (txS T))]) (by simp[c2,eT]) ?_;obtain⟨c,rd,du⟩:=XI hT (by omega);have to:=GC rd;have eq:=eqNm c;refine⟨_,?_,rfl⟩;generalize nmC c=NM at *;generalize txS T=XT at *;simp[to,du,eq]
end K93
namespace K93
open PySem PyProof.Rows L2 FL
set_option maxHeartbeats 0 in
theorem all_mk{l:ND}{w:World}{K:aH}{h:Heap}{mg:Str->Option Value}{fa:Addr}(X:K.In h)(G:h.Ns mainGlobals mg)(hfa:mg "law" = some (.ref fa))
  {K7:Addr}
  {K8:Addr}
  {K9:Addr}
  {K10:Addr}
  {f0:Addr}
  {f1:Addr}
  {f2:Addr}
  {f3:Addr}
  {f4:Addr}
  {f5:Addr}
  {f6:Addr}
  {f7:Addr}
  {f8:Addr}
  {f9:Addr}
  {f10:Addr}
  {f11:Addr}
  {f12:Addr}
  {f13:Addr}
  {f14:Addr}
  {f15:Addr}
  {f16:Addr}
  {f17:Addr}
  {f18:Addr}
  {f19:Addr}
  {f20:Addr}
  {f21:Addr}
  {f22:Addr}
  {f23:Addr}
  {f24:Addr}
  {f25:Addr}
  {f26:Addr}
  {f27:Addr}
  {f28:Addr}
  {f29:Addr}
  {f30:Addr}
  {f31:Addr}
  {f32:Addr}
  {f33:Addr}
  {f34:Addr}
  {f35:Addr}
  {f36:Addr}
  {f37:Addr}
  {f38:Addr}
  {f39:Addr}
  {f40:Addr}
  {f41:Addr}
  {f42:Addr}
  {E0:Addr}
  {E1:Addr}
  {E9:Addr}
  {E10:Addr}
  {E11:Addr}
  {t0:Tok}
  {t1:Tok}
  {t2:Tok}
  {t3:Tok}
  {f43:Addr} {od43 an43:Option Addr} {sl43:Array (Option Value)} {oc43 kV43 dc43 pm43 cd43 ct43:Value}
  (n7:aJ K mainGlobals "Shut" = some (some (.ref K7))) (pg7:eX K K7 Str.empty=true) (hd7:fD K K7=true) (po7:fX K K7=true) (sa7:aR K (.ref K7) "__setattr__" = some (some (.builtin "object.__setattr__")))
  (na7_place:aR K (.ref K7) "place" = some none)
  (n8:aJ K mainGlobals "Open" = some (some (.ref K8))) (pg8:eX K K8 Str.empty=true) (hd8:fD K K8=true) (po8:fX K K8=true) (sa8:aR K (.ref K8) "__setattr__" = some (some (.builtin "object.__setattr__")))
  (na8_place:aR K (.ref K8) "place" = some none)
  (n9:aJ K mainGlobals "Endless" = some (some (.ref K9))) (pg9:eX K K9 Str.empty=true) (hd9:fD K K9=true) (po9:fX K K9=true) (sa9:aR K (.ref K9) "__setattr__" = some (some (.builtin "object.__setattr__")))
  (n10:aJ K mainGlobals "End" = some (some (.ref K10))) (pg10:eX K K10 Str.empty=true) (hd10:fD K K10=true) (po10:fX K K10=true) (sa10:aR K (.ref K10) "__setattr__" = some (some (.builtin "object.__setattr__")))
  (d0:DefC K K10 "low" "End.low" (cV (top 1) 0) f0)
  (d1:DefC K K10 "behind" "End.behind" (cV (top 1) 1) f1)
  (d2:DefC K K7 "__init__" "Shut.__init__" (cV (top 2) 0) f2)
  (d3:DefC K K7 "low" "Shut.low" (cV (top 2) 1) f3)
  (d4:DefC K K7 "behind" "Shut.behind" (cV (top 2) 2) f4)
  (d5:DefC K K8 "__init__" "Open.__init__" (cV (top 3) 0) f5)
  (d6:DefC K K8 "low" "Open.low" (cV (top 3) 1) f6)
  (d7:DefC K K8 "behind" "Open.behind" (cV (top 3) 2) f7)
  (d8:DefC K K9 "low" "Endless.low" (cV (top 4) 0) f8)
  (d9:DefC K K9 "behind" "Endless.behind" (cV (top 4) 1) f9)
  (d10:DefM K "ends_ahead" (top 15) f10)
  (d11:DefM K "span" (top 12) f11)
  (d12:DefM K "later_low" (top 16) f12)
  (d13:DefM K "earlier_behind" (top 17) f13)
  (d14:DefM K "meet" (top 13) f14)
  (d15:DefM K "length" (top 14) f15)
  (d16:DefM K "knit" (top 19) f16)
  (d17:DefM K "parts_in" (top 21) f17)
  (d18:DefM K "rows_over" (top 22) f18)
  (d19:DefM K "formed" (top 20) f19)
  (d20:DefM K "is_rule" (top 29) f20)
  (d21:DefM K "stretches" (top 26) f21)
  (d22:DefM K "rule_rows" (top 27) f22)
  (d23:DefM K "laid_rows" (top 28) f23)
  (d24:DefM K "is_number" (top 35) f24)
  (d25:DefM K "read_number" (top 33) f25)
  (d26:DefM K "read_low_end" (top 37) f26)
  (d27:DefM K "read_high_end" (top 38) f27)
  (d28:DefM K "read_ends" (top 36) f28)
  (d29:DefM K "comes_each" (top 40) f29)
  (d30:DefM K "item_rows" (top 39) f30)
  (d31:DefM K "read_map" (top 34) f31)
  (d32:DefM K "_law_cell_at" (top 42) f32)
  (d33:DefM K "_law_number" (top 43) f33)
  (d34:DefM K "_law_item" (top 44) f34)
  (d35:DefM K "_law_hundreds" (top 45) f35)
  (d36:DefM K "_law_spoilt" (top 46) f36)
  (d37:DefM K "_law_read" (top 47) f37)
  (d38:DefM K "_law_end" (top 48) f38)
  (d39:DefM K "_law_span" (top 49) f39)
  (d40:DefM K "_law_times" (top 50) f40)
  (d41:DefM K "_law_due" (top 51) f41)
  (d42:DefM K "_law_told" (top 52) f42)
  (a43:aJ K mainGlobals "law" = some (some (.ref f43))) (l43:LkF K f43 oc43 od43 "law" "law" (top 53) .none kV43 dc43 pm43 an43 cd43 ct43 sl43) (c43:gF K cd43 "law" = true) (k43:bN K (.ref f43)=true)
  (mk7:fT K K7=true) (kc7:bN K (.ref K7)=true)
  (mk8:fT K K8=true) (kc8:bN K (.ref K8)=true)
  (mk9:fT K K9=true) (kc9:bN K (.ref K9)=true) (ai9:aR K (.ref K9) "__init__" = some (some (.builtin "object.__init__")))
  (xn0:aJ K mainGlobals "SpanError" = some (some (.ref E0)))
  (xn1:aJ K mainGlobals "Empty" = some (some (.ref E1)))
  (xn9:aJ K mainGlobals "NoRule" = some (some (.ref E9)))
  (xn10:aJ K mainGlobals "TooMuch" = some (some (.ref E10)))
  (xn11:aJ K mainGlobals "NoText" = some (some (.ref E11)))
  (xe1:nO K E1 [.type "ValueError",.type "Exception",.type "BaseException",.type "object"] "ValueError.__new__" = true) (xg1:aR K (.ref E1) "__getattribute__" = some (some (.builtin "BaseException.__getattribute__"))) (xh1:aR K (.ref E1) "__getattr__" = some none) (xc1:aR K (.ref E1) "__class__" = some (some (.builtin "object.__class__"))) (xo1:eU K E1 (.type "object")=some true)
  (xe9:nO K E9 [.type "ValueError",.type "Exception",.type "BaseException",.type "object"] "ValueError.__new__" = true) (xg9:aR K (.ref E9) "__getattribute__" = some (some (.builtin "BaseException.__getattribute__"))) (xh9:aR K (.ref E9) "__getattr__" = some none) (xc9:aR K (.ref E9) "__class__" = some (some (.builtin "object.__class__"))) (xo9:eU K E9 (.type "object")=some true)
  (xe10:nO K E10 [.type "ValueError",.type "Exception",.type "BaseException",.type "object"] "ValueError.__new__" = true) (xg10:aR K (.ref E10) "__getattribute__" = some (some (.builtin "BaseException.__getattribute__"))) (xh10:aR K (.ref E10) "__getattr__" = some none) (xc10:aR K (.ref E10) "__class__" = some (some (.builtin "object.__class__"))) (xo10:eU K E10 (.type "object")=some true)
  (xe11:nO K E11 [.type "ValueError",.type "Exception",.type "BaseException",.type "object"] "ValueError.__new__" = true) (xg11:aR K (.ref E11) "__getattribute__" = some (some (.builtin "BaseException.__getattribute__"))) (xh11:aR K (.ref E11) "__getattr__" = some none) (xc11:aR K (.ref E11) "__class__" = some (some (.builtin "object.__class__"))) (xo11:eU K E11 (.type "object")=some true)
  (xb0:eU K E0 (.type "BaseException")=some true)
  (xb1:eU K E1 (.type "BaseException")=some true)
  (xb9:eU K E9 (.type "BaseException")=some true)
  (xb10:eU K E10 (.type "BaseException")=some true)
  (xb11:eU K E11 (.type "BaseException")=some true)
  (xu0:fU K E0=true) (xy0:fJ K (.ref E0)=some (.type "type"))
  (xu1:fU K E1=true) (xy1:fJ K (.ref E1)=some (.type "type"))
  (xu9:fU K E9=true) (xy9:fJ K (.ref E9)=some (.type "type"))
  (xu10:fU K E10=true) (xy10:fJ K (.ref E10)=some (.type "type"))
  (xu11:fU K E11=true) (xy11:fJ K (.ref E11)=some (.type "type"))
  (xs1_0:bX K (.ref E1) (.ref E0)=some true)
  (xs1_9:bX K (.ref E1) (.ref E9)=some false)
  (xq1_9:(Value.ref E1==Value.ref E9)=false)
  (xs1_10:bX K (.ref E1) (.ref E10)=some false)
  (xq1_10:(Value.ref E1==Value.ref E10)=false)
  (xs1_11:bX K (.ref E1) (.ref E11)=some false)
  (xq1_11:(Value.ref E1==Value.ref E11)=false)
  (xs9_0:bX K (.ref E9) (.ref E0)=some true)
  (xs9_1:bX K (.ref E9) (.ref E1)=some false)
  (xq9_1:(Value.ref E9==Value.ref E1)=false)
  (xs9_10:bX K (.ref E9) (.ref E10)=some false)
  (xq9_10:(Value.ref E9==Value.ref E10)=false)
  (xs9_11:bX K (.ref E9) (.ref E11)=some false)
  (xq9_11:(Value.ref E9==Value.ref E11)=false)
  (xs10_0:bX K (.ref E10) (.ref E0)=some true)
  (xs10_1:bX K (.ref E10) (.ref E1)=some false)
  (xq10_1:(Value.ref E10==Value.ref E1)=false)
  (xs10_9:bX K (.ref E10) (.ref E9)=some false)
  (xq10_9:(Value.ref E10==Value.ref E9)=false)
  (xs10_11:bX K (.ref E10) (.ref E11)=some false)
  (xq10_11:(Value.ref E10==Value.ref E11)=false)
  (xs11_0:bX K (.ref E11) (.ref E0)=some true)
  (xs11_1:bX K (.ref E11) (.ref E1)=some false)
  (xq11_1:(Value.ref E11==Value.ref E1)=false)
  (xs11_9:bX K (.ref E11) (.ref E9)=some false)
  (xq11_9:(Value.ref E11==Value.ref E9)=false)
  (xs11_10:bX K (.ref E11) (.ref E10)=some false)
  (xq11_10:(Value.ref E11==Value.ref E10)=false)
  (z0:aJ K mainGlobals "all" = some none)
  (z1:aJ K mainGlobals "int" = some none)
  (z2:aJ K mainGlobals "isinstance" = some none)
  (z3:aJ K mainGlobals "len" = some none)
  (z4:aJ K mainGlobals "list" = some none)
  (z5:aJ K mainGlobals "max" = some none)
  (z6:aJ K mainGlobals "min" = some none)
  (z7:aJ K mainGlobals "range" = some none)
  (z8:aJ K mainGlobals "str" = some none)
  (v0:aJ K mainGlobals "FIGURES" = some (some (.str "0123456789" t0)))
  (v1:aJ K mainGlobals "MOST_FIGURES" = some (some (.int 60 t1)))
  (v2:aJ K mainGlobals "MOST_TIMES" = some (some (.int 100 t2)))
  (v3:aJ K mainGlobals "MOST_TOGETHER" = some (some (.int 300 t3))) :
  ∃fd:FuncData,(∀(s:Shared) (v:Value),BindsTo s fd ⟨[v],[]⟩ [("_law_script",v)])/\∀base:Heap,K.In base->base.Ns mainGlobals mg->FnOk l.prog w K mg base CX0 9 fa fd ["_law_script"] (IY K 63):=by
 have e:=hfa.symm.trans (aM X G a43);cases e;have cl7:Cls K K7:=⟨pg7,hd7,po7,sa7⟩
 have cl8:Cls K K8:=⟨pg8,hd8,po8,sa8⟩
 have cl9:Cls K K9:=⟨pg9,hd9,po9,sa9⟩
 have cl10:Cls K K10:=⟨pg10,hd10,po10,sa10⟩
 have T:Glb K mg:=⟨dG X G z0,dG X G z1,dG X G z2,dG X G z3,dG X G z4,dG X G z5,dG X G z6,dG X G z7,dG X G z8,⟨_,aM X G v0⟩,⟨_,aM X G v1⟩,⟨_,aM X G v2⟩,⟨_,aM X G v3⟩,(AV n7 cl7 na7_place rfl (by decide +kernel) (AV n8 cl8 na8_place rfl (by decide +kernel) PU)),⟨E11,aM X G xn11,(jI (t:=1) (by exact xn1) ⟨xg1,xh1,xc1,xo1,xb1⟩ (xT xu11 xy11 xs1_11 xq1_11) (jI (t:=9) (by exact xn9) ⟨xg9,xh9,xc9,xo9,xb9⟩ (xT xu11 xy11 xs9_11 xq9_11) (jI (t:=10) (by exact xn10) ⟨xg10,xh10,xc10,xo10,xb10⟩ (xT xu11 xy11 xs10_11 xq10_11) (jI (t:=11) (by exact xn11) ⟨xg11,xh11,xc11,xo11,xb11⟩ (vS E11) uF))))⟩,⟨E10,aM X G xn10,(jI (t:=1) (by exact xn1) ⟨xg1,xh1,xc1,xo1,xb1⟩ (xT xu10 xy10 xs1_10 xq1_10) (jI (t:=9) (by exact xn9) ⟨xg9,xh9,xc9,xo9,xb9⟩ (xT xu10 xy10 xs9_10 xq9_10) (jI (t:=10) (by exact xn10) ⟨xg10,xh10,xc10,xo10,xb10⟩ (vS E10) (jI (t:=11) (by exact xn11) ⟨xg11,xh11,xc11,xo11,xb11⟩ (xT xu10 xy10 xs11_10 xq11_10) uF))))⟩,⟨E9,aM X G xn9,(jI (t:=1) (by exact xn1) ⟨xg1,xh1,xc1,xo1,xb1⟩ (xT xu9 xy9 xs1_9 xq1_9) (jI (t:=9) (by exact xn9) ⟨xg9,xh9,xc9,xo9,xb9⟩ (vS E9) (jI (t:=10) (by exact xn10) ⟨xg10,xh10,xc10,xo10,xb10⟩ (xT xu9 xy9 xs10_9 xq10_9) (jI (t:=11) (by exact xn11) ⟨xg11,xh11,xc11,xo11,xb11⟩ (xT xu9 xy9 xs11_9 xq11_9) uF))))⟩,⟨E1,aM X G xn1,(jI (t:=1) (by exact xn1) ⟨xg1,xh1,xc1,xo1,xb1⟩ (vS E1) (jI (t:=9) (by exact xn9) ⟨xg9,xh9,xc9,xo9,xb9⟩ (xT xu1 xy1 xs9_1 xq9_1) (jI (t:=10) (by exact xn10) ⟨xg10,xh10,xc10,xo10,xb10⟩ (xT xu1 xy1 xs10_1 xq10_1) (jI (t:=11) (by exact xn11) ⟨xg11,xh11,xc11,xo11,xb11⟩ (xT xu1 xy1 xs11_1 xq11_1) uF))))⟩⟩
 have XR_1:XR K mg 1 E1:=⟨by exact xn1,by exact aM X G xn1,⟨xe1,⟨xg1,xh1,xc1,xo1,xb1⟩⟩⟩
 have XR_9:XR K mg 9 E9:=⟨by exact xn9,by exact aM X G xn9,⟨xe9,⟨xg9,xh9,xc9,xo9,xb9⟩⟩⟩
 have XR_10:XR K mg 10 E10:=⟨by exact xn10,by exact aM X G xn10,⟨xe10,⟨xg10,xh10,xc10,xo10,xb10⟩⟩⟩
 have XR_11:XR K mg 11 E11:=⟨by exact xn11,by exact aM X G xn11,⟨xe11,⟨xg11,xh11,xc11,xo11,xb11⟩⟩⟩
 have XT_1:XT K mg 1 "SpanError" E1 E0:=⟨by exact xn1,aM X G xn0,⟨xY xu0 xy0 xs1_0,xb0⟩⟩
 have XT_9:XT K mg 9 "SpanError" E9 E0:=⟨by exact xn9,aM X G xn0,⟨xY xu0 xy0 xs9_0,xb0⟩⟩
 have XT_10:XT K mg 10 "SpanError" E10 E0:=⟨by exact xn10,aM X G xn0,⟨xY xu0 xy0 xs10_0,xb0⟩⟩
 have XT_11:XT K mg 11 "SpanError" E11 E0:=⟨by exact xn11,aM X G xn0,⟨xY xu0 xy0 xs11_0,xb0⟩⟩
 obtain⟨_,F0,a0,k0,i0⟩:=d0.get;have b0:=F0.binds (ps:=["self"]) fun _ _ _ _ _ _=>len1 fun _=>rfl;obtain⟨_,F1,a1,k1,i1⟩:=d1.get;have b1:=F1.binds (ps:=["self"]) fun _ _ _ _ _ _=>len1 fun _=>rfl;obtain⟨_,F2,a2,k2,i2⟩:=d2.get;have b2:=F2.binds (ps:=["self","place"]) fun _ _ _ _ _ _=>len2 fun _ _=>rfl;obtain⟨_,F3,a3,k3,i3⟩:=d3.get;have b3:=F3.binds (ps:=["self"]) fun _ _ _ _ _ _=>len1 fun _=>rfl;obtain⟨_,F4,a4,k4,i4⟩:=d4.get;have b4:=F4.binds (ps:=["self"]) fun _ _ _ _ _ _=>len1 fun _=>rfl;obtain⟨_,F5,a5,k5,i5⟩:=d5.get;have b5:=F5.binds (ps:=["self","place"]) fun _ _ _ _ _ _=>len2 fun _ _=>rfl;obtain⟨_,F6,a6,k6,i6⟩:=d6.get;have b6:=F6.binds (ps:=["self"]) fun _ _ _ _ _ _=>len1 fun _=>rfl;obtain⟨_,F7,a7,k7,i7⟩:=d7.get;have b7:=F7.binds (ps:=["self"]) fun _ _ _ _ _ _=>len1 fun _=>rfl;obtain⟨_,F8,a8,k8,i8⟩:=d8.get;have b8:=F8.binds (ps:=["self"]) fun _ _ _ _ _ _=>len1 fun _=>rfl;obtain⟨_,F9,a9,k9,i9⟩:=d9.get;have b9:=F9.binds (ps:=["self"]) fun _ _ _ _ _ _=>len1 fun _=>rfl;obtain⟨_,F11,a11,k11⟩:=d11.get;have b11:=F11.binds (ps:=["low_end","high_end"]) fun _ _ _ _ _ _=>len2 fun _ _=>rfl;obtain⟨_,F21,a21,k21⟩:=d21.get;have b21:=F21.binds (ps:=["rule"]) fun _ _ _ _ _ _=>len1 fun _=>rfl;obtain⟨_,F22,a22,k22⟩:=d22.get;have b22:=F22.binds (ps:=["rule"]) fun _ _ _ _ _ _=>len1 fun _=>rfl;obtain⟨_,F23,a23,k23⟩:=d23.get;have b23:=F23.binds (ps:=["rows"]) fun _ _ _ _ _ _=>len1 fun _=>rfl;obtain⟨_,F25,a25,k25⟩:=d25.get;have b25:=F25.binds (ps:=["text"]) fun _ _ _ _ _ _=>len1 fun _=>rfl;obtain⟨_,F26,a26,k26⟩:=d26.get;have b26:=F26.binds (ps:=["text"]) fun _ _ _ _ _ _=>len1 fun _=>rfl;obtain⟨_,F27,a27,k27⟩:=d27.get;have b27:=F27.binds (ps:=["text"]) fun _ _ _ _ _ _=>len1 fun _=>rfl;obtain⟨_,F28,a28,k28⟩:=d28.get;have b28:=F28.binds (ps:=["text"]) fun _ _ _ _ _ _=>len1 fun _=>rfl;obtain⟨_,F30,a30,k30⟩:=d30.get;have b30:=F30.binds (ps:=["item"]) fun _ _ _ _ _ _=>len1 fun _=>rfl;obtain⟨_,F31,a31,k31⟩:=d31.get;have b31:=F31.binds (ps:=["text"]) fun _ _ _ _ _ _=>len1 fun _=>rfl;have F43:=KA (st:=(top 53)) l43 c43 k43;refine⟨eQ "law" "law" (xP (top 53)) (qS (top 53)) (zH (top 53)) .none kV43 dc43 pm43 an43 cd43 ct43,fun s v=>.of_eq rfl,fun base _ _=>?_⟩;have G0:=HM (P:=l.prog) (w:=w) (base:=base) F0 T;have G1:=AU (P:=l.prog) (w:=w) (base:=base) F1 T;have G2:=pN (P:=l.prog) (w:=w) (base:=base) F2 T;have G3:=EX (P:=l.prog) (w:=w) (base:=base) F3 T;have G4:=tM (P:=l.prog) (w:=w) (base:=base) F4 T;have G5:=pO (P:=l.prog) (w:=w) (base:=base) F5 T;have G6:=EY (P:=l.prog) (w:=w) (base:=base) F6 T;have G7:=tN (P:=l.prog) (w:=w) (base:=base) F7 T;have G8:=tP (P:=l.prog) (w:=w) (base:=base) F8 T;have G9:=oO (P:=l.prog) (w:=w) (base:=base) F9 T;have C_ends_ahead:=d10.cal X G fun F=>AR (P:=l.prog) (w:=w) (base:=base) F T;have M_low:MCal l.prog w K mg base "low" 1 0 [7,8,9,10] cU:=(yW n7 cl7 ⟨a3,i3,k3⟩ G3 (by decide) b3 (by decide +kernel) (yW n8 cl8 ⟨a6,i6,k6⟩ G6 (by decide) b6 (by decide +kernel) (yW n9 cl9 ⟨a8,i8,k8⟩ G8 (by decide) b8 (by decide +kernel) (yW n10 cl10 ⟨a0,i0,k0⟩ G0 (by decide) b0 (by decide +kernel) HB))))
 have M_behind:MCal l.prog w K mg base "behind" 1 0 [7,8,9,10] bW:=(yW n7 cl7 ⟨a4,i4,k4⟩ G4 (by decide) b4 (by decide +kernel) (yW n8 cl8 ⟨a7,i7,k7⟩ G7 (by decide) b7 (by decide +kernel) (yW n9 cl9 ⟨a9,i9,k9⟩ G9 (by decide) b9 (by decide +kernel) (yW n10 cl10 ⟨a1,i1,k1⟩ G1 (by decide) b1 (by decide +kernel) HB))))
 have GX11_1:=HJ (P:=l.prog) (w:=w) (base:=base) F11 T C_ends_ahead M_low M_behind XR_1;have CX_span_1:CalX l.prog w K mg base "span" 2 2 eB E1:=⟨f11,_,_,GX11_1,b11,k11,aM X G a11⟩
 have G11:=VL F11 T C_ends_ahead M_low M_behind;have C_span:=xV G11 b11 k11 (aM X G a11);have C_later_low:=d12.cal X G fun F=>BR (P:=l.prog) (w:=w) (base:=base) F T;have C_earlier_behind:=d13.cal X G fun F=>oN (P:=l.prog) (w:=w) (base:=base) F T;have C_meet:=d14.cal X G fun F=>VM F T C_later_low C_earlier_behind C_ends_ahead;have C_length:=d15.cal X G fun F=>KC (P:=l.prog) (w:=w) (base:=base) F T;have C_knit:=d16.cal X G fun F=>VN (P:=l.prog) (w:=w) (base:=base) F T;have C_parts_in:=d17.cal X G fun F=>EU F T C_meet;have C_rows_over:=d18.cal X G fun F=>BP F T C_parts_in;have C_formed:=d19.cal X G fun F=>KD F T C_knit C_rows_over;have C_is_rule:=d20.cal X G fun F=>HL (P:=l.prog) (w:=w) (base:=base) F T;have GX21_9:=rR (P:=l.prog) (w:=w) (base:=base) F21 T C_is_rule XR_9;have CX_stretches_9:CalX l.prog w K mg base "stretches" 2 1 cI E9:=⟨f21,_,_,GX21_9,b21,k21,aM X G a21⟩
 have G21:=BN F21 T C_is_rule;have C_stretches:=xV G21 b21 k21 (aM X G a21);have GX22_9:=rT (P:=l.prog) (w:=w) (base:=base) F22 T C_stretches CX_stretches_9;have CX_rule_rows_9:CalX l.prog w K mg base "rule_rows" 3 1 bP E9:=⟨f22,_,_,GX22_9,b22,k22,aM X G a22⟩
 have G22:=BO F22 T C_stretches;have C_rule_rows:=xV G22 b22 k22 (aM X G a22);have GX23_10:=pJ (P:=l.prog) (w:=w) (base:=base) F23 T C_formed XR_10;have CX_laid_rows_10:CalX l.prog w K mg base "laid_rows" 6 1 cC E10:=⟨f23,_,_,GX23_10,b23,k23,aM X G a23⟩
 have G23:=BS F23 T C_formed;have C_laid_rows:=xV G23 b23 k23 (aM X G a23);have C_is_number:=d24.cal X G fun F=>BU (P:=l.prog) (w:=w) (base:=base) F T;have GX25_11:=nU (P:=l.prog) (w:=w) (base:=base) F25 T C_is_number XR_11;have CX_read_number_11:CalX l.prog w K mg base "read_number" 2 1 aS E11:=⟨f25,_,_,GX25_11,b25,k25,aM X G a25⟩
 have G25:=tJ F25 T C_is_number;have C_read_number:=xV G25 b25 k25 (aM X G a25);have Mk_Endless:MkP K mg 9:=⟨K9,n9,aM X G n9,mk9,ai9,kc9⟩
 have Mk_Shut:MkC l.prog w K mg base 7 1 1 aN:=⟨K7,f2,_,_,n7,aM X G n7,⟨mk7,a2,i2,kc7⟩,cl7,G2,b2,(kC (l:=["place"]) (AH na7_place CQ))⟩
 have Mk_Open:MkC l.prog w K mg base 8 1 1 aN:=⟨K8,f5,_,_,n8,aM X G n8,⟨mk8,a5,i5,kc8⟩,cl8,G5,b5,(kC (l:=["place"]) (AH na8_place CQ))⟩
 have GX26_11:=nK (P:=l.prog) (w:=w) (base:=base) F26 T C_read_number Mk_Endless Mk_Shut Mk_Open XR_11 CX_read_number_11;have CX_read_low_end_11:CalX l.prog w K mg base "read_low_end" 3 1 cK E11:=⟨f26,_,_,GX26_11,b26,k26,aM X G a26⟩
 have G26:=rZ F26 T C_read_number Mk_Endless Mk_Shut Mk_Open;have C_read_low_end:=xV G26 b26 k26 (aM X G a26);have GX27_11:=mS (P:=l.prog) (w:=w) (base:=base) F27 T C_read_number Mk_Endless Mk_Shut Mk_Open XR_11 CX_read_number_11;have CX_read_high_end_11:CalX l.prog w K mg base "read_high_end" 3 1 cG E11:=⟨f27,_,_,GX27_11,b27,k27,aM X G a27⟩
 have G27:=pL F27 T C_read_number Mk_Endless Mk_Shut Mk_Open;have C_read_high_end:=xV G27 b27 k27 (aM X G a27);have GX28_11:=pI (P:=l.prog) (w:=w) (base:=base) F28 T C_read_low_end C_read_high_end XR_11 CX_read_low_end_11 CX_read_high_end_11;have CX_read_ends_11:CalX l.prog w K mg base "read_ends" 4 1 bH E11:=⟨f28,_,_,GX28_11,b28,k28,aM X G a28⟩
 have G28:=BQ F28 T C_read_low_end C_read_high_end;have C_read_ends:=xV G28 b28 k28 (aM X G a28);have C_comes_each:=d29.cal X G fun F=>AS (P:=l.prog) (w:=w) (base:=base) F T;have GX30_1:=rY (P:=l.prog) (w:=w) (base:=base) F30 T C_read_ends C_read_number C_span C_rule_rows C_length C_comes_each CX_span_1;have CX_item_rows_1:CalX l.prog w K mg base "item_rows" 5 1 bM E1:=⟨f30,_,_,GX30_1,b30,k30,aM X G a30⟩
 have GX30_9:=rX (P:=l.prog) (w:=w) (base:=base) F30 T C_read_ends C_read_number C_span C_rule_rows C_length C_comes_each XR_9 CX_rule_rows_9;have CX_item_rows_9:CalX l.prog w K mg base "item_rows" 5 1 bE E9:=⟨f30,_,_,GX30_9,b30,k30,aM X G a30⟩
 have GX30_11:=pK (P:=l.prog) (w:=w) (base:=base) F30 T C_read_ends C_read_number C_span C_rule_rows C_length C_comes_each XR_11 CX_read_ends_11 CX_read_number_11;have CX_item_rows_11:CalX l.prog w K mg base "item_rows" 5 1 bI E11:=⟨f30,_,_,GX30_11,b30,k30,aM X G a30⟩
 have G30:=BT F30 T C_read_ends C_read_number C_span C_rule_rows C_length C_comes_each;have C_item_rows:=xV G30 b30 k30 (aM X G a30);have GX31_1:=tI (P:=l.prog) (w:=w) (base:=base) F31 T C_laid_rows C_item_rows CX_item_rows_1;have CX_read_map_1:CalX l.prog w K mg base "read_map" 7 1 cP E1:=⟨f31,_,_,GX31_1,b31,k31,aM X G a31⟩
 have GX31_9:=tH (P:=l.prog) (w:=w) (base:=base) F31 T C_laid_rows C_item_rows CX_item_rows_9;have CX_read_map_9:CalX l.prog w K mg base "read_map" 7 1 cO E9:=⟨f31,_,_,GX31_9,b31,k31,aM X G a31⟩
 have GX31_10:=rW (P:=l.prog) (w:=w) (base:=base) F31 T C_laid_rows C_item_rows CX_laid_rows_10;have CX_read_map_10:CalX l.prog w K mg base "read_map" 7 1 bY E10:=⟨f31,_,_,GX31_10,b31,k31,aM X G a31⟩
 have GX31_11:=rV (P:=l.prog) (w:=w) (base:=base) F31 T C_laid_rows C_item_rows XR_11 CX_item_rows_11;have CX_read_map_11:CalX l.prog w K mg base "read_map" 7 1 cJ E11:=⟨f31,_,_,GX31_11,b31,k31,aM X G a31⟩
 have G31:=ET F31 T C_laid_rows C_item_rows;have C_read_map:=xV G31 b31 k31 (aM X G a31);have C__law_cell_at:=d32.cal X G fun F=>sC (P:=l.prog) (w:=w) (base:=base) F T;have C__law_number:=d33.cal X G fun F=>tL (P:=l.prog) (w:=w) (base:=base) F T;have C__law_item:=d34.cal X G fun F=>BY (P:=l.prog) (w:=w) (base:=base) F T;have C__law_hundreds:=d35.cal X G fun F=>pM (P:=l.prog) (w:=w) (base:=base) F T;have C__law_spoilt:=d36.cal X G fun F=>tK (P:=l.prog) (w:=w) (base:=base) F T;have C__law_read:=d37.cal X G fun F=>BX (P:=l.prog) (w:=w) (base:=base) F T;have C__law_end:=d38.cal X G fun F=>EV F T C__law_read;have C__law_span:=d39.cal X G fun F=>BW F T C__law_end;have C__law_times:=d40.cal X G fun F=>AT F T C__law_span C__law_read;have C__law_due:=d41.cal X G fun F=>EW F T C__law_times;have C__law_told:=d42.cal X G fun F=>BV F T C_read_map XT_1 CX_read_map_1 XT_9 CX_read_map_9 XT_10 CX_read_map_10 XT_11 CX_read_map_11;exact ZI (F:=pV) (ZQ F43 T C__law_cell_at C__law_number C__law_spoilt C__law_told C__law_due C__law_item C__law_hundreds) run_law
end K93
def PySem.W.Fast.tw8646409785439345008 : Unit := ()
def PySem.W.Fast.tw13902344544690393627 : Unit := ()
def PySem.W.Fast.tw17717799698011692805 : Unit := ()
def PySem.W.Fast.tw10115542268316398027 : Unit := ()
def PySem.W.Fast.tw8664710196672618480 : Unit := ()
def PySem.W.Fast.tw3788509140455889436 : Unit := ()
def PySem.W.Fast.tw10858531864391727893 : Unit := ()
def PySem.W.Fast.tw17878170242081254632 : Unit := ()
def PySem.W.Fast.tw14521573174906866322 : Unit := ()
def PySem.W.Fast.tw17662380462609411341 : Unit := ()
def PySem.W.Fast.tw18243935252659554608 : Unit := ()
def PySem.W.Fast.tw9164293265865900649 : Unit := ()
def PySem.W.Fast.tw4044631588272765085 : Unit := ()
def PySem.W.Fast.tw780245755298667768 : Unit := ()
def PySem.W.Fast.tw1457800770503372379 : Unit := ()
def PySem.W.Fast.tw1184890389045748653 : Unit := ()
def PySem.W.Fast.tw2631560180089752086 : Unit := ()
def PySem.W.Fast.tw13815363710849087870 : Unit := ()
def PySem.W.Fast.tw4879285736192671680 : Unit := ()
def PySem.W.Fast.tw12173844676029245247 : Unit := ()
def PySem.W.Fast.tw13697934702027866114 : Unit := ()
def PySem.W.Fast.tw10910144008356926923 : Unit := ()
def PySem.W.Fast.tw6097859516365803065 : Unit := ()
def PySem.W.Fast.tw5847956309701615233 : Unit := ()
def PySem.W.Fast.tw8819264536197944132 : Unit := ()
def PySem.W.Fast.tw16650420772718500565 : Unit := ()
def PySem.W.Fast.tw2412905947993693078 : Unit := ()
def PySem.W.Fast.tw1649328954403351225 : Unit := ()
def PySem.W.Fast.tw5214069489002299125 : Unit := ()
def PySem.W.Fast.tw11888657254380735527 : Unit := ()
def PySem.W.Fast.tw288932128656598326 : Unit := ()
def PySem.W.Fast.tw5478937168460353073 : Unit := ()
def PySem.W.Fast.tw17051215371691654138 : Unit := ()
def PySem.W.Fast.tw12508574539619267031 : Unit := ()
def PySem.W.Fast.tw10174575291248755841 : Unit := ()
def PySem.W.Fast.tw12081557838182589790 : Unit := ()
def PySem.W.Fast.tw14215205726262285341 : Unit := ()
def PySem.W.Fast.tw14107983854910635860 : Unit := ()
def PySem.W.Fast.tw11244290587707230238 : Unit := ()
def PySem.W.Fast.tw10890649958601311568 : Unit := ()
def PySem.W.Fast.tw3844554039359650820 : Unit := ()
def PySem.W.Fast.tw14850855702244312498 : Unit := ()
def PySem.W.Fast.tw14123342618275180340 : Unit := ()
def PySem.W.Fast.tw6524557375940565651 : Unit := ()
def PySem.W.Fast.tw4758775672616019550 : Unit := ()
def PySem.W.Fast.tw1055651775527836978:Unit:=()
def PySem.W.Fast.tw860283740828045184:Unit:=()
def PySem.W.Fast.tw16129073037388182641:Unit:=()
def PySem.W.Fast.tw14700396674400202973:Unit:=()
def PySem.W.Fast.tw14383858568354852830:Unit:=()
def PySem.W.Fast.tw8925081758240488320:Unit:=()
def PySem.W.Fast.tw14349880883895847977:Unit:=()
def PySem.W.Fast.tw7199152151027084969:Unit:=()
def PySem.W.Fast.tw2197622967044669720:Unit:=()
def PySem.W.Fast.tw3852427892997622646:Unit:=()
def PySem.W.Fast.tw6054627008416829583:Unit:=()
def PySem.W.Fast.tw18084233877464950793:Unit:=()
def PySem.W.Fast.tw14137666200082582621:Unit:=()
def PySem.W.Fast.tw3360065065763135823:Unit:=()
def PySem.W.Fast.tw3842421754113034182:Unit:=()
def PySem.W.Fast.tw1784015419080975394:Unit:=()
open PySem PySem.W PyProof.Rows
set_option maxRecDepth 100000 in
set_option maxHeartbeats 0 in
theorem PySem.Challenge.cw_spanmap_k93_items_refused_holds : PySem.Challenge.rw_spanmap_k93_items_refused.Holds := by
 w_on; o_law; k_head; (case hw=>w_witness2)
 k_fill
 refine' FL.walkB (l:=PySem.Challenge.rw_spanmap_k93_items_refused) (k:=9) rfl rfl ⟨rfl,by decide,by decide⟩ (fun w h Y=>PySem.W.kIn_of Y) (fun w=>by kernel_rfl) ?T ?F
 case T =>
  intro w;dsimp only [L2.makers]
  repeat (first
   | exact FL.TabL.nil
   | (apply FL.tabL_no; k_is)
   | (apply FL.tabL_yes; k_is; k_is; exact rfl; k_is; exact rfl; kernel_rfl))
  all_goals decide
 case F =>
  intro w mg fa h KX G hmg;refine' K93.all_mk KX G hmg ?n7 ?pg7 ?hd7 ?po7 ?sa7 ?na7_place ?n8 ?pg8 ?hd8 ?po8 ?sa8 ?na8_place ?n9 ?pg9 ?hd9 ?po9 ?sa9 ?n10 ?pg10 ?hd10 ?po10 ?sa10 ?d0 ?d1 ?d2 ?d3 ?d4 ?d5 ?d6 ?d7 ?d8 ?d9 ?d10 ?d11 ?d12 ?d13 ?d14 ?d15 ?d16 ?d17 ?d18 ?d19 ?d20 ?d21 ?d22 ?d23 ?d24 ?d25 ?d26 ?d27 ?d28 ?d29 ?d30 ?d31 ?d32 ?d33 ?d34 ?d35 ?d36 ?d37 ?d38 ?d39 ?d40 ?d41 ?d42 ?a43 ?l43 ?c43 ?k43 ?mk7 ?kc7 ?mk8 ?kc8 ?mk9 ?kc9 ?ai9 ?xn0 ?xn1 ?xn9 ?xn10 ?xn11 ?xe1 ?xg1 ?xh1 ?xc1 ?xo1 ?xe9 ?xg9 ?xh9 ?xc9 ?xo9 ?xe10 ?xg10 ?xh10 ?xc10 ?xo10 ?xe11 ?xg11 ?xh11 ?xc11 ?xo11 ?xb0 ?xb1 ?xb9 ?xb10 ?xb11 ?xu0 ?xy0 ?xu1 ?xy1 ?xu9 ?xy9 ?xu10 ?xy10 ?xu11 ?xy11 ?xs1_0 ?xs1_9 ?xq1_9 ?xs1_10 ?xq1_10 ?xs1_11 ?xq1_11 ?xs9_0 ?xs9_1 ?xq9_1 ?xs9_10 ?xq9_10 ?xs9_11 ?xq9_11 ?xs10_0 ?xs10_1 ?xq10_1 ?xs10_9 ?xq10_9 ?xs10_11 ?xq10_11 ?xs11_0 ?xs11_1 ?xq11_1 ?xs11_9 ?xq11_9 ?xs11_10 ?xq11_10 ?z0 ?z1 ?z2 ?z3 ?z4 ?z5 ?z6 ?z7 ?z8 ?v0 ?v1 ?v2 ?v3
  (case n7=>k_is)
  (case pg7=>k_is)
  (case hd7=>k_is)
  (case po7=>k_is)
  (case sa7=>k_is)
  (case na7_place=>k_is)
  (case n8=>k_is)
  (case pg8=>k_is)
  (case hd8=>k_is)
  (case po8=>k_is)
  (case sa8=>k_is)
  (case na8_place=>k_is)
  (case n9=>k_is)
  (case pg9=>k_is)
  (case hd9=>k_is)
  (case po9=>k_is)
  (case sa9=>k_is)
  (case n10=>k_is)
  (case pg10=>k_is)
  (case hd10=>k_is)
  (case po10=>k_is)
  (case sa10=>k_is)
  (case d0=>((first | unfold FL.DefM | unfold FL.DefC); iterate 9 (apply Exists.intro); repeat' (first | (unfold FL.LkF; k_is) | k_is | apply And.intro)))
  (case d1=>((first | unfold FL.DefM | unfold FL.DefC); iterate 9 (apply Exists.intro); repeat' (first | (unfold FL.LkF; k_is) | k_is | apply And.intro)))
  (case d2=>((first | unfold FL.DefM | unfold FL.DefC); iterate 9 (apply Exists.intro); repeat' (first | (unfold FL.LkF; k_is) | k_is | apply And.intro)))
  (case d3=>((first | unfold FL.DefM | unfold FL.DefC); iterate 9 (apply Exists.intro); repeat' (first | (unfold FL.LkF; k_is) | k_is | apply And.intro)))
  (case d4=>((first | unfold FL.DefM | unfold FL.DefC); iterate 9 (apply Exists.intro); repeat' (first | (unfold FL.LkF; k_is) | k_is | apply And.intro)))
  (case d5=>((first | unfold FL.DefM | unfold FL.DefC); iterate 9 (apply Exists.intro); repeat' (first | (unfold FL.LkF; k_is) | k_is | apply And.intro)))
  (case d6=>((first | unfold FL.DefM | unfold FL.DefC); iterate 9 (apply Exists.intro); repeat' (first | (unfold FL.LkF; k_is) | k_is | apply And.intro)))
  (case d7=>((first | unfold FL.DefM | unfold FL.DefC); iterate 9 (apply Exists.intro); repeat' (first | (unfold FL.LkF; k_is) | k_is | apply And.intro)))
  (case d8=>((first | unfold FL.DefM | unfold FL.DefC); iterate 9 (apply Exists.intro); repeat' (first | (unfold FL.LkF; k_is) | k_is | apply And.intro)))
  (case d9=>((first | unfold FL.DefM | unfold FL.DefC); iterate 9 (apply Exists.intro); repeat' (first | (unfold FL.LkF; k_is) | k_is | apply And.intro)))
  (case d10=>((first | unfold FL.DefM | unfold FL.DefC); iterate 9 (apply Exists.intro); repeat' (first | (unfold FL.LkF; k_is) | k_is | apply And.intro)))
  (case d11=>((first | unfold FL.DefM | unfold FL.DefC); iterate 9 (apply Exists.intro); repeat' (first | (unfold FL.LkF; k_is) | k_is | apply And.intro)))
  (case d12=>((first | unfold FL.DefM | unfold FL.DefC); iterate 9 (apply Exists.intro); repeat' (first | (unfold FL.LkF; k_is) | k_is | apply And.intro)))
  (case d13=>((first | unfold FL.DefM | unfold FL.DefC); iterate 9 (apply Exists.intro); repeat' (first | (unfold FL.LkF; k_is) | k_is | apply And.intro)))
  (case d14=>((first | unfold FL.DefM | unfold FL.DefC); iterate 9 (apply Exists.intro); repeat' (first | (unfold FL.LkF; k_is) | k_is | apply And.intro)))
  (case d15=>((first | unfold FL.DefM | unfold FL.DefC); iterate 9 (apply Exists.intro); repeat' (first | (unfold FL.LkF; k_is) | k_is | apply And.intro)))
  (case d16=>((first | unfold FL.DefM | unfold FL.DefC); iterate 9 (apply Exists.intro); repeat' (first | (unfold FL.LkF; k_is) | k_is | apply And.intro)))
  (case d17=>((first | unfold FL.DefM | unfold FL.DefC); iterate 9 (apply Exists.intro); repeat' (first | (unfold FL.LkF; k_is) | k_is | apply And.intro)))
  (case d18=>((first | unfold FL.DefM | unfold FL.DefC); iterate 9 (apply Exists.intro); repeat' (first | (unfold FL.LkF; k_is) | k_is | apply And.intro)))
  (case d19=>((first | unfold FL.DefM | unfold FL.DefC); iterate 9 (apply Exists.intro); repeat' (first | (unfold FL.LkF; k_is) | k_is | apply And.intro)))
  (case d20=>((first | unfold FL.DefM | unfold FL.DefC); iterate 9 (apply Exists.intro); repeat' (first | (unfold FL.LkF; k_is) | k_is | apply And.intro)))
  (case d21=>((first | unfold FL.DefM | unfold FL.DefC); iterate 9 (apply Exists.intro); repeat' (first | (unfold FL.LkF; k_is) | k_is | apply And.intro)))
  (case d22=>((first | unfold FL.DefM | unfold FL.DefC); iterate 9 (apply Exists.intro); repeat' (first | (unfold FL.LkF; k_is) | k_is | apply And.intro)))
  (case d23=>((first | unfold FL.DefM | unfold FL.DefC); iterate 9 (apply Exists.intro); repeat' (first | (unfold FL.LkF; k_is) | k_is | apply And.intro)))
  (case d24=>((first | unfold FL.DefM | unfold FL.DefC); iterate 9 (apply Exists.intro); repeat' (first | (unfold FL.LkF; k_is) | k_is | apply And.intro)))
  (case d25=>((first | unfold FL.DefM | unfold FL.DefC); iterate 9 (apply Exists.intro); repeat' (first | (unfold FL.LkF; k_is) | k_is | apply And.intro)))
  (case d26=>((first | unfold FL.DefM | unfold FL.DefC); iterate 9 (apply Exists.intro); repeat' (first | (unfold FL.LkF; k_is) | k_is | apply And.intro)))
  (case d27=>((first | unfold FL.DefM | unfold FL.DefC); iterate 9 (apply Exists.intro); repeat' (first | (unfold FL.LkF; k_is) | k_is | apply And.intro)))
  (case d28=>((first | unfold FL.DefM | unfold FL.DefC); iterate 9 (apply Exists.intro); repeat' (first | (unfold FL.LkF; k_is) | k_is | apply And.intro)))
  (case d29=>((first | unfold FL.DefM | unfold FL.DefC); iterate 9 (apply Exists.intro); repeat' (first | (unfold FL.LkF; k_is) | k_is | apply And.intro)))
  (case d30=>((first | unfold FL.DefM | unfold FL.DefC); iterate 9 (apply Exists.intro); repeat' (first | (unfold FL.LkF; k_is) | k_is | apply And.intro)))
  (case d31=>((first | unfold FL.DefM | unfold FL.DefC); iterate 9 (apply Exists.intro); repeat' (first | (unfold FL.LkF; k_is) | k_is | apply And.intro)))
  (case d32=>((first | unfold FL.DefM | unfold FL.DefC); iterate 9 (apply Exists.intro); repeat' (first | (unfold FL.LkF; k_is) | k_is | apply And.intro)))
  (case d33=>((first | unfold FL.DefM | unfold FL.DefC); iterate 9 (apply Exists.intro); repeat' (first | (unfold FL.LkF; k_is) | k_is | apply And.intro)))
  (case d34=>((first | unfold FL.DefM | unfold FL.DefC); iterate 9 (apply Exists.intro); repeat' (first | (unfold FL.LkF; k_is) | k_is | apply And.intro)))
  (case d35=>((first | unfold FL.DefM | unfold FL.DefC); iterate 9 (apply Exists.intro); repeat' (first | (unfold FL.LkF; k_is) | k_is | apply And.intro)))
  (case d36=>((first | unfold FL.DefM | unfold FL.DefC); iterate 9 (apply Exists.intro); repeat' (first | (unfold FL.LkF; k_is) | k_is | apply And.intro)))
  (case d37=>((first | unfold FL.DefM | unfold FL.DefC); iterate 9 (apply Exists.intro); repeat' (first | (unfold FL.LkF; k_is) | k_is | apply And.intro)))
  (case d38=>((first | unfold FL.DefM | unfold FL.DefC); iterate 9 (apply Exists.intro); repeat' (first | (unfold FL.LkF; k_is) | k_is | apply And.intro)))
  (case d39=>((first | unfold FL.DefM | unfold FL.DefC); iterate 9 (apply Exists.intro); repeat' (first | (unfold FL.LkF; k_is) | k_is | apply And.intro)))
  (case d40=>((first | unfold FL.DefM | unfold FL.DefC); iterate 9 (apply Exists.intro); repeat' (first | (unfold FL.LkF; k_is) | k_is | apply And.intro)))
  (case d41=>((first | unfold FL.DefM | unfold FL.DefC); iterate 9 (apply Exists.intro); repeat' (first | (unfold FL.LkF; k_is) | k_is | apply And.intro)))
  (case d42=>((first | unfold FL.DefM | unfold FL.DefC); iterate 9 (apply Exists.intro); repeat' (first | (unfold FL.LkF; k_is) | k_is | apply And.intro)))
  (case a43=>k_is)
  (case l43=>(unfold FL.LkF; k_is))
  (case c43=>k_is)
  (case k43=>k_is)
  (case mk7=>k_is)
  (case kc7=>k_is)
  (case mk8=>k_is)
  (case kc8=>k_is)
  (case mk9=>k_is)
  (case kc9=>k_is)
  (case ai9=>k_is)
  (case xn0=>k_is)
  (case xn1=>k_is)
  (case xn9=>k_is)
  (case xn10=>k_is)
  (case xn11=>k_is)
  (case xe1=>k_exc)
  (case xg1=>k_is)
  (case xh1=>k_is)
  (case xc1=>k_is)
  (case xo1=>k_is)
  (case xe9=>k_exc)
  (case xg9=>k_is)
  (case xh9=>k_is)
  (case xc9=>k_is)
  (case xo9=>k_is)
  (case xe10=>k_exc)
  (case xg10=>k_is)
  (case xh10=>k_is)
  (case xc10=>k_is)
  (case xo10=>k_is)
  (case xe11=>k_exc)
  (case xg11=>k_is)
  (case xh11=>k_is)
  (case xc11=>k_is)
  (case xo11=>k_is)
  (case xb0=>k_is)
  (case xb1=>k_is)
  (case xb9=>k_is)
  (case xb10=>k_is)
  (case xb11=>k_is)
  (case xu0=>k_is)
  (case xy0=>k_is)
  (case xu1=>k_is)
  (case xy1=>k_is)
  (case xu9=>k_is)
  (case xy9=>k_is)
  (case xu10=>k_is)
  (case xy10=>k_is)
  (case xu11=>k_is)
  (case xy11=>k_is)
  (case xs1_0=>k_is)
  (case xs1_9=>k_is)
  (case xq1_9=>decide)
  (case xs1_10=>k_is)
  (case xq1_10=>decide)
  (case xs1_11=>k_is)
  (case xq1_11=>decide)
  (case xs9_0=>k_is)
  (case xs9_1=>k_is)
  (case xq9_1=>decide)
  (case xs9_10=>k_is)
  (case xq9_10=>decide)
  (case xs9_11=>k_is)
  (case xq9_11=>decide)
  (case xs10_0=>k_is)
  (case xs10_1=>k_is)
  (case xq10_1=>decide)
  (case xs10_9=>k_is)
  (case xq10_9=>decide)
  (case xs10_11=>k_is)
  (case xq10_11=>decide)
  (case xs11_0=>k_is)
  (case xs11_1=>k_is)
  (case xq11_1=>decide)
  (case xs11_9=>k_is)
  (case xq11_9=>decide)
  (case xs11_10=>k_is)
  (case xq11_10=>decide)
  (case z0=>k_is)
  (case z1=>k_is)
  (case z2=>k_is)
  (case z3=>k_is)
  (case z4=>k_is)
  (case z5=>k_is)
  (case z6=>k_is)
  (case z7=>k_is)
  (case z8=>k_is)
  (case v0=>k_is)
  (case v1=>k_is)
  (case v2=>k_is)
  (case v3=>k_is)
#print axioms PySem.Challenge.cw_spanmap_k93_items_refused_holds
