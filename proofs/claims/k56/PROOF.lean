import PyProof.Rows.All
import Wide.All
import OpenK.AllK
import Wide.FinOn
import Lean
import PyProof.EqAt
import PyProof.DictItems
import PyProof.DictWalks
import PyProof.Rows.SortStr
import PyProof.Rows.SortShellK
import PyProof.Rows.SortWalk
import KE.KRevIter
import KE.KDictList
import PyProof.CollectIter
import PyProof.DictValues
import KE.KDictSum
import PyProof.EqKinds
import PyProof.TupleCall
import PyProof.ListRange
import PyProof.P3In
import PyProof.NeData
import PyProof.NsDelKeeps
import PyProof.SliceList
import KE.KLam
import KE.KIntText
import PySem.Challenge.RW_spanmap_k56_whole_line
set_option compiler.extract_closed false
set_option bootstrap.genMatcherCode false
set_option hygiene false
local macro_rules
 | `((1:))=>`((fun cdv A outer s H E hr=>?_))
 | `((2:))=>`((fun ds r hl e=>zQ e))
 | `((3:))=>`(fun H₀ H O σ ds hd out E o e h=>?_)
 | `((4:))=>`((zA (.int 1)))
set_option Elab.async false
set_option linter.all false
set_option maxRecDepth 100000
open PySem renaming Addr→aA,Value→aB,Shared→aE,FuncData→aK,starEach→aL,mainGlobals→aP,wpAny_bind→bC,Program→bG,wpAny→bL,model→bM,World→bU,eval→bY,Around→bZ,wpAny_pure→cA,backTo→dB,swapsWith→dI,compareOp→dJ,assignEach→dM,wpAny_truthy_bool→dU,behindInMarks→dY,attributeBase→eG,foldedSetIterable→eJ,keywordEach→eV,wpAny_holding→fP,wpAny_mono→gB,holding→gD,mem_of_lookup→gI,bootBuiltins→gJ,wpAny_Call_Name_kw→gX,sysModules→iN,backToKw→iO,standAt→kJ,getMethod→kK,NameKind→lD,binaryOp→mK,sliceBounds→oG,wpAny_passesOwn→oN,callWith→pJ,assign→pK,codeAny→sT,Keyword→sV,wpAny_specialOf→tY,letOwnedTupleGo→tZ,wpAny_pyIter_revIter→AX,sizeLine_eq→AY,wpAny_standAt→DQ,CmpOp→DS,tupleKind_room_in1→EG,revObj→EH,builtinsNs→EI,wpAny_pyIter_list→IQ,valueAt→IS,getItem→IT,codeAny_mono→IU,callerA→IV,bindArgs→IW,IntMulOk→JA,tupleKind→KA,isTrue→KC,Paired→KG,subscripted→MT,wpAny_execs_nil→OW,typeLookup→SK,atKey→SM,evalArgs_none→SV,swapsWithSole→VC,swappedStores→VD,bindL→YH,bindC→YI,Drawn→YO,seqIndex_neg→aBm,BindsTo→aBt
open List renaming mem_cons→aD,getElem?_set_ne→aF,mem_cons_of_mem→aG,mem_append_right→aI,length_cons→aJ,mem_cons_self→aN,map_cons→aO,length_map→aS,getElem?_eq_some_iff→aV,mem_append_left→aW,getElem?_set_self→aX,getElem?_append_left→aY,size_toArray→aZ,mem_singleton→bA,getElem?_map→bE,pairwise_cons→bH,getElem?_eq_getElem→bI,mem_append→bJ,map_append→bN,length_append→bP,nodup_cons→bR,getElem?_append_right→bV,getElem?_eq_none→bW,getElem?_cons_zero→cC,lookup_cons→cG,map_nil→cH,getElem?_cons_succ→cJ,drop_eq_getElem_cons→cK,mem_map→cP,pairwise_iff_getElem→cS,set_cons_zero→cT,set_cons_succ→cU,length_reverse→cZ,getElem?_replicate→dD,length_nil→dH,mem_reverse→dL,mem_filter→dW,map_map→dX,cons_append→dZ,nodup_append→eD,mem_map_of_mem→eF,append_assoc→eS,find?_cons→eU,length_take→fN,pairwise_singleton→gK,reverse_cons→gY,pairwise_append→iB,mem_of_find?_eq_some→iE,map_congr_left→iH,filterMap_cons→iI,length_filterMap_le→iT,any_cons→iU,nil_append→kL,foldl_cons→kM,append_nil→kN,take_of_length_le→lF,getElem?_reverse→mH,mem_of_mem_take→mZ,mem_iff_getElem→nA,mem_range→oK,pairwise_map→pD,not_mem_nil→pV,length_drop→pW,getElem_mem→pX,all_eq_true→pY,find?_some→rO,length_singleton→rX,map_take→uK,all_cons→uL,mem_filterMap→uM,drop_length→DR,of_mem_zip→FJ,dropLast_concat_getLast→FK,filterMap_eq_nil_iff→KH,map_drop→MU,find?_cons_of_neg→PB,drop_of_length_le→PD,pairwise_reverse→SN,length_replicate→SO,length_filter_le→SQ,mem_of_mem_drop→SX,find?_eq_none→YN,length_range→aBq,foldl_append→aBr,map_reverse→aCk,map_fst_zip→aCl,filter_cons→aCm
open Option renaming bind_some→aH,map_some→cF,map_eq_some_iff→eZ,isSome_iff_exists→JC,isSome_map→VI,getD_none→YM
open PySem.W renaming Frag→aM,nsIn→aT,keepIn→bK,mg_none_of→cB,findIn→cD,kia_one→cM,mg_of→cW,fnOf→dF,emptyDict→eA,makesIn→eQ,codeIn→fG,instObj→fQ,tabIn→iD,plainGet→lG,isFn→nD,callWith_K→nL,hasDictIn→oJ,methodCall_KW→rB,lookIn→rN,plainGet_of→sP,kitx_tuple→sU,specialIn→uG,plainOver→uH,methodObj→uI,kitx_list→uJ,takerIn→CV,tabObj→EJ,noTabs→EK,kitOne→EM,mroIn→IX,cellsFrom_some→KD,callWith_K0→OZ,kitx_dict→SW,kdl_dict→VG,handedIn→VH,readsIn→YJ,findCls→YK,OpenLaw→YL,typeIn→aBo,CodeHd→aBp
open PySem.Heap renaming get?_push_of_some→aQ,get?_push_size→bD,lt_size→bF,get?_update_other→rL,size_push→JD,get?_update_self→SR,get?_push_ne→aBs
open Nat renaming le_refl→aU,ne_of_lt→bO,lt_of_lt_of_le→bQ,le_trans→cL,lt_of_le_of_lt→dG,zero_le→dP,lt_irrefl→dR,le_of_eq→lH,ne_of_gt→CW,le_of_lt→CY,lt_succ_self→EN,le_succ→VJ,lt_trichotomy→aCi,lt_succ_of_lt→aCj
open Bool renaming and_eq_true→bX,false_ne_true→cV,eq_iff_iff→gS,false_eq_true→oM
open Int renaming emod_nonneg→eI,emod_lt_of_pos→fO,ne_of_gt→oH,le_refl→pF,le_of_lt→rP,le_trans→CZ,fdiv_eq_ediv_of_nonneg→KJ,neg_mul→VM,toNat_natCast→aCn
open PyProof.Rows renaming callWith_type1→eN,envOfC→mJ,AllBare→sW,IntsAre→BI,subscriptTail→VE,mulOk_of_bits→VF,StrsAre→aBn
open Array renaming length_toList→eW,getElem?_toList→gW
open PySem.F renaming plainAttrs_list→iS,slot_dict_itemiterator_iter→sQ,type_list_append→IY,slot_list_append→IZ,slot_dict_items→JB
open List.Perm renaming refl→kO
namespace HT
noncomputable def sIx(n d:Nat):Option Int->Nat
 |none=>d
 |some v=>if v<0 then (v+(n:Int)).toNat else min v.toNat n
end HT
namespace L2
open PySem
abbrev Key:=Sum Int Str
noncomputable def ixN(n:Nat)(i:Int):Option Nat:=if 0<=i then (if i<n then some i.toNat else none) else if -(n:Int)<=i then some (i+n).toNat else none
noncomputable def atI{α : Type}(xs:List α)(i:Int):Option α:=(ixN xs.length i).bind fun j=>xs[j]?
end L2
namespace FL
open PySem PySem.Spec PyProof.Rows L2
theorem bnd{α β : Type}{o:Option α}{f : α->Option β}{b : β}(h:o.bind f=some b):∃a,o=some a/\f a=some b:=Option.bind_eq_some_iff.mp h
theorem mpd{α β : Type}{o:Option α}{f : α->β}{b : β}(h:o.map f=some b):∃a,o=some a/\f a=b:=eZ.mp h
noncomputable def dA:Nat->Str
 |0=>"Put" | 1=>"Widen" | 2=>"Narrow" | 3=>"Move" | 4=>"Stretch" | 5=>"Mirror" | 6=>"Deed" | 7=>"Shut" | 8=>"Open" | 9=>"Endless" | 10=>"End" | 11=>"Line" | 12=>"Bundle" | 13=>"Desk"
 |20=>"Line" | 21=>"Line" | 22=>"Line" | 23=>"Line" | 24=>"Bundle" | 25=>"Desk" | _=>""
noncomputable def cR:Nat->List Str
 |0=>["span","fill"] | 1=>["fill","at","many"] | 2=>["fill","at","many"] | 3=>["fill","far"] | 4=>["fill","top","bottom"] | 5=>["fill"] | 6=>["fill"] | 7=>["place"] | 8=>["place"] | 11=>["pieces","places","earlier","later"] | 12=>["lying"] | 13=>["lines"]
 |21=>["pieces"] | 22=>["pieces","places"] | 23=>["pieces","places","earlier"] | _=>[]
noncomputable def fnName:Nat->Str
 |0=>"either" | 1=>"if_both" | 2=>"if_alone" | 3=>"summed" | 4=>"_law_first" | 5=>"_law_both" | 6=>"_law_left" | 7=>"_law_sum" | 8=>"_law_none" | _=>""
inductive D where
 |non | bl (b:Bool) | int (i:Int) | str (x:Str) | tup (ds:List D) | lst (ds:List D)
 |dct (ks:List Key) (ds:List D) | ins (t:Nat) (ds:List D) | clo (m n:Nat) (ds:List D)
 |dcf (ks:List Key) (ds:List D)
mutual
noncomputable def flat:D->Bool
 | .non | .bl _ | .int _ | .str _=>true
 | .tup ds=>flats ds
 |_=>false
noncomputable def flats:List D->Bool
 |[]=>true
 |d::r=>flat d&&flats r
end
noncomputable def xName:Nat->Str
 |0=>"SpanError" | 1=>"Empty" | 2=>"NoEnd" | 3=>"Clash" | 4=>"NoCount" | 5=>"NoShare" | 6=>"NoName" | 7=>"NoMark" | 8=>"NoDeed" | 9=>"NoRule" | 10=>"TooMuch" | 11=>"NoText" | _=>"NoRow"
inductive OT where
 |val (d:D) | lst (l:List OT) | tup (l:List OT) | dct (ks:List Key) (l:List OT) | ins (t:Nat) (l:List OT)
mutual
noncomputable def otD:OT->D
 | .val d=>d
 | .lst l=>.lst (otDs l)
 | .tup l=>.tup (otDs l)
 | .dct ks l=>.dct ks (otDs l)
 | .ins t l=>.ins t (otDs l)
noncomputable def otDs:List OT->List D
 |[]=>[]
 |t::r=>otD t::otDs r
end
inductive Sl where
 |no | v (d:D) | own (l:List D) | exc (t:Nat) | fr (l:List D) | ob (r:Option Nat) (t:OT)
abbrev FE:=List Sl->Option D
abbrev FT:=List Sl->Option Bool
abbrev FA:=List Sl->Option (List D)
noncomputable def mkL(f:FA):FE:=fun ds=>(f ds).map D.lst
noncomputable def qL(i:Nat):FE:=fun ds=>match ds[i]? with | some (.v d)=>some d | _=>none
noncomputable def zH(i:Nat):FE:=fun ds=>match ds[i]? with | some (.v d)=>some d | some (.own l)=>some (.lst l) | _=>none
noncomputable def zA(d:D):FE:=fun _=>some d
noncomputable def zI(op:D->D->Option D)(fa fb:FE):FE:=fun ds=>(fa ds).bind fun x=>(fb ds).bind fun y=>op x y
noncomputable def isB:D->Option Bool
 | .bl b=>some b
 |_=>none
noncomputable def zP(f:FE):FT:=fun ds=>(f ds).bind isB
noncomputable def yF:D->D->Option D
 | .int i,.int j=>some (.int (i+j))
 | .str x,.str y=>if x.length+y.length<=sizeLine then some (.str (x++y)) else none
 |_,_=>none
noncomputable def subD:D->D->Option D
 | .int i,.int j=>some (.int (i-j))
 |_,_=>none
def divOk(j:Int):Prop:=0<j/\j.natAbs.log2<9000
noncomputable instance divOkD(j:Int):Decidable (divOk j):=Classical.propDecidable _
noncomputable def qW:D->D->Option D
 | .int i,.int j=>if divOk j then some (.int (i/j)) else none
 |_,_=>none
noncomputable def jF:D->D->Option D
 | .int i,.int j=>if 0<j then some (.int (i%j)) else none
 |_,_=>none
noncomputable def cmpI(p:Int->Int->Bool):D->D->Option D
 | .int i,.int j=>some (.bl (p i j))
 |_,_=>none
noncomputable def andT(c d:FT):FT:=fun ds=>(c ds).bind fun b=>if b=true then d ds else some false
noncomputable def orT(c d:FT):FT:=fun ds=>(c ds).bind fun b=>if b=true then some true else d ds
noncomputable def notT(c:FT):FT:=fun ds=>(c ds).map not
noncomputable def andV(f g:FE):FE:=fun ds=>(f ds).bind fun d=>match d with | .bl true=>g ds | .bl false=>some (.bl false) | _=>none
noncomputable def orV(f g:FE):FE:=fun ds=>(f ds).bind fun d=>match d with | .bl true=>some (.bl true) | .bl false=>g ds | _=>none
noncomputable def notV(f:FE):FE:=fun ds=>(f ds).bind fun d=>match d with | .bl b=>some (.bl (!b)) | _=>none
noncomputable def ifV(c:FT)(f g:FE):FE:=fun ds=>(c ds).bind fun b=>if b=true then f ds else g ds
noncomputable def chain(op op':D->D->Option D)(fa fb fc:FE):FE:=fun ds=>(fa ds).bind fun x=>(fb ds).bind fun y=>(op x y).bind fun z=>match z with
 | .bl true=>(fc ds).bind fun w=>op' y w
 | .bl false=>some (.bl false)
 |_=>none
noncomputable def zE(f:FE)(g:FA):FA:=fun ds=>(f ds).bind fun x=>(g ds).map fun r=>x::r
noncomputable def zZ:FA:=fun _=>some []
noncomputable def qK(f:FA):FA:=fun ds=>(f ds).bind fun l=>if l.length<=sizeLine then some l else none
noncomputable def mkT(f:FA):FE:=fun ds=>(f ds).map D.tup
noncomputable def ixD:D->D->Option D
 | .lst l,.int i=>atI l i
 | .tup l,.int i=>atI l i
 | .str x,.int i=>if x.length<=sizeLine then (atI x.cps.toList i).map fun c=>.str ⟨#[c]⟩ else none
 |_,_=>none
inductive Ret where
 |val (d:D) | fresh (l:List D) | any (d:D) | obj (t:OT)
noncomputable def retV:Ret->Option D
 | .val d=>some d
 | .fresh l=>some (.lst l)
 | .any _=>none
 | .obj t=>some (otD t)
noncomputable def retF:Ret->Option (List D)
 | .fresh l=>some l
 |_=>none
noncomputable def retA:Ret->Option D
 | .any d=>some d
 |_=>none
noncomputable def callA(n:Nat)(F:List D->Option Ret)(g:List Sl->Option (List D)):List Sl->Option D:=fun ds=>(g ds).bind fun l=>if l.length=n then (F l).bind retA else none
noncomputable def qG(n:Nat)(F:List D->Option Ret)(g:FA):FE:=fun ds=>(g ds).bind fun l=>if l.length=n then (F l).bind retV else none
noncomputable def vV(n:Nat)(F:List D->Option Ret)(g:FA):FA:=fun ds=>(g ds).bind fun l=>if l.length=n then (F l).bind retF else none
noncomputable def callB(F:List D->Option D)(g:FA):FE:=fun ds=>(g ds).bind F
noncomputable def lenD:List D->Option D
 |[.lst l]=>some (.int l.length)
 |[.tup l]=>some (.int l.length)
 |[.str x]=>if x.length<=sizeLine then some (.int x.length) else none
 |_=>none
inductive Out where
 |nx (ds:List Sl) | rt (r:Ret) | bk (ds:List Sl) | ct (ds:List Sl)
abbrev FS:=List Sl->Option Out
noncomputable def qH:FS:=fun ds=>some (.nx ds)
noncomputable def qB(f g:FS):FS:=fun ds=>(f ds).bind fun o=>match o with | .nx ds'=>g ds' | o=>some o
noncomputable def ifG(c:FT)(f g:FS):FS:=fun ds=>(c ds).bind fun b=>if b=true then f ds else g ds
noncomputable def jU(i:Nat)(f:FE):FS:=fun ds=>(f ds).map fun d=>.nx (ds.set i (.v d))
noncomputable def setOG(i:Nat)(f:FA):FS:=fun ds=>(f ds).map fun l=>.nx (ds.set i (.own l))
noncomputable def flatR(d:D):Option Out:=if flat d=true then some (.rt (.val d)) else none
noncomputable def retG(f:FE):FS:=fun ds=>(f ds).bind flatR
noncomputable def flatF(l:List D):Option Out:=if flats l=true then some (.rt (.fresh l)) else none
noncomputable def retOG(f:FA):FS:=fun ds=>(f ds).bind flatF
noncomputable def retXG(i:Nat):FS:=fun ds=>match ds[i]? with | some (.own l)=>flatF l | _=>none
noncomputable def putG(i:Nat)(fk fe:FE):FS:=fun ds=>match ds[i]? with
 | some (.own l) => (fe ds).bind fun d => (fk ds).bind fun k => match k with
   | .int n=>(ixN l.length n).map fun j=>.nx (ds.set i (.own (l.set j d)))
   |_=>none
 |_=>none
noncomputable def appG(i:Nat)(fe:FE):FS:=fun ds=>match ds[i]? with
 |some (.own l)=>(fe ds).bind fun d=>if l.length<sizeLine then some (.nx (ds.set i (.own (l++[d])))) else none
 |_=>none
noncomputable def args(n:Nat)(ds:List D):List Sl:=ds.map Sl.v++List.replicate (n-ds.length) Sl.no
noncomputable def sgns(x:Str):List D:=x.cps.toList.map fun c=>D.str ⟨#[c]⟩
noncomputable def asS:D->Option (List D)
 | .str x=>some (sgns x)
 |_=>none
noncomputable def viaA(f:FE)(k:D->Option (List D)):FA:=fun ds=>(f ds).bind k
noncomputable def fC(lo:Int)(n:Nat):List D:=(List.range n).map fun(k:Nat)=>D.int (lo+(k:Int))
def okR(j:Int):Prop:=-(2 ^ 62)<=j/\j<2 ^ 62
noncomputable instance okRD(j:Int):Decidable (okR j):=Classical.propDecidable _
noncomputable def rng1(f:FE):FA:=fun ds=>(f ds).bind fun d=>match d with | .int j=>if okR j then some (fC 0 j.toNat) else none | _=>none
noncomputable def zU(i:Nat):D->List Sl->Option (List Sl):=fun d ds=>some (ds.set i (.v d))
noncomputable def tgNil:List D->List Sl->Option (List Sl)
 |[],ds=>some ds
 |_,_=>none
noncomputable def zY(g:D->List Sl->Option (List Sl))(h:List D->List Sl->Option (List Sl)):List D->List Sl->Option (List Sl)
 |d::r,ds=>(g d ds).bind fun ds'=>h r ds'
 |_,_=>none
noncomputable def tupG(n:Nat)(h:List D->List Sl->Option (List Sl)):D->List Sl->Option (List Sl)
 | .tup l,ds=>if l.length=n then h l ds else none
 |_,_=>none
noncomputable def qZ(ga:D->List Sl->Option (List Sl))(body:FS):List D->List Sl->Option Out
 |[],ds=>some (.nx ds)
 | d :: r, ds => (ga d ds).bind fun ds1 => (body ds1).bind fun o => match o with
   | .nx ds2=>qZ ga body r ds2
   | .ct ds2=>qZ ga body r ds2
   | .bk ds2=>some (.nx ds2)
   | .rt r=>some (.rt r)
noncomputable def forG(fi:FA)(ga:D->List Sl->Option (List Sl))(body:FS):FS:=fun ds=>(fi ds).bind fun items=>qZ ga body items ds
noncomputable def compL(ga:D->List Sl->Option (List Sl))(tt:FT)(fe:FE)(s0:List Sl):List D->Option (List D)
 |[]=>some []
 |d::r=>(ga d s0).bind fun ds1=>(tt ds1).bind fun b=>if b=true then (fe ds1).bind fun y=>(compL ga tt fe s0 r).map fun ys=>y::ys else compL ga tt fe s0 r
noncomputable def yE(mp:List (Option Nat))(ds:List Sl):List Sl:=mp.map fun o=>match o with
 |some j=>(match ds[j]? with | some (.v d)=>.v d | _=>.no)
 |none=>.no
noncomputable def compG(fi:FA)(mp:List (Option Nat))(ga:D->List Sl->Option (List Sl))(tt:FT)(fe:FE):FA:=fun ds=>(fi ds).bind fun items=>if items.length<=sizeLine then compL ga tt fe (yE mp ds) items else none
noncomputable def tyD:D->Option String
 | .non=>some "NoneType"
 | .bl _=>some "bool"
 | .int _=>some "int"
 | .str _=>some "str"
 | .tup _=>some "tuple"
 | .lst _=>some "list"
 | .dct _ _=>some "dict"
 | .ins _ _=>none
 | .clo _ _ _=>none
 | .dcf _ _=>none
noncomputable def kitN:List String:=["NoneType","bool","int","str","tuple","list","dict"]
noncomputable def kitT:List String:=["bool","int","str","tuple","list","dict"]
noncomputable def kitF(t T:String):Option Bool:=if t∈kitN/\T∈kitT then some (t==T||(t=="bool"&&T=="int")) else none
noncomputable def isiD(T:String)(d:D):Option D:=(tyD d).bind fun t=>(kitF t T).map D.bl
noncomputable def isiG(T:String)(f:FE):FE:=fun ds=>(f ds).bind (isiD T)
noncomputable def blsD:List D->Option (List Bool)
 |[]=>some []
 | .bl b::r=>(blsD r).map fun bs=>b::bs
 |_=>none
noncomputable def allD:List D->Option D
 |[.lst l]=>(blsD l).map fun bs=>.bl (bs.all id)
 |_=>none
noncomputable def negD:D->Option D
 | .int i=>some (.int (-i))
 |_=>none
noncomputable def un1(op:D->Option D)(f:FE):FE:=fun ds=>(f ds).bind op
noncomputable def inS:D->D->Option D
 | .str i,.str j=>some (.bl (!(Builtin.Str.occurrences j i 0 j.length 1).isEmpty))
 |_,_=>none
noncomputable def retDG(f:FE):FS:=fun ds=>(f ds).map fun d=>.rt (.val d)
noncomputable def retAG(f:FE):FS:=fun ds=>(f ds).map fun d=>.rt (.any d)
noncomputable def runG(g:FS)(n:Nat):List D->Option Ret:=fun ds=>match g (args n ds) with
 |some (.rt r)=>some r
 |some (.nx _)=>some (.val .non)
 |_=>none
def CPowB(i j:Int):Prop:=0<=j/\(Builtin.Int.intBits i:Int)*j<=2 ^ 27
mutual
noncomputable def toPy:D->PyData
 | .non=>.none
 | .bl b=>.bool b
 | .int i=>.int i
 | .str x=>.str x
 | .tup ds=>.tuple (toPys ds)
 | .lst ds=>.list (toPys ds)
 | .dct _ _=>.none
 | .ins _ _=>.none
 | .clo _ _ _=>.none
 | .dcf _ _=>.none
noncomputable def toPys:List D->List PyData
 |[]=>[]
 |d::r=>toPy d::toPys r
end
mutual
noncomputable def shal:Nat->D->Bool
 |_,.non=>true
 |_,.bl _=>true
 |_,.int _=>true
 |_,.str x=>PyData.strOk x
 |n,.tup ds=>shals n ds
 |n,.lst ds=>shals n ds
 |_,.dct _ _=>false
 |_,.ins _ _=>false
 |_,.clo _ _ _=>false
 |_,.dcf _ _=>false
noncomputable def shals:Nat->List D->Bool
 |_,[]=>true
 |0,_::_=>false
 |n+1,d::r=>shal n d&&shals (n+1) r
end
noncomputable def eqvD(x y:D):Bool:=PyData.eqv (toPy x) (toPy y)
noncomputable def eqvs(x y:List D):Bool:=PyData.eqvAll (toPys x) (toPys y)
noncomputable def eqD(x y:D):Option D:=if shal 40 x=true/\shal 40 y=true then some (.bl (eqvD x y)) else none
noncomputable def neD(x y:D):Option D:=if shal 40 x=true/\shal 40 y=true then some (.bl (!eqvD x y)) else none
noncomputable def isD:D->D->Option D
 | .non,.non=>some (.bl true)
 |_,.non=>some (.bl false)
 |_,_=>none
noncomputable def notD:D->D->Option D
 | .non,.non=>some (.bl false)
 |_,.non=>some (.bl true)
 |_,_=>none
noncomputable def sclD:D->Bool
 | .non | .bl _ | .int _ | .str _=>true
 |_=>false
noncomputable def asLT:D->Option (List D)
 | .lst l=>some l
 | .tup l=>some l
 |_=>none
noncomputable def inD(neg:Bool)(x y:D):Option D:=(asLT y).bind fun l=>if sclD x=true/\l.all sclD=true then some (.bl (if neg then !l.any (fun z=>eqvD z x) else l.any fun z=>eqvD z x)) else none
noncomputable instance mulOkD(i j:Int):Decidable (JA i j):=Classical.propDecidable _
noncomputable instance powOkD(i j:Int):Decidable (CPowB i j):=Classical.propDecidable _
noncomputable def yV:D->D->Option D
 | .int i,.int j=>if JA i j then some (.int (i*j)) else none
 |_,_=>none
noncomputable def powD:D->D->Option D
 | .int i,.int j=>if CPowB i j then some (.int (i ^ j.toNat)) else none
 |_,_=>none
noncomputable def catA(fa fb:FE):FA:=fun ds=>(fa ds).bind fun x=>(fb ds).bind fun y=>match x,y with
 | .lst a,.lst b=>if a.length+b.length<=sizeLine then some (a++b) else none
 |_,_=>none
noncomputable def noP:List Sl->Option (Option Int):=fun _=>some none
noncomputable def soP(f:FE):List Sl->Option (Option Int):=fun ds=>(f ds).bind fun d=>match d with | .int i=>some (some i) | _=>none
noncomputable def cutD(l:List D)(lo hi:Option Int):List D:=(l.drop (HT.sIx l.length 0 lo)).take (HT.sIx l.length l.length hi-HT.sIx l.length 0 lo)
noncomputable def sliA(f:FE)(lo hi:List Sl->Option (Option Int)):FA:=fun ds=>(f ds).bind fun d=>(lo ds).bind fun a=>(hi ds).bind fun b=>match d with
 | .lst l=>some (cutD l a b)
 |_=>none
noncomputable def lisA(f:FE):FA:=fun ds=>(f ds).bind asLT
noncomputable def mxD:List D->Option D
 |[.int i,.int j]=>some (.int (if j>i then j else i))
 |_=>none
noncomputable def mnD:List D->Option D
 |[.int i,.int j]=>some (.int (if j<i then j else i))
 |_=>none
noncomputable def absD:List D->Option D
 |[.int i]=>some (.int (if i<0 then -i else i))
 |_=>none
noncomputable def truD:D->Option Bool
 | .non=>some false
 | .bl b=>some b
 | .int i=>some (i != 0)
 | .str x=>if x.length<=sizeLine then some ((x.length:Int) != 0) else none
 | .tup l=>some (!l.isEmpty)
 | .lst l=>some (!l.isEmpty)
 |_=>none
noncomputable def testT(f:FE):FT:=fun ds=>(f ds).bind truD
noncomputable def relS(i:Nat)(ds:List Sl):List Sl:=match ds[i]? with | some (.own l)=>ds.set i (.v (.lst l)) | _=>ds
noncomputable def asgG(ga:D->List Sl->Option (List Sl))(f:FE):FS:=fun ds=>(f ds).bind fun d=>(ga d ds).map .nx
noncomputable def extG(i:Nat)(fe:FA):FS:=fun ds=>match ds[i]? with
 |some (.own l)=>(fe ds).bind fun d=>if l.length+d.length<=sizeLine then some (.nx (ds.set i (.own (l++d)))) else none
 |_=>none
noncomputable def clrG(i:Nat):FS:=fun ds=>match ds[i]? with
 |some (.own l)=>some (.nx (ds.set i (.own [])))
 |_=>none
noncomputable def ltD:D->D->Option D:=cmpI fun i j=>decide (i<j)
noncomputable def leD:D->D->Option D:=cmpI fun i j=>decide (i<=j)
noncomputable def gtD:D->D->Option D:=cmpI fun i j=>decide (j<i)
noncomputable def geD:D->D->Option D:=cmpI fun i j=>decide (j<=i)
noncomputable def rng2(fa fb:FE):FA:=fun ds=>(fa ds).bind fun x=>(fb ds).bind fun y=>match x,y with
 | .int i,.int j=>if okR i/\okR j then some (fC i (j-i).toNat) else none
 |_,_=>none
noncomputable def VV(lo c:Int)(n:Nat):List D:=(List.range n).map fun(k:Nat)=>D.int (lo+(k:Int)*c)
noncomputable def aCx(i j c:Int):Nat:=if i<j then ((j-i-1)/c+1).toNat else 0
def okR3(i j c:Int):Prop:=-(2 ^ 61)<=i/\i<2 ^ 61/\-(2 ^ 61)<=j/\j<2 ^ 61/\0<c/\c<1000000
noncomputable instance okR3D(i j c:Int):Decidable (okR3 i j c):=Classical.propDecidable _
noncomputable def rng3(fa fb fc:FE):FA:=fun ds=>(fa ds).bind fun x=>(fb ds).bind fun y=>(fc ds).bind fun z=>match x,y,z with
 | .int i,.int j,.int c=>if okR3 i j c then some (VV i c (aCx i j c)) else none
 |_,_,_=>none
noncomputable def revA(f:FE):FA:=fun ds=>(f ds).bind fun d=>match d with
 | .lst l=>some l.reverse
 |_=>none
noncomputable def augA(i:Nat)(f:FE):FS:=fun ds=>(qL i ds).bind fun x=>(f ds).bind fun y=>match x,y with
 | .int a,.int b=>some (.nx (ds.set i (.v (.int (a+b)))))
 |_,_=>none
noncomputable def parG(i j:Nat)(f:FA):FS:=fun ds=>(f ds).bind fun l=>match l with
 |[a,b]=>some (.nx ((ds.set i (.v a)).set j (.v b)))
 |_=>none
noncomputable def int1D:List D->Option D
 |[.int i]=>some (.int i)
 |[.bl b]=>some (.int (if b then 1 else 0))
 |_=>none
noncomputable def intsD:List D->Option (List Int)
 |[]=>some []
 | .int b::r=>(intsD r).map fun bs=>b::bs
 |_=>none
abbrev Fun2:=D->List D->Option Ret
end FL
namespace FL
open PySem PyProof.Rows L2
noncomputable def fldD(ix:List (Nat×Nat)):D->Option D
 | .ins t ds=>(ix.lookup t).bind fun i=>ds[i]?
 |_=>none
noncomputable def fldG(ix:List (Nat×Nat))(f:FE):FE:=fun ds=>(f ds).bind (fldD ix)
noncomputable def methR(n:Nat)(cs:List Nat)(F:Nat->List D->Option Ret)(o:D)(l:List D):Option Ret:=match o with
 | .ins t es=>if t∈cs/\l.length=n then F t (.ins t es::l) else none
 |_=>none
noncomputable def methV(n:Nat)(cs:List Nat)(F:Nat->List D->Option Ret)(fo:FE)(g:FA):FE:=fun ds=>(fo ds).bind fun o=>(g ds).bind fun l=>(methR n cs F o l).bind retV
noncomputable def methF(n:Nat)(cs:List Nat)(F:Nat->List D->Option Ret)(fo:FE)(g:FA):FA:=fun ds=>(fo ds).bind fun o=>(g ds).bind fun l=>(methR n cs F o l).bind retF
noncomputable def makeG(t n:Nat)(G:List D->Option (List D))(g:FA):FE:=fun ds=>(g ds).bind fun l=>if l.length=n/\flats l=true then (G l).map (D.ins t) else none
abbrev FN:=List Sl->Option (List D)
noncomputable def seqN(f g:FN):FN:=fun ds=>(f ds).bind fun a=>(g ds).map fun b=>a++b
noncomputable def fldN(f:FE):FN:=fun ds=>(f ds).bind fun d=>if flat d=true then some [d] else none
noncomputable def dropN(f:FE):FN:=fun ds=>(f ds).map fun _=>[]
noncomputable def supN(G:List D->Option (List D)):FN:=fun _=>G []
noncomputable def argsN(n:Nat)(ds:List D):List Sl:=Sl.no::(ds.map Sl.v++List.replicate (n-(ds.length+1)) Sl.no)
noncomputable def runN(g:FN)(n:Nat):List D->Option (List D):=fun ds=>(g (argsN n ds)).bind fun new=>if flats new=true then some new else none
end FL
namespace FL
open PySem
def okRB(i j:Int):Prop:=-(2 ^ 61)<=i/\i<2 ^ 61/\-(2 ^ 61)<=j/\j<2 ^ 61
noncomputable instance okRBD(i j:Int):Decidable (okRB i j):=Classical.propDecidable _
end FL
namespace FL
noncomputable def insI(k:Int):List Int->List Int
 |[]=>[k]
 |a::l=>if k<=a then k::a::l else a::insI k l
noncomputable def srtI(ns:List Int):List Int:=ns.foldr insI []
noncomputable def sltW(f:FE)(lo hi:List Sl->Option (Option Int)):FE:=fun ds=>(f ds).bind fun d=>(lo ds).bind fun a=>(hi ds).bind fun b=>match d with
 | .tup l=>some (.tup (cutD l a b))
 |_=>none
theorem BX(k:Int):∀l:List Int,(insI k l).Perm (k::l)
 |[]=>kO _
 | a :: l => by
   unfold insI
   split
   . exact kO _
   . exact(List.Perm.cons a (BX k l)).trans (List.Perm.swap _ _ _)
theorem srtI_perm:∀ns:List Int,(srtI ns).Perm ns
 |[]=>kO _
 |k::ns=>(BX k _).trans (List.Perm.cons k (srtI_perm ns))
theorem XM(k:Int):∀l:List Int,l.Pairwise (·<=·)->(insI k l).Pairwise (·<=·)
 |[],_=>gK _ _
 | a :: l, h => by
   obtain⟨h1,h2⟩:=bH.mp h;unfold insI
   split
   . rename_i hk;refine bH.mpr ⟨fun b hb=>?_,h⟩;rcases aD.mp hb with e | hb
     . rw[e];exact hk
     . exact CZ hk (h1 b hb)
   . rename_i hk;refine bH.mpr ⟨fun b hb=>?_,XM k l h2⟩;rcases aD.mp ((BX k l).mem_iff.mp hb) with e | hb
     . rw[e];omega
     . exact h1 b hb
theorem srtI_le:∀ns:List Int,(srtI ns).Pairwise (·<=·)
 |[]=>List.Pairwise.nil
 |k::ns=>XM k _ (srtI_le ns)
theorem le_unique:∀(l m:List Int),l.Perm m->l.Pairwise (·<=·)->m.Pairwise (·<=·)->l=m
 |[],m,h,_,_=>h.nil_eq
 |a::l,[],h,_,_=>by have:=h.length_eq;simp at this
 | a :: l, b :: m, h, h1, h2 => by
   obtain⟨p1,p2⟩:=bH.mp h1;obtain⟨q1,q2⟩:=bH.mp h2
   have ha:a<=b:=by
    rcases aD.mp (h.mem_iff.mpr (.head _)) with e | e
    . rw[e];exact pF _
    . exact p1 b e
   have hb:b<=a:=by
    rcases aD.mp (h.mem_iff.mp (.head _)) with e | e
    . rw[e];exact pF _
    . exact q1 a e
   have e:a=b:=Int.le_antisymm ha hb;subst e;rw[le_unique l m h.cons_inv p2 q2]
end FL
namespace FL
open PySem PyProof.Rows L2
noncomputable def rngL(fa fb:FE):FA:=fun ds=>(fa ds).bind fun x=>(fb ds).bind fun y=>match x,y with
 | .int i,.int j=>some (fC i (j-i).toNat)
 |_,_=>none
@[simp] theorem rngL_eq(fa fb:FE)(ds:List Sl):rngL fa fb ds=(fa ds).bind fun x=>(fb ds).bind fun y=>match x,y with
 | .int i,.int j=>some (fC i (j-i).toNat)
 |_,_=>none:=rfl
noncomputable instance mulOkSD(x:Str)(n:Int):Decidable (MulOk x n):=Classical.propDecidable _
noncomputable def slsS(f:FE)(lo hi:List Sl->Option (Option Int)):FE:=fun ds=>(f ds).bind fun d=>(lo ds).bind fun a=>(hi ds).bind fun b=>match d with
 | .str x=>if x.length<=sizeLine then some (.str (Txt.slice x a b)) else none
 |_=>none
noncomputable def lstG(n:Nat)(h:List D->List Sl->Option (List Sl)):D->List Sl->Option (List Sl)
 | .lst l,ds=>if l.length=n then h l ds else none
 |_,_=>none
abbrev FO:=List Sl->Option OT
abbrev FOs:=List Sl->Option (List OT)
noncomputable def getN(i:Nat):FE:=fun ds=>match ds[i]? with
 |some (.v d)=>some d
 |some (.own l)=>some (.lst l)
 |some (.ob _ t)=>some (otD t)
 |_=>none
noncomputable def vO(f:FE):FO:=fun ds=>(f ds).map OT.val
noncomputable def lO(f:FA):FO:=fun ds=>(f ds).map fun l=>.lst (l.map OT.val)
noncomputable def nilO:FOs:=fun _=>some []
noncomputable def consO(f:FO)(g:FOs):FOs:=fun ds=>(f ds).bind fun x=>(g ds).map fun r=>x::r
noncomputable def tO(f:FOs):FO:=fun ds=>(f ds).bind fun l=>if l.length<=sizeLine then some (.tup l) else none
noncomputable def sO(f:FOs):FO:=fun ds=>(f ds).bind fun l=>if l.length<=sizeLine then some (.lst l) else none
noncomputable def setB(i:Nat)(f:FO):FS:=fun ds=>(f ds).map fun t=>.nx (ds.set i (.ob none t))
mutual
noncomputable def flatO:OT->Bool
 | .val d=>flat d
 | .lst l=>rA l
 | .tup l=>rA l
 | .dct _ l=>rA l
 | .ins _ l=>rA l
noncomputable def rA:List OT->Bool
 |[]=>true
 |t::r=>flatO t&&rA r
end
noncomputable def subO:List Nat->OT->Option OT
 |[],t=>some t
 |k::p,.tup l=>(l[k]?).bind (subO p)
 |k::p,.lst l=>(l[k]?).bind (subO p)
 |k::p,.dct _ l=>(l[k]?).bind (subO p)
 |k::p,.ins _ l=>(l[k]?).bind (subO p)
 |_::_,.val _=>none
noncomputable def putO(u:OT):List Nat->OT->OT
 |[],_=>u
 |k::p,.tup l=>.tup (l.modify k (putO u p))
 |k::p,.lst l=>.lst (l.modify k (putO u p))
 |k::p,.dct ks l=>.dct ks (l.modify k (putO u p))
 |k::p,.ins t l=>.ins t (l.modify k (putO u p))
 |_::_,.val d=>.val d
abbrev FP:=List Sl->Option (Nat×List Nat×OT)
noncomputable def varP(i:Nat):FP:=fun ds=>match ds[i]? with
 |some (.ob _ t)=>some (i,[],t)
 |_=>none
noncomputable def atP(ix:List (Nat×Nat))(f:FP):FP:=fun ds=>(f ds).bind fun q=>match q.2.2 with
 | .ins t l=>(ix.lookup t).bind fun k=>(l[k]?).map fun u=>(q.1,q.2.1++[k],u)
 |_=>none
noncomputable def putP(q:Nat×List Nat×OT)(u:OT)(ds:List Sl):List Sl:=match ds[q.1]? with
 |some (.ob r t)=>ds.set q.1 (.ob r (putO u q.2.1 t))
 |_=>ds
noncomputable def retO:Ret->Option OT
 | .obj t=>some t
 |_=>none
noncomputable def callO(n:Nat)(F:List D->Option Ret)(g:FA):FO:=fun ds=>(g ds).bind fun l=>if l.length=n then (F l).bind retO else none
@[simp] theorem getN_eq(i:Nat)(ds:List Sl):getN i ds=match ds[i]? with
 |some (.v d)=>some d
 |some (.own l)=>some (.lst l)
 |some (.ob _ t)=>some (otD t)
 |_=>none:=rfl
@[simp] theorem vO_eq(f:FE)(ds:List Sl):vO f ds=(f ds).map OT.val:=rfl
@[simp] theorem lO_eq(f:FA)(ds:List Sl):lO f ds=(f ds).map fun l=>.lst (l.map OT.val):=rfl
@[simp] theorem nilO_eq(ds:List Sl):nilO ds=some []:=rfl
@[simp] theorem consO_eq(f:FO)(g:FOs)(ds:List Sl):consO f g ds=(f ds).bind fun x=>(g ds).map fun r=>x::r:=rfl
@[simp] theorem tO_eq(f:FOs)(ds:List Sl):tO f ds=(f ds).bind fun l=>if l.length<=sizeLine then some (.tup l) else none:=rfl
@[simp] theorem setB_eq(i:Nat)(f:FO)(ds:List Sl):setB i f ds=(f ds).map fun t=>.nx (ds.set i (.ob none t)):=rfl
theorem LQ:∀l:List D,otDs (l.map OT.val)=l
 |[]=>by simp[otDs]
 |d::r=>by simp[otDs,otD,LQ r]
noncomputable def valP(f:FP):FE:=fun ds=>(f ds).bind fun q=>match q.2.2 with
 | .val d=>some d
 |_=>none
noncomputable def seeP(f:FP):FE:=fun ds=>(f ds).map fun q=>otD q.2.2
noncomputable def setAt(ix:List (Nat×Nat))(f:FP)(g:FO):FS:=fun ds=>(g ds).bind fun T=>(f ds).bind fun q=>match q.2.2 with
 | .ins t l=>(ix.lookup t).bind fun k=>if k<l.length/\l.length<900 then some (.nx (putP q (.ins t (l.set k T)) ds)) else none
 |_=>none
noncomputable def appP(f:FP)(g:FE):FS:=fun ds=>(f ds).bind fun q=>(g ds).bind fun d=>match q.2.2 with
 | .lst l=>if l.length<sizeLine then some (.nx (putP q (.lst (l++[.val d])) ds)) else none
 |_=>none
noncomputable def keyD:D->Option Key
 | .int i=>some (.inl i)
 | .str x=>some (.inr x)
 |_=>none
noncomputable def putTs(k:Key)(T:OT):List Key->List OT->List OT
 |k'::ks,t::ts=>(if k'=k then T else t)::putTs k T ks ts
 |_,ts=>ts
noncomputable def hasK(k:Key)(ks:List Key):Bool:=ks.any fun k'=>decide (k'=k)
noncomputable def putKT(k:Key)(T:OT)(ks:List Key)(ts:List OT):OT:=if hasK k ks=true then .dct ks (putTs k T ks ts) else .dct (ks++[k]) (ts++[T])
noncomputable def getKD(k:Key):List Key->List D->Option D
 |k'::ks,d::ds=>if k'=k then some d else getKD k ks ds
 |_,_=>none
noncomputable def kdD:D->Option (List Key×List D)
 | .dct ks l=>some (ks,l)
 | .dcf ks l=>some (ks,l)
 |_=>none
noncomputable def dO0:FO:=fun _=>some (.dct [] [])
noncomputable def dputG(f:FP)(fk fv:FE):FS:=fun ds=>(fv ds).bind fun d=>(f ds).bind fun q=>(fk ds).bind fun y=>(keyD y).bind fun k=>match q.2.2 with
 | .dct ks ts=>if ks.length<sizeLine then some (.nx (putP q (putKT k (.val d) ks ts) ds)) else none
 |_=>none
noncomputable def dgetG(fd fk:FE):FE:=fun ds=>(fd ds).bind fun x=>(fk ds).bind fun y=>(keyD y).bind fun k=>(kdD x).bind fun p=>getKD k p.1 p.2
noncomputable def dinG(fk fd:FE):FT:=fun ds=>(fk ds).bind fun y=>(keyD y).bind fun k=>(fd ds).bind fun x=>(kdD x).map fun p=>hasK k p.1
noncomputable def dnotG(fk fd:FE):FT:=fun ds=>(dinG fk fd ds).map fun b=>!b
noncomputable def OH(fd:FE):FO:=fun ds=>(fd ds).bind fun x=>(kdD x).map fun p=>.dct p.1 (p.2.map OT.val)
noncomputable def valsO:List OT->Option (List D)
 |[]=>some []
 | .val d::r=>(valsO r).map fun l=>d::l
 |_::_=>none
noncomputable def frzDG(i:Nat)(g:FS):FS:=fun ds=>match ds[i]? with
 |some (.ob _ (.dct ks ts))=>(valsO ts).bind fun l=>g (ds.set i (.v (.dcf ks l)))
 |_=>none
noncomputable def keyDD:Key->D
 | .inl i=>.int i
 | .inr x=>.str x
noncomputable def oF(ks:List Key)(l:List D):List D:=(ks.zip l).map fun p=>.tup [keyDD p.1,p.2]
noncomputable def uC(f:FE):FA:=fun ds=>(f ds).bind fun x=>match x with
 | .dcf ks l=>some (oF ks l)
 |_=>none
noncomputable def argsL(n:Nat)(T:OT)(l:List D):List Sl:=.ob (some 0) T::args (n-1) l
noncomputable def ob0:Option Sl->Option OT
 |some (.ob (some 0) T)=>some T
 |_=>none
noncomputable def lentF(g:FS)(n:Nat)(T:OT)(l:List D):Option OT:=match g (argsL n T l) with
 |some (.nx ds)=>ob0 ds[0]?
 |_=>none
noncomputable def lentG(n:Nat)(cs:List Nat)(F:Nat->OT->List D->Option OT)(f:FP)(g:FA):FS:=fun ds=>(f ds).bind fun q=>(g ds).bind fun l=>match q.2.2 with
 | .ins t ts=>if t∈cs/\l.length=n then (F t (.ins t ts) l).map fun T'=>.nx (putP q T' ds) else none
 |_=>none
noncomputable def setNw(t t':Nat)(f:FP)(g:FO):FS:=fun ds=>(g ds).bind fun T=>(f ds).bind fun q=>match q.2.2 with
 | .ins c l=>if c=t/\l.length<900 then some (.nx (putP q (.ins t' (l++[T])) ds)) else none
 |_=>none
noncomputable def makeO(t n m:Nat)(F:OT->List D->Option OT)(g:FA):FO:=fun ds=>(g ds).bind fun l=>if l.length+m=n then F (.ins t []) (l++List.replicate m .non) else none
abbrev FX:=List Sl->Option (D×List Sl)
noncomputable def popX(f:FP):FX:=fun ds=>(f ds).bind fun q=>match q.2.2 with
 | .lst l => (match l.getLast? with
   |some (.val d)=>some (d,putP q (.lst l.dropLast) ds)
   |_=>none)
 |_=>none
noncomputable def lentX(cs:List Nat)(F:Nat->OT->List D->Option OT)(i:Nat)(g:FX):FS:=fun ds=>(varP i ds).bind fun q0=>match q0.2.2 with
 | .ins t _ => if t ∈ cs then (g ds).bind fun p => (varP i p.2).bind fun q => match q.2.2 with
   | .ins t' ts=>if t'=t then (F t (.ins t ts) [p.1]).map fun T=>.nx (putP q T p.2) else none
   |_=>none
   else none
 |_=>none
def leT(a b:Str):Prop:=¬b.cps.toList<a.cps.toList
theorem LY{a b c:Str}(h1:leT a b)(h2:leT b c):leT a c:=fun h=>by
 rcases strKind.negTrans c.cps.toList b.cps.toList a.cps.toList (decide_eq_true h) with q | q
 . exact h2 (of_decide_eq_true q)
 . exact h1 (of_decide_eq_true q)
theorem aAh{a b:Str}(h:a.cps.toList<b.cps.toList):leT a b:=fun q=>List.lt_irrefl _ (List.lt_trans h q)
theorem NP{a b:Str}(h1:leT a b)(h2:leT b a):a=b:=by
 have:a.cps.toList=b.cps.toList:=List.le_antisymm (List.not_lt.mp h1) (List.not_lt.mp h2);cases a;cases b;simp only[Str.mk.injEq];exact Array.toList_inj.mp this
noncomputable def insT(k:Str):List Str->List Str
 |[]=>[k]
 |a::l=>if a.cps.toList<k.cps.toList then a::insT k l else k::a::l
noncomputable def srtT(ns:List Str):List Str:=ns.foldr insT []
theorem BW(k:Str):∀l:List Str,(insT k l).Perm (k::l)
 |[]=>kO _
 | a :: l => by
   unfold insT
   split
   . exact(List.Perm.cons a (BW k l)).trans (List.Perm.swap _ _ _)
   . exact kO _
theorem srtT_perm:∀ns:List Str,(srtT ns).Perm ns
 |[]=>kO _
 |k::ns=>(BW k _).trans (List.Perm.cons k (srtT_perm ns))
theorem XJ(k:Str):∀l:List Str,l.Pairwise leT->(insT k l).Pairwise leT
 |[],_=>gK _ _
 | a :: l, h => by
   obtain⟨h1,h2⟩:=bH.mp h;unfold insT
   split
   . rename_i hk;refine bH.mpr ⟨fun b hb=>?_,XJ k l h2⟩;rcases aD.mp ((BW k l).mem_iff.mp hb) with e | hb
     . rw[e];exact aAh hk
     . exact h1 b hb
   . rename_i hk;refine bH.mpr ⟨fun b hb=>?_,h⟩;rcases aD.mp hb with e | hb
     . rw[e];exact hk
     . exact LY hk (h1 b hb)
theorem srtT_le:∀ns:List Str,(srtT ns).Pairwise leT
 |[]=>List.Pairwise.nil
 |k::ns=>XJ k _ (srtT_le ns)
theorem leT_unique:∀(l m:List Str),l.Perm m->l.Pairwise leT->m.Pairwise leT->l=m
 |[],m,hp,_,_=>(List.Perm.nil_eq hp)
 |a::l,[],hp,_,_=>by have:=hp.length_eq;simp at this
 | a :: l, b :: m, hp, h1, h2 => by
   obtain⟨p1,p2⟩:=bH.mp h1;obtain⟨q1,q2⟩:=bH.mp h2
   have e:a=b:=by
    have ha:a∈b::m:=hp.mem_iff.mp (.head _);have hb:b∈a::l:=hp.mem_iff.mpr (.head _);rcases aD.mp ha with e | ha
    . exact e
    . rcases aD.mp hb with e | hb
      . exact e.symm
      . exact NP (p1 b hb) (q1 a ha)
   subst e;rw[leT_unique l m hp.cons_inv p2 q2]
theorem LC:∀(l:List Str) (p:Str),risingS p l=true->(p::l).Pairwise leT
 |[],p,_=>gK _ _
 | x :: r, p, h => by
   simp only[risingS,bX,Bool.not_eq_true',ltCps_eq,decide_eq_false_iff_not] at h;have ih:=LC r x h.2;obtain⟨i1,i2⟩:=bH.mp ih;refine bH.mpr ⟨fun b hb=>?_,ih⟩;rcases aD.mp hb with e | hb
   . rw[e];exact h.1
   . exact LY h.1 (i1 b hb)
theorem sortedS_le:∀{l:List Str},sortedS l=true->l.Pairwise leT
 |[],_=>List.Pairwise.nil
 |p::l,h=>LC l p h
noncomputable def keysT:List Key->Option (List Str)
 |[]=>some []
 | .inr x::r=>(keysT r).map fun l=>x::l
 | .inl _::_=>none
theorem HB:∀{ks:List Key} {l:List Str},keysT ks=some l->ks=l.map Sum.inr
 |[],_,e=>by cases e;rfl
 | .inr x :: r, l, e => by
   unfold keysT at e;cases h:keysT r with
   |none=>rw[h] at e;cases e
   |some m=>rw[h] at e;cases e;rw[HB h];rfl
 | .inl _::_,_,e=>by cases e
noncomputable def srtDA(f:FE):FA:=fun ds=>(f ds).bind fun d=>(kdD d).bind fun p=>(keysT p.1).bind fun l=>if l.length<64 then some ((srtT l).map D.str) else none
noncomputable def lisDA(f:FE):FA:=fun ds=>(f ds).bind fun d=>(kdD d).map fun p=>p.1.map keyDD
noncomputable def relO(i:Nat)(ds:List Sl):List Sl:=match ds[i]? with | some (.ob _ T)=>ds.set i (.v (otD T)) | _=>ds
noncomputable def flV'(d:D):Option D:=if flat d=true then some d else none
noncomputable def relVO(i:Nat)(f:FE):FE:=fun ds=>(f (relO i ds)).bind flV'
noncomputable def relTO(i:Nat)(c:FT):FT:=fun ds=>c (relO i ds)
noncomputable def relFO(i:Nat)(f:FA):FA:=fun ds=>(f (relO i ds)).bind fun l=>if flats l=true then some l else none
noncomputable def augS(i:Nat)(f:FE):FS:=fun ds=>(qL i ds).bind fun x=>(f ds).bind fun y=>match x,y with
 | .int a,.int b=>some (.nx (ds.set i (.v (.int (a-b)))))
 |_,_=>none
noncomputable def seeO(f:FO):FE:=fun ds=>(f ds).map otD
noncomputable def retBv(i:Nat):FS:=fun ds=>match ds[i]? with
 |some (.ob none T)=>if flatO T=true then some (.rt (.obj T)) else none
 |_=>none
noncomputable def MZ(f:FE):FA:=fun ds=>(f ds).bind fun d=>match d with
 | .lst l=>(intsD l).bind fun ns=>if ns.length<64 then some ((srtI ns).map D.int) else none
 |_=>none
end FL
namespace FL
open PySem
end FL
namespace L2
open PySem PySem.Spec PyProof.Rows
noncomputable def keyIs:Key->aB->Bool
 | .inl k,v=>aB.isInt k v
 | .inr x,v=>aB.isStrOf x v
noncomputable def keyH(w:bU):Key->Int
 | .inl k=>hashInt k
 | .inr x=>hashStr w x
theorem qY:∀{k:Key} {v:aB},keyIs k v=true->(∃i t,k=Sum.inl i/\v=aB.int i t)\/(∃x t,k=Sum.inr x/\v=aB.str x t)
 | .inl i, v, h => by
   obtain⟨t,e⟩:=aB.isInt_shape (k:=i) (v:=v) h;exact .inl ⟨i,t,rfl,e⟩
 | .inr x, v, h => by
   obtain⟨t,e⟩:=aB.isStrOf_shape (x:=x) (v:=v) h;exact .inr ⟨x,t,rfl,e⟩
theorem aAm(i:Int)(t:Tok):keyIs (.inl i) (.int i t)=true:=by simp[keyIs,aB.isInt]
theorem aAl(x:Str)(t:Tok):keyIs (.inr x) (.str x t)=true:=by simp[keyIs,aB.isStrOf]
theorem key_ll(a b:Int):decide ((Sum.inl a:Key)=Sum.inl b)=(a==b):=by
 by_cases e:a=b
 . subst e;simp
 . have h : ¬(Sum.inl a : Key)=Sum.inl b := fun q => e (Sum.inl.inj q);rw[decide_eq_false h];exact(beq_eq_false_iff_ne.mpr e).symm
theorem key_rr(a b:Str):decide ((Sum.inr a:Key)=Sum.inr b)=decide (a=b):=by
 by_cases e:a=b
 . subst e;simp
 . have h : ¬(Sum.inr a : Key)=Sum.inr b := fun q => e (Sum.inr.inj q);rw[decide_eq_false h,decide_eq_false e]
theorem key_lr(a:Int)(b:Str):decide ((Sum.inl a:Key)=Sum.inr b)=false:=decide_eq_false (fun q=>nomatch q)
theorem key_rl(a:Str)(b:Int):decide ((Sum.inr a:Key)=Sum.inl b)=false:=decide_eq_false (fun q=>nomatch q)
noncomputable def gA(prog:bG)(w:bU):PySem.KeyKind prog w Key where
 is:=keyIs
 hash:=keyH w
 inj:=fun v a b ha hb=>by
  rcases qY ha with⟨i,t,rfl,rfl⟩ | ⟨x,t,rfl,rfl⟩
  . rcases qY hb with ⟨j, u, rfl, e⟩ | ⟨y, u, rfl, e⟩
    . injection e with e1 _;rw[e1]
    . exact nomatch e
  . rcases qY hb with ⟨j, u, rfl, e⟩ | ⟨y, u, rfl, e⟩
    . exact nomatch e
    . injection e with e1 _;rw[e1]
 byValue:=fun k v h=>by
  rcases qY h with⟨i,t,rfl,rfl⟩ | ⟨x,t,rfl,rfl⟩<;>rfl
 pyHash:=fun hv h=>by
  rcases qY hv with⟨i,t,rfl,rfl⟩ | ⟨x,t,rfl,rfl⟩
  . exact wpAny_pyHash_int h
  . exact wpAny_pyHash_str h
 eqBool:=fun hu hv h=>by
  rcases qY hu with⟨i,t,rfl,rfl⟩ | ⟨x,t,rfl,rfl⟩
  . rcases qY hv with ⟨j, u, rfl, rfl⟩ | ⟨y, u, rfl, rfl⟩
    . rw[key_ll] at h;exact wpAny_eqBool_int h
    . rw[key_lr] at h;exact SeqAt.EqAt.int_str i t y u _ _ _ _ h
  . rcases qY hv with ⟨j, u, rfl, rfl⟩ | ⟨y, u, rfl, rfl⟩
    . rw[key_rl] at h;exact SeqAt.EqAt.str_int x t j u _ _ _ _ h
    . rw[key_rr] at h;exact wpAny_eqBool_str h
 «strs»:=fun k x t v h=>by
  rcases qY h with⟨i,u,rfl,e⟩ | ⟨y,u,rfl,e⟩
  . exact nomatch e
  . injection e with e1 _
    subst e1;cases v<;>rfl
theorem RA(prog:bG)(w:bU)(i:Int)(t:Tok):(gA prog w).is (.inl i) (.int i t)=true:=aAm i t
theorem QZ(prog:bG)(w:bU)(x:Str)(t:Tok):(gA prog w).is (.inr x) (.str x t)=true:=aAl x t
inductive V where
 |non | bl (b:Bool) | int (i:Int) | str (x:Str) | byt (b:Array UInt8) | flt (b:UInt64) | ref (a:aA) | ty (n:String)
 deriving DecidableEq
noncomputable def RelV:V->aB->Prop
 | .non,u=>u=aB.none
 | .bl b,u=>u=aB.bool b
 | .int i,u=>∃t,u=aB.int i t
 | .str x,u=>∃t,u=aB.str x t
 | .byt b,u=>∃t,u=aB.bytes b t
 | .flt b,u=>∃t,u=aB.float b t
 | .ref a,u=>u=aB.ref a
 | .ty n,u=>u=aB.type n
abbrev Vals:List V->List aB->Prop:=KG RelV
theorem Vals.length{xs:List V}{us:List aB}(r:Vals xs us):xs.length=us.length:=KG.length r
theorem Vals.get:∀{xs:List V} {us:List aB} {i:Nat} {x:V},Vals xs us->xs[i]?=some x->∃u,us[i]?=some u/\RelV x u
 |_,_,_,_,.nil,e=>by simp at e
 |_,_,0,_,.cons r _,e=>by simp at e;subst e;exact⟨_,rfl,r⟩
 | _, _, i + 1, x, .cons _ t, e => by
   obtain⟨u,h1,h2⟩:=Vals.get (i:=i) (x:=x) t (by simpa using e);exact⟨u,by simpa using h1,h2⟩
theorem Vals.set{x:V}{u:aB}(r:RelV x u):∀{xs:List V} {us:List aB} (i:Nat),Vals xs us->Vals (xs.set i x) (us.set i u)
 |_,_,_,.nil=>.nil
 |_,_,0,.cons _ t=>.cons r t
 |_,_,i+1,.cons q t=>.cons q (Vals.set r i t)
theorem Vals.append:∀{xs ys:List V} {us ws:List aB},Vals xs us->Vals ys ws->Vals (xs++ys) (us++ws)
 |_,_,_,_,.nil,s=>s
 |_,_,_,_,.cons r t,s=>.cons r (Vals.append t s)
theorem Vals.take:∀{xs:List V} {us:List aB} (n:Nat),Vals xs us->Vals (xs.take n) (us.take n)
 |_,_,0,_=>.nil
 |_,_,_+1,.nil=>.nil
 |_,_,n+1,.cons r t=>.cons r (Vals.take n t)
theorem Vals.drop:∀{xs:List V} {us:List aB} (n:Nat),Vals xs us->Vals (xs.drop n) (us.drop n)
 |_,_,0,r=>r
 |_,_,_+1,.nil=>.nil
 |_,_,n+1,.cons _ t=>Vals.drop n t
noncomputable def RelO:Option V->Option aB->Prop
 |some v,some u=>RelV v u
 |none,none=>True
 |_,_=>False
def KV{κ : Type}: List (κ×V)->List (κ×aB)->Prop:=KG fun(p : κ×V) (q : κ×aB)=>p.1=q.1/\RelV p.2 q.2
noncomputable def kV:Key->V
 | .inl i=>.int i
 | .inr x=>.str x
inductive HO where
 |lst (xs:List V)
 |tup (xs:List V)
 |dK (kvs:List (Key×V)) | dT (kvs:List (List Key×V))
 |set (S:Int->Bool) (n:Nat)
 |ins (C dx:aA) (fs:List (Str×V))
 |own (x:aA)
 |xd (fs:List (Str×V))
 |met (f x:aA)
 |rng (lo hi:Int)
 |frz (o:Obj) (u:HO)
 |tbl (q:Nat->Nat->Str)
 |ext (φ : Heap->Prop)
abbrev Hp:=aA->Option HO
noncomputable def upd(H:Hp)(a:aA)(o:HO):Hp:=fun b=>if b=a then some o else H b
theorem qE{H:Hp}{a:aA}{o:HO}: upd H a o a=some o:=by unfold upd;rw[if_pos rfl]
theorem upd_ne{H:Hp}{a b:aA}{o:HO}(h:b≠a):upd H a o b=H b:=by unfold upd;rw[if_neg h]
theorem ne_of{H:Hp}{a b:aA}{o u:HO}(h:H a=some o)(h':H b=some u)(d:o≠u):a≠b:=by
 intro e;subst e;rw[h] at h';exact d (Option.some.inj h')
theorem jC{H:Hp}{a b:aA}{o:HO}(h:H a=some o)(h':H b=none):a≠b:=by
 intro e;subst e;rw[h] at h';cases h'
def TblOk(H:Hp)(q:Nat->Nat->Str)(ps:Array aB):Prop:=TriplesOk ps.toList/\∀pos v,codeAmong pos ps.toList=some v->∃c o u vs t,v=.ref c/\H c=some (.frz o u)/\o.data=.fields vs/\vs[1]?=some (.str (q pos.line pos.col) t)
noncomputable def Fixed:HO->Prop
 | .tup _=>True
 | .frz o _=>∃vs,o.data=.fields vs
 |_=>False
noncomputable def Fx:={ u:HO // Fixed u }
section
variable(P:bG)(w:bU)
noncomputable def ObjOk(H:Hp)(h:Heap)(a:aA):HO->Prop
 | .lst xs=>xs.length<=sizeLine/\∃(its:List aB) (n:Nat),Vals xs its/\h.get? a=some { cls:=.type "list",data:=.seq its.toArray n }
 | .tup xs=>xs.length<=sizeLine/\∃its:List aB,Vals xs its/\IsTup h a its.toArray
 | .dK kvs=>kvs.length<=sizeLine/\(a==iN)=false/\∃vs,KV kvs vs/\h.DictOf (gA P w) a vs
 | .dT kvs=>kvs.length<=sizeLine/\(a==iN)=false/\∃xs:List (List Key×aA×aB),
    KG (fun(p:List Key×V) (q:List Key×aA×aB)=>p.1=q.1/\H q.2.1=some (.tup (p.1.map kV))/\RelV p.2 q.2.2) kvs xs ∧
    ∃o es ep,h.get? a=some o/\o.ExactDict/\o.data=.dict es ep/\es.toList=xs.map (entryOfKey (KA (gA P w)))/\(xs.map (·.1)).Nodup
 | .set S n=>h.SetOf (intKind P w) a S n
 | .ins C dx fs=>H dx=some (.own a)/\fs.length<=1000/\dx≠a/\h.get? a=some (fQ C dx) ∧
    ∃mA,h.Ns1 dx mA/\(∀f,RelO (fs.lookup f) (mA f))/\PySem.Within mA (fs.map (·.1))
 | .own _=>∃o,h.get? a=some o
 | .xd fs=>∃mA,h.Ns1 a mA/\∀f,RelO (fs.lookup f) (mA f)
 | .rng lo hi=>∃t u v,h.get? a=some { cls:=.type "range",data:=.fields #[.int lo t,.int hi u,.int 1 v] }
 | .frz o u=>h.get? a=some o/\ObjOk H h a u
 | .tbl q=>∃ps,h.get? a=some (EJ ps)/\TblOk H q ps
 | .met f x=>h.get? a=some (uI (.ref f) (.ref x))
 | .ext φ=>φ h/\(∃o,h.get? a=some o)/\∀h1 h2:Heap,φ h1->(∀o,h1.get? a=some o->h2.get? a=some o)->φ h2
def HOk(H:Hp)(h:Heap):Prop:=∀a o,H a=some o->ObjOk P w H h a o
end
section
variable{P:bG}{w:bU}{H H':Hp}{h h':Heap}{a:aA}{o:HO}
theorem ObjOk.lt(x:ObjOk P w H h a o):a<h.objs.size:=by
 cases o with
 |lst xs=>obtain⟨_,_,_,_,e⟩:=x;exact bF e
 |tup xs=>obtain⟨_,_,_,p⟩:=x;exact p.lt
 |dK kvs=>obtain⟨_,_,_,_,o,_,_,e,_⟩:=x;exact bF e
 |dT kvs=>obtain⟨_,_,_,_,o,_,_,e,_⟩:=x;exact bF e
 |set S n=>obtain⟨o,_,_,_,e,_⟩:=x;exact bF e
 |ins C dx fs=>obtain⟨_,_,_,e,_⟩:=x;exact bF e
 |own y=>obtain⟨_,e⟩:=x;exact bF e
 |xd fs=>obtain⟨_,⟨_,_,_,e,_⟩,_⟩:=x;exact bF e
 |rng lo hi=>obtain⟨_,_,_,e⟩:=x;exact bF e
 |frz ob u=>obtain⟨e,_⟩:=x;exact bF e
 |tbl q=>obtain⟨_,e,_⟩:=x;exact bF e
 |met f y=>exact bF (show h.get? a=some _ from x)
 |ext φ=>obtain⟨_,⟨_,e⟩,_⟩:=x;exact bF e
theorem KG.mapP{α β : Type}{F G : α->β->Prop}:∀{l₁ : List α} {l₂ : List β},KG F l₁ l₂->(∀a b,F a b->G a b)->KG G l₁ l₂
 |_,_,.nil,_=>.nil
 |_,_,.cons r t,f=>.cons (f _ _ r) (KG.mapP t f)
theorem ObjOk.stay(x:ObjOk P w H h a o)(k:∀b u,(b=a\/H b=some (.own a))->h.get? b=some u->h'.get? b=some u)(ho:∀b,H b=some (.own a)->H' b=some (.own a))(ht:∀b (xs:Fx),H b=some xs.1->H' b=some xs.1):ObjOk P w H' h' a o:=by
 induction o with
 |lst xs=>obtain⟨z,its,n,r,e⟩:=x;exact⟨z,its,n,r,k _ _ (.inl rfl) e⟩
 |tup xs=>obtain⟨z,its,r,ob,e,c⟩:=x;exact⟨z,its,r,ob,k _ _ (.inl rfl) e,c⟩
 |dK kvs=>obtain⟨z,y,vs,r,ob,es,ep,e,c⟩:=x;exact⟨z,y,vs,r,ob,es,ep,k _ _ (.inl rfl) e,c⟩
 | dT kvs =>
   obtain⟨z,y,xs,r,ob,es,ep,e,c⟩:=x;exact⟨z,y,xs,KG.mapP r fun p q z=>⟨z.1,ht _ ⟨.tup _,trivial⟩ z.2.1,z.2.2⟩,ob,es,ep,k _ _ (.inl rfl) e,c⟩
 |set S n=>obtain⟨ob,es,ep,t,e,c⟩:=x;exact⟨ob,es,ep,t,k _ _ (.inl rfl) e,c⟩
 | ins C dx fs =>
   obtain⟨d,z,ne,e,mA,⟨od,es,ep,e2,c⟩,r⟩:=x;exact⟨ho _ d,z,ne,k _ _ (.inl rfl) e,mA,⟨od,es,ep,k _ _ (.inr d) e2,c⟩,r⟩
 |own y=>obtain⟨ob,e⟩:=x;exact⟨ob,k _ _ (.inl rfl) e⟩
 |xd fs=>obtain⟨mA,⟨od,es,ep,e,c⟩,r⟩:=x;exact⟨mA,⟨od,es,ep,k _ _ (.inl rfl) e,c⟩,r⟩
 |rng lo hi=>obtain⟨t,u,v,e⟩:=x;exact⟨t,u,v,k _ _ (.inl rfl) e⟩
 |frz ob u ih=>obtain⟨e,q⟩:=x;exact⟨k _ _ (.inl rfl) e,ih q⟩
 | tbl q =>
   obtain⟨ps,e,t1,t2⟩:=x;refine⟨ps,k a _ (.inl rfl) e,t1,fun pos v z=>?_⟩;obtain⟨c,o,u,vs,t,h1,h2,h3,h4⟩:=t2 pos v z;exact⟨c,o,u,vs,t,h1,ht c ⟨.frz o u,vs,h3⟩ h2,h3,h4⟩
 | met f y =>
   have e:h.get? a=some (uI (.ref f) (.ref y)):=x;show h'.get? a=some (uI (.ref f) (.ref y));exact k a _ (.inl rfl) e
 |ext φ=>obtain⟨p,⟨o,e⟩,st⟩:=x;exact⟨st _ _ p fun o q=>k _ _ (.inl rfl) q,⟨o,k _ _ (.inl rfl) e⟩,st⟩
theorem HOk.lt(x:HOk P w H h)(e:H a=some o):a<h.objs.size:=(x a o e).lt
theorem HOk.fresh(x:HOk P w H h)(e:h.objs.size<=a):H a=none:=by
 cases q:H a with
 |none=>rfl
 |some u=>exact absurd (bQ (x.lt q) e) (dR _)
theorem HOk.kept(x:HOk P w H h)(k:∀b u,h.get? b=some u->h'.get? b=some u):HOk P w H h':=fun a o e =>
 (x a o e).stay (fun b u _ q=>k b u q) (fun _ q=>q) fun _ _ q=>q
theorem HOk.laid(x:HOk P w H h)(k:∀b u,h.get? b=some u->h'.get? b=some u)(hp:h.objs.size<=a)(new:ObjOk P w (upd H a o) h' a o):HOk P w (upd H a o) h':=fun b u e=>by
 have hn:=x.fresh hp
 by_cases hb:b=a
 . subst hb;rw[qE] at e;cases e;exact new
 . rw[upd_ne hb] at e;exact(x b u e).stay (fun c v _ q=>k c v q) (fun c q=>by rw[upd_ne (jC q hn)];exact q) fun c xs q=>by rw[upd_ne (jC q hn)];exact q
end
def Rd(H:Hp)(a:aA)(u:HO):Prop:=H a=some u\/∃o,H a=some (.frz o u)
theorem Rd.ok{P:bG}{w:bU}{H:Hp}{h:Heap}{a:aA}{u:HO}(r:Rd H a u)(x:HOk P w H h):ObjOk P w H h a u:=by
 rcases r with r | ⟨o,r⟩
 . exact x a u r
 . obtain⟨_, q⟩ := x a _ r;exact q
noncomputable def Mut:Option HO->Prop
 |some (.lst _)=>True
 |some (.dK _)=>True
 |some (.dT _)=>True
 |some (.set _ _)=>True
 |some (.ins _ _ _)=>True
 |some (.ext _)=>True
 |_=>False
section
variable{P:bG}{w:bU}{H:Hp}{h h':Heap}{x e:aA}{o':HO}
theorem HOk.write(ok:HOk P w H h)(mu:Mut (H x))(he:e=x\/H e=some (.own x))(k:∀b u,b≠e->h.get? b=some u->h'.get? b=some u)(heo:∃u,h'.get? e=some u)(new:ObjOk P w (upd H x o') h' x o'):HOk P w (upd H x o') h':=fun b u q=>by
 have nown:∀c y,H c=some (.own y)->c≠x:=fun c y r z=>by subst z;rw[r] at mu;exact mu
 have ntup:∀c (xs:Fx),H c=some xs.1->c≠x:=fun c xs r z=>by
  subst z;rw[r] at mu;obtain⟨u,hu⟩:=xs;cases u<;>first | exact False.elim mu | exact False.elim hu
 by_cases hb:b=x
 . subst hb;rw[qE] at q;cases q;exact new
 . rw [upd_ne hb] at q
   by_cases hbe:b=e
   . have q':H b=some (.own x):=by
      rcases he with z | z
      . exact absurd (hbe.trans z) hb
      . rw[hbe];exact z
     rw[q] at q';cases q';obtain⟨v,hv⟩:=heo;exact⟨v,by rw[hbe];exact hv⟩
   . refine (ok b u q).stay (fun c v hc r => k c v ?_ r) (fun c r => by rw [upd_ne (nown c b r)]; exact r) fun c xs r => by rw [upd_ne (ntup c xs r)]; exact r
     rcases hc with rfl | hc
     . exact hbe
     . rintro rfl;rcases he with z | z
       . exact nown c b hc z
       . rw[hc] at z;cases z;exact hb rfl
end
structure Un(fs ex:List aA)(H H':Hp)(h h':Heap):Prop where
 keep:∀b o,h.get? b=some o->H b=none->b∉fs->b∉ex->h'.get? b=some o
 slot:∀b o,h.get? b=some o->H b=none->b∈fs->b∉ex->∃sl,h'.get? b=some { o with slots:=sl }
 free:∀b o,h.get? b=some o->H b=none->b∉ex->H' b=none
 there:∀b o,h.get? b=some o->b∉ex->∃o',h'.get? b=some o'
 tups:∀b xs,H b=some (.tup xs)->H' b=some (.tup xs)
 frzs:∀b o u,H b=some (.frz o u)->H' b=some (.frz o u)
 tbls:∀b ps,H b=some (.tbl ps)->H' b=some (.tbl ps)
section
variable{fs fs' ex ex':List aA}{H H1 H2:Hp}{h h1 h2 h':Heap}{a x e:aA}{o:HO}
theorem Un.any(u:Un fs ex H H1 h h1){b:aA}{ob:Obj}(q:h.get? b=some ob)(n:H b=none)(hx:b∉ex):∃sl,h1.get? b=some { ob with slots:=sl }:=by
 by_cases hb:b∈fs
 . exact u.slot b ob q n hb hx
 . exact⟨ob.slots,u.keep b ob q n hb hx⟩
theorem Un.trans(a:Un fs ex H H1 h h1)(b:Un fs ex H1 H2 h1 h2):Un fs ex H H2 h h2 where
 keep:=fun c ob q n hc hx=>b.keep c ob (a.keep c ob q n hc hx) (a.free c ob q n hx) hc hx
 slot:=fun c ob q n hc hx=>by
  obtain⟨sl,e1⟩:=a.slot c ob q n hc hx;obtain⟨sl',e2⟩:=b.slot c _ e1 (a.free c ob q n hx) hc hx;exact⟨sl',e2⟩
 free:=fun c ob q n hx=>by
  obtain⟨o',e1⟩:=a.there c ob q hx;exact b.free c o' e1 (a.free c ob q n hx) hx
 there:=fun c ob q hx=>by
  obtain⟨o',e1⟩:=a.there c ob q hx;exact b.there c o' e1 hx
 tups:=fun c xs q=>b.tups c xs (a.tups c xs q)
 frzs:=fun c ob xs q=>b.frzs c ob xs (a.frzs c ob xs q)
 tbls:=fun c ps q=>b.tbls c ps (a.tbls c ps q)
theorem Un.kept(k:∀b u,h.get? b=some u->h'.get? b=some u):Un fs ex H H h h' :=
 ⟨fun b ob q _ _ _=>k b ob q,fun b ob q _ _ _=>⟨ob.slots,k b ob q⟩,fun _ _ _ n _=>n,fun b ob q _=>⟨ob,k b ob q⟩,fun _ _ q=>q,fun _ _ _ q=>q,fun _ _ q=>q⟩
theorem Un.refl:Un fs ex H H h h:=Un.kept fun _ _ q=>q
theorem Un.laid(k:∀b u,h.get? b=some u->h'.get? b=some u)(hp:h.objs.size<=a)(hn:H a=none):Un fs ex H (upd H a o) h h' where
 keep:=fun b u q _ _ _=>k b u q
 slot:=fun b u q _ _ _=>⟨u.slots,k b u q⟩
 free:=fun b u q n _=>by rw[upd_ne (bO (bQ (bF q) hp))];exact n
 there:=fun b u q _=>⟨u,k b u q⟩
 tups:=fun b xs q=>by rw[upd_ne (jC q hn)];exact q
 frzs:=fun b u xs q=>by rw[upd_ne (jC q hn)];exact q
 tbls:=fun b ps q=>by rw[upd_ne (jC q hn)];exact q
theorem Un.write(mu:Mut (H x))(he:e=x\/H e=some (.own x))(k:∀b u,b≠e->h.get? b=some u->h'.get? b=some u)(heo:∃u,h'.get? e=some u):Un fs ex H (upd H x o) h h':=by
 have hx:∀b,H b=none->b≠x:=fun b n z=>by subst z;rw[n] at mu;exact mu
 have hb:∀b,H b=none->b≠e:=fun b n z=>by
  subst z;rcases he with r | r
  . exact hx b n r
  . rw[n] at r;cases r
 have hm:∀b u,H b=some u->¬Mut (some u)->b≠x:=fun b u q nm z=>by subst z;rw[q] at mu;exact nm mu
 refine⟨fun b u q n _ _=>k b u (hb b n) q,fun b u q n _ _=>⟨u.slots,k b u (hb b n) q⟩,fun b u q n _=>by rw[upd_ne (hx b n)];exact n,fun b u q _=>?_,
  fun b xs q=>by rw[upd_ne (hm b _ q fun z=>z)];exact q,fun b u xs q=>by rw[upd_ne (hm b _ q fun z=>z)];exact q,fun b ps q=>by rw[upd_ne (hm b _ q fun z=>z)];exact q⟩
 by_cases hbe:b=e
 . subst hbe;exact heo
 . exact⟨u,k b u hbe q⟩
end
noncomputable def trk(h:Heap)(H:Hp):List aA:=(List.range h.objs.size).filter fun a=>(H a).isSome
noncomputable def hidT(h:Heap)(H:Hp):Heap:=PySem.W.hideAll h (trk h H)
theorem aAr(h:Heap)(H:Hp):(hidT h H).objs.size=h.objs.size:=PySem.W.hideAll_size _ _
theorem RO{h:Heap}{H:Hp}{b:aA}{o:Obj}(e:h.get? b=some o)(n:H b=none):(hidT h H).get? b=some o :=
 PySem.W.hideAll_get _ e fun hm=>by
  have q:(H b).isSome=true:=(dW.mp hm).2;rw[n] at q;simp at q
theorem of_hidT{h:Heap}{H:Hp}{b:aA}{o:Obj}(e:(hidT h H).get? b=some o):h.get? b=some o/\H b=none:=by
 have e':h.get? b=some o:=PySem.W.of_hideAll (trk h H) e;refine⟨e',?_⟩;cases q:H b with
 |none=>rfl
 | some x =>
   have hm:b∈trk h H:=dW.mpr ⟨oK.mpr (bF e'),by simp[q]⟩;have z:(hidT h H).get? b=none:=PySem.W.hideAll_none (trk h H) hm;rw[z] at e;cases e
noncomputable def allNews(g h:Heap)(L:aA):List (aA×Obj):=(List.range h.objs.size).filterMap fun a=>if a=L\/(g.get? a).isSome=true then none else (h.get? a).map fun o=>(a,o)
noncomputable def rest(g h:Heap)(L d:aA):List (aA×Obj):=(allNews g h L).filter fun p=>decide (p.1≠d)
structure Mod(K:aM)(mg:Str->Option aB)(base:Heap):Prop where
 kin:K.In base
 glob:base.Ns aP mg
 blt:∃mb,base.Ns EI mb/\∀x:Str,x≠"__name__"->mb x=gJ x
 nolimit:base.NoLimit
structure Cx where
 prog:bG
 w:bU
 K:aM
 mg:Str->Option aB
 base:Heap
 A:bZ
 N:List Str
 s₀ : aE
 H₀ : Hp
 env:Env
 outer:List Env
 stack:List Env
 ex:List aA
 fn:Str->Bool
 calm:Bool
 pn:List (aA×Obj)
 xe:aB->aE->Prop
noncomputable def frs(l:List Env):List aA:=l.filterMap (·.frame)
noncomputable abbrev Cx.fs(X:Cx):List aA:=frs X.outer
def Vis(sc:Scope)(x:Str):Prop:=sc.names.lookup x=some .local\/sc.names.lookup x=some .cell\/sc.names.lookup x=some .free
def Loc(sc:Scope)(x:Str):Prop:=sc.names.lookup x=some .local\/sc.names.lookup x=some .cell
def Look(env:Env)(h:Heap)(m:Str->Option aB)(x:Str)(u:aB):Prop :=
 (env.kindOf x=some .local/\m x=some u)\/((env.kindOf x=some .cell\/env.kindOf x=some .free)/\∃c,env.cells.lookup x=some c/\h.IsCell c (some u))
noncomputable def makers:List Str:=["law","_law_with_itself","_law_ways","_law_way","holding","_law_any_test","_law_test","_law_turned","_law_right","wheel_run","answer_run"]
noncomputable def UK:List Stmt->Nat->Nat->Str
 |[],_,_=>"<lambda>"
 | .FunctionDef n _ _ _ _ _ _ _ _ pos::r,l,c=>if pos.line=l/\pos.col=c then n else UK r l c
 |_::r,l,c=>UK r l c
noncomputable def uD(K:aM)(x:Str)(l c:Nat):Str:=match aT K aP x with
 | some (some (.ref f)) => (match K.lookup f with
   | some ⟨_, _, .func fd, _⟩ => (match fd.body with
     | .stmts b=>x++".<locals>."++UK b l c
     |_=>x)
   |_=>x)
 |_=>x
structure TabsK(K:aM)(mg:Str->Option aB)(base:Heap)(H:Hp):Prop where
 bm:∃bm ob,mg "__builtins__" = some (.ref bm)/\bm≠EI/\base.get? bm=some ob/\ob.cls=.type "module"/\ob.dict=some EI/\ob.data=.plain
 tab:∀x c P,x∈makers->iD K x=some (c,P)->aBp base c P/\H P=some (.tbl (uD K x))
def Bsz(K:aM)(mg:Str->Option aB)(base h:Heap)(H:Hp):Prop:=base.objs.size<=h.objs.size/\TabsK K mg base H
def FreeC(X:Cx)(H:Hp)(x:Str)(c:aA):Prop:=H c=none\/(X.fn x=false/\∃o u,H c=some (.frz o u))
theorem FreeC.now{X:Cx}{H:Hp}{x:Str}{c:aA}(h:FreeC X H x c)(hf:X.fn x=true):H c=none:=h.elim id fun z=>by rw[hf] at z;cases z.1
structure Cx.Ok(X:Cx):Prop where
 mod:Mod X.K X.mg X.base
 kind:X.env.scope.kind=.function
 glob:X.env.globals=aP
 blt:X.env.builtins=EI
 above:X.s₀.heap.objs.size<=X.env.locals
 inj:∀x y c,X.env.cells.lookup x=some c->X.env.cells.lookup y=some c->x=y
 has:∀x,(X.env.kindOf x=some .cell\/X.env.kindOf x=some .free)->∃c,X.env.cells.lookup x=some c
 cab:∀x c,X.fn x=true->X.env.cells.lookup x=some c->X.s₀.heap.objs.size<=c
 hd:X.calm=true->X.A.handled=none
 frames:X.A.frames=some X.stack
 stk:X.stack=X.outer\/(X.stack=X.env::X.outer/\X.env.frame=some X.env.locals)
 exf:∀b∈X.ex,b≠X.env.locals/\∀x c,X.env.cells.lookup x=some c->c≠b
 bs:∀b o,X.base.get? b=some o->X.s₀.heap.get? b=some o/\X.H₀ b=none
 bsz:Bsz X.K X.mg X.base X.s₀.heap X.H₀
 noex:∀b o,X.base.get? b=some o->b∉X.ex
 exfs:∀b∈X.ex,b∉X.fs
 funs:X.s₀.heap.FunFrames X.base X.outer
 frf:∀b∈X.fs,X.H₀ b=none
structure Inv(X:Cx)(aC:List (aA×Obj))(σ : List (Option V))(H:Hp)(s:aE):Prop where
 ok:X.Ok
 os:s.os=X.s₀.os
 bare:sW s.gens
 base:Un X.fs X.ex X.H₀ H X.s₀.heap s.heap
 loc:∃m,s.heap.Ns X.env.locals m/\∀(i:Nat) (x:Str) (v:V),X.N[i]?=some x->σ[i]?=some (some v)->Vis X.env.scope x->∃u,RelV v u/\Look X.env s.heap m x u
 cell:∀x c,X.env.cells.lookup x=some c->∃v,s.heap.IsCell c v
 free:H X.env.locals=none
 freeC:∀x c,X.env.cells.lookup x=some c->FreeC X H x c
 pin:∀p∈X.pn++aC,s.heap.get? p.1=some p.2/\H p.1=none/\p.1≠X.env.locals/\p.1∉X.fs/\∀v,p.2.data≠.cell v
 hok:HOk X.prog X.w H s.heap
 len : σ.length=X.N.length
section
variable{X:Cx}{aC:List (aA×Obj)}{σ : List (Option V)}{H H':Hp}{s:aE}{h':Heap}
theorem Cx.Ok.nofr(ok:X.Ok){b:aA}{o:Obj}(e:X.base.get? b=some o):b∉X.fs:=fun hb=>by
 have:=(ok.funs.mem hb).1;rw[e] at this;cases this
theorem Inv.bs(I:Inv X aC σ H s):∀b o,X.base.get? b=some o->s.heap.get? b=some o/\H b=none:=fun b o e =>
 ⟨I.base.keep b o (I.ok.bs b o e).1 (I.ok.bs b o e).2 (I.ok.nofr e) (I.ok.noex b o e),I.base.free b o (I.ok.bs b o e).1 (I.ok.bs b o e).2 (I.ok.noex b o e)⟩
theorem Inv.bk(I:Inv X aC σ H s):∀b o,X.base.get? b=some o->s.heap.get? b=some o:=fun b o e=>(I.bs b o e).1
theorem Inv.mod(I:Inv X aC σ H s):Mod X.K X.mg X.base:=I.ok.mod
theorem Inv.kIn(I:Inv X aC σ H s):X.K.In s.heap:=I.ok.mod.kin.keeps I.bk
theorem Inv.lt(I:Inv X aC σ H s):X.env.locals<s.heap.objs.size:=let ⟨_,hn,_⟩:=I.loc;hn.lt
theorem Inv.sz(I:Inv X aC σ H s):X.s₀.heap.objs.size<=s.heap.objs.size:=cL I.ok.above (CY I.lt)
theorem Inv.nofs(I:Inv X aC σ H s){a:aA}(h:s.heap.objs.size<=a):a∉X.fs:=fun hb=>by
 obtain⟨_,o,ho,_⟩:=I.ok.funs.mem hb;exact absurd (bQ (bF ho) (cL I.sz h)) (dR _)
theorem Inv.cne(I:Inv X aC σ H s):∀x c,X.env.cells.lookup x=some c->c≠X.env.locals:=fun x c e z=>by
 obtain⟨v,o,ho,hd⟩:=I.cell x c e;obtain⟨m,⟨o',es,ep,ho',hd',_⟩,_⟩:=I.loc;rw[z,ho'] at ho;cases ho;rw[hd'] at hd;cases hd
theorem Inv.funs(I:Inv X aC σ H s):s.heap.FunFrames X.base X.outer:=by
 have all:∀(l:List Env),(∀b∈frs l,b∈X.fs)->X.s₀.heap.FunFrames X.base l->s.heap.FunFrames X.base l:=by
  intro l
  induction l with
  |nil=>intro _ _;trivial
  | cons env r ih =>
    intro hs hl;obtain⟨hk,⟨L,o,hf,hn,ho,hd⟩,hr⟩:=hl;have hL:L∈X.fs:=hs L (by unfold frs;rw[iI,hf];exact aN);obtain⟨sl,e⟩:=I.base.slot L o ho (I.ok.frf L hL) hL fun z=>I.ok.exfs L z hL;exact⟨hk,⟨L,_,hf,hn,e,hd⟩,ih (fun b hb=>hs b (by unfold frs;rw[iI,hf];exact aG _ hb)) hr⟩
 exact all X.outer (fun _ hb=>hb) I.ok.funs
theorem Inv.stack(I:Inv X aC σ H s):s.heap.FunFrames X.base X.stack:=by
 rcases I.ok.stk with e | ⟨e,hf⟩
 . rw[e];exact I.funs
 . rw[e];obtain⟨m,hn,_⟩:=I.loc;refine .cons (by rw[I.ok.kind];decide) hf hn ?_ I.funs;exact Heap.get?_none_of_le (cL I.ok.bsz.1 I.ok.above)
theorem Inv.stkSub(I:Inv X aC σ H s):∀b∈frs X.stack,b∈X.env.locals::X.fs:=fun b hb=>by
 rcases I.ok.stk with e | ⟨e,hf⟩
 . rw[e] at hb;exact aG _ hb
 . rw[e] at hb;unfold frs at hb;rw[iI,hf] at hb;exact hb
theorem Inv.stkFree(I:Inv X aC σ H s):∀b∈frs X.stack,H b=none:=fun b hb=>by
 rcases aD.mp (I.stkSub b hb) with e | hb
 . rw[e];exact I.free
 . obtain⟨_, o, ho, _⟩ := I.ok.funs.mem hb;exact I.base.free b o ho (I.ok.frf b hb) fun z=>I.ok.exfs b z hb
theorem Inv.step{g':Array GenState}{t':Nat}{d':YO}{ch:List aA}(I:Inv X aC σ H s)(hch:∀b∈ch,(b∈X.ex\/X.s₀.heap.objs.size<=b)/\b≠X.env.locals/\(∀x c,X.env.cells.lookup x=some c->c≠b)/\∀p∈X.pn++aC,p.1≠b)(keep:∀b o,b≠X.env.locals->b∉X.fs->b∉ch->s.heap.get? b=some o->H b=none->h'.get? b=some o)(slot:∀b o,b≠X.env.locals->b∈X.fs->b∉ch->s.heap.get? b=some o->H b=none->∃sl,h'.get? b=some { o with slots:=sl })(free:∀b o,b∉ch->s.heap.get? b=some o->H b=none->H' b=none)(there:∀b o,b∉ch->s.heap.get? b=some o->∃o',h'.get? b=some o')(tups:∀b xs,H b=some (.tup xs)->H' b=some (.tup xs))(frzs:∀b o u,H b=some (.frz o u)->H' b=some (.frz o u))(tbls:∀b ps,H b=some (.tbl ps)->H' b=some (.tbl ps))(ns:∀m,s.heap.Ns X.env.locals m->h'.Ns X.env.locals m)(hok:HOk X.prog X.w H' h')(hg:sW g') :
  Inv X aC σ H' { s with heap:=h',gens:=g',drawn:=d',toks:=t' }:=by
 have neL:∀b o,X.s₀.heap.get? b=some o->b≠X.env.locals:=fun b o e=>bO (bQ (bF e) I.ok.above)
 have neC:∀b o,X.s₀.heap.get? b=some o->b∉X.ex->b∉ch:=fun b o e hx hb=>by
  rcases(hch b hb).1 with z | z
  . exact hx z
  . exact absurd (bQ (bF e) z) (dR _)
 have cellK:∀x c,X.env.cells.lookup x=some c->∀v,s.heap.IsCell c v->h'.IsCell c v:=fun x c e v ⟨o,ho,hd⟩=>by
  have nch:c∉ch:=fun z=>(hch c z).2.2.1 x c e rfl;rcases I.freeC x c e with fr | ⟨_,of,uf,fr⟩
  . by_cases hc : c ∈ X.fs
    . obtain⟨sl, q⟩ := slot c o (I.cne x c e) hc nch ho fr;exact⟨_,q,hd⟩
    . exact⟨o,keep c o (I.cne x c e) hc nch ho fr,hd⟩
  . obtain⟨e1, _⟩ := I.hok c _ fr;obtain⟨e2,_⟩:=hok c _ (frzs c of uf fr);rw[ho] at e1;cases e1;exact⟨o,e2,hd⟩
 refine⟨I.ok,I.os,hg,⟨fun b o e n hb hx=>?_,fun b o e n hb hx=>?_,fun b o e n hx=>?_,fun b o e hx=>?_,fun b xs e=>tups b xs (I.base.tups b xs e),fun b o xs e=>frzs b o xs (I.base.frzs b o xs e),fun b ps e=>?_⟩,?_,fun x c e=>?_,?_,fun x c e=>?_,fun p hp=>?_,hok,I.len⟩
 . exact keep b o (neL b o e) hb (neC b o e hx) (I.base.keep b o e n hb hx) (I.base.free b o e n hx)
 . obtain⟨sl, e1⟩ := I.base.slot b o e n hb hx;obtain⟨sl',e2⟩:=slot b _ (neL b o e) hb (neC b o e hx) e1 (I.base.free b o e n hx);exact⟨sl',e2⟩
 . obtain⟨o', e1⟩ := I.base.there b o e hx;exact free b o' (neC b o e hx) e1 (I.base.free b o e n hx)
 . obtain⟨o', e1⟩ := I.base.there b o e hx;exact there b o' (neC b o e hx) e1
 . exact tbls b ps (I.base.tbls b ps e)
 . obtain ⟨m, hn, hl⟩ := I.loc;refine ⟨m,ns m hn,fun i x v e1 e2 e3=>?_⟩;obtain ⟨u,r,l⟩:=hl i x v e1 e2 e3;refine ⟨u,r,?_⟩;rcases l with l | ⟨k,c,e,z⟩
   . exact .inl l
   . exact .inr ⟨k,c,e,cellK x c e _ z⟩
 . obtain⟨v, z⟩ := I.cell x c e;exact⟨v,cellK x c e v z⟩
 . obtain⟨m, ⟨o, _, _, ho, _⟩, _⟩ := I.loc;exact free _ o (fun z=>(hch _ z).2.1 rfl) ho I.free
 . obtain⟨v, o, ho, hd⟩ := I.cell x c e;exact(I.freeC x c e).elim (fun fr=>.inl (free c o (fun z=>(hch c z).2.2.1 x c e rfl) ho fr)) fun⟨h1,of,uf,fr⟩=>.inr ⟨h1,of,uf,frzs c of uf fr⟩
 . obtain⟨e, n, ne, nf, d⟩ := I.pin p hp;have nch:p.1∉ch:=fun z=>(hch p.1 z).2.2.2 p hp rfl;exact⟨keep p.1 p.2 ne nf nch e n,free p.1 p.2 nch e n,ne,nf,d⟩
theorem Inv.un{t':Nat}(I:Inv X aC σ H s)(u:Un X.fs [] H H' s.heap h')(hok:HOk X.prog X.w H' h'):Inv X aC σ H' { s with heap:=h',toks:=t' }:=by
 obtain⟨m,⟨o,es,ep,ho,r⟩,_⟩:=id I.loc;obtain⟨sl,hL⟩:=u.any ho I.free (by simp)
 exact I.step (g':=s.gens) (d':=s.drawn) (ch:=[]) (fun _ z=>nomatch z) (fun b o _ hb _ e n=>u.keep b o e n hb (by simp)) (fun b o _ hb _ e n=>u.slot b o e n hb (by simp)) (fun b o _ e n=>u.free b o e n (by simp)) (fun b o _ e=>u.there b o e (by simp)) u.tups u.frzs u.tbls (fun m' hm=>by
  obtain⟨o',es',ep',ho',r'⟩:=hm;rw[ho] at ho';cases ho'
  exact⟨_,es',ep',hL,r'⟩) hok I.bare
theorem Inv.call{g':Array GenState}{t':Nat}{d':YO}{ch:List aA}(I:Inv X aC σ H s)(u:Un (frs X.stack) ch H H' s.heap h')(hok:HOk X.prog X.w H' h')(hg:sW g')(hch:∀b∈ch,(b∈X.ex\/X.s₀.heap.objs.size<=b)/\b≠X.env.locals/\(∀x c,X.env.cells.lookup x=some c->c≠b)/\∀p∈X.pn++aC,p.1≠b) :
  Inv X aC σ H' { s with heap:=h',gens:=g',drawn:=d',toks:=t' }:=by
 obtain⟨m,⟨o,es,ep,ho,r⟩,_⟩:=id I.loc;obtain⟨sl,hL⟩:=u.any ho I.free fun z=>(hch _ z).2.1 rfl
 exact I.step (ch:=ch) hch (fun b o hL hb hc e n=>u.keep b o e n (fun z=>(aD.mp (I.stkSub b z)).elim hL hb) hc) (fun b o _ _ hc e n=>u.any e n hc) (fun b o hc e n=>u.free b o e n hc) (fun b o hc e=>u.there b o e hc) u.tups u.frzs u.tbls (fun m' hm=>by
  obtain⟨o',es',ep',ho',r'⟩:=hm;rw[ho] at ho';cases ho'
  exact⟨_,es',ep',hL,r'⟩) hok hg
theorem Inv.turned{t':Nat}{it:aA}(I:Inv X aC σ H s)(k:∀b o,b≠it->s.heap.get? b=some o->h'.get? b=some o)(hn:H it=none)(hL:it≠X.env.locals)(h1:it∈X.ex\/X.s₀.heap.objs.size<=it)(h2:∀x c,X.env.cells.lookup x=some c->c≠it)(h3:∀p∈X.pn++aC,p.1≠it):Inv X aC σ H { s with heap:=h',toks:=t' }:=by
 have nit:∀b u,H b=some u->b≠it:=fun b u e z=>by rw[z,hn] at e;cases e
 refine I.step (g':=s.gens) (d':=s.drawn) (ch:=[it]) (fun b hb=>?_) (fun b o _ _ hc e _=>k b o (fun z=>hc (by simp[z])) e) (fun b o _ _ hc e _=>⟨o.slots,k b o (fun z=>hc (by simp[z])) e⟩) (fun _ _ _ _ n=>n)
  (fun b o hc e=>⟨o,k b o (fun z=>hc (by simp[z])) e⟩) (fun _ _ e=>e) (fun _ _ _ e=>e) (fun _ _ e=>e) (fun m hm=>?_) (fun b u e=>?_) I.bare
 . have e : b = it := by simpa using hb
   subst e;exact⟨h1,hL,h2,h3⟩
 . obtain⟨o, es, ep, ho, r⟩ := hm;exact⟨o,es,ep,k _ o (Ne.symm hL) ho,r⟩
 . refine (I.hok b u e).stay (fun c v hc q => k c v ?_ q) (fun _ q => q) fun _ _ q => q;rcases hc with z | z
   . rw[z];exact nit b u e
   . exact nit c _ z
theorem Inv.tok(I:Inv X aC σ H s)(t:Nat):Inv X aC σ H { s with toks:=t }:=I.un (h':=s.heap) (t':=t) Un.refl I.hok
theorem Inv.kept{t':Nat}(I:Inv X aC σ H s)(k:∀b u,s.heap.get? b=some u->h'.get? b=some u):Inv X aC σ H { s with heap:=h',toks:=t' }:=I.un (Un.kept k) (I.hok.kept k)
theorem Inv.laid{a:aA}{o:HO}{t':Nat}(I:Inv X aC σ H s)(k:∀b u,s.heap.get? b=some u->h'.get? b=some u)(hp:s.heap.objs.size<=a)(new:ObjOk X.prog X.w (upd H a o) h' a o) :
  Inv X aC σ (upd H a o) { s with heap:=h',toks:=t' }:=I.un (Un.laid k hp (I.hok.fresh hp)) (I.hok.laid k hp new)
theorem Inv.write{x e:aA}{o:HO}{t':Nat}(I:Inv X aC σ H s)(mu:Mut (H x))(he:e=x\/H e=some (.own x))(k:∀b u,b≠e->s.heap.get? b=some u->h'.get? b=some u)(heo:∃u,h'.get? e=some u)(new:ObjOk X.prog X.w (upd H x o) h' x o):Inv X aC σ (upd H x o) { s with heap:=h',toks:=t' }:=I.un (Un.write mu he k heo) (I.hok.write mu he k heo new)
theorem Inv.pins_of{pins':List (aA×Obj)}(I:Inv X aC σ H s)(h:∀p∈pins',s.heap.get? p.1=some p.2/\H p.1=none/\p.1≠X.env.locals/\p.1∉X.fs/\∀v,p.2.data≠.cell v):Inv X pins' σ H s :=
 ⟨I.ok,I.os,I.bare,I.base,I.loc,I.cell,I.free,I.freeC,fun p hp=>(bJ.mp hp).elim (fun z=>I.pin p (aW _ z)) (h p),I.hok,I.len⟩
theorem QX{N:List Str}(hN:N.Nodup){i j:Nat}{x:Str}(a:N[i]?=some x)(b:N[j]?=some x):i=j:=by
 obtain⟨h1,e1⟩:=aV.mp a;obtain⟨h2,e2⟩:=aV.mp b;exact(List.getElem_inj hN).mp (e1.trans e2.symm)
theorem KW{M:Model}{A:bZ}{E:aB->aE->Prop}{i:Nat}{x:Str}{v:V}{u:aB}{Q:Unit->aE->Prop}(I:Inv X aC σ H s)(hN:X.N.Nodup)(hi:X.N[i]?=some x)(hx:Loc X.env.scope x)(r:RelV v u)(h:∀s',Inv X aC (σ.set i (some v)) H s'->(∃a,Heap.SameBut a s.heap s'.heap/\(a=X.env.locals\/X.env.cells.lookup x=some a))->Q () s')(hf:X.fn x=true\/X.env.scope.names.lookup x=some .local:=by first | exact .inl rfl | exact .inr rfl | assumption):bL M A (storeName X.env x u) Q E s:=by
 obtain⟨m,hn,hl⟩:=id I.loc;have hcls:(X.env.scope.kind==.class||(X.env.scope.kind==.module&&X.env.locals != X.env.globals))=false:=by rw[I.ok.kind];rfl
 have hiσ : i<σ.length:=by rw[I.len];exact(aV.mp hi).1
 have cne:=I.cne
 have tracked:∀{a:aA} {h':Heap},(∃o,s.heap.get? a=some o/\H a=none)->Heap.SameBut a s.heap h'->HOk X.prog X.w H h':=fun {a h'} ha hs b ob e=>by
  obtain⟨_,_,hfree⟩:=ha;refine(I.hok b ob e).stay (fun c w' hc q=>(hs.2 c ?_).trans q) (fun _ q=>q) fun _ _ q=>q;rintro rfl;rcases hc with rfl | hc
  . rw[hfree] at e;cases e
  . rw[hfree] at hc;cases hc
 rcases hx with hk | hk
 . refine wpAny_storeName_local hk hn (fun h' hn' hs => ?_) hcls;obtain ⟨oL,_,_,hoL,_⟩:=id hn;refine h _ ⟨I.ok,I.os,I.bare,⟨fun b o e n hb hx=>?_,fun b o e n hb hx=>?_,I.base.free,fun b o e hx=>?_,I.base.tups,I.base.frzs,I.base.tbls⟩,⟨_,hn',fun j y v' e1 e2 e3=>?_⟩,fun y c e=>?_,I.free,I.freeC,fun p hp=>?_,tracked ⟨oL,hoL,I.free⟩ hs,by simpa using I.len⟩ ⟨_,hs,.inl rfl⟩
   . exact(hs.2 b (bO (bQ (bF e) I.ok.above))).trans (I.base.keep b o e n hb hx)
   . obtain⟨sl, e1⟩ := I.base.slot b o e n hb hx;exact⟨sl,(hs.2 b (bO (bQ (bF e) I.ok.above))).trans e1⟩
   . obtain⟨o', e1⟩ := I.base.there b o e hx;exact⟨o',(hs.2 b (bO (bQ (bF e) I.ok.above))).trans e1⟩
   . by_cases hj : j = i
     . subst hj;rw[hi] at e1;cases e1;rw[aX hiσ] at e2;cases e2;exact⟨u,r,.inl ⟨hk,by simp⟩⟩
     . rw [aF (Ne.symm hj)] at e2;obtain ⟨u',r',q⟩:=hl j y v' e1 e2 e3;refine ⟨u',r',?_⟩;rcases q with ⟨k,e⟩ | ⟨k,c,e,z⟩
       . refine .inl ⟨k, ?_⟩;have:y≠x:=fun e=>hj (QX hN e1 (e▸hi));simp[this,e]
       . exact .inr ⟨k,c,e,z.sameBut hs (cne y c e)⟩
   . obtain⟨w', z⟩ := I.cell y c e;exact⟨w',z.sameBut hs (cne y c e)⟩
   . obtain⟨e, n, ne, nf, d⟩ := I.pin p hp;exact⟨(hs.2 p.1 ne).trans e,n,ne,nf,d⟩
 . have hfn:X.fn x=true:=by
    rcases hf with z | z
    . exact z
    . rw[z] at hk;cases hk
   obtain⟨c,hc⟩:=I.ok.has x (.inl hk);obtain⟨w',z⟩:=I.cell x c hc;refine wpAny_storeName_cell I.ok.kind hk hc z (fun h' hc' hs=>?_);obtain⟨oc,hoc,hocd⟩:=id z;refine h { s with heap:=h' } ⟨I.ok,I.os,I.bare,⟨fun b o e n hb hx=>?_,fun b o e n hb hx=>?_,I.base.free,fun b o e hx=>?_,I.base.tups,I.base.frzs,I.base.tbls⟩,⟨m,hn.sameBut hs (Ne.symm (cne x c hc)),fun j y v' e1 e2 e3=>?_⟩,fun y c' e=>?_,I.free,I.freeC,fun p hp=>?_,tracked ⟨oc,hoc,(I.freeC x c hc).now hfn⟩ hs,by simpa using I.len⟩ ⟨c,hs,.inr hc⟩
   . exact(hs.2 b (bO (bQ (bF e) (I.ok.cab x c hfn hc)))).trans (I.base.keep b o e n hb hx)
   . obtain⟨sl, e1⟩ := I.base.slot b o e n hb hx;exact⟨sl,(hs.2 b (bO (bQ (bF e) (I.ok.cab x c hfn hc)))).trans e1⟩
   . obtain⟨o', e1⟩ := I.base.there b o e hx;exact⟨o',(hs.2 b (bO (bQ (bF e) (I.ok.cab x c hfn hc)))).trans e1⟩
   . by_cases hj : j = i
     . subst hj;rw[hi] at e1;cases e1;rw[aX hiσ] at e2;cases e2;exact⟨u,r,.inr ⟨.inl hk,c,hc,hc'⟩⟩
     . rw [aF (Ne.symm hj)] at e2;obtain ⟨u',r',q⟩:=hl j y v' e1 e2 e3;refine ⟨u',r',?_⟩;rcases q with q | ⟨k,c',e,z'⟩
       . exact .inl q
       . refine .inr ⟨k, c', e, z'.sameBut hs ?_⟩;rintro rfl;exact hj (QX hN e1 (I.ok.inj _ _ _ e hc▸hi))
   . by_cases hcc : c' = c
     . subst hcc;exact⟨_,hc'⟩
     . obtain⟨w2, z2⟩ := I.cell y c' e;exact⟨w2,z2.sameBut hs hcc⟩
   . obtain⟨e, n, ne, nf, d⟩ := I.pin p hp;refine⟨(hs.2 p.1 ?_).trans e,n,ne,nf,d⟩;intro q;rw[q,hoc] at e;have q':oc=p.2:=Option.some.inj e;exact d w' (by rw[<- q'];exact hocd)
theorem FZ{M:Model}{A:bZ}{E:aB->aE->Prop}{i:Nat}{x:Str}{v:V}{u:aB}{Q:Unit->aE->Prop}(I:Inv X aC σ H s)(hN:X.N.Nodup)(hi:X.N[i]?=some x)(hx:Loc X.env.scope x)(r:RelV v u)(h:∀s',Inv X aC (σ.set i (some v)) H s'->Q () s')(hf:X.fn x=true\/X.env.scope.names.lookup x=some .local:=by first | exact .inl rfl | exact .inr rfl | assumption):bL M A (storeName X.env x u) Q E s :=
 KW I hN hi hx r (fun s' I' _=>h s' I') hf
theorem Inv.call'{s':aE}{ch:List aA}(I:Inv X aC σ H s)(ho:s'.os=s.os)(u:Un (frs X.stack) ch H H' s.heap s'.heap)(hok:HOk X.prog X.w H' s'.heap)(hg:sW s'.gens)(hch:∀b∈ch,(b∈X.ex\/X.s₀.heap.objs.size<=b)/\b≠X.env.locals/\(∀x c,X.env.cells.lookup x=some c->c≠b)/\∀p∈X.pn++aC,p.1≠b):Inv X aC σ H' s':=by
 obtain⟨h',g',d',t',o'⟩:=s';have e:o'=s.os:=ho;subst e;exact I.call (g':=g') (t':=t') (d':=d') u hok hg hch
end
abbrev XK:=aB->Option aA->Hp->Prop
abbrev St:=List (Option V)
abbrev VK:=V->Hp->Prop
abbrev TE:=St->Hp->VK->Prop
abbrev TT:=St->Hp->(Bool->Hp->Prop)->Prop
abbrev TA:=St->Hp->(List V->Hp->Prop)->Prop
structure Ends where
 nx:St->Hp->Prop
 rt:VK
 bk:St->Hp->Prop:=fun _ _=>False
 ct:St->Hp->Prop:=fun _ _=>False
abbrev TS:=Ends->St->Hp->Prop
def EP(X:Cx)(aC:List (aA×Obj))(σ : St)(Q:VK)(u:aB)(s':aE):Prop:=∃v H',Inv X aC σ H' s'/\RelV v u/\Q v H'
def TP(X:Cx)(aC:List (aA×Obj))(σ : St)(Q:Bool->Hp->Prop)(b:Bool)(s':aE):Prop:=∃H',Inv X aC σ H' s'/\Q b H'
def AP(X:Cx)(aC:List (aA×Obj))(σ : St)(Q:List V->Hp->Prop)(us:List aB)(s':aE):Prop:=∃vs H',Inv X aC σ H' s'/\Vals vs us/\Q vs H'
def SP(X:Cx)(aC:List (aA×Obj))(D:Ends)(f:Flow)(s':aE):Prop :=
 match f with
 | .next=>∃σ' H',Inv X aC σ' H' s'/\D.nx σ' H'
 | .brk=>∃σ' H',Inv X aC σ' H' s'/\D.bk σ' H'
 | .cont=>∃σ' H',Inv X aC σ' H' s'/\D.ct σ' H'
 | .ret u=>∃v σ' H',Inv X aC σ' H' s'/\RelV v u/\D.rt v H'
def PE(X:Cx)(e:Expr)(t:TE):Prop :=
 ∀(aC:List (aA×Obj)) (s:aE) (σ : St) (H:Hp) (Q:VK),Inv X aC σ H s->t σ H Q->bL (bM X.prog X.w) X.A (bY e X.env) (EP X aC σ Q) X.xe s
def PT(X:Cx)(e:Expr)(t:TT):Prop :=
 ∀(aC:List (aA×Obj)) (s:aE) (σ : St) (H:Hp) (Q:Bool->Hp->Prop),Inv X aC σ H s->t σ H Q->bL (bM X.prog X.w) X.A (KC e X.env (bY e X.env)) (TP X aC σ Q) X.xe s
def PW(X:Cx)(e:Expr)(t:TT):Prop :=
 ∀(whole:Sem aB) (aC:List (aA×Obj)) (s:aE) (σ : St) (H:Hp) (Q:Bool->Hp->Prop),Inv X aC σ H s->t σ H Q->bL (bM X.prog X.w) X.A (KC e X.env whole) (TP X aC σ Q) X.xe s
theorem PW.pt{X:Cx}{e:Expr}{t:TT}(h:PW X e t):PT X e t:=h _
def PA(X:Cx)(es:List Expr)(t:TA):Prop :=
 ∀(pos:Pos) (aC:List (aA×Obj)) (s:aE) (σ : St) (H:Hp) (Q:List V->Hp->Prop),Inv X aC σ H s->t σ H Q->bL (bM X.prog X.w) X.A (spliced (dB pos (aL es X.env))) (AP X aC σ Q) X.xe s
def PS(X:Cx)(st:Stmt)(t:TS):Prop :=
 ∀(aC:List (aA×Obj)) (s:aE) (σ : St) (H:Hp) (D:Ends),Inv X aC σ H s->t D σ H->bL (bM X.prog X.w) X.A (exec st X.env) (SP X aC D) X.xe s
def PSs(X:Cx)(st:List Stmt)(t:TS):Prop :=
 ∀(aC:List (aA×Obj)) (s:aE) (σ : St) (H:Hp) (D:Ends),Inv X aC σ H s->t D σ H->bL (bM X.prog X.w) X.A (execs st X.env) (SP X aC D) X.xe s
theorem thn{α : Type}{t:Sem α}{Q Q' : α->aE->Prop}{M:Model}{A:bZ}{E:aB->aE->Prop}{s:aE}(h:bL M A t Q E s)(hQ:∀a s,Q a s->Q' a s):bL M A t Q' E s:=gB h hQ fun _ _ x=>x
section
variable{X:Cx}
def tVar(i:Nat):TE:=fun σ H Q=>∃v,σ[i]?=some (some v)/\Q v H
def tC(v:V):TE:=fun _ H Q=>Q v H
theorem xW{i:Nat}{x:Str}{pos:Pos}(hN:X.N[i]?=some x)(hv:Vis X.env.scope x)(hd:(x==("__debug__" : Str))=false:=by decide)(hcd:(x==("__classdict__" : Str))=false:=by decide):PE X (.Name x pos) (tVar i):=by
 intro aC s σ H Q I h;obtain⟨v,e,h⟩:=h;obtain⟨m,hn,hl⟩:=I.loc;obtain⟨u,r,l⟩:=hl i x v hN e hv;have fin:EP X aC σ Q u s:=⟨v,H,I,r,h⟩
 rcases l with⟨hk,hm⟩ | ⟨hk,c,hc,hcell⟩
 . exact wpAny_Name (wpAny_loadName_local I.ok.kind hk hn hm fin) hd
 . rcases hk with hk | hk
   . exact wpAny_Name (wpAny_loadName_cell I.ok.kind hk hc hcell fin) hd
   . exact wpAny_Name (wpAny_loadName_free I.ok.kind hk hc hcell fin hcd) hd
theorem pe_int{i j pos}: PE X (.Constant (.int i) j pos) (tC (.int i)):=fun _ _ _ H _ I h=>wpAny_Constant_int ⟨.int i,H,I.tok _,⟨_,rfl⟩,h⟩
theorem pe_bl{b j pos}: PE X (.Constant (.bool b) j pos) (tC (.bl b)):=fun _ _ _ H _ I h=>Constant_bool ⟨.bl b,H,I,rfl,h⟩
theorem pe_non{j pos}: PE X (.Constant .none j pos) (tC .non):=fun _ _ _ H _ I h=>Constant_none ⟨.non,H,I,rfl,h⟩
theorem pe_str{x j pos}: PE X (.Constant (.str x) j pos) (tC (.str x)):=fun _ _ _ H _ I h=>Calls.Constant_str ⟨.str x,H,I.tok _,⟨_,rfl⟩,h⟩
def Gl(X:Cx)(x:Str):Prop:=X.env.kindOf x=some .globalImplicit
theorem AN{E:aB->aE->Prop}{aC:List (aA×Obj)}{s:aE}{σ : St}{H:Hp}{x:Str}{u:aB}{pos:Pos}{Q:aB->aE->Prop}(I:Inv X aC σ H s)(hg:Gl X x)(hm:X.mg x=some u)(h:Q u s)(hd:(x==("__debug__" : Str))=false:=by decide):bL (bM X.prog X.w) X.A (bY (.Name x pos) X.env) Q E s :=
 Calls.Name_function_global I.ok.kind hg (Calls.loadGlobal_global (by rw[I.ok.glob];exact I.mod.glob.keeps I.bk) hm h) hd
theorem uB{E:aB->aE->Prop}{aC:List (aA×Obj)}{s:aE}{σ : St}{H:Hp}{x:Str}{u:aB}{pos:Pos}{Q:aB->aE->Prop}(I:Inv X aC σ H s)(hg:Gl X x)(hm:X.mg x=none)(hv:gJ x=some u)(h:Q u s)(hn:x≠"__name__":=by decide)(hd:(x==("__debug__" : Str))=false:=by decide):bL (bM X.prog X.w) X.A (bY (.Name x pos) X.env) Q E s:=by
 obtain⟨mb,h1,h2⟩:=I.mod.blt;exact Calls.Name_function_global I.ok.kind hg (Calls.loadGlobal_builtin (by rw[I.ok.glob];exact I.mod.glob.keeps I.bk) hm (by rw[I.ok.blt];exact h1.keeps I.bk) ((h2 x hn).trans hv) h) hd
theorem pe_glob{x:Str}{v:V}{u:aB}{pos:Pos}(hg:Gl X x)(hm:X.mg x=some u)(r:RelV v u)(hd:(x==("__debug__" : Str))=false:=by decide):PE X (.Name x pos) (tC v):=
 fun _ _ _ H _ I h=>AN I hg hm ⟨v,H,I,r,h⟩ hd
theorem pe_bltn{x:Str}{v:V}{u:aB}{pos:Pos}(hg:Gl X x)(hm:X.mg x=none)(hv:gJ x=some u)(r:RelV v u)(hn:x≠"__name__":=by decide)(hd:(x==("__debug__" : Str))=false:=by decide):PE X (.Name x pos) (tC v):=
 fun _ _ _ H _ I h=>uB I hg hm hv ⟨v,H,I,r,h⟩ hn hd
variable{a b:Expr}{ta tb:TE}{pos:Pos}
def PC(X:Cx)(op:DS)(a b:Expr)(t:TE):Prop :=
 ∀(aC:List (aA×Obj)) (s:aE) (σ : St) (H:Hp) (Q:VK),Inv X aC σ H s->t σ H Q →
  bL (bM X.prog X.w) X.A (bY a X.env) (fun v s₁=>bL (bM X.prog X.w) X.A (bY b X.env) (fun u s₂=>bL (bM X.prog X.w) X.A (dJ op v u) (EP X aC σ Q) X.xe s₂) X.xe s₁) X.xe s
theorem aFb(b:Expr){op:DS}(h:op≠.In)(h2:op≠.NotIn):dY op b=false:=by
 have e1:(op==DS.In)=false:=by cases op<;>first | rfl | exact absurd rfl h
 have e2:(op==DS.NotIn)=false:=by cases op<;>first | rfl | exact absurd rfl h2
 cases b<;>simp[dY,e1,e2]
def tB(t:TE):TT:=fun σ H Q=>t σ H fun x H1=>∃c,x=.bl c/\Q c H1
theorem pt_cmp{op:DS}{t:TE}(h:PC X op a b t)(h1:dY op b=false:=by first | exact aFb _ (by decide) (by decide) | rfl):PT X (.Compare a [op] [b] pos) (tB t):=by
 intro aC s σ H Q I hw;refine wpAny_isTrue_Compare1 (thn (h aC s σ H _ I hw) fun v s1 h1=>thn h1 fun u s2 h2=>thn h2 fun c s3 zq=>?_) h1;obtain⟨x,H1,I1,r1,q1⟩:=zq;obtain⟨d,rfl,q⟩:=q1;cases r1;exact dU ⟨H1,I1,q⟩
theorem pt_val{e:Expr}{t:TE}(h:PE X e t)(he:∀whole,KC e X.env whole=(do let v <- whole;kJ e.pos;gD [v] (truthy v)):=by intro _;rfl):PT X e (tB t):=by
 intro aC s σ H Q I hw;refine isTrue_plain (thn (h aC s σ H _ I hw) fun v s1 zq=>?_) (he _);obtain⟨x,H1,I1,r1,q1⟩:=zq;obtain⟨d,rfl,q⟩:=q1;cases r1;exact dU ⟨H1,I1,q⟩
variable{tA tB':TT}{rest:List Expr}
def tAnd(t u:TT):TT:=fun σ H Q=>t σ H fun c H1=>if c=true then u σ H1 Q else Q false H1
def tOr(t u:TT):TT:=fun σ H Q=>t σ H fun c H1=>if c=true then Q true H1 else u σ H1 Q
def tNot(t:TT):TT:=fun σ H Q=>t σ H fun c H1=>Q (!c) H1
theorem pw_and1(ha:PT X a tA):PW X (.BoolOp .And [a] pos) tA:=by
 intro wh aC s σ H Q I h;refine isTrue_and (thn (ha aC s σ H Q I h) fun c s1 e=>?_);cases c with
 |true=>exact isTrue_and_nil e
 |false=>exact e
theorem pw_or1(ha:PT X a tA):PW X (.BoolOp .Or [a] pos) tA:=by
 intro wh aC s σ H Q I h;refine isTrue_or (thn (ha aC s σ H Q I h) fun c s1 e=>?_);cases c with
 |false=>exact isTrue_or_nil e
 |true=>exact e
theorem pw_and(ha:PT X a tA)(hb:PW X (.BoolOp .And (b::rest) pos) tB'):PW X (.BoolOp .And (a::b::rest) pos) (tAnd tA tB'):=by
 intro wh aC s σ H Q I h;refine isTrue_and (thn (ha aC s σ H _ I h) fun c s1 zq=>?_);obtain⟨H1,I1,q1⟩:=zq;cases c with
 |true=>exact hb wh aC s1 σ H1 Q I1 q1
 |false=>exact⟨H1,I1,q1⟩
theorem pw_or(ha:PT X a tA)(hb:PW X (.BoolOp .Or (b::rest) pos) tB'):PW X (.BoolOp .Or (a::b::rest) pos) (tOr tA tB'):=by
 intro wh aC s σ H Q I h;refine isTrue_or (thn (ha aC s σ H _ I h) fun c s1 zq=>?_);obtain⟨H1,I1,q1⟩:=zq;cases c with
 |true=>exact⟨H1,I1,q1⟩
 |false=>exact hb wh aC s1 σ H1 Q I1 q1
theorem pt_not(ha:PT X a tA):PT X (.UnaryOp .Not a pos) (tNot tA):=by
 intro aC s σ H Q I h;exact isTrue_not (ha aC s σ H (fun c H1=>Q (!c) H1) I h)
def tAndV(ta tb:TE):TE:=fun σ H Q=>ta σ H fun x H1=>∃c,x=.bl c/\if c=true then tb σ H1 Q else Q (.bl false) H1
def tOrV(ta tb:TE):TE:=fun σ H Q=>ta σ H fun x H1=>∃c,x=.bl c/\if c=true then Q (.bl true) H1 else tb σ H1 Q
def tNotV(ta:TE):TE:=fun σ H Q=>ta σ H fun x H1=>∃c,x=.bl c/\Q (.bl (!c)) H1
theorem pe_one{op}{t:TE}(h:PE X a t):PE X (.BoolOp op [a] pos) t:=fun aC s σ H Q I hw=>BoolOp_one (h aC s σ H Q I hw)
theorem pe_and(ha:PE X a ta)(hb:PE X (.BoolOp .And (b::rest) pos) tb):PE X (.BoolOp .And (a::b::rest) pos) (tAndV ta tb):=by
 intro aC s σ H Q I h;refine BoolOp_and (thn (ha aC s σ H _ I h) fun v s1 zq=>?_);obtain⟨x,H1,I1,r1,q1⟩:=zq;obtain⟨c,rfl,q1⟩:=q1;cases r1;refine dU ?_;cases c with
 |true=>exact hb aC s1 σ H1 Q I1 q1
 |false=>exact⟨.bl false,H1,I1,rfl,q1⟩
theorem pe_or(ha:PE X a ta)(hb:PE X (.BoolOp .Or (b::rest) pos) tb):PE X (.BoolOp .Or (a::b::rest) pos) (tOrV ta tb):=by
 intro aC s σ H Q I h;refine BoolOp_or (thn (ha aC s σ H _ I h) fun v s1 zq=>?_);obtain⟨x,H1,I1,r1,q1⟩:=zq;obtain⟨c,rfl,q1⟩:=q1;cases r1;refine dU ?_;cases c with
 |false=>exact hb aC s1 σ H1 Q I1 q1
 |true=>exact⟨.bl true,H1,I1,rfl,q1⟩
theorem pe_not(ha:PE X a ta):PE X (.UnaryOp .Not a pos) (tNotV ta):=by
 intro aC s σ H Q I h;refine UnaryOp_ (thn (ha aC s σ H _ I h) fun v s1 zq=>?_);obtain⟨x,H1,I1,r1,q1⟩:=zq;obtain⟨c,rfl,q1⟩:=q1;cases r1;exact not_of (dU ⟨.bl (!c),H1,I1,rfl,q1⟩)
def tIf(t:TT)(ta tb:TE):TE:=fun σ H Q=>t σ H fun c H1=>if c=true then ta σ H1 Q else tb σ H1 Q
theorem aEo{c:Expr}(hc:PT X c tA)(ha:PE X a ta)(hb:PE X b tb):PE X (.IfExp c a b pos) (tIf tA ta tb):=by
 intro aC s σ H Q I h;refine wpAny_IfExp (thn (hc aC s σ H _ I h) fun d s1 zq=>?_);obtain⟨H1,I1,q1⟩:=zq;cases d with
 |true=>exact ha aC s1 σ H1 Q I1 q1
 |false=>exact hb aC s1 σ H1 Q I1 q1
end
def SqL(K:aM)(H:Hp)(a:aA)(xs:List V):Prop :=
 Rd H a (.lst xs) ∨
  ∃(o:Obj) (its:Array aB) (n:Nat),K.lookup a=some o/\o.cls=.type "list"/\o.dict=none/\o.data=.seq its n/\its.size<=sizeLine/\Vals xs its.toList
def SqT(K:aM)(H:Hp)(a:aA)(xs:List V):Prop :=
 Rd H a (.tup xs) ∨
  ∃(o:Obj) (its:Array aB) (n:Nat),K.lookup a=some o/\o.cls=.type "tuple"/\o.data=.seq its n/\its.size<=sizeLine/\Vals xs its.toList
noncomputable def absV:aB->Option V
 | .none=>some .non
 | .bool b=>some (.bl b)
 | .int i _=>some (.int i)
 | .str x _=>some (.str x)
 | .bytes b _=>some (.byt b)
 | .float b _=>some (.flt b)
 | .ref a=>some (.ref a)
 | .type n=>some (.ty n)
 |_=>none
theorem RelV.abs{x:V}{u:aB}(r:RelV x u):absV u=some x:=by
 cases x with
 |non=>cases r;rfl
 |bl _=>cases r;rfl
 |int _=>obtain⟨t,rfl⟩:=r;rfl
 |str _=>obtain⟨t,rfl⟩:=r;rfl
 |byt _=>obtain⟨t,rfl⟩:=r;rfl
 |flt _=>obtain⟨t,rfl⟩:=r;rfl
 |ref _=>cases r;rfl
 |ty _=>cases r;rfl
theorem RelV.inj{x y:V}{u:aB}(r:RelV x u)(q:RelV y u):x=y:=Option.some.inj (r.abs.symm.trans q.abs)
theorem Vals.inj:∀{xs ys:List V} {us:List aB},Vals xs us->Vals ys us->xs=ys
 |_,_,_,.nil,.nil=>rfl
 |_,_,_,.cons r t,.cons r' t'=>by rw[r.inj r',Vals.inj t t']
section
variable{X:Cx}{aC:List (aA×Obj)}{σ : St}{H:Hp}{s:aE}{a:aA}{xs ys:List V}
theorem SqL.of{K:aM}(h:H a=some (.lst xs)):SqL K H a xs:=.inl (.inl h)
theorem Inv.list(I:Inv X aC σ H s)(h:SqL X.K H a xs):∃its:List aB,Vals xs its/\PlainL s.heap a its.toArray/\xs.length<=sizeLine:=by
 rcases h with h | ⟨o,its,n,hk,hc,hd,hs,hz,r⟩
 . obtain⟨z, its, n, r, e⟩ := h.ok I.hok;exact⟨its,r,⟨_,n,e,rfl,rfl,rfl⟩,z⟩
 . refine⟨its.toList, r, ⟨o, n, I.kIn a o hk, hc, hd, by simpa using hs⟩, ?_⟩;have e:=r.length;simp only[eW] at e;omega
theorem Inv.tuple(I:Inv X aC σ H s)(h:SqT X.K H a xs):∃its:List aB,Vals xs its/\IsTup s.heap a its.toArray/\xs.length<=sizeLine:=by
 rcases h with h | ⟨o,its,n,hk,hc,hs,hz,r⟩
 . obtain⟨z, its, r, p⟩ := h.ok I.hok;exact⟨its,r,p,z⟩
 . refine⟨its.toList, r, ⟨o, I.kIn a o hk, hc, n, by simpa using hs⟩, ?_⟩;have e:=r.length;simp only[eW] at e;omega
theorem Inv.list_inj(I:Inv X aC σ H s)(h:SqL X.K H a xs)(h':SqL X.K H a ys):xs=ys:=by
 obtain⟨its,r,⟨o,n,e,_,_,d⟩,_⟩:=I.list h;obtain⟨its',r',⟨o',n',e',_,_,d'⟩,_⟩:=I.list h';rw[e] at e';cases e';rw[d] at d';injection d' with d1 _
 have:its=its':=by simpa using congrArg Array.toList d1
 subst this;exact r.inj r'
theorem Inv.tuple_inj(I:Inv X aC σ H s)(h:SqT X.K H a xs)(h':SqT X.K H a ys):xs=ys:=by
 obtain⟨its,r,⟨o,e,_,n,d⟩,_⟩:=I.tuple h;obtain⟨its',r',⟨o',e',_,n',d'⟩,_⟩:=I.tuple h';rw[e] at e';cases e';rw[d] at d';injection d' with d1 _
 have:its=its':=by simpa using congrArg Array.toList d1
 subst this;exact r.inj r'
end
noncomputable abbrev Cx.wish(X:Cx)(E:aB->aE->Prop):Cx:={ X with xe:=E }
noncomputable abbrev Cx.nox(X:Cx):Cx:=X.wish fun _ _=>False
theorem Cx.Ok.wish{X:Cx}(ok:X.Ok)(E:aB->aE->Prop):(X.wish E).Ok :=
 ⟨ok.mod,ok.kind,ok.glob,ok.blt,ok.above,ok.inj,ok.has,ok.cab,ok.hd,ok.frames,ok.stk,ok.exf,ok.bs,ok.bsz,ok.noex,ok.exfs,ok.funs,ok.frf⟩
theorem Cx.Ok.unwish{X:Cx}{E:aB->aE->Prop}(ok:(X.wish E).Ok):X.Ok :=
 ⟨ok.mod,ok.kind,ok.glob,ok.blt,ok.above,ok.inj,ok.has,ok.cab,ok.hd,ok.frames,ok.stk,ok.exf,ok.bs,ok.bsz,ok.noex,ok.exfs,ok.funs,ok.frf⟩
section
variable{X:Cx}{aC:List (aA×Obj)}{σ : St}{H:Hp}{s:aE}{E:aB->aE->Prop}
theorem Inv.wish(I:Inv X aC σ H s)(E:aB->aE->Prop):Inv (X.wish E) aC σ H s:=⟨I.ok.wish E,I.os,I.bare,I.base,I.loc,I.cell,I.free,I.freeC,I.pin,I.hok,I.len⟩
theorem Inv.unwish(I:Inv (X.wish E) aC σ H s):Inv X aC σ H s:=⟨I.ok.unwish,I.os,I.bare,I.base,I.loc,I.cell,I.free,I.freeC,I.pin,I.hok,I.len⟩
theorem SP.unwish{D:Ends}{f:Flow}{s':aE}(h:SP (X.wish E) aC D f s'):SP X aC D f s':=by
 cases f with
 |next=>obtain⟨σ',H',I,q⟩:=h;exact⟨σ',H',I.unwish,q⟩
 |brk=>obtain⟨σ',H',I,q⟩:=h;exact⟨σ',H',I.unwish,q⟩
 |cont=>obtain⟨σ',H',I,q⟩:=h;exact⟨σ',H',I.unwish,q⟩
 |ret u=>obtain⟨v,σ',H',I,r,q⟩:=h;exact⟨v,σ',H',I.unwish,r,q⟩
theorem PSs.nox{st:List Stmt}{t:TS}(h:PSs X.nox st t):PSs X st t:=fun aC s σ H D I hw =>
 gB (h aC s σ H D (I.wish _) hw) (fun _ _ q=>q.unwish) fun _ _ z=>False.elim z
end
section
variable{X:Cx}{st:Stmt}{rest:List Stmt}{t u:TS}{e:Expr}{te:TE}{pos:Pos}
def tNext:TS:=fun D σ H=>D.nx σ H
def tSeq(t u:TS):TS:=fun D σ H=>t { D with nx:=u D } σ H
theorem pss_nil:PSs X [] tNext:=fun _ _ σ H _ I h=>OW ⟨σ,H,I,h⟩
theorem QN(h1:PS X st t)(h2:PSs X rest u):PSs X (st::rest) (tSeq t u):=by
 intro aC s σ H D I h;refine wpAny_execs_cons (thn (h1 aC s σ H { D with nx:=u D } I h) fun f s1 q=>?_);cases f with
 | next =>
   obtain⟨σ',H',I',q⟩:=q;exact h2 aC s1 σ' H' D I' q
 |ret v=>exact q
 |brk=>exact q
 |cont=>exact q
theorem WH(h1:PS X st t):PSs X [st] t:=by
 intro aC s σ H D I h;refine wpAny_execs_cons (thn (h1 aC s σ H D I h) fun f s1 q=>?_);cases f with
 |next=>exact OW q
 |ret v=>exact q
 |brk=>exact q
 |cont=>exact q
def tCont:TS:=fun D σ H=>D.ct σ H
theorem QO:PS X (.Continue pos) tCont:=fun _ _ σ H _ I h=>wpAny_Continue ⟨σ,H,I,h⟩
theorem Inv.quiet{aC:List (aA×Obj)}{σ : St}{H:Hp}{s:aE}(I:Inv X aC σ H s):interactive X.env=false:=by simp[interactive,I.ok.kind]
def tDrop(te:TE):TS:=fun D σ H=>te σ H fun _ H1=>D.nx σ H1
theorem xY(he:PE X e te)(hs:dI e none pos.line X.env=pure false:=by rfl):PS X (.Expr e pos) (tDrop te):=by
 intro aC s σ H D I h;exact wpAny_Expr_any (thn (he aC s σ H _ I h) fun v s1 ⟨x,H1,I1,r1,q1⟩=>⟨σ,H1,I1,q1⟩) I.quiet hs
def tRet(te:TE):TS:=fun D σ H=>te σ H D.rt
theorem BP(he:PE X e te):PS X (.Return (some e) pos) (tRet te):=by
 intro aC s σ H D I h;exact wpAny_Return_some (thn (he aC s σ H _ I h) fun v s1 ⟨x,H1,I1,r1,q1⟩=>⟨x,σ,H1,I1,r1,q1⟩)
def tIfS(c:TT)(t u:TS):TS:=fun D σ H=>c σ H fun b H1=>if b=true then t D σ H1 else u D σ H1
theorem ps_if{c:Expr}{a b:List Stmt}{tc:TT}(hc:PT X c tc)(ha:PSs X a t)(hb:PSs X b u):PS X (.If c a b pos) (tIfS tc t u):=by
 intro aC s σ H D I h;refine wpAny_If (thn (hc aC s σ H _ I h) fun d s1 zq=>?_);obtain⟨H1,I1,q1⟩:=zq;cases d with
 |true=>exact ha aC s1 σ H1 D I1 q1
 |false=>exact hb aC s1 σ H1 D I1 q1
def tNever:TS:=fun _ _ _=>False
theorem aEh:PS X st tNever:=fun _ _ _ _ _ _ h=>h.elim
end
abbrev TG:=V->St->Hp->(St->Hp->Prop)->Prop
abbrev TGs:=List V->St->Hp->(St->Hp->Prop)->Prop
def PG(X:Cx)(target:Expr)(t:TG):Prop :=
 ∀(aC:List (aA×Obj)) (s:aE) (σ : St) (H:Hp) (v:V) (u:aB) (Q:St->Hp->Prop),Inv X aC σ H s->RelV v u->t v σ H Q →
  bL (bM X.prog X.w) X.A (pK target X.env u) (fun _ s'=>∃σ' H',Inv X aC σ' H' s'/\Q σ' H') X.xe s
def PGs(X:Cx)(ts:List Expr)(t:TGs):Prop :=
 ∀(aC:List (aA×Obj)) (s:aE) (σ : St) (H:Hp) (vs:List V) (us:List aB) (Q:St->Hp->Prop),Inv X aC σ H s->Vals vs us->t vs σ H Q →
  bL (bM X.prog X.w) X.A (assignInOrder ((dM ts X.env).map (·.2)) us) (fun _ s'=>∃σ' H',Inv X aC σ' H' s'/\Q σ' H') X.xe s
abbrev TSet:=V->V->V->Hp->(Hp->Prop)->Prop
def PSet(X:Cx)(t:TSet):Prop :=
 ∀(aC:List (aA×Obj)) (s:aE) (σ : St) (H:Hp) (o i v:V) (ov iv u:aB) (Q:Hp->Prop),Inv X aC σ H s->RelV o ov->RelV i iv->RelV v u->t o i v H Q →
  bL (bM X.prog X.w) X.A (setItem ov iv u) (fun _ s'=>∃H',Inv X aC σ H' s'/\Q H') X.xe s
abbrev TIp:=V->V->Hp->VK->Prop
def PIp(X:Cx)(op:Operator)(t:TIp):Prop :=
 ∀(aC:List (aA×Obj)) (s:aE) (σ : St) (H:Hp) (x y:V) (v u:aB) (Q:VK),Inv X aC σ H s->RelV x v->RelV y u->t x y H Q →
  bL (bM X.prog X.w) X.A (inplaceOp op v u) (EP X aC σ Q) X.xe s
section
variable{X:Cx}{pos:Pos}
def gName(i:Nat):TG:=fun v σ H Q=>Q (σ.set i (some v)) H
theorem pg_name{i:Nat}{x:Str}(hN:X.N.Nodup)(hi:X.N[i]?=some x)(hx:Loc X.env.scope x)(hf:X.fn x=true\/X.env.scope.names.lookup x=some .local:=by first | exact .inl rfl | exact .inr rfl | assumption):PG X (.Name x pos) (gName i):=by
 intro aC s σ H v u Q I r h;exact wpAny_assign_Name (FZ I hN hi hx r (fun s' I'=>⟨_,H,I',h⟩) hf)
def gNil:TGs:=fun vs σ H Q=>vs=[]/\Q σ H
def gCons(t:TG)(u:TGs):TGs:=fun vs σ H Q=>∃v r,vs=v::r/\t v σ H fun σ' H'=>u r σ' H' Q
theorem pgs_nil:PGs X [] gNil:=by
 intro aC s σ H vs us Q I r h;obtain⟨e,h⟩:=h;subst e;cases r;exact assignInOrder_nil ⟨σ,H,I,h⟩
theorem aEl{e:Expr}{es:List Expr}{t:TG}{u:TGs}(h1:PG X e t)(h2:PGs X es u)(hs:(dM (e::es) X.env).map (·.2)=pK e X.env::(dM es X.env).map (·.2):=by rfl):PGs X (e::es) (gCons t u):=by
 intro aC s σ H vs us Q I r h;obtain⟨v,vr,e1,h⟩:=h;subst e1;cases r with
 | cons r rr =>
   rw[hs];refine assignInOrder_cons (thn (h1 aC s σ H _ _ _ I r h) fun _ s1 zq=>?_);obtain⟨σ1,H1,I1,q1⟩:=zq;exact h2 aC s1 σ1 H1 _ _ Q I1 rr q1
def gTup(K:aM)(n:Nat)(t:TGs):TG:=fun v σ H Q=>∃a xs,v=.ref a/\SqT K H a xs/\xs.length=n/\t xs σ H Q
theorem pg_tup{es:List Expr}{k:Nat}{t:TGs}{n:Nat}(hc:X.calm=true)(h:PGs X es t)(hn:(dM es X.env).length=n:=by rfl)(hst:(dM es X.env).findIdx? (·.1)=none:=by rfl):PG X (.Tuple es k pos) (gTup X.K n t):=by
 intro aC s σ H v u Q I r hw;obtain⟨a,xs,e1,hq,hl,hw⟩:=hw;subst e1;cases r;obtain⟨its,rv,ht,hz⟩:=I.tuple hq;refine assign_Tuple_tuple (I.ok.hd hc) ht (by simp[hn,<- hl,rv.length]) hst fun h' hx=>?_;have I1:Inv X aC σ H { s with heap:=h' }:=I.kept (t':=s.toks) fun b o e=>hx b o (bO (bF e)) e;exact h aC _ σ H xs _ Q I1 (by simpa using rv) hw
def gSub(to ti:TE)(t:TSet):TG:=fun v σ H Q=>to σ H fun o H1=>ti σ H1 fun i H2=>t o i v H2 fun H3=>Q σ H3
theorem pg_sub{o i:Expr}{to ti:TE}{t:TSet}(ho:PE X o to)(hi:PE X i ti)(hs:PSet X t)(ha:∀v,pK (.Subscript o i pos) X.env v=(do
    let ov <- gD [v] (bY o X.env)
    let iv <- gD [v,ov] (bY i X.env)
    kJ pos
    gD [v,ov,iv] (setItem ov iv v)
    release [v,ov,iv] []):=by intro _;rfl):PG X (.Subscript o i pos) (gSub to ti t):=by
 intro aC s σ H v u Q I r h;rw[ha];refine bC (fP (thn (ho aC s σ H _ I h) fun ov s1 zq=>?_));obtain⟨x,H1,I1,r1,q1⟩:=zq;refine bC (fP (thn (hi aC s1 σ H1 _ I1 q1) fun iv s2 zq=>?_));obtain⟨y,H2,I2,r2,q2⟩:=zq;refine bC (DQ (bC (fP (thn (hs aC s2 σ H2 x y v ov iv u _ I2 r1 r2 r q2) fun _ s3 zq=>?_))));obtain⟨H3,I3,q3⟩:=zq;exact wpAny_release ⟨σ,H3,I3,q3⟩
def tAsg(te:TE)(g:TG):TS:=fun D σ H=>te σ H fun x H1=>g x σ H1 D.nx
theorem aEk{tg e:Expr}{te:TE}{g:TG}(he:PE X e te)(hg:PG X tg g)(hs:VC [tg] e pos.line X.env=pure false:=by rfl)(hw:VD [tg] e X.env=pure none:=by rfl)(h1:(dM [tg] X.env).map (·.2)=[pK tg X.env]:=by rfl):PS X (.Assign [tg] e pos) (tAsg te g):=by
 intro aC s σ H D I h;refine wpAny_Assign_stores (thn (he aC s σ H _ I h) fun v s1 zq=>?_) hs hw;obtain⟨x,H1,I1,r1,q1⟩:=zq;rw[h1];exact thn (hg aC s1 σ H1 x v _ I1 r1 q1) fun _ s2 q=>q
theorem TV{i:Nat}{x:Str}{e:Expr}{te:TE}{pos':Pos}(hN:X.N.Nodup)(hi:X.N[i]?=some x)(hx:Loc X.env.scope x)(he:PE X e te)(hs:dI e (some (.Name x pos')) pos.line X.env=pure false:=by rfl)(hf:X.fn x=true\/X.env.scope.names.lookup x=some .local:=by first | exact .inl rfl | exact .inr rfl | assumption) :
  PS X (.Assign [.Name x pos'] e pos) (tAsg te (gName i)):=by
 intro aC s σ H D I h;refine wpAny_Assign_Name (thn (he aC s σ H _ I h) fun v s1 zq=>?_) hs;obtain⟨y,H1,I1,r1,q1⟩:=zq;exact FZ I1 hN hi hx r1 (fun s2 I2=>⟨_,H1,I2,q1⟩) hf
def tAug(i:Nat)(te:TE)(ti:TIp):TS:=fun D σ H=>∃x,σ[i]?=some (some x)/\te σ H fun y H1=>ti x y H1 fun z H2=>D.nx (σ.set i (some z)) H2
theorem aEj{i:Nat}{x:Str}{e:Expr}{te:TE}{op:Operator}{ti:TIp}{pos':Pos}(hN:X.N.Nodup)(hi:X.N[i]?=some x)(hx:Loc X.env.scope x)(he:PE X e te)(ho:PIp X op ti)(hf:X.fn x=true\/X.env.scope.names.lookup x=some .local:=by first | exact .inl rfl | exact .inr rfl | assumption) :
  PS X (.AugAssign (.Name x pos') op e pos) (tAug i te ti):=by
 intro aC s σ H D I h;obtain⟨v,e1,h⟩:=h;obtain⟨m,hn,hl⟩:=I.loc;have vis:Vis X.env.scope x:=by rcases hx with k | k;exact .inl k;exact .inr (.inl k)
 obtain⟨u,r,l⟩:=hl i x v hi e1 vis;refine wpAny_AugAssign_Name ?_
 have go:bL (bM X.prog X.w) X.A (bY e X.env) (fun w s₂=>bL (bM X.prog X.w) X.A (inplaceOp op u w) (fun r s₃=>bL (bM X.prog X.w) X.A (storeName X.env x r) (fun _=>SP X aC D .next) X.xe s₃) X.xe s₂) X.xe s:=by
  refine thn (he aC s σ H _ I h) fun w s1 zq=>?_;obtain⟨y,H1,I1,r1,q1⟩:=zq;refine thn (ho aC s1 σ H1 v y u w _ I1 r r1 q1) fun z s2 zq=>?_;obtain⟨zv,H2,I2,r2,q2⟩:=zq;exact FZ I2 hN hi hx r2 (fun s3 I3=>⟨_,H2,I3,q2⟩) hf
 rcases l with⟨hk,hm⟩ | ⟨hk,c,hc,hcell⟩
 . exact wpAny_loadName_local I.ok.kind hk hn hm go
 . rcases hk with hk | hk
   . exact wpAny_loadName_cell I.ok.kind hk hc hcell go
   . rcases hx with k | k
     . have : X.env.scope.names.lookup x=some .free := hk;rw[k] at this;cases this
     . have : X.env.scope.names.lookup x=some .free := hk;rw[k] at this;cases this
def ipI(f:Int->Int->Int):TIp:=fun x y H Q=>∃i j,x=.int i/\y=.int j/\Q (.int (f i j)) H
theorem ip_add:PIp X .Add (ipI fun i j=>i+j):=by
 intro aC s σ H x y v u Q I r1 r2 h;obtain⟨i,j,e1,e2,q⟩:=h;subst e1;subst e2;obtain⟨t,rfl⟩:=r1;obtain⟨t',rfl⟩:=r2;exact iadd_int ⟨.int _,H,I.tok _,⟨_,rfl⟩,q⟩
theorem ip_sub:PIp X .Sub (ipI fun i j=>i-j):=by
 intro aC s σ H x y v u Q I r1 r2 h;obtain⟨i,j,e1,e2,q⟩:=h;subst e1;subst e2;obtain⟨t,rfl⟩:=r1;obtain⟨t',rfl⟩:=r2;exact isub_int ⟨.int _,H,I.tok _,⟨_,rfl⟩,q⟩
end
section
variable{X:Cx}{pos:Pos}
end
structure It where
 go:Nat->Hp->Prop
 yld:Nat->Hp->V->Hp->Prop
 stop:Nat->Hp->Prop
def FpOk(X:Cx)(aC:List (aA×Obj))(H:Hp)(b:aA):Prop :=
 H b=none/\b≠X.env.locals/\b∉X.fs/\(b∈X.ex\/X.s₀.heap.objs.size<=b)/\(∀x c,X.env.cells.lookup x=some c->c≠b)/\∀p∈X.pn++aC,p.1≠b
theorem Inv.fpOk{X:Cx}{aC:List (aA×Obj)}{σ : St}{H H':Hp}{s:aE}{b:aA}(I:Inv X aC σ H s)(hb:s.heap.objs.size<=b)(hn:H' b=none):FpOk X aC H' b:=by
 refine⟨hn,CW (bQ I.lt hb),I.nofs hb,.inr (cL I.sz hb),fun x c e z=>?_,fun p hp z=>?_⟩
 . obtain⟨v, q⟩ := I.cell x c e;exact absurd (bQ q.lt (by rw[z];exact hb)) (dR _)
 . exact absurd (bQ (bF (I.pin p hp).1) (by rw[z];exact hb)) (dR _)
structure Turn(P:bG)(w:bU)(K:aM)(tg:Expr)(J:It)(fp:List aA)(it:aA)(tn:Nat->Heap->Prop)(cm:Cx->Prop:=fun X=>X.calm=true):Prop where
 mem:it∈fp
 obj:∀i h,tn i h->∀b∈fp,∃o,h.get? b=some o/\∀v,o.data≠.cell v
 keep:∀i h h',tn i h->(∀b∈fp,∀o,h.get? b=some o->h'.get? b=some o)->tn i h'
 item:∀(X:Cx),X.prog=P->X.w=w->X.K=K->cm X->∀(i:Nat) (aC:List (aA×Obj)) (s:aE) (σ : St) (H:Hp) (E:aB->aE->Prop),Inv X aC σ H s->(∀b∈fp,FpOk X aC H b)->tn i s.heap->J.go i H →
  bL (bM P w) X.A (pyNext (.ref it)) (fun r s1=>∃u,r=some u ∧
   bL (bM P w) X.A (tZ tg (.ref it) u) (fun _ s2=>∃x H',Inv X aC σ H' s2/\RelV x u/\J.yld i H x H'/\tn (i+1) s2.heap/\∀b∈fp,H' b=none) E s1) E s
 done:∀(X:Cx),X.prog=P->X.w=w->X.K=K->cm X->∀(i:Nat) (aC:List (aA×Obj)) (s:aE) (σ : St) (H:Hp) (E:aB->aE->Prop),Inv X aC σ H s->(∀b∈fp,FpOk X aC H b)->tn i s.heap->J.stop i H →
  bL (bM P w) X.A (pyNext (.ref it)) (fun r s1=>r=none/\Inv X aC σ H s1) E s
 self:∀(A:bZ) (i:Nat) (s:aE) (Q:aB->aE->Prop) (E:aB->aE->Prop),tn i s.heap->Q (.ref it) s->bL (bM P w) A (pyIter (.ref it)) Q E s
abbrev TI:=St->Hp->(It->Hp->Prop)->Prop
def PIE(X:Cx)(aC:List (aA×Obj))(σ : St)(tg:Expr)(R:It->Hp->Prop)(cm:Cx->Prop:=fun X=>X.calm=true)(itv:aB)(s2:aE):Prop :=
 ∃(it:aA) (fp:List aA) (tn:Nat->Heap->Prop) (J:It) (H':Hp),itv=.ref it/\Inv X aC σ H' s2/\Turn X.prog X.w X.K tg J fp it tn cm/\tn 0 s2.heap/\(∀b∈fp,FpOk X aC H' b)/\R J H'
def PI(X:Cx)(tg iter:Expr)(wi:TI)(cm:Cx->Prop:=fun X=>X.calm=true):Prop :=
 ∀(aC:List (aA×Obj)) (s:aE) (σ : St) (H:Hp) (R:It->Hp->Prop),Inv X aC σ H s->wi σ H R →
  bL (bM X.prog X.w) X.A (bY iter X.env) (fun v s1=>bL (bM X.prog X.w) X.A (pyIter v) (PIE X aC σ tg R cm) X.xe s1) X.xe s
theorem RQ{M:Model}{A:bZ}{E:aB->aE->Prop}{s:aE}{tg:Expr}{it:aA}{u:aB}{o:Obj}{n:String}{vs:Array aB}{Q:Unit->aE->Prop}(ho:s.heap.get? it=some o)(hc:o.cls=.type n)(hd:o.data=.fields vs)(hn:["enumerate","zip","dict_itemiterator","dict_reverseitemiterator","odict_iterator","itertools.zip_longest","itertools.pairwise"].contains n=false)(hQ:Q () s):bL M A (tZ tg (.ref it) u) Q E s:=by
 unfold tZ
 cases tg<;>first
  |exact cA hQ
  |(cases u<;>first
      |exact cA hQ
      | (refine bC (wpAny_load ho ?_)
         rw[hc,hd];show bL M A (if (["enumerate","zip","dict_itemiterator","dict_reverseitemiterator","odict_iterator","itertools.zip_longest","itertools.pairwise"].contains n&&vs[0]?==some (rawInt _))=true then _ else _) Q E s;rw[if_neg (by intro h;rw[hn,Bool.false_and] at h;cases h)]
         exact cA hQ))
noncomputable def Itl(K:aM)(a:aA):It :=
 ⟨fun i H=>∃xs x,SqL K H a xs/\xs[i]?=some x,fun i H x H'=>H'=H/\∀xs,SqL K H a xs->xs[i]?=some x,fun i H=>∃xs,SqL K H a xs/\xs.length<=i⟩
noncomputable def Itt(K:aM)(a:aA):It :=
 ⟨fun i H=>∃xs x,SqT K H a xs/\xs[i]?=some x,fun i H x H'=>H'=H/\∀xs,SqT K H a xs->xs[i]?=some x,fun i H=>∃xs,SqT K H a xs/\xs.length<=i⟩
noncomputable def Itr(lo:Int)(n:Nat):It:=⟨fun i _=>i<n,fun i H x H'=>H'=H/\x=.int (lo+i),fun i _=>n<=i⟩
theorem YV{P:bG}{w:bU}{K:aM}{tg:Expr}(a it:aA):Turn P w K tg (Itl K a) [it] it (fun i h=>h.IsListIter it a i) where
 mem:=by simp
 obj:=fun i h st b hb=>by
  have e:b=it:=by simpa using hb
  subst e;obtain⟨o,e,c,d⟩:=st;exact⟨o,e,fun v z=>by rw[d] at z;cases z⟩
 keep:=fun i h h' st k=>st.at fun o e=>k it (by simp) o e
 item:=by
  intro X hP hw hK hc i aC s σ H E I hf st hg;subst hP hw hK;obtain⟨xs,x,hq,hx⟩:=hg;obtain⟨its,rv,p,hz⟩:=I.list hq;obtain⟨u,hu,ru⟩:=rv.get hx;obtain⟨f0,f1,f2,f3,f4,f5⟩:=hf it (by simp);refine wpAny_pyNext_list_item st p.isList (x:=u) (by simpa using hu) fun h' st' sb=>?_;have I1:Inv X aC σ H { s with heap:=h' }:=I.turned (t':=s.toks) (fun b o hb e=>(sb.2 b hb).trans e) f0 f1 f3 f4 f5;obtain⟨o,e,c,d⟩:=id st';exact⟨u,rfl,RQ (s:={ s with heap:=h' }) e c d (by decide) ⟨x,H,I1,ru,⟨rfl,fun ys hy=>by rw[I.list_inj hy hq];exact hx⟩,st',fun b hb=>(hf b hb).1⟩⟩
 done:=by
  intro X hP hw hK hc i aC s σ H E I hf st hg;subst hP hw hK;obtain⟨xs,hq,hx⟩:=hg;obtain⟨its,rv,p,hz⟩:=I.list hq;obtain⟨f0,f1,f2,f3,f4,f5⟩:=hf it (by simp);have hl:=rv.length;exact wpAny_pyNext_list_end (I.ok.hd hc) st p.isList (by simp;omega) fun h' eb=>⟨rfl,I.turned (t':=s.toks) (fun b o hb e=>eb b o hb e) f0 f1 f3 f4 f5⟩
 self:=fun _ _ _ _ _ st h=>wpAny_pyIter_listiter st h
theorem TB{P:bG}{w:bU}{K:aM}{tg:Expr}(a it:aA):Turn P w K tg (Itt K a) [it] it (fun i h=>h.IsTupleIter it a i) where
 mem:=by simp
 obj:=fun i h st b hb=>by
  have e:b=it:=by simpa using hb
  subst e;obtain⟨o,e,c,d⟩:=st;exact⟨o,e,fun v z=>by rw[d] at z;cases z⟩
 keep:=fun i h h' st k=>st.at fun o e=>k it (by simp) o e
 item:=by
  intro X hP hw hK hc i aC s σ H E I hf st hg;subst hP hw hK;obtain⟨xs,x,hq,hx⟩:=hg;obtain⟨its,rv,p,hz⟩:=I.tuple hq;obtain⟨u,hu,ru⟩:=rv.get hx;obtain⟨f0,f1,f2,f3,f4,f5⟩:=hf it (by simp);refine wpAny_pyNext_tuple_item st (show s.heap.IsTuple a its.toArray from p) (x:=u) (by simpa using hu) fun h' st' sb=>?_;have I1:Inv X aC σ H { s with heap:=h' }:=I.turned (t':=s.toks) (fun b o hb e=>(sb.2 b hb).trans e) f0 f1 f3 f4 f5;obtain⟨o,e,c,d⟩:=id st';exact⟨u,rfl,RQ (s:={ s with heap:=h' }) e c d (by decide) ⟨x,H,I1,ru,⟨rfl,fun ys hy=>by rw[I.tuple_inj hy hq];exact hx⟩,st',fun b hb=>(hf b hb).1⟩⟩
 done:=by
  intro X hP hw hK hc i aC s σ H E I hf st hg;subst hP hw hK;obtain⟨xs,hq,hx⟩:=hg;obtain⟨its,rv,p,hz⟩:=I.tuple hq;obtain⟨f0,f1,f2,f3,f4,f5⟩:=hf it (by simp);have hl:=rv.length;exact wpAny_pyNext_tuple_end (I.ok.hd hc) st (show s.heap.IsTuple a its.toArray from p) (by simp;omega) fun h' eb=>⟨rfl,I.turned (t':=s.toks) (fun b o hb e=>eb b o hb e) f0 f1 f3 f4 f5⟩
 self:=fun _ _ _ _ _ st h=>wpAny_pyIter_tupleiter st h
theorem TC{P:bG}{w:bU}{K:aM}{tg:Expr}(it:aA)(lo:Int)(n:Nat):Turn P w K tg (Itr lo n) [it] it (fun i h=>IsRangeIter h it (lo+(i:Nat)*1) ((n:Int)-(i:Nat)) 1) where
 mem:=by simp
 obj:=fun i h st b hb=>by
  have e:b=it:=by simpa using hb
  subst e
  exact⟨_,st,fun v z=>by
   have z':Data.fields _=Data.cell v:=z
   cases z'⟩
 keep:=fun i h h' st k=>k it (by simp) _ st
 item:=by
  intro X hP hw hK hc i aC s σ H E I hf st hg;subst hP hw hK;obtain⟨f0,f1,f2,f3,f4,f5⟩:=hf it (by simp);have W:=Walks.range (prog:=X.prog) (w:=X.w) (I.ok.hd hc) it lo 1 n;refine W.item i s _ _ hg st fun v h' tk hv st' kk=>?_;obtain⟨t,rfl⟩:=hv;have I1:Inv X aC σ H { s with heap:=h',toks:=tk }:=I.turned (fun b o hb e=>kk b o (by simpa using hb) e) f0 f1 f3 f4 f5;refine⟨_,rfl,RQ (s:={ s with heap:=h',toks:=tk }) (n:="range_iterator") st' rfl rfl (by decide) ⟨.int (lo+i),H,I1,⟨t,?_⟩,⟨rfl,rfl⟩,st',fun b hb=>(hf b hb).1⟩⟩;rw[Int.mul_one]
 done:=by
  intro X hP hw hK hc i aC s σ H E I hf st hg;subst hP hw hK;obtain⟨f0,f1,f2,f3,f4,f5⟩:=hf it (by simp);exact wpAny_pyNext_range_end (I.ok.hd hc) st (by have:n<=i:=hg;omega) fun h' eb=>⟨rfl,I.turned (t':=s.toks) (fun b o hb e=>eb b o hb e) f0 f1 f3 f4 f5⟩
 self:=fun _ _ _ _ _ st h=>wpAny_pyIter_rangeiter st h
section
variable{X:Cx}{tg:Expr}
def iList(K:aM)(tl:TE):TI:=fun σ H R=>tl σ H fun x H1=>∃a,x=.ref a/\(∃xs,SqL K H1 a xs)/\R (Itl K a) H1
def iTup(K:aM)(tl:TE):TI:=fun σ H R=>tl σ H fun x H1=>∃a,x=.ref a/\(∃xs,SqT K H1 a xs)/\R (Itt K a) H1
theorem pi_list{l:Expr}{tl:TE}(hl:PE X l tl):PI X tg l (iList X.K tl):=by
 intro aC s σ H R I h;refine thn (hl aC s σ H _ I h) fun v s1 zq=>?_;obtain⟨x,H1,I1,r1,q1⟩:=zq;obtain⟨a,e,⟨xs,hq⟩,q⟩:=q1;subst e;cases r1;obtain⟨its,rv,p,hz⟩:=I1.list hq;refine IQ p.isList ?_;refine⟨s1.heap.objs.size,[s1.heap.objs.size],_,_,H1,rfl,I1.kept (t':=s1.toks) fun b o e=>aQ _ e,YV a _,⟨_,bD _ rfl,rfl,rfl⟩,fun b hb=>?_,q⟩;have e:b=s1.heap.objs.size:=by simpa using hb
 subst e;exact I1.fpOk (aU _) (I1.hok.fresh (aU _))
theorem pi_tup{l:Expr}{tl:TE}(hl:PE X l tl):PI X tg l (iTup X.K tl):=by
 intro aC s σ H R I h;refine thn (hl aC s σ H _ I h) fun v s1 zq=>?_;obtain⟨x,H1,I1,r1,q1⟩:=zq;obtain⟨a,e,⟨xs,hq⟩,q⟩:=q1;subst e;cases r1;obtain⟨its,rv,p,hz⟩:=I1.tuple hq;refine wpAny_pyIter_tuple (show s1.heap.IsTuple a its.toArray from p) ?_;refine⟨s1.heap.objs.size,[s1.heap.objs.size],_,_,H1,rfl,I1.kept (t':=s1.toks) fun b o e=>aQ _ e,TB a _,⟨_,bD _ rfl,rfl,rfl⟩,fun b hb=>?_,q⟩;have e:b=s1.heap.objs.size:=by simpa using hb
 subst e;exact I1.fpOk (aU _) (I1.hok.fresh (aU _))
theorem aDk{aC:List (aA×Obj)}{σ : St}{H:Hp}{s:aE}{R:It->Hp->Prop}{E:aB->aE->Prop}{lo hi:Int}{t u v:Tok}{tk:Nat}(I:Inv X aC σ H s)(h1 : -(2 ^ 62)<=lo)(h2:lo<2 ^ 62)(h3 : -(2 ^ 62)<=hi)(h4:hi<2 ^ 62)(q:R (Itr lo (hi-lo).toNat) H):bL (bM X.prog X.w) X.A (pyIter (.ref s.heap.objs.size)) (PIE X aC σ tg R) E { s with heap:=s.heap.push { cls:=.type "range",data:=.fields #[.int lo t,.int hi u,.int 1 v] },toks:=tk }:=by
 refine wpAny_pyIter_range (IsRange.new ..) (small_one h1 h2 h3 h4) ?_;have I1:Inv X aC σ H { s with heap:=s.heap.push { cls:=.type "range",data:=.fields #[.int lo t,.int hi u,.int 1 v] },toks:=tk }:=I.kept fun b o e=>aQ _ e
 refine⟨(s.heap.push { cls:=.type "range",data:=.fields #[.int lo t,.int hi u,.int 1 v] }).objs.size,[(s.heap.push { cls:=.type "range",data:=.fields #[.int lo t,.int hi u,.int 1 v] }).objs.size],_,_,H,rfl,
  I1.kept (t':=tk) fun b o e=>aQ _ e,TC _ lo (hi-lo).toNat,?_,fun b hb=>?_,q⟩
 . have e1 : lo + ((0 : Nat) : Int) * 1 = lo := by simp
   have e2:(((hi-lo).toNat:Nat):Int)-((0:Nat):Int)=Builtin.Range.rangeSize lo hi 1:=by rw[rangeSize_one];split<;>omega
   show IsRangeIter _ _ (lo+((0:Nat):Int)*1) ((((hi-lo).toNat:Nat):Int)-((0:Nat):Int)) 1;rw[e1,e2];exact bD _ rfl
 . have e : b = (s.heap.push { cls := .type "range", data := .fields #[.int lo t, .int hi u, .int 1 v] }).objs.size := by simpa using hb
   subst e;exact I1.fpOk (aU _) (I1.hok.fresh (aU _))
def iRng1(ta:TA):TI:=fun σ H R=>ta σ H fun vs H1=>∃j:Int,vs=[.int j]/\-(2 ^ 62)<=j/\j<2 ^ 62/\R (Itr 0 j.toNat) H1
theorem ZK{a:Expr}{ta:TA}{p pos:Pos}(hg:Gl X "range")(hm:X.mg "range" = none)(ha:PA X [a] ta)(hs:aL [a] X.env=[(false,bY a X.env)]:=by rfl):PI X tg (.Call (.Name "range" p) [a] [] pos) (iRng1 ta):=by
 intro aC s σ H R I h;refine Call_ (uB I hg hm boot_range (eN (thn (ha pos aC s σ H _ I h) fun us s1 zq=>?_) hs rfl));obtain⟨vs,H1,I1,r1,q1⟩:=zq;obtain⟨j,e,q1,q2,q⟩:=q1;subst e;cases r1 with
 | cons r rr =>
   cases rr;obtain⟨t,rfl⟩:=r;exact call_range_1 (aDk I1 (by omega) (by omega) q1 q2 (by simpa using q))
def tFor(wi:TI)(g:TG)(tb:TS):TS:=fun D σ H=>wi σ H fun J H1=>∃W:Nat->Nat->St->Hp->Prop,(∃m,W 0 m σ H1)/\∀i m σ H,W i m σ H →
 (J.stop i H/\D.nx σ H)\/(J.go i H/\∃N:St->Hp->Prop,(∀σ' H',N σ' H'->∃m',m'<m/\W (i+1) m' σ' H')/\∀x H',J.yld i H x H'->g x σ H' fun σ2 H2=>tb { D with nx:=N,ct:=N,bk:=D.nx } σ2 H2)
noncomputable def GQ(fp:List aA)(h:Heap):List (aA×Obj):=fp.filterMap fun b=>(h.get? b).map fun o=>(b,o)
theorem wC{fp:List aA}{h:Heap}{b:aA}{o:Obj}(hb:b∈fp)(e:h.get? b=some o):(b,o)∈GQ fp h:=uM.mpr ⟨b,hb,by rw[e];rfl⟩
theorem ZS{fp:List aA}{h:Heap}{p:aA×Obj}(hp:p∈GQ fp h):p.1∈fp/\h.get? p.1=some p.2:=by
 obtain⟨b,hb,e⟩:=uM.mp hp;cases q:h.get? b with
 |none=>rw[q] at e;cases e
 | some o =>
   rw[q] at e;have e':(b,o)=p:=Option.some.inj e;subst e';exact⟨hb,q⟩
theorem Inv.pinned{aC:List (aA×Obj)}{σ : St}{H:Hp}{s:aE}{fp:List aA}(I:Inv X aC σ H s)(hf:∀b∈fp,FpOk X aC H b)(ho:∀b∈fp,∃o,s.heap.get? b=some o/\∀v,o.data≠.cell v):Inv X (aC++GQ fp s.heap) σ H s :=
 I.pins_of fun p hp=>(bJ.mp hp).elim (fun z=>I.pin p (aI _ z)) fun z=>by
  obtain⟨hb,e⟩:=ZS z;obtain⟨f0,f1,f2,_⟩:=hf p.1 hb;obtain⟨o,e',d⟩:=ho p.1 hb;rw[e] at e';cases e';exact⟨e,f0,f1,f2,d⟩
theorem Inv.unpinned{aC pl:List (aA×Obj)}{σ : St}{H:Hp}{s:aE}(I:Inv X (aC++pl) σ H s):Inv X aC σ H s:=I.pins_of fun p hp=>I.pin p (aI _ (aW _ hp))
theorem aEi{iter:Expr}{body:List Stmt}{wi:TI}{g:TG}{tb:TS}{pos:Pos}(hp:PassesOwn (bM X.prog X.w) X.A X.env X.xe)(hc:X.calm=true)(hi:PI X tg iter wi)(hg:PG X tg g)(hb:PSs X body tb)(hs:∀x,eJ iter X.env x=pure x:=by intro _;rfl):PS X (.For tg iter body [] pos) (tFor wi g tb):=by
 intro aC s σ H D I h;refine wpAny_For (thn (hi aC s σ H _ I h) fun v s1 h1=>thn h1 fun itv s2 h2=>?_) hs;obtain⟨it,fp,tn,J,H2,e,I2,T,st2,f2,W,⟨m0,w0⟩,turn⟩:=h2;subst e;have stat:∀{H':Hp},(∀b∈fp,H' b=none)->∀b∈fp,FpOk X aC H' b:=fun hn b hb=>⟨hn b hb,(f2 b hb).2⟩
 refine codeAny_forLoop_any (fun n s'=>∃i σ' H',Inv X aC σ' H' s'/\tn i s'.heap/\(∀b∈fp,H' b=none)/\W i n σ' H') ?_ m0 ⟨0,σ,H2,I2,st2,fun b hb=>(f2 b hb).1,w0⟩;rintro n s3 ⟨i,σ3,H3,I3,st3,fr3,w3⟩;rcases turn i n σ3 H3 w3 with⟨stop,qn⟩ | ⟨go,N,hN,step⟩
 . refine oN hp (thn (T.done X rfl rfl rfl hc i aC s3 σ3 H3 X.xe I3 (stat fr3) st3 stop) fun r s4 zq => ?_);obtain⟨hr,I4⟩:=zq;subst hr;exact OW ⟨σ3,H3,I4,qn⟩
 . refine oN hp (thn (T.item X rfl rfl rfl hc i aC s3 σ3 H3 X.xe I3 (stat fr3) st3 go) fun r s4 zq => ?_);obtain ⟨u,hr,h4⟩:=zq;subst hr;refine oN hp (thn h4 fun _ s5 zq=>?_);obtain ⟨x,H5,I5,r5,y5,st5,fr5⟩:=zq;have I5':=I5.pinned (stat fr5) (T.obj _ _ st5);refine oN hp (thn (hg _ s5 σ3 H5 x u _ I5' r5 (step x H5 y5)) fun _ s6 zq=>?_);obtain ⟨σ6,H6,I6,q6⟩:=zq;refine oN hp (thn (hb _ s6 σ6 H6 _ I6 q6) fun f s7 q7=>?_)
   have again:∀{σ7:St} {H7:Hp},Inv X (aC++GQ fp s5.heap) σ7 H7 s7->N σ7 H7->∃m,m<n/\∃i σ' H',Inv X aC σ' H' s7/\tn i s7.heap/\(∀b∈fp,H' b=none)/\W i m σ' H':=fun {σ7 H7} I7 n7=>by
    obtain⟨m',hm,w7⟩:=hN σ7 H7 n7;refine⟨m',hm,i+1,σ7,H7,I7.unpinned,T.keep _ _ _ st5 fun b hb o e=>(I7.pin (b,o) (aI _ (aI _ (wC hb e)))).1,fun b hb=>?_,w7⟩;obtain⟨o,e,d⟩:=T.obj _ _ st5 b hb;exact(I7.pin (b,o) (aI _ (aI _ (wC hb e)))).2.1
   cases f with
   |next=>obtain⟨σ7,H7,I7,n7⟩:=q7;exact again I7 n7
   |cont=>obtain⟨σ7,H7,I7,n7⟩:=q7;exact again I7 n7
   |brk=>obtain⟨σ7,H7,I7,q7⟩:=q7;exact⟨σ7,H7,I7.unpinned,q7⟩
   |ret v=>obtain⟨x7,σ7,H7,I7,r7,q7⟩:=q7;exact⟨x7,σ7,H7,I7.unpinned,r7,q7⟩
end
abbrev R2:=V->V->Hp->VK->Prop
def OpR(X:Cx)(f:aB->aB->Sem aB)(r:R2):Prop :=
 ∀(aC:List (aA×Obj)) (s:aE) (σ : St) (H:Hp) (x y:V) (v u:aB) (Q:VK),Inv X aC σ H s->RelV x v->RelV y u->r x y H Q →
  bL (bM X.prog X.w) X.A (f v u) (EP X aC σ Q) X.xe s
def UnR(X:Cx)(f:aB->Sem aB)(r:V->Hp->VK->Prop):Prop :=
 ∀(aC:List (aA×Obj)) (s:aE) (σ : St) (H:Hp) (x:V) (v:aB) (Q:VK),Inv X aC σ H s->RelV x v->r x H Q →
  bL (bM X.prog X.w) X.A (f v) (EP X aC σ Q) X.xe s
def CallR(X:Cx)(f:aB)(r:List V->Hp->VK->Prop):Prop :=
 ∀(aC:List (aA×Obj)) (s:aE) (σ : St) (H:Hp) (xs:List V) (us:List aB) (Q:VK),Inv X aC σ H s->Vals xs us->r xs H Q →
  bL (bM X.prog X.w) X.A (call f us) (EP X aC σ Q) X.xe s
def TruR(X:Cx)(r:V->Hp->(Bool->Hp->Prop)->Prop):Prop :=
 ∀(aC:List (aA×Obj)) (s:aE) (σ : St) (H:Hp) (x:V) (v:aB) (Q:Bool->Hp->Prop),Inv X aC σ H s->RelV x v->r x H Q →
  bL (bM X.prog X.w) X.A (truthy v) (TP X aC σ Q) X.xe s
def tOp(r:R2)(ta tb:TE):TE:=fun σ H Q=>ta σ H fun x H1=>tb σ H1 fun y H2=>r x y H2 Q
def tUn(r:V->Hp->VK->Prop)(ta:TE):TE:=fun σ H Q=>ta σ H fun x H1=>r x H1 Q
noncomputable def rI(C:Int->Int->Prop)(g:Int->Int->V):R2:=fun x y H Q=>∃i j,x=.int i/\y=.int j/\C i j/\Q (g i j) H
noncomputable def rI0(g:Int->Int->V):R2:=fun x y H Q=>∃i j,x=.int i/\y=.int j/\Q (g i j) H
def rU(g:Int->V):V->Hp->VK->Prop:=fun x H Q=>∃i,x=.int i/\Q (g i) H
section
variable{X:Cx}{a b c:Expr}{ta tb tc:TE}{pos:Pos}
theorem binT(ha:PE X a ta)(hb:PE X b tb){aC:List (aA×Obj)}{s:aE}{σ : St}{H:Hp}{R:V->V->Hp->Prop}(I:Inv X aC σ H s)(h:ta σ H fun x H1=>tb σ H1 fun y H2=>R x y H2){Q:aB->aE->Prop}{f:aB->aB->Sem aB}(hf:∀v u s2 x y H2,Inv X aC σ H2 s2->RelV x v->RelV y u->R x y H2->bL (bM X.prog X.w) X.A (f v u) Q X.xe s2) :
  bL (bM X.prog X.w) X.A (bY a X.env) (fun v s₁=>bL (bM X.prog X.w) X.A (bY b X.env) (fun u s₂=>bL (bM X.prog X.w) X.A (f v u) Q X.xe s₂) X.xe s₁) X.xe s:=by
 refine thn (ha aC s σ H _ I h) fun v s1 zq=>?_;obtain⟨x,H1,I1,r1,q1⟩:=zq;refine thn (hb aC s1 σ H1 _ I1 q1) fun u s2 zq=>?_;obtain⟨y,H2,I2,r2,q2⟩:=zq;exact hf v u s2 x y H2 I2 r1 r2 q2
theorem pe_op{op:Operator}{r:R2}(ho:OpR X (mK op) r)(ha:PE X a ta)(hb:PE X b tb):PE X (.BinOp a op b pos) (tOp r ta tb):=by
 intro aC s σ H Q I h;exact wpAny_BinOp (binT ha hb I h fun v u s2 x y H2 I2 rx ry q=>ho aC s2 σ H2 x y v u Q I2 rx ry q)
theorem pe_un{op:UnaryOp}{r:V->Hp->VK->Prop}(ho:UnR X (unaryOp op) r)(ha:PE X a ta):PE X (.UnaryOp op a pos) (tUn r ta):=by
 intro aC s σ H Q I h;exact UnaryOp_ (thn (ha aC s σ H _ I h) fun v s1 ⟨x,H1,I1,r1,q1⟩=>ho aC s1 σ H1 x v Q I1 r1 q1)
theorem opI{f:aB->aB->Sem aB}{C:Int->Int->Prop}{g:Int->Int->Int}(rule:∀(i j:Int) (t u:Tok) (s:aE) (Q:aB->aE->Prop) (E:aB->aE->Prop),C i j->Q (.int (g i j) s.toks) { s with toks:=s.toks+1 }->bL (bM X.prog X.w) X.A (f (.int i t) (.int j u)) Q E s) :
  OpR X f (rI C fun i j=>.int (g i j)):=by
 intro aC s σ H x y v u Q I rx ry h;obtain⟨i,j,rfl,rfl,hc,q⟩:=h;obtain⟨t,rfl⟩:=rx;obtain⟨t',rfl⟩:=ry;exact rule i j t t' s _ _ hc ⟨.int (g i j),H,I.tok _,⟨_,rfl⟩,q⟩
theorem opI0{f:aB->aB->Sem aB}{g:Int->Int->Int}(rule:∀(i j:Int) (t u:Tok) (s:aE) (Q:aB->aE->Prop) (E:aB->aE->Prop),Q (.int (g i j) s.toks) { s with toks:=s.toks+1 }->bL (bM X.prog X.w) X.A (f (.int i t) (.int j u)) Q E s) :
  OpR X f (rI0 fun i j=>.int (g i j)):=by
 intro aC s σ H x y v u Q I rx ry h;obtain⟨i,j,rfl,rfl,q⟩:=h;obtain⟨t,rfl⟩:=rx;obtain⟨t',rfl⟩:=ry;exact rule i j t t' s _ _ ⟨.int (g i j),H,I.tok _,⟨_,rfl⟩,q⟩
theorem opB0{f:aB->aB->Sem aB}{g:Int->Int->Bool}(rule:∀(i j:Int) (t u:Tok) (s:aE) (Q:aB->aE->Prop) (E:aB->aE->Prop),Q (.bool (g i j)) s->bL (bM X.prog X.w) X.A (f (.int i t) (.int j u)) Q E s) :
  OpR X f (rI0 fun i j=>.bl (g i j)):=by
 intro aC s σ H x y v u Q I rx ry h;obtain⟨i,j,rfl,rfl,q⟩:=h;obtain⟨t,rfl⟩:=rx;obtain⟨t',rfl⟩:=ry;exact rule i j t t' s _ _ ⟨.bl (g i j),H,I,rfl,q⟩
def CMul(i j:Int):Prop:=(-(2 ^ 64)<i/\i<2 ^ 64)\/(-(2 ^ 64)<j/\j<2 ^ 64)
theorem CMul.ok{i j:Int}(h:CMul i j):JA i j:=by
 rcases h with⟨h1,h2⟩ | ⟨h1,h2⟩
 . exact .of_left (intBits_le_64 h1 h2)
 . exact .of_right (intBits_le_64 h1 h2)
theorem op_add:OpR X (mK .Add) (rI0 fun i j=>.int (i+j)):=opI0 fun _ _ _ _ _ _ _ q=>add_int q
theorem op_sub:OpR X (mK .Sub) (rI0 fun i j=>.int (i-j)):=opI0 fun _ _ _ _ _ _ _ q=>sub_int q
theorem op_mod:OpR X (mK .Mod) (rI (fun _ j=>0<j) fun i j=>.int (i%j)):=opI fun i j _ _ _ _ _ hc q=>by
 have h1:(0:Int)<j:=hc;exact mod_int' (by omega) (by rw[Int.fmod_eq_emod_of_nonneg i (by omega)];exact q)
theorem unI{f:aB->Sem aB}{g:Int->Int}(rule:∀(i:Int) (t:Tok) (s:aE) (Q:aB->aE->Prop) (E:aB->aE->Prop),Q (.int (g i) s.toks) { s with toks:=s.toks+1 }->bL (bM X.prog X.w) X.A (f (.int i t)) Q E s) :
  UnR X f (rU fun i=>.int (g i)):=by
 intro aC s σ H x v Q I rx h;obtain⟨i,rfl,q⟩:=h;obtain⟨t,rfl⟩:=rx;exact rule i t s _ _ ⟨.int (g i),H,I.tok _,⟨_,rfl⟩,q⟩
theorem un_neg:UnR X (unaryOp .USub) (rU fun i=>.int (-i)):=unI fun _ _ _ _ _ q=>neg_int q
end
section
variable{X:Cx}{a b c:Expr}{ta tb tc:TE}{pos:Pos}
theorem UQ{aC:List (aA×Obj)}{σ : St}{H:Hp}{s:aE}{Q:VK}{k k':Bool}(I:Inv X aC σ H s)(q:Q (.bl k) H)(e:k=k'):EP X aC σ Q (.bool k') s:=by
 subst e;exact⟨.bl k,H,I,rfl,q⟩
theorem aEv:OpR X (dJ .Lt) (rI0 fun i j=>.bl (decide (i<j))):=opB0 fun _ _ _ _ _ _ _ q=>lt_int q
theorem aEw:OpR X (dJ .LtE) (rI0 fun i j=>.bl (decide (i<=j))):=opB0 fun _ _ _ _ _ _ _ q=>le_int q
theorem op_gt:OpR X (dJ .Gt) (rI0 fun i j=>.bl (decide (j<i))):=opB0 fun _ _ _ _ _ _ _ q=>gt_int q
theorem op_ge:OpR X (dJ .GtE) (rI0 fun i j=>.bl (decide (j<=i))):=opB0 fun _ _ _ _ _ _ _ q=>ge_int q
theorem ZO:OpR X (dJ .In) (fun x y H Q=>∃i j,x=.str i/\y=.str j/\Q (.bl (!(Builtin.Str.occurrences j i 0 j.length 1).isEmpty)) H):=by
 intro aC s σ H x y v u Q I rx ry h;obtain⟨i,j,rfl,rfl,q⟩:=h;obtain⟨t,rfl⟩:=rx;obtain⟨t',rfl⟩:=ry;exact in_str (UQ I q rfl)
theorem aEx:OpR X (dJ .Is) (fun x y H Q=>y=.non/\Q (.bl (decide (x=.non))) H):=by
 intro aC s σ H x y v u Q I rx ry h;obtain⟨rfl,q⟩:=h;cases ry;refine is_none_gen (UQ I q ?_)
 cases x<;>first
  |(cases rx;rfl)
  |(obtain⟨t,rfl⟩:=rx;rfl)
theorem WR:OpR X (dJ .IsNot) (fun x y H Q=>y=.non/\Q (.bl (!decide (x=.non))) H):=by
 intro aC s σ H x y v u Q I rx ry h;obtain⟨rfl,q⟩:=h;cases ry;refine isnot_none_gen (UQ I q ?_)
 cases x<;>first
  |(cases rx;rfl)
  |(obtain⟨t,rfl⟩:=rx;rfl)
theorem OpR.or{f:aB->aB->Sem aB}{r r':R2}(h:OpR X f r)(h':OpR X f r'):OpR X f (fun x y H Q=>r x y H Q\/r' x y H Q):=by
 intro aC s σ H x y v u Q I rx ry q;rcases q with q | q
 . exact h aC s σ H x y v u Q I rx ry q
 . exact h' aC s σ H x y v u Q I rx ry q
theorem nB(b:Expr){op:DS}(h:op≠.In:=by decide)(h2:op≠.NotIn:=by decide):dY op b=false:=by
 have e1:(op==DS.In)=false:=by cases op<;>first | rfl | exact absurd rfl h
 have e2:(op==DS.NotIn)=false:=by cases op<;>first | rfl | exact absurd rfl h2
 cases b<;>simp[dY,e1,e2]
theorem WO{op:DS}{r:R2}(ho:OpR X (dJ op) r)(ha:PE X a ta)(hb:PE X b tb)(hm:dY op b=false):PE X (.Compare a [op] [b] pos) (tOp r ta tb):=by
 intro aC s σ H Q I h;exact wpAny_Compare1 (binT ha hb I h fun v u s2 x y H2 I2 rx ry q=>ho aC s2 σ H2 x y v u Q I2 rx ry q) hm
def tTest(t:TE):TT:=fun σ H Q=>t σ H fun x H'=>∃k,x=.bl k/\Q k H'
theorem WE{op:DS}{r:R2}(ho:OpR X (dJ op) r)(ha:PE X a ta)(hb:PE X b tb)(hm:dY op b=false):PT X (.Compare a [op] [b] pos) (tTest (tOp r ta tb)):=by
 intro aC s σ H Q I h
 refine wpAny_isTrue_Compare1 (thn (ha aC s σ H _ I h) fun v s1 ⟨x,H1,I1,r1,q1⟩=>thn (hb aC s1 σ H1 _ I1 q1) fun u s2 ⟨y,H2,I2,r2,q2⟩ =>
  thn (ho aC s2 σ H2 x y v u _ I2 r1 r2 q2) fun c s3 ⟨z,H3,I3,r3,k,e,q3⟩=>?_) hm
 subst e;cases r3;exact dU ⟨H3,I3,q3⟩
def tChain(r r':R2)(ta tb tc:TE):TE:=fun σ H Q=>ta σ H fun x H1=>tb σ H1 fun y H2=>r x y H2 fun z H3=>∃k,z=.bl k ∧
 (if k=true then tc σ H3 fun w' H4=>r' y w' H4 Q else Q (.bl false) H3)
theorem aEd{op op':DS}{r r':R2}(ho:OpR X (dJ op) r)(ho':OpR X (dJ op') r')(ha:PE X a ta)(hb:PE X b tb)(hc:PE X c tc)(hm:lastMarks [op,op'] [b,c]=false:=by with_unfolding_all rfl):PT X (.Compare a [op,op'] [b,c] pos) (tTest (tChain r r' ta tb tc)):=by
 intro aC s σ H Q I h
 refine isTrue_chain (thn (ha aC s σ H _ I h) fun v s1 ⟨x,H1,I1,r1,q1⟩=>test_link (thn (hb aC s1 σ H1 _ I1 q1) fun u s2 ⟨y,H2,I2,r2,q2⟩ =>
  thn (ho aC s2 σ H2 x y v u _ I2 r1 r2 q2) fun d s3 ⟨z,H3,I3,r3,k,e,q3⟩=>?_)) hm
 subst e;cases r3;refine dU ?_;cases k with
 | false =>
   obtain⟨k',e',q'⟩:=q3;cases e';exact ite_ff ⟨H3,I3,q'⟩
 | true =>
   refine ite_tt (test_last (thn (hc aC s3 σ H3 _ I3 q3) fun w' s4 ⟨z',H4,I4,r4,q4⟩=>thn (ho' aC s4 σ H4 y z' u w' _ I4 r2 r4 q4) fun d' s5 zq=>?_));obtain⟨z2,H5,I5,r5,k2,e2,q5⟩:=zq;subst e2;cases r5;exact dU ⟨H5,I5,q5⟩
def TruV(K:aM)(x:V)(H:Hp)(k:Bool):Prop :=
 match x with
 | .non=>k=false
 | .bl b=>k=b
 | .int i=>k=(i != 0)
 | .str y=>y.length<=sizeLine/\k=((y.length:Int) != 0)
 | .byt y=>y.size<=sizeLine/\k=((y.size:Int) != 0)
 | .ref p=>(∃xs,SqL K H p xs/\k=!xs.isEmpty)\/(∃xs,SqT K H p xs/\k=!xs.isEmpty)\/∃kvs,H p=some (.dK kvs)/\k=!kvs.isEmpty
 |_=>False
theorem UI{κ : Type}{kvs:List (κ×V)}{vs:List (κ×aB)}(r:KV kvs vs):(!vs.isEmpty)=!kvs.isEmpty:=by
 cases r<;>rfl
theorem HF{xs:List V}{its:List aB}(r:Vals xs its):(!its.toArray.isEmpty)=!xs.isEmpty:=by
 cases r<;>simp
theorem uA:(sizeLine:Nat)<2 ^ 63:=by rw[AY];decide
theorem tru_ok:TruR X (fun x H Q=>∃k,TruV X.K x H k/\Q k H):=by
 intro aC s σ H x v Q I rx h;obtain⟨k,e,q⟩:=h;have hl:=uA;have hs:sizeLine=16777216:=AY;cases x with
 | non =>
   cases rx;have e':k=false:=e;subst e';exact truthy_none ⟨H,I,q⟩
 | bl b =>
   cases rx;have e':k=b:=e;subst e';exact dU ⟨H,I,q⟩
 | int i =>
   obtain⟨t,rfl⟩:=rx;have e':k=(i != 0):=e;subst e';exact PySem.P.truthy_int ⟨H,I,q⟩
 | str y =>
   obtain⟨t,rfl⟩:=rx;obtain⟨hy,e'⟩:y.length<=sizeLine/\k=((y.length:Int) != 0):=e;subst e';exact PySem.P.truthy_str (by omega) ⟨H,I.tok _,q⟩
 | byt y =>
   obtain⟨t,rfl⟩:=rx;obtain⟨hy,e'⟩:y.size<=sizeLine/\k=((y.size:Int) != 0):=e;subst e';exact PySem.W.truthy_bytes (by omega) ⟨H,I.tok _,q⟩
 | ref p =>
   cases rx;have e':(∃xs,SqL X.K H p xs/\k=!xs.isEmpty)\/(∃xs,SqT X.K H p xs/\k=!xs.isEmpty)\/∃kvs,H p=some (.dK kvs)/\k=!kvs.isEmpty:=e;rcases e' with⟨xs,hx,e'⟩ | ⟨xs,hx,e'⟩ | ⟨kvs,hx,e'⟩
   . subst e';obtain⟨its,r,pl,hz⟩:=I.list hx;have hlen:=r.length;exact wpAny_truthy_list pl.isList (by simp only[aZ];omega) ⟨H,I.tok _,by rw[HF r];exact q⟩
   . subst e';obtain⟨its,r,pl,hz⟩:=I.tuple hx;have hlen:=r.length;exact truthy_tuple pl (by simp only[aZ];omega) ⟨H,I.tok _,by rw[HF r];exact q⟩
   . subst e';obtain⟨hz,hS,vs,r,m⟩:kvs.length<=sizeLine/\(p==iN)=false/\∃vs,KV kvs vs/\s.heap.DictOf (gA X.prog X.w) p vs:=I.hok p _ hx;have hlen:kvs.length=vs.length:=KG.length r;exact wpAny_truthy_dict hS m (by omega) ⟨H,I.tok _,by rw[UI r];exact q⟩
 |_=>exact(show False from e).elim
theorem aEb(ha:PE X a ta)(he:∀whole,KC a X.env whole=(do let v <- whole;kJ a.pos;gD [v] (truthy v))) :
  PT X a (fun σ H Q=>ta σ H fun x H'=>∃k,TruV X.K x H' k/\Q k H'):=by
 intro aC s σ H Q I h;exact isTrue_plain (thn (ha aC s σ H _ I h) fun v s1 ⟨x,H1,I1,r1,q1⟩=>tru_ok aC s1 σ H1 x v Q I1 r1 q1) (he _)
theorem TY:OpR X (mK .Add) (fun x y H Q=>∃i j,x=.str i/\y=.str j/\i.length+j.length<=sizeLine/\Q (.str (i++j)) H):=by
 intro aC s σ H x y v u Q I rx ry h;obtain⟨i,j,rfl,rfl,hz,q⟩:=h;obtain⟨t,rfl⟩:=rx;obtain⟨t',rfl⟩:=ry;exact add_str (fun t' tk=>⟨.str (i++j),H,I.tok _,⟨_,rfl⟩,q⟩) hz
theorem vals1{x:V}{us:List aB}(r:Vals [x] us):∃u,us=[u]/\RelV x u:=by
 cases r with
 |cons r1 r2=>cases r2;exact⟨_,rfl,r1⟩
theorem vals2{x y:V}{us:List aB}(r:Vals [x,y] us):∃u w',us=[u,w']/\RelV x u/\RelV y w':=by
 cases r with
 | cons r1 r2 =>
   cases r2 with
   |cons r3 r4=>cases r4;exact⟨_,_,rfl,r1,r3⟩
theorem aBg(hc:X.calm=true):CallR X (.builtin "max") (fun xs H Q=>∃i j,xs=[.int i,.int j]/\Q (.int (if j>i then j else i)) H):=by
 intro aC s σ H xs us Q I r h;obtain⟨i,j,rfl,q⟩:=h;obtain⟨u,w',rfl,⟨t,rfl⟩,⟨t',rfl⟩⟩:=vals2 r;refine max_two_ints (I.ok.hd hc) fun h' tk k=>⟨_,H,I.kept k,?_,q⟩
 by_cases hj:j>i
 . rw[if_pos hj,if_pos hj];exact⟨_,rfl⟩
 . rw[if_neg hj,if_neg hj];exact⟨_,rfl⟩
theorem aBf(hc:X.calm=true):CallR X (.builtin "min") (fun xs H Q=>∃i j,xs=[.int i,.int j]/\Q (.int (if j<i then j else i)) H):=by
 intro aC s σ H xs us Q I r h;obtain⟨i,j,rfl,q⟩:=h;obtain⟨u,w',rfl,⟨t,rfl⟩,⟨t',rfl⟩⟩:=vals2 r;refine min_two_ints (I.ok.hd hc) fun h' tk k=>⟨_,H,I.kept k,?_,q⟩
 by_cases hj:j<i
 . rw[if_pos hj,if_pos hj];exact⟨_,rfl⟩
 . rw[if_neg hj,if_neg hj];exact⟨_,rfl⟩
end
structure ObjM(h:Heap)(x dx C:aA)(mA:Str->Option aB):Prop where
 obj:h.get? x=some (fQ C dx)
 ns:h.Ns1 dx mA
 ne:dx≠x
theorem aAf{h:Heap}{dx:aA}{mA:Str->Option aB}(n:h.Ns1 dx mA):∃od,h.get? dx=some od/\∀name,rN name od=some (mA name):=by
 obtain⟨o,es,ep,ho,hd,hk,_,hm⟩:=n;refine⟨o,ho,fun name=>?_⟩;have e:=hm name;unfold nsFind findBy at e;rw[<- Array.find?_toList] at e;unfold rN;rw[hd];dsimp only
 split
 . rename_i y q;rw[q] at e;exact congrArg some e
 . rename_i q;rw [q] at e
   have a:es.toList.any (·.refKey)=false:=by
    rw[List.any_eq_false];intro y hy;obtain⟨z,t,hkey⟩:=hk y (Array.mem_toList_iff.mp hy);simp[DictEntry.refKey,hkey]
   have a' : ¬es.toList.any (·.refKey)=true:=by rw[a];exact cV
   rw[if_neg a'];exact congrArg some e
theorem ObjM.look{h:Heap}{x dx C:aA}{mA:Str->Option aB}(I:ObjM h x dx C mA):∃od,PySem.W.InstAt h x (fQ C dx) C (some od)/\∀name,rN name od=some (mA name):=
 let ⟨od,ho,hl⟩:=aAf I.ns
 ⟨od,⟨I.obj,rfl,rfl,ho⟩,hl⟩
section
variable{prog:bG}{w:bU}{A:bZ}{E:aB->aE->Prop}{s:aE}{K:aM}{x dx C f:aA}{mA:Str->Option aB}{name:Str}{v:aB}
theorem get_map{expr:Bool}{Q:aB->aE->Prop}(X:K.In s.heap)(I:ObjM s.heap x dx C mA)(hg:lG K C name=true)(hh:oJ K C=true)(ha:cD K (.ref C) name=some none)(hv:mA name=some v)(hv':VH v=true)(h:Q v { s with toks:=s.toks+1 }) :
  bL (bM prog w) A (getAttr (.ref x) name expr) Q E s:=by
 obtain⟨od,J,hl⟩:=I.look;exact PySem.W.get_value X J (sP hg).1 (PySem.W.findObj_own hh ha rfl (by rw[hl,hv])) hv' h
theorem aFv{pl:Sem Bool}{Q:aB×List aB->aE->Prop}(X:K.In s.heap)(I:ObjM s.heap x dx C mA)(hg:lG K C name=true)(hf:cD K (.ref C) name=some (some (.ref f)))(ht:nD K (.ref f)=true)(hv:mA name=none)(h:Q (.ref f,[.ref x]) s) :
  bL (bM prog w) A (kK (.ref x) name pl) Q E s:=by
 obtain⟨od,J,hl⟩:=I.look;exact PySem.W.method_fn X J (sP hg).1 (sP hg).2 hf (beq_iff_eq.mp ht) (by show(rN name od).map (·.isSome)=some false;rw[hl,hv];rfl) h
theorem set_map{ns:List Str}{Q:Unit->aE->Prop}(X:K.In s.heap)(I:ObjM s.heap x dx C mA)(hs:cD K (.ref C) "__setattr__" = some (some (.builtin "object.__setattr__")))(hp:uH K C=true)(ht:CV K C name=some none)(hh:oJ K C=true)(hw:PySem.Within mA ns)(hsz:ns.length<=sizeLine)(h:∀h',ObjM h' x dx C (fun y=>if y=name then some v else mA y)->Heap.SameBut dx s.heap h'->Q () { s with heap:=h',toks:=s.toks+2 }) :
  bL (bM prog w) A (setAttr (.ref x) name v) Q E s:=by
 obtain⟨od,J,hl⟩:=I.look;refine PySem.W.set_plain X J hs (PySem.W.osa_open (s:={ s with toks:=s.toks+1 }) (r:=none) X J hp ht fun b=>?_);obtain⟨cd,hc,hd'⟩:=PySem.W.any_some hh;have hx:s.heap.get? x=some ⟨.ref C,some dx,.plain,#[]⟩:=I.obj;refine bC (cA (bC (bC (wpAny_loadPart hx (bC (PySem.W.Looks.here (s:={ s with toks:=s.toks+1 }) (PySem.W.looks_clsIn X hc) ?_))))));rw[hd'];refine cA (a:=some dx) (bC (cA (bC ?_)));refine wpAny_nsSet1 (s:={ s with toks:=s.toks+1 }) I.ns fun h' hn2 hs2=>?_;obtain⟨oD,esD,epD,hoD,hdD,hcD⟩:=hn2.count (PySem.Within.cons name v hw);refine bC (wpAny_lookBehind hoD (by rw[hdD];exact pastItsLine_dict (cL hcD (by rw[aJ];omega))) ?_);exact cA (h _ ⟨(hs2.2 _ (Ne.symm I.ne)).trans I.obj,hn2,I.ne⟩ hs2)
theorem aFk{R:Result->aE->Prop}{vs:List aB}{kw:List (Str×aB)}(X:K.In s.heap)(hm:eQ K C=true)(hi:cD K (.ref C) "__init__" = some (some (.ref f)))(hf:aBo K (.ref f)=some (.type "function"))(h:sT (bM prog w) (A.under (.builtin "type.__call__" ⟨.ref C::vs,kw⟩)) (.call (.ref f) ⟨.ref (s.heap.objs.size+1)::vs,kw⟩) (PySem.W.InitBack (s.heap.objs.size+1) R)
    { s with heap:=(s.heap.push eA).push (fQ C s.heap.objs.size) }) :
  sT (bM prog w) A (.call (.ref C) ⟨vs,kw⟩) R s:=by
 obtain⟨hh,g,d,t,os⟩:=s;exact PySem.W.make_core (PySem.W.makes_of X hm) (PySem.W.looks_findIn X hi) (fun self=>PySem.W.bind_fn X self hf) (.inl rfl) h
end
noncomputable def putF(f:Str)(v:V):List (Str×V)->List (Str×V)
 |[]=>[(f,v)]
 |(g,x)::r=>if g=f then (g,v)::r else (g,x)::putF f v r
theorem DM(f g:Str)(v:V):∀fs:List (Str×V),(putF f v fs).lookup g=if g=f then some v else fs.lookup g
 | [] => by
   show List.lookup g [(f,v)]=_
   by_cases h:g=f
   . have hb : (g==f)=true := beq_iff_eq.mpr h;simp only[List.lookup,hb,if_pos h]
   . have hb : (g==f)=false := beq_eq_false_iff_ne.mpr h;simp only[List.lookup,hb,if_neg h]
 | (k, x) :: r => by
   have ih:=DM f g v r;rw[show putF f v ((k,x)::r)=(if k=f then (k,v)::r else (k,x)::putF f v r) from rfl]
   by_cases hk:k=f
   . rw [if_pos hk]
     by_cases h:g=k
     . have hb : (g==k)=true := beq_iff_eq.mpr h;simp only[List.lookup,hb,if_pos (h.trans hk)]
     . have hb : (g==k)=false := beq_eq_false_iff_ne.mpr h;simp only[List.lookup,hb,if_neg (fun e:g=f=>h (e.trans hk.symm))]
   . rw [if_neg hk]
     by_cases h:g=k
     . have hb : (g==k)=true := beq_iff_eq.mpr h;simp only[List.lookup,hb,if_neg (fun e:g=f=>hk (h.symm.trans e))]
     . have hb : (g==k)=false := beq_eq_false_iff_ne.mpr h;simp only[List.lookup,hb];exact ih
theorem BV(f:Str)(v:V):∀fs:List (Str×V),f∈(putF f v fs).map (·.1)/\∀g,g∈fs.map (·.1)->g∈(putF f v fs).map (·.1)
 |[]=>⟨by simp[putF],fun g h=>by simp at h⟩
 | (k, x) :: r => by
   obtain⟨i1,i2⟩:=BV f v r;rw[show putF f v ((k,x)::r)=(if k=f then (k,v)::r else (k,x)::putF f v r) from rfl]
   by_cases hk:k=f
   . rw[if_pos hk];subst hk;exact⟨by simp,fun g h=>by simpa using h⟩
   . rw [if_neg hk];refine ⟨?_,fun g h=>?_⟩
     . rw[aO];exact aG _ i1
     . rw [aO] at h ⊢;rcases aD.mp h with e | e
       . exact aD.mpr (.inl e)
       . exact aG _ (i2 g e)
theorem wJ(f:Str)(v:V):∀fs:List (Str×V),(putF f v fs).length<=fs.length+1
 |[]=>by simp[putF]
 | (k, x) :: r => by
   have ih:=wJ f v r;rw[show putF f v ((k,x)::r)=(if k=f then (k,v)::r else (k,x)::putF f v r) from rfl]
   by_cases hk:k=f
   . rw[if_pos hk,aJ,aJ];omega
   . rw[if_neg hk,aJ,aJ];omega
theorem RelO.some_of{v:V}{o:Option aB}(r:RelO (some v) o):∃u,o=some u/\RelV v u:=by
 cases o with
 |none=>exact(show False from r).elim
 |some u=>exact⟨u,rfl,r⟩
theorem RelO.none_of{o:Option aB}(r:RelO none o):o=none:=by
 cases o with
 |none=>rfl
 |some u=>exact(show False from r).elim
theorem aAs{v:V}{u:aB}(r:RelV v u):VH u=true:=by
 cases v with
 |non=>cases(show u=aB.none from r);rfl
 |bl b=>cases(show u=aB.bool b from r);rfl
 |int i=>obtain⟨t,e⟩:=(show ∃t,u=aB.int i t from r);cases e;rfl
 |str x=>obtain⟨t,e⟩:=(show ∃t,u=aB.str x t from r);cases e;rfl
 |byt b=>obtain⟨t,e⟩:=(show ∃t,u=aB.bytes b t from r);cases e;rfl
 |flt b=>obtain⟨t,e⟩:=(show ∃t,u=aB.float b t from r);cases e;rfl
 |ref a=>cases(show u=aB.ref a from r);rfl
 |ty n=>cases(show u=aB.type n from r);rfl
section
variable{P:bG}{w:bU}{H H':Hp}{h h':Heap}{a C dx:aA}{fs fs':List (Str×V)}
theorem FD(hok:HOk P w H h)(e:H a=some (.ins C dx fs)):∃mA,ObjM h a dx C mA/\(∀f,RelO (fs.lookup f) (mA f))/\PySem.Within mA (fs.map (·.1))/\fs.length<=1000/\H dx=some (.own a):=by
 obtain⟨d,z,ne,ob,mA,n,r,q⟩:=(show ObjOk P w H h a (.ins C dx fs) from hok a _ e)
 exact⟨mA,⟨ob,n,ne⟩,r,q,z,d⟩
end
structure Cls(K:aM)(C:aA):Prop where
 pg:lG K C Str.empty=true
 hd:oJ K C=true
 po:uH K C=true
 sa:cD K (.ref C) "__setattr__" = some (some (.builtin "object.__setattr__"))
theorem Cls.get{K:aM}{C:aA}(c:Cls K C)(f:Str):lG K C f=true:=c.pg
def NoAttr(K:aM)(C:aA)(f:Str):Prop:=cD K (.ref C) f=some none
theorem NoAttr.taker{K:aM}{C:aA}{f:Str}(n:NoAttr K C f):CV K C f=some none:=by
 unfold CV;rw[show cD K (.ref C) f=some none from n];rfl
structure Meth(K:aM)(C:aA)(m:Str)(f:aA):Prop where
 at_:cD K (.ref C) m=some (some (.ref f))
 fn:nD K (.ref f)=true
 kp:bK K (.ref f)=true
section
variable{X:Cx}{aC:List (aA×Obj)}{σ : St}{H:Hp}{s:aE}{a C dx:aA}{fs:List (Str×V)}{f:Str}{v:V}{A:bZ}{E:aB->aE->Prop}
theorem UL{b:Bool}{Q:aB->aE->Prop}(I:Inv X aC σ H s)(e:H a=some (.ins C dx fs))(c:Cls X.K C)(n:NoAttr X.K C f)(l:fs.lookup f=some v)(h:∀u s',Inv X aC σ H s'->RelV v u->Q u s'):bL (bM X.prog X.w) A (getAttr (.ref a) f b) Q E s:=by
 obtain⟨mA,O,r,_,_,_⟩:=FD I.hok e;obtain⟨u,hu,ru⟩:=RelO.some_of (v:=v) (o:=mA f) (by rw[<- l];exact r f);exact get_map I.kIn O (c.get f) c.hd n hu (aAs ru) (h u _ (I.tok _) ru)
theorem HH{m:Str}{g:aA}{pl:Sem Bool}{Q:aB×List aB->aE->Prop}(I:Inv X aC σ H s)(e:H a=some (.ins C dx fs))(c:Cls X.K C)(k:Meth X.K C m g)(l:fs.lookup m=none)(h:Q (.ref g,[.ref a]) s):bL (bM X.prog X.w) A (kK (.ref a) m pl) Q E s:=by
 obtain⟨mA,O,r,_,_,_⟩:=FD I.hok e;have hn:mA m=none:=RelO.none_of (by rw[<- l];exact r m);exact aFv I.kIn O (c.get m) k.at_ k.fn hn h
theorem TN{y:V}{u:aB}{Q:Unit->aE->Prop}(I:Inv X aC σ H s)(e:H a=some (.ins C dx fs))(c:Cls X.K C)(n:NoAttr X.K C f)(hl:fs.length<1000)(ry:RelV y u)(h:∀s',Inv X aC σ (upd H a (.ins C dx (putF f y fs))) s'->Q () s'):bL (bM X.prog X.w) A (setAttr (.ref a) f u) Q E s:=by
 obtain⟨mA,O,r,wi,_,ho⟩:=FD I.hok e;have hz:(fs.map (·.1)).length<=sizeLine:=by rw[aS,AY];omega
 refine set_map I.kIn O c.sa c.po n.taker c.hd wi hz fun h' O' sb=>h _ ?_;have hd:∃o,h'.get? dx=some o:=let ⟨o,_,_,e',_⟩:=O'.ns;⟨o,e'⟩;refine I.write (x:=a) (e:=dx) (by rw[e];exact True.intro) (.inr ho) (fun b q hb z=>(sb.2 b hb).trans z) hd ?_;refine⟨by rw[upd_ne O.ne];exact ho,?_,O.ne,O'.obj,_,O'.ns,fun g=>?_,fun g hg=>?_⟩
 . have:=wJ f y fs;omega
 . show RelO ((putF f y fs).lookup g) (if g = f then some u else mA g);rw [DM]
   by_cases q:g=f
   . rw[if_pos q,if_pos q];exact ry
   . rw[if_neg q,if_neg q];exact r g
 . by_cases q : g = f
   . rw[q];exact(BV f y fs).1
   . refine(BV f y fs).2 g (wi g fun z => hg ?_);show(if g=f then some u else mA g)=none;rw[if_neg q];exact z
theorem Inv.made(I:Inv X aC σ H s):Inv X aC σ (upd (upd H s.heap.objs.size (.own (s.heap.objs.size+1))) (s.heap.objs.size+1) (.ins C s.heap.objs.size []))
  { s with heap:=(s.heap.push eA).push (fQ C s.heap.objs.size) }:=by
 have e1:(s.heap.push eA).get? s.heap.objs.size=some eA:=bD s.heap rfl
 have e2:((s.heap.push eA).push (fQ C s.heap.objs.size)).get? (s.heap.objs.size+1)=some (fQ C s.heap.objs.size):=by
  have:=bD (s.heap.push eA) (o:=fQ C s.heap.objs.size) rfl
  rwa [JD] at this
 have e3:(s.heap.push eA).Ns s.heap.objs.size (fun _=>none):=⟨eA,#[],_,e1,rfl,(fun e he=>absurd he (by simp)),fun _=>rfl⟩
 have I1:=I.laid (a:=s.heap.objs.size) (o:=.own (s.heap.objs.size+1)) (h':=s.heap.push eA) (t':=s.toks) (fun b u q=>aQ _ q) (aU _) ⟨_,e1⟩;refine I1.laid (a:=s.heap.objs.size+1) (o:=.ins C s.heap.objs.size []) (t':=s.toks) (fun b u q=>aQ _ q) (lH (JD _ _)) ?_;have ne:s.heap.objs.size≠s.heap.objs.size+1:=bO (EN _);refine⟨by rw[upd_ne ne,qE],dP _,ne,e2,fun _=>none,(Heap.Ns1.of_empty e3).at fun o q=>aQ _ q,fun _=>True.intro,fun y hy=>absurd rfl hy⟩
theorem attr_of{prog:bG}{w:bU}{env:Env}{e:Expr}{f:Str}{pos:Pos}{s:aE}{Q:aB->aE->Prop}(hb:eG e f env (bY e env)=bY e env)(h:bL (bM prog w) A (bY e env) (fun o s₁=>bL (bM prog w) A (getAttr o f true) Q E s₁) E s):bL (bM prog w) A (bY (.Attribute e f pos) env) Q E s :=
 Attribute_any_ h (by rw[arm_eval_Attribute,hb])
end
def tFld(K:aM)(ta:TE)(f:Str):TE:=fun σ H Q=>ta σ H fun x H1=>∃a C dx fs v,x=.ref a/\H1 a=some (.ins C dx fs)/\Cls K C/\NoAttr K C f/\fs.lookup f=some v/\Q v H1
def sFld(K:aM)(ta tv:TE)(f:Str):TS:=fun D σ H=>tv σ H fun y H1=>ta σ H1 fun x H2=>∃a C dx fs,x=.ref a/\H2 a=some (.ins C dx fs)/\Cls K C/\NoAttr K C f/\fs.length<1000 ∧
 D.nx σ (upd H2 a (.ins C dx (putF f y fs)))
section
variable{X:Cx}{o e value:Expr}{f:Str}{pos pos' tpos:Pos}{ta tv:TE}
theorem aEp(he:PE X e ta)(hb:eG e f X.env (bY e X.env)=bY e X.env):PE X (.Attribute e f pos) (tFld X.K ta f):=by
 intro aC s σ H Q I h;refine attr_of hb (thn (he aC s σ H _ I h) fun u s1 zq=>?_);obtain⟨x,H1,I1,rx,a,C,dx,fs,v,ex,ea,c,n,l,q⟩:=zq;subst ex;obtain rfl:u=aB.ref a:=rx;exact UL I1 ea c n l fun u' s2 I2 ru=>⟨v,H1,I2,ru,q⟩
theorem TW(ha:PE X o ta)(hv:PE X value tv)(hs:dI value (some (.Attribute o f pos')) pos.line X.env=pure false):PS X (.Assign [.Attribute o f pos'] value pos) (sFld X.K ta tv f):=by
 intro aC s σ H D I h;refine plainObj_wpAny_Assign_Attribute (thn (hv aC s σ H _ I h) fun u s1 ⟨y,H1,I1,ry,q⟩=>thn (ha aC s1 σ H1 _ I1 q) fun ov s2 zq=>?_) hs;obtain⟨x,H2,I2,rx,a,C,dx,fs,ex,ea,c,n,l,q2⟩:=zq;subst ex;obtain rfl:ov=aB.ref a:=rx;exact TN I2 ea c n l ry fun s3 I3=>⟨σ,_,I3,q2⟩
end
section
variable{X:Cx}{aC:List (aA×Obj)}{σ : St}{H:Hp}{s:aE}{A:bZ}{E:aB->aE->Prop}{Q:aB->aE->Prop}{c:aB}{b:Bool}
inductive TyOf(K:aM)(H:Hp):V->aB->Prop where
 |non:TyOf K H .non (.type "NoneType")
 |bl (x:Bool):TyOf K H (.bl x) (.type "bool")
 |int (i:Int):TyOf K H (.int i) (.type "int")
 |str (x:Str):TyOf K H (.str x) (.type "str")
 |flt (x:UInt64):TyOf K H (.flt x) (.type "float")
 |lst {a:aA} {xs:List V} (e:H a=some (.lst xs)):TyOf K H (.ref a) (.type "list")
 |frz {a:aA} {o:Obj} {xs:List V} (e:H a=some (.frz o (.lst xs))):TyOf K H (.ref a) (.type "list")
 |tup {a:aA} {xs:List V} (e:H a=some (.tup xs)):TyOf K H (.ref a) (.type "tuple")
 |dK {a:aA} {kvs:List (Key×V)} (e:H a=some (.dK kvs)):TyOf K H (.ref a) (.type "dict")
 |dT {a:aA} {kvs:List (List Key×V)} (e:H a=some (.dT kvs)):TyOf K H (.ref a) (.type "dict")
 |ins {a C dx:aA} {fs:List (Str×V)} (e:H a=some (.ins C dx fs)) (cl:Cls K C) (ha:cD K (.ref C) "__class__" = some (some (.builtin "object.__class__")))
    (hn:uG K (.builtin "object.__class__") "__get__" = some (some (.builtin "getset_descriptor.__get__"))) (htk:PySem.W.takesIn K (.builtin "object.__class__")=some true)
    (hm:IX K C (.type "object")=some true):TyOf K H (.ref a) (.ref C)
theorem aAo{x:V}{u t:aB}(I:Inv X aC σ H s)(rx:RelV x u)(ty:TyOf X.K H x t)(e:EM X.K t c=some b)(h:∀tk,Q (.bool b) { s with toks:=tk }) :
  bL (bM X.prog X.w) A (call (.builtin "isinstance") [u,c]) Q E s:=by
 cases ty with
 |non=>cases(show u=aB.none from rx);exact cM PySem.W.kitx_none I.kIn True.intro e (fun z=>nomatch z) h
 |bl y=>cases(show u=aB.bool y from rx);exact cM PySem.W.kitx_bool I.kIn True.intro e (fun z=>nomatch z) h
 |int i=>obtain⟨t,q⟩:=(show ∃t,u=aB.int i t from rx);cases q;exact cM PySem.W.kitx_int I.kIn True.intro e (fun z=>nomatch z) h
 |str y=>obtain⟨t,q⟩:=(show ∃t,u=aB.str y t from rx);cases q;exact cM PySem.W.kitx_str I.kIn True.intro e (fun z=>nomatch z) h
 |flt y=>obtain⟨t,q⟩:=(show ∃t,u=aB.float y t from rx);cases q;exact cM PySem.W.kitx_float I.kIn True.intro e (fun z=>nomatch z) h
 | @lst a xs ea =>
   cases(show u=aB.ref a from rx);obtain⟨_,_,n,_,h1⟩:=(show ObjOk X.prog X.w H s.heap a (.lst xs) from I.hok a _ ea)
   exact cM uJ I.kIn ⟨_,h1,rfl⟩ e (fun z=>nomatch z) h
 | @frz a ob xs ea =>
   cases(show u=aB.ref a from rx);obtain⟨_,_,_,n,_,h1⟩:=(show ObjOk X.prog X.w H s.heap a (.frz ob (.lst xs)) from I.hok a _ ea)
   exact cM uJ I.kIn ⟨_,h1,rfl⟩ e (fun z=>nomatch z) h
 | @tup a xs ea =>
   cases(show u=aB.ref a from rx);obtain⟨_,_,_,p⟩:=(show ObjOk X.prog X.w H s.heap a (.tup xs) from I.hok a _ ea)
   obtain⟨o,h1,h2,_⟩:=p;exact cM sU I.kIn ⟨o,h1,h2⟩ e (fun z=>nomatch z) h
 | @dK a kvs ea =>
   cases(show u=aB.ref a from rx);obtain⟨_,_,vs,_,p⟩:=(show ObjOk X.prog X.w H s.heap a (.dK kvs) from I.hok a _ ea)
   obtain⟨o,es,ep,h1,h2,_⟩:=p;exact cM SW I.kIn ⟨o,h1,h2.1⟩ e (fun z=>nomatch z) h
 | @dT a kvs ea =>
   cases(show u=aB.ref a from rx);obtain⟨_,_,xs,_,o,es,ep,h1,h2,_⟩:=(show ObjOk X.prog X.w H s.heap a (.dT kvs) from I.hok a _ ea)
   exact cM SW I.kIn ⟨o,h1,h2.1⟩ e (fun z=>nomatch z) h
 | @ins a C dx fs ea cl ha hn htk hm =>
   cases(show u=aB.ref a from rx);obtain⟨mA,O,_⟩:=FD I.hok ea;obtain⟨od,J,_⟩:=O.look;exact cM (PySem.W.kitx_own (cl.get _) cl.hd ha hn htk hm) I.kIn J e (fun z=>nomatch z) h
end
structure Room(k:Nat)(A:bZ):Prop where
 hd:A.handled=none
 dp:A.depth+3*k+5<recursionLimit
 un:A.units+16*k+200<cLine
theorem Room.mono{j k:Nat}{A:bZ}(r:Room k A)(h:j<=k):Room j A:=⟨r.hd,by have:=r.dp;omega,by have:=r.un;omega⟩
theorem Room.deeper{k:Nat}{A:bZ}(r:Room (k+1) A)(env:Env):Room k (A.deeper env):=
 ⟨r.hd,by have:=r.dp;show A.depth+1+3*k+5<_;omega,by have:=r.un;show A.units+3+16*k+200<_;omega⟩
theorem UG{A:bZ}{C:aA}{us:List aB}{kw:List (Str×aB)}:(A.under (.builtin "type.__call__" ⟨.ref C::us,kw⟩)).depth=A.depth+1:=by
 first | rfl | simp[bZ.under,Code.weight,Code.isCreation,Code.isGuard,Code.isCaller,Code.frames,Code.isFrame,guardIds]
theorem UF{A:bZ}{C:aA}{us:List aB}{kw:List (Str×aB)}:(A.under (.builtin "type.__call__" ⟨.ref C::us,kw⟩)).units=A.units+1:=by
 first | rfl | simp[bZ.under,Code.cUnits,Code.frames,Code.isFrame]
theorem Room.make{k:Nat}{A:bZ}(r:Room (k+1) A)(C:aA)(us:List aB)(kw:List (Str×aB)):Room k (A.under (.builtin "type.__call__" ⟨.ref C::us,kw⟩)):=
 ⟨r.hd,by have:=r.dp;rw[UG];omega,by have:=r.un;rw[UF];omega⟩
theorem Room.depth{k:Nat}{A:bZ}(r:Room k A):A.depth<recursionLimit:=by have:=r.dp;omega
def tNil:TA:=fun _ H Q=>Q [] H
def tCons(ta:TE)(tr:TA):TA:=fun σ H Q=>ta σ H fun x H1=>tr σ H1 fun xs H2=>Q (x::xs) H2
section
variable{X:Cx}{e:Expr}{es:List Expr}{te:TE}{t:TA}{pos:Pos}
theorem yW:PA X [] tNil:=fun _ _ _ _ H Q I h=>Calls.spliced_nil ⟨[],H,I,.nil,h⟩
theorem jZ(ha:PE X e te)(hr:PA X es t)(hs:aL (e::es) X.env=(false,bY e X.env)::aL es X.env:=by rfl):PA X (e::es) (tCons te t):=by
 intro pos aC s σ H Q I h;rw[hs];show bL _ _ (spliced ((false,bY e X.env)::dB pos (aL es X.env))) _ _ s;refine Calls.spliced_cons (thn (ha aC s σ H _ I h) fun u s1 zq=>?_);obtain⟨x,H1,I1,r1,q1⟩:=zq;exact thn (hr pos aC s1 σ H1 _ I1 q1) fun us s2 ⟨xs,H2,I2,r2,q2⟩=>⟨x::xs,H2,I2,.cons r1 r2,q2⟩
def tTup(t:TA):TE:=fun σ H Q=>t σ H fun xs H1=>xs.length<=sizeLine/\∀p,H1 p=none->Q (.ref p) (upd H1 p (.tup xs))
def tLst(t:TA):TE:=fun σ H Q=>t σ H fun xs H1=>xs.length<=sizeLine/\∀p,H1 p=none->Q (.ref p) (upd H1 p (.lst xs))
theorem pe_tup{x1}(h:PA X es t):PE X (.Tuple es x1 pos) (tTup t):=by
 intro aC s σ H Q I hq;refine wpAny_Tuple_spliced (thn (h pos aC s σ H _ I hq) fun us s1 ⟨xs,H1,I1,r,z,q⟩=>⟨by rw[<- r.length];exact z,?_⟩);have hf:H1 s1.heap.objs.size=none:=I1.hok.fresh (aU _);refine⟨.ref s1.heap.objs.size,upd H1 s1.heap.objs.size (.tup xs),I1.laid (t':=s1.toks) (fun b u e=>aQ _ e) (aU _) ?_,rfl,q _ hf⟩;exact⟨z,us,r,⟨_,bD _ rfl,rfl,_,rfl⟩⟩
theorem aEn(h:PA X es t):PE X (.List es pos) (tLst t):=by
 intro aC s σ H Q I hq;refine wpAny_List_spliced (thn (h pos aC s σ H _ I hq) fun us s1 ⟨xs,H1,I1,r,z,q⟩=>⟨by rw[<- r.length];exact z,?_⟩);have hf:H1 s1.heap.objs.size=none:=I1.hok.fresh (aU _);refine⟨.ref s1.heap.objs.size,upd H1 s1.heap.objs.size (.lst xs),I1.laid (t':=s1.toks) (fun b u e=>aQ _ e) (aU _) ?_,rfl,q _ hf⟩;exact⟨z,us,0,r,bD _ rfl⟩
end
abbrev Sp:=List V->Hp->VK->XK->Prop
abbrev CXT:=List Env->Hp->aE->XK->aB->aE->Prop
structure Env0(P:bG)(w:bU)(K:aM)(mg:Str->Option aB)(base:Heap)(A:bZ)(outer:List Env)(s:aE)(H:Hp):Prop where
 frames:A.frames=some outer
 mod:Mod K mg base
 bs:∀b o,base.get? b=some o->s.heap.get? b=some o/\H b=none
 bsz:Bsz K mg base s.heap H
 funs:s.heap.FunFrames base outer
 frf:∀b∈frs outer,H b=none
 hok:HOk P w H s.heap
 bare:sW s.gens
def CE(outer:List Env)(P:bG)(w:bU)(H:Hp)(s:aE)(Q:VK)(u:aB)(s':aE):Prop :=
 ∃v H',s'.os=s.os/\sW s'.gens/\Un (frs outer) [] H H' s.heap s'.heap/\HOk P w H' s'.heap/\RelV v u/\Q v H'
def CR(CX:CXT)(outer:List Env)(P:bG)(w:bU)(H:Hp)(s:aE)(Q:VK)(E:XK)(r:Result)(s':aE):Prop :=
 match r with
 | .ok (.ret u)=>CE outer P w H s Q u s'
 | .ok _=>False
 | .error e=>CX outer H s E e s'
structure FnOk(P:bG)(w:bU)(K:aM)(mg:Str->Option aB)(base:Heap)(CX:CXT)(k:Nat)(f:aA)(fd:aK)(ps:List Str)(sp:Sp):Prop where
 len:∀vs H Q E,sp vs H Q E->vs.length=ps.length
 run:∀(A:bZ) (outer:List Env) (s:aE) (H:Hp) (args:Args) (us:List aB) (vs:List V) (Q:VK) (E:XK),Room k A->Env0 P w K mg base A outer s H->aBt s fd args (ps.zip us)->Vals vs us->sp vs H Q E →
  sT (bM P w) A (.call (.ref f) args) (CR CX outer P w H s Q E) s
theorem FnOk.mono{P:bG}{w:bU}{K:aM}{mg:Str->Option aB}{base:Heap}{CX:CXT}{j k:Nat}{f:aA}{fd:aK}{ps:List Str}{sp:Sp}(F:FnOk P w K mg base CX j f fd ps sp)(h:j<=k) :
  FnOk P w K mg base CX k f fd ps sp:=⟨F.len,fun A outer s H args us vs Q E hr=>F.run A outer s H args us vs Q E (hr.mono h)⟩
theorem FnOk.imp{P:bG}{w:bU}{K:aM}{mg:Str->Option aB}{base:Heap}{CX:CXT}{k:Nat}{f:aA}{fd:aK}{ps:List Str}{sp sp':Sp}(F:FnOk P w K mg base CX k f fd ps sp)(h:∀vs H Q E,sp' vs H Q E->sp vs H Q E):FnOk P w K mg base CX k f fd ps sp' :=
 ⟨fun vs H Q E q=>F.len vs H Q E (h _ _ _ _ q),fun A outer s H args us vs Q E hr he hb hv hs=>F.run A outer s H args us vs Q E hr he hb hv (h _ _ _ _ hs)⟩
theorem Env0.make{P:bG}{w:bU}{K:aM}{mg:Str->Option aB}{base:Heap}{A:bZ}{outer:List Env}{s:aE}{H:Hp}(e:Env0 P w K mg base A outer s H)(C:aA)(us:List aB)(kw:List (Str×aB)) :
  Env0 P w K mg base (A.under (.builtin "type.__call__" ⟨.ref C::us,kw⟩)) outer s H:=⟨by first | exact e.frames | (simpa[bZ.under,Code.envs,Code.isFrame,pushEnvs] using e.frames),e.mod,e.bs,e.bsz,e.funs,e.frf,e.hok,e.bare⟩
section
variable{X:Cx}{aC:List (aA×Obj)}{σ : St}{H:Hp}{s s':aE}
theorem Inv.tabsH(I:Inv X aC σ H s):TabsK X.K X.mg X.base H:=⟨I.ok.bsz.2.bm,fun x c P hx ht=>⟨(I.ok.bsz.2.tab x c P hx ht).1,I.base.tbls _ _ (I.ok.bsz.2.tab x c P hx ht).2⟩⟩
theorem Inv.env0(I:Inv X aC σ H s):Env0 X.prog X.w X.K X.mg X.base X.A X.stack s H :=
 ⟨I.ok.frames,I.ok.mod,I.bs,⟨cL I.ok.bsz.1 I.sz,I.tabsH⟩,I.stack,I.stkFree,I.hok,I.bare⟩
theorem Inv.after{Q:VK}{u:aB}(I:Inv X aC σ H s)(h:CE X.stack X.prog X.w H s Q u s'):EP X aC σ Q u s':=by
 obtain⟨v,H',os,bare,un,hok,r,q⟩:=h;obtain⟨hh,g,d,t,os'⟩:=s';obtain rfl:os'=s.os:=os;exact⟨v,H',I.call (h':=hh) (g':=g) (d':=d) (t':=t) (ch:=[]) un hok bare (fun b z=>absurd z (by simp)),r,q⟩
end
def tCall(sp:Sp)(dvs:List V)(E:XK)(t:TA):TE:=fun σ H Q=>t σ H fun vs H1=>sp (vs++dvs) H1 Q E
def tMake(C:aA)(sp:Sp)(dvs:List V)(E:XK)(t:TA):TE:=fun σ H Q=>t σ H fun vs H1=>∀x dx,H1 x=none->H1 dx=none->dx≠x →
 sp (.ref x::(vs++dvs)) (upd (upd H1 dx (.own x)) x (.ins C dx [])) (fun v H2=>v=.non/\Q (.ref x) H2) E
def Binds(K:aM)(fd:aK)(ps:List Str)(ds:List aB):Prop :=
 ∀(s:aE) (us:List aB),K.In s.heap->(us++ds).length=ps.length->aBt s fd ⟨us,[]⟩ (ps.zip (us++ds))
theorem Binds.all{K:aM}{fd:aK}{ps:List Str}(h:∀us:List aB,us.length=ps.length->IW fd ⟨us,[]⟩=pure (ps.zip us)):Binds K fd ps []:=fun s us _ hl=>by
 rw[kN] at hl ⊢;exact .of_eq (h us hl)
def CQ(CX:CXT)(X:Cx)(E:XK):Prop:=∀(aC:List (aA×Obj)) (σ : St) (H:Hp) (s:aE) (e:aB) (s':aE),Inv X aC σ H s->CX X.stack H s E e s'->X.xe e s'
section
variable{X:Cx}{CX:CXT}{k:Nat}{f C:aA}{fd:aK}{ps:List Str}{sp:Sp}{dvs:List V}{ds:List aB}{E:XK}{x m:Str}{p pos apos:Pos}{e o:Expr}{es:List Expr}{ta:TE}{t:TA}
theorem NC{aC:List (aA×Obj)}{σ : St}{H:Hp}{s:aE}{Q:VK}{us:List aB}{vs:List V}(F:FnOk X.prog X.w X.K X.mg X.base CX k f fd ps sp)(hr:Room k X.A)(hb:Binds X.K fd ps ds)(hd:Vals dvs ds)(hx:CQ CX X E)(I:Inv X aC σ H s)(r:Vals vs us)(h:sp (vs++dvs) H Q E):bL (bM X.prog X.w) X.A (call (.ref f) us) (EP X aC σ Q) X.xe s:=by
 have r2:Vals (vs++dvs) (us++ds):=r.append hd;have hl:(us++ds).length=ps.length:=by rw[<- r2.length];exact F.len _ _ _ _ h
 refine wpAny_call (IU (F.run X.A X.stack s H ⟨us,[]⟩ (us++ds) (vs++dvs) Q E hr I.env0 (hb s us I.kIn hl) r2 h) fun r s' hq=>?_);cases r with
 |error e=>exact hx aC σ H s e s' I hq
 | ok fl =>
   cases fl with
   |ret u=>exact I.after hq
   |next=>exact False.elim hq
   |brk=>exact False.elim hq
   |cont=>exact False.elim hq
theorem EX(F:FnOk X.prog X.w X.K X.mg X.base CX k f fd ps sp)(hr:Room k X.A)(hg:Gl X x)(hm:X.mg x=some (.ref f))(hk:bK X.K (.ref f)=true)(hb:Binds X.K fd ps ds)(hd:Vals dvs ds)(hx:CQ CX X E)(ha:PA X (e::es) t)(hdb:(x==("__debug__" : Str))=false:=by decide)(he:aL (e::es) X.env=(false,bY e X.env)::aL es X.env:=by rfl)(hpl:(dB pos (aL es X.env)).any (·.1)=false:=by rfl) :
  PE X (.Call (.Name x p) (e::es) [] pos) (tCall sp dvs E t):=by
 intro aC s σ H Q I h;refine gX (AN I hg hm ?_ hdb);refine nL (h₀:=X.base) I.ok.mod.kin hk (thn (ha pos aC s σ H _ I h) fun us s1 ⟨vs,H1,I1,r,q⟩=>⟨I1.kIn,?_⟩) he hpl;exact NC F hr hb hd hx I1 r q
structure Mk(K:aM)(C f:aA):Prop where
 makes:eQ K C=true
 init:cD K (.ref C) "__init__" = some (some (.ref f))
 fn:nD K (.ref f)=true
 kp:bK K (.ref C)=true
theorem QA{aC:List (aA×Obj)}{σ : St}{H:Hp}{s:aE}{Q:VK}{us:List aB}{vs:List V}(M:Mk X.K C f)(F:FnOk X.prog X.w X.K X.mg X.base CX k f fd ps sp)(hr:Room (k+1) X.A)(hb:Binds X.K fd ps ds)(hd:Vals dvs ds)(hx:CQ CX X E)(I:Inv X aC σ H s)(r:Vals vs us)(h:∀x dx,H x=none->H dx=none->dx≠x->sp (.ref x::(vs++dvs)) (upd (upd H dx (.own x)) x (.ins C dx [])) (fun v H2=>v=.non/\Q (.ref x) H2) E) :
  bL (bM X.prog X.w) X.A (call (.ref C) us) (EP X aC σ Q) X.xe s:=by
 have hq:=h (s.heap.objs.size+1) s.heap.objs.size (I.hok.fresh (VJ _)) (I.hok.fresh (aU _)) (bO (EN _));have I2:=Inv.made (C:=C) I;have r2:Vals (V.ref (s.heap.objs.size+1)::(vs++dvs)) (aB.ref (s.heap.objs.size+1)::(us++ds)):=.cons rfl (r.append hd)
 have hl:(aB.ref (s.heap.objs.size+1)::us++ds).length=ps.length:=by
  have e:=r2.length;rw[F.len _ _ _ _ hq] at e;exact e.symm
 refine wpAny_call (aFk (f:=f) I.kIn M.makes M.init (beq_iff_eq.mp M.fn) (IU (F.run _ X.stack _ _ ⟨aB.ref (s.heap.objs.size+1)::us,[]⟩ (aB.ref (s.heap.objs.size+1)::(us++ds)) _ _ E (hr.make C us [])
  (I2.env0.make C us []) (hb _ (aB.ref (s.heap.objs.size+1)::us) I2.kIn hl) r2 hq) fun r s' hq'=>?_))
 cases r with
 |error e=>exact hx aC σ _ _ e s' I2 hq'
 | ok fl =>
   cases fl with
   | ret u =>
     obtain⟨v,H',I3,rv,ev,q3⟩:=I2.after hq';subst ev;exact⟨rv,⟨V.ref (s.heap.objs.size+1),H',I3,rfl,q3⟩⟩
   |next=>exact False.elim hq'
   |brk=>exact False.elim hq'
   |cont=>exact False.elim hq'
theorem WN(M:Mk X.K C f)(F:FnOk X.prog X.w X.K X.mg X.base CX k f fd ps sp)(hr:Room (k+1) X.A)(hg:Gl X x)(hm:X.mg x=some (.ref C))(hb:Binds X.K fd ps ds)(hd:Vals dvs ds)(hx:CQ CX X E)(ha:PA X (e::es) t)(hdb:(x==("__debug__" : Str))=false:=by decide)(he:aL (e::es) X.env=(false,bY e X.env)::aL es X.env:=by rfl)(hpl:(dB pos (aL es X.env)).any (·.1)=false:=by rfl) :
  PE X (.Call (.Name x p) (e::es) [] pos) (tMake C sp dvs E t):=by
 intro aC s σ H Q I h;refine gX (AN I hg hm ?_ hdb);refine nL (h₀:=X.base) I.ok.mod.kin M.kp (thn (ha pos aC s σ H _ I h) fun us s1 ⟨vs,H1,I1,r,q⟩=>⟨I1.kIn,?_⟩) he hpl;exact QA M F hr hb hd hx I1 r q
theorem aEm(M:Mk X.K C f)(F:FnOk X.prog X.w X.K X.mg X.base CX k f fd ps sp)(hr:Room (k+1) X.A)(hg:Gl X x)(hm:X.mg x=some (.ref C))(hb:Binds X.K fd ps ds)(hd:Vals dvs ds)(hx:CQ CX X E)(hdb:(x==("__debug__" : Str))=false:=by decide):PE X (.Call (.Name x p) [] [] pos) (tMake C sp dvs E tNil):=by
 intro aC s σ H Q I h;refine gX (AN I hg hm ?_ hdb);exact OZ I.kIn M.kp (QA (us:=[]) M F hr hb hd hx I .nil h)
end
section
variable{X:Cx}{CX:CXT}{k:Nat}{f C:aA}{fd:aK}{ps ks:List Str}{sp:Sp}{E:XK}{x m:Str}{p pos apos kpos:Pos}{e o:Expr}{es:List Expr}{kws:List sV}{te ta:TE}{t tk:TA}{nm:Option Str}
variable{g:List aB->List aB->List aB}{gV:List V->List V->List V}
end
structure FnScope(N P:List Str)(sc:Scope):Prop where
 kind:sc.kind=.function:=by rfl
 co:sc.isCoroutine=false:=by rfl
 gen:sc.isGenerator=false:=by rfl
 nd:N.Nodup:=by decide +kernel
 pre:N.take P.length=P:=by rfl
 par:∀x∈P,sc.names.lookup x=some .local\/sc.names.lookup x=some .cell:=by decide +kernel
 nofree:∀y∈sc.names,y.2≠.free:=by decide +kernel
theorem ML{kindOf:Str->Option lD}{x:Str}:∀{binds:List (Str×aB)} {m:Str->Option aB},(∀v,(x,v)∉binds)->YH kindOf binds m x=m x
 |[],_,_=>rfl
 | (n, v) :: r, m, h => by
   unfold YH;rw[ML fun w hw=>h w (aG _ hw)]
   split
   . have : x ≠ n := by rintro rfl; exact h v aN
     simp[this]
   . rfl
theorem MN{kindOf:Str->Option lD}{x:Str}:∀{binds:List (Str×aB)} {m:Str->Option aB},(∀v,(x,v)∉binds)->YI kindOf binds m x=m x
 |[],_,_=>rfl
 | (n, v) :: r, m, h => by
   unfold YI;rw[MN fun w hw=>h w (aG _ hw)]
   split
   . rfl
   . have : x ≠ n := by rintro rfl; exact h v aN
     simp[this]
theorem MM{kindOf:Str->Option lD}{x:Str}{v:aB}:∀{P:List Str} {vs:List aB} {i:Nat} {m:Str->Option aB},P.Nodup->P[i]?=some x->vs[i]?=some v->kindOf x=some .local →
  YH kindOf (P.zip vs) m x=some v
 |[],_,_,_,_,h,_,_=>by simp at h
 |_::_,[],_,_,_,_,h,_=>by simp at h
 | p :: P, w :: vs, 0, m, nd, h1, h2, hk => by
   simp at h1 h2;subst h1;subst h2;show YH kindOf ((p,w)::P.zip vs) m p=_;unfold YH;rw[ML fun v hv=>(bR.mp nd).1 (FJ hv).1,if_pos hk];simp
 | p :: P, w :: vs, i + 1, m, nd, h1, h2, hk => by
   show YH kindOf ((p,w)::P.zip vs) m x=_;unfold YH;exact MM (i:=i) (bR.mp nd).2 (by simpa using h1) (by simpa using h2) hk
theorem MP{kindOf:Str->Option lD}{x:Str}{v:aB}:∀{P:List Str} {vs:List aB} {i:Nat} {m:Str->Option aB},P.Nodup->P[i]?=some x->vs[i]?=some v->kindOf x≠some .local →
  YI kindOf (P.zip vs) m x=some v
 |[],_,_,_,_,h,_,_=>by simp at h
 |_::_,[],_,_,_,_,h,_=>by simp at h
 | p :: P, w :: vs, 0, m, nd, h1, h2, hk => by
   simp at h1 h2;subst h1;subst h2;show YI kindOf ((p,w)::P.zip vs) m p=_;unfold YI;rw[MN fun v hv=>(bR.mp nd).1 (FJ hv).1,if_neg hk];simp
 | p :: P, w :: vs, i + 1, m, nd, h1, h2, hk => by
   show YI kindOf ((p,w)::P.zip vs) m x=_;unfold YI;exact MP (i:=i) (bR.mp nd).2 (by simpa using h1) (by simpa using h2) hk
noncomputable def start(N:List Str)(vs:List V):St:=vs.map some++List.replicate (N.length-vs.length) none
noncomputable def cxOf(CX:CXT)(P:bG)(w:bU)(K:aM)(mg:Str->Option aB)(base:Heap)(N:List Str)(qual:Str)(scope:Scope)(f:aA)(cd:aB)(A:bZ)(outer:List Env)(s:aE)(H:Hp)(E:XK):Cx where
 prog:=P
 w:=w
 K:=K
 mg:=mg
 base:=base
 A:=A.deeper (mJ qual scope s.heap.objs.size f cd)
 N:=N
 s₀:=s
 H₀:=H
 env:=mJ qual scope s.heap.objs.size f cd
 outer:=outer
 stack:=mJ qual scope s.heap.objs.size f cd::outer
 ex:=[]
 calm:=true
 fn:=fun _=>true
 pn:=[]
 xe:=fun e s'=>bL (bM P w) (A.deeper (mJ qual scope s.heap.objs.size f cd)) (leaving (mJ qual scope s.heap.objs.size f cd) e) (fun _ s''=>CX outer H s E e s'') (fun e' s''=>CX outer H s E e' s'') s'
theorem SG{sc:Scope}{n:Nat}{x:Str}(h:sc.names.lookup x=some .cell):∃c,(cellsFrom n sc.names []).lookup x=some c:=by
 have q:=KD sc.names n [] (.inl h);exact JC.mp q
theorem aAp{CX:CXT}{P:bG}{w:bU}{K:aM}{mg:Str->Option aB}{base:Heap}{N ps:List Str}{qual:Str}{scope:Scope}{f:aA}{cd:aB}{A:bZ}{outer:List Env}{s s1:aE}{H:Hp}{E:XK}{us:List aB}{vs:List V}(S:FnScope N ps scope)(hd:A.handled=none)(e0:Env0 P w K mg base A outer s H)(hl:vs.length=ps.length)(r:Vals vs us)(x:InCallC s s.heap.objs.size (YH (mJ qual scope s.heap.objs.size f cd).kindOf (ps.zip us) fun _=>none) (cellsFrom (s.heap.objs.size+1) scope.names []) (YI (mJ qual scope s.heap.objs.size f cd).kindOf (ps.zip us) fun _=>none) s1) :
  Inv (cxOf CX P w K mg base N qual scope f cd A outer s H E) [] (start N vs) H s1:=by
 have hpl:ps.length<=N.length:=by have:=congrArg List.length S.pre;rw[fN] at this;omega
 obtain⟨h1,tk,rfl,hk⟩:=x.done;have noA:∀b:aA,b∉(cxOf CX P w K mg base N qual scope f cd A outer s H E).ex:=fun b z=>absurd (show b∈([]:List aA) from z) (by simp)
 refine⟨⟨e0.mod,S.kind,rfl,rfl,aU _,fun y z c h1 h2=>?_,fun y hy=>?_,fun y c _ h=>?_,fun _=>hd,bZ.frames_deeper e0.frames,.inr ⟨rfl,rfl⟩,fun b z=>absurd z (noA b),e0.bs,e0.bsz,fun b _ _=>noA b,fun b z=>absurd z (noA b),e0.funs,e0.frf⟩,
  rfl,e0.bare,Un.kept hk,⟨_,x.toInCall.ns,fun i y v h1 h2 h3=>?_⟩,fun y c h=>⟨_,x.cell y c h⟩,e0.hok.fresh (aU _),fun y c h=>?_,fun p hp=>absurd (show p∈([]:List (aA×Obj)) from hp) (by simp),e0.hok.kept hk,?_⟩
 . exact name_of_addr x.apart (gI h1) (gI h2)
 . have hy : scope.names.lookup y = some .cell \/ scope.names.lookup y = some .free := hy;rcases hy with hy | hy
   . exact SG hy
   . exact absurd rfl (S.nofree _ (gI hy))
 . exact CY (x.above y c (gI h))
 . have hi:i<vs.length:=by
    unfold start at h2
    by_cases hi:i<vs.length
    . exact hi
    . rw [bV (by simpa using hi)] at h2;rw [dD] at h2
      split at h2<;>cases h2
   have ha:vs[i]?=some v:=by
    unfold start at h2;rw[aY (by simpa using hi),bE] at h2;cases e:vs[i]? with
    |none=>rw[e] at h2;cases h2
    |some a=>rw[e] at h2;cases h2;rfl
   obtain⟨u,hu,rv⟩:=r.get ha
   have hp:ps[i]?=some y:=by
    rw[<- S.pre,List.getElem?_take_of_lt (by omega)];exact h1
   have ndP:ps.Nodup:=by rw[<- S.pre];exact S.nd.sublist (List.take_sublist _ _)
   refine⟨u,rv,?_⟩;rcases S.par y (List.mem_of_getElem? hp) with k | k
   . exact .inl ⟨k,MM ndP hp hu k⟩
   . obtain⟨c, e⟩ := SG (n := s.heap.objs.size + 1) k;refine .inr ⟨.inl k,c,e,?_⟩;have q:=x.cell y c e;rw[MP ndP hp hu (by show scope.names.lookup y≠_;rw[k];decide)] at q;exact q
 . exact .inl (e0.hok.fresh (CY (x.above y c (gI h))))
 . unfold start;show _=N.length;rw[bP,aS,SO];omega
theorem fn_of{CX:CXT}{P:bG}{w:bU}{K:aM}{mg:Str->Option aB}{base:Heap}{k:Nat}{f:aA}{name qual:Str}{params:Arguments}{body:List Stmt}{scope:Scope}{dV kV doc pm cdv ct oc:aB}{an od:Option aA}{osl:Array (Option aB)}{N ps:List Str}{sp:Sp}(lk:K.lookup f=some ⟨oc,od,.func (dF name qual params body scope dV kV doc pm an cdv ct),osl⟩)(hcd:fG K cdv qual=true)(S:FnScope N ps scope)(len:∀vs H Q E,sp vs H Q E->vs.length=ps.length)(hbody:∀(A:bZ) (outer:List Env) (s:aE) (H:Hp) (vs:List V) (Q:VK) (E:XK),Room k (A.deeper (mJ qual scope s.heap.objs.size f cdv))->sp vs H Q E →
    ∃t,PSs (cxOf CX P w K mg base N qual scope f cdv A outer s H E) body t/\t { nx:=fun _ H'=>Q .non H',rt:=Q } (start N vs) H) :
  FnOk P w K mg base CX (k+1) f (dF name qual params body scope dV kV doc pm an cdv ct) ps sp:=by
 refine⟨len,fun A outer s H args us vs Q E hr e0 hb r hsp=>?_⟩;have hl:=len _ _ _ _ hsp;have KX:K.In s.heap:=e0.mod.kin.keeps fun b o e=>(e0.bs b o e).1;have lim:s.heap.NoLimit:=e0.mod.nolimit.keeps fun b o e=>(e0.bs b o e).1
 have hkind:∀y∈ps.zip us,scope.names.lookup y.1=some .local\/(scope.names.lookup y.1=some .cell/\((cellsFrom (s.heap.objs.size+1) scope.names []).lookup y.1).isSome=true):=fun⟨n,v⟩ hy=>by
  rcases S.par n (FJ hy).1 with q | q
  . exact .inl q
  . exact .inr ⟨q,KD _ _ _ (.inl q)⟩
 refine codeAny_call_function hr.depth (KX _ _ lk) rfl S.co S.gen rfl (PySem.W.codeRec_of KX hcd) (hb _ _ _ _ ?_);refine wpAny_newFunctionEnv_cells S.kind hkind fun env he s1 x=>?_;subst he;refine⟨lim.keeps x.toInCall.keep,codeAny_func ?_⟩;obtain⟨t,ht,hq⟩:=hbody A outer s H vs Q E (hr.deeper _) hsp;have I:Inv (cxOf CX P w K mg base N qual scope f cdv A outer s H E) [] (start N vs) H s1:=aAp S hr.hd e0 hl r x;refine gB (ht [] s1 (start N vs) H _ I hq) (fun fl s' hs=>?_) fun e s' hs=>hs
 have fin:∀{σ':St} {H':Hp} {v:V} {u:aB},Inv (cxOf CX P w K mg base N qual scope f cdv A outer s H E) [] σ' H' s'->RelV v u->Q v H'->CE outer P w H s Q u s' :=
  fun {σ' H' v u} J rv q=>⟨v,H',J.os,J.bare,J.base,J.hok,rv,q⟩
 cases fl with
 | ret u =>
   obtain⟨v,σ',H',J,rv,q⟩:=hs;exact fin J rv q
 | next =>
   obtain⟨σ',H',J,q⟩:=hs;exact fin (v:=V.non) (u:=aB.none) J rfl q
 | brk =>
   obtain⟨_,_,_,q⟩:=hs;exact False.elim q
 | cont =>
   obtain⟨_,_,_,q⟩:=hs;exact False.elim q
section
variable{X:Cx}{x:Str}{p pos:Pos}{e:Expr}{es:List Expr}{t:TA}{id T:String}{r:List V->Hp->VK->Prop}
def tCB(r:List V->Hp->VK->Prop)(t:TA):TE:=fun σ H Q=>t σ H fun vs H1=>r vs H1 Q
theorem vY(hc:CallR X (.builtin id) r)(hg:Gl X x)(hm:X.mg x=none)(hv:gJ x=some (.builtin id))(ha:PA X (e::es) t)(hn:x≠"__name__":=by decide)(hdb:(x==("__debug__" : Str))=false:=by decide)(he:aL (e::es) X.env=(false,bY e X.env)::aL es X.env:=by rfl)(hpl:(dB pos (aL es X.env)).any (·.1)=false:=by rfl):PE X (.Call (.Name x p) (e::es) [] pos) (tCB r t):=by
 intro aC s σ H Q I h;refine gX (uB I hg hm hv ?_ hn hdb);exact PyProof.Rows.callWith_builtin1 (thn (ha pos aC s σ H _ I h) fun us s1 ⟨vs,H1,I1,r1,q1⟩=>hc aC s1 σ H1 vs us Q I1 r1 q1) he hpl
theorem BR(hc:CallR X (.type T) r)(hg:Gl X x)(hm:X.mg x=none)(hv:gJ x=some (.type T))(ha:PA X (e::es) t)(hn:x≠"__name__":=by decide)(hdb:(x==("__debug__" : Str))=false:=by decide)(he:aL (e::es) X.env=(false,bY e X.env)::aL es X.env:=by rfl)(hpl:(dB pos (aL es X.env)).any (·.1)=false:=by rfl):PE X (.Call (.Name x p) (e::es) [] pos) (tCB r t):=by
 intro aC s σ H Q I h;refine gX (uB I hg hm hv ?_ hn hdb);exact eN (thn (ha pos aC s σ H _ I h) fun us s1 ⟨vs,H1,I1,r1,q1⟩=>hc aC s1 σ H1 vs us Q I1 r1 q1) he hpl
end
end L2
namespace HT
open PySem PyProof.Rows
section
open PySem.SeqAt
open PySem.AutoSeq1 (wpAny_loadPart')
open PySem.MeetsSeq PySem.MeetsSeq2 PySem.MeetsSeq3
end
section
variable{prog:bG}{w:bU}{A:bZ}{E:aB->aE->Prop}{s:aE}
end
end HT
namespace L2
open PySem PySem.Spec PyProof.Rows
abbrev TO:=St->Hp->(Option Int->Hp->Prop)->Prop
def PO(X:Cx)(e:Option Expr)(t:TO):Prop :=
 ∀(aC:List (aA×Obj)) (s:aE) (σ : St) (H:Hp) (Q:Option Int->Hp->Prop),Inv X aC σ H s->t σ H Q →
  bL (bM X.prog X.w) X.A (evalPart e X.env) (fun u s'=>∃o H',Inv X aC σ H' s'/\IsPart u o/\Q o H') X.xe s
def tNoPart:TO:=fun _ H Q=>Q none H
def tPart(t:TE):TO:=fun σ H Q=>t σ H fun x H1=>∃i,x=.int i/\Q (some i) H1
theorem UJ{ns:List Int}:∀{us:List aB},Vals (ns.map V.int) us->BI us ns:=by
 induction ns with
 |nil=>intro us r;rw[cH] at r;cases r;exact .nil
 | cons n ns ih =>
   intro us r;rw[aO] at r;cases r with
   | cons r1 r2 =>
     obtain⟨t,e⟩:=r1;subst e;exact .cons n t (ih r2)
section
variable{X:Cx}{e:Expr}{te:TE}{lo hi:Option Expr}{tl th:TO}{pos p2:Pos}
theorem po_none:PO X none tNoPart:=by
 intro aC s σ H Q I h;rw[evalPart_none];exact cA ⟨none,H,I,.none,h⟩
theorem po_some(h:PE X e te):PO X (some e) (tPart te):=by
 intro aC s σ H Q I hw;rw[evalPart_some];refine thn (h aC s σ H _ I hw) fun u s1 zq=>?_;obtain⟨x,H1,I1,r1,q1⟩:=zq;obtain⟨i,rfl,q⟩:=q1;obtain⟨t,rfl⟩:=r1;exact⟨some i,H1,I1,.int i t,q⟩
def SlR(X:Cx)(r:V->Option Int->Option Int->Hp->VK->Prop):Prop :=
 ∀(aC:List (aA×Obj)) (s:aE) (σ : St) (H:Hp) (x:V) (v vl vu:aB) (lo hi:Option Int) (sl:aA) (Q:VK),Inv X aC σ H s->RelV x v->s.heap.IsSliceOf sl vl vu .none->IsPart vl lo->IsPart vu hi->r x lo hi H Q →
  ∃T id,SK (.type T) "__getitem__" = pure (some (.builtin id))/\s.TypeIs v T/\bL (bM X.prog X.w) X.A (IT v (.ref sl)) (EP X aC σ Q) X.xe s
def tSl(r:V->Option Int->Option Int->Hp->VK->Prop)(te:TE)(tl th:TO):TE:=fun σ H Q=>te σ H fun x H1=>tl σ H1 fun l H2=>th σ H2 fun u H3=>r x l u H3 Q
theorem QQ{r:V->Option Int->Option Int->Hp->VK->Prop}(hr:SlR X r)(he:PE X e te)(hl:PO X lo tl)(hu:PO X hi th):PE X (.Subscript e (.Slice lo hi none p2) pos) (tSl r te tl th):=by
 intro aC s σ H Q I h;refine Subscript_ (thn (he aC s σ H _ I h) fun v s1 zq=>?_);obtain⟨x,H1,I1,r1,q1⟩:=zq;refine wpAny_Slice (thn (hl aC s1 σ H1 _ I1 q1) fun vl s2 ⟨l,H2,I2,pl,q2⟩=>thn (hu aC s2 σ H2 _ I2 q2) fun vu s3 zq=>?_);obtain⟨u,H3,I3,pu,q3⟩:=zq;rw[evalPart_none];refine cA ?_;have I4:Inv X aC σ H3 { s3 with heap:=s3.heap.push { cls:=.type "slice",data:=.fields #[vl,vu,.none] } }:=I3.kept (t':=s3.toks) fun b ob q=>aQ _ q;obtain⟨T,id,hT,ht,hg⟩:=hr aC { s3 with heap:=s3.heap.push { cls:=.type "slice",data:=.fields #[vl,vu,.none] } } σ H3 x v vl vu l u s3.heap.objs.size Q I4 r1 (Heap.IsSliceOf.new ..) pl pu q3;show bL (bM X.prog X.w) X.A (VE e (.Slice lo hi none p2) v (.ref s3.heap.objs.size)) (EP X aC σ Q) X.xe { s3 with heap:=s3.heap.push { cls:=.type "slice",data:=.fields #[vl,vu,.none] } };exact tail_any (ops:=[.ref s3.heap.objs.size,v]) ht hT hg (by with_unfolding_all rfl)
noncomputable def cutV(xs:List V)(lo hi:Option Int):List V:=(xs.drop (HT.sIx xs.length 0 lo)).take (HT.sIx xs.length xs.length hi-HT.sIx xs.length 0 lo)
theorem SF(xs:List V)(lo hi:Option Int):(cutV xs lo hi).length<=xs.length:=by
 unfold cutV;rw[fN,pW];omega
end
theorem XF{n:Nat}{i:Int}{j:Nat}(h:ixN n i=some j):seqIndex? i n=some j/\j<n/\-(n:Int)<=i/\i<n:=by
 unfold ixN at h
 by_cases h0:0<=i
 . rw [if_pos h0] at h
   by_cases h1:i<n
   . rw[if_pos h1] at h;have e:i.toNat=j:=Option.some.inj h;exact⟨by rw[seqIndex_of h0 h1,e],by omega,by omega,h1⟩
   . rw[if_neg h1] at h;cases h
 . rw [if_neg h0] at h
   by_cases h1 : -(n:Int)<=i
   . rw[if_pos h1] at h;have e:(i+n).toNat=j:=Option.some.inj h;exact⟨by rw[aBm (by omega) h1,e],by omega,h1,by omega⟩
   . rw[if_neg h1] at h;cases h
theorem OQ{α : Type}{xs:List α}{i:Int}{v : α}(h:atI xs i=some v):∃j,seqIndex? i xs.length=some j/\xs[j]?=some v/\j<xs.length/\-(xs.length:Int)<=i/\i<xs.length:=by
 unfold atI at h;cases e:ixN xs.length i with
 |none=>rw[e] at h;cases h
 | some j =>
   rw[e] at h;obtain⟨h1,h2,h3,h4⟩:=XF e;exact⟨j,h1,h,h2,h3,h4⟩
def YG(b:Expr):Prop:=∀o i,MT b false o i=operate [o,i] (IT o i)
def IxR(X:Cx)(r:R2):Prop :=
 ∀(value slice:Expr) (aC:List (aA×Obj)) (s:aE) (σ : St) (H:Hp) (x y:V) (v u:aB) (Q:VK),Inv X aC σ H s->RelV x v->RelV y u->r x y H Q →
  MT slice false v u=operate [v,u] (IT v u)->bL (bM X.prog X.w) X.A (VE value slice v u) (EP X aC σ Q) X.xe s
def MtR(X:Cx)(id:String)(r:V->List V->Hp->VK->Prop):Prop :=
 ∀(aC:List (aA×Obj)) (s:aE) (σ : St) (H:Hp) (x:V) (xs:List V) (v:aB) (us:List aB) (Q:VK),Inv X aC σ H s->RelV x v->Vals xs us->r x xs H Q →
  bL (bM X.prog X.w) X.A (call (.builtin id) (v::us)) (EP X aC σ Q) X.xe s
section
variable{X:Cx}{a b:Expr}{ta tb:TE}{pos:Pos}
theorem IxR.or{r r':R2}(h:IxR X r)(h':IxR X r'):IxR X (fun x y H Q=>r x y H Q\/r' x y H Q):=by
 intro value slice aC s σ H x y v u Q I rx ry q hs;rcases q with q | q
 . exact h value slice aC s σ H x y v u Q I rx ry q hs
 . exact h' value slice aC s σ H x y v u Q I rx ry q hs
theorem pe_ix{r:R2}(hr:IxR X r)(ha:PE X a ta)(hb:PE X b tb)(hs:YG b):PE X (.Subscript a b pos) (tOp r ta tb):=by
 intro aC s σ H Q I h;exact Subscript_ (binT ha hb I h fun v u s2 x y H2 I2 rx ry q=>hr a b aC s2 σ H2 x y v u Q I2 rx ry q (hs _ _))
noncomputable def rIxL(K:aM):R2:=fun x y H Q=>∃p xs i v,x=.ref p/\y=.int i/\SqL K H p xs/\atI xs i=some v/\Q v H
noncomputable def rIxT(K:aM):R2:=fun x y H Q=>∃p xs i v,x=.ref p/\y=.int i/\SqT K H p xs/\atI xs i=some v/\Q v H
noncomputable def rIxS:R2:=fun x y H Q=>∃z i c,x=.str z/\y=.int i/\z.length<=sizeLine/\atI z.cps.toList i=some c/\Q (.str ⟨#[c]⟩) H
theorem ix_list:IxR X (rIxL X.K):=by
 intro value slice aC s σ H x y v u Q I rx ry h hs;obtain⟨p,xs,i,z,rfl,rfl,hq,he,q⟩:=h;cases rx;obtain⟨t,rfl⟩:=ry;obtain⟨its,r,pl,hz⟩:=I.list hq;obtain⟨j,h1,h2,h3,h4,h5⟩:=OQ he;obtain⟨w,ew,rw'⟩:=r.get h2;have hl:=r.length;have hn:=uA;have fin:EP X aC σ Q w s:=⟨z,H,I,rw',q⟩
 by_cases h0:0<=i
 . have hj:i.toNat=j:=by
    rw[seqIndex_of h0 h5] at h1;exact Option.some.inj h1
   exact item_listR pl.isList h0 (by omega) (by rw[hj];simpa using ew) fin hs
 . have hj:(i+(its.toArray.size:Int)).toNat=j:=by
    rw[aBm (by omega) h4] at h1;rw[aZ,<- hl];exact Option.some.inj h1
   exact subscriptTail_builtinR (x:=w) pl.isList.typeIs slot_list_getitem.lookup
    (wpAny_getItem_list_neg (Q:=fun r s'=>r=w/\EP X aC σ Q r s') pl.isList (by omega) (by rw[aZ]<;>omega) (by omega) (by rw[hj];simpa using ew) ⟨rfl,fin⟩) hs
theorem ix_tup:IxR X (rIxT X.K):=by
 intro value slice aC s σ H x y v u Q I rx ry h hs;obtain⟨p,xs,i,z,rfl,rfl,hq,he,q⟩:=h;cases rx;obtain⟨t,rfl⟩:=ry;obtain⟨its,r,pl,hz⟩:=I.tuple hq;obtain⟨j,h1,h2,h3,h4,h5⟩:=OQ he;obtain⟨w,ew,rw'⟩:=r.get h2;have hl:=r.length;have hn:=uA;have fin:EP X aC σ Q w s:=⟨z,H,I,rw',q⟩
 exact subscriptTail_builtinR (x:=w) pl.typeIs slot_tuple_getitem.lookup
  (getItem_tuple (j:=j) (Q:=fun r s'=>r=w/\EP X aC σ Q r s') pl (by omega) (by omega) (by rw[aZ,<- hl];exact h1) (by simpa using ew) ⟨rfl,fin⟩) hs
theorem ix_str:IxR X rIxS:=by
 intro value slice aC s σ H x y v u Q I rx ry h hs;obtain⟨z,i,c,rfl,rfl,hz,he,q⟩:=h;obtain⟨t,rfl⟩:=rx;obtain⟨t',rfl⟩:=ry;obtain⟨j,h1,h2,h3,h4,h5⟩:=OQ he;have hl:z.cps.toList.length=z.length:=by simp[Str.length]
 rw[hl] at h1 h4 h5;have hn:=uA
 exact tail_any (typeIs_str s z t) slot_str_getitem.lookup (getItem_str (c:=c) (by
  have e1:decide (i < -(2 ^ 63:Int))=false:=decide_eq_false (by omega);have e2:decide (i≥2 ^ 63)=false:=decide_eq_false (by omega)
  rw[e1,e2,Bool.or_false]) (by rw[h1];simpa using h2) ⟨.str ⟨#[c]⟩,H,I.tok _,⟨_,rfl⟩,q⟩) hs
noncomputable def rIx(K:aM):R2:=fun x y H Q=>rIxL K x y H Q\/rIxT K x y H Q\/rIxS x y H Q
theorem ix_seq:IxR X (rIx X.K):=ix_list.or (ix_tup.or ix_str)
theorem UE(its:List aB)(n j:Nat)(u:aB):Obj.mapSeq (·.setIfInBounds j u) { cls:=.type "list",data:=.seq its.toArray n }={ cls:=.type "list",data:=.seq (its.set j u).toArray n }:=by
 simp[Obj.mapSeq]
theorem Inv.lst{aC:List (aA×Obj)}{σ : St}{H:Hp}{s:aE}{p:aA}{xs:List V}(I:Inv X aC σ H s)(h:H p=some (.lst xs)) :
  ∃(its:List aB) (n:Nat),Vals xs its/\s.heap.get? p=some { cls:=.type "list",data:=.seq its.toArray n }/\xs.length<=sizeLine:=by
 obtain⟨z,its,n,r,e⟩:=I.hok p _ h;exact⟨its,n,r,e,z⟩
theorem Inv.lstUpd{aC:List (aA×Obj)}{σ : St}{H:Hp}{s:aE}{p:aA}{xs ys:List V}{its its':List aB}{n n':Nat}{f:Obj->Obj}(I:Inv X aC σ H s)(h:H p=some (.lst xs))(ho:s.heap.get? p=some { cls:=.type "list",data:=.seq its.toArray n })(hf:f { cls:=.type "list",data:=.seq its.toArray n }={ cls:=.type "list",data:=.seq its'.toArray n' })(r:Vals ys its')(hz:ys.length<=sizeLine)(t:Nat) :
  Inv X aC σ (upd H p (.lst ys)) { s with heap:=s.heap.update p f,toks:=t }:=by
 have e:(s.heap.update p f).get? p=some { cls:=.type "list",data:=.seq its'.toArray n' }:=by
  rw[SR f ho (by rw[hf]<;>rfl),hf]
 refine I.write (x:=p) (e:=p) (by rw[h];trivial) (.inl rfl) (fun b u hb q=>(rL _ _ (Ne.symm hb)).trans q) ⟨_,e⟩ ?_;exact⟨hz,its',n',r,e⟩
def rSetL:V->V->V->Hp->(Hp->Prop)->Prop:=fun o i v H Q=>∃p xs k j,o=.ref p/\i=.int k/\H p=some (.lst xs)/\ixN xs.length k=some j/\Q (upd H p (.lst (xs.set j v)))
theorem aDd:PSet X rSetL:=by
 intro aC s σ H o i v ov iv u Q I ro ri rv h;obtain⟨p,xs,k,j,rfl,rfl,hp,hj,q⟩:=h;cases ro;obtain⟨t,rfl⟩:=ri;obtain⟨its,n,r,ho,hz⟩:=I.lst hp;obtain⟨h1,h2,h3,h4⟩:=XF hj;have hl:=r.length;have hn:=uA
 have I':Inv X aC σ (upd H p (.lst (xs.set j v))) { s with heap:=s.heap.update p (Obj.mapSeq (·.setIfInBounds j u)) }:=
  I.lstUpd hp ho (UE its n j u) (r.set rv j) (by rw[List.length_set];exact hz) s.toks
 by_cases h0:0<=k
 . have hk:k.toNat=j:=by
    rw[seqIndex_of h0 h4] at h1;exact Option.some.inj h1
   exact PySem.W.ki_setAt ho h0 (by omega) (by rw[aZ,<- hl];exact h4) (by rw[hk];exact⟨_,I',q⟩)
 . have hk:(k+(its.toArray.size:Int)).toNat=j:=by
    rw[aBm (by omega) h3] at h1;rw[aZ,<- hl];exact Option.some.inj h1
   exact PySem.W.ki_setBack ho (by omega) (by rw[aZ,<- hl];exact h3) (by omega) (by rw[hk];exact⟨_,I',q⟩)
theorem NA(lo hi:Option Int)(n:Nat):(oG lo hi none n).1=((HT.sIx n 0 lo:Nat):Int)/\(oG lo hi none n).2.1=((HT.sIx n n hi:Nat):Int)/\(oG lo hi none n).2.2=1:=by
 refine⟨?_,?_,rfl⟩
 . cases lo with
   |none=>simp[oG,HT.sIx]
   | some i =>
     simp only[oG,HT.sIx,YM,show(1:Int)>0 by decide,if_true]
     by_cases h:i<0
     . simp only[h,if_true]<;>omega
     . simp only[h,if_false]<;>omega
 . cases hi with
   |none=>simp[oG,HT.sIx]
   | some i =>
     simp only[oG,HT.sIx,YM,show(1:Int)>0 by decide,if_true]
     by_cases h:i<0
     . simp only[h,if_true]<;>omega
     . simp only[h,if_false]<;>omega
theorem JE(its:List aB)(lo hi:Option Int):slicePick its.toArray lo hi none=((its.drop (HT.sIx its.length 0 lo)).take (HT.sIx its.length its.length hi-HT.sIx its.length 0 lo)).toArray:=by
 obtain⟨h1,h2,h3⟩:=NA lo hi its.toArray.size;unfold slicePick;rw[h1,h2,h3];simp only[sliceRange_one,pick_run,aZ]<;>rfl
def rSlL(K:aM):V->Option Int->Option Int->Hp->VK->Prop:=fun x lo hi H Q=>∃a xs,x=.ref a/\SqL K H a xs/\∀p,H p=none->Q (.ref p) (upd H p (.lst (cutV xs lo hi)))
theorem sl_list:SlR X (rSlL X.K):=by
 intro aC s σ H x v vl vu lo hi sl Q I rx hs pl pu h;obtain⟨a,xs,rfl,hx,q⟩:=h;cases rx;obtain⟨its,r,ht,hz⟩:=I.list hx;have hlen:=r.length;refine⟨"list",_,slot_list_getitem.lookup,ht.isList.typeIs,?_⟩;refine wpAny_getItem_list_slice ht.isList hs pl pu .none (by simp) ?_ (by rw[aZ]<;>omega);rw[JE,<- hlen];refine⟨.ref s.heap.objs.size,_,I.laid (t':=s.toks) (o:=.lst (cutV xs lo hi)) (fun b ob q=>aQ _ q) (aU _) ?_,rfl,q _ (I.hok.fresh (aU _))⟩;exact⟨cL (SF xs lo hi) hz,_,0,(r.drop (HT.sIx xs.length 0 lo)).take (HT.sIx xs.length xs.length hi-HT.sIx xs.length 0 lo),bD _ rfl⟩
noncomputable def flatV:V->Bool
 | .non=>true
 | .bl _=>true
 | .int _=>true
 | .str _=>true
 |_=>false
noncomputable def eqV:V->V->Bool
 | .non,.non=>true
 | .bl a,.bl b=>a==b
 | .bl a,.int b=>(if a then 1 else 0)==b
 | .int a,.bl b=>a==(if b then 1 else 0)
 | .int a,.int b=>a==b
 | .str a,.str b=>a==b
 |_,_=>false
theorem eqAt_V{A:bZ}{s:aE}{y x:V}{u v:aB}(ry:RelV y u)(rx:RelV x v)(fy:flatV y=true)(fx:flatV x=true):SeqAt.EqAt A s u v (eqV y x):=by
 cases y with
 | non =>
   cases ry;cases x with
   |non=>cases rx;exact SeqAt.EqAt.same _
   |bl b=>cases rx;exact SeqAt.EqAt.none_bool b
   |int b=>obtain⟨t,rfl⟩:=rx;exact SeqAt.EqAt.none_int b t
   |str b=>obtain⟨t,rfl⟩:=rx;exact SeqAt.EqAt.none_str b t
   |_=>exact absurd (show false=true from fx) cV
 | bl a =>
   cases ry;cases x with
   |non=>cases rx;exact SeqAt.EqAt.bool_none a
   |bl b=>cases rx;exact SeqAt.EqAt.bool_bool a b
   |int b=>obtain⟨t,rfl⟩:=rx;exact SeqAt.EqAt.bool_int a b t
   |str b=>obtain⟨t,rfl⟩:=rx;exact SeqAt.EqAt.bool_str a b t
   |_=>exact absurd (show false=true from fx) cV
 | int a =>
   obtain⟨t',rfl⟩:=ry;cases x with
   |non=>cases rx;exact SeqAt.EqAt.int_none a t'
   |bl b=>cases rx;exact SeqAt.EqAt.int_bool a t' b
   |int b=>obtain⟨t,rfl⟩:=rx;exact SeqAt.EqAt.int_int a t' b t
   |str b=>obtain⟨t,rfl⟩:=rx;exact SeqAt.EqAt.int_str a t' b t
   |_=>exact absurd (show false=true from fx) cV
 | str a =>
   obtain⟨t',rfl⟩:=ry;cases x with
   |non=>cases rx;exact SeqAt.EqAt.str_none a t'
   |bl b=>cases rx;exact SeqAt.EqAt.str_bool a t' b
   |int b=>obtain⟨t,rfl⟩:=rx;exact SeqAt.EqAt.str_int a t' b t
   |str b=>obtain⟨t,rfl⟩:=rx;exact SeqAt.EqAt.str_str a t' b t
   |_=>exact absurd (show false=true from fx) cV
 |_=>exact absurd (show false=true from fy) cV
noncomputable def eqU(x:V)(u:aB):Bool:=match u with
 | .none=>eqV .non x
 | .bool b=>eqV (.bl b) x
 | .int i _=>eqV (.int i) x
 | .str z _=>eqV (.str z) x
 |_=>false
theorem aGb{x y:V}{u:aB}(r:RelV y u)(f:flatV y=true):eqU x u=eqV y x:=by
 cases y with
 |non=>cases r;rfl
 |bl b=>cases r;rfl
 |int i=>obtain⟨t,rfl⟩:=r;rfl
 |str z=>obtain⟨t,rfl⟩:=r;rfl
 |_=>exact absurd (show false=true from f) cV
theorem OU{x:V}:∀{xs:List V} {us:List aB},Vals xs us->xs.all flatV=true->us.any (eqU x)=xs.any fun y=>eqV y x
 |_,_,.nil,_=>rfl
 | y :: xs, u :: us, .cons r t, f => by
   rw[uL,bX] at f;rw[iU,iU,aGb r f.1,OU t f.2]
theorem GV{A:bZ}{s:aE}{x:V}{v:aB}(rx:RelV x v)(fx:flatV x=true):∀{xs:List V} {us:List aB},Vals xs us->xs.all flatV=true->∀u∈us,SeqAt.EqAt A s u v (eqU x u)
 |_,_,.nil,_=>fun u hu=>by cases hu
 | y :: xs, u :: us, .cons r t, f => fun u' hu => by
   rw[uL,bX] at f;rcases aD.mp hu with rfl | hu
   . rw[aGb r f.1];exact eqAt_V r rx f.1 fx
   . exact GV rx fx t f.2 u' hu
noncomputable def inV(x:V)(xs:List V):Bool:=xs.any fun y=>eqV y x
noncomputable def rIn(K:aM)(neg:Bool):R2:=fun x y H Q=>∃p xs,y=.ref p/\(SqL K H p xs\/SqT K H p xs)/\flatV x=true/\xs.all flatV=true/\Q (.bl (if neg then !inV x xs else inV x xs)) H
theorem ZP:OpR X (dJ .In) (rIn X.K false):=by
 intro aC s σ H x y v u Q I rx ry h;obtain⟨p,xs,rfl,hq,fx,fs,q⟩:=h;cases ry;rcases hq with hq | hq
 . obtain⟨its, r, pl, hz⟩ := I.list hq;refine SeqAt.in_listAt (eqU x) pl.isList (fun w hw=>GV rx fx r fs w (by simpa using hw)) ⟨.bl _,H,I,rfl,?_⟩;rw[show its.toArray.any (eqU x)=its.any (eqU x) by simp,OU r fs];exact q
 . obtain⟨its, r, pl, hz⟩ := I.tuple hq;refine SeqAt.in_tupleAt (eqU x) pl (fun w hw=>GV rx fx r fs w (by simpa using hw)) ⟨.bl _,H,I,rfl,?_⟩;rw[show its.toArray.any (eqU x)=its.any (eqU x) by simp,OU r fs];exact q
theorem OP:CallR X (.builtin "len") (fun xs H Q=>∃p ys,xs=[.ref p]/\(SqL X.K H p ys\/SqT X.K H p ys)/\Q (.int ys.length) H):=by
 intro aC s σ H xs us Q I r h;obtain⟨p,ys,rfl,hq,q⟩:=h;obtain⟨u,rfl,rx⟩:=vals1 r;cases rx;have hn:=uA;rcases hq with hq | hq
 . obtain⟨its, r', pl, hz⟩ := I.list hq;have hlen:=r'.length;exact Calls.call_len_list pl.isList (by simp only[aZ]<;>omega) ⟨.int ys.length,H,I.tok _,⟨s.toks+1,by rw[aZ,hlen]⟩,q⟩
 . obtain⟨its, r', pl, hz⟩ := I.tuple hq;have hlen:=r'.length;exact len_tuple pl (by simp only[aZ]<;>omega) ⟨.int ys.length,H,I.tok _,⟨s.toks+1,by rw[aZ,hlen]⟩,q⟩
theorem OO:CallR X (.builtin "len") (fun xs H Q=>∃z,xs=[.str z]/\z.length<=sizeLine/\Q (.int z.length) H):=by
 intro aC s σ H xs us Q I r h;obtain⟨z,rfl,hz,q⟩:=h;obtain⟨u,rfl,t,rfl⟩:=vals1 r;have hn:=uA;exact len_str (by omega) ⟨.int z.length,H,I.tok _,⟨_,rfl⟩,q⟩
theorem CallR.or{f:aB}{r r':List V->Hp->VK->Prop}(h:CallR X f r)(h':CallR X f r'):CallR X f (fun xs H Q=>r xs H Q\/r' xs H Q):=by
 intro aC s σ H xs us Q I rs q;rcases q with q | q
 . exact h aC s σ H xs us Q I rs q
 . exact h' aC s σ H xs us Q I rs q
theorem ON:CallR X (.type "list") (fun xs H Q=>∃p ys,xs=[.ref p]/\(SqL X.K H p ys\/SqT X.K H p ys)/\∀l,H l=none->Q (.ref l) (upd H l (.lst ys))):=by
 intro aC s σ H xs us Q I r h;obtain⟨p,ys,rfl,hq,q⟩:=h;obtain⟨u,rfl,rx⟩:=vals1 r;cases rx
 have fin:∀(its:List aB),Vals ys its->ys.length<=sizeLine->∀(h':Heap) (c':Nat),(∀b o',s.heap.get? b=some o'->h'.get? b=some o') →
   h'.get? s.heap.objs.size=some { cls:=.type "list",dict:=none,data:=.seq its.toArray c',slots:=#[] }->EP X aC σ Q (.ref s.heap.objs.size) { s with heap:=h' }:=fun its r' hz h' c' kp e =>
  ⟨.ref s.heap.objs.size,_,I.laid (t':=s.toks) kp (aU _) (show ObjOk X.prog X.w _ h' _ (.lst ys) from ⟨hz,its,c',r',e⟩),rfl,q _ (I.hok.fresh (aU _))⟩
 rcases hq with hq | hq
 . obtain⟨its, r', pl, hz⟩ := I.list hq;have hlen:=r'.length;obtain⟨o,ho,hc,n,hd⟩:=pl.isList;exact call_list_seq p (.inl rfl) ho hc hd (fun h' c' kp e=>fin its r' hz h' c' kp e) (by simp only[aZ]<;>omega)
 . obtain⟨its, r', pl, hz⟩ := I.tuple hq;have hlen:=r'.length;obtain⟨o,ho,hc,n,hd⟩:=pl;exact call_list_seq p (.inr rfl) ho hc hd (fun h' c' kp e=>fin its r' hz h' c' kp e) (by simp only[aZ]<;>omega)
def tyV(K:aM)(T:String)(x:V)(H:Hp):Prop:=match x with
 | .str _=>T = "str"
 | .int _=>T = "int"
 | .ref p=>(T = "list"/\∃xs,SqL K H p xs)\/(T = "tuple"/\∃o,K.lookup p=some o/\o.cls=.type "tuple"/\o.dict=none) ∨
    (T = "dict"/\((∃kvs,H p=some (.dK kvs))\/∃kvs,H p=some (.dT kvs)))\/(T = "set"/\∃S n,H p=some (.set S n))
 |_=>False
theorem aCq{aC:List (aA×Obj)}{σ : St}{H:Hp}{s:aE}{T:String}{x:V}{v:aB}(I:Inv X aC σ H s)(r:RelV x v)(ty:tyV X.K T x H) :
  s.TypeIs v T/\∀a,v=.ref a->∃ob,s.heap.get? a=some ob/\ob.dict=none:=by
 cases x with
 | str z =>
   obtain⟨t,rfl⟩:=r;cases(show T = "str" from ty);exact⟨typeIs_str s z t,fun _ e=>nomatch e⟩
 | int i =>
   obtain⟨t,rfl⟩:=r;cases(show T = "int" from ty);exact⟨typeIs_int s i t,fun _ e=>nomatch e⟩
 | ref p =>
   cases r;rcases ty with⟨rfl,xs,hq⟩ | ⟨rfl,o,hk,hc,hd⟩ | ⟨rfl,hk⟩ | ⟨rfl,S,n,hk⟩
   . obtain⟨its, _, pl, _⟩ := I.list hq;refine⟨pl.isList.typeIs,fun a e=>?_⟩;cases e;obtain⟨o,n,e,c,hd,_⟩:=pl;exact⟨o,e,hd⟩
   . refine⟨⟨o, I.kIn p o hk, hc⟩, fun a e => ?_⟩;cases e;exact⟨o,I.kIn _ o hk,hd⟩
   . have z:∃o,s.heap.get? p=some o/\o.ExactDict:=by
      rcases hk with⟨kvs,hk⟩ | ⟨kvs,hk⟩
      . obtain⟨_, _, _, _, o, _, _, e, ex, _⟩ := I.hok p _ hk;exact⟨o,e,ex⟩
      . obtain⟨_, _, _, _, o, _, _, e, ex, _⟩ := I.hok p _ hk;exact⟨o,e,ex⟩
     obtain⟨o,e,ex⟩:=z;refine⟨⟨o,e,ex.1⟩,fun a e2=>?_⟩;cases e2;exact⟨o,e,ex.2.1⟩
   . obtain⟨o, _, _, _, e, ex, _⟩ := I.hok p _ hk;refine⟨⟨o,e,ex.1⟩,fun a e2=>?_⟩;cases e2;exact⟨o,e,ex.2.1⟩
 |_=>exact False.elim ty
def tBM0(K:aM)(T:String)(r:V->List V->Hp->VK->Prop)(to:TE):TE:=fun σ H Q=>to σ H fun x H1=>tyV K T x H1/\r x [] H1 Q
def tBM(K:aM)(T:String)(r:V->List V->Hp->VK->Prop)(to:TE)(t:TA):TE:=fun σ H Q=>to σ H fun x H1=>tyV K T x H1/\t σ H1 fun xs H2=>r x xs H2 Q
variable{o e:Expr}{es:List Expr}{to:TE}{t:TA}{name:Str}{apos cpos:Pos}{T id:String}{r:V->List V->Hp->VK->Prop}
theorem pe_bm0(pa:PlainAttrs T)(slot:Slot T name id)(hty:typeOf (.builtin id)=pure (.type "method_descriptor"))(hm:MtR X id r)(ho:PE X o to)(hbase:eG o name X.env (bY o X.env)=bY o X.env:=by rfl)(hline:(apos.endLine==cpos.line)=true:=by rfl):PE X (.Call (.Attribute o name apos) [] [] cpos) (tBM0 X.K T r to):=by
 intro aC s σ H Q I h;refine wpAny_Call_method0_late hbase hline (thn (ho aC s σ H _ I h) fun v s1 zq=>?_);obtain⟨x,H1,I1,r1,ty,q1⟩:=zq;obtain⟨h1,h2⟩:=aCq I1 r1 ty;exact⟨T,id,pa,slot,hty,h1,h2,Calls.callWith_builtin rfl (SV (hm aC s1 σ H1 x [] v [] Q I1 r1 .nil q1))⟩
theorem aEr(pa:PlainAttrs T)(slot:Slot T name id)(hty:typeOf (.builtin id)=pure (.type "method_descriptor"))(hm:MtR X id r)(ho:PE X o to)(ha:PA X (e::es) t)(hbase:eG o name X.env (bY o X.env)=bY o X.env:=by rfl)(hfew:((dB cpos (aL (e::es) X.env)).all (fun x=>!x.1)&&(iO cpos (eV [] X.env)).all (fun x=>x.1.isSome)
    && decide ((e::es).length+([]:List sV).length+(if ([]:List sV).isEmpty then 0 else 1)<30))=true:=by rfl)(hline:(apos.endLine==cpos.line)=true:=by rfl)(hs:aL (e::es) X.env=(false,bY e X.env)::aL es X.env:=by rfl)(hplain:(dB cpos (aL es X.env)).any (·.1)=false:=by rfl) :
  PE X (.Call (.Attribute o name apos) (e::es) [] cpos) (tBM X.K T r to t):=by
 intro aC s σ H Q I h;refine wpAny_Call_method_late hbase hfew hline rfl (thn (ho aC s σ H _ I h) fun v s1 zq=>?_);obtain⟨x,H1,I1,r1,ty,q1⟩:=zq;obtain⟨h1,h2⟩:=aCq I1 r1 ty;refine⟨T,id,pa,slot,hty,h1,h2,?_⟩;have hA:=ha cpos aC s1 σ H1 _ I1 q1;rw[hs] at hA ⊢;refine Calls.callWith_builtin (by show(false||(dB cpos (aL es X.env)).any (·.1))=false;rw[hplain]<;>rfl) (Calls.evalArgs_plain ?_);exact thn hA fun us s2 ⟨vs,H2,I2,r2,q2⟩=>hm aC s2 σ H2 x vs v us Q I2 r1 r2 q2
/- xs.append(e),list.index on a module's tuple .. are MtR facts of 06m -/
end
def MtM(X:Cx)(id:String)(r:V->List V->Hp->VK->Prop):Prop :=
 ∀(aC:List (aA×Obj)) (s:aE) (σ : St) (H:Hp) (x:V) (xs:List V) (v:aB) (us:List aB) (Q:VK),Inv X aC σ H s->RelV x v->Vals xs us->r x xs H Q →
  bL (bM X.prog X.w) X.A (call (.builtin id) (v::us)) (EP X aC σ Q) X.xe s
theorem Vals.one:∀{x:V} {us:List aB},Vals [x] us->∃u,us=[u]/\RelV x u
 |_,_,.cons r .nil=>⟨_,rfl,r⟩
theorem Vals.zero:∀{us:List aB},Vals [] us->us=[]
 |_,.nil=>rfl
theorem Vals.dropLast{xs:List V}{us:List aB}(h:Vals xs us):Vals xs.dropLast us.dropLast:=by
 induction h with
 |nil=>exact .nil
 | cons r t ih =>
   cases t with
   |nil=>exact .nil
   |cons q t'=>exact .cons r ih
theorem Vals.reverse{xs:List V}{us:List aB}(h:Vals xs us):Vals xs.reverse us.reverse:=by
 induction h with
 |nil=>exact .nil
 |cons r t ih=>rw[gY,gY];exact Vals.append ih (.cons r .nil)
theorem US{α : Type}(l:List α):l.eraseIdx (l.length-1)=l.dropLast:=by
 induction l with
 |nil=>rfl
 | cons a r ih =>
   cases r with
   |nil=>rfl
   | cons b r =>
     have e:(a::b::r).length-1=((b::r).length-1)+1:=by
      have h1:(a::b::r).length=r.length+2:=rfl;have h2:(b::r).length=r.length+1:=rfl;omega
     rw[e,List.eraseIdx_cons_succ,ih]
     all_goals rfl
section
variable{X:Cx}{aC:List (aA×Obj)}{σ : St}{H:Hp}{s:aE}{l b:aA}{xs ys zs:List V}
theorem Inv.lset{its its':List aB}{n:Nat}{f:Array aB->Array aB}{t':Nat}(I:Inv X aC σ H s)(hH:H l=some (.lst xs))(e:s.heap.get? l=some { cls:=.type "list",data:=.seq its.toArray n })(hf:f its.toArray=its'.toArray)(hv:Vals ys its')(hz:ys.length<=sizeLine) :
  Inv X aC σ (upd H l (.lst ys)) { s with heap:=s.heap.update l (Obj.mapSeq f),toks:=t' }:=by
 have q:=PySem.IsL.update e f;rw[hf] at q;refine I.write (x:=l) (e:=l) (by rw[hH];exact trivial) (.inl rfl) (fun b' u hb hu=>(rL s.heap (Obj.mapSeq f) (Ne.symm hb)).trans hu) ⟨_,q⟩ ?_;exact⟨hz,its',_,hv,q⟩
theorem Inv.lnew{its:List aB}{t':Nat}(I:Inv X aC σ H s)(hv:Vals ys its)(hz:ys.length<=sizeLine) :
  Inv X aC σ (upd H s.heap.objs.size (.lst ys)) { s with heap:=s.heap.push { cls:=.type "list",data:=.seq its.toArray },toks:=t' }:=
 I.laid (fun _ _ q=>aQ _ q) (aU _) ⟨hz,its,0,hv,bD _ rfl⟩
theorem Inv.fresh(I:Inv X aC σ H s):H s.heap.objs.size=none:=I.hok.fresh (aU _)
theorem Inv.lstM(I:Inv X aC σ H s)(hH:H l=some (.lst xs)):xs.length<=sizeLine/\∃(its:List aB) (n:Nat),Vals xs its/\xs.length=its.length/\s.heap.get? l=some { cls:=.type "list",data:=.seq its.toArray n }:=by
 obtain⟨z,its,n,r,e⟩:=I.hok l _ hH;exact⟨z,its,n,r,r.length,e⟩
theorem aFa{n:Nat}(h:n<=sizeLine):Builtin.List.listTooLong n=false:=by
 unfold Builtin.List.listTooLong;exact decide_eq_false (by omega)
end
section
variable{X:Cx}
def rAppend:V->List V->Hp->VK->Prop:=fun x vs H Q=>∃l xs y,x=.ref l/\vs=[y]/\H l=some (.lst xs)/\xs.length<sizeLine/\Q .non (upd H l (.lst (xs++[y])))
theorem LV:MtM X "list.append" rAppend:=by
 intro aC s σ H x vs v us Q I rx rv h;obtain⟨l,xs,y,rfl,rfl,hH,hz,q⟩:=h;cases rx;obtain⟨u,rfl,ru⟩:=rv.one;obtain⟨z,its,n,r,hl,e⟩:=I.lstM hH;refine call_meets F.slot_list_append ⟨_,e,rfl⟩ F.entry_list_append (F.args_list_append_2 _ _) (PySem.list_append l its.toArray n u (by rw[aZ];omega)) ⟨e,?_⟩;refine⟨.non,_,I.lset (its':=its++[u]) hH e (by simp) (r.append (.cons ru .nil)) ?_,rfl,q⟩;rw[bP,rX];omega
def rExtend:V->List V->Hp->VK->Prop:=fun x vs H Q=>∃l b xs zs,x=.ref l/\vs=[.ref b]/\H l=some (.lst xs)/\H b=some (.lst zs)/\xs.length+zs.length<=sizeLine/\Q .non (upd H l (.lst (xs++zs)))
theorem ZZ:MtM X "list.extend" rExtend:=by
 intro aC s σ H x vs v us Q I rx rv h;obtain⟨l,b,xs,zs,rfl,rfl,hH,hB,hz,q⟩:=h;cases rx;obtain⟨u,rfl,ru⟩:=rv.one;cases ru;obtain⟨z,its,n,r,hl,e⟩:=I.lstM hH;obtain⟨z2,its2,n2,r2,hl2,e2⟩:=I.lstM hB;have hsz:its.toArray.size+its2.toArray.size<=sizeLine:=by rw[aZ,aZ];omega
 have hlong : ¬(!its.toArray.isEmpty&&Builtin.List.listTooLong (its.toArray.size+its2.toArray.size))=true:=by
  rw[aFa hsz,Bool.and_false];exact cV
 refine call_meets F.slot_list_extend ⟨_,e,rfl⟩ F.entry_list_extend (F.args_list_extend_2 _ _)
  (AutoSeq1.list_extend_list_list_0 l its.toArray n b its2.toArray n2 hlong (by rw[aZ];omega) (by omega)) ⟨e,e2,?_⟩
 refine⟨.non,_,I.lset (its':=its++its2) hH e (by simp) (r.append r2) ?_,rfl,q⟩;rw[bP];omega
def rPop:V->List V->Hp->VK->Prop:=fun x vs H Q=>∃l xs y,x=.ref l/\vs=[]/\H l=some (.lst xs)/\xs[xs.length-1]?=some y/\Q y (upd H l (.lst xs.dropLast))
theorem mt_pop:MtM X "list.pop" rPop:=by
 intro aC s σ H x vs v us Q I rx rv h;obtain⟨l,xs,y,rfl,rfl,hH,hy,q⟩:=h;cases rx;have hus:=rv.zero;subst hus;obtain⟨z,its,n,r,hl,e⟩:=I.lstM hH;obtain⟨u,hu,ru⟩:=r.get hy
 have hy':its.toArray[its.toArray.size-1]?=some u:=by
  show its.toArray[its.length-1]?=some u;rw[<- gW,<- hl];exact hu
 refine call_meets F.slot_list_pop ⟨_,e,rfl⟩ F.entry_list_pop (F.args_list_pop_1 _) (MeetsSeq.list_pop_last l its.toArray n u hy' (by rw[aZ];omega)) ⟨e,?_⟩;refine⟨y,_,I.lset (its':=its.dropLast) hH e ?_ r.dropLast ?_,ru,q⟩
 . show its.toArray.eraseIdxIfInBounds (its.toArray.size-1)=its.dropLast.toArray;rw[aZ,List.eraseIdxIfInBounds_toArray,US]
 . rw[List.length_dropLast];omega
end
section
variable{prog:bG}{w:bU}{A:bZ}{E:aB->aE->Prop}{s:aE}
end
section
variable{X:Cx}
end
section
variable{κ : Type}[DecidableEq κ]
noncomputable def valV(kvs:List (κ×V))(k : κ):Option V:=(kvs.find? fun kv=>decide (kv.1=k)).map (·.2)
noncomputable def putK(kvs:List (κ×V))(k : κ)(v:V):List (κ×V):=
 if (kvs.any fun kv=>decide (kv.1=k))=true then kvs.map (fun kv=>if kv.1=k then (kv.1,v) else kv) else kvs++[(k,v)]
noncomputable def dropK(kvs:List (κ×V))(k : κ):List (κ×V):=kvs.filter fun kv=>decide (kv.1≠k)
theorem kG{p : κ×V}{r:List (κ×V)}{k : κ}(e:p.1=k):valV (p::r) k=some p.2:=by simp[valV,eU,e]
theorem FU{p : κ×V}{r:List (κ×V)}{k : κ}(e : ¬p.1=k):valV (p::r) k=valV r k:=by simp[valV,eU,e]
theorem FV(k : κ):∀kvs:List (κ×V),(kvs.any fun kv=>decide (kv.1=k))=(valV kvs k).isSome
 |[]=>rfl
 | p :: r => by
   rw[iU]
   by_cases e:p.1=k
   . simp only[kG e,decide_eq_true e,Bool.true_or,Option.isSome_some]
   . rw[FU e,decide_eq_false e,Bool.false_or];exact FV k r
theorem DN(kvs:List (κ×V))(k : κ)(v:V):(putK kvs k v).length<=kvs.length+1:=by
 unfold putK
 split
 . rw[aS];omega
 . rw[bP,aJ,dH];omega
theorem putK_new{kvs:List (κ×V)}{k : κ}(v:V)(h:valV kvs k=none):putK kvs k v=kvs++[(k,v)]:=by
 unfold putK;rw[FV,h];exact if_neg (by decide)
theorem RelO.isSome_eq{o:Option V}{u:Option aB}(r:RelO o u):o.isSome=u.isSome:=by
 cases o with
 | none => cases u with
   |none=>rfl
   |some _=>exact(show False from r).elim
 | some _ => cases u with
   |none=>exact(show False from r).elim
   |some _=>rfl
theorem RelO.getD{o:Option V}{u:Option aB}{d:V}{d':aB}(r:RelO o u)(rd:RelV d d'):RelV (o.getD d) (u.getD d'):=by
 cases o with
 | none => cases u with
   |none=>exact rd
   |some _=>exact(show False from r).elim
 | some _ => cases u with
   |none=>exact(show False from r).elim
   |some _=>exact r
theorem KV.val{kvs:List (κ×V)}{vs:List (κ×aB)}(r:KV kvs vs)(k : κ):RelO (valV kvs k) (IS vs k):=by
 unfold KV at r
 induction r with
 |nil=>exact True.intro
 | @cons p q ps qs h t ih =>
   obtain⟨h1,h2⟩:=h
   by_cases e:p.1=k
   . have e' : q.1 = k := h1.symm.trans e;have b:IS (q::qs) k=some q.2:=by simp [IS,eU,e']
     rw[kG e,b];exact h2
   . have e' : ¬ q.1 = k := fun z => e (h1.trans z);have b:IS (q::qs) k=IS qs k:=by simp [IS,eU,e']
     rw[FU e,b];exact ih
theorem KV.any{kvs:List (κ×V)}{vs:List (κ×aB)}(r:KV kvs vs)(k : κ):(kvs.any fun kv=>decide (kv.1=k))=vs.any fun kv=>decide (kv.1=k):=by
 unfold KV at r
 induction r with
 |nil=>rfl
 |cons h t ih=>rw[iU,iU,ih,h.1]
theorem KV.repl{kvs:List (κ×V)}{vs:List (κ×aB)}(r:KV kvs vs)(k : κ){y:V}{u:aB}(ry:RelV y u) :
  KV (kvs.map fun kv=>if kv.1=k then (kv.1,y) else kv) (vs.map fun kv=>if kv.1=k then (kv.1,u) else kv):=by
 unfold KV at r ⊢
 induction r with
 |nil=>exact .nil
 | @cons p q ps qs h t ih =>
   rw[aO,aO];refine .cons ?_ ih;obtain⟨h1,h2⟩:=h
   by_cases e:p.1=k
   . rw[if_pos e,if_pos (h1.symm.trans e)];exact⟨h1,ry⟩
   . rw[if_neg e,if_neg (fun z=>e (h1.trans z))];exact⟨h1,h2⟩
theorem KV.put{kvs:List (κ×V)}{vs:List (κ×aB)}(r:KV kvs vs)(k : κ){y:V}{u:aB}(ry:RelV y u):KV (putK kvs k y) (stored vs k u):=by
 unfold putK stored;rw[r.any k]
 by_cases e:(vs.any fun kv=>decide (kv.1=k))=true
 . rw[if_pos e,if_pos e];exact r.repl k ry
 . rw[if_neg e,if_neg e];exact KG.snoc r ⟨rfl,ry⟩
theorem KV.drop{kvs:List (κ×V)}{vs:List (κ×aB)}(r:KV kvs vs)(k : κ):KV (dropK kvs k) (without vs k):=by
 unfold KV at r ⊢;unfold dropK without
 induction r with
 |nil=>exact .nil
 | @cons p q ps qs h t ih =>
   obtain⟨h1,h2⟩:=h;rw[aCm,aCm]
   by_cases e:p.1=k
   . have a : ¬ decide (p.1 ≠ k) = true := by simp [e]
     have b : ¬decide (q.1≠k)=true:=by simp[h1.symm.trans e]
     rw[if_neg a,if_neg b];exact ih
   . have e' : ¬ q.1 = k := fun z => e (h1.trans z);have a:decide (p.1≠k)=true:=by simp [e]
     have b:decide (q.1≠k)=true:=by simp[e']
     rw[if_pos a,if_pos b];exact .cons ⟨h1,h2⟩ ih
theorem KV.length{kvs:List (κ×V)}{vs:List (κ×aB)}(r:KV kvs vs):kvs.length=vs.length:=KG.length r
end
theorem XE{P:bG}{w:bU}{k:Key}{u:aB}(r:RelV (kV k) u):(gA P w).is k u=true:=by
 cases k with
 |inl i=>obtain⟨t,e⟩:=(show ∃t,u=aB.int i t from r);subst e;exact RA P w i t
 |inr x=>obtain⟨t,e⟩:=(show ∃t,u=aB.str x t from r);subst e;exact QZ P w x t
theorem MB{P:bG}{w:bU}:∀{ks:List Key} {us:List aB},Vals (ks.map kV) us->ItemsAre (gA P w) ks us
 |[],_,r=>by rw[cH] at r;cases r;exact .nil
 | k :: ks, _, r => by
   rw[aO] at r;cases r with
   |cons h t=>exact .cons (XE h) (MB t)
abbrev KT(H:Hp):List (List Key×V)->List (List Key×aA×aB)->Prop:=KG fun p q=>p.1=q.1/\H q.2.1=some (.tup (p.1.map kV))/\RelV p.2 q.2.2
theorem KT.val{H:Hp}{kvs:List (List Key×V)}{xs:List (List Key×aA×aB)}(r:KT H kvs xs)(k:List Key):RelO (valV kvs k) ((SM xs k).map (·.2)):=by
 induction r with
 |nil=>exact True.intro
 | @cons p q ps qs h t ih =>
   obtain⟨h1,_,h2⟩:=h
   by_cases e:p.1=k
   . have e' : q.1 = k := h1.symm.trans e;have b:SM (q::qs) k=some q.2:=by simp [SM,eU,e']
     rw[kG e,b];exact h2
   . have e' : ¬ q.1 = k := fun z => e (h1.trans z);have b:SM (q::qs) k=SM qs k:=by simp [SM,eU,e']
     rw[FU e,b];exact ih
theorem KT.repl{H:Hp}{kvs:List (List Key×V)}{xs:List (List Key×aA×aB)}(r:KT H kvs xs)(k:List Key){y:V}{u:aB}(ry:RelV y u) :
  KT H (kvs.map fun kv=>if kv.1=k then (kv.1,y) else kv) (xs.map (putAt k u)):=by
 induction r with
 |nil=>exact .nil
 | @cons p q ps qs h t ih =>
   rw[aO,aO];refine .cons ?_ ih;obtain⟨h1,h2,h3⟩:=h;unfold putAt
   by_cases e:p.1=k
   . rw[if_pos e,if_pos (h1.symm.trans e)];exact⟨h1,h2,ry⟩
   . rw[if_neg e,if_neg (fun z=>e (h1.trans z))];exact⟨h1,h2,h3⟩
theorem KT.put{H:Hp}{kvs:List (List Key×V)}{xs:List (List Key×aA×aB)}(r:KT H kvs xs)(k:List Key){b:aA}{y:V}{u:aB}(hb:H b=some (.tup (k.map kV)))(ry:RelV y u) :
  KT H (putK kvs k y) (storedH xs k b u):=by
 have e:(kvs.any fun kv=>decide (kv.1=k))=(SM xs k).isSome:=by
  rw[FV,(r.val k).isSome_eq,VI]
 unfold putK storedH;rw[e]
 by_cases q:(SM xs k).isSome=true
 . rw[if_pos q,if_pos q];exact r.repl k ry
 . rw[if_neg q,if_neg q];exact KG.snoc r ⟨rfl,hb,ry⟩
theorem KT.keeps{H H':Hp}{kvs:List (List Key×V)}{xs:List (List Key×aA×aB)}(r:KT H kvs xs)(ht:∀b ys,H b=some (.tup ys)->H' b=some (.tup ys)):KT H' kvs xs :=
 KG.mapP r fun _ _ z=>⟨z.1,ht _ _ z.2.1,z.2.2⟩
section
variable{P:bG}{w:bU}{H:Hp}{h:Heap}{a:aA}
theorem rd_of{u:HO}(ok:HOk P w H h)(e:Rd H a u):ObjOk P w H h a u:=e.ok ok
theorem II{kvs:List (Key×V)}(ok:HOk P w H h)(e:Rd H a (.dK kvs)):kvs.length<=sizeLine/\(a==iN)=false/\∃vs,KV kvs vs/\h.DictOf (gA P w) a vs :=
 show ObjOk P w H h a (.dK kvs) from rd_of ok e
theorem dk_of{kvs:List (Key×V)}(ok:HOk P w H h)(e:H a=some (.dK kvs)):kvs.length<=sizeLine/\(a==iN)=false/\∃vs,KV kvs vs/\h.DictOf (gA P w) a vs:=II ok (.inl e)
theorem NQ{ks:List Key}(ok:HOk P w H h)(e:H a=some (.tup (ks.map kV))):(KA (gA P w)).is h ks a:=by
 obtain⟨_,its,r,o,h1,h2,n,h3⟩:=(show ObjOk P w H h a (.tup (ks.map kV)) from ok a _ e)
 exact⟨o,its.toArray,n,h1,h2,h3,by simpa using MB r⟩
theorem XY{kvs:List (List Key×V)}(ok:HOk P w H h)(e:Rd H a (.dT kvs)):kvs.length<=sizeLine/\(a==iN)=false ∧
  ∃xs,KT H kvs xs/\h.DictOfH (KA (gA P w)) a xs:=by
 obtain⟨z,y,xs,r,o,es,ep,h1,h2,h3,h4,h5⟩:=(show ObjOk P w H h a (.dT kvs) from rd_of ok e)
 refine⟨z,y,xs,r,o,es,ep,h1,h2,h3,h4,fun x hx=>?_,h5⟩
 have all:∀{l:List (List Key×V)} {m:List (List Key×aA×aB)},KT H l m->∀x∈m,(KA (gA P w)).is h x.1 x.2.1:=by
  intro l m q
  induction q with
  |nil=>intro x hx;exact nomatch hx
  | @cons p q ps qs hq t ih =>
    intro x hx;rcases aD.mp hx with e | hx
    . subst e;exact NQ ok (by rw[<- hq.1];exact hq.2.1)
    . exact ih x hx
 exact all r x hx
theorem dt_of{kvs:List (List Key×V)}(ok:HOk P w H h)(e:H a=some (.dT kvs)):kvs.length<=sizeLine/\(a==iN)=false ∧
  ∃xs,KT H kvs xs/\h.DictOfH (KA (gA P w)) a xs:=XY ok (.inl e)
end
def DGet(H:Hp)(a:aA)(y:V)(r:Option V):Prop :=
 (∃kvs k,Rd H a (.dK kvs)/\y=kV k/\r=valV kvs k)\/∃kvs k b,Rd H a (.dT kvs)/\y=.ref b/\H b=some (.tup (k.map kV))/\r=valV kvs k
def DPut(H:Hp)(a:aA)(y v:V)(H':Hp):Prop :=
 (∃kvs k,H a=some (.dK kvs)/\y=kV k/\kvs.length<sizeLine/\H'=upd H a (.dK (putK kvs k v))) ∨
 ∃kvs k b,H a=some (.dT kvs)/\y=.ref b/\H b=some (.tup (k.map kV))/\kvs.length<sizeLine/\H'=upd H a (.dT (putK kvs k v))
theorem DGet.t{H:Hp}{a b:aA}{kvs:List (List Key×V)}{k:List Key}(e:H a=some (.dT kvs))(eb:H b=some (.tup (k.map kV))):DGet H a (.ref b) (valV kvs k):=.inr ⟨kvs,k,b,.inl e,rfl,eb,rfl⟩
theorem DPut.k{H:Hp}{a:aA}{kvs:List (Key×V)}{k:Key}{v:V}(e:H a=some (.dK kvs))(hl:kvs.length<sizeLine):DPut H a (kV k) v (upd H a (.dK (putK kvs k v))):=.inl ⟨kvs,k,e,rfl,hl,rfl⟩
theorem DPut.t{H:Hp}{a b:aA}{kvs:List (List Key×V)}{k:List Key}{v:V}(e:H a=some (.dT kvs))(eb:H b=some (.tup (k.map kV)))(hl:kvs.length<sizeLine) :
  DPut H a (.ref b) v (upd H a (.dT (putK kvs k v))):=.inr ⟨kvs,k,b,e,rfl,eb,hl,rfl⟩
section
variable{X:Cx}{aC:List (aA×Obj)}{σ : St}{H:Hp}{s:aE}{a:aA}{y v:V}{u r:aB}{o:Option V}{A:bZ}{E:aB->aE->Prop}
theorem Inv.big(I:Inv X aC σ H s):iN<s.heap.objs.size:=by
 have h:aP<s.heap.objs.size:=(I.mod.glob.keeps I.bk).lt;exact Nat.lt_trans (by decide) h
theorem aBc{Q:aB->aE->Prop}(hu:A.units+1<cLine)(I:Inv X aC σ H s)(g:DGet H a y (some v))(ry:RelV y u)(h:∀w' s',Inv X aC σ H s'->RelV v w'->Q w' s') :
  bL (bM X.prog X.w) A (IT (.ref a) u) Q E s:=by
 rcases g with⟨kvs,k,e,ey,l⟩ | ⟨kvs,k,b,e,ey,eb,l⟩
 . subst ey;obtain⟨z,hd,vs,rel,dd⟩:=II I.hok e;obtain⟨w',hw,rw'⟩:=RelO.some_of (v:=v) (o:=IS vs k) (by rw[l];exact rel.val k);exact wpAny_getItem_of (XE ry) dd.mapOf hw (h w' _ (I.tok _) rw')
 . subst ey;cases(show u=aB.ref b from ry);obtain⟨z,hd,xs,rel,dd⟩:=XY I.hok e;obtain⟨w',hw,rw'⟩:=RelO.some_of (v:=v) (o:=(SM xs k).map (·.2)) (by rw[l];exact rel.val k);obtain⟨p,hp,hp2⟩:=eZ.mp hw;refine wpAny_getItem_heap (EG hu) (NQ I.hok eb) dd hp ?_;rw[hp2];exact h w' _ (I.tok _) rw'
theorem d_notIn{Q:aB->aE->Prop}(hu:A.units+1<cLine)(I:Inv X aC σ H s)(g:DGet H a y o)(ry:RelV y u)(h:∀s',Inv X aC σ H s'->Q (.bool (!o.isSome)) s') :
  bL (bM X.prog X.w) A (dJ .NotIn u (.ref a)) Q E s:=by
 rcases g with⟨kvs,k,e,ey,l⟩ | ⟨kvs,k,b,e,ey,eb,l⟩
 . subst ey;obtain⟨z,hd,vs,rel,dd⟩:=II I.hok e;refine wpAny_notIn_of (XE ry) hd dd.mapOf ?_;rw[<- (rel.val k).isSome_eq,<- l];exact h _ (I.tok _)
 . subst ey;cases(show u=aB.ref b from ry);obtain⟨z,hd,xs,rel,dd⟩:=XY I.hok e;refine wpAny_notIn_heap (EG hu) (NQ I.hok eb) hd dd ?_;have q:=(rel.val k).isSome_eq;rw[VI] at q;rw[<- q,<- l];exact h _ (I.tok _)
theorem OI{h':Heap}{t':Nat}{ob:HO}(I:Inv X aC σ H s)(mu:Mut (H a))(hs:Heap.SameBut a s.heap h')(he:∃q,h'.get? a=some q)(new:ObjOk X.prog X.w (upd H a ob) h' a ob) :
  Inv X aC σ (upd H a ob) { s with heap:=h',toks:=t' }:=
 I.write (x:=a) (e:=a) mu (.inl rfl) (fun b q hb z=>(hs.2 b hb).trans z) he new
theorem aGm{P:bG}{w:bU}{H':Hp}{h':Heap}{kvs:List (Key×V)}{vs:List (Key×aB)}(z:kvs.length<=sizeLine)(hd:(a==iN)=false)(rel:KV kvs vs)(dd:h'.DictOf (gA P w) a vs) :
  ObjOk P w H' h' a (.dK kvs):=⟨z,hd,vs,rel,dd⟩
theorem aBb{H':Hp}{Q:Unit->aE->Prop}(hu:A.units+1<cLine)(I:Inv X aC σ H s)(g:DPut H a y v H')(ry:RelV y u)(rv:RelV v r)(h:∀s',Inv X aC σ H' s'->Q () s') :
  bL (bM X.prog X.w) A (setItem (.ref a) u r) Q E s:=by
 rcases g with⟨kvs,k,e,ey,l,eH⟩ | ⟨kvs,k,b,e,ey,eb,l,eH⟩
 . subst ey eH;obtain ⟨z,hd,vs,rel,dd⟩:=dk_of I.hok e;have hz:vs.length<=sizeLine:=by rw [<- rel.length]; exact z
   have hl:(putK kvs k v).length<=sizeLine:=by have:=DN kvs k v;omega
   refine wpAny_setItem_pairs (hsz:=hz) (XE ry) dd fun h' dd' hs=>h _ ?_;have he:∃q,h'.get? a=some q:=let ⟨q,_,_,hq,_⟩:=dd';⟨q,hq⟩;exact OI I (by rw[e];exact True.intro) hs he (aGm hl hd (rel.put k rv) dd')
 . subst ey eH;cases (show u=aB.ref b from ry);obtain ⟨z,hd,xs,rel,dd⟩:=dt_of I.hok e;have hz:xs.length<=sizeLine:=by rw [<- KG.length rel]; exact z
   have hl:(putK kvs k v).length<=sizeLine:=by have:=DN kvs k v;omega
   refine wpAny_setItem_heap (hsz:=hz) (EG hu) (NQ I.hok eb) dd fun h' dd' hs=>h _ ?_;obtain⟨q,es,ep,hq,h2,h3,h4,_,h5⟩:=dd';refine OI I (by rw[e];exact True.intro) hs ⟨q,hq⟩ ⟨hl,hd,_,(rel.put k eb rv).keeps fun c ys ec=>?_,q,es,ep,hq,h2,h3,h4,h5⟩;rw[upd_ne (ne_of ec e (fun z=>nomatch z))];exact ec
end
section
variable{X:Cx}{aC:List (aA×Obj)}{σ : St}{H:Hp}{s:aE}{a:aA}{kvs:List (Key×V)}{k:Key}{u:aB}{A:bZ}{E:aB->aE->Prop}
end
def NoSl(i:Expr):Prop:=∀ov iv,MT i false ov iv=operate [ov,iv] (IT ov iv)
theorem subD_of{prog:bG}{w:bU}{A:bZ}{E:aB->aE->Prop}{s:aE}{env:Env}{value slice:Expr}{pos:Pos}{T id:String}{Q:aB->aE->Prop}(hl:SK (.type T) "__getitem__" = pure (some (.builtin id)))(hs:NoSl slice)(h:bL (bM prog w) A (bY value env) (fun o s₁=>bL (bM prog w) A (bY slice env) (fun i s₂=>s₂.TypeIs o T/\bL (bM prog w) A (IT o i) Q E s₂) E s₁) E s) :
  bL (bM prog w) A (bY (.Subscript value slice pos) env) Q E s:=by
 refine Subscript_ (gB h (fun o s₁ h₁=>gB h₁ (fun i s₂ h₂=>?_) fun _ _ x=>x) fun _ _ x=>x);obtain⟨hT,h₂⟩:=h₂;unfold VE;refine bC ?_;rw[getitemInPython_of_ne hT.not_modules];refine bC (tY hT hl ?_)
 have fin:bL (bM prog w) A (MT slice false o i) (fun r s₃=>bL (bM prog w) A (letTemporaryGo value o r >>= fun _=>pure r) Q E s₃) E s₂:=by
  rw[hs o i];exact wpAny_operating (gB h₂ (fun r s₃ h₃=>bC (wpAny_letTemporaryGo (cA h₃))) fun _ _ x=>x)
 first
  |exact cA (bC fin)
  |exact bC (cA (bC fin))
  |exact bC fin
theorem SE{X:Cx}{aC:List (aA×Obj)}{σ : St}{H:Hp}{s:aE}{a:aA}{y:V}{o:Option V}(I:Inv X aC σ H s)(g:DGet H a y o):s.TypeIs (.ref a) "dict":=by
 rcases g with⟨kvs,k,e,_,_⟩ | ⟨kvs,k,b,e,_,_,_⟩
 . obtain⟨_, _, vs, _, dd⟩ := II I.hok e;exact dd.typeIs
 . obtain⟨_, _, xs, _, dd⟩ := XY I.hok e;exact dd.typeIs
def tDGet(td ty:TE):TE:=fun σ H Q=>td σ H fun x H1=>ty σ H1 fun y H2=>∃a v,x=.ref a/\DGet H2 a y (some v)/\Q v H2
def tDNotIn(ty td:TE):TE:=fun σ H Q=>ty σ H fun y H1=>td σ H1 fun x H2=>∃a o,x=.ref a/\DGet H2 a y o/\Q (.bl (!o.isSome)) H2
def sDPut(td ty tv:TE):TS:=fun D σ H=>tv σ H fun v H1=>td σ H1 fun x H2=>ty σ H2 fun y H3=>∃a H4,x=.ref a/\DPut H3 a y v H4/\D.nx σ H4
section
variable{X:Cx}{o i e value:Expr}{pos pos' tpos:Pos}{td ty tv:TE}
theorem pe_dget(hu:X.A.units+1<cLine)(ho:PE X o td)(hi:PE X i ty)(hs:NoSl i):PE X (.Subscript o i pos) (tDGet td ty):=by
 intro aC s σ H Q I h;refine subD_of PySem.F.slot_dict_getitem.lookup hs (thn (ho aC s σ H _ I h) fun u s1 ⟨x,H1,I1,rx,q1⟩=>thn (hi aC s1 σ H1 _ I1 q1) fun iv s2 zq=>?_);obtain⟨y,H2,I2,ry,a,v,ex,g,q2⟩:=zq;subst ex;obtain rfl:u=aB.ref a:=rx;exact⟨SE I2 g,aBc hu I2 g ry fun w' s3 I3 rw'=>⟨v,H2,I3,rw',q2⟩⟩
theorem ZM(hu:X.A.units+1<cLine)(hi:PE X i ty)(ho:PE X o td):PC X .NotIn i o (tDNotIn ty td):=by
 intro aC s σ H Q I h;refine thn (hi aC s σ H _ I h) fun iv s1 ⟨y,H1,I1,ry,q1⟩=>thn (ho aC s1 σ H1 _ I1 q1) fun u s2 zq=>?_;obtain⟨x,H2,I2,rx,a,ov,ex,g,q2⟩:=zq;subst ex;obtain rfl:u=aB.ref a:=rx;exact d_notIn hu I2 g ry fun s3 I3=>⟨.bl (!ov.isSome),H2,I3,rfl,q2⟩
theorem ps_dput(hu:X.A.units+1<cLine)(ho:PE X o td)(hi:PE X i ty)(hv:PE X value tv)(hs:dI value (some (.Subscript o i pos')) pos.line X.env=pure false) :
  PS X (.Assign [.Subscript o i pos'] value pos) (sDPut td ty tv):=by
 intro aC s σ H D I h;refine wpAny_Assign_Subscript (thn (hv aC s σ H _ I h) fun r s1 ⟨v,H1,I1,rv,q1⟩=>thn (ho aC s1 σ H1 _ I1 q1) fun u s2 ⟨x,H2,I2,rx,q2⟩=>thn (hi aC s2 σ H2 _ I2 q2) fun iv s3 zq=>?_) hs;obtain⟨y,H3,I3,ry,a,H4,ex,g,q3⟩:=zq;subst ex;obtain rfl:u=aB.ref a:=rx;exact aBb hu I3 g ry rv fun s4 I4=>⟨σ,H4,I4,q3⟩
end
theorem aGn{P:bG}{w:bU}{H:Hp}(h:Heap)(hb:iN<h.objs.size):ObjOk P w H (h.push { cls:=.type "dict",data:=.dict #[] }) h.objs.size (.dK []):=
 ⟨dP _,beq_eq_false_iff_ne.mpr (Ne.symm (bO hb)),[],.nil,Heap.DictOf.new h⟩
def tDNewK:TE:=fun _ H Q=>∀p,H p=none->Q (.ref p) (upd H p (.dK []))
section
variable{X:Cx}{pos:Pos}
theorem QR:PE X (.Dict [] [] pos) tDNewK:=fun aC s σ H Q I h =>
 wpAny_Dict_empty ⟨.ref s.heap.objs.size,_,I.laid (a:=s.heap.objs.size) (o:=.dK []) (t':=s.toks) (fun _ _ q=>aQ _ q) (aU _) (aGn s.heap I.big),rfl,h _ (I.hok.fresh (aU _))⟩
end
section
variable{X:Cx}{aC:List (aA×Obj)}{σ : St}{H:Hp}{s:aE}{a:aA}{y d:V}{u r:aB}{o:Option V}{A:bZ}{E:aB->aE->Prop}
end
section
variable{X:Cx}{o e f:Expr}{apos cpos:Pos}{td ty tx:TE}
end
section
variable{X:Cx}{aC:List (aA×Obj)}{σ : St}{H:Hp}{s:aE}{a:aA}{kvs:List (Key×V)}{A:bZ}{E:aB->aE->Prop}
theorem aGp{Q:aB->aE->Prop}(I:Inv X aC σ H s)(e:Rd H a (.dK kvs))(h:∀p s',H p=none->Inv X aC σ (upd H p (.dK kvs)) s'->Q (.ref p) s'):bL (bM X.prog X.w) A (call (.type "dict") [.ref a]) Q E s:=by
 obtain⟨z,hd,vs,rel,dd⟩:=II I.hok e;refine kt_call_dict hd dd (by rw[<- rel.length];exact z) fun h' dd' hs=>?_;refine h _ _ (I.hok.fresh (aU _)) (I.laid (a:=s.heap.objs.size) (o:=.dK kvs) (t':=s.toks) (fun b q hq=>?_) (aU _) (aGm z (beq_eq_false_iff_ne.mpr (Ne.symm (bO I.big))) rel dd'));exact(hs.2 b (bO (bF hq))).trans (aQ _ hq)
end
section
variable{X:Cx}{aC:List (aA×Obj)}{σ : St}{H:Hp}{s:aE}{a:aA}{y:V}{u:aB}{A:bZ}{E:aB->aE->Prop}
end
end L2
namespace Att
open PySem PySem.W PySem.Calls PyProof.Rows
theorem DT{P:Params}{h:Heap}:∀(ns:List Int) (vs:List aB),WellAll P h vs (ns.map WData.int)->BI vs ns:=by
 intro ns
 induction ns with
 | nil =>
   intro vs w;rw[cH] at w;cases w;exact .nil
 | cons n ns ih =>
   intro vs w;rw[aO] at w;cases w with
   | cons a b =>
     cases a;exact .cons _ _ (ih _ b)
theorem YY{l:OpenLaw}{n:Nat}(hn:l.most=some n){P:Params}{h:Heap}{args:List WData}{vals:List aB}(hpre:l.row.toRowW.claim.pre args=true)(hwl:WellAll P h vals args) :
  ∃a vs ns,vals=[aB.ref a]/\args=[WData.list (ns.map WData.int)]/\h.get? a=some { cls:=.type "list",data:=.seq vs.toArray }/\BI vs ns/\ns.length<=n:=by
 have hsh:WShape.hasAll [] args [.list .int]=true:=(pre_splitW hpre).1;have hc:l.pre.holds [] { args:=args }=true:=(pre_splitW hpre).2;obtain⟨d,r,rfl,h1,h2⟩:=hasAllW_cons hsh;obtain rfl:=hasAllW_nil h2;obtain⟨xs,rfl,h3⟩:=hasW_list h1;obtain⟨ns,rfl⟩:=items_int h3
 have hlen:ns.length<=n:=by
  unfold OpenLaw.pre at hc
  have h4:(WTm.not (.lt (.lit (.int (n:Int))) (.len (.arg 0)))).holds [] { args:=[.list (ns.map .int)] }=true:=by
   have h4:=(holds_andW hc).1;rw[hn] at h4;exact h4
  have h5:=condW_of h4 (w_not (w_lt w_lit (w_len_list (w_arg rfl))));rw[aS] at h5;refine Nat.le_of_not_lt fun q=>?_;have q':(n:Int)<((ns.length:Nat):Int):=by omega
  first
   |(rw[decide_eq_true q'] at h5;exact absurd h5 (by decide))
   |(simp at h5;omega)
 cases hwl with
 | cons w1 w2 =>
   cases w2;cases w1 with
   |list ho hall=>exact⟨_,_,ns,rfl,rfl,ho,DT ns _ hall,hlen⟩
theorem ZI(l:OpenLaw)(args:List WData):l.row.toRowW.claim.post args (.bool true) args=true :=
 postW_of (r:=l.row.toRowW) (X:=(true==true))
  (show WShape.has [] (.bool true) .bool=true by first | rfl | decide | simp[WShape.has,WShape.arms,WShape.armsAll])
  (show(WTm.eq .res (.lit (.bool true))).value [] { args:=args,res:=some (.bool true),after:=args }=some (.bool (true==true)) from w_eq_bool (w_res rfl) w_lit) rfl
section
variable{prog:bG}{w:bU}{A:bZ}{E:aB->aE->Prop}{s:aE}{K:Frag}
end
end Att
namespace L2
open PySem PySem.Spec PyProof.Rows
theorem KR:∀{vs:List aB} {ns:List Int},BI vs ns->Vals (ns.map V.int) vs
 |_,_,.nil=>.nil
 |_,_,.cons n t h=>.cons ⟨t,rfl⟩ (KR h)
noncomputable def aR(s:Stmt)(j:Nat):Stmt:=match s with
 | .ClassDef _ _ _ body _ _ _ _ _ _ _=>body.getD j (.Pass ⟨0,0,0,0⟩)
 |_=>.Pass ⟨0,0,0,0⟩
noncomputable def yK(s:Stmt):Arguments:=match s with
 | .FunctionDef _ a _ _ _ _ _ _ _ _=>a
 |_=>{ posonlyargs:=[],args:=[],vararg:=none,kwonlyargs:=[],kw_defaults:=[],kwarg:=none,defaults:=[] }
noncomputable def jH(s:Stmt):List Stmt:=match s with
 | .FunctionDef _ _ b _ _ _ _ _ _ _=>b
 |_=>[]
noncomputable def zJ(s:Stmt):Scope:=match s with
 | .FunctionDef _ _ _ _ _ _ sc _ _ _=>sc
 |_=>{ kind:=.function,names:=[],isGenerator:=false,isCoroutine:=false }
abbrev CX0:CXT:=fun _ _ _ _ _ _=>False
abbrev E0:XK:=fun _ _ _=>False
theorem pass0{X:Cx}: CQ CX0 X E0:=fun _ _ _ _ _ _ _ h=>h.elim
structure Fun(K:aM)(x qual:Str)(st:Stmt)(f:aA)(fd:aK):Prop where
 ex:∃(oc:aB) (od:Option aA) (kV doc pm:aB) (an:Option aA) (cdv ct:aB) (osl:Array (Option aB)),
  fd=dF x qual (yK st) (jH st) (zJ st) .none kV doc pm an cdv ct/\K.lookup f=some ⟨oc,od,.func fd,osl⟩/\fG K cdv qual=true
 kp:bK K (.ref f)=true
section
variable{P:bG}{w:bU}{K:aM}{mg:Str->Option aB}{base:Heap}
theorem Fun.ok{x qual:Str}{st:Stmt}{f:aA}{fd:aK}{N ps:List Str}{k:Nat}{sp:Sp}(F:Fun K x qual st f fd)(S:FnScope N ps (zJ st))(len:∀vs H Q E,sp vs H Q E->vs.length=ps.length)(hbody:∀(cdv:aB) (A:bZ) (outer:List Env) (s:aE) (H:Hp) (vs:List V) (Q:VK) (E:XK),Room k (A.deeper (mJ qual (zJ st) s.heap.objs.size f cdv))->sp vs H Q E →
    ∃t,PSs (cxOf CX0 P w K mg base N qual (zJ st) f cdv A outer s H E).nox (jH st) t/\t { nx:=fun _ H'=>Q .non H',rt:=Q } (start N vs) H):FnOk P w K mg base CX0 (k+1) f fd ps sp:=by
 obtain⟨oc,od,kV,doc,pm,an,cdv,ct,osl,rfl,lk,hcd⟩:=F.ex;refine fn_of lk hcd S len fun A outer s H vs Q E hr hsp=>?_;obtain⟨t,h,q⟩:=hbody cdv A outer s H vs Q E hr hsp;exact⟨t,h.nox,q⟩
theorem Fun.binds{x qual:Str}{st:Stmt}{f:aA}{fd:aK}{ps:List Str}(F:Fun K x qual st f fd)(h:∀(kV doc pm:aB) (an:Option aA) (cdv ct:aB) (us:List aB),us.length=ps.length->IW (dF x qual (yK st) (jH st) (zJ st) .none kV doc pm an cdv ct) ⟨us,[]⟩=pure (ps.zip us)):Binds K fd ps []:=by
 obtain⟨oc,od,kV,doc,pm,an,cdv,ct,osl,rfl,lk,hcd⟩:=F.ex;exact .all (h kV doc pm an cdv ct)
theorem UM{x qual:Str}{st:Stmt}{f:aA}{oc:aB}{od an:Option aA}{osl:Array (Option aB)}{kV doc pm cdv ct:aB}(l:K.lookup f=some ⟨oc,od,.func (dF x qual (yK st) (jH st) (zJ st) .none kV doc pm an cdv ct),osl⟩)(c:fG K cdv qual=true)(k:bK K (.ref f)=true):Fun K x qual st f (dF x qual (yK st) (jH st) (zJ st) .none kV doc pm an cdv ct):=⟨⟨oc,od,kV,doc,pm,an,cdv,ct,osl,rfl,l,c⟩,k⟩
end
section
variable{X:Cx}
end
theorem iteF{A B:Prop}(h:B):if false=true then A else B:=by
 rw[if_neg cV];exact h
theorem iteT{A B:Prop}(h:A):if true=true then A else B:=by
 rw[if_pos rfl];exact h
def Same(H H':Hp):Prop:=∀b o,H b=some o->H' b=some o
theorem Same.refl(H:Hp):Same H H:=fun _ _ h=>h
theorem Same.trans{H H1 H2:Hp}(a:Same H H1)(b:Same H1 H2):Same H H2:=fun c o h=>b c o (a c o h)
theorem Same.free{H H':Hp}(e:Same H H'){l:aA}(h:H' l=Option.none):H l=Option.none:=by
 cases q:H l with
 |none=>rfl
 | some o =>
   rw[e l o q] at h;cases h
theorem Same.seq{K:aM}{H H':Hp}{a:aA}{xs:List V}(e:Same H H')(h:SqL K H a xs):SqL K H' a xs:=by
 rcases h with(h | ⟨o,h⟩) | h
 . exact .inl (.inl (e _ _ h))
 . exact .inl (.inr ⟨o,e _ _ h⟩)
 . exact .inr h
section
variable{X:Cx}
end
section
variable{κ : Type}[DecidableEq κ]
end
noncomputable def vW(env:Env):List (Str×lD)->List (Str×aA)->List (Str×aA)
 |[],cs=>cs
 |(n,k)::r,cs=>vW env r (if k==lD.free then (match env.cells.lookup n with | some c=>(n,c)::cs | none=>cs) else cs)
theorem tT{scope:Scope}{env:Env}(h:∀y∈scope.names,y.2=lD.free->∃c,env.cells.lookup y.1=some c):closureFor scope env=pure (vW env scope.names []):=by
 simp only[closureFor];generalize ([]:List (Str×aA))=cs
 revert h cs
 generalize scope.names=l;intro h
 induction l with
 |nil=>intro cs;rfl
 | cons y r ih =>
   intro cs;obtain⟨n,k⟩:=y;have ihr:=ih fun z hz=>h z (aG _ hz);simp only[List.forIn_cons,vW]
   by_cases hk:k=lD.free
   . obtain ⟨c, hc⟩ := h (n, k) aN hk;have hc':env.cells.lookup n=some c:=hc;have hcell:cellOf env n=pure c:=by unfold cellOf; rw [hc']
     subst hk;simp only[hcell,hc',beq_self_eq_true,if_true,pure_bind,bind_pure_comp,map_pure,bind_assoc]
     first
      |exact ihr _
      |simpa using ihr _
   . have hb : (k == lD.free) = false := by simpa using hk
     simp only[hb,oM,if_false,pure_bind]
     first
      |exact ihr _
      |simpa using ihr _
theorem IP{env:Env}:∀(l:List (Str×lD)) (cs:List (Str×aA)),(∀x c,cs.lookup x=some c->env.cells.lookup x=some c)->∀x c,(vW env l cs).lookup x=some c->env.cells.lookup x=some c
 |[],_,h=>h
 | (n, k) :: r, cs, h => by
   unfold vW;refine IP r _ fun x c e=>?_
   split at e
   . cases hc : env.cells.lookup n with
     |none=>rw[hc] at e;exact h x c e
     | some c' =>
       rw[hc] at e;simp only[cG] at e
       by_cases hx:x==n
       . rw[hx] at e;cases e;rw[beq_iff_eq] at hx;rw[hx];exact hc
       . have hx' : (x == n) = false := by simpa using hx
         rw[hx'] at e;exact h x c e
   . exact h x c e
theorem IN{env:Env}:∀(l:List (Str×lD)) (cs:List (Str×aA)) (x:Str),(∃c,cs.lookup x=some c)->∃c,(vW env l cs).lookup x=some c
 |[],_,_,h=>h
 | (n, k) :: r, cs, x, h => by
   unfold vW;refine IN r _ x ?_
   split
   . cases hc : env.cells.lookup n with
     |none=>exact h
     | some c' =>
       simp only[cG]
       by_cases hx:x==n
       . rw[hx];exact⟨_,rfl⟩
       . have hx' : (x == n) = false := by simpa using hx
         rw[hx'];exact h
   . exact h
theorem CM{env:Env}:∀(l:List (Str×lD)) (cs:List (Str×aA)) (x:Str) (c:aA),(x,lD.free)∈l->env.cells.lookup x=some c->∃c,(vW env l cs).lookup x=some c
 |[],_,_,_,h,_=>nomatch h
 | (n, k) :: r, cs, x, c, h, hc => by
   unfold vW;rcases aD.mp h with e | e
   . cases e;refine IN r _ _ ?_;simp only[beq_self_eq_true,if_true,hc,cG];exact⟨_,rfl⟩
   . exact CM r _ x c e hc
theorem nF{env:Env}:∀{names:List (Str×lD)} {x:Str},names.lookup x=some lD.free →
  (names.map fun(n,k)=>if (k==lD.free&&env.scope.kind==.function&&env.kindOf n==some .cell) then (n,lD.cell) else (n,k)).lookup x=some lD.cell ∨
  (names.map fun(n,k)=>if (k==lD.free&&env.scope.kind==.function&&env.kindOf n==some .cell) then (n,lD.cell) else (n,k)).lookup x=some lD.free
 |[],_,h=>by simp at h
 | (n, k) :: r, x, h => by
   have ih:=@nF env r x;simp only[aO];cases hx:x==n with
   | true =>
     simp only[cG,hx] at h;cases h
     by_cases hc:(lD.free==lD.free&&env.scope.kind==.function&&env.kindOf n==some .cell)=true
     . rw[if_pos hc];left;simp only[cG,hx]
     . rw[if_neg hc];right;simp only[cG,hx]
   | false =>
     simp only[cG,hx] at h
     by_cases hc:(k==lD.free&&env.scope.kind==.function&&env.kindOf n==some .cell)=true
     . rw[if_pos hc];simp only[cG,hx];exact ih h
     . rw[if_neg hc];simp only[cG,hx];exact ih h
theorem vP{env:Env}:∀{names:List (Str×lD)} {x:Str} {k':lD},(∀y∈names,y.2≠lD.cell) →
  (names.map fun(n,k)=>if (k==lD.free&&env.scope.kind==.function&&env.kindOf n==some .cell) then (n,lD.cell) else (n,k)).lookup x=some k'->(k'=lD.cell\/k'=lD.free)->(x,lD.free)∈names
 |[],_,_,_,h,_=>by simp at h
 | (n, k) :: r, x, k', hn, h, hk => by
   have ih:=@vP env r x k' fun y hy=>hn y (aG _ hy);simp only[aO] at h;cases hx:x==n with
   | true =>
     have ex:x=n:=by simpa using hx
     by_cases hc:(k==lD.free&&env.scope.kind==.function&&env.kindOf n==some .cell)=true
     . have:k=lD.free:=by
        simp only[bX,beq_iff_eq] at hc;exact hc.1.1
       subst this;subst ex;exact aN
     . rw [if_neg hc] at h;simp only [cG,hx] at h;cases h;rcases hk with hk | hk
       . exact absurd hk (hn (n,k) aN)
       . subst hk;subst ex;exact aN
   | false =>
     by_cases hc:(k==lD.free&&env.scope.kind==.function&&env.kindOf n==some .cell)=true
     . rw[if_pos hc] at h;simp only[cG,hx] at h;exact aG _ (ih h hk)
     . rw[if_neg hc] at h;simp only[cG,hx] at h;exact aG _ (ih h hk)
section
variable{X:Cx}
structure CI where
 C:aA
 s:aE
 H:Hp
 ex:List aA
noncomputable def jN(X:Cx)(scope:Scope)(NY:List Str)(c:CI):Cx where
 prog:=X.prog
 w:=X.w
 K:=X.K
 mg:=X.mg
 base:=X.base
 A:=X.A
 N:=NY
 s₀:=c.s
 H₀:=c.H
 env:=compEnvC scope (vW X.env scope.names []) c.C X.env
 outer:=X.stack
 stack:=X.stack
 ex:=c.ex
 fn:=fun _=>false
 calm:=X.calm
 pn:=[]
 xe:=fun _ _=>False
theorem Inv.adopt{aC:List (aA×Obj)}{σ : St}{H:Hp}{s:aE}{a:aA}{o:HO}(I:Inv X aC σ H s)(hn:H a=none)(young:X.s₀.heap.objs.size<=a)(hL:a≠X.env.locals)(hc:∀x c,X.env.cells.lookup x=some c->c≠a)(hp:∀p∈X.pn++aC,p.1≠a)(new:ObjOk X.prog X.w (upd H a o) s.heap a o):Inv X aC σ (upd H a o) s:=by
 have ne:∀{b:aA} {u:HO},H b=some u->b≠a:=fun e z=>by rw[z,hn] at e;cases e
 refine⟨I.ok,I.os,I.bare,⟨I.base.keep,I.base.slot,fun b ob q n hx=>?_,I.base.there,fun b xs q=>?_,fun b ob u q=>?_,fun b ps q=>?_⟩,I.loc,I.cell,?_,fun x c e=>?_,fun p hpm=>?_,fun b u e=>?_,I.len⟩
 . rw[upd_ne (bO (bQ (bF q) young))];exact I.base.free b ob q n hx
 . have := I.base.tups b xs q;rw[upd_ne (ne this)];exact this
 . have := I.base.frzs b ob u q;rw[upd_ne (ne this)];exact this
 . have := I.base.tbls b ps q;rw[upd_ne (ne this)];exact this
 . rw[upd_ne (Ne.symm hL)];exact I.free
 . have := I.freeC x c e;unfold FreeC at this ⊢;rw[upd_ne (hc x c e)];exact this
 . obtain⟨h1, h2, h3⟩ := I.pin p hpm;exact⟨h1,by rw[upd_ne (hp p hpm)];exact h2,h3⟩
 . by_cases hb : b = a
   . subst hb;rw[qE] at e;cases e;exact new
   . rw[upd_ne hb] at e;exact(I.hok b u e).stay (fun c v _ q=>q) (fun c q=>by rw[upd_ne (ne q)];exact q) fun c xs q=>by rw[upd_ne (ne q)];exact q
def PF(X:Cx)(ifs:List Expr)(t:TT):Prop :=
 ∀(aC:List (aA×Obj)) (s:aE) (σ : St) (H:Hp) (Q:Bool->Hp->Prop),Inv X aC σ H s->t σ H Q →
  bL (bM X.prog X.w) X.A (forIn ifs true fun c r=>if r=true then do let ok <- KC c X.env (bY c X.env);pure (ForInStep.yield ok) else pure (ForInStep.yield r)) (TP X aC σ Q) X.xe s
def tNoIf:TT:=fun _ H Q=>Q true H
theorem pf_nil:PF X [] tNoIf:=fun _ _ _ H _ I h=>wpAny_tests_nil ⟨H,I,h⟩
theorem pf_one{c:Expr}{t:TT}(h:PT X c t):PF X [c] t:=fun aC s σ H Q I q=>wpAny_tests_one (h aC s σ H Q I q)
noncomputable def lC(mp:List (Option Nat))(σ : St):St:=mp.map fun o=>o.bind fun j=>σ[j]?.join
def aCt(J:It)(mp:List (Option Nat))(g:CI->TG)(tt:CI->TT)(te:CI->TE)(σ : St)(H1:Hp)(R:List V->Hp->Prop):Prop :=
 ∀c:CI,∃W:Nat->Nat->List V->Hp->Prop,(∃m,W 0 m [] H1)/\∀i m ys H,W i m ys H →
  (J.stop i H/\R ys H) ∨
  (J.go i H/\ys.length<sizeLine/\∀x H',J.yld i H x H'->g c x (lC mp σ) H' fun σ2 H2=>tt c σ2 H2 fun b H3 =>
    if b=true then te c σ2 H3 fun y H4=>∃m',m'<m/\W (i+1) m' (ys++[y]) H4 else ∃m',m'<m/\W (i+1) m' ys H3)
def tComp(wi:TI)(mp:List (Option Nat))(g:CI->TG)(tt:CI->TT)(te:CI->TE):TE:=fun σ H Q=>wi σ H fun J H1 =>
 aCt J mp g tt te σ H1 fun ys H'=>ys.length<=sizeLine/\∀p,H' p=none->Q (.ref p) (upd H' p (.lst ys))
structure CompScope(X:Cx)(scope:Scope)(NY:List Str)(mp:List (Option Nat)):Prop where
 kind:scope.kind=.function
 nocell:∀y∈scope.names,y.2≠.cell
 names:∀y∈scope.names,y.2=.local->scope.names.lookup y.1=some .local
 free:∀y∈scope.names,y.2=.free->(X.env.kindOf y.1=some .cell\/X.env.kindOf y.1=some .free)
 len:mp.length=NY.length
 map:∀(i:Nat) (x:Str) (j:Nat),NY[i]?=some x->mp[i]?=some (some j)->X.N[j]?=some x/\scope.names.lookup x=some .free
theorem OJ{prog:bG}{w:bU}{A:bZ}{R:Result->aE->Prop}{s:aE}{elt target iter:Expr}{ifs:List Expr}{scope:Scope}{pos:Pos}{it acc:aB}{env:Env}{Z:aB->aE->Prop}(hZ:∀e s,Z e s->notedBy (bM prog w) A env (fun x s'=>R (.error x) s') e s)(I:Nat->aE->Prop)(turn:∀n s,I n s->bL (bM prog w) A (pyNext it) (fun r s₁=>match r with
    |none=>R (.ok .next) s₁
    |some v=>bL (bM prog w) A (tZ target it v) (fun _ s₁'=>bL (bM prog w) A (pK target env v) (fun _ s₂ =>
       bL (bM prog w) A (forIn ifs true fun c r=>if r=true then do let ok <- KC c env (bY c env);pure (ForInStep.yield ok) else pure (ForInStep.yield r)) (fun ok s₃ =>
        if ok=true then bL (bM prog w) A (bY elt env) (fun x s₄ =>
         bL (bM prog w) A (call (.builtin "list.append") [acc,x]) (fun _ s₅=>∃m,m<n/\I m s₅) (fun _ _=>False) s₄) Z s₃
        else ∃m,m<n/\I m s₃) (fun _ _=>False) s₂) (fun _ _=>False) s₁') (fun _ _=>False) s₁) (fun _ _=>False) s)(n:Nat)(h:I n s) :
  sT (bM prog w) A (.compLoop (.ListComp elt [⟨target,iter,ifs,0⟩] scope pos) 0 it acc env) R s:=by
 refine codeAny_loop rfl I (fun n s hI=>?_) n h;show bL _ A ((compTurn (.ListComp elt [⟨target,iter,ifs,0⟩] scope pos) 0 it acc env).onRaise (fun x=>do noteFrame x env;theTreesLotGoes x)) _ _ s;refine wpAny_noted ?_;rw[compTurn_list];refine bC (DQ (bC (gB (turn n s hI) (fun r s₁ h₁=>?_) fun _ _ h'=>h'.elim)));cases r with
 |none=>exact cA h₁
 | some v =>
   refine bC (gB h₁ (fun _ s₁' h₁'=>?_) fun _ _ h'=>h'.elim);refine bC (gB h₁' (fun _ s₂ h₂=>bC (gB h₂ (fun ok s₃ h₃=>?_) fun _ _ h'=>h'.elim)) fun _ _ h'=>h'.elim);cases ok with
   |false=>exact cA ⟨rfl,h₃⟩
   | true =>
     exact bC (bC (gB h₃ (fun x s₄ h₄=>bC (gB h₄ (fun _ s₅ h₅=>cA (cA ⟨rfl,h₅⟩)) fun _ _ h'=>h'.elim)) fun e s' h'=>hZ e s' h'))
theorem IL{E:aB->aE->Prop}{scope:Scope}{NY:List Str}{mp:List (Option Nat)}{tg iter elt:Expr}{ifs:List Expr}{pos:Pos}{g:CI->TG}{tt:CI->TT}{te:CI->TE}{aC:List (aA×Obj)}{σ : St}{H:Hp}{s₂ : aE}{J:It}{fp:List aA}{it:aA}{tn:Nat->Heap->Prop}{R:List V->Hp->Prop}{RR:aB->aA->Result->aE->Prop}{WW:CI->aB->aE->Prop}{cm:Cx->Prop}(S:CompScope X scope NY mp)(hc:∀c:CI,c.H=H->cm (jN X scope NY c))(I:Inv X aC σ H s₂)(T:Turn X.prog X.w X.K tg J fp it tn cm)(st:tn 0 s₂.heap)(hf:∀b∈fp,FpOk X aC H b)(hg:∀c,PG (jN X scope NY c) tg (g c))(ht:∀c,PF (jN X scope NY c) ifs (tt c))(he:∀c,PE ((jN X scope NY c).wish (WW c)) elt (te c))(err:∀c:CI,X.s₀.heap.objs.size<=c.C->c.C∉frs X.stack->(∀pl σ' H' s1,Inv (jN X scope NY c) pl σ' H' s1->Inv X aC σ H' s1)->∀e s',WW c e s'->notedBy (bM X.prog X.w) X.A (jN X scope NY c).env (fun x s''=>RR (.ref s₂.heap.objs.size) c.C (.error x) s'') e s')(h:aCt J mp g tt te σ H R)(fin:∀(s':aE) (C:aA) (m:Str->Option aB) (ys:List V) (H':Hp),R ys H'->H' s₂.heap.objs.size=none->H' C=none->C≠s₂.heap.objs.size->s'.heap.Ns C m →
    (ys.length<=sizeLine->Inv X aC σ (upd H' s₂.heap.objs.size (.lst ys)) s') →
    (C≠X.env.locals/\X.s₀.heap.objs.size<=C/\(∀x c,X.env.cells.lookup x=some c->c≠C)/\∀p∈X.pn++aC,p.1≠C)->RR (.ref s₂.heap.objs.size) C (.ok .next) s') :
  bL (bM X.prog X.w) X.A (newList []) (fun acc s₃=>bL (bM X.prog X.w) X.A (newFunctionEnv scope X.env.globals (vW X.env scope.names []) [] X.env.qual none .none (some X.env)) (fun cenv s₄ =>
   sT (bM X.prog X.w) X.A (.compStart (.ListComp elt [⟨tg,iter,ifs,0⟩] scope pos) 0 (.ref it) acc { cenv with scope:=relabel scope X.env }) (RR acc cenv.locals) s₄) E s₃) E s₂:=by
 refine wpAny_newObj_type (wpAny_newFunctionEnv S.nocell (by intro y hy;simp at hy) (fun h₁ hns₁ hsb₁=>?_) S.kind);dsimp only at hns₁ hsb₁ ⊢;generalize hH2:s₂.heap.push { cls:=.type "list",dict:=none,data:=.seq ([]:List aB).toArray }=H2 at hns₁ hsb₁ ⊢;have hC:(H2.objs.size:Nat)=s₂.heap.objs.size+1:=by rw[<- hH2,JD]
 generalize hDd:s₂.heap.objs.size=D at fin err hC ⊢;generalize hCC:H2.objs.size=C at hns₁ hsb₁ hC ⊢;have hC:(C:Nat)=(D:Nat)+1:=hC;have hDC:D≠C:=fun z=>absurd (z.trans hC) (bO (EN _));have ltC:∀{b:aA},b<D->b≠C:=fun {b} h=>bO (Nat.lt_of_lt_of_eq (aCj h) hC.symm);have ltD:∀{b:aA},b<D->b≠D:=fun {b} h=>bO h;have hlt:∀{b:aA} {o:Obj},s₂.heap.get? b=some o->(b:Nat)<D:=fun e=>hDd▸bF e;have k2:∀b o,s₂.heap.get? b=some o->H2.get? b=some o:=fun b o e=>hH2▸aQ _ e
 have k1:∀b o,H2.get? b=some o->h₁.get? b=some o:=fun b o e=>by
  have hb:b<C:=hCC▸bF e;exact hsb₁.extBut b o (bO hb) (aQ _ e)
 have fr:∀a,D<=a->H a=none:=fun a ha=>I.hok.fresh (hDd▸ha);have accP:h₁.PlainList D #[]:=⟨_,k1 _ _ (by rw[<- hH2,<- hDd];exact bD _ rfl)⟩
 have fpo:∀b∈fp,(b:Nat)<D:=fun b hb=>let ⟨o,e,_⟩:=T.obj 0 _ st b hb;hlt e;have clF:∀x c,(vW X.env scope.names []).lookup x=some c->X.env.cells.lookup x=some c:=IP _ _ fun x c e=>nomatch e
 have cellLt:∀x c,X.env.cells.lookup x=some c->(c:Nat)<D:=fun x c e=>by
  obtain⟨v,o,ho,_⟩:=I.cell x c e;exact hlt ho
 have locLt:(X.env.locals:Nat)<D:=hDd▸I.lt
 have stkLt:∀b∈frs X.stack,(b:Nat)<D:=fun b hb=>by
  obtain⟨_,o,ho,_⟩:=I.stack.mem hb;exact hlt ho
 have fpStk:∀b∈fp,b∉frs X.stack:=fun b hb z=>by
  obtain⟨_,f1,f2,_⟩:=hf b hb;rcases aD.mp (I.stkSub b z) with q | q
  . exact f1 q
  . exact f2 q
 have pinLt:∀p∈X.pn++aC,(p.1:Nat)<D:=fun p hp=>hlt (I.pin p hp).1
 have pinStk:∀p∈X.pn++aC,p.1∉frs X.stack:=fun p hp z=>by
  obtain⟨_,_,f1,f2,_⟩:=I.pin p hp;rcases aD.mp (I.stkSub _ z) with q | q
  . exact f1 q
  . exact f2 q
 let Y:Cx:=jN X scope NY ⟨C,{ s₂ with heap:=H2 },H,D::fp⟩
 obtain⟨W,⟨m0,w0⟩,turn⟩:=h ⟨C,{ s₂ with heap:=H2 },H,D::fp⟩
 have okY:Y.Ok:=by
  refine⟨I.ok.mod,S.kind,I.ok.glob,I.ok.blt,lH hCC,fun x y c h1 h2=>I.ok.inj x y c (clF _ _ h1) (clF _ _ h2),fun x hx=>?_,fun x c hfn=>absurd hfn (by intro z;cases z),I.ok.hd,I.ok.frames,.inl rfl,fun b hb=>?_,fun b o e=>?_,?_,fun b o e=>?_,fun b hb=>?_,?_,I.stkFree⟩
  . have hx':(x,lD.free)∈scope.names:=by
     rcases hx with hx | hx
     . exact vP S.nocell hx (.inl rfl)
     . exact vP S.nocell hx (.inr rfl)
    obtain⟨c,e⟩:=I.ok.has x (S.free _ hx' rfl);exact CM _ _ x c hx' e
  . rcases aD.mp hb with z | z
    . subst z;exact⟨hDC,fun x c e q=>absurd (cellLt x c (clF x c e)) (by rw[q];exact dR _)⟩
    . have := fpo b z;exact⟨ltC this,fun x c e q=>(hf b z).2.2.2.2.1 x c (clF x c e) q⟩
  . have := I.bs b o e;exact⟨k2 b o this.1,this.2⟩
  . refine⟨?_, I.tabsH⟩;show(X.base.objs.size:Nat)<=H2.objs.size;have h1:(X.base.objs.size:Nat)<=s₂.heap.objs.size:=cL I.ok.bsz.1 I.sz;have h2:(H2.objs.size:Nat)=C:=hCC;have h3:(s₂.heap.objs.size:Nat)=D:=hDd;omega
  . have hb := I.bs b o e;have hb':=hlt hb.1;intro z;rcases aD.mp z with z | z
    . rw[z] at hb';exact dR _ hb'
    . rcases (hf b z).2.2.2.1 with q | q
      . exact I.ok.noex b o e q
      . exact absurd (bQ (bF (I.ok.bs b o e).1) q) (dR _)
  . rcases aD.mp hb with z | z
    . subst z;exact fun q=>absurd (stkLt _ q) (dR _)
    . exact fpStk b z
  . exact I.stack.of_keeps fun b o e _=>⟨o,k2 b o e,rfl⟩
 have capt:∀(i:Nat) (x:Str) (v:V),NY[i]?=some x->(lC mp σ)[i]?=some (some v)->∃u c,RelV v u/\(Y.env.kindOf x=some .cell\/Y.env.kindOf x=some .free)/\Y.env.cells.lookup x=some c/\H2.IsCell c (some u)/\(H c=none\/∃o u,H c=some (.frz o u))/\c∉D::fp:=by
  intro i x v e1 e2
  have e2':(mp[i]?.map fun o=>o.bind fun j=>σ[j]?.join)=some (some v):=by
   unfold lC at e2
   rwa [bE] at e2
  cases hm:mp[i]? with
  |none=>rw[hm] at e2';cases e2'
  | some o =>
    rw[hm] at e2';cases o with
    |none=>simp at e2'
    | some j =>
      simp only[cF,aH,Option.some.injEq] at e2'
      have e4 : σ[j]?=some (some v):=by
       cases hs : σ[j]? with
       |none=>rw[hs] at e2';cases e2'
       |some q=>rw[hs] at e2';simp at e2';rw[e2']
      obtain⟨hXj,hfr⟩:=S.map i x j e1 hm;have hmem:(x,lD.free)∈scope.names:=gI hfr;have hk:=S.free _ hmem rfl;obtain⟨m,hn,hl⟩:=I.loc;obtain⟨u,ru,l⟩:=hl j x v hXj e4 (hk.elim (fun z=>.inr (.inl z)) fun z=>.inr (.inr z))
      have hlook:∃c,X.env.cells.lookup x=some c/\s₂.heap.IsCell c (some u):=by
       rcases l with⟨kl,_⟩ | ⟨_,c,ec,hcell⟩
       . rcases hk with q | q
         . exact absurd (kl.symm.trans q) (by intro z;cases z)
         . exact absurd (kl.symm.trans q) (by intro z;cases z)
       . exact⟨c,ec,hcell⟩
      obtain⟨c,ec,oc,hoc,hocd⟩:=hlook;obtain⟨c',ec'⟩:=CM (env:=X.env) scope.names [] x c hmem ec;have:c'=c:=Option.some.inj ((clF x c' ec').symm.trans ec);subst this;refine⟨u,c',ru,nF hfr,ec',⟨oc,k2 _ _ hoc,hocd⟩,(I.freeC x c' ec).imp id And.right,fun z=>?_⟩;rcases aD.mp z with z | z
      . have:=cellLt x c' ec;rw[z] at this;exact dR _ this
      . exact(hf c' z).2.2.2.2.1 x c' ec rfl
 have lenY:(lC mp σ).length=NY.length:=by
  unfold lC;rw[aS];exact S.len
 have I0:∀tk,Inv Y [] (lC mp σ) H { s₂ with heap:=h₁,toks:=tk }:=by
  intro tk;refine⟨okY,rfl,I.bare,Un.kept k1,⟨_,hns₁,fun i x v e1 e2 e3=>?_⟩,fun x c e=>?_,fr C (by show(D:Nat)<=C;omega),fun x c e=>(I.freeC x c (clF x c e)).imp id fun z=>⟨rfl,z.2⟩,fun p hp=>absurd (show p∈([]:List (aA×Obj)) from hp) (by simp),I.hok.kept fun b o e=>k1 b o (k2 b o e),lenY⟩
  . obtain⟨u, c, ru, hk, ec, ⟨oc, hoc, hocd⟩, _⟩ := capt i x v e1 e2;exact⟨u,ru,.inr ⟨hk,c,ec,oc,k1 _ _ hoc,hocd⟩⟩
  . obtain⟨v, o, ho, hd⟩ := I.cell x c (clF x c e);exact⟨v,o,k1 _ _ (k2 _ _ ho),hd⟩
 have stat:∀{H':Hp} {pl:List (aA×Obj)},(∀p∈pl,p.1∉fp)->(∀b∈fp,H' b=none)->∀b∈fp,FpOk Y pl H' b:=fun hpl hn b hb=>by
  have hbD:=fpo b hb;refine⟨hn b hb,ltC hbD,fpStk b hb,.inl (aG _ hb),fun x c e=>(hf b hb).2.2.2.2.1 x c (clF x c e),fun p hp z=>hpl p (show p∈_ from hp) (z▸hb)⟩
 have dN:D∉Y.fs:=fun q=>absurd (stkLt _ q) (dR _);have dFp:D∉fp:=fun q=>absurd (fpo _ q) (dR _)
 have plD:∀(o:Obj),∀p∈[(D,o)],p.1∉fp:=fun o p hp=>by
  have e:p=(D,o):=by simpa using hp
  rw[e];exact dFp
 have toX:∀pl σ' H3 s4,Inv Y pl σ' H3 s4->Inv X aC σ H3 s4:=fun pl σ' H3 s4 I4=>by
  have u:Un (frs X.stack) fp H H3 s₂.heap s4.heap:=by
   have B:Un (frs X.stack) (D::fp) H H3 H2 s4.heap:=I4.base
   have nx:∀{b:aA} {o:Obj},s₂.heap.get? b=some o->b∉fp->b∉D::fp:=fun e hb z=>by
    rcases aD.mp z with z | z
    . have:=hlt e;rw[z] at this;exact dR _ this
    . exact hb z
   exact⟨fun b o q n hb hx=>B.keep b o (k2 b o q) n hb (nx q hx),fun b o q n hb hx=>B.slot b o (k2 b o q) n hb (nx q hx),fun b o q n hx=>B.free b o (k2 b o q) n (nx q hx),fun b o q hx=>B.there b o (k2 b o q) (nx q hx),B.tups,B.frzs,B.tbls⟩
  exact I.call' I4.os u I4.hok I4.bare fun b hb=>⟨(hf b hb).2.2.2.1,(hf b hb).2.1,(hf b hb).2.2.2.2.1,(hf b hb).2.2.2.2.2⟩
 have keyC:∀(tk:Nat) (it':aB),it'=.ref it->sT (bM X.prog X.w) X.A (.compLoop (.ListComp elt [⟨tg,iter,ifs,0⟩] scope pos) 0 it' (.ref D) Y.env) (RR (.ref D) C) { s₂ with heap:=h₁,toks:=tk }:=by
  rintro tk _ rfl
  refine OJ (Z:=WW ⟨C,{ s₂ with heap:=H2 },H,D::fp⟩) (fun e s' z=>err ⟨C,{ s₂ with heap:=H2 },H,D::fp⟩ (by have:(X.s₀.heap.objs.size:Nat)<=D:=hDd▸I.sz;show(X.s₀.heap.objs.size:Nat)<=C;omega) (fun q=>absurd (stkLt _ q) (by show ¬(C:Nat)<D;omega)) toX e s' z) (fun n s'=>∃i ys H' its,Inv Y [] (lC mp σ) H' s'/\tn i s'.heap/\(∀b∈fp,H' b=none)/\H' D=none/\s'.heap.PlainList D its/\Vals ys its.toList/\W i n ys H') ?_ m0
   ⟨0,[],H,#[],I0 tk,T.keep 0 _ _ st fun b _ o e=>k1 b o (k2 b o e),fun b hb=>(hf b hb).1,fr D (aU _),accP,.nil,w0⟩
  rintro n s3 ⟨i,ys,H3,its,I3,st3,fr3,d3,⟨kk,pl3⟩,rv3,w3⟩
  have I3':Inv Y [(D,{ cls:=.type "list",data:=.seq its kk })] (lC mp σ) H3 s3:=I3.pins_of fun p hp=>by
   have e:p=(D,{ cls:=.type "list",data:=.seq its kk }):=by simpa using hp
   subst e;exact⟨pl3,d3,hDC,dN,fun v z=>nomatch (show Data.seq its kk=Data.cell v from z)⟩
  rcases turn i n ys H3 w3 with⟨stop,qn⟩ | ⟨go,hsz,step⟩
  . refine thn (T.done Y rfl rfl rfl (hc ⟨C, { s₂ with heap := H2 }, H, D :: fp⟩ rfl) i _ s3 _ H3 _ I3' (stat (plD _) fr3) st3 stop) fun r s4 zq => ?_;obtain ⟨hr,I4⟩:=zq;subst hr;have hD4:s4.heap.get? D=some { cls:=.type "list",data:=.seq its kk }:=(I4.pin (D,_) (by simp)).1;have J4:Inv X aC σ H3 s4:=toX _ _ _ _ I4;obtain ⟨m4,hn4,_⟩:=I4.loc;refine fin s4 C m4 ys H3 qn d3 I4.free (Ne.symm hDC) hn4 (fun hz=>?_) ⟨(ltC locLt).symm,?_,fun x c e=>?_,fun p hp=>?_⟩
    . refine J4.adopt d3 ?_ (ltD locLt).symm (fun x c e => ?_) (fun p hp => ?_) ⟨hz, its.toList, kk, rv3, hD4⟩
      . exact hDd▸I.sz
      . exact ltD (cellLt x c e)
      . exact ltD (pinLt p hp)
    . have : (X.s₀.heap.objs.size : Nat)<=D := hDd▸I.sz;show(X.s₀.heap.objs.size:Nat)<=C;omega
    . exact ltC (cellLt x c e)
    . exact ltC (pinLt p hp)
  . refine thn (T.item Y rfl rfl rfl (hc ⟨C, { s₂ with heap := H2 }, H, D :: fp⟩ rfl) i _ s3 _ H3 _ I3' (stat (plD _) fr3) st3 go) fun r s4 zq => ?_;obtain ⟨u,hr,h4⟩:=zq;subst hr;refine thn h4 fun _ s5 zq=>?_;obtain ⟨x,H5,I5,r5,y5,st5,fr5⟩:=zq;have I5':=I5.pinned (stat (plD _) fr5) (T.obj _ _ st5);refine thn (hg _ _ s5 _ H5 x u _ I5' r5 (step x H5 y5)) fun _ s6 zq=>?_;obtain ⟨σ6,H6,I6,q6⟩:=zq;refine thn (ht _ _ s6 σ6 H6 _ I6 q6) fun ok s7 zq=>?_;obtain ⟨H7,I7,q7⟩:=zq
    have back:∀{s8:aE} {σ8:St} {H8:Hp},Inv Y ([(D,{ cls:=.type "list",data:=.seq its kk })]++GQ fp s5.heap) σ8 H8 s8 →
      tn (i+1) s8.heap/\(∀b∈fp,H8 b=none)/\H8 D=none/\s8.heap.get? D=some { cls:=.type "list",data:=.seq its kk }:=fun {s8 σ8 H8} I8=>by
     refine⟨T.keep _ _ _ st5 fun b hb o e=>(I8.pin (b,o) (aI _ (aI _ (wC hb e)))).1,fun b hb=>?_,?_,?_⟩
     . obtain⟨o, e, d⟩ := T.obj _ _ st5 b hb;exact(I8.pin (b,o) (aI _ (aI _ (wC hb e)))).2.1
     . exact(I8.pin (D,_) (aI _ (aW _ (bA.mpr rfl)))).2.1
     . exact(I8.pin (D,_) (aI _ (aW _ (bA.mpr rfl)))).1
    have drop:∀{s8:aE} {σ8:St} {H8:Hp} {pl:List (aA×Obj)},Inv Y pl σ8 H8 s8->Inv Y [] (lC mp σ) H8 s8:=fun {s8 σ8 H8 pl} I8=>by
     obtain⟨m8,hn8,_⟩:=I8.loc;refine⟨I8.ok,I8.os,I8.bare,I8.base,⟨m8,hn8,fun i x v e1 e2 e3=>?_⟩,I8.cell,I8.free,I8.freeC,fun p hp=>absurd (show p∈([]:List (aA×Obj)) from hp) (by simp),I8.hok,lenY⟩;obtain⟨u,c,ru,hk,ec,⟨oc,hoc,hocd⟩,hn,hx⟩:=capt i x v e1 e2;rcases hn with hn | ⟨ob,ub,hn⟩
     . obtain⟨sl, e⟩ := I8.base.any hoc hn hx;exact⟨u,ru,.inr ⟨hk,c,ec,_,e,hocd⟩⟩
     . obtain⟨e1, _⟩ := I.hok c _ hn;obtain⟨e2,_⟩:=I8.hok c _ (I8.base.frzs c ob ub hn);have e3:=k2 _ _ e1;rw[hoc] at e3;cases e3;exact⟨u,ru,.inr ⟨hk,c,ec,oc,e2,hocd⟩⟩
    cases ok with
    | false =>
      obtain⟨m',hm',w'⟩:=q7;obtain⟨b1,b2,b3,b4⟩:=back I7;exact⟨m',hm',i+1,ys,H7,its,drop I7,b1,b2,b3,⟨kk,b4⟩,rv3,w'⟩
    | true =>
      refine thn (he _ _ s7 σ6 H7 _ (I7.wish _) q7) fun y s8 zq=>?_;obtain⟨yv,H8,I8w,r8,q8⟩:=zq;have I8:=I8w.unwish;obtain⟨b1,b2,b3,b4⟩:=back I8;have hl:ys.length=its.size:=by simpa using rv3.length
      refine wpAny_list_append_plain (items:=its) ⟨kk,b4⟩ (fun h' pl' sb=>?_) (by omega);obtain⟨m',hm',w'⟩:=q8;have I9:Inv Y [] (lC mp σ) H8 { s8 with heap:=h' }:=(drop I8).turned (it:=D) (t':=s8.toks) (fun b o hb e=>(sb.2 b hb).trans e) b3 hDC (.inl aN) (fun x c e=>ltD (cellLt x c (clF x c e))) fun p hp=>absurd (show p∈([]:List (aA×Obj)) from hp) (by simp);refine⟨m',hm',i+1,ys++[yv],H8,its.push y,I9,?_,b2,b3,pl',?_,w'⟩
      . exact T.keep _ _ _ b1 fun b hb o e=>(sb.2 b (fun z=>dFp (z▸hb))).trans e
      . rw[Array.toList_push];exact rv3.append (.cons r8 .nil)
 exact codeAny_compStart_list (keyC _ _ rfl) (T.self _ 0 _ _ _ (T.keep 0 _ _ st fun b _ o e=>k1 b o (k2 b o e)) (keyC _ _ rfl))
theorem aEq{scope:Scope}{NY:List Str}{mp:List (Option Nat)}{tg iter elt:Expr}{ifs:List Expr}{pos:Pos}{wi:TI}{g:CI->TG}{tt:CI->TT}{te:CI->TE}{cm:Cx->Prop}(S:CompScope X scope NY mp)(hc:∀aC σ H s,Inv X aC σ H s->∀c:CI,c.H=H->cm (jN X scope NY c))(hi:PI X tg iter wi cm)(hg:∀c,PG (jN X scope NY c) tg (g c))(ht:∀c,PF (jN X scope NY c) ifs (tt c))(he:∀c,PE (jN X scope NY c) elt (te c))(hs:∀x,eJ iter X.env x=pure x:=by intro _;rfl):PE X (.ListComp elt [⟨tg,iter,ifs,0⟩] scope pos) (tComp wi mp g tt te):=by
 intro aC s σ H Q I h;rw[eval_ListComp];refine wpAny_comprehension_free (use:=none) rfl hs (tT fun y hy hk=>I.ok.has y.1 (S.free y hy hk)) S.kind S.names (thn (hi aC s σ H _ I h) fun v s1 h1=>thn h1 fun itv s2 h2=>?_);obtain⟨it,fp,tn,J,H2,e,I2,T,st2,f2,hk⟩:=h2;subst e;refine IL (RR:=fun acc C=>compPost (bM X.prog X.w) X.A X.xe none (EP X aC σ Q) acc C) (WW:=fun _ _ _=>False) S (hc _ _ _ _ I2) I2 T st2 f2 hg ht he (fun _ _ _ _ _ _ z=>z.elim) hk ?_;intro s' C m ys H' q hD hC hCD hn hI hct;refine⟨m,hn,fun h' sb=>?_⟩;have J':=hI q.1;refine⟨.ref s2.heap.objs.size,_,J'.turned (it:=C) (t':=s'.toks) (fun b o hb e=>(sb.2 b hb).trans e) (by rw[upd_ne hCD];exact hC) hct.1 (.inr hct.2.1) hct.2.2.1 hct.2.2.2,rfl,q.2 _ hD⟩
theorem pe_comp{scope:Scope}{NY:List Str}{mp:List (Option Nat)}{tg iter elt:Expr}{ifs:List Expr}{pos:Pos}{wi:TI}{g:CI->TG}{tt:CI->TT}{te:CI->TE}(S:CompScope X scope NY mp)(hc:X.calm=true)(hi:PI X tg iter wi)(hg:∀c,PG (jN X scope NY c) tg (g c))(ht:∀c,PF (jN X scope NY c) ifs (tt c))(he:∀c,PE (jN X scope NY c) elt (te c))(hs:∀x,eJ iter X.env x=pure x:=by intro _;rfl):PE X (.ListComp elt [⟨tg,iter,ifs,0⟩] scope pos) (tComp wi mp g tt te):=aEq S (fun _ _ _ _ _ _ _=>hc) hi hg ht he hs
def tCompS(wi:TI)(mp:List (Option Nat))(g:CI->TG)(tt:CI->TT)(te:CI->TE)(i:Nat):TS:=fun D σ H=>tComp wi mp g tt te σ H fun v H1=>D.nx (σ.set i (some v)) H1
theorem WI{i:Nat}{y:Str}{py:Pos}{scope:Scope}{NY:List Str}{mp:List (Option Nat)}{tg iter elt:Expr}{ifs:List Expr}{pos spos:Pos}{wi:TI}{g:CI->TG}{tt:CI->TT}{te:CI->TE}(hN:X.N.Nodup)(hy:X.N[i]?=some y)(hl:X.env.scope.names.lookup y=some .local)(hsw:dI (.ListComp elt [⟨tg,iter,ifs,0⟩] scope pos) (some (.Name y py)) spos.line X.env=pure true)(S:CompScope X scope NY mp)(hc:X.calm=true)(hi:PI X tg iter wi)(hg:∀c,PG (jN X scope NY c) tg (g c))(ht:∀c,PF (jN X scope NY c) ifs (tt c))(he:∀c,PE (jN X scope NY c) elt (te c))(hs:∀x,eJ iter X.env x=pure x:=by intro _;rfl):PS X (.Assign [.Name y py] (.ListComp elt [⟨tg,iter,ifs,0⟩] scope pos) spos) (tCompS wi mp g tt te i):=by
 intro aC s σ H D I h;rw[exec_Assign_Name_used _ _ _ _ hsw];refine bC (DQ (bC ?_));show bL _ X.A (do let _ <- comprehension (.ListComp elt [⟨tg,iter,ifs,0⟩] scope pos) scope X.env _ (newList []) false (bY iter X.env) (some (pK (.Name y py) X.env))) _ _ s
 refine bC (gB (wpAny_comprehension_free (use:=some (pK (.Name y py) X.env)) (Q:=fun _ s'=>SP X aC D .next s') rfl hs (tT fun y hy hk=>I.ok.has y.1 (S.free y hy hk)) S.kind S.names
  (thn (hi aC s σ H _ I h) fun v s1 h1=>thn h1 fun itv s2 h2=>?_)) (fun _ s' hq=>cA (cA hq)) fun _ _ e=>e)
 obtain⟨it,fp,tn,J,H2,e,I2,T,st2,f2,hk⟩:=h2;subst e;refine IL (RR:=fun acc C=>compPost (bM X.prog X.w) X.A X.xe (some (pK (.Name y py) X.env)) (fun _ s'=>SP X aC D .next s') acc C) (WW:=fun _ _ _=>False) S (fun _ _=>hc) I2 T st2 f2 hg ht he (fun _ _ _ _ _ _ z=>z.elim) hk ?_;intro s' C m ys H' q hD hC hCD hn hI hct;have J':=hI q.1;refine wpAny_assign_Name (KW J' hN hy (.inl hl) (v:=.ref s2.heap.objs.size) rfl (fun s'' I'' sb=>?_) (.inr hl));obtain⟨a,sba,ha⟩:=sb
 have haC:C≠a:=by
  rcases ha with rfl | ha
  . exact hct.1
  . exact fun z=>hct.2.2.1 _ _ ha z.symm
 refine⟨m,hn.sameBut sba haC,fun h' sb'=>?_⟩;exact⟨_,_,I''.turned (it:=C) (t':=s''.toks) (fun b o hb e=>(sb'.2 b hb).trans e) (by rw[upd_ne hCD];exact hC) hct.1 (.inr hct.2.1) hct.2.2.1 hct.2.2.2,q.2 _ hD⟩
end
end L2
namespace TU
open PySem PyProof.Rows
set_option autoImplicit false
variable{prog:bG}{w:bU}{A:bZ}{E:aB->aE->Prop}{s:aE}
theorem sorted_endS{vs:List aB}{ss:List Str}{Q:aB->aE->Prop}(hI:aBn vs ss)(h64:vs.length<64)(h:∀(h2:Heap) (vs':List aB) (ns':List Str) (e:Nat),(∀b o,s.heap.get? b=some o->h2.get? b=some o)->h2.get? s.heap.objs.size=some (seqObj "list" vs'.toArray e)->aBn vs' ns'->ns'.Perm ss->sortedS ns'=true →
    Q (.ref s.heap.objs.size) { s with heap:=h2 }) :
  bL (bM prog w) A.in1 (do
   let l <- newList vs
   let _ <- gD [l] (call (.builtin "list.sort") [l] [])
   ret l) (fun r z=>∃v,r=.done (.ret v)/\Q v z) E s:=by
 refine bC (wpAny_newList ?_ (hsz:=by rw[AY];omega));have hoL:(s.heap.push (seqObj "list" vs.toArray 0)).get? s.heap.objs.size=some (seqObj "list" vs.toArray 0):=bD _ rfl;refine bC (fP (wpAny_call_entry slot_list_sort ⟨_,hoL,rfl⟩ entry_list_sort (list_sort_treeK strKind_oneLt hoL hI.keysOf (fun v₁ v₂ rest e=>keyKind_strs (by rw[<- e];exact hI)) h64 fun st' hp hs=>⟨_,rfl,?_⟩) (args_list_sort _)));obtain⟨ns',a1,a2,a3⟩:=sorted_out_str hI hp hs;generalize (arrOf st').map (·.2)=out at *;obtain⟨e,he⟩:=sortedHeap_at (out:=out) hoL;refine cA ⟨_,rfl,h _ out.toList ns' e (fun b o q=>?_) (by simpa using he) a1 a2 a3⟩;have hb:=bF q;have q1:=aQ (seqObj "list" vs.toArray 0) q;show(sortedHeap (s.heap.push (seqObj "list" vs.toArray 0)) s.heap.objs.size vs out).get? b=some o;rw[sortedHeap_old (bO hb) (by rw[size_push'];exact aCj hb)];exact q1
end TU
namespace FL
open PySem PySem.Spec PyProof.Rows L2
abbrev Frag:=aM
def KLst(K:Frag)(a:aA)(xs:List V):Prop:=∃(o:Obj) (its:Array aB) (n:Nat),K.lookup a=some o/\o.cls=.type "list"/\o.dict=none/\o.data=.seq its n/\its.size<=sizeLine/\Vals xs its.toList
def KTup(K:Frag)(a:aA)(xs:List V):Prop:=∃(o:Obj) (its:Array aB) (n:Nat),K.lookup a=some o/\o.cls=.type "tuple"/\o.data=.seq its n/\its.size<=sizeLine/\Vals xs its.toList
structure LamT where
 qual:Str
 params:Arguments
 body:FuncBody
 scope:Scope
noncomputable def lamsE(q:Str):Nat->Expr->List LamT
 |0,_=>[]
 | n + 1, e => match e with
   | .Lambda a b sc _=>[⟨q++"<lambda>",a,.expr b,sc⟩]
   | .Call _ as _ _=>as.flatMap (lamsE q n)
   | .Compare l _ cs _=>lamsE q n l++cs.flatMap (lamsE q n)
   | .BoolOp _ vs _=>vs.flatMap (lamsE q n)
   | .UnaryOp _ o _=>lamsE q n o
   | .BinOp l _ r _=>lamsE q n l++lamsE q n r
   | .IfExp t b o _=>lamsE q n t++(lamsE q n b++lamsE q n o)
   | .List es _=>es.flatMap (lamsE q n)
   | .Tuple es _ _=>es.flatMap (lamsE q n)
   | .Subscript v i _=>lamsE q n v++lamsE q n i
   |_=>[]
noncomputable def lamsS(q:Str):Nat->Stmt->List LamT
 |0,_=>[]
 | n + 1, s => match s with
   | .FunctionDef x a b _ _ _ sc _ _ _=>[⟨q++x,a,.stmts b,sc⟩]
   | .Assign _ e _=>lamsE q 12 e
   | .Return (some e) _=>lamsE q 12 e
   | .Expr e _=>lamsE q 12 e
   | .If t a b _=>lamsE q 12 t++(a.flatMap (lamsS q n)++b.flatMap (lamsS q n))
   | .For _ _ a _ _=>a.flatMap (lamsS q n)
   | .While _ a _ _=>a.flatMap (lamsS q n)
   |_=>[]
noncomputable def lamsOf(x:Str)(b:List Stmt):List LamT:=b.flatMap (lamsS (x++".<locals>.") 8)
noncomputable def textIn(K:aM)(m n:Nat):Option LamT:=(makers[m]?).bind fun x=>match aT K aP x with
 | some (some (.ref f)) => (match K.lookup f with
   | some ⟨_, _, .func fd, _⟩ => (match fd.body with
     | .stmts b=>(lamsOf x b)[n]?
     |_=>none)
   |_=>none)
 |_=>none
noncomputable def freeR(l:List (Str×lD)):List Str:=((l.filter fun y=>y.2==lD.free).map (·.1)).reverse
inductive ClosOk(H:Hp)(O:aA->Prop):List (Str×aA)->List V->Prop
 |nil:ClosOk H O [] []
 |cons {n:Str} {c:aA} {o:Obj} {u:HO} {w:aB} {x:V} {cl:List (Str×aA)} {xs:List V} (no : ¬O c) (h:H c=some (.frz o u)) (d:o.data=.cell (some w)) (r:RelV x w) (t:ClosOk H O cl xs):ClosOk H O ((n,c)::cl) (x::xs)
def LamAt(H:Hp)(O:aA->Prop)(f:aA)(t:LamT)(cl:List (Str×aA)):Prop:=¬O f/\∃(o oc:Obj) (u uc:HO) (fd:aK) (c:aA) (vs:Array aB) (tq:Tok),
 H f=some (.frz o u)/\o.cls=.type "function"/\o.data=.func fd/\fd.qualname=t.qual/\fd.params=t.params/\fd.body=t.body/\fd.scope=t.scope/\fd.globals=aP/\fd.closure=cl/\fd.defaults=.none/\fd.kwdefaults=.none/\fd.code=.ref c/\fd.builtins=EI ∧
 ¬O c/\H c=some (.frz oc uc)/\oc.data=.fields vs/\vs[1]?=some (.str t.qual tq)
mutual
inductive Rep(K:Frag)(H:Hp)(O:aA->Prop):V->D->Prop
 |non:Rep K H O .non .non
 |bl (b:Bool):Rep K H O (.bl b) (.bl b)
 |int (i:Int):Rep K H O (.int i) (.int i)
 |str (x:Str):Rep K H O (.str x) (.str x)
 |tup {a:aA} {xs:List V} {ds:List D} (n : ¬O a) (h:Rd H a (.tup xs)) (r:Reps K H O xs ds):Rep K H O (.ref a) (.tup ds)
 |tupK {a:aA} {xs:List V} {ds:List D} (h:KTup K a xs) (r:Reps K H O xs ds):Rep K H O (.ref a) (.tup ds)
 |lst {a:aA} {xs:List V} {ds:List D} (n : ¬O a) (h:Rd H a (.lst xs)) (r:Reps K H O xs ds):Rep K H O (.ref a) (.lst ds)
 |lstK {a:aA} {xs:List V} {ds:List D} (h:KLst K a xs) (r:Reps K H O xs ds):Rep K H O (.ref a) (.lst ds)
 |dct {a:aA} {kvs:List (Key×V)} {ks:List Key} {ds:List D} (n : ¬O a) (h:H a=some (.dK kvs)) (e:kvs.map (·.1)=ks) (r:Reps K H O (kvs.map (·.2)) ds):Rep K H O (.ref a) (.dct ks ds)
 |dcf {a:aA} {o:Obj} {kvs:List (Key×V)} {ks:List Key} {ds:List D} (n : ¬O a) (h:H a=some (.frz o (.dK kvs))) (e:kvs.map (·.1)=ks) (r:Reps K H O (kvs.map (·.2)) ds):Rep K H O (.ref a) (.dcf ks ds)
 |ins {a C dx:aA} {t:Nat} {kvs:List (Str×V)} {ds:List D} (c:aT K aP (dA t)=some (some (.ref C))) (n : ¬O a) (h:H a=some (.ins C dx kvs)) (e:kvs.map (·.1)=cR t) (r:Reps K H O (kvs.map (·.2)) ds):Rep K H O (.ref a) (.ins t ds)
 |clo {f:aA} {m n:Nat} {t:LamT} {cl:List (Str×aA)} {xs:List V} {ds:List D} (tx:textIn K m n=some t) (h:LamAt H O f t cl) (e:cl.map (·.1)=freeR t.scope.names) (nd:(cl.map (·.2)).Nodup) (c:ClosOk H O cl xs) (r:Reps K H O xs ds):Rep K H O (.ref f) (.clo m n ds)
 |fnK {f:aA} {k:Nat} (h:aT K aP (fnName k)=some (some (.ref f))):Rep K H O (.ref f) (.clo 1000 k [])
inductive Reps(K:Frag)(H:Hp)(O:aA->Prop):List V->List D->Prop
 |nil:Reps K H O [] []
 |cons {x:V} {d:D} {xs:List V} {ds:List D} (h:Rep K H O x d) (t:Reps K H O xs ds):Reps K H O (x::xs) (d::ds)
end
section
variable{K:Frag}{H H':Hp}{O O':aA->Prop}
def Keep(O:aA->Prop)(H H':Hp):Prop:=∀b o,¬O b->H b=some o->H' b=some o
theorem Keep.of_same(h:Same H H'):Keep O H H':=fun b o _ e=>h b o e
theorem Keep.rd{a:aA}{u:HO}(k:Keep O H H')(n : ¬O a)(h:Rd H a u):Rd H' a u:=by
 rcases h with h | ⟨o,h⟩
 . exact .inl (k _ _ n h)
 . exact .inr ⟨o,k _ _ n h⟩
def Kp(O O':aA->Prop)(H H':Hp):Prop:=∀b o,¬O b->H b=some o->¬O' b/\H' b=some o
theorem Kp.rd{a:aA}{u:HO}(k:Kp O O' H H')(n : ¬O a)(h:Rd H a u):¬O' a/\Rd H' a u:=by
 rcases h with h | ⟨o,h⟩
 . exact⟨(k _ _ n h).1,.inl (k _ _ n h).2⟩
 . exact⟨(k _ _ n h).1,.inr ⟨o,(k _ _ n h).2⟩⟩
theorem ClosOk.gen(k:Kp O O' H H'){cl:List (Str×aA)}{xs:List V}(h:ClosOk H O cl xs):ClosOk H' O' cl xs:=by
 induction h with
 |nil=>exact .nil
 |cons no h d r _ ih=>exact .cons (k _ _ no h).1 (k _ _ no h).2 d r ih
theorem LamAt.gen{f:aA}{t:LamT}{cl:List (Str×aA)}(k:Kp O O' H H')(h:LamAt H O f t cl):LamAt H' O' f t cl:=by
 obtain⟨n,o,oc,u,uc,fd,c,vs,tq,h1,h2,h3,h4,h5,h6,h7,h8,h9,h10,h11,h12,h13,h14,h15,h16,h17⟩:=h;exact⟨(k _ _ n h1).1,o,oc,u,uc,fd,c,vs,tq,(k _ _ n h1).2,h2,h3,h4,h5,h6,h7,h8,h9,h10,h11,h12,h13,(k _ _ h14 h15).1,(k _ _ h14 h15).2,h16,h17⟩
theorem Kp.of(k:Keep O H H'):Kp O O H H':=fun b o n e=>⟨n,k b o n e⟩
theorem Kp.less(k:∀a,O' a->O a):Kp O O' H H:=fun b o n e=>⟨fun z=>n (k _ z),e⟩
theorem ClosOk.keep(k:Keep O H H'){cl:List (Str×aA)}{xs:List V}(h:ClosOk H O cl xs):ClosOk H' O cl xs:=h.gen (.of k)
theorem LamAt.keep{f:aA}{t:LamT}{cl:List (Str×aA)}(k:Keep O H H')(h:LamAt H O f t cl):LamAt H' O f t cl:=h.gen (.of k)
def ins1(p:aA)(O:aA->Prop):aA->Prop:=fun b=>b=p\/O b
theorem Kp.ins{p:aA}(hp:H p=none):Kp O (ins1 p O) H H:=fun b o n e=>⟨fun z=>z.elim (fun q=>by rw[q,hp] at e;cases e) n,e⟩
mutual
theorem Rep.gen(k:Kp O O' H H'):∀{v:V} {d:D},Rep K H O v d->Rep K H' O' v d
 |_,_,.non=>.non
 |_,_,.bl b=>.bl b
 |_,_,.int i=>.int i
 |_,_,.str x=>.str x
 |_,_,.tup n h r=>.tup (k.rd n h).1 (k.rd n h).2 (Reps.gen k r)
 |_,_,.tupK h r=>.tupK h (Reps.gen k r)
 |_,_,.lst n h r=>.lst (k.rd n h).1 (k.rd n h).2 (Reps.gen k r)
 |_,_,.lstK h r=>.lstK h (Reps.gen k r)
 |_,_,.dct n h e r=>.dct (k _ _ n h).1 (k _ _ n h).2 e (Reps.gen k r)
 |_,_,.dcf n h e r=>.dcf (k _ _ n h).1 (k _ _ n h).2 e (Reps.gen k r)
 |_,_,.ins c n h e r=>.ins c (k _ _ n h).1 (k _ _ n h).2 e (Reps.gen k r)
 |_,_,.clo tx h e nd c r=>.clo tx (h.gen k) e nd (c.gen k) (Reps.gen k r)
 |_,_,.fnK h=>.fnK h
theorem Reps.gen(k:Kp O O' H H'):∀{vs:List V} {ds:List D},Reps K H O vs ds->Reps K H' O' vs ds
 |_,_,.nil=>.nil
 |_,_,.cons h t=>.cons (Rep.gen k h) (Reps.gen k t)
end
theorem Rep.keep(k:Keep O H H'){v:V}{d:D}(h:Rep K H O v d):Rep K H' O v d:=h.gen (.of k)
theorem Reps.keep(k:Keep O H H'){v:List V}{d:List D}(h:Reps K H O v d):Reps K H' O v d:=h.gen (.of k)
theorem Rep.mono(k:Same H H'){v:V}{d:D}(h:Rep K H O v d):Rep K H' O v d:=h.keep (.of_same k)
theorem Reps.mono(k:Same H H'){v:List V}{d:List D}(h:Reps K H O v d):Reps K H' O v d:=h.keep (.of_same k)
theorem Rep.less(k:∀a,O' a->O a){v:V}{d:D}(h:Rep K H O v d):Rep K H O' v d:=h.gen (.less k)
theorem Reps.less(k:∀a,O' a->O a){v:List V}{d:List D}(h:Reps K H O v d):Reps K H O' v d:=h.gen (.less k)
theorem Rd.some{a:aA}{u:HO}(h:Rd H a u):H a≠none:=by
 rcases h with h | ⟨o,h⟩<;>(rw[h];simp)
theorem Rep.more{p:aA}(hp:H p=none){v:V}{d:D}(h:Rep K H O v d):Rep K H (ins1 p O) v d:=h.gen (.ins hp)
theorem Reps.more{p:aA}(hp:H p=none){v:List V}{d:List D}(h:Reps K H O v d):Reps K H (ins1 p O) v d:=h.gen (.ins hp)
noncomputable def mutO:HO->Bool
 | .lst _ | .dK _ | .dT _ | .set _ _ | .ins _ _ _=>true
 |_=>false
noncomputable def MutHO:={ u:HO // mutO u=true }
def Old(H:Hp):aA->Prop:=fun a=>∃o,H a=some o/\mutO o=true
theorem Old.mono(k:Same H H'){a:aA}(h:Old H a):Old H' a:=let ⟨o,e,m⟩:=h;⟨o,k _ _ e,m⟩
def yA:aA->Prop:=fun _=>False
mutual
theorem Rep.flattn(ho:∀a,O a->Old H a):∀{v:V} {d:D},Rep K H O' v d->flat d=true->Rep K H O v d
 |_,_,.non=>fun _=>.non
 |_,_,.bl b=>fun _=>.bl b
 |_,_,.int i=>fun _=>.int i
 |_,_,.str x=>fun _=>.str x
 |_,_,.tup n h r=>fun f=>.tup (fun z=>by
    obtain⟨u,e,m⟩:=ho _ z;rcases h with h | ⟨o,h⟩
    . rw[e] at h;cases h;cases m
    . rw[e] at h;cases h;cases m) h (Reps.flattn ho r (by simpa[flat] using f))
 |_,_,.tupK h r=>fun f=>.tupK h (Reps.flattn ho r (by simpa[flat] using f))
 |_,_,.lst _ _ _=>fun f=>by simp[flat] at f
 |_,_,.lstK _ _=>fun f=>by simp[flat] at f
 |_,_,.dct _ _ _ _=>fun f=>by simp[flat] at f
 |_,_,.dcf _ _ _ _=>fun f=>by simp[flat] at f
 |_,_,.ins _ _ _ _ _=>fun f=>by simp[flat] at f
 |_,_,.clo _ _ _ _ _ _=>fun f=>by simp[flat] at f
 |_,_,.fnK _=>fun f=>by simp[flat] at f
theorem Reps.flattn(ho:∀a,O a->Old H a):∀{vs:List V} {ds:List D},Reps K H O' vs ds->flats ds=true->Reps K H O vs ds
 |_,_,.nil=>fun _=>.nil
 | _, _, .cons h t => fun f => by
   simp only[flats,bX] at f;exact .cons (Rep.flattn ho h f.1) (Reps.flattn ho t f.2)
end
theorem Rep.flatten(ho:∀a,O a->Old H a){v:V}{d:D}(f:flat d=true)(r:Rep K H O' v d):Rep K H O v d:=r.flattn ho f
theorem Reps.flatten(ho:∀a,O a->Old H a){v:List V}{d:List D}(f:flats d=true)(r:Reps K H O' v d):Reps K H O v d:=r.flattn ho f
theorem Reps.length:∀{vs:List V} {ds:List D},Reps K H O vs ds->vs.length=ds.length
 |_,_,.nil=>rfl
 |_,_,.cons _ t=>by simp[Reps.length t]
theorem Reps.get:∀{vs:List V} {ds:List D} {i:Nat} {d:D},Reps K H O vs ds->ds[i]?=some d->∃v,vs[i]?=some v/\Rep K H O v d
 |_,_,_,_,.nil,e=>by simp at e
 |_,_,0,_,.cons h _,e=>by simp at e;subst e;exact⟨_,rfl,h⟩
 | _, _, i + 1, d, .cons _ t, e => by
   obtain⟨v,h1,h2⟩:=Reps.get (i:=i) (d:=d) t (by simpa using e);exact⟨v,by simpa using h1,h2⟩
theorem Reps.append:∀{xs ys:List V} {ds es:List D},Reps K H O xs ds->Reps K H O ys es->Reps K H O (xs++ys) (ds++es)
 |_,_,_,_,.nil,s=>s
 |_,_,_,_,.cons r t,s=>.cons r (Reps.append t s)
theorem Reps.set{x:V}{d:D}(r:Rep K H O x d):∀{xs:List V} {ds:List D} (i:Nat),Reps K H O xs ds->Reps K H O (xs.set i x) (ds.set i d)
 |_,_,_,.nil=>.nil
 |_,_,0,.cons _ t=>.cons r t
 |_,_,i+1,.cons q t=>.cons q (Reps.set r i t)
theorem Reps.drop:∀{xs:List V} {ds:List D} (n:Nat),Reps K H O xs ds->Reps K H O (xs.drop n) (ds.drop n)
 |_,_,0,r=>r
 |_,_,_+1,.nil=>.nil
 |_,_,n+1,.cons _ t=>Reps.drop n t
theorem Reps.take:∀{xs:List V} {ds:List D} (n:Nat),Reps K H O xs ds->Reps K H O (xs.take n) (ds.take n)
 |_,_,0,_=>.nil
 |_,_,_+1,.nil=>.nil
 |_,_,n+1,.cons r t=>.cons r (Reps.take n t)
theorem Reps.ints:∀(ns:List Int),Reps K H O (ns.map V.int) (ns.map D.int)
 |[]=>.nil
 |n::r=>.cons (.int n) (Reps.ints r)
def WRep(K:Frag)(H:Hp)(O:aA->Prop)(v:V)(d:D):Prop:=Rep K H O v d\/∃a xs l,v=.ref a/\d=.lst l/\O a/\H a=some (.lst xs)/\Reps K H O xs l
theorem WRep.mono(k:Same H H'){v:V}{d:D}(h:WRep K H O v d):WRep K H' O v d:=by
 rcases h with h | ⟨a,xs,l,e1,e2,ho,h,r⟩
 . exact .inl (h.mono k)
 . exact .inr ⟨a,xs,l,e1,e2,ho,k _ _ h,r.mono k⟩
theorem WRep.any{v:V}{d:D}(h:WRep K H O v d):Rep K H yA v d:=by
 rcases h with h | ⟨a,xs,l,rfl,rfl,ho,h,r⟩
 . exact h.less (fun _ z=>z.elim)
 . exact .lst (fun z=>z.elim) (.inl h) (r.less fun _ z=>z.elim)
theorem WRep.seqL{v:V}{l:List D}(h:WRep K H O v (.lst l)):∃a xs,v=.ref a/\SqL K H a xs/\Reps K H O xs l:=by
 rcases h with h | ⟨a,xs,l',rfl,e,ho,h,r⟩
 . cases h with
   |lst n h r=>exact⟨_,_,rfl,.inl h,r⟩
   |lstK h r=>exact⟨_,_,rfl,.inr h,r⟩
 . cases e;exact⟨a,xs,rfl,.inl (.inl h),r⟩
theorem WRep.seqT{v:V}{l:List D}(h:WRep K H O v (.tup l)):∃a xs,v=.ref a/\SqT K H a xs/\Reps K H O xs l:=by
 rcases h with h | ⟨a,xs,l',rfl,e,ho,h,r⟩
 . cases h with
   |tup n h r=>exact⟨_,_,rfl,.inl h,r⟩
   |tupK h r=>exact⟨_,_,rfl,.inr h,r⟩
 . cases e
theorem WRep.int'{v:V}{i:Int}(h:WRep K H O v (.int i)):v=.int i:=by
 rcases h with h | ⟨a,xs,l',rfl,e,_⟩
 . cases h;rfl
 . cases e
theorem WRep.str'{v:V}{i:Str}(h:WRep K H O v (.str i)):v=.str i:=by
 rcases h with h | ⟨a,xs,l',rfl,e,_⟩
 . cases h;rfl
 . cases e
end
mutual
inductive RepO(K:Frag)(H:Hp)(O:aA->Prop):V->OT->List aA->Prop
 |val {v:V} {d:D} (r:Rep K H O v d):RepO K H O v (.val d) []
 |lst {a:aA} {xs:List V} {ts:List OT} {fs:List aA} (n:O a) (h:H a=some (.lst xs)) (r:RepsO K H O xs ts fs):RepO K H O (.ref a) (.lst ts) (a::fs)
 |tup {a:aA} {xs:List V} {ts:List OT} {fs:List aA} (n : ¬O a) (h:Rd H a (.tup xs)) (r:RepsO K H O xs ts fs):RepO K H O (.ref a) (.tup ts) fs
 |dct {a:aA} {kvs:List (Key×V)} {ks:List Key} {ts:List OT} {fs:List aA} (n:O a) (h:H a=some (.dK kvs)) (e:kvs.map (·.1)=ks) (r:RepsO K H O (kvs.map (·.2)) ts fs):RepO K H O (.ref a) (.dct ks ts) (a::fs)
 |ins {a C dx:aA} {t:Nat} {kvs:List (Str×V)} {ts:List OT} {fs:List aA} (c:aT K aP (dA t)=some (some (.ref C))) (n:O a) (h:H a=some (.ins C dx kvs)) (e:kvs.map (·.1)=cR t) (r:RepsO K H O (kvs.map (·.2)) ts fs):RepO K H O (.ref a) (.ins t ts) (a::fs)
inductive RepsO(K:Frag)(H:Hp)(O:aA->Prop):List V->List OT->List aA->Prop
 |nil:RepsO K H O [] [] []
 |cons {x:V} {t:OT} {xs:List V} {ts:List OT} {fs gs:List aA} (h:RepO K H O x t fs) (r:RepsO K H O xs ts gs):RepsO K H O (x::xs) (t::ts) (fs++gs)
end
section
variable{K:Frag}{H H':Hp}{O O':aA->Prop}
mutual
theorem RepO.gen(k:Kp O O' H H'):∀{v:V} {t:OT} {fs:List aA},RepO K H O v t fs->(∀b∈fs,∀u,O b->H b=some u->O' b/\H' b=some u)->RepO K H' O' v t fs
 |_,_,_,.val r=>fun _=>.val (r.gen k)
 |_,_,_,.lst n h r=>fun hb=>.lst (hb _ (.head _) _ n h).1 (hb _ (.head _) _ n h).2 (RepsO.gen k r fun b z=>hb b (.tail _ z))
 |_,_,_,.tup n h r=>fun hb=>.tup (k.rd n h).1 (k.rd n h).2 (RepsO.gen k r hb)
 |_,_,_,.dct n h e r=>fun hb=>.dct (hb _ (.head _) _ n h).1 (hb _ (.head _) _ n h).2 e (RepsO.gen k r fun b z=>hb b (.tail _ z))
 |_,_,_,.ins c n h e r=>fun hb=>.ins c (hb _ (.head _) _ n h).1 (hb _ (.head _) _ n h).2 e (RepsO.gen k r fun b z=>hb b (.tail _ z))
theorem RepsO.gen(k:Kp O O' H H'):∀{v:List V} {t:List OT} {fs:List aA},RepsO K H O v t fs->(∀b∈fs,∀u,O b->H b=some u->O' b/\H' b=some u)->RepsO K H' O' v t fs
 |_,_,_,.nil=>fun _=>.nil
 |_,_,_,.cons h r=>fun hb=>.cons (RepO.gen k h fun b z=>hb b (aW _ z)) (RepsO.gen k r fun b z=>hb b (aI _ z))
end
theorem RepO.keep(k:Keep O H H'){v:V}{t:OT}{fs:List aA}(h:RepO K H O v t fs)(hb:∀b∈fs,∀u,H b=some u->H' b=some u):RepO K H' O v t fs:=h.gen (.of k) fun b z u o e=>⟨o,hb b z u e⟩
theorem RepsO.keep(k:Keep O H H'){v:List V}{t:List OT}{fs:List aA}(h:RepsO K H O v t fs)(hb:∀b∈fs,∀u,H b=some u->H' b=some u):RepsO K H' O v t fs:=h.gen (.of k) fun b z u o e=>⟨o,hb b z u e⟩
theorem RepO.mono(k:Same H H'){v:V}{t:OT}{fs:List aA}(h:RepO K H O v t fs):RepO K H' O v t fs:=h.keep (.of_same k) fun b _ u e=>k b u e
theorem RepsO.mono(k:Same H H'){v:List V}{t:List OT}{fs:List aA}(h:RepsO K H O v t fs):RepsO K H' O v t fs:=h.keep (.of_same k) fun b _ u e=>k b u e
theorem RepO.less(k:∀a,O' a->O a){v:V}{t:OT}{fs:List aA}(h:RepO K H O v t fs)(hb:∀b∈fs,O' b):RepO K H O' v t fs:=h.gen (.less k) fun b z _ _ e=>⟨hb b z,e⟩
theorem RepsO.less(k:∀a,O' a->O a){v:List V}{t:List OT}{fs:List aA}(h:RepsO K H O v t fs)(hb:∀b∈fs,O' b):RepsO K H O' v t fs:=h.gen (.less k) fun b z _ _ e=>⟨hb b z,e⟩
theorem RepO.more{p:aA}(hp:H p=none){v:V}{t:OT}{fs:List aA}(h:RepO K H O v t fs):RepO K H (ins1 p O) v t fs:=h.gen (.ins hp) fun _ _ _ o e=>⟨.inr o,e⟩
theorem RepsO.more{p:aA}(hp:H p=none){v:List V}{t:List OT}{fs:List aA}(h:RepsO K H O v t fs):RepsO K H (ins1 p O) v t fs:=h.gen (.ins hp) fun _ _ _ o e=>⟨.inr o,e⟩
mutual
theorem RepO.owns:∀{v:V} {t:OT} {fs:List aA},RepO K H O v t fs->∀b∈fs,O b/\∃u:MutHO,H b=some u.1
 |_,_,_,.val r=>fun b z=>nomatch z
 |_,_,_,.lst n h r=>fun b z=>(aD.mp z).elim (fun q=>q▸⟨n,⟨_,rfl⟩,h⟩) (RepsO.owns r b)
 |_,_,_,.tup n h r=>RepsO.owns r
 |_,_,_,.dct n h e r=>fun b z=>(aD.mp z).elim (fun q=>q▸⟨n,⟨_,rfl⟩,h⟩) (RepsO.owns r b)
 |_,_,_,.ins c n h e r=>fun b z=>(aD.mp z).elim (fun q=>q▸⟨n,⟨_,rfl⟩,h⟩) (RepsO.owns r b)
theorem RepsO.owns:∀{v:List V} {t:List OT} {fs:List aA},RepsO K H O v t fs->∀b∈fs,O b/\∃u:MutHO,H b=some u.1
 |_,_,_,.nil=>fun b z=>nomatch z
 |_,_,_,.cons h r=>fun b z=>(bJ.mp z).elim (RepO.owns h b) (RepsO.owns r b)
end
mutual
theorem RepO.val':∀{v:V} {t:OT} {fs:List aA},RepO K H O v t fs->(∀a,O' a->O a/\a∉fs)->Rep K H O' v (otD t)
 |_,_,_,.val r=>fun k=>r.less fun a z=>(k a z).1
 |_,_,_,.lst n h r=>fun k=>by unfold otD;exact .lst (fun z=>(k _ z).2 (.head _)) (.inl h) (RepsO.val' r fun a z=>⟨(k a z).1,fun q=>(k a z).2 (.tail _ q)⟩)
 |_,_,_,.tup n h r=>fun k=>by unfold otD;exact .tup (fun z=>n (k _ z).1) h (RepsO.val' r k)
 |_,_,_,.dct n h e r=>fun k=>by unfold otD;exact .dct (fun z=>(k _ z).2 (.head _)) h e (RepsO.val' r fun a z=>⟨(k a z).1,fun q=>(k a z).2 (.tail _ q)⟩)
 |_,_,_,.ins c n h e r=>fun k=>by unfold otD;exact .ins c (fun z=>(k _ z).2 (.head _)) h e (RepsO.val' r fun a z=>⟨(k a z).1,fun q=>(k a z).2 (.tail _ q)⟩)
theorem RepsO.val':∀{v:List V} {t:List OT} {fs:List aA},RepsO K H O v t fs->(∀a,O' a->O a/\a∉fs)->Reps K H O' v (otDs t)
 |_,_,_,.nil=>fun _=>by unfold otDs;exact .nil
 |_,_,_,.cons h r=>fun k=>by unfold otDs;exact .cons (RepO.val' h fun a z=>⟨(k a z).1,fun q=>(k a z).2 (aW _ q)⟩) (RepsO.val' r fun a z=>⟨(k a z).1,fun q=>(k a z).2 (aI _ q)⟩)
end
theorem RepO.any{v:V}{t:OT}{fs:List aA}(h:RepO K H O v t fs):Rep K H yA v (otD t):=h.val' fun _ z=>z.elim
theorem RepsO.any{v:List V}{t:List OT}{fs:List aA}(h:RepsO K H O v t fs):Reps K H yA v (otDs t):=h.val' fun _ z=>z.elim
end
noncomputable def SlOk(K:Frag)(H₀ H:Hp)(O:aA->Prop):Option V->Sl->Prop
 |_,.no=>True
 |some x,.v d=>Rep K H O x d
 |some (.ref a),.own l=>O a/\∃xs,H a=some (.lst xs)/\Reps K H O xs l
 |some (.ref a),.fr l=>¬O a/\H₀ a=none/\∃xs,H a=some (.lst xs)/\Reps K H O xs l
 |_,.ob _ _=>True
 |some (.ref a),.exc t=>∃C o u,aT K aP (xName t)=some (some (.ref C))/\H a=some (.frz o u)/\o.cls=.ref C
 |_,_=>False
def IsOwn(ds:List Sl)(i:Nat):Prop:=∃l,ds[i]?=some (.own l)
inductive HI where
 |rep (v:V) (d:D) | base (B:aA->Prop) | root (k a:Nat) | fz (a:aA) (o:Obj) (kvs:List (Key×V)) (l:List D)
abbrev Hold:=List HI
noncomputable def HOk(K:Frag)(H₀ H:Hp)(O:aA->Prop):HI->Prop
 | .rep v d=>Rep K H O v d
 | .base B=>∀a,B a->O a/\H₀ a≠none
 | .root _ _=>True
 | .fz a o kvs l=>¬O a/\H a=some (.frz o (.dK kvs))/\Reps K H O (kvs.map (·.2)) l
def Obs(K:Frag)(H₀ H:Hp)(O:aA->Prop)(σ : L2.St)(ds:List Sl)(hd:Hold):Prop:=∃F:Nat->List aA,∀(i:Nat) (r:Option Nat) (t:OT),ds[i]?=some (.ob r t)->∃v,σ[i]?=some (some v)/\RepO K H O v t (F i)/\(∀k a,r=some k->HI.root k a∈hd->v=.ref a)/\(F i).Nodup ∧
 ∀b∈F i,H₀ b=none/\(∀j r' t',j≠i->ds[j]?=some (.ob r' t')->b∉F j)/\∀j,IsOwn ds j->σ[j]?≠some (some (.ref b))
structure Ok(K:Frag)(H₀ H:Hp)(O:aA->Prop)(σ : L2.St)(ds:List Sl)(hd:Hold):Prop where
 same:Same H₀ H
 fresh:∀(i:Nat) (l:List D) (a:aA),ds[i]?=some (.own l)->σ[i]?=some (some (.ref a))->H₀ a=none
 dom:∀a,O a->∃u:MutHO,H a=some u.1
 len : σ.length=ds.length
 sl:∀(i:Nat) (s:Sl),ds[i]?=some s->SlOk K H₀ H O (σ[i]?.join) s
 apart:∀(i j:Nat) (a:aA),i≠j->IsOwn ds i->IsOwn ds j->σ[i]?=some (some (.ref a))->σ[j]?=some (some (.ref a))->False
 hold:∀p∈hd,HOk K H₀ H O p
 obs:Obs K H₀ H O σ ds hd
section
variable{K:Frag}{H₀ H H':Hp}{O O':aA->Prop}{σ : L2.St}{ds:List Sl}{hd:Hold}
theorem HOk.mono(k:Same H H'):∀{p:HI},HOk K H₀ H O p->HOk K H₀ H' O p
 | .rep _ _,h=>Rep.mono k h
 | .base _,h=>h
 | .root _ _,h=>h
 | .fz _ _ _ _,h=>⟨h.1,k _ _ h.2.1,Reps.mono k h.2.2⟩
theorem HOk.keep(k:Keep O H H'):∀{p:HI},HOk K H₀ H O p->HOk K H₀ H' O p
 | .rep _ _,h=>Rep.keep k h
 | .base _,h=>h
 | .root _ _,h=>h
 | .fz _ _ _ _,h=>⟨h.1,k _ _ h.1 h.2.1,Reps.keep k h.2.2⟩
theorem Obs.tr{σ':L2.St}{ds':List Sl}(h:Obs K H₀ H O σ ds hd)(tr:∀v t fs,RepO K H O v t fs->(∀b∈fs,H₀ b=none/\∀j,IsOwn ds j->σ[j]?≠some (some (.ref b)))->RepO K H' O' v t fs)(hob:∀(i:Nat) (r:Option Nat) (t:OT),ds'[i]?=some (.ob r t)->ds[i]?=some (.ob r t)/\σ'[i]?=σ[i]?)(hown:∀(j:Nat) (b:aA),IsOwn ds' j->σ'[j]?=some (some (.ref b))->(IsOwn ds j/\σ[j]?=some (some (.ref b)))\/H b=none):Obs K H₀ H' O' σ' ds' hd:=by
 obtain⟨F,hF⟩:=h;refine⟨F,fun i r t e=>?_⟩;obtain⟨e1,e2⟩:=hob i r t e;obtain⟨v,h1,h2,h3,h4,h5⟩:=hF i r t e1;refine⟨v,e2.trans h1,tr v t _ h2 fun b hb=>⟨(h5 b hb).1,(h5 b hb).2.2⟩,h3,h4,fun b hb=>⟨(h5 b hb).1,fun j r' t' hj ej=>(h5 b hb).2.1 j r' t' hj (hob j r' t' ej).1,fun j oj ej=>?_⟩⟩;rcases hown j b oj ej with⟨o1,o2⟩ | hn
 . exact(h5 b hb).2.2 j o1 o2
 . obtain⟨_, xs, z⟩ := h2.owns b hb;rw[hn] at z;cases z
theorem Obs.no(h:∀(i:Nat) (r:Option Nat) (t:OT),ds[i]?≠some (.ob r t)):Obs K H₀ H O σ ds hd:=⟨fun _=>[],fun i r t e=>(h i r t e).elim⟩
theorem Obs.mono(k:Same H H')(h:Obs K H₀ H O σ ds hd):Obs K H₀ H' O σ ds hd:=h.tr (fun _ _ _ r _=>r.mono k) (fun _ _ _ e=>⟨e,rfl⟩) fun _ _ o e=>.inl ⟨o,e⟩
theorem vT{i:Nat}{s:Sl}(hs:∀r t,s≠.ob r t){j:Nat}{r:Option Nat}{t:OT}(e:(ds.set i s)[j]?=some (.ob r t)):ds[j]?=some (.ob r t)/\j≠i:=by
 by_cases hj:j=i
 . subst hj
   by_cases hl:j<ds.length
   . rw[aX hl] at e;cases e;exact(hs r t rfl).elim
   . rw[bW (by simpa using hl)] at e;cases e
 . rw[aF (Ne.symm hj)] at e;exact⟨e,hj⟩
theorem vG{i:Nat}{s:Sl}(hs:∀l,s≠.own l){j:Nat}(e:IsOwn (ds.set i s) j):IsOwn ds j/\j≠i:=by
 obtain⟨l,e⟩:=e
 by_cases hj:j=i
 . subst hj
   by_cases hl:j<ds.length
   . rw[aX hl] at e;cases e;exact(hs l rfl).elim
   . rw[bW (by simpa using hl)] at e;cases e
 . rw[aF (Ne.symm hj)] at e;exact⟨⟨l,e⟩,hj⟩
theorem SlOk.mono(k:Same H H'):∀{x:Option V} {s:Sl},SlOk K H₀ H O x s->SlOk K H₀ H' O x s
 |none,.no,_=>trivial
 |some (.ref _),.no,_=>trivial
 |some _,.no,_=>by simp[SlOk]
 | x, .ob _ _, _ => by cases x with
   |none=>trivial
   |some x=>cases x<;>trivial
 | some x, .v d, h => by
   have h:Rep K H O x d:=by cases x<;>exact h
   show SlOk K H₀ H' O (some x) (.v d);have:=h.mono k;cases x<;>exact this
 |some (.ref a),.own l,⟨ho,xs,h,r⟩=>⟨ho,xs,k _ _ h,r.mono k⟩
 |some (.ref a),.fr l,⟨ho,h0,xs,h,r⟩=>⟨ho,h0,xs,k _ _ h,r.mono k⟩
 |some (.ref a),.exc t,⟨C,o,u,h1,h2,h3⟩=>⟨C,o,u,h1,k _ _ h2,h3⟩
theorem Ok.old(o:Ok K H₀ H O σ ds hd){a:aA}(h:O a):Old H a:=let ⟨xs,e⟩:=o.dom a h;⟨_,e,xs.2⟩
theorem Ok.mono(k:Same H H')(o:Ok K H₀ H O σ ds hd):Ok K H₀ H' O σ ds hd :=
 ⟨o.same.trans k,o.fresh,fun a h=>let ⟨xs,e⟩:=o.dom a h;⟨xs,k _ _ e⟩,o.len,fun i s e=>(o.sl i s e).mono k,o.apart,fun p hp=>(o.hold p hp).mono k,o.obs.mono k⟩
theorem Ok.free{p:aA}(o:Ok K H₀ H O σ ds hd)(h:H p=none):¬O p:=fun z=>by
 obtain⟨xs,e⟩:=o.dom p z;rw[h] at e;cases e
theorem Ok.read{i:Nat}{d:D}(o:Ok K H₀ H O σ ds hd)(e:ds[i]?=some (.v d)):∃v,σ[i]?=some (some v)/\Rep K H O v d:=by
 have h:=o.sl i _ e;cases q : σ[i]? with
 |none=>rw[q] at h;exact h.elim
 | some x =>
   rw[q] at h;cases x with
   |none=>exact h.elim
   |some x=>exact⟨x,rfl,by cases x<;>exact h⟩
theorem Ok.readO{i:Nat}{l:List D}(o:Ok K H₀ H O σ ds hd)(e:ds[i]?=some (.own l)):∃a xs,σ[i]?=some (some (.ref a))/\O a/\H a=some (.lst xs)/\Reps K H O xs l:=by
 have h:=o.sl i _ e;cases q : σ[i]? with
 |none=>rw[q] at h;exact h.elim
 | some x =>
   rw[q] at h;cases x with
   |none=>exact h.elim
   | some x =>
     cases x with
     |ref a=>obtain⟨ho,xs,h1,h2⟩:=h;exact⟨a,xs,rfl,ho,h1,h2⟩
     |_=>exact h.elim
theorem Ok.readX{i t:Nat}(o:Ok K H₀ H O σ ds hd)(e:ds[i]?=some (.exc t)):∃a C ob u,σ[i]?=some (some (.ref a))/\aT K aP (xName t)=some (some (.ref C))/\H a=some (.frz ob u)/\ob.cls=.ref C:=by
 have h:=o.sl i _ e;cases q : σ[i]? with
 |none=>rw[q] at h;exact h.elim
 | some x =>
   rw[q] at h;cases x with
   |none=>exact h.elim
   | some x =>
     cases x with
     |ref a=>obtain⟨C,ob,u,h1,h2,h3⟩:=h;exact⟨a,C,ob,u,rfl,h1,h2,h3⟩
     |_=>exact h.elim
theorem Ok.readF{i:Nat}{l:List D}(o:Ok K H₀ H O σ ds hd)(e:ds[i]?=some (.fr l)):∃a xs,σ[i]?=some (some (.ref a))/\¬O a/\H₀ a=none/\H a=some (.lst xs)/\Reps K H O xs l:=by
 have h:=o.sl i _ e;cases q : σ[i]? with
 |none=>rw[q] at h;exact h.elim
 | some x =>
   rw[q] at h;cases x with
   |none=>exact h.elim
   | some x =>
     cases x with
     |ref a=>obtain⟨ho,h0,xs,h1,h2⟩:=h;exact⟨a,xs,rfl,ho,h0,h1,h2⟩
     |_=>exact h.elim
theorem jQ{x:Option V}: SlOk K H₀ H O x .no:=by
 cases x with
 |none=>trivial
 |some x=>cases x<;>trivial
theorem xG{x:Option V}{r:Option Nat}{t:OT}: SlOk K H₀ H O x (.ob r t):=by
 cases x with
 |none=>trivial
 |some x=>cases x<;>trivial
theorem yQ{x:V}{d:D}(h:Rep K H O x d):SlOk K H₀ H O (some x) (.v d):=by
 cases x<;>exact h
theorem Ok.set{i:Nat}{v:V}{d:D}(o:Ok K H₀ H O σ ds hd)(r:Rep K H O v d):Ok K H₀ H O (σ.set i (some v)) (ds.set i (.v d)) hd:=by
 have own':∀{j:Nat},IsOwn (ds.set i (.v d)) j->j≠i/\IsOwn ds j:=fun {j} ⟨l,e⟩=>by
  by_cases hj:j=i
  . subst hj
    by_cases hl:j<ds.length
    . rw[aX hl] at e;cases e
    . rw[bW (by simpa using hl)] at e;cases e
  . rw[aF (Ne.symm hj)] at e;exact⟨hj,l,e⟩
 refine⟨o.same,fun j l a e1 e2=>?_,o.dom,by simpa using o.len,fun j s e=>?_,fun j k a hjk hj hk e1 e2=>?_,o.hold,o.obs.tr (fun _ _ _ r _=>r) (fun j r t e=>by
  obtain⟨e1,hj⟩:=vT (fun r t=>by intro z;cases z) e
  exact⟨e1,by rw[aF (Ne.symm hj)]⟩) (fun j b oj ej=>by
  obtain⟨o1,hj⟩:=vG (fun l=>by intro z;cases z) oj;rw[aF (Ne.symm hj)] at ej
  exact .inl ⟨o1,ej⟩)⟩
 . obtain⟨n1, h1⟩ := own' ⟨l, e1⟩;rw[aF (Ne.symm n1)] at e1 e2;exact o.fresh j l a e1 e2
 . by_cases hj : j = i
   . subst hj
     by_cases hl:j<ds.length
     . rw[aX hl] at e;cases e;rw[aX (by rw[o.len];exact hl)];exact yQ r
     . rw[bW (by simpa using hl)] at e;cases e
   . rw[aF (Ne.symm hj)] at e;rw[aF (Ne.symm hj)];exact o.sl j s e
 . obtain⟨n1, h1⟩ := own' hj;obtain⟨n2,h2⟩:=own' hk;rw[aF (Ne.symm n1)] at e1;rw[aF (Ne.symm n2)] at e2;exact o.apart j k a hjk h1 h2 e1 e2
theorem Ok.setO{i:Nat}{a:aA}{xs:List V}{l:List D}(o:Ok K H₀ H O σ ds hd)(k:Same H H')(hn:H a=none)(e:H' a=some (.lst xs))(r:Reps K H' (ins1 a O) xs l) :
  Ok K H₀ H' (ins1 a O) (σ.set i (some (.ref a))) (ds.set i (.own l)) hd:=by
 have up:∀{v:V} {d:D},Rep K H O v d->Rep K H' (ins1 a O) v d:=fun h=>(h.more hn).mono k;have ups:∀{v:List V} {d:List D},Reps K H O v d->Reps K H' (ins1 a O) v d:=fun h=>(h.more hn).mono k
 have other:∀j:Nat,IsOwn ds j->σ[j]?=some (some (.ref a))->False:=fun j ⟨l',e'⟩ q=>by
  obtain⟨b,ys,h1,h2,h3,_⟩:=o.readO e';rw[q] at h1;cases h1;rw[hn] at h3;cases h3
 have own':∀{j:Nat},j≠i->IsOwn (ds.set i (.own l)) j->IsOwn ds j:=fun {j} hj ⟨l',e'⟩=>⟨l',by rwa [aF (Ne.symm hj)] at e'⟩
 refine⟨o.same.trans k,fun j l' b e1 e2=>?_,fun b hb=>?_,by simpa using o.len,fun j s es=>?_,fun j m b hjm hj hm e1 e2=>?_,fun p hp=>?_,o.obs.tr (fun _ _ _ r _=>(r.more hn).mono k) (fun j r t e=>by
  obtain⟨e1,hj⟩:=vT (fun r t=>by intro z;cases z) e
  exact⟨e1,by rw[aF (Ne.symm hj)]⟩) (fun j b oj ej=>by
  by_cases hj:j=i
  . subst hj
    by_cases hl:j<σ.length
    . rw[aX hl] at ej;cases ej;exact .inr hn
    . rw[bW (by simpa using hl)] at ej;cases ej
  . rw [aF (Ne.symm hj)] at ej;obtain ⟨l',e'⟩:=oj;rw [aF (Ne.symm hj)] at e'
    exact .inl ⟨⟨l',e'⟩,ej⟩)⟩
 rotate_left 4
 . have := o.hold p hp;cases p with
   |rep v d=>exact up this
   |base B=>exact fun b hb=>⟨.inr (this b hb).1,(this b hb).2⟩
   |root k a=>exact True.intro
   |fz a' o' kvs' l'=>exact⟨fun z=>z.elim (fun z=>by have:=this.2.1;rw[z,hn] at this;cases this) this.1,k _ _ this.2.1,(Reps.more hn this.2.2).mono k⟩
 . by_cases hj : j = i
   . subst hj
     by_cases hl:j<σ.length
     . rw[aX hl] at e2;cases e2;exact o.same.free hn
     . rw[bW (by simpa using hl)] at e2;cases e2
   . rw[aF (Ne.symm hj)] at e1 e2;exact o.fresh j l' b e1 e2
 . rcases hb with rfl | hb
   . exact⟨⟨.lst xs,rfl⟩,e⟩
   . obtain⟨ys, q⟩ := o.dom b hb;exact⟨ys,k _ _ q⟩
 . by_cases hj : j = i
   . subst hj
     by_cases hl:j<ds.length
     . rw[aX hl] at es;cases es;rw[aX (by rw[o.len];exact hl)];exact⟨.inl rfl,xs,e,r⟩
     . rw[bW (by simpa using hl)] at es;cases es
   . rw [aF (Ne.symm hj)] at es;rw [aF (Ne.symm hj)];cases s with
     |no=>exact jQ
     |ob r t=>exact xG
     | exc t =>
       obtain⟨a',C',ob',u',q1,q2,q3,q4⟩:=o.readX es;rw[q1];exact⟨C',ob',u',q2,k _ _ q3,q4⟩
     | fr l' =>
       obtain⟨a',xs',q1,q2,q0,q3,q4⟩:=o.readF es;rw[q1];exact⟨fun z=>z.elim (fun e'=>by rw[e',hn] at q3;cases q3) q2,q0,xs',k _ _ q3,ups q4⟩
     | v d =>
       obtain⟨v,h1,h2⟩:=o.read es;rw[h1];exact yQ (up h2)
     | own l' =>
       obtain⟨b,ys,h1,h2,h3,h4⟩:=o.readO es;rw[h1];exact⟨.inr h2,ys,k _ _ h3,ups h4⟩
 . have hs:∀{q:Nat},q=i->(σ.set i (some (V.ref a)))[q]?=some (some (.ref b))->b=a:=fun {q} hq eq=>by
    subst hq
    by_cases hl:q<σ.length
    . rw[aX hl] at eq;cases eq;rfl
    . rw[bW (by simpa using hl)] at eq;cases eq
   by_cases h1:j=i
   . have hb := hs h1 e1;have h2:m≠i:=fun z=>hjm (h1.trans z.symm);rw[aF (Ne.symm h2),hb] at e2;exact other m (own' h2 hm) e2
   . by_cases h2 : m = i
     . have hb := hs h2 e2;rw[aF (Ne.symm h1),hb] at e1;exact other j (own' h1 hj) e1
     . rw[aF (Ne.symm h1)] at e1;rw[aF (Ne.symm h2)] at e2;exact o.apart j m b hjm (own' h1 hj) (own' h2 hm) e1 e2
theorem Ok.release{i:Nat}{l:List D}(o:Ok K H₀ H O σ ds hd)(e:ds[i]?=some (.own l)):∃O',Ok K H₀ H O' σ (ds.set i (.v (.lst l))) hd:=by
 obtain⟨a,xs,h1,h2,h3,h4⟩:=o.readO e;have hl:i<ds.length:=(aV.mp e).1
 let O':aA->Prop:=fun b=>O b/\b≠a
 have sub:∀b,O' b->O b:=fun b hb=>hb.1;have na : ¬O' a:=fun hb=>hb.2 rfl
 have own0:∀{j:Nat} {l':List D},(ds.set i (.v (.lst l)))[j]?=some (.own l')->ds[j]?=some (.own l'):=fun {j l'} e'=>by
  by_cases hj:j=i
  . subst hj;rw[aX hl] at e';cases e'
  . rwa [aF (Ne.symm hj)] at e'
 refine⟨O',o.same,fun j l' b e1 e2=>o.fresh j l' b (own0 e1) e2,fun b hb=>o.dom b (sub b hb),by simpa using o.len,fun j s es=>?_,fun j m b hjm hj hm e1 e2=>?_,fun p hp=>?_,o.obs.tr (fun _ _ _ r hb=>r.less sub fun b z=>⟨(r.owns b z).1,fun q=>(hb b z).2 i ⟨l,e⟩ (by rw[q];exact h1)⟩) (fun j r t ej=>by
  obtain⟨e1,hj⟩:=vT (fun r t=>by intro z;cases z) ej
  exact⟨e1,rfl⟩) (fun j b oj ej=>.inl ⟨(vG (fun l=>by intro z;cases z) oj).1,ej⟩)⟩
 rotate_left 2
 . have := o.hold p hp;cases p with
   |rep v d=>exact Rep.less sub this
   |base B=>exact fun b hb=>⟨⟨(this b hb).1,fun z=>(this b hb).2 (z▸o.fresh i l a e h1)⟩,(this b hb).2⟩
   |root k a=>exact True.intro
   |fz a' o' kvs' l'=>exact⟨fun z=>this.1 (sub _ z),this.2.1,Reps.less sub this.2.2⟩
 . by_cases hj : j = i
   . subst hj;rw[aX hl] at es;cases es;rw[h1];exact yQ (.lst na (.inl h3) (h4.less sub))
   . rw [aF (Ne.symm hj)] at es;cases s with
     |no=>exact jQ
     |ob r t=>exact xG
     | exc t =>
       obtain⟨a',C',ob',u',q1,q2,q3,q4⟩:=o.readX es;rw[q1];exact⟨C',ob',u',q2,q3,q4⟩
     | fr l' =>
       obtain⟨a',xs',q1,q2,q0,q3,q4⟩:=o.readF es;rw[q1];exact⟨fun z=>q2 (sub _ z),q0,xs',q3,q4.less sub⟩
     | v d =>
       obtain⟨v,q1,q2⟩:=o.read es;rw[q1];exact yQ (q2.less sub)
     | own l' =>
       obtain⟨b,ys,q1,q2,q3,q4⟩:=o.readO es;rw[q1];refine⟨⟨q2,fun z=>?_⟩,ys,q3,q4.less sub⟩;subst z;exact o.apart j i b hj ⟨l',es⟩ ⟨l,e⟩ q1 h1
 . have own':∀{j:Nat},IsOwn (ds.set i (.v (.lst l))) j->IsOwn ds j:=fun {j} ⟨l',e'⟩=>by
    by_cases hj:j=i
    . subst hj;rw[aX hl] at e';cases e'
    . rw[aF (Ne.symm hj)] at e';exact⟨l',e'⟩
   exact o.apart j m b hjm (own' hj) (own' hm) e1 e2
theorem Ok.modify{i:Nat}{l l':List D}{a:aA}{xs':List V}(o:Ok K H₀ H O σ ds hd)(e:ds[i]?=some (.own l))(ea : σ[i]?=some (some (.ref a)))(r:Reps K H O xs' l') :
  Ok K H₀ (upd H a (.lst xs')) O σ (ds.set i (.own l')) hd:=by
 obtain⟨a',xs,h1,h2,h3,h4⟩:=o.readO e;rw[ea] at h1;cases h1;have hl:i<ds.length:=(aV.mp e).1
 have k:Keep O H (upd H a (.lst xs')):=fun b u hb eb=>by
  rw[upd_ne (fun(z:b=a)=>hb (z.symm▸h2))];exact eb
 refine⟨fun b u eb=>?_,fun j l2 b e1 e2=>?_,fun b hb=>?_,by simpa using o.len,fun j s es=>?_,fun j m b hjm hj hm e1 e2=>?_,fun p hp=>(o.hold p hp).keep k,o.obs.tr (fun _ _ _ r hb=>r.keep k fun b z u eu=>by rw[upd_ne (fun q=>(hb b z).2 i ⟨l,e⟩ (by rw[q];exact ea))];exact eu) (fun j r t ej=>by
  obtain⟨e1,hj⟩:=vT (fun r t=>by intro z;cases z) ej
  exact⟨e1,rfl⟩) (fun j b oj ej=>by
  by_cases hj:j=i
  . subst hj;exact .inl ⟨⟨l,e⟩,ej⟩
  . obtain ⟨l', e'⟩ := oj;rw [aF (Ne.symm hj)] at e'
    exact .inl ⟨⟨l',e'⟩,ej⟩)⟩
 rotate_left 1
 . by_cases hj : j = i
   . subst hj;exact o.fresh j l b e e2
   . rw[aF (Ne.symm hj)] at e1;exact o.fresh j l2 b e1 e2
 rotate_right 1
 . rw[upd_ne (fun z => by rw[z, o.fresh i l a e ea] at eb;cases eb)];exact o.same b u eb
 . by_cases hba : b = a
   . subst hba;exact⟨⟨.lst xs',rfl⟩,qE⟩
   . rw[upd_ne hba];exact o.dom b hb
 . by_cases hj : j = i
   . subst hj;rw[aX hl] at es;cases es;rw[ea];exact⟨h2,xs',qE,r.keep k⟩
   . rw [aF (Ne.symm hj)] at es;cases s with
     |no=>exact jQ
     |ob r t=>exact xG
     | exc t =>
       obtain⟨a',C',ob',u',q1,q2,q3,q4⟩:=o.readX es;rw[q1];exact⟨C',ob',u',q2,by rw[upd_ne (fun z=>by rw[z,h3] at q3;cases q3)];exact q3,q4⟩
     | fr l' =>
       obtain⟨a',xs'',q1,q2,q0,q3,q4⟩:=o.readF es;rw[q1];exact⟨q2,q0,xs'',by rw[upd_ne (fun z=>q2 (by rw[z];exact h2))];exact q3,q4.keep k⟩
     | v d =>
       obtain⟨v,q1,q2⟩:=o.read es;rw[q1];exact yQ (q2.keep k)
     | own l'' =>
       obtain⟨b,ys,q1,q2,q3,q4⟩:=o.readO es;rw[q1];refine⟨q2,ys,?_,q4.keep k⟩;rw[upd_ne (fun z=>?_)]
       . exact q3
       . subst z;exact o.apart j i b hj ⟨_,es⟩ ⟨l,e⟩ q1 ea
 . have own':∀{j:Nat},IsOwn (ds.set i (.own l')) j->IsOwn ds j:=fun {j} ⟨l'',e'⟩=>by
    by_cases hj:j=i
    . subst hj;exact⟨l,e⟩
    . rw[aF (Ne.symm hj)] at e';exact⟨l'',e'⟩
   exact o.apart j m b hjm (own' hj) (own' hm) e1 e2
theorem Ok.holdMore{p:HI}(o:Ok K H₀ H O σ ds hd)(r:HOk K H₀ H O p)(hp:∀k a,HI.root k a≠p:=by intro _ _ z;cases z):Ok K H₀ H O σ ds (p::hd):=
 ⟨o.same,o.fresh,o.dom,o.len,o.sl,o.apart,fun q hq=>(aD.mp hq).elim (fun e=>e▸r) (o.hold q),let ⟨F,hF⟩:=o.obs;⟨F,fun i r t e=>let ⟨v,h1,h2,h3,h4⟩:=hF i r t e;⟨v,h1,h2,fun k a z y=>(aD.mp y).elim (fun y=>(hp k a y).elim) (h3 k a z),h4⟩⟩⟩
theorem Ok.holdLess{p:HI}(o:Ok K H₀ H O σ ds (p::hd)):Ok K H₀ H O σ ds hd :=
 ⟨o.same,o.fresh,o.dom,o.len,o.sl,o.apart,fun q hq=>o.hold q (aG _ hq),let ⟨F,hF⟩:=o.obs;⟨F,fun i r t e=>let ⟨v,h1,h2,h3,h4⟩:=hF i r t e;⟨v,h1,h2,fun k a z y=>h3 k a z (aG _ y),h4⟩⟩⟩
end
section
variable(X:Cx)
def PV(e:Expr)(f:FE):Prop:=∃t,PE X e t/\∀H₀ H O σ ds hd d Q,Ok X.K H₀ H O σ ds hd->f ds=some d->(∀v H',Same H H'->Rep X.K H' O v d->Q v H')->t σ H Q
def PVw(e:Expr)(f:FE):Prop:=∃t,PE X e t/\∀H₀ H O σ ds hd d Q,Ok X.K H₀ H O σ ds hd->f ds=some d->(∀v H',Same H H'->WRep X.K H' O v d->Q v H')->t σ H Q
def PVf(e:Expr)(f:FA):Prop:=∃t,PE X e t/\∀H₀ H O σ ds hd l Q,Ok X.K H₀ H O σ ds hd->f ds=some l →
 (∀a xs H',Same H H'->H a=none->H' a=some (.lst xs)->Reps X.K H' (ins1 a O) xs l->Q (.ref a) H')->t σ H Q
def PTv(e:Expr)(c:FT):Prop:=∃t,PT X e t/\∀H₀ H O σ ds hd b Q,Ok X.K H₀ H O σ ds hd->c ds=some b->(∀H',Same H H'->Q b H')->t σ H Q
def PWv(e:Expr)(c:FT):Prop:=∃t,PW X e t/\∀H₀ H O σ ds hd b Q,Ok X.K H₀ H O σ ds hd->c ds=some b->(∀H',Same H H'->Q b H')->t σ H Q
def PAv(es:List Expr)(f:FA):Prop:=∃t,PA X es t/\∀H₀ H O σ ds hd l Q,Ok X.K H₀ H O σ ds hd->f ds=some l->(∀vs H',Same H H'->KG (WRep X.K H' O) vs l->Q vs H')->t σ H Q
def PAs(es:List Expr)(f:FA):Prop:=∃t,PA X es t/\∀H₀ H O σ ds hd l Q,Ok X.K H₀ H O σ ds hd->f ds=some l->(∀vs H',Same H H'->Reps X.K H' O vs l->Q vs H')->t σ H Q
end
section
variable{X:Cx}
theorem PV.w{e:Expr}{f:FE}(h:PV X e f):PVw X e f:=by
 obtain⟨t,ht,hf⟩:=h;exact⟨t,ht,fun H₀ H O σ ds hd d Q o e q=>hf H₀ H O σ ds hd d Q o e fun v H' s r=>q v H' s (.inl r)⟩
theorem PVf.s{e:Expr}{f:FA}(h:PVf X e f):PV X e (mkL f):=by
 obtain⟨t,ht,hf⟩:=h;refine⟨t,ht,fun H₀ H O σ ds hd d Q o e q=>?_⟩;unfold mkL at e;obtain⟨l,hl,rfl⟩:=mpd e;rw[hl] at e;cases e;refine hf H₀ H O σ ds hd l Q o hl fun a xs H' s hn he r=>q _ _ s ?_;exact .lst (o.free hn) (.inl he) (r.less fun _ z=>.inr z)
theorem zL(i:Nat){x:Str}{pos:Pos}(hN:X.N[i]?=some x:=by rfl)(hv:Vis X.env.scope x:=by first | exact Or.inl rfl | exact Or.inr (Or.inl rfl) | exact Or.inr (Or.inr rfl))(hd:(x==("__debug__" : Str))=false:=by decide)(hcd:(x==("__classdict__" : Str))=false:=by decide):PV X (.Name x pos) (qL i):=by
 refine⟨_,xW hN hv hd hcd,fun H₀ H O σ ds hd d Q o e q=>?_⟩;unfold qL at e;cases hs:ds[i]? with
 |none=>rw[hs] at e;cases e
 | some s =>
   rw[hs] at e;cases s with
   | v d' =>
     cases e;obtain⟨v,h1,h2⟩:=o.read hs;exact⟨v,h1,q v H (Same.refl _) h2⟩
   |no=>cases e
   |exc _=>cases e
   |fr _=>cases e
   |ob _ _=>cases e
   |own l=>cases e
theorem zC(i:Nat){x:Str}{pos:Pos}(hN:X.N[i]?=some x:=by rfl)(hv:Vis X.env.scope x:=by first | exact Or.inl rfl | exact Or.inr (Or.inl rfl) | exact Or.inr (Or.inr rfl))(hd:(x==("__debug__" : Str))=false:=by decide)(hcd:(x==("__classdict__" : Str))=false:=by decide):PVw X (.Name x pos) (zH i):=by
 refine⟨_,xW hN hv hd hcd,fun H₀ H O σ ds hd d Q o e q=>?_⟩;unfold zH at e;cases hs:ds[i]? with
 |none=>rw[hs] at e;cases e
 | some s =>
   rw[hs] at e;cases s with
   | v d' =>
     cases e;obtain⟨v,h1,h2⟩:=o.read hs;exact⟨v,h1,q v H (Same.refl _) (.inl h2)⟩
   |no=>cases e
   |exc _=>cases e
   |fr _=>cases e
   |ob _ _=>cases e
   | own l =>
     cases e;obtain⟨a,xs,h1,h2,h3,h4⟩:=o.readO hs;exact⟨.ref a,h1,q _ H (Same.refl _) (.inr ⟨a,xs,l,rfl,rfl,h2,h3,h4⟩)⟩
theorem qO{i:Int}{j pos}: PV X (.Constant (.int i) j pos) (zA (.int i)):=⟨_,pe_int,fun _ H _ _ _ _ _ _ _ e q=>by cases e;exact q _ H (Same.refl _) (.int i)⟩
theorem xP{b:Bool}{j pos}: PV X (.Constant (.bool b) j pos) (zA (.bl b)):=⟨_,pe_bl,fun _ H _ _ _ _ _ _ _ e q=>by cases e;exact q _ H (Same.refl _) (.bl b)⟩
theorem qI{j pos}: PV X (.Constant .none j pos) (zA .non):=⟨_,pe_non,fun _ H _ _ _ _ _ _ _ e q=>by cases e;exact q _ H (Same.refl _) .non⟩
theorem jE{x:Str}{j pos}: PV X (.Constant (.str x) j pos) (zA (.str x)):=⟨_,pe_str,fun _ H _ _ _ _ _ _ _ e q=>by cases e;exact q _ H (Same.refl _) (.str x)⟩
theorem WB{x:Str}{v:V}{u:aB}{d:D}{pos:Pos}(hg:Gl X x)(hm:X.mg x=some u)(r:RelV v u)(hr:∀H O,Rep X.K H O v d)(hd:(x==("__debug__" : Str))=false:=by decide):PV X (.Name x pos) (zA d):=
 ⟨_,pe_glob hg hm r hd,fun _ H O _ _ _ _ _ _ e q=>by cases e;exact q _ H (Same.refl _) (hr H O)⟩
def OpS(X:Cx)(r:R2)(op:D->D->Option D):Prop:=∀H O x y dx dy d Q,(∀a,O a->∃u:MutHO,H a=some u.1)->WRep X.K H O x dx->WRep X.K H O y dy->op dx dy=some d->(∀v H',Same H H'->Rep X.K H' O v d->Q v H')->r x y H Q
theorem NF{r:R2}{op:D->D->Option D}(hs:OpS X r op){a b:Expr}{fa fb:FE}{ta tb:TE}(ha:∀H₀ H O σ ds hd d Q,Ok X.K H₀ H O σ ds hd->fa ds=some d->(∀v H',Same H H'->WRep X.K H' O v d->Q v H')->ta σ H Q)(hb:∀H₀ H O σ ds hd d Q,Ok X.K H₀ H O σ ds hd->fb ds=some d->(∀v H',Same H H'->WRep X.K H' O v d->Q v H')->tb σ H Q) :
  ∀H₀ H O σ ds hd d Q,Ok X.K H₀ H O σ ds hd->zI op fa fb ds=some d->(∀v H',Same H H'->Rep X.K H' O v d->Q v H')->tOp r ta tb σ H Q:=by
 intro H₀ H O σ ds hd d Q o e q;unfold zI at e;obtain⟨dx,h1,e⟩:=bnd e;obtain⟨dy,h2,e⟩:=bnd e;refine ha H₀ H O σ ds hd dx _ o h1 fun x H1 s1 r1=>?_;refine hb H₀ H1 O σ ds hd dy _ (o.mono s1) h2 fun y H2 s2 r2=>?_;exact hs H2 O x y dx dy d Q ((o.mono s1).mono s2).dom (r1.mono s2) r2 e fun v H' s r=>q v H' ((s1.trans s2).trans s) r
theorem BM{op:Operator}{r:R2}{opD:D->D->Option D}{a b:Expr}{fa fb:FE}{pos:Pos}(ho:OpR X (mK op) r)(hs:OpS X r opD)(ha:PVw X a fa)(hb:PVw X b fb):PV X (.BinOp a op b pos) (zI opD fa fb):=by
 obtain⟨ta,pa,ha⟩:=ha;obtain⟨tb,pb,hb⟩:=hb;exact⟨_,pe_op ho pa pb,NF hs (a:=a) (b:=b) ha hb⟩
theorem TQ{op:DS}{r:R2}{opD:D->D->Option D}{a b:Expr}{fa fb:FE}{pos:Pos}(ho:OpR X (dJ op) r)(hs:OpS X r opD)(ha:PVw X a fa)(hb:PVw X b fb)(hm:dY op b=false):PV X (.Compare a [op] [b] pos) (zI opD fa fb):=by
 obtain⟨ta,pa,ha⟩:=ha;obtain⟨tb,pb,hb⟩:=hb;exact⟨_,WO ho pa pb hm,NF hs (a:=a) (b:=b) ha hb⟩
theorem EU{op:DS}{r:R2}{opD:D->D->Option D}{a b:Expr}{fa fb:FE}{pos:Pos}(ho:OpR X (dJ op) r)(hs:OpS X r opD)(ha:PVw X a fa)(hb:PVw X b fb)(hm:dY op b=false):PTv X (.Compare a [op] [b] pos) (zP (zI opD fa fb)):=by
 obtain⟨ta,pa,ha⟩:=ha;obtain⟨tb,pb,hb⟩:=hb;refine⟨_,WE ho pa pb hm,fun H₀ H O σ ds hd k Q o e q=>?_⟩;unfold zP at e;obtain⟨d,h,e⟩:=bnd e;refine NF hs (a:=a) (b:=b) ha hb H₀ H O σ ds hd d _ o h fun v H' s r=>?_;cases d with
 |bl c=>cases e;cases r;exact⟨_,rfl,q H' s⟩
 |_=>cases e
theorem os_add:OpS X (fun x y H Q=>rI0 (fun i j=>.int (i+j)) x y H Q\/∃i j,x=.str i/\y=.str j/\i.length+j.length<=sizeLine/\Q (.str (i++j)) H) yF:=by
 intro H O x y dx dy d Q ho rx ry e q;cases dx<;>cases dy<;>first | (simp[yF] at e;done) | skip
 . cases e;rw[rx.int',ry.int'];exact .inl ⟨_,_,rfl,rfl,q _ H (Same.refl _) (.int _)⟩
 . rename_i x y;simp only [yF] at e
   split at e
   . rename_i hl;cases e;rw[rx.str',ry.str'];exact .inr ⟨_,_,rfl,rfl,hl,q _ H (Same.refl _) (.str _)⟩
   . cases e
theorem op_addU:OpR X (mK .Add) (fun x y H Q=>rI0 (fun i j=>.int (i+j)) x y H Q\/∃i j,x=.str i/\y=.str j/\i.length+j.length<=sizeLine/\Q (.str (i++j)) H):=op_add.or TY
theorem os_sub:OpS X (rI0 fun i j=>.int (i-j)) subD:=by
 intro H O x y dx dy d Q ho rx ry e q;cases dx<;>cases dy<;>first | (simp[subD] at e;done) | skip
 cases e;rw[rx.int',ry.int'];exact⟨_,_,rfl,rfl,q _ H (Same.refl _) (.int _)⟩
def CDivB(i j:Int):Prop:=divOk j
theorem aEy:OpR X (mK .FloorDiv) (rI CDivB fun i j=>.int (i/j)):=opI fun i j _ _ _ _ _ hc q=>by
 have e:i.fdiv j=i/j:=KJ _ (rP hc.1);refine floordiv_int (by have:=hc.1;omega) ?_ (.inl (PyProof.noPylong_of_log2 hc.2));rw[e];exact q
theorem os_fdiv:OpS X (rI CDivB fun i j=>.int (i/j)) qW:=by
 intro H O x y dx dy d Q ho rx ry e q;cases dx<;>cases dy<;>first | (simp[qW] at e;done) | skip
 simp only[qW] at e
 split at e
 . rename_i hc;cases e;rw[rx.int',ry.int'];exact⟨_,_,rfl,rfl,hc,q _ H (Same.refl _) (.int _)⟩
 . cases e
theorem os_mod:OpS X (rI (fun _ j=>0<j) fun i j=>.int (i%j)) jF:=by
 intro H O x y dx dy d Q ho rx ry e q;cases dx<;>cases dy<;>first | (simp[jF] at e;done) | skip
 simp only[jF] at e
 split at e
 . rename_i hc;cases e;rw[rx.int',ry.int'];exact⟨_,_,rfl,rfl,hc,q _ H (Same.refl _) (.int _)⟩
 . cases e
theorem xX{p:Int->Int->Bool}: OpS X (rI0 fun i j=>.bl (p i j)) (cmpI p):=by
 intro H O x y dx dy d Q ho rx ry e q;cases dx<;>cases dy<;>first | (simp[cmpI] at e;done) | skip
 cases e;rw[rx.int',ry.int'];exact⟨_,_,rfl,rfl,q _ H (Same.refl _) (.bl _)⟩
end
section
variable{X:Cx}
theorem PV.t{e:Expr}{f:FE}(h:PV X e f)(he:∀whole,KC e X.env whole=(do let v <- whole;kJ e.pos;gD [v] (truthy v)):=by intro _;rfl):PTv X e (zP f):=by
 obtain⟨t,ht,hf⟩:=h;refine⟨_,pt_val ht he,fun H₀ H O σ ds hd k Q o e q=>?_⟩;unfold zP at e;obtain⟨d,h,e⟩:=bnd e;refine hf H₀ H O σ ds hd d _ o h fun v H' s r=>?_;cases d with
 |bl c=>cases e;cases r;exact⟨_,rfl,q H' s⟩
 |_=>cases e
theorem qS{a:Expr}{pos:Pos}{c:FT}(ha:PTv X a c):PWv X (.BoolOp .And [a] pos) c:=by
 obtain⟨t,ht,hf⟩:=ha;exact⟨_,pw_and1 ht,hf⟩
theorem yT{a:Expr}{pos:Pos}{c:FT}(ha:PTv X a c):PWv X (.BoolOp .Or [a] pos) c:=by
 obtain⟨t,ht,hf⟩:=ha;exact⟨_,pw_or1 ht,hf⟩
theorem qU{a b:Expr}{rest:List Expr}{pos:Pos}{c d:FT}(ha:PTv X a c)(hb:PWv X (.BoolOp .And (b::rest) pos) d):PWv X (.BoolOp .And (a::b::rest) pos) (andT c d):=by
 obtain⟨t,ht,hf⟩:=ha;obtain⟨u,hu,hg⟩:=hb;refine⟨_,pw_and ht hu,fun H₀ H O σ ds hd k Q o e q=>?_⟩;unfold andT at e;obtain⟨b,h,e⟩:=bnd e;refine hf H₀ H O σ ds hd b _ o h fun H' s=>?_;cases b with
 |true=>exact iteT (hg H₀ H' O σ ds hd k Q (o.mono s) (by simpa using e) fun H'' s'=>q H'' (s.trans s'))
 | false =>
   have:false=k:=by simpa using e
   subst this;exact iteF (q H' s)
theorem xK{a b:Expr}{rest:List Expr}{pos:Pos}{c d:FT}(ha:PTv X a c)(hb:PWv X (.BoolOp .Or (b::rest) pos) d):PWv X (.BoolOp .Or (a::b::rest) pos) (orT c d):=by
 obtain⟨t,ht,hf⟩:=ha;obtain⟨u,hu,hg⟩:=hb;refine⟨_,pw_or ht hu,fun H₀ H O σ ds hd k Q o e q=>?_⟩;unfold orT at e;obtain⟨b,h,e⟩:=bnd e;refine hf H₀ H O σ ds hd b _ o h fun H' s=>?_;cases b with
 |false=>exact iteF (hg H₀ H' O σ ds hd k Q (o.mono s) (by simpa using e) fun H'' s'=>q H'' (s.trans s'))
 | true =>
   have:true=k:=by simpa using e
   subst this;exact iteT (q H' s)
theorem PWv.t{e:Expr}{c:FT}(h:PWv X e c):PTv X e c:=by
 obtain⟨t,ht,hf⟩:=h;exact⟨t,ht.pt,hf⟩
theorem yH{a:Expr}{pos:Pos}{c:FT}(ha:PTv X a c):PTv X (.UnaryOp .Not a pos) (notT c):=by
 obtain⟨t,ht,hf⟩:=ha;refine⟨_,pt_not ht,fun H₀ H O σ ds hd k Q o e q=>?_⟩;unfold notT at e;obtain⟨b,h,rfl⟩:=mpd e;exact hf H₀ H O σ ds hd b _ o h fun H' s=>q H' s
theorem vU{a:Expr}{op}{pos:Pos}{f:FE}(ha:PV X a f):PV X (.BoolOp op [a] pos) f:=by
 obtain⟨t,ht,hf⟩:=ha;exact⟨_,pe_one ht,hf⟩
theorem GI{a b:Expr}{rest:List Expr}{pos:Pos}{f g:FE}(ha:PV X a f)(hb:PV X (.BoolOp .And (b::rest) pos) g):PV X (.BoolOp .And (a::b::rest) pos) (andV f g):=by
 obtain⟨t,ht,hf⟩:=ha;obtain⟨u,hu,hg⟩:=hb;refine⟨_,pe_and ht hu,fun H₀ H O σ ds hd d Q o e q=>?_⟩;unfold andV at e;obtain⟨dd,h,e⟩:=bnd e;refine hf H₀ H O σ ds hd dd _ o h fun v H' s r=>?_;cases dd with
 | bl c =>
   cases r;cases c with
   |true=>exact⟨true,rfl,iteT (hg H₀ H' O σ ds hd d Q (o.mono s) e fun v H'' s'=>q v H'' (s.trans s'))⟩
   | false =>
     have:D.bl false=d:=Option.some.inj e;subst this;exact⟨false,rfl,iteF (q _ H' s (.bl false))⟩
 |_=>cases e
theorem VZ{a b:Expr}{rest:List Expr}{pos:Pos}{f g:FE}(ha:PV X a f)(hb:PV X (.BoolOp .Or (b::rest) pos) g):PV X (.BoolOp .Or (a::b::rest) pos) (orV f g):=by
 obtain⟨t,ht,hf⟩:=ha;obtain⟨u,hu,hg⟩:=hb;refine⟨_,pe_or ht hu,fun H₀ H O σ ds hd d Q o e q=>?_⟩;unfold orV at e;obtain⟨dd,h,e⟩:=bnd e;refine hf H₀ H O σ ds hd dd _ o h fun v H' s r=>?_;cases dd with
 | bl c =>
   cases r;cases c with
   |false=>exact⟨false,rfl,iteF (hg H₀ H' O σ ds hd d Q (o.mono s) e fun v H'' s'=>q v H'' (s.trans s'))⟩
   | true =>
     have:D.bl true=d:=Option.some.inj e;subst this;exact⟨true,rfl,iteT (q _ H' s (.bl true))⟩
 |_=>cases e
theorem pv_not{a:Expr}{pos:Pos}{f:FE}(ha:PV X a f):PV X (.UnaryOp .Not a pos) (notV f):=by
 obtain⟨t,ht,hf⟩:=ha;refine⟨_,pe_not ht,fun H₀ H O σ ds hd d Q o e q=>?_⟩;unfold notV at e;obtain⟨dd,h,e⟩:=bnd e;refine hf H₀ H O σ ds hd dd _ o h fun v H' s r=>?_;cases dd with
 |bl c=>cases r;cases e;exact⟨c,rfl,q _ H' s (.bl _)⟩
 |_=>cases e
theorem AF{c a b:Expr}{pos:Pos}{fc:FT}{f g:FE}(hc:PTv X c fc)(ha:PV X a f)(hb:PV X b g):PV X (.IfExp c a b pos) (ifV fc f g):=by
 obtain⟨tc,pc,hc⟩:=hc;obtain⟨t,ht,hf⟩:=ha;obtain⟨u,hu,hg⟩:=hb;refine⟨_,aEo pc ht hu,fun H₀ H O σ ds hd d Q o e q=>?_⟩;unfold ifV at e;obtain⟨k,h,e⟩:=bnd e;refine hc H₀ H O σ ds hd k _ o h fun H' s=>?_;cases k with
 |true=>exact iteT (hf H₀ H' O σ ds hd d Q (o.mono s) (by simpa using e) fun v H'' s'=>q v H'' (s.trans s'))
 |false=>exact iteF (hg H₀ H' O σ ds hd d Q (o.mono s) (by simpa using e) fun v H'' s'=>q v H'' (s.trans s'))
theorem yL:PAv X [] zZ:=⟨_,yW,fun _ H _ _ _ _ _ _ _ e q=>by cases e;exact q _ H (Same.refl _) .nil⟩
theorem zS:PAs X [] zZ:=⟨_,yW,fun _ H _ _ _ _ _ _ _ e q=>by cases e;exact q _ H (Same.refl _) .nil⟩
theorem jP{e:Expr}{es:List Expr}{f:FE}{g:FA}(ha:PVw X e f)(hr:PAv X es g)(hs:aL (e::es) X.env=(false,bY e X.env)::aL es X.env:=by rfl):PAv X (e::es) (zE f g):=by
 obtain⟨t,ht,hf⟩:=ha;obtain⟨u,hu,hg⟩:=hr;refine⟨_,jZ ht hu hs,fun H₀ H O σ ds hd l Q o e q=>?_⟩;unfold zE at e;obtain⟨x,h,e⟩:=bnd e;obtain⟨r,h2,rfl⟩:=mpd e;refine hf H₀ H O σ ds hd x _ o h fun v H1 s1 r1=>?_;refine hg H₀ H1 O σ ds hd r _ (o.mono s1) h2 fun vs H2 s2 r2=>?_;exact q _ H2 (s1.trans s2) (.cons (r1.mono s2) r2)
theorem zG{e:Expr}{es:List Expr}{f:FE}{g:FA}(ha:PV X e f)(hr:PAs X es g)(hs:aL (e::es) X.env=(false,bY e X.env)::aL es X.env:=by rfl):PAs X (e::es) (zE f g):=by
 obtain⟨t,ht,hf⟩:=ha;obtain⟨u,hu,hg⟩:=hr;refine⟨_,jZ ht hu hs,fun H₀ H O σ ds hd l Q o e q=>?_⟩;unfold zE at e;obtain⟨x,h,e⟩:=bnd e;obtain⟨r,h2,rfl⟩:=mpd e;refine hf H₀ H O σ ds hd x _ o h fun v H1 s1 r1=>?_;refine hg H₀ H1 O σ ds hd r _ (o.mono s1) h2 fun vs H2 s2 r2=>?_;exact q _ H2 (s1.trans s2) (.cons (r1.mono s2) r2)
theorem qP{H:Hp}{p:aA}(h:H p=none)(o:HO):Same H (upd H p o):=fun b u q=>by rw[upd_ne (jC q h)];exact q
theorem qQ{es:List Expr}{pos:Pos}{g:FA}(h:PAs X es g):PVf X (.List es pos) (qK g):=by
 obtain⟨t,ht,hf⟩:=h;refine⟨_,aEn ht,fun H₀ H O σ ds hd l Q o e q=>?_⟩;unfold qK at e;cases h:g ds with
 |none=>rw[h] at e;cases e
 | some l' =>
   rw[h] at e;simp only[aH] at e
   split at e
   . rename_i hl;cases e;refine hf H₀ H O σ ds hd l _ o h fun vs H1 s1 r1=>⟨by rw [r1.length]; exact hl,fun p hp=>?_⟩
     refine q p vs _ (s1.trans (qP hp _)) (s1.free hp) qE ?_;exact(r1.more hp).mono (qP hp _)
   . cases e
theorem qR{es:List Expr}{x1}{pos:Pos}{g:FA}(h:PAs X es g):PV X (.Tuple es x1 pos) (mkT (qK g)):=by
 obtain⟨t,ht,hf⟩:=h;refine⟨_,pe_tup ht,fun H₀ H O σ ds hd d Q o e q=>?_⟩;unfold mkT qK at e;cases h:g ds with
 |none=>rw[h] at e;cases e
 | some l' =>
   rw[h] at e;simp only[aH] at e
   split at e
   . rename_i hl;cases e;refine hf H₀ H O σ ds hd l' _ o h fun vs H1 s1 r1=>⟨by rw [r1.length]; exact hl,fun p hp=>?_⟩
     refine q _ _ (s1.trans (qP hp _)) ?_;exact .tup ((o.mono s1).free hp) (.inl qE) (r1.mono (qP hp _))
   . cases e
theorem YF{K:Frag}{H:Hp}{O:aA->Prop}{xs:List V}{l:List D}{i:Int}{d:D}(r:Reps K H O xs l)(e:atI l i=some d):∃v,atI xs i=some v/\Rep K H O v d:=by
 unfold atI at e ⊢;rw[r.length];cases h:ixN l.length i with
 |none=>rw[h] at e;cases e
 | some j =>
   rw[h] at e;exact r.get e
theorem ix_sem{K:Frag}{H:Hp}{O:aA->Prop}{x y:V}{dx dy d:D}{Q:VK}(rx:WRep K H O x dx)(ry:WRep K H O y dy)(e:ixD dx dy=some d)(q:∀v H',Same H H'->Rep K H' O v d->Q v H'):rIx K x y H Q:=by
 cases dx<;>cases dy<;>first | (simp[ixD] at e;done) | skip
 . simp only [ixD] at e
   split at e
   . rename_i hl;rw[rx.str',ry.int'];rename_i z i;obtain⟨c,hc,rfl⟩:=mpd e;exact .inr (.inr ⟨_,_,c,rfl,rfl,hl,hc,q _ H (Same.refl _) (.str _)⟩)
   . cases e
 . obtain⟨a, xs, rfl, hs, r⟩ := rx.seqT;rw[ry.int'];obtain⟨v,h1,h2⟩:=YF r e;exact .inr (.inl ⟨a,xs,_,v,rfl,rfl,hs,h1,q _ H (Same.refl _) h2⟩)
 . obtain⟨a, xs, rfl, hs, r⟩ := rx.seqL;rw[ry.int'];obtain⟨v,h1,h2⟩:=YF r e;exact .inl ⟨a,xs,_,v,rfl,rfl,hs,h1,q _ H (Same.refl _) h2⟩
theorem os_ix:OpS X (rIx X.K) ixD:=fun H O x y dx dy d Q ho rx ry e q=>ix_sem rx ry e q
theorem qF{a b:Expr}{fa fb:FE}{pos:Pos}(ha:PVw X a fa)(hb:PVw X b fb)(hs:YG b:=by exact fun _ _=>rfl):PV X (.Subscript a b pos) (zI ixD fa fb):=by
 obtain⟨ta,pa,ha⟩:=ha;obtain⟨tb,pb,hb⟩:=hb;exact⟨_,pe_ix ix_seq pa pb hs,NF os_ix (a:=a) (b:=b) ha hb⟩
end
noncomputable def RetOk(K:Frag)(H H':Hp)(v:V):Ret->Prop
 | .val d=>Rep K H' (Old H) v d
 | .fresh l=>∃a xs,v=.ref a/\H a=none/\H' a=some (.lst xs)/\Reps K H' (ins1 a (Old H)) xs l
 | .any d=>Rep K H' yA v d
 | .obj t=>∃fs,RepO K H' (fun b=>b∈fs\/Old H b) v t fs/\fs.Nodup/\∀b∈fs,H b=none
noncomputable def RetB(K:Frag)(H:Hp)(hd:Hold)(v:V):Ret->Prop
 | .any d=>∀B,HI.base B∈hd->Rep K H B v d
 |_=>True
noncomputable def spF(K:Frag)(n:Nat)(F:List D->Option Ret):Sp:=fun vs H Q _=>vs.length=n/\∃ds r,Reps K H yA vs ds/\F ds=some r/\∀v H',Same H H'->RetOk K H H' v r->Q v H'
section
variable{X:Cx}
theorem ND{K:Frag}{H H':Hp}{O:aA->Prop}{v:V}{r:Ret}{d:D}(h:RetOk K H H' v r)(e:retV r=some d)(ho:∀a,O a->Old H a):Rep K H' O v d:=by
 cases r with
 |any d'=>cases e
 |val d'=>cases e;exact h.less ho
 | obj t =>
   cases e;obtain⟨fs,h1,h2,h3⟩:=h;refine h1.val' fun a z=>⟨.inr (ho a z),fun q=>?_⟩
   obtain⟨o,e,_⟩:=ho a z;rw[h3 a q] at e;cases e
 | fresh l =>
   cases e;obtain⟨a,xs,rfl,h1,h2,h3⟩:=h;refine .lst (fun z=>?_) (.inl h2) (h3.less fun b z=>.inr (ho b z));obtain⟨o,e,_⟩:=ho a z;rw[h1] at e;cases e
theorem retF_ok{K:Frag}{H H':Hp}{O:aA->Prop}{v:V}{r:Ret}{l:List D}(h:RetOk K H H' v r)(e:retF r=some l)(ho:∀a,O a->Old H a):∃a xs,v=.ref a/\H a=none/\H' a=some (.lst xs)/\Reps K H' (ins1 a O) xs l:=by
 cases r with
 |any d'=>cases e
 |val d'=>cases e
 |obj t=>cases e
 | fresh l' =>
   cases e;obtain⟨a,xs,rfl,h1,h2,h3⟩:=h;exact⟨a,xs,rfl,h1,h2,h3.less fun b z=>z.elim .inl fun z=>.inr (ho b z)⟩
section
variable{k:Nat}{f:aA}{fd:aK}{ps:List Str}{n:Nat}{F:List D->Option Ret}{x:Str}{p pos:Pos}{e:Expr}{es:List Expr}{g:FA}
end
def CallS(X:Cx)(r:List V->Hp->VK->Prop)(F:List D->Option D):Prop:=∀H O vs l d Q,(∀a,O a->∃u:MutHO,H a=some u.1)->KG (WRep X.K H O) vs l->F l=some d->(∀v H',Same H H'->Rep X.K H' O v d->Q v H')->r vs H Q
theorem kB{x:Str}{p pos:Pos}{e:Expr}{es:List Expr}{id:String}{r:List V->Hp->VK->Prop}{F:List D->Option D}{g:FA}(hc:CallR X (.builtin id) r)(hs:CallS X r F)(hm:X.mg x=none)(hv:gJ x=some (.builtin id))(ha:PAv X (e::es) g)(hg:Gl X x)(hn:x≠"__name__":=by decide)(hdb:(x==("__debug__" : Str))=false:=by decide)(he:aL (e::es) X.env=(false,bY e X.env)::aL es X.env:=by rfl)(hpl:(dB pos (aL es X.env)).any (·.1)=false:=by rfl) :
  PV X (.Call (.Name x p) (e::es) [] pos) (callB F g):=by
 obtain⟨t,ht,hf⟩:=ha;refine⟨_,vY hc hg hm hv ht hn hdb he hpl,fun H₀ H O σ ds hd d Q o e q=>?_⟩;unfold callB at e;obtain⟨l,h,e⟩:=bnd e;refine hf H₀ H O σ ds hd l _ o h fun vs H1 s1 r1=>?_;exact hs H1 O vs l d Q (o.mono s1).dom r1 e fun v H' s' r=>q v H' (s1.trans s') r
theorem aBh:CallR X (.builtin "len") (fun xs H Q=>(∃p ys,xs=[.ref p]/\(SqL X.K H p ys\/SqT X.K H p ys)/\Q (.int ys.length) H)\/∃z,xs=[.str z]/\z.length<=sizeLine/\Q (.int z.length) H):=OP.or OO
theorem cs_len:CallS X (fun xs H Q=>(∃p ys,xs=[.ref p]/\(SqL X.K H p ys\/SqT X.K H p ys)/\Q (.int ys.length) H)\/∃z,xs=[.str z]/\z.length<=sizeLine/\Q (.int z.length) H) lenD:=by
 intro H O vs l d Q ho r e q;unfold lenD at e
 split at e
 . cases e;cases r with
   | cons r rn =>
     cases rn;obtain⟨a,xs,rfl,hs,rs⟩:=r.seqL;refine .inl ⟨a,xs,rfl,.inl hs,?_⟩;rw[rs.length];exact q _ H (Same.refl _) (.int _)
 . cases e;cases r with
   | cons r rn =>
     cases rn;obtain⟨a,xs,rfl,hs,rs⟩:=r.seqT;refine .inl ⟨a,xs,rfl,.inr hs,?_⟩;rw[rs.length];exact q _ H (Same.refl _) (.int _)
 . split at e
   . rename_i hl;cases e;cases r with
     | cons r rn =>
       cases rn;rw[r.str'];exact .inr ⟨_,rfl,hl,q _ H (Same.refl _) (.int _)⟩
   . cases e
 . cases e
theorem wH{p pos:Pos}{e:Expr}{g:FA}(hm:X.mg "len" = none)(ha:PAv X [e] g)(hg:Gl X "len":=by rfl)(he:aL [e] X.env=[(false,bY e X.env)]:=by rfl) :
  PV X (.Call (.Name "len" p) [e] [] pos) (callB lenD g):=kB aBh cs_len hm PySem.boot_len ha hg (by decide) (by decide) he rfl
noncomputable def After(X:Cx)(H₀ : Hp)(hd:Hold)(E:Ends):Out->Prop
 | .nx ds=>∀σ H O,Ok X.K H₀ H O σ ds hd->E.nx σ H
 | .bk ds=>∀σ H O,Ok X.K H₀ H O σ ds hd->E.bk σ H
 | .ct ds=>∀σ H O,Ok X.K H₀ H O σ ds hd->E.ct σ H
 | .rt r=>∀v H,Same H₀ H->RetOk X.K H₀ H v r->RetB X.K H hd v r->E.rt v H
variable(X) in
def PSv(st:Stmt)(g:FS):Prop:=∃t,PS X st t/\∀H₀ H O σ ds hd out E,Ok X.K H₀ H O σ ds hd->g ds=some out->After X H₀ hd E out->t E σ H
variable(X) in
def PSsv(st:List Stmt)(g:FS):Prop:=∃t,PSs X st t/\∀H₀ H O σ ds hd out E,Ok X.K H₀ H O σ ds hd->g ds=some out->After X H₀ hd E out->t E σ H
theorem zK:PSsv X [] qH:=⟨_,pss_nil,fun _ H O σ ds hd out E o e h=>by cases e;exact h σ H O o⟩
theorem zB{st:Stmt}{rest:List Stmt}{f g:FS}(h1:PSv X st f)(h2:PSsv X rest g):PSsv X (st::rest) (qB f g):=by
 obtain⟨t,ht,hf⟩:=h1;obtain⟨u,hu,hg⟩:=h2;refine⟨_,QN ht hu,(3:)⟩;unfold qB at e;obtain⟨o1,h1,e⟩:=bnd e;refine hf H₀ H O σ ds hd o1 _ o h1 ?_;cases o1 with
 |nx ds'=>exact fun σ' H' O' o'=>hg H₀ H' O' σ' ds' hd out E o' e h
 |rt r=>cases e;exact h
 |bk ds'=>cases e;exact h
 |ct ds'=>cases e;exact h
theorem zD{st:Stmt}{f:FS}(h1:PSv X st f):PSsv X [st] f:=by
 obtain⟨t,ht,hf⟩:=h1;exact⟨_,WH ht,hf⟩
theorem NH{pos:Pos}: PSv X (.Continue pos) (fun ds=>some (.ct ds)):=⟨_,QO,fun _ H O σ ds hd out E o e h=>by cases e;exact h σ H O o⟩
theorem zT{c:Expr}{a b:List Stmt}{pos:Pos}{fc:FT}{f g:FS}(hc:PTv X c fc)(ha:PSsv X a f)(hb:PSsv X b g):PSv X (.If c a b pos) (ifG fc f g):=by
 obtain⟨tc,pc,hc⟩:=hc;obtain⟨t,ht,hf⟩:=ha;obtain⟨u,hu,hg⟩:=hb;refine⟨_,ps_if pc ht hu,(3:)⟩;unfold ifG at e;obtain⟨k,h1,e⟩:=bnd e;refine hc H₀ H O σ ds hd k _ o h1 fun H' s=>?_;cases k with
 |true=>exact iteT (hf H₀ H' O σ ds hd out E (o.mono s) (by simpa using e) h)
 |false=>exact iteF (hg H₀ H' O σ ds hd out E (o.mono s) (by simpa using e) h)
theorem qA{i:Nat}{x:Str}{e:Expr}{pos pos':Pos}{f:FE}(hN:X.N.Nodup)(he:PV X e f)(hi:X.N[i]?=some x:=by rfl)(hx:Loc X.env.scope x:=by first | exact Or.inl rfl | exact Or.inr rfl)(hs:dI e (some (.Name x pos')) pos.line X.env=pure false:=by rfl)(hf:X.fn x=true\/X.env.scope.names.lookup x=some .local:=by first | exact .inl rfl | exact .inr rfl):PSv X (.Assign [.Name x pos'] e pos) (jU i f):=by
 obtain⟨t,ht,hg⟩:=he;refine⟨_,TV hN hi hx ht hs hf,(3:)⟩;unfold jU at e;obtain⟨d,h1,rfl⟩:=mpd e;exact hg H₀ H O σ ds hd d _ o h1 fun v H' s r=>h _ _ _ ((o.mono s).set r)
theorem xD{i:Nat}{x:Str}{e:Expr}{pos pos':Pos}{f:FA}(hN:X.N.Nodup)(he:PVf X e f)(hi:X.N[i]?=some x:=by rfl)(hx:Loc X.env.scope x:=by first | exact Or.inl rfl | exact Or.inr rfl)(hs:dI e (some (.Name x pos')) pos.line X.env=pure false:=by rfl)(hf:X.fn x=true\/X.env.scope.names.lookup x=some .local:=by first | exact .inl rfl | exact .inr rfl):PSv X (.Assign [.Name x pos'] e pos) (setOG i f):=by
 obtain⟨t,ht,hg⟩:=he;refine⟨_,TV hN hi hx ht hs hf,(3:)⟩;unfold setOG at e;obtain⟨l,h1,rfl⟩:=mpd e;exact hg H₀ H O σ ds hd l _ o h1 fun a xs H' s hn he r=>h _ _ _ (o.setO s hn he r)
theorem zM{e:Expr}{pos:Pos}{f:FE}(he:PVw X e f):PSv X (.Return (some e) pos) (retG f):=by
 obtain⟨t,ht,hg⟩:=he;refine⟨_,BP ht,(3:)⟩;unfold retG at e;obtain⟨d,h1,e⟩:=bnd e;simp only[aH,flatR] at e
 split at e
 . rename_i hf;cases e;exact hg H₀ H O σ ds hd d _ o h1 fun v H' s r=>h _ _ (o.same.trans s) (Rep.flatten (fun a z=>Old.mono (o.same.trans s) z) hf r.any) True.intro
 . cases e
theorem jW{e:Expr}{pos:Pos}{f:FA}(he:PVf X e f):PSv X (.Return (some e) pos) (retOG f):=by
 obtain⟨t,ht,hg⟩:=he;refine⟨_,BP ht,(3:)⟩;unfold retOG at e;obtain⟨l,h1,e⟩:=bnd e;simp only[aH,flatF] at e
 split at e
 . rename_i hf;cases e;refine hg H₀ H O σ ds hd l _ o h1 fun a xs H' s hn he r=>h _ _ (o.same.trans s) ⟨a,xs,rfl,o.same.free hn,he,Reps.flatten (fun b z=>?_) hf r⟩ True.intro;rcases z with rfl | z
   . exact⟨_,he,rfl⟩
   . exact Old.mono (o.same.trans s) z
 . cases e
theorem xZ(i:Nat){x:Str}{pos pos':Pos}(hN:X.N[i]?=some x:=by rfl)(hv:Vis X.env.scope x:=by first | exact Or.inl rfl | exact Or.inr (Or.inl rfl) | exact Or.inr (Or.inr rfl))(hd:(x==("__debug__" : Str))=false:=by decide)(hcd:(x==("__classdict__" : Str))=false:=by decide):PSv X (.Return (some (.Name x pos')) pos) (retXG i):=by
 refine⟨_,BP (xW hN hv hd hcd),(3:)⟩;unfold retXG at e;cases hs:ds[i]? with
 |none=>rw[hs] at e;cases e
 | some s =>
   rw[hs] at e;cases s with
   |v d'=>cases e
   |no=>cases e
   |exc _=>cases e
   |fr _=>cases e
   |ob _ _=>cases e
   | own l =>
     simp only[flatF] at e
     split at e
     . rename_i hf;cases e;obtain ⟨a,xs,h1,h2,h3,h4⟩:=o.readO hs;refine ⟨.ref a,h1,h _ _ o.same ⟨a,xs,rfl,o.fresh i l a hs h1,h3,Reps.flatten (fun b z=>?_) hf h4⟩ True.intro⟩;rcases z with rfl | z
       . exact⟨_,h3,rfl⟩
       . exact Old.mono o.same z
     . cases e
theorem vL{i:Nat}{x:Str}{e ek:Expr}{pos p1 p2:Pos}{fk fe:FE}(he:PV X e fe)(hk:PV X ek fk)(hN:X.N[i]?=some x:=by rfl)(hv:Vis X.env.scope x:=by first | exact Or.inl rfl | exact Or.inr (Or.inl rfl) | exact Or.inr (Or.inr rfl))(hd:(x==("__debug__" : Str))=false:=by decide)(hcd:(x==("__classdict__" : Str))=false:=by decide)(ha:∀v,pK (.Subscript (.Name x p1) ek p2) X.env v=(do
    let ov <- gD [v] (bY (.Name x p1) X.env)
    let iv <- gD [v,ov] (bY ek X.env)
    kJ p2
    gD [v,ov,iv] (setItem ov iv v)
    release [v,ov,iv] []):=by intro _;rfl)(hs:VC [.Subscript (.Name x p1) ek p2] e pos.line X.env=pure false:=by rfl)(hw:VD [.Subscript (.Name x p1) ek p2] e X.env=pure none:=by rfl)(h1:(dM [.Subscript (.Name x p1) ek p2] X.env).map (·.2)=[pK (.Subscript (.Name x p1) ek p2) X.env]:=by rfl):PSv X (.Assign [.Subscript (.Name x p1) ek p2] e pos) (putG i fk fe):=by
 obtain⟨te,pe,he⟩:=he;obtain⟨tk,pk,hk⟩:=hk;refine⟨_,aEk pe (pg_sub (xW hN hv hd hcd) pk aDd ha) hs hw h1,(3:)⟩;unfold putG at e;cases hsl:ds[i]? with
 |none=>rw[hsl] at e;cases e
 | some s =>
   rw[hsl] at e;cases s with
   |v d'=>cases e
   |no=>cases e
   |exc _=>cases e
   |fr _=>cases e
   |ob _ _=>cases e
   | own l =>
     simp only at e;obtain⟨d,h1,e⟩:=bnd e;obtain⟨kd,h2,e⟩:=bnd e;cases kd with
     | int n =>
       simp only at e;obtain⟨j,h3,rfl⟩:=mpd e;refine he H₀ H O σ ds hd d _ o h1 fun v H1 s1 r1=>?_;obtain⟨a,xs,q1,q2,q3,q4⟩:=(o.mono s1).readO hsl;refine⟨.ref a,q1,?_⟩;refine hk H₀ H1 O σ ds hd _ _ (o.mono s1) h2 fun kv H2 s2 r2=>?_;cases r2;refine⟨a,xs,n,j,rfl,rfl,s2 _ _ q3,by rw[q4.length];exact h3,?_⟩;exact h _ _ _ (((o.mono s1).mono s2).modify hsl q1 ((q4.mono s2).set (r1.mono s2) j))
     |_=>cases e
theorem xV{i:Nat}{x:Str}{e:Expr}{pos p1 p2 p3:Pos}{fe:FE}(he:PV X e fe)(hN:X.N[i]?=some x:=by rfl)(hv:Vis X.env.scope x:=by first | exact Or.inl rfl | exact Or.inr (Or.inl rfl) | exact Or.inr (Or.inr rfl))(hd:(x==("__debug__" : Str))=false:=by decide)(hcd:(x==("__classdict__" : Str))=false:=by decide)(hfew:((dB p3 (aL [e] X.env)).all (fun x=>!x.1)&&(iO p3 (eV [] X.env)).all (fun x=>x.1.isSome)
    && decide ([e].length+([]:List sV).length+(if ([]:List sV).isEmpty then 0 else 1)<30))=true:=by rfl)(hline:(p2.endLine==p3.line)=true:=by rfl)(hs:aL [e] X.env=(false,bY e X.env)::aL [] X.env:=by rfl)(hbase:eG (.Name x p1) "append" X.env (bY (.Name x p1) X.env)=bY (.Name x p1) X.env:=by rfl)(hsw:dI (.Call (.Attribute (.Name x p1) "append" p2) [e] [] p3) none pos.line X.env=pure false:=by rfl) :
  PSv X (.Expr (.Call (.Attribute (.Name x p1) "append" p2) [e] [] p3) pos) (appG i fe):=by
 obtain⟨te,pe,he⟩:=he;refine⟨_,xY (aEr iS IZ IY LV (xW hN hv hd hcd) (jZ pe yW hs) hbase hfew hline hs rfl) hsw,(3:)⟩;unfold appG at e;cases hsl:ds[i]? with
 |none=>rw[hsl] at e;cases e
 | some s =>
   rw[hsl] at e;cases s with
   |v d'=>cases e
   |no=>cases e
   |exc _=>cases e
   |fr _=>cases e
   |ob _ _=>cases e
   | own l =>
     simp only at e;obtain⟨d,h1,e⟩:=bnd e
     split at e
     . rename_i hl;cases e;obtain⟨a,xs,q1,q2,q3,q4⟩:=o.readO hsl;refine⟨.ref a,q1,.inl ⟨rfl,xs,SqL.of q3⟩,?_⟩;refine he H₀ H O σ ds hd d _ o h1 fun v H1 s1 r1=>?_;refine⟨a,xs,v,rfl,rfl,s1 _ _ q3,by rw[q4.length];exact hl,?_⟩;exact h _ _ _ ((o.mono s1).modify hsl q1 ((q4.mono s1).append (.cons r1 .nil)))
     . cases e
theorem OS(n:Nat)(ds:List D)(i:Nat)(r:Option Nat)(t:OT):(args n ds)[i]?≠some (.ob r t):=fun e=>by
 unfold args at e
 by_cases hi:i<ds.length
 . rw [aY (by simpa using hi), bE] at e;cases h:ds[i]? with
   |none=>rw[h] at e;cases e
   |some d=>rw[h] at e;cases e
 . rw [bV (by simpa using hi), dD] at e
   split at e<;>cases e
theorem QW{K:Frag}{H:Hp}{N:List Str}{vs:List V}{ds:List D}(r:Reps K H yA vs ds):Ok K H H yA (L2.start N vs) (args N.length ds) []:=by
 have hl:=r.length
 have no:∀i,IsOwn (args N.length ds) i->False:=fun i ⟨l,e⟩=>by
  unfold args at e
  by_cases hi:i<ds.length
  . rw [aY (by simpa using hi), bE] at e;cases h:ds[i]? with
    |none=>rw[h] at e;cases e
    |some d=>rw[h] at e;cases e
  . rw [bV (by simpa using hi), dD] at e
    split at e<;>cases e
 refine⟨Same.refl _,fun i l a e _=>(no i ⟨l,e⟩).elim,fun _ z=>z.elim,by simp[L2.start,args,hl],fun i s e=>?_,fun i j a _ hi _ _ _=>no i hi,(fun p hp=>nomatch hp),.no (OS _ _)⟩;unfold args at e;unfold L2.start
 by_cases hi:i<ds.length
 . rw[aY (by simpa using hi), bE] at e;rw[aY (by simpa[hl] using hi),bE];obtain⟨d,h,rfl⟩:=mpd e;obtain⟨v,h1,h2⟩:=r.get h;rw[h1];exact yQ h2
 . rw [bV (by simpa using hi), dD] at e
   split at e
   . cases e;exact jQ
   . cases e
def Does(g:FS)(n:Nat)(ds:List D)(r:Ret):Prop:=g (args n ds)=some (.rt r)\/(r=.val .non/\∃ds',g (args n ds)=some (.nx ds'))
theorem qC{P:bG}{w:bU}{K:Frag}{mg:Str->Option aB}{base:Heap}{x qual:Str}{st:Stmt}{f:aA}{fd:aK}{N ps:List Str}{k:Nat}{F:List D->Option Ret}(Fn:Fun K x qual st f fd)(S:FnScope N ps (zJ st)){g:FS}(hbody:∀(cdv:aB) (A:bZ) (outer:List Env) (s:aE) (H:Hp) (E:XK),Room k (A.deeper (mJ qual (zJ st) s.heap.objs.size f cdv))->PSsv (cxOf CX0 P w K mg base N qual (zJ st) f cdv A outer s H E).nox (jH st) g)(hg:∀ds r,ds.length=ps.length->F ds=some r->Does g N.length ds r):FnOk P w K mg base CX0 (k+1) f fd ps (spF K ps.length F):=by
 refine Fn.ok S (fun vs H Q E h=>h.1) (fun cdv A outer s H vs Q E hr h=>?_);obtain⟨hl,ds,r,rv,e,q⟩:=h;obtain⟨t,ht,hf⟩:=hbody cdv A outer s H E hr;refine⟨t,ht,?_⟩;have o:=QW (N:=N) rv;rcases hg ds r (by rw[<- rv.length];exact hl) e with e' | ⟨rfl,ds',e'⟩
 . exact hf H H yA _ _ [] _ _ o e' (fun v H' s r _=>q v H' s r)
 . exact hf H H yA _ _ [] _ _ o e' (fun σ H' O o'=>q .non H' o'.same .non)
end
end FL
namespace L2
open PySem PySem.Spec PyProof.Rows
noncomputable def Its(x:Str):It:=⟨fun i _=>i<x.cps.size,fun i H v H'=>H'=H/\∃c,x.cps[i]?=some c/\v=.str ⟨#[c]⟩,fun i _=>i=x.cps.size⟩
theorem PM{P:bG}{w:bU}{K:aM}{tg:Expr}(x:Str)(t:Tok)(it:aA)(ty:String)(hn:["enumerate","zip","dict_itemiterator","dict_reverseitemiterator","odict_iterator","itertools.zip_longest","itertools.pairwise"].contains ty=false)(Wk:∀A:bZ,A.handled=none->Walks P w A it [it] [it] x.cps.size (SignAt x) (fun i h=>h.IsStrIter it ty x t i))(hself:∀(A:bZ) (i:Nat) (s:aE) (Q:aB->aE->Prop) (E:aB->aE->Prop),s.heap.IsStrIter it ty x t i->Q (.ref it) s->bL (bM P w) A (pyIter (.ref it)) Q E s):Turn P w K tg (Its x) [it] it (fun i h=>h.IsStrIter it ty x t i) where
 mem:=by simp
 obj:=fun i h st b hb=>by
  have e:b=it:=by simpa using hb
  subst e;obtain⟨o,e,c,d⟩:=st;exact⟨o,e,fun v z=>by rw[d] at z;cases z⟩
 keep:=fun i h h' st k=>by
  obtain⟨o,e,r⟩:=st;exact⟨o,k it (by simp) o e,r⟩
 item:=by
  intro X hP hw hK hc i aC s σ H E I hf st hg;subst hP hw hK;obtain⟨f0,f1,f2,f3,f4,f5⟩:=hf it (by simp);refine(Wk X.A (I.ok.hd hc)).item i s _ _ hg st fun v h' tk hv st' kk=>?_;obtain⟨c,u,hc',rfl⟩:=hv;have I1:Inv X aC σ H { s with heap:=h',toks:=tk }:=I.turned (fun b o hb e=>kk b o (by simpa using hb) e) f0 f1 f3 f4 f5;obtain⟨o,e,c1,d⟩:=id st';exact⟨_,rfl,RQ (s:={ s with heap:=h',toks:=tk }) e c1 d hn ⟨.str ⟨#[c]⟩,H,I1,⟨u,rfl⟩,⟨rfl,c,hc',rfl⟩,st',fun b hb=>(hf b hb).1⟩⟩
 done:=by
  intro X hP hw hK hc i aC s σ H E I hf st hg;subst hP hw hK;obtain⟨f0,f1,f2,f3,f4,f5⟩:=hf it (by simp);have hg':i=x.cps.size:=hg;subst hg';exact(Wk X.A (I.ok.hd hc)).done s _ _ st fun h' tk eb=>⟨rfl,I.turned (fun b o hb e=>eb b o (by simpa using hb) e) f0 f1 f3 f4 f5⟩
 self:=hself
section
variable{X:Cx}{tg:Expr}
def iStr(tl:TE):TI:=fun σ H R=>tl σ H fun x H1=>∃z,x=.str z/\R (Its z) H1
theorem pi_str{l:Expr}{tl:TE}(hl:PE X l tl):PI X tg l (iStr tl):=by
 intro aC s σ H R I h;refine thn (hl aC s σ H _ I h) fun v s1 zq=>?_;obtain⟨x,H1,I1,r1,q1⟩:=zq;obtain⟨z,e,q⟩:=q1;subst e;obtain⟨t,rfl⟩:=r1;cases ha:z.cps.all (· < 128)
 . refine wpAny_pyIter_wide ha ⟨s1.heap.objs.size, [s1.heap.objs.size], _, _, H1, rfl, I1.kept (t' := s1.toks) fun b o e => aQ _ e, PM z t _ "str_iterator" (by decide) (fun A hA => Walks.strWide hA _ z t) (fun _ _ _ _ _ st h => wpAny_pyIter_striter_wide st h), ⟨_, bD _ rfl, rfl, rfl⟩, fun b hb => ?_, q⟩;have e:b=s1.heap.objs.size:=by simpa using hb
   subst e;exact I1.fpOk (aU _) (I1.hok.fresh (aU _))
 . refine wpAny_pyIter_ascii ha ⟨s1.heap.objs.size, [s1.heap.objs.size], _, _, H1, rfl, I1.kept (t' := s1.toks) fun b o e => aQ _ e, PM z t _ "str_ascii_iterator" (by decide) (fun A hA => Walks.strAscii hA _ z t) (fun _ _ _ _ _ st h => wpAny_pyIter_striter_ascii st h), ⟨_, bD _ rfl, rfl, rfl⟩, fun b hb => ?_, q⟩;have e:b=s1.heap.objs.size:=by simpa using hb
   subst e;exact I1.fpOk (aU _) (I1.hok.fresh (aU _))
end
end L2
namespace FL
open PySem PySem.Spec PyProof.Rows L2
def Wlk(K:Frag)(J:It)(p:V×D)(items:List D):Prop:=∀H O,(∀a,O a->∃u:MutHO,H a=some u.1)->Rep K H O p.1 p.2 →
 (∀i d,items[i]?=some d->J.go i H/\∀x H',J.yld i H x H'->Same H H'/\Rep K H' O x d)/\J.stop items.length H
section
variable{X:Cx}
variable(X) in
def PIv(tg iter:Expr)(fi:FA):Prop:=∃wi,PI X tg iter wi/\∀H₀ H O σ ds hd items R,Ok X.K H₀ H O σ ds hd->fi ds=some items →
 (∀J p H',Same H H'->Rep X.K H' O p.1 p.2->Wlk X.K J p items->R J H')->wi σ H R
theorem aCo{K:Frag}{a:aA}{l:List D}: Wlk K (Itl K a) (.ref a,.lst l) l:=by
 intro H O _ r;obtain⟨b,xs,e,hs,rs⟩:=WRep.seqL (.inl r);cases e;refine⟨fun i d hd=>?_,⟨xs,hs,by rw[rs.length];exact aU _⟩⟩;obtain⟨v,h1,h2⟩:=rs.get hd;refine⟨⟨xs,v,hs,h1⟩,fun x H' y=>?_⟩;obtain⟨rfl,y⟩:=y;have:=y xs hs;rw[h1] at this;cases this;exact⟨Same.refl _,h2⟩
theorem wlk_tup{K:Frag}{a:aA}{l:List D}: Wlk K (Itt K a) (.ref a,.tup l) l:=by
 intro H O _ r;obtain⟨b,xs,e,hs,rs⟩:=WRep.seqT (.inl r);cases e;refine⟨fun i d hd=>?_,⟨xs,hs,by rw[rs.length];exact aU _⟩⟩;obtain⟨v,h1,h2⟩:=rs.get hd;refine⟨⟨xs,v,hs,h1⟩,fun x H' y=>?_⟩;obtain⟨rfl,y⟩:=y;have:=y xs hs;rw[h1] at this;cases this;exact⟨Same.refl _,h2⟩
theorem YR{K:Frag}{lo:Int}{n:Nat}: Wlk K (Itr lo n) (.non,.non) (fC lo n):=by
 intro H O _ r;have hl:(fC lo n).length=n:=by simp[fC]
 refine⟨fun i d hd=>?_,show n<=_ by rw[hl];exact aU _⟩
 have hi:i<n:=by
  have:=(aV.mp hd).1
  rwa [hl] at this
 refine⟨hi,fun x H' y=>?_⟩;obtain⟨rfl,rfl⟩:=y
 have:d=D.int (lo+(i:Int)):=by
  simp only[fC,bE,List.getElem?_range hi,cF] at hd;exact(Option.some.inj hd).symm
 subst this;exact⟨Same.refl _,.int _⟩
theorem wlk_str{K:Frag}{x:Str}: Wlk K (Its x) (.non,.non) (sgns x):=by
 intro H O _ r;have hl:(sgns x).length=x.cps.size:=by simp[sgns]
 refine⟨fun i d hd=>?_,show _=x.cps.size from hl⟩
 have hi:i<x.cps.size:=by
  have:=(aV.mp hd).1
  rwa [hl] at this
 refine⟨hi,fun v H' y=>?_⟩;obtain⟨rfl,c,hc,rfl⟩:=y
 have:d=D.str ⟨#[c]⟩:=by
  simp only[sgns,bE,gW,hc,cF] at hd;exact(Option.some.inj hd).symm
 subst this;exact⟨Same.refl _,.str _⟩
theorem piv_str{tg e:Expr}{f:FE}(h:PV X e f):PIv X tg e (viaA f asS):=by
 obtain⟨t,ht,hf⟩:=h;refine⟨_,pi_str ht,fun H₀ H O σ ds hd items R o e q=>?_⟩;unfold viaA at e;obtain⟨d,h1,e⟩:=bnd e;cases d with
 | str x =>
   cases e;refine hf H₀ H O σ ds hd _ _ o h1 fun v H' s r=>?_;cases r;exact⟨x,rfl,q _ (.non,.non) H' s .non wlk_str⟩
 |_=>cases e
theorem xL{tg e:Expr}{p pos:Pos}{f:FE}(hm:X.mg "range" = none)(h:PV X e f)(hg:Gl X "range":=by rfl)(hs:aL [e] X.env=[(false,bY e X.env)]:=by rfl):PIv X tg (.Call (.Name "range" p) [e] [] pos) (rng1 f):=by
 obtain⟨t,ht,hf⟩:=h;refine⟨_,ZK hg hm (jZ ht yW hs) hs,fun H₀ H O σ ds hd items R o e q=>?_⟩;unfold rng1 at e;obtain⟨d,h1,e⟩:=bnd e;cases d with
 | int j =>
   simp only at e
   split at e
   . rename_i hj;cases e;refine hf H₀ H O σ ds hd _ _ o h1 fun v H' s r=>?_;cases r;exact⟨j,rfl,hj.1,hj.2,q _ (.non,.non) H' s .non YR⟩
   . cases e
 |_=>cases e
variable(X) in
def PGv(tg:Expr)(ga:D->List Sl->Option (List Sl)):Prop:=∃g,PG X tg g/\∀H₀ H O σ ds hd v d ds' Q,Ok X.K H₀ H O σ ds hd->Rep X.K H O v d->ga d ds=some ds'->(∀σ',Ok X.K H₀ H O σ' ds' hd->Q σ' H)->g v σ H Q
variable(X) in
def PGsv(tgs:List Expr)(ga:List D->List Sl->Option (List Sl)):Prop:=∃g,PGs X tgs g/\∀H₀ H O σ ds hd vs l ds' Q,Ok X.K H₀ H O σ ds hd->Reps X.K H O vs l->ga l ds=some ds'->(∀σ',Ok X.K H₀ H O σ' ds' hd->Q σ' H)->g vs σ H Q
theorem zR{i:Nat}{x:Str}{pos:Pos}(hN:X.N.Nodup)(hi:X.N[i]?=some x:=by rfl)(hx:Loc X.env.scope x:=by first | exact Or.inl rfl | exact Or.inr rfl)(hf:X.fn x=true\/X.env.scope.names.lookup x=some .local:=by first | exact .inl rfl | exact .inr rfl):PGv X (.Name x pos) (zU i):=
 ⟨_,pg_name hN hi hx hf,fun H₀ H O σ ds hd v d ds' Q o r e q=>by cases e;exact q _ (o.set r)⟩
theorem jT:PGsv X [] tgNil:=⟨_,pgs_nil,fun H₀ H O σ ds hd vs l ds' Q o r e q=>by
 cases r with
 |nil=>cases e;exact⟨rfl,q _ o⟩
 |cons _ _=>cases e⟩
theorem zW{e:Expr}{es:List Expr}{g:D->List Sl->Option (List Sl)}{h:List D->List Sl->Option (List Sl)}(h1:PGv X e g)(h2:PGsv X es h)(hs:(dM (e::es) X.env).map (·.2)=pK e X.env::(dM es X.env).map (·.2):=by rfl):PGsv X (e::es) (zY g h):=by
 obtain⟨t,ht,hf⟩:=h1;obtain⟨u,hu,hg⟩:=h2;refine⟨_,aEl ht hu hs,fun H₀ H O σ ds hd vs l ds' Q o r e q=>?_⟩;cases r with
 |nil=>cases e
 | cons r1 rr =>
   rename_i v d vr dr;simp only[zY] at e;obtain⟨ds1,h1,e⟩:=bnd e;exact⟨v,vr,rfl,hf H₀ H O σ ds hd v d ds1 _ o r1 h1 fun σ' o'=>hg H₀ H O σ' ds1 hd vr dr ds' Q o' rr e q⟩
theorem yN{es:List Expr}{k:Nat}{pos:Pos}{h:List D->List Sl->Option (List Sl)}{n:Nat}(hc:X.calm=true)(hh:PGsv X es h)(hn:(dM es X.env).length=n:=by rfl)(hst:(dM es X.env).findIdx? (·.1)=none:=by rfl):PGv X (.Tuple es k pos) (tupG n h):=by
 obtain⟨t,ht,hf⟩:=hh;refine⟨_,pg_tup hc ht hn hst,fun H₀ H O σ ds hd v d ds' Q o r e q=>?_⟩;cases d with
 | tup l =>
   simp only[tupG] at e
   split at e
   . rename_i hl;obtain⟨a,xs,rfl,hs,rs⟩:=WRep.seqT (.inl r);exact⟨a,xs,rfl,hs,by rw[rs.length];exact hl,hf H₀ H O σ ds hd xs l ds' Q o rs e q⟩
   . cases e
 |_=>cases e
theorem LD{K:Frag}{H:Hp}{hd:Hold}{q:HI}{v:V}{r:Ret}(h:RetB K H (q::hd) v r):RetB K H hd v r:=by
 cases r with
 |any d=>exact fun B hB=>h B (aG _ hB)
 |_=>exact True.intro
theorem yB{tg iter:Expr}{body:List Stmt}{pos:Pos}{fi:FA}{ga:D->List Sl->Option (List Sl)}{g:FS}(hp:PassesOwn (bM X.prog X.w) X.A X.env X.xe)(hc:X.calm=true)(hi:PIv X tg iter fi)(hg:PGv X tg ga)(hb:PSsv X body g)(hs:∀x,eJ iter X.env x=pure x:=by intro _;rfl):PSv X (.For tg iter body [] pos) (forG fi ga g):=by
 obtain⟨wi,pi,hi⟩:=hi;obtain⟨tg',pg,hg⟩:=hg;obtain⟨tb,pb,hb⟩:=hb;refine⟨_,aEi hp hc pi pg pb hs,(3:)⟩;unfold forG at e;obtain⟨items,h1,e⟩:=bnd e;refine hi H₀ H O σ ds hd items _ o h1 fun J p H' s r wk=>?_;refine⟨fun i m σ' H'=>i<=items.length/\m=items.length-i/\∃O' ds',Ok X.K H₀ H' O' σ' ds' (HI.rep p.1 p.2::hd)/\qZ ga g (items.drop i) ds'=some out,⟨items.length,dP _,rfl,O,ds,(o.mono s).holdMore (p:=HI.rep p.1 p.2) r,by simpa using e⟩,?_⟩;rintro i m σ1 H1 ⟨hi1,rfl,O1,ds1,o1,e1⟩;obtain⟨go,stop⟩:=wk H1 O1 o1.dom (o1.hold (HI.rep p.1 p.2) aN)
 by_cases hlt:i<items.length
 . right;have hd0:items[i]? = some items[i]:=bI hlt;obtain ⟨hgo,hy⟩:=go i _ hd0;rw [cK hlt,qZ] at e1;refine ⟨hgo,fun σ' H'=>i+1<=items.length/\∃ O' ds',Ok X.K H₀ H' O' σ' ds' (HI.rep p.1 p.2::hd)/\qZ ga g (items.drop (i+1)) ds'=some out,fun σ' H' ⟨q1,q2⟩=>⟨items.length - (i+1),by omega,q1,rfl,q2⟩,fun x H2 y=>?_⟩;obtain ⟨s2,r2⟩:=hy x H2 y;obtain ⟨ds2,h2,e1⟩:=bnd e1;obtain ⟨o3,h3,e1⟩:=bnd e1;refine hg H₀ H2 O1 σ1 ds1 (HI.rep p.1 p.2::hd) x _ ds2 _ (o1.mono s2) r2 h2 fun σ' o'=>?_;refine hb H₀ H2 O1 σ' ds2 (HI.rep p.1 p.2::hd) o3 _ o' h3 ?_;cases o3 with
   |nx ds3=>exact fun σ3 H3 O3 ok3=>⟨hlt,O3,ds3,ok3,e1⟩
   |ct ds3=>exact fun σ3 H3 O3 ok3=>⟨hlt,O3,ds3,ok3,e1⟩
   |bk ds3=>cases e1;exact fun σ3 H3 O3 ok3=>h σ3 H3 O3 ok3.holdLess
   |rt rr=>cases e1;exact fun v H s r b=>h v H s r (LD b)
 . left;have ei:i=items.length:=by omega
   subst ei;rw[DR,qZ] at e1;cases e1;exact⟨stop,h σ1 H1 O1 o1.holdLess⟩
variable(X) in
def PFv(ifs:List Expr)(c:FT):Prop:=∃t,PF X ifs t/\∀H₀ H O σ ds hd b Q,Ok X.K H₀ H O σ ds hd->c ds=some b->(∀H',Same H H'->Q b H')->t σ H Q
theorem xN:PFv X [] (fun _=>some true):=⟨_,pf_nil,fun _ H _ _ _ _ _ _ _ e q=>by cases e;exact q H (Same.refl _)⟩
theorem EW{c:Expr}{fc:FT}(h:PTv X c fc):PFv X [c] fc:=by
 obtain⟨t,ht,hf⟩:=h;exact⟨_,pf_one ht,hf⟩
theorem Ok.inner{K:Frag}{H₀ H:Hp}{O:aA->Prop}{σ : L2.St}{ds:List Sl}{hd:Hold}(o:Ok K H₀ H O σ ds hd)(mp:List (Option Nat)):Ok K H₀ H O (lC mp σ) (yE mp ds) hd:=by
 have no:∀{i:Nat} {l:List D},(yE mp ds)[i]?=some (.own l)->False:=fun {i l} e=>by
  unfold yE at e;rw[bE] at e;cases hm:mp[i]? with
  |none=>rw[hm] at e;cases e
  | some m =>
    rw[hm] at e;simp only[cF,Option.some.injEq] at e;cases m with
    |none=>cases e
    | some j =>
      simp only at e
      split at e<;>cases e
 refine⟨o.same,fun i l a e _=>(no e).elim,o.dom,by simp[lC,yE],fun i s e=>?_,fun i j a hij hi hj e1 e2=>?_,o.hold,.no fun i r t e=>by
  unfold yE at e;rw[bE] at e;cases hm:mp[i]? with
  |none=>rw[hm] at e;cases e
  | some m =>
    rw[hm] at e;simp only[cF,Option.some.injEq] at e;cases m with
    |none=>cases e
    | some j =>
      simp only at e
      split at e<;>cases e⟩
 . unfold yE at e;unfold lC;rw [bE] at e ⊢;cases hm:mp[i]? with
   |none=>rw[hm] at e;cases e
   | some m =>
     rw[hm] at e;simp only[cF,Option.some.injEq] at e;cases m with
     | none =>
       simp only at e;subst e;exact jQ
     | some j =>
       simp only at e;cases hj:ds[j]? with
       |none=>rw[hj] at e;subst e;exact jQ
       | some s' =>
         rw[hj] at e;cases s' with
         |no=>subst e;exact jQ
         |exc _=>subst e;exact jQ
         |fr _=>subst e;exact jQ
         |ob _ _=>subst e;exact jQ
         |own l=>subst e;exact jQ
         | v d =>
           simp only at e;subst e;obtain⟨v,h1,h2⟩:=o.read hj;simp only[cF,aH,h1,Option.join_some];exact yQ h2
 . obtain ⟨l, e⟩ := hi;unfold yE at e;rw [bE] at e;cases hm:mp[i]? with
   |none=>rw[hm] at e;cases e
   | some m =>
     rw[hm] at e;simp only[cF,Option.some.injEq] at e;cases m with
     |none=>cases e
     | some j =>
       simp only at e;cases hj:ds[j]? with
       |none=>rw[hj] at e;cases e
       |some s'=>rw[hj] at e;cases s'<;>cases e
section
variable{scope:Scope}{NY:List Str}{mp:List (Option Nat)}{tg iter elt:Expr}{ifs:List Expr}{pos:Pos}{fi:FA}{ga:D->List Sl->Option (List Sl)}{tt:FT}{fe:FE}
theorem IK{wi:TI}{g:CI->TG}{t1:CI->TT}{t2:CI->TE}(hi:∀H₀ H O σ ds hd items R,Ok X.K H₀ H O σ ds hd->fi ds=some items->(∀J p H',Same H H'->Rep X.K H' O p.1 p.2->Wlk X.K J p items->R J H')->wi σ H R)(hg:∀c H₀ H O σ ds hd v d ds' Q,Ok X.K H₀ H O σ ds hd->Rep X.K H O v d->ga d ds=some ds'->(∀σ',Ok X.K H₀ H O σ' ds' hd->Q σ' H)->g c v σ H Q)(ht:∀c H₀ H O σ ds hd b Q,Ok X.K H₀ H O σ ds hd->tt ds=some b->(∀H',Same H H'->Q b H')->t1 c σ H Q)(he:∀c H₀ H O σ ds hd d Q,Ok X.K H₀ H O σ ds hd->fe ds=some d->(∀v H',Same H H'->Rep X.K H' O v d->Q v H')->t2 c σ H Q) :
  ∀H₀ H O σ ds hd l Q,Ok X.K H₀ H O σ ds hd->compG fi mp ga tt fe ds=some l →
   (∀a xs H',Same H H'->H a=none->H' a=some (.lst xs)->Reps X.K H' (ins1 a O) xs l->Q (.ref a) H')->tComp wi mp g t1 t2 σ H Q:=by
 intro H₀ H O σ ds hd l Q o e q;unfold compG at e;obtain⟨items,h1,e⟩:=bnd e
 split at e
 . rename_i hsz;refine hi H₀ H O σ ds hd items _ o h1 fun J p H1 s1 r1 wk=>fun c=>?_;have oI:Ok X.K H₀ H1 O (lC mp σ) (yE mp ds) (HI.rep p.1 p.2::hd):=((o.mono s1).holdMore (p:=HI.rep p.1 p.2) r1).inner mp
   refine⟨fun i m ys H2=>i<=items.length/\m=items.length-i/\Same H1 H2/\ys.length<=i/\∃l' rest,Reps X.K H2 O ys l'/\compL ga tt fe (yE mp ds) (items.drop i)=some rest/\l=l'++rest,
    ⟨items.length,dP _,rfl,Same.refl _,aU _,[],l,.nil,by simpa using e,rfl⟩,?_⟩
   rintro i m ys H2 ⟨hi1,rfl,s2,hy,l',rest,ry,er,el⟩;have o2:=oI.mono s2;obtain⟨go,stop⟩:=wk H2 O o2.dom (o2.hold (HI.rep p.1 p.2) aN)
   by_cases hlt:i<items.length
   . right;have hd0:items[i]? = some items[i]:=bI hlt;obtain ⟨hgo,hyl⟩:=go i _ hd0;refine ⟨hgo,by omega,fun x H3 y=>?_⟩;obtain ⟨s3,r3⟩:=hyl x H3 y;rw [cK hlt,compL] at er;obtain ⟨ds1,h2,er⟩:=bnd er;refine hg c H₀ H3 O _ _ (HI.rep p.1 p.2::hd) x _ ds1 _ (o2.mono s3) r3 h2 fun σ' o3=>?_;obtain ⟨b,h3,er⟩:=bnd er;refine ht c H₀ H3 O σ' ds1 (HI.rep p.1 p.2::hd) b _ o3 h3 fun H4 s4=>?_;cases b with
     | false =>
       refine iteF ⟨items.length-(i+1),by omega,hlt,rfl,(s2.trans s3).trans s4,Nat.le_succ_of_le hy,l',rest,(ry.mono s3).mono s4,by simpa using er,el⟩
     | true =>
       refine iteT ?_;simp only[if_true] at er;obtain⟨yd,h4,er⟩:=bnd er;cases h5:compL ga tt fe (yE mp ds) (items.drop (i+1)) with
       |none=>rw[h5] at er;cases er
       | some rest' =>
         rw[h5] at er;cases er;refine he c H₀ H4 O σ' ds1 (HI.rep p.1 p.2::hd) yd _ (o3.mono s4) h4 fun v H5 s5 r5=>?_;refine⟨items.length-(i+1),by omega,hlt,rfl,((s2.trans s3).trans s4).trans s5,by simp;omega,l'++[yd],rest',(((ry.mono s3).mono s4).mono s5).append (.cons r5 .nil),h5,?_⟩;rw[el];simp
   . left;have ei:i=items.length:=by omega
     subst ei;rw[DR,compL] at er;cases er;rw[kN] at el;subst el;refine⟨stop,by omega,fun a ha=>?_⟩;refine q a ys _ ((s1.trans s2).trans (qP ha _)) ((s1.trans s2).free ha) qE ?_;exact(ry.more ha).mono (qP ha _)
 . cases e
theorem yY(S:CompScope X scope NY mp)(hc:X.calm=true)(hi:PIv X tg iter fi)(hg:∀c,PGv (jN X scope NY c) tg ga)(ht:∀c,PFv (jN X scope NY c) ifs tt)(he:∀c,PV (jN X scope NY c) elt fe)(hs:∀x,eJ iter X.env x=pure x:=by intro _;rfl):PVf X (.ListComp elt [⟨tg,iter,ifs,0⟩] scope pos) (compG fi mp ga tt fe):=by
 obtain⟨wi,pi,hi⟩:=hi;refine⟨_,pe_comp S hc pi (fun c=>(Classical.choose_spec (hg c)).1) (fun c=>(Classical.choose_spec (ht c)).1) (fun c=>(Classical.choose_spec (he c)).1) hs,?_⟩;exact IK hi (fun c=>(Classical.choose_spec (hg c)).2) (fun c=>(Classical.choose_spec (ht c)).2) (fun c=>(Classical.choose_spec (he c)).2)
theorem aEf{i:Nat}{y:Str}{py spos:Pos}(hN:X.N.Nodup)(S:CompScope X scope NY mp)(hc:X.calm=true)(hi:PIv X tg iter fi)(hg:∀c,PGv (jN X scope NY c) tg ga)(ht:∀c,PFv (jN X scope NY c) ifs tt)(he:∀c,PV (jN X scope NY c) elt fe)(hy:X.N[i]?=some y:=by rfl)(hl:X.env.scope.names.lookup y=some .local:=by rfl)(hsw:dI (.ListComp elt [⟨tg,iter,ifs,0⟩] scope pos) (some (.Name y py)) spos.line X.env=pure true:=by rfl)(hs:∀x,eJ iter X.env x=pure x:=by intro _;rfl):PSv X (.Assign [.Name y py] (.ListComp elt [⟨tg,iter,ifs,0⟩] scope pos) spos) (setOG i (compG fi mp ga tt fe)):=by
 obtain⟨wi,pi,hi⟩:=hi;refine⟨_,WI hN hy hl hsw S hc pi (fun c=>(Classical.choose_spec (hg c)).1) (fun c=>(Classical.choose_spec (ht c)).1) (fun c=>(Classical.choose_spec (he c)).1) hs,(3:)⟩;unfold setOG at e;obtain⟨l,h1,rfl⟩:=mpd e;exact IK hi (fun c=>(Classical.choose_spec (hg c)).2) (fun c=>(Classical.choose_spec (ht c)).2) (fun c=>(Classical.choose_spec (he c)).2) H₀ H O σ ds hd l _ o h1 fun a xs H' s hn he r=>h _ _ _ (o.setO s hn he r)
end
end
end FL
namespace L2
open PySem PySem.Spec PyProof.Rows
section
variable{X:Cx}
inductive TyV(K:aM)(H:Hp):V->aB->Prop where
 |of {x:V} {t:aB} (h:TyOf K H x t):TyV K H x t
 |lstK {a:aA} {o:Obj} (h:K.lookup a=some o) (c:o.cls=.type "list"):TyV K H (.ref a) (.type "list")
 |tupK {a:aA} {o:Obj} (h:K.lookup a=some o) (c:o.cls=.type "tuple"):TyV K H (.ref a) (.type "tuple")
 |tupF {a:aA} {o:Obj} {xs:List V} (h:H a=some (.frz o (.tup xs))):TyV K H (.ref a) (.type "tuple")
noncomputable def clsV:V->aB->Prop
 | .ty n,u=>u=.type n
 | .ref a,u=>u=.ref a
 |_,_=>False
theorem aGu:CallR X (.builtin "isinstance") (fun xs H Q=>∃x c cv t b,xs=[x,c]/\clsV c cv/\TyV X.K H x t/\EM X.K t cv=some b/\Q (.bl b) H):=by
 intro aC s σ H xs us Q I r h;obtain⟨x,c,cv,t,b,rfl,hc,ty,e,q⟩:=h;obtain⟨u,u2,rfl,ru,ru2⟩:=vals2 r
 have e2:u2=cv:=by
  cases c with
  |ty n=>cases(show cv=.type n from hc);cases(show u2=.type n from ru2);rfl
  |ref a=>cases(show cv=.ref a from hc);cases(show u2=.ref a from ru2);rfl
  |_=>exact(show False from hc).elim
 subst e2;have fin:∀tk,EP X aC σ Q (.bool b) { s with toks:=tk }:=fun tk=>⟨.bl b,H,I.tok tk,rfl,q⟩
 cases ty with
 |of h=>exact aAo I ru h e fin
 | @lstK a o h c =>
   cases(show u=aB.ref a from ru);exact cM uJ I.kIn ⟨o,I.kIn _ _ h,c⟩ e (fun z=>nomatch z) fin
 | @tupK a o h c =>
   cases(show u=aB.ref a from ru);exact cM sU I.kIn ⟨o,I.kIn _ _ h,c⟩ e (fun z=>nomatch z) fin
 | @tupF a o xs ea =>
   cases(show u=aB.ref a from ru);obtain⟨e0,_,_,_,p⟩:=(show ObjOk X.prog X.w H s.heap a (.frz o (.tup xs)) from I.hok a _ ea)
   obtain⟨o',h1,h2,_⟩:=p;exact cM sU I.kIn ⟨o',h1,h2⟩ e (fun z=>nomatch z) fin
theorem SI:∀{bs:List Bool} {us:List aB},Vals (bs.map V.bl) us->LSm.BoolsAre us bs
 |[],_,.nil=>.nil
 | b :: r, _, .cons h t => by
   cases(show _=aB.bool b from h);exact .cons b (SI t)
theorem aBj(hc:X.calm=true):CallR X (.builtin "all") (fun xs H Q=>∃(p:aA) (bs:List Bool),xs=[.ref p]/\SqL X.K H p (bs.map V.bl)/\Q (.bl (bs.all id)) H):=by
 intro aC s σ H xs us Q I r h;obtain⟨p,bs,rfl,hq,q⟩:=h;obtain⟨u,rfl,ru⟩:=vals1 r;cases ru;obtain⟨its,rv,pl,hz⟩:=I.list hq;have hlt:p<s.heap.objs.size:=by obtain⟨_,e,_⟩:=pl.isList;exact bF e
 have hb:=SI rv;refine call_all_walk (IQ pl.isList ?_)
 refine⟨s.heap.objs.size,[s.heap.objs.size,p],[s.heap.objs.size],its.toArray.size,_,_,fun i=>(bs[i]?).getD true,rfl,Walks.list (A:=X.A.in1) (I.ok.hd hc) _ p (bO hlt) its.toArray,
  ⟨⟨_,bD _ rfl,rfl,rfl⟩,pl.isList.push _⟩,fun i v s' Q' E' hP hQ=>?_,fun h' tk hk=>?_⟩
 . obtain⟨b, e, rfl⟩ := hb.get i v (by simpa using hP);simp only[e,Option.getD_some] at hQ;exact dU hQ
 . have e:((List.range its.toArray.size).all fun i=>(bs[i]?).getD true)=bs.all id:=by
    rw[aZ,hb.length];exact LSm.range_all bs
   rw[e];exact⟨.bl _,H,I.kept (LSm.kept_iter hk),rfl,q⟩
end
end L2
namespace FL
open PySem PySem.Spec PyProof.Rows L2
section
variable{X:Cx}
noncomputable def kitO(t T:String):Option Bool:=if ((aB.type t)==(aB.type T))=true then some true else if PySem.W.kitMeta T=true then (fastBuiltinMro t).map (·.contains (.type T)) else none
theorem kit_all:∀t∈kitN,∀T∈kitT,kitO t T=some (t==T||(t=="bool"&&T=="int")):=by decide +kernel
theorem kit_of{K:Frag}{t T:String}{b:Bool}(h:kitF t T=some b):EM K (.type t) (.type T)=some b:=by
 unfold kitF at h
 split at h
 . rename_i hm;cases h;exact kit_all t hm.1 T hm.2
 . cases h
theorem ty_of{K:Frag}{H:Hp}{O:aA->Prop}{v:V}{d:D}{t:String}(r:WRep K H O v d)(e:tyD d=some t):TyV K H v (.type t):=by
 rcases r with r | ⟨a,xs,l,rfl,rfl,ho,h,rs⟩
 . cases r with
   |non=>cases e;exact .of .non
   |bl b=>cases e;exact .of (.bl b)
   |int i=>cases e;exact .of (.int i)
   |str x=>cases e;exact .of (.str x)
   | tup n h r =>
     cases e;rcases h with h | ⟨o,h⟩
     . exact .of (.tup h)
     . exact .tupF h
   |tupK h r=>cases e;obtain⟨o,its,m,hk,hc,_⟩:=h;exact .tupK hk hc
   | lst n h r =>
     cases e;rcases h with h | ⟨o,h⟩
     . exact .of (.lst h)
     . exact .of (.frz h)
   |lstK h r=>cases e;obtain⟨o,its,m,hk,hc,_⟩:=h;exact .lstK hk hc
   |dct n h e' r=>cases e;exact .of (.dK h)
   |dcf n h e' r=>cases e
   |ins c n h e' r=>cases e
   |clo tx h e' nd c r=>cases e
   |fnK h=>cases e
 . cases e;exact .of (.lst h)
theorem BL{p pT pos:Pos}{e:Expr}{f:FE}{x:Str}{T:String}(hm:X.mg "isinstance" = none)(hT:X.mg x=none)(hv:gJ x=some (.type T))(he:PVw X e f)(hg:Gl X "isinstance":=by rfl)(hgT:Gl X x:=by rfl)(h1:aL [e,.Name x pT] X.env=(false,bY e X.env)::aL [.Name x pT] X.env:=by rfl)(h2:aL [.Name x pT] X.env=(false,bY (.Name x pT) X.env)::aL [] X.env:=by rfl)(h3:(dB pos (aL [.Name x pT] X.env)).any (·.1)=false:=by rfl)(hn:x≠"__name__":=by decide)(hd:(x==("__debug__" : Str))=false:=by decide):PV X (.Call (.Name "isinstance" p) [e,.Name x pT] [] pos) (isiG T f):=by
 obtain⟨t,ht,hf⟩:=he;refine⟨_,vY aGu hg hm (by decide +kernel) (jZ ht (jZ (pe_bltn (v:=.ty T) hgT hT hv rfl hn hd) yW h2) h1) (by decide) (by decide) h1 h3,fun H₀ H O σ ds hd d Q o e q=>?_⟩;unfold isiG at e;obtain⟨dx,hh,e⟩:=bnd e;simp only[aH,isiD] at e;obtain⟨t,ht,e⟩:=bnd e;obtain⟨b,hk,rfl⟩:=mpd e;refine hf H₀ H O σ ds hd dx _ o hh fun v H' s r=>?_;exact⟨v,.ty T,.type T,.type t,b,rfl,rfl,ty_of r ht,kit_of hk,q _ H' s (.bl b)⟩
theorem YC{K:Frag}{H:Hp}{O:aA->Prop}:∀{xs:List V} {l:List D} {bs:List Bool},Reps K H O xs l->blsD l=some bs->xs=bs.map V.bl
 |_,_,_,.nil,e=>by cases e;rfl
 | _, _, bs, .cons (d := d) h t, e => by
   cases d with
   | bl b =>
     rename_i ds;simp only[blsD] at e;obtain⟨r,hr,rfl⟩:=mpd e;cases h;rw[YC t hr];rfl
   |_=>cases e
theorem cs_all:CallS X (fun xs H Q=>∃(p:aA) (bs:List Bool),xs=[.ref p]/\SqL X.K H p (bs.map V.bl)/\Q (.bl (bs.all id)) H) allD:=by
 intro H O vs l d Q ho r e q;unfold allD at e
 split at e
 . obtain ⟨bs, hb, rfl⟩ := mpd e;cases r with
   | cons r rn =>
     cases rn;obtain⟨a,xs,rfl,hs,rs⟩:=r.seqL;refine⟨a,bs,rfl,?_,q _ H (Same.refl _) (.bl _)⟩;rw[<- YC rs hb];exact hs
 . cases e
theorem pv_all{p pos:Pos}{e:Expr}{g:FA}(hc:X.calm=true)(hm:X.mg "all" = none)(ha:PAv X [e] g)(hg:Gl X "all":=by rfl)(he:aL [e] X.env=[(false,bY e X.env)]:=by rfl) :
  PV X (.Call (.Name "all" p) [e] [] pos) (callB allD g):=kB (aBj hc) cs_all hm (by decide +kernel) ha hg (by decide) (by decide) he rfl
theorem jJ{a:Expr}{pos:Pos}{f:FE}(ha:PV X a f):PV X (.UnaryOp .USub a pos) (un1 negD f):=by
 obtain⟨ta,pa,ha⟩:=ha;refine⟨_,pe_un un_neg pa,fun H₀ H O σ ds hd d Q o e q=>?_⟩;unfold un1 at e;obtain⟨dx,h1,e⟩:=bnd e;cases dx with
 | int i =>
   cases e;refine ha H₀ H O σ ds hd _ _ o h1 fun x H1 s1 r1=>?_;cases r1;exact⟨i,rfl,q _ H1 s1 (.int _)⟩
 |_=>cases e
theorem os_inS:OpS X (fun x y H Q=>∃i j,x=.str i/\y=.str j/\Q (.bl (!(Builtin.Str.occurrences j i 0 j.length 1).isEmpty)) H) inS:=by
 intro H O x y dx dy d Q ho rx ry e q;cases dx<;>cases dy<;>first | (simp[inS] at e;done) | skip
 cases e;rw[rx.str',ry.str'];exact⟨_,_,rfl,rfl,q _ H (Same.refl _) (.bl _)⟩
variable(X) in
def PVd(e:Expr)(f:FE):Prop:=∃t,PE X e t/\∀H₀ H O σ ds hd d Q,Ok X.K H₀ H O σ ds hd->f ds=some d->(∀v H',Same H H'->Rep X.K H' (Old H) v d->Q v H')->t σ H Q
theorem not_old{H:Hp}{p:aA}(h:H p=none):¬Old H p:=fun⟨o,e,_⟩=>by rw[h] at e;cases e
theorem wD{e:Expr}{pos:Pos}{f:FE}(he:PVd X e f):PSv X (.Return (some e) pos) (retDG f):=by
 obtain⟨t,ht,hg⟩:=he;refine⟨_,BP ht,(3:)⟩;unfold retDG at e;obtain⟨d,h1,rfl⟩:=mpd e;exact hg H₀ H O σ ds hd d _ o h1 fun v H' s r=>h _ _ (o.same.trans s) (r.less fun a z=>Old.mono o.same z) True.intro
end
section
variable{X:Cx}
noncomputable def aGr(sc scope:Scope)(N NY:List Str)(mp:List (Option Nat)):Bool :=
 scope.kind==.function&&scope.names.all (fun y=>y.2 != .cell)&&scope.names.all (fun y=>y.2 != .local||scope.names.lookup y.1==some .local)
 && scope.names.all (fun y=>y.2 != .free||(sc.names.lookup y.1==some .cell||sc.names.lookup y.1==some .free))&&mp.length==NY.length
 && (List.range NY.length).all (fun i=>match NY[i]?,mp[i]? with | some x,some (some j)=>N[j]?==some x&&scope.names.lookup x==some .free | _,_=>true)
theorem jD{scope:Scope}{NY:List Str}{mp:List (Option Nat)}(h:aGr X.env.scope scope X.N NY mp=true):CompScope X scope NY mp:=by
 unfold aGr at h;simp only[bX,pY,beq_iff_eq] at h;obtain⟨⟨⟨⟨⟨h1,h2⟩,h3⟩,h4⟩,h5⟩,h6⟩:=h;refine⟨h1,fun y hy=>by simpa using h2 y hy,fun y hy hk=>?_,fun y hy hk=>?_,h5,fun i x j e1 e2=>?_⟩
 . have := h3 y hy;simpa[hk] using this
 . have := h4 y hy;simp only[hk,bne_self_eq_false,Bool.false_or,Bool.or_eq_true,beq_iff_eq] at this;exact this
 . have hi : i ∈ List.range NY.length := oK.mpr (aV.mp e1).1;have:=h6 i hi;rw[e1,e2] at this;simpa using this
end
theorem zQ{g:FS}{n:Nat}{ds:List D}{r:Ret}(e:runG g n ds=some r):Does g n ds r:=by
 unfold runG at e;cases h:g (args n ds) with
 |none=>rw[h] at e;cases e
 | some o =>
   rw[h] at e;cases o with
   |rt r'=>cases e;exact .inl h
   |nx ds'=>cases e;exact .inr ⟨rfl,ds',h⟩
   |bk ds'=>cases e
   |ct ds'=>cases e
end FL
namespace L2
open PySem PySem.Spec PyProof.Rows
section
variable{X:Cx}
theorem op_mulB:OpR X (mK .Mult) (rI JA fun i j=>.int (i*j)):=opI fun _ _ _ _ _ _ _ hc q=>mul_int q hc
theorem op_powB:OpR X (mK .Pow) (rI FL.CPowB fun i j=>.int (i ^ j.toNat)):=opI fun _ _ _ _ _ _ _ hc q=>pow_int hc.1 hc.2 q
noncomputable def rCatS(K:aM):R2:=fun x y H Q=>∃l b xs zs,x=.ref l/\y=.ref b/\SqL K H l xs/\SqL K H b zs/\xs.length+zs.length<=sizeLine/\∀p,H p=none->Q (.ref p) (upd H p (.lst (xs++zs)))
theorem op_catS:OpR X (mK .Add) (rCatS X.K):=by
 intro aC s σ H x y v u Q I rx ry h;obtain⟨l,b,xs,zs,rfl,rfl,hH,hB,hz,q⟩:=h;cases rx;cases ry;obtain⟨its,r,pl,z⟩:=I.list hH;obtain⟨its2,r2,pl2,z2⟩:=I.list hB;obtain⟨⟨cls,dd,data,sl⟩,ho,hc,n,hd⟩:=pl.isList;obtain⟨⟨cls2,dd2,data2,sl2⟩,ho2,hc2,n2,hd2⟩:=pl2.isList;simp only at hc hd hc2 hd2;subst hc hd hc2 hd2;have hl:=r.length;have hl2:=r2.length;refine concat_meets ⟨_,ho,rfl⟩ ⟨_,ho2,rfl⟩ noFill_list_add seq_list_add PySem.F.slot_list_add PySem.F.entry_list_add (PySem.F.args_list_add_2 _ _) (list_addW l b its.toArray its2.toArray n n2 dd dd2 sl sl2 (by simp only[aZ];omega)) ⟨ho,ho2,?_⟩;have ea:its.toArray++its2.toArray=(its++its2).toArray:=by simp
 rw[ea];exact⟨.ref _,_,I.lnew (t':=s.toks) (r.append r2) (by rw[bP];omega),rfl,q _ I.fresh⟩
end
end L2
namespace FL
open PySem PySem.Spec PyProof.Rows L2
section
variable{X:Cx}
variable(X) in
def PVn(e:Expr)(f:FE):Prop:=∃t,PE X e t/\∀H₀ H O σ ds hd d Q,Ok X.K H₀ H O σ ds hd->f ds=some d->(∀v H',Same H H'->Rep X.K H' yA v d->Q v H')->t σ H Q
variable(X) in
def PAn(es:List Expr)(f:FA):Prop:=∃t,PA X es t/\∀H₀ H O σ ds hd l Q,Ok X.K H₀ H O σ ds hd->f ds=some l->(∀vs H',Same H H'->Reps X.K H' yA vs l->Q vs H')->t σ H Q
theorem PVw.n{e:Expr}{f:FE}(h:PVw X e f):PVn X e f:=by
 obtain⟨t,ht,hf⟩:=h;exact⟨t,ht,fun H₀ H O σ ds hd d Q o e q=>hf H₀ H O σ ds hd d Q o e fun v H' s r=>q v H' s r.any⟩
theorem PV.n{e:Expr}{f:FE}(h:PV X e f):PVn X e f:=h.w.n
theorem zN:PAn X [] zZ:=⟨_,yW,fun _ H _ _ _ _ _ _ _ e q=>by cases e;exact q _ H (Same.refl _) .nil⟩
theorem zF{e:Expr}{es:List Expr}{f:FE}{g:FA}(ha:PVn X e f)(hr:PAn X es g)(hs:aL (e::es) X.env=(false,bY e X.env)::aL es X.env:=by rfl):PAn X (e::es) (zE f g):=by
 obtain⟨t,ht,hf⟩:=ha;obtain⟨u,hu,hg⟩:=hr;refine⟨_,jZ ht hu hs,fun H₀ H O σ ds hd l Q o e q=>?_⟩;unfold zE at e;obtain⟨x,h,e⟩:=bnd e;obtain⟨r,h2,rfl⟩:=mpd e;refine hf H₀ H O σ ds hd x _ o h fun v H1 s1 r1=>?_;refine hg H₀ H1 O σ ds hd r _ (o.mono s1) h2 fun vs H2 s2 r2=>?_;exact q _ H2 (s1.trans s2) (.cons (r1.mono s2) r2)
section
variable{k:Nat}{f:aA}{fd:aK}{ps:List Str}{n:Nat}{F:List D->Option Ret}{x:Str}{p pos:Pos}{e:Expr}{es:List Expr}{g:FA}
theorem aDs(Fn:FnOk X.prog X.w X.K X.mg X.base CX0 k f fd ps (spF X.K n F))(hr:Room k X.A)(hm:X.mg x=some (.ref f))(hk:bK X.K (.ref f)=true)(hb:Binds X.K fd ps [])(ha:PAn X (e::es) g)(hg:Gl X x:=by rfl)(hdb:(x==("__debug__" : Str))=false:=by decide)(he:aL (e::es) X.env=(false,bY e X.env)::aL es X.env:=by rfl)(hpl:(dB pos (aL es X.env)).any (·.1)=false:=by rfl) :
  PV X (.Call (.Name x p) (e::es) [] pos) (qG n F g):=by
 obtain⟨t,ht,hf⟩:=ha;refine⟨_,EX (CX:=CX0) (E:=E0) Fn hr hg hm hk hb .nil pass0 ht hdb he hpl,fun H₀ H O σ ds hd d Q o e q=>?_⟩;unfold qG at e;obtain⟨l,h,e⟩:=bnd e
 split at e
 . rename_i hln;obtain⟨r,h2,e⟩:=bnd e;refine hf H₀ H O σ ds hd l _ o h fun vs H1 s1 r1=>?_;have hl:=r1.length;refine⟨by simp only[kN];omega,l,r,by simpa using r1,h2,fun v H' s' ro=>q v H' (s1.trans s') ?_⟩;exact ND ro e fun a ha=>(o.mono s1).old ha
 . cases e
theorem ZD(Fn:FnOk X.prog X.w X.K X.mg X.base CX0 k f fd ps (spF X.K n F))(hr:Room k X.A)(hm:X.mg x=some (.ref f))(hk:bK X.K (.ref f)=true)(hb:Binds X.K fd ps [])(ha:PAn X (e::es) g)(hg:Gl X x:=by rfl)(hdb:(x==("__debug__" : Str))=false:=by decide)(he:aL (e::es) X.env=(false,bY e X.env)::aL es X.env:=by rfl)(hpl:(dB pos (aL es X.env)).any (·.1)=false:=by rfl) :
  PVf X (.Call (.Name x p) (e::es) [] pos) (vV n F g):=by
 obtain⟨t,ht,hf⟩:=ha;refine⟨_,EX (CX:=CX0) (E:=E0) Fn hr hg hm hk hb .nil pass0 ht hdb he hpl,fun H₀ H O σ ds hd d Q o e q=>?_⟩;unfold vV at e;obtain⟨l,h,e⟩:=bnd e
 split at e
 . rename_i hln;obtain⟨r,h2,e⟩:=bnd e;refine hf H₀ H O σ ds hd l _ o h fun vs H1 s1 r1=>?_;have hl:=r1.length;refine⟨by simp only[kN];omega,l,r,by simpa using r1,h2,fun v H' s' ro=>?_⟩;obtain⟨a,xs,rfl,h3,h4,h5⟩:=retF_ok ro e fun a ha=>(o.mono s1).old ha;exact q a xs H' (s1.trans s') (s1.free h3) h4 h5
 . cases e
end
def OpN(X:Cx)(r:R2)(op:D->D->Option D):Prop:=∀H O x y dx dy d Q,Rep X.K H yA x dx->Rep X.K H yA y dy->op dx dy=some d->(∀v H',Same H H'->Rep X.K H' O v d->Q v H')->r x y H Q
theorem VX{r:R2}{op:D->D->Option D}(hs:OpN X r op){fa fb:FE}{ta tb:TE}(ha:∀H₀ H O σ ds hd d Q,Ok X.K H₀ H O σ ds hd->fa ds=some d->(∀v H',Same H H'->Rep X.K H' yA v d->Q v H')->ta σ H Q)(hb:∀H₀ H O σ ds hd d Q,Ok X.K H₀ H O σ ds hd->fb ds=some d->(∀v H',Same H H'->Rep X.K H' yA v d->Q v H')->tb σ H Q) :
  ∀H₀ H O σ ds hd d Q,Ok X.K H₀ H O σ ds hd->zI op fa fb ds=some d->(∀v H',Same H H'->Rep X.K H' O v d->Q v H')->tOp r ta tb σ H Q:=by
 intro H₀ H O σ ds hd d Q o e q;unfold zI at e;obtain⟨dx,h1,e⟩:=bnd e;obtain⟨dy,h2,e⟩:=bnd e;refine ha H₀ H O σ ds hd dx _ o h1 fun x H1 s1 r1=>?_;refine hb H₀ H1 O σ ds hd dy _ (o.mono s1) h2 fun y H2 s2 r2=>?_;exact hs H2 O x y dx dy d Q (r1.mono s2) r2 e fun v H' s r=>q v H' ((s1.trans s2).trans s) r
theorem WC{op:DS}{r:R2}{opD:D->D->Option D}{a b:Expr}{fa fb:FE}{pos:Pos}(ho:OpR X (dJ op) r)(hs:OpN X r opD)(ha:PVn X a fa)(hb:PVn X b fb)(hm:dY op b=false):PV X (.Compare a [op] [b] pos) (zI opD fa fb):=by
 obtain⟨ta,pa,ha⟩:=ha;obtain⟨tb,pb,hb⟩:=hb;exact⟨_,WO ho pa pb hm,VX hs ha hb⟩
theorem AG{op:DS}{r:R2}{opD:D->D->Option D}{a b:Expr}{fa fb:FE}{pos:Pos}(ho:OpR X (dJ op) r)(hs:OpN X r opD)(ha:PVn X a fa)(hb:PVn X b fb)(hm:dY op b=false):PTv X (.Compare a [op] [b] pos) (zP (zI opD fa fb)):=by
 obtain⟨ta,pa,ha⟩:=ha;obtain⟨tb,pb,hb⟩:=hb;refine⟨_,WE ho pa pb hm,fun H₀ H O σ ds hd k Q o e q=>?_⟩;unfold zP at e;obtain⟨d,h,e⟩:=bnd e;refine VX hs ha hb H₀ H O σ ds hd d _ o h fun v H' s r=>?_;cases d with
 |bl c=>cases e;cases r;exact⟨_,rfl,q H' s⟩
 |_=>cases e
mutual
theorem Rep.reads{aC:List (aA×Obj)}{σ : L2.St}{H:Hp}{s:aE}{O:aA->Prop}(I:Inv X aC σ H s):∀{v:V} {d:D},Rep X.K H O v d->∀{u:aB} {n:Nat},RelV v u->shal n d=true->∃as,Reads s.heap u (toPy d) as/\(toPy d).canLay0=true/\(toPy d).depth<=n+1
 |_,_,.non=>fun r _=>by cases r;exact⟨[],.none,rfl,dP _⟩
 |_,_,.bl b=>fun r _=>by cases r;exact⟨[],.bool b,rfl,dP _⟩
 |_,_,.int i=>fun r _=>by obtain⟨t,rfl⟩:=r;exact⟨[],.int i t,rfl,dP _⟩
 |_,_,.str x=>fun r h=>by obtain⟨t,rfl⟩:=r;exact⟨[],.str x t,by simpa[toPy,PyData.canLay0,shal] using h,dP _⟩
 | _, _, .tup m h q => fun r hs => by
   cases r;obtain⟨its,rv,⟨o,ho,hc,k,hd⟩,hz⟩:=I.tuple (.inl h);obtain⟨as,h1,h2,h3⟩:=Reps.reads I q rv (by simpa[shal] using hs);exact⟨as,.tuple ho hc hd (by simpa using h1),by simpa[toPy,PyData.canLay0] using h2,by simpa[toPy,PyData.depth] using h3⟩
 | _, _, .tupK h q => fun r hs => by
   cases r;obtain⟨its,rv,⟨o,ho,hc,k,hd⟩,hz⟩:=I.tuple (.inr h);obtain⟨as,h1,h2,h3⟩:=Reps.reads I q rv (by simpa[shal] using hs);exact⟨as,.tuple ho hc hd (by simpa using h1),by simpa[toPy,PyData.canLay0] using h2,by simpa[toPy,PyData.depth] using h3⟩
 | _, _, .lst m h q => fun r hs => by
   cases r;obtain⟨its,rv,pl,hz⟩:=I.list (.inl h);obtain⟨o,ho,hc,k,hd⟩:=pl.isList;obtain⟨as,h1,h2,h3⟩:=Reps.reads I q rv (by simpa[shal] using hs);exact⟨_,.list ho hc hd (by simpa using h1),by simpa[toPy,PyData.canLay0] using h2,by simpa[toPy,PyData.depth] using h3⟩
 | _, _, .lstK h q => fun r hs => by
   cases r;obtain⟨its,rv,pl,hz⟩:=I.list (.inr h);obtain⟨o,ho,hc,k,hd⟩:=pl.isList;obtain⟨as,h1,h2,h3⟩:=Reps.reads I q rv (by simpa[shal] using hs);exact⟨_,.list ho hc hd (by simpa using h1),by simpa[toPy,PyData.canLay0] using h2,by simpa[toPy,PyData.depth] using h3⟩
 |_,_,.dct _ _ _ _=>fun _ hs=>by simp[shal] at hs
 |_,_,.dcf _ _ _ _=>fun _ hs=>by simp[shal] at hs
 |_,_,.ins _ _ _ _ _=>fun _ hs=>by simp[shal] at hs
 |_,_,.clo _ _ _ _ _ _=>fun _ hs=>by simp[shal] at hs
 |_,_,.fnK _=>fun _ hs=>by simp[shal] at hs
theorem Reps.reads{aC:List (aA×Obj)}{σ : L2.St}{H:Hp}{s:aE}{O:aA->Prop}(I:Inv X aC σ H s):∀{vs:List V} {ds:List D},Reps X.K H O vs ds->∀{us:List aB} {n:Nat},Vals vs us->shals n ds=true->∃as,ReadsAll s.heap us (toPys ds) as/\PyData.canLayAll0 (toPys ds)=true/\PyData.depthAll (toPys ds)<=n
 |_,_,.nil=>fun r _=>by cases r;exact⟨[],.nil,rfl,dP _⟩
 | _, _, .cons h t => fun r hs => by
   rename Nat=>n
   cases n with
   |zero=>simp[shals] at hs
   |succ n =>
    cases r with
    |cons r1 r2 =>
     simp only[shals,bX] at hs;obtain⟨as,h1,h2,h3⟩:=Rep.reads I h r1 hs.1;obtain⟨bs,k1,k2,k3⟩:=Reps.reads I t r2 hs.2;exact⟨_,.cons h1 k1,by simp[toPys,PyData.canLayAll0,h2,k2],by simp only[toPys,PyData.depthAll];omega⟩
end
noncomputable def rEqD(X:Cx)(neg:Bool):R2:=fun x y H Q=>∃dx dy,Rep X.K H yA x dx/\Rep X.K H yA y dy/\shal 40 dx=true/\shal 40 dy=true/\Q (.bl (if neg then !eqvD dx dy else eqvD dx dy)) H
theorem op_eqD(hu:X.A.units+100<cLine):OpR X (dJ .Eq) (rEqD X false):=by
 intro aC s σ H x y v u Q I rx ry h;obtain⟨dx,dy,r1,r2,s1,s2,q⟩:=h;obtain⟨as,a1,a2,a3⟩:=r1.reads I rx s1;obtain⟨bs,b1,b2,b3⟩:=r2.reads I ry s2;exact SeqAt.compareEq_reads a1 b1 a2 b2 (by omega) ⟨.bl _,H,I,rfl,q⟩
theorem op_neD(hu:X.A.units+100<cLine):OpR X (dJ .NotEq) (rEqD X true):=by
 intro aC s σ H x y v u Q I rx ry h;obtain⟨dx,dy,r1,r2,s1,s2,q⟩:=h;obtain⟨as,a1,a2,a3⟩:=r1.reads I rx s1;obtain⟨bs,b1,b2,b3⟩:=r2.reads I ry s2;exact SeqAt.compareNe_reads a1 b1 a2 b2 (by omega) ⟨.bl _,H,I,rfl,q⟩
theorem on_eqD:OpN X (rEqD X false) eqD:=by
 intro H O x y dx dy d Q rx ry e q;unfold eqD at e
 split at e
 . rename_i hs;cases e;exact⟨dx,dy,rx,ry,hs.1,hs.2,q _ H (Same.refl _) (.bl _)⟩
 . cases e
theorem on_neD:OpN X (rEqD X true) neD:=by
 intro H O x y dx dy d Q rx ry e q;unfold neD at e
 split at e
 . rename_i hs;cases e;exact⟨dx,dy,rx,ry,hs.1,hs.2,q _ H (Same.refl _) (.bl _)⟩
 . cases e
theorem hu100{k:Nat}{A:bZ}(hr:Room k A):A.units+100<cLine:=by have:=hr.un;omega
theorem qT{a b:Expr}{fa fb:FE}{pos:Pos}{k:Nat}(hr:Room k X.A)(ha:PVn X a fa)(hb:PVn X b fb):PTv X (.Compare a [.Eq] [b] pos) (zP (zI eqD fa fb)):=AG (op_eqD (hu100 hr)) on_eqD ha hb (nB _)
theorem vX{a b:Expr}{fa fb:FE}{pos:Pos}{k:Nat}(hr:Room k X.A)(ha:PVn X a fa)(hb:PVn X b fb):PTv X (.Compare a [.NotEq] [b] pos) (zP (zI neD fa fb)):=AG (op_neD (hu100 hr)) on_neD ha hb (nB _)
theorem WU{K:Frag}{H:Hp}{O:aA->Prop}{v:V}{d:D}(r:Rep K H O v d):decide (v=.non)=(match d with | .non=>true | _=>false):=by
 cases r<;>rfl
theorem on_is:OpN X (fun x y H Q=>y=.non/\Q (.bl (decide (x=.non))) H) isD:=by
 intro H O x y dx dy d Q rx ry e q;cases dy<;>first | (cases dx<;>simp[isD] at e;done) | skip
 cases ry;refine⟨rfl,?_⟩;rw[WU rx];cases dx<;>(simp only[isD,Option.some.injEq] at e;subst e;exact q _ H (Same.refl _) (.bl _))
theorem aEz:OpN X (fun x y H Q=>y=.non/\Q (.bl (!decide (x=.non))) H) notD:=by
 intro H O x y dx dy d Q rx ry e q;cases dy<;>first | (cases dx<;>simp[notD] at e;done) | skip
 cases ry;refine⟨rfl,?_⟩;rw[WU rx];cases dx<;>(simp only[notD,Option.some.injEq] at e;subst e;exact q _ H (Same.refl _) (.bl _))
theorem WA{a b:Expr}{fa fb:FE}{pos:Pos}(ha:PVn X a fa)(hb:PVn X b fb):PV X (.Compare a [.Is] [b] pos) (zI isD fa fb):=WC aEx on_is ha hb (nB _)
theorem QG{a b:Expr}{fa fb:FE}{pos:Pos}(ha:PVn X a fa)(hb:PVn X b fb):PV X (.Compare a [.IsNot] [b] pos) (zI notD fa fb):=WC WR aEz ha hb (nB _)
theorem xR{a b:Expr}{fa fb:FE}{pos:Pos}(ha:PVn X a fa)(hb:PVn X b fb):PTv X (.Compare a [.Is] [b] pos) (zP (zI isD fa fb)):=AG aEx on_is ha hb (nB _)
theorem yI{a b:Expr}{fa fb:FE}{pos:Pos}(ha:PVn X a fa)(hb:PVn X b fb):PTv X (.Compare a [.IsNot] [b] pos) (zP (zI notD fa fb)):=AG WR aEz ha hb (nB _)
theorem GA{K:Frag}{H:Hp}{O:aA->Prop}{v:V}{d:D}(r:Rep K H O v d)(h:sclD d=true):flatV v=true:=by
 cases r<;>first | rfl | (simp[sclD] at h;done)
theorem scl_eq{K:Frag}{H:Hp}{O O':aA->Prop}{v v':V}{d d':D}(r:Rep K H O v d)(h:sclD d=true)(r':Rep K H O' v' d')(h':sclD d'=true):eqV v v'=eqvD d d':=by
 cases r<;>first | (simp[sclD] at h;done) | skip
 all_goals (cases r'<;>first | (simp[sclD] at h';done) | rfl)
theorem NB{K:Frag}{H:Hp}{O O':aA->Prop}{x:V}{dx:D}(rx:Rep K H O' x dx)(hx:sclD dx=true):∀{xs:List V} {l:List D},Reps K H O xs l->l.all sclD=true->xs.all flatV=true/\inV x xs=l.any fun z=>eqvD z dx
 |_,_,.nil,_=>⟨rfl,rfl⟩
 | _, _, .cons r t, h => by
   rw[uL,bX] at h;obtain⟨h1,h2⟩:=NB rx hx t h.2;refine⟨by rw[uL,GA r h.1,h1];rfl,?_⟩;unfold inV at h2 ⊢;rw[iU,iU,h2,scl_eq r h.1 rx hx]
theorem on_in{neg:Bool}: OpN X (rIn X.K neg) (inD neg):=by
 intro H O x y dx dy d Q rx ry e q;unfold inD at e;obtain⟨l,hl,e⟩:=bnd e
 split at e
 . rename_i hs;cases e;cases dy with
   | lst l' =>
     cases hl;obtain⟨a,xs,rfl,hq,rs⟩:=WRep.seqL (.inl ry);obtain⟨h1,h2⟩:=NB rx hs.1 rs hs.2;refine⟨a,xs,rfl,.inl hq,GA rx hs.1,h1,?_⟩;rw[h2];exact q _ H (Same.refl _) (.bl _)
   | tup l' =>
     cases hl;obtain⟨a,xs,rfl,hq,rs⟩:=WRep.seqT (.inl ry);obtain⟨h1,h2⟩:=NB rx hs.1 rs hs.2;refine⟨a,xs,rfl,.inr hq,GA rx hs.1,h1,?_⟩;rw[h2];exact q _ H (Same.refl _) (.bl _)
   |_=>cases hl
 . cases e
theorem pt_in{a b:Expr}{fa fb:FE}{pos:Pos}(ha:PVn X a fa)(hb:PVn X b fb)(hm:dY .In b=false:=by rfl):PTv X (.Compare a [.In] [b] pos) (zP (zI (inD false) fa fb)):=AG ZP on_in ha hb hm
theorem os_mul:OpS X (rI JA fun i j=>.int (i*j)) yV:=by
 intro H O x y dx dy d Q ho rx ry e q;cases dx<;>cases dy<;>first | (simp[yV] at e;done) | skip
 simp only[yV] at e
 split at e
 . rename_i hc;cases e;rw[rx.int',ry.int'];exact⟨_,_,rfl,rfl,hc,q _ H (Same.refl _) (.int _)⟩
 . cases e
theorem os_pow:OpS X (rI CPowB fun i j=>.int (i ^ j.toNat)) powD:=by
 intro H O x y dx dy d Q ho rx ry e q;cases dx<;>cases dy<;>first | (simp[powD] at e;done) | skip
 simp only[powD] at e
 split at e
 . rename_i hc;cases e;rw[rx.int',ry.int'];exact⟨_,_,rfl,rfl,hc,q _ H (Same.refl _) (.int _)⟩
 . cases e
theorem xT{a b:Expr}{fa fb:FE}{pos:Pos}(ha:PVw X a fa)(hb:PVw X b fb):PVf X (.BinOp a .Add b pos) (catA fa fb):=by
 obtain⟨ta,pa,ha⟩:=ha;obtain⟨tb,pb,hb⟩:=hb;refine⟨_,pe_op op_catS pa pb,fun H₀ H O σ ds hd l Q o e q=>?_⟩;unfold catA at e;obtain⟨dx,h1,e⟩:=bnd e;obtain⟨dy,h2,e⟩:=bnd e;cases dx<;>cases dy<;>first | (simp at e;done) | skip
 simp only at e
 split at e
 . rename_i hz;cases e;refine ha H₀ H O σ ds hd _ _ o h1 fun x H1 s1 r1=>?_;refine hb H₀ H1 O σ ds hd _ _ (o.mono s1) h2 fun y H2 s2 r2=>?_;obtain⟨a1,xs,rfl,hq1,rs1⟩:=(r1.mono s2).seqL;obtain⟨a2,ys,rfl,hq2,rs2⟩:=r2.seqL;refine⟨a1,a2,xs,ys,rfl,rfl,hq1,hq2,by rw[rs1.length,rs2.length];exact hz,fun p hp=>?_⟩;refine q p _ _ ((s1.trans s2).trans (qP hp _)) ((s1.trans s2).free hp) qE ?_;exact((rs1.append rs2).more hp).mono (qP hp _)
 . cases e
variable(X) in
def POv(e:Option Expr)(f:List Sl->Option (Option Int)):Prop:=∃t,PO X e t/\∀H₀ H O σ ds hd i Q,Ok X.K H₀ H O σ ds hd->f ds=some i->(∀H',Same H H'->Q i H')->t σ H Q
theorem wO:POv X none noP:=⟨_,po_none,fun _ H _ _ _ _ _ _ _ e q=>by cases e;exact q H (Same.refl _)⟩
theorem yG{e:Expr}{f:FE}(h:PVw X e f):POv X (some e) (soP f):=by
 obtain⟨t,ht,hf⟩:=h;refine⟨_,po_some ht,fun H₀ H O σ ds hd i Q o e q=>?_⟩;unfold soP at e;obtain⟨d,h1,e⟩:=bnd e;cases d<;>first | (cases e;done) | skip
 cases e;refine hf H₀ H O σ ds hd _ _ o h1 fun v H' s r=>?_;rw[r.int'];exact⟨_,rfl,q H' s⟩
theorem aGq{K:Frag}{H:Hp}{O:aA->Prop}{xs:List V}{l:List D}{a b:Option Int}(rs:Reps K H O xs l):Reps K H O (cutV xs a b) (cutD l a b):=by
 unfold cutV cutD;rw[rs.length];exact(rs.drop _).take _
theorem yC{e:Expr}{lo hi:Option Expr}{f:FE}{gl gh:List Sl->Option (Option Int)}{p2 pos:Pos}(he:PVw X e f)(hl:POv X lo gl)(hh:POv X hi gh):PVf X (.Subscript e (.Slice lo hi none p2) pos) (sliA f gl gh):=by
 obtain⟨te,pe,he⟩:=he;obtain⟨tl,pl,hl⟩:=hl;obtain⟨th,ph,hh⟩:=hh;refine⟨_,QQ sl_list pe pl ph,fun H₀ H O σ ds hd l Q o e q=>?_⟩;unfold sliA at e;obtain⟨d,h1,e⟩:=bnd e;obtain⟨a,h2,e⟩:=bnd e;obtain⟨b,h3,e⟩:=bnd e;cases d<;>first | (cases e;done) | skip
 cases e;refine he H₀ H O σ ds hd _ _ o h1 fun v H1 s1 r1=>?_;refine hl H₀ H1 O σ ds hd _ _ (o.mono s1) h2 fun H2 s2=>?_;refine hh H₀ H2 O σ ds hd _ _ ((o.mono s1).mono s2) h3 fun H3 s3=>?_;obtain⟨a1,xs,rfl,hq,rs⟩:=((r1.mono s2).mono s3).seqL;refine⟨a1,xs,rfl,hq,fun p hp=>?_⟩;have ss:=(s1.trans s2).trans s3;refine q p _ _ (ss.trans (qP hp _)) (ss.free hp) qE ?_;exact((aGq rs).more hp).mono (qP hp _)
theorem kH{e:Expr}{f:FE}{p pos:Pos}(hm:X.mg "list" = none)(he:PVw X e f)(hg:Gl X "list":=by rfl)(hs:aL [e] X.env=[(false,bY e X.env)]:=by rfl):PVf X (.Call (.Name "list" p) [e] [] pos) (lisA f):=by
 obtain⟨te,pe,he⟩:=he;refine⟨_,BR ON hg hm (by decide +kernel) (jZ pe yW hs) (by decide) (by decide) hs rfl,fun H₀ H O σ ds hd l Q o e q=>?_⟩;unfold lisA at e;obtain⟨d,h1,e⟩:=bnd e;refine he H₀ H O σ ds hd _ _ o h1 fun v H1 s1 r1=>?_;cases d<;>first | (cases e;done) | skip
 . cases e;obtain⟨a1,xs,rfl,hq,rs⟩:=r1.seqT;refine⟨a1,xs,rfl,.inr hq,fun p hp=>?_⟩;exact q p _ _ (s1.trans (qP hp _)) (s1.free hp) qE ((rs.more hp).mono (qP hp _))
 . cases e;obtain⟨a1,xs,rfl,hq,rs⟩:=r1.seqL;refine⟨a1,xs,rfl,.inl hq,fun p hp=>?_⟩;exact q p _ _ (s1.trans (qP hp _)) (s1.free hp) qE ((rs.more hp).mono (qP hp _))
theorem cs_max:CallS X (fun xs H Q=>∃i j,xs=[.int i,.int j]/\Q (.int (if j>i then j else i)) H) mxD:=by
 intro H O vs l d Q ho r e q;unfold mxD at e
 split at e
 . cases e;cases r with
   | cons r1 rn =>
     cases rn with
     | cons r2 rm =>
       cases rm;exact⟨_,_,by rw[r1.int',r2.int'],q _ H (Same.refl _) (.int _)⟩
 . cases e
theorem cs_min:CallS X (fun xs H Q=>∃i j,xs=[.int i,.int j]/\Q (.int (if j<i then j else i)) H) mnD:=by
 intro H O vs l d Q ho r e q;unfold mnD at e
 split at e
 . cases e;cases r with
   | cons r1 rn =>
     cases rn with
     | cons r2 rm =>
       cases rm;exact⟨_,_,by rw[r1.int',r2.int'],q _ H (Same.refl _) (.int _)⟩
 . cases e
theorem pv_max2{p pos:Pos}{a b:Expr}{g:FA}(hc:X.calm=true)(hm:X.mg "max" = none)(ha:PAv X [a,b] g)(hg:Gl X "max":=by rfl)(he:aL [a,b] X.env=(false,bY a X.env)::aL [b] X.env:=by rfl)(hpl:(dB pos (aL [b] X.env)).any (·.1)=false:=by rfl) :
  PV X (.Call (.Name "max" p) [a,b] [] pos) (callB mxD g):=kB (aBg hc) cs_max hm (by decide +kernel) ha hg (by decide) (by decide) he hpl
theorem pv_min2{p pos:Pos}{a b:Expr}{g:FA}(hc:X.calm=true)(hm:X.mg "min" = none)(ha:PAv X [a,b] g)(hg:Gl X "min":=by rfl)(he:aL [a,b] X.env=(false,bY a X.env)::aL [b] X.env:=by rfl)(hpl:(dB pos (aL [b] X.env)).any (·.1)=false:=by rfl) :
  PV X (.Call (.Name "min" p) [a,b] [] pos) (callB mnD g):=kB (aBf hc) cs_min hm (by decide +kernel) ha hg (by decide) (by decide) he hpl
theorem DO{α β : Type}{xs:List α}{ys:List β}(h:xs.length=ys.length):xs.isEmpty=ys.isEmpty:=by
 cases xs<;>cases ys<;>simp_all
theorem PVn.t{e:Expr}{f:FE}(h:PVn X e f)(he:∀whole,KC e X.env whole=(do let v <- whole;kJ e.pos;gD [v] (truthy v)):=by intro _;rfl):PTv X e (testT f):=by
 obtain⟨t,ht,hf⟩:=h;refine⟨_,aEb ht he,fun H₀ H O σ ds hd k Q o e q=>?_⟩;unfold testT at e;obtain⟨d,h,e⟩:=bnd e;refine hf H₀ H O σ ds hd d _ o h fun v H' s r=>⟨k,?_,q H' s⟩
 cases d with
 |non=>cases e;cases r;exact rfl
 |bl b=>cases e;cases r;exact rfl
 |int i=>cases e;cases r;exact rfl
 | str x =>
   simp only[truD] at e
   split at e
   . rename_i hz;cases e;cases r;exact⟨hz,rfl⟩
   . cases e
 | tup l =>
   cases e;obtain⟨a,xs,rfl,hq,rs⟩:=WRep.seqT (.inl r);exact .inr (.inl ⟨xs,hq,by rw[DO rs.length]⟩)
 | lst l =>
   cases e;obtain⟨a,xs,rfl,hq,rs⟩:=WRep.seqL (.inl r);exact .inl ⟨xs,hq,by rw[DO rs.length]⟩
 |_=>cases e
theorem xH{st:Stmt}: PSv X st (fun _=>none):=⟨_,aEh,fun _ _ _ _ _ _ _ _ _ e _=>by cases e⟩
theorem WF(i:Nat){st:Stmt}{g:FS}(h:PSv X st g):PSv X st (fun ds=>g (relS i ds)):=by
 obtain⟨t,ht,hf⟩:=h;refine⟨t,ht,fun H₀ H O σ ds hd out E o e q=>?_⟩;have e:g (relS i ds)=some out:=e
 by_cases hs:∃l,ds[i]?=some (.own l)
 . obtain ⟨l, hl⟩ := hs;have e':relS i ds=ds.set i (.v (.lst l)):=by unfold relS; rw [hl]
   rw[e'] at e;obtain⟨O',o'⟩:=o.release hl;exact hf H₀ H O' σ _ hd out E o' e q
 . have e':relS i ds=ds:=by
    unfold relS
    split
    . rename_i l hl;exact(hs ⟨l,hl⟩).elim
    . rfl
   rw[e'] at e;exact hf H₀ H O σ ds hd out E o e q
theorem wL{tg e:Expr}{pos:Pos}{f:FE}{ga:D->List Sl->Option (List Sl)}(he:PV X e f)(hg:PGv X tg ga)(hs:VC [tg] e pos.line X.env=pure false:=by rfl)(hw:VD [tg] e X.env=pure none:=by rfl)(h1:(dM [tg] X.env).map (·.2)=[pK tg X.env]:=by rfl):PSv X (.Assign [tg] e pos) (asgG ga f):=by
 obtain⟨te,pe,he⟩:=he;obtain⟨tg',pg,hg⟩:=hg;refine⟨_,aEk pe pg hs hw h1,(3:)⟩;unfold asgG at e;obtain⟨d,h2,e⟩:=bnd e;cases h3:ga d ds with
 |none=>rw[h3] at e;cases e
 | some ds' =>
   rw[h3] at e;cases e;refine he H₀ H O σ ds hd d _ o h2 fun v H1 s1 r1=>?_;exact hg H₀ H1 O σ ds hd v d ds' _ (o.mono s1) r1 h3 fun σ' o'=>h σ' H1 O o'
theorem WG{i:Nat}{x:Str}{e:Expr}{pos p1 p2 p3:Pos}{fe:FA}(he:PVf X e fe)(hN:X.N[i]?=some x:=by rfl)(hv:Vis X.env.scope x:=by first | exact Or.inl rfl | exact Or.inr (Or.inl rfl) | exact Or.inr (Or.inr rfl))(hd:(x==("__debug__" : Str))=false:=by decide)(hcd:(x==("__classdict__" : Str))=false:=by decide)(hfew:((dB p3 (aL [e] X.env)).all (fun x=>!x.1)&&(iO p3 (eV [] X.env)).all (fun x=>x.1.isSome)
    && decide ([e].length+([]:List sV).length+(if ([]:List sV).isEmpty then 0 else 1)<30))=true:=by rfl)(hline:(p2.endLine==p3.line)=true:=by rfl)(hs:aL [e] X.env=(false,bY e X.env)::aL [] X.env:=by rfl)(hbase:eG (.Name x p1) "extend" X.env (bY (.Name x p1) X.env)=bY (.Name x p1) X.env:=by rfl)(hsw:dI (.Call (.Attribute (.Name x p1) "extend" p2) [e] [] p3) none pos.line X.env=pure false:=by rfl) :
  PSv X (.Expr (.Call (.Attribute (.Name x p1) "extend" p2) [e] [] p3) pos) (extG i fe):=by
 obtain⟨te,pe,he⟩:=he;refine⟨_,xY (aEr iS PySem.F.slot_list_extend PySem.F.type_list_extend ZZ (xW hN hv hd hcd) (jZ pe yW hs) hbase hfew hline hs rfl) hsw,(3:)⟩;unfold extG at e;cases hsl:ds[i]? with
 |none=>rw[hsl] at e;cases e
 | some s =>
   rw[hsl] at e;cases s with
   |v d'=>cases e
   |no=>cases e
   |exc _=>cases e
   |fr _=>cases e
   |ob _ _=>cases e
   | own l =>
     simp only at e;obtain⟨d,h1,e⟩:=bnd e
     split at e
     . rename_i hl;cases e;obtain⟨a,xs,q1,q2,q3,q4⟩:=o.readO hsl;refine⟨.ref a,q1,.inl ⟨rfl,xs,SqL.of q3⟩,?_⟩;refine he H₀ H O σ ds hd d _ o h1 fun b ys H1 s1 hn hb r1=>?_;refine⟨a,b,xs,ys,rfl,rfl,s1 _ _ q3,hb,by rw[q4.length,r1.length];exact hl,?_⟩;exact h _ _ _ ((o.mono s1).modify hsl q1 ((q4.mono s1).append (r1.less fun a z=>.inr z)))
     . cases e
theorem BO{i:Nat}{y:Str}{py spos:Pos}{scope:Scope}{NY:List Str}{mp:List (Option Nat)}{tg iter elt:Expr}{ifs:List Expr}{pos:Pos}{fi:FA}{ga:D->List Sl->Option (List Sl)}{tt:FT}{fe:FE}(hN:X.N.Nodup)(S:CompScope X scope NY mp)(hc:X.calm=true)(hi:PIv X tg iter fi)(hg:∀c,PGv (jN X scope NY c) tg ga)(ht:∀c,PFv (jN X scope NY c) ifs tt)(he:∀c,PV (jN X scope NY c) elt fe)(hy:X.N[i]?=some y:=by rfl)(hl:X.env.scope.names.lookup y=some .local:=by rfl)(hsw:dI (.ListComp elt [⟨tg,iter,ifs,0⟩] scope pos) (some (.Name y py)) spos.line X.env=pure true:=by rfl)(hs:∀x,eJ iter X.env x=pure x:=by intro _;rfl):PSv X (.Assign [.Name y py] (.ListComp elt [⟨tg,iter,ifs,0⟩] scope pos) spos) (jU i (mkL (compG fi mp ga tt fe))):=by
 obtain⟨wi,pi,hi⟩:=hi;refine⟨_,WI hN hy hl hsw S hc pi (fun c=>(Classical.choose_spec (hg c)).1) (fun c=>(Classical.choose_spec (ht c)).1) (fun c=>(Classical.choose_spec (he c)).1) hs,(3:)⟩;unfold jU mkL at e;cases h1:compG fi mp ga tt fe ds with
 |none=>rw[h1] at e;cases e
 | some l =>
   rw[h1] at e;cases e
   exact IK hi (fun c=>(Classical.choose_spec (hg c)).2) (fun c=>(Classical.choose_spec (ht c)).2) (fun c=>(Classical.choose_spec (he c)).2) H₀ H O σ ds hd l _ o h1 fun a xs H' s hn he r =>
    h _ _ _ ((o.mono s).set (.lst (o.free hn) (.inl he) (r.less fun _ z=>.inr z)))
end
end FL
namespace L2
open PySem PySem.Spec PyProof.Rows
section
variable{X:Cx}
end
end L2
namespace Att
open PySem PySem.W PySem.Calls PyProof.Rows
theorem DP:∀{ns:List Int} {b:Nat},WData.weightAll (ns.map WData.int)<=b->∀c∈ns,Builtin.Int.intBits c<=b
 |[],_,_=>fun c hc=>by cases hc
 | n :: r, b, h => fun c hc => by
   simp only[aO,WData.weightAll,WData.weight] at h;rcases aD.mp hc with rfl | hc
   . unfold Builtin.Int.intBits;omega
   . exact DP (ns:=r) (b:=b) (by omega) c hc
theorem attach_callB{l:OpenLaw}{n:Nat}{q:bG}{loose:List Str}{XP:(Str->Option aB)->Heap->Prop}{YP:bU->Heap->Prop}{d:DefRec}(hn:l.most=some n)(hdf:d.params.defaults=[])(call:∀(w:bU) (s₀ s₁ : aE) (mg mb:Str->Option aB) (fa:aA) (o:Obj) (pm cd doc:aB) (a:aA) (vs:List aB) (ns:List Int),
    Ground q loose [] XP w s₀ mg mb s₁.heap->YP w s₁.heap →
    s₁.heap.get? fa=some o->o.data=.func (docDef d.name d.params d.body d.scope pm cd doc)->s₁.heap.CodeRec cd d.name->mg d.name=some (.ref fa) →
    s₁.heap.get? a=some { cls:=.type "list",data:=.seq vs.toArray }->BI vs ns->ns.length<=n->(∀c∈ns,Builtin.Int.intBits c<=1048576)->s₁.gens=#[] →
    sT (bM l.prog w) IV (.call (.ref fa) ⟨[.ref a],[]⟩) (fun r s'=>r=.ok (.ret (.bool true))/\OldK s₁.heap s'.heap/\s'.os=s₁.os/\sW s'.gens) s₁) :
  WalkO q loose XP YP l.row.toRowW d [] (fun f vs=>PySem.call f vs):=by
 intro w s₀ s₁ mg mb G Y fa o pm cd doc dV kV ho hd hcd hD hmg hg args vals as hpre hlay hrd hwl hlo;obtain rfl:dV=.none:=Dflts.none hD hdf;obtain rfl:kV=.none:=Dflts.noKw hD;obtain⟨a,vs,ns,rfl,rfl,hobj,hints,hlen⟩:=YY hn hpre hwl
 have hb:∀c∈ns,Builtin.Int.intBits c<=1048576:=by
  have h1:=(layableW_iff.mp (layW_cons hlay).1).2.2;simp only[WData.weight] at h1;exact DP (cL h1 (by decide))
 refine enter_call (IU (call w s₀ s₁ mg mb fa o pm cd doc a vs ns G Y ho (fd_plain hd) hcd hmg hobj hints hlen hb hg) fun r s' hq=>?_);obtain⟨rfl,h2,h3,h4⟩:=hq;exact⟨.inl ⟨.bool true,.bool true,[],rfl,fun _=>rfl,.bool true,ZI l _,fun _=>⟨List.Pairwise.nil,fun _ hm=>(nomatch hm)⟩⟩,h2,h3,h4⟩
end Att
namespace FL
open PySem PySem.Spec PyProof.Rows L2
noncomputable def TH(K:Frag)(n:Nat):Sp:=fun vs H Q _=>∃(a:aA) (ns:List Int),vs=[.ref a]/\SqL K H a (ns.map V.int)/\ns.length<=n/\(∀c∈ns,Builtin.Int.intBits c<=1048576)/\∀H',Q (.bl true) H'
theorem law_ofB{P:bG}{w:bU}{K:Frag}{mg:Str->Option aB}{base:Heap}{k:Nat}{f:aA}{fd:aK}{x:Str}{n:Nat}{F:List D->Option Ret}(Fn:FnOk P w K mg base CX0 k f fd [x] (spF K 1 F))(h:∀ns:List Int,ns.length<=n->(∀c∈ns,Builtin.Int.intBits c<=1048576)->F [.lst (ns.map D.int)]=some (.val (.bl true))):FnOk P w K mg base CX0 k f fd [x] (TH K n):=by
 refine Fn.imp fun vs H Q E hq=>?_;obtain⟨a,ns,rfl,hS,hl,hb,q⟩:=hq;refine⟨rfl,[.lst (ns.map D.int)],.val (.bl true),.cons ?_ .nil,h ns hl hb,fun v H' s r=>?_⟩
 . rcases hS with hS | hS
   . exact .lst (fun z=>z.elim) hS (Reps.ints ns)
   . exact .lstK hS (Reps.ints ns)
 . cases r;exact q H'
open PySem.W (tabIn CodeHd tabObj noTabs tab_of) in
inductive TabL(K:Frag)(q:bG):List Str->List (Str×aA×aA)->Prop
 |nil:TabL K q [] []
 |yes {x:Str} {xs:List Str} {c P:aA} {tl:List (Str×aA×aA)} (h:iD K x=some (c,P)) (r:((recsOf q).find? (fun e=>e.name==x)).isSome=true) (ap:(tl.all fun p=>p.2.2 != P)=true) (t:TabL K q xs tl):TabL K q (x::xs) ((x,c,P)::tl)
 |no {x:Str} {xs:List Str} {tl:List (Str×aA×aA)} (h:iD K x=none) (t:TabL K q xs tl):TabL K q (x::xs) tl
theorem tabL_no{K:Frag}{q:bG}{x:Str}{xs:List Str}{tl:List (Str×aA×aA)}(h:aT K aP x=some none)(t:TabL K q xs tl):TabL K q (x::xs) tl:=.no (by unfold iD;rw[h]) t
theorem tabL_yes{K:Frag}{q:bG}{x:Str}{xs:List Str}{c P f:aA}{fd:aK}{oc oc':aB}{od od':Option aA}{sl sl':Array (Option aB)}{vs:Array aB}{tl:List (Str×aA×aA)}(h1:aT K aP x=some (some (.ref f)))(h2:K.lookup f=some ⟨oc,od,.func fd,sl⟩)(h3:fd.code=.ref c)(h4:K.lookup c=some ⟨oc',od',.fields vs,sl'⟩)(h5:(vs[11]? : Option aB)=some (.ref P))(r:((recsOf q).find? (fun e=>e.name==x)).isSome=true)(t:TabL K q xs tl)(ap:(tl.all fun p=>p.2.2 != P)=true):TabL K q (x::xs) ((x,c,P)::tl):=
 .yes (by unfold iD;simp only[h1,h2,h3,h4,h5]) r ap t
section
variable{K:Frag}{q:bG}{xs:List Str}{tl:List (Str×aA×aA)}
theorem TabL.get(h:TabL K q xs tl):∀{x:Str} {c P:aA},x∈xs->iD K x=some (c,P)->(x,c,P)∈tl:=by
 induction h with
 |nil=>intro x c P hx;cases hx
 | yes h r ap t ih =>
   intro x c P hx ht;rcases aD.mp hx with e | e
   . subst e;rw[h] at ht;cases ht;exact aN
   . exact aG _ (ih e ht)
 | no h t ih =>
   intro x c P hx ht;rcases aD.mp hx with e | e
   . subst e;rw[h] at ht;cases ht
   . exact ih e ht
theorem TabL.fact(h:TabL K q xs tl):∀p∈tl,iD K p.1=some (p.2.1,p.2.2)/\((recsOf q).find? (fun e=>e.name==p.1)).isSome=true:=by
 induction h with
 |nil=>intro p hp;cases hp
 | yes h r ap t ih =>
   intro p hp;rcases aD.mp hp with e | e
   . subst e;exact⟨h,r⟩
   . exact ih p e
 |no h t ih=>exact ih
noncomputable def tabH(K:Frag)(tl:List (Str×aA×aA)):Hp:=fun b=>(tl.find? fun p=>p.2.2==b).map fun p=>.tbl (uD K p.1)
theorem ER{b:aA}{u:HO}(e:tabH K tl b=some u):∃p∈tl,b=p.2.2/\u=.tbl (uD K p.1):=by
 unfold tabH at e;obtain⟨p,h,rfl⟩:=mpd e;exact⟨p,iE h,(beq_iff_eq.mp (rO (p:=fun p:Str×aA×aA=>p.2.2==b) h)).symm,rfl⟩
theorem TabL.at(h:TabL K q xs tl):∀p∈tl,tabH K tl p.2.2=some (.tbl (uD K p.1)):=by
 induction h with
 |nil=>intro p hp;cases hp
 | yes h r ap t ih =>
   intro p hp;rename_i x xs c P tl;unfold tabH;rcases aD.mp hp with e | e
   . subst e;simp
   . have:(P==p.2.2)=false:=by
      have:=pY.mp ap p e;simp only[bne_iff_ne,ne_eq] at this;exact beq_eq_false_iff_ne.mpr (Ne.symm this)
     rw[eU,this];exact ih p e
 |no h t ih=>exact ih
end
theorem no_cls{K:Frag}{h:Heap}{b:aA}{o:Obj}{ps:Array aB}(X:K.In h)(hK:EK K=true)(e:K.lookup b=some o)(hb:h.get? b=some (EJ ps)):False:=by
 have q:=X b o e;rw[hb] at q;cases q;have h2:=pY.mp hK (b,_) (PySem.W.mem_of_lookupK e);exact absurd (show false=true from h2) cV
theorem aAj{P:bG}{w:bU}{K:Frag}{q:bG}{loose:List Str}{mean:ExcName->Option aB}{mg mb:Str->Option aB}{k:Nat}{fa a:aA}{fd:aK}{x:Str}{sp:Sp}{s₁ : aE}{vs:List aB}{ns:List Int}{tl:List (Str×aA×aA)}(KX:K.In s₁.heap)(T:Top q loose mean mg mb s₁.heap)(hT:TabL K q makers tl)(hK:EK K=true)(hg:s₁.gens=#[])(ha:s₁.heap.get? a=some { cls:=.type "list",data:=.seq vs.toArray })(hi:BI vs ns)(hl:ns.length<=sizeLine)(hr:Room k IV)(F:∀base:Heap,K.In base->base.Ns aP mg->FnOk P w K mg base CX0 k fa fd [x] sp)(hbind:∀(s:aE) (u:aB),aBt s fd ⟨[u],[]⟩ [(x,u)])(hsp:∀H:Hp,SqL K H a (ns.map V.int)->sp [.ref a] H (fun v _=>v=.bl true) fun _ _ _=>False) :
  sT (bM P w) IV (.call (.ref fa) ⟨[.ref a],[]⟩) (fun r s'=>r=.ok (.ret (.bool true))/\OldK s₁.heap s'.heap/\s'.os=s₁.os/\sW s'.gens) s₁:=by
 have rv:=KR hi
 have tf:∀p∈tl,aBp s₁.heap p.2.1 p.2.2/\s₁.heap.get? p.2.2=some (EJ #[]):=fun p hp=>by
  obtain⟨h1,h2⟩:=hT.fact p hp;obtain⟨d,hd⟩:=JC.mp h2;exact PySem.W.tab_of T KX hd h1
 have core:∀H:Hp,SqL K H a (ns.map V.int)->L2.HOk P w H s₁.heap->(∀b u,H b=some u->(b=a/\K.lookup a=none/\∃o xs,u=.frz o (.lst xs))\/∃p∈tl,b=p.2.2/\u=.tbl (uD K p.1))->(∀p∈tl,H p.2.2=some (.tbl (uD K p.1))) →
   sT (bM P w) IV (.call (.ref fa) ⟨[.ref a],[]⟩) (fun r s'=>r=.ok (.ret (.bool true))/\OldK s₁.heap s'.heap/\s'.os=s₁.os/\sW s'.gens) s₁:=by
  intro H hS hok hA hP
  have free_of:∀{b:aA} {o:Obj},s₁.heap.get? b=some o->(∀its n,o.data≠.seq its n)->o.data≠.fields #[]->H b=none:=fun {b o} e n1 n2=>by
   cases qb:H b with
   |none=>rfl
   | some u =>
     rcases hA b u qb with⟨rfl,_,_⟩ | ⟨p,hp,rfl,_⟩
     . rw[ha] at e;cases e;exact(n1 _ _ rfl).elim
     . rw[(tf p hp).2] at e;cases e;exact(n2 rfl).elim
  have base_of:∀{b:aA} {o:Obj},s₁.heap.get? b=some o->(∀its n,o.data≠.seq its n)->o.data≠.fields #[]->(hidT s₁.heap H).get? b=some o:=fun e n1 n2=>RO e (free_of e n1 n2);have nsK:∀{b:aA} {m:Str->Option aB},s₁.heap.Ns b m->(hidT s₁.heap H).Ns b m:=fun {b m} ⟨o,es,ep,e,d,r⟩=>⟨o,es,ep,base_of e (fun _ _ z=>by rw[d] at z;cases z) (fun z=>by rw[d] at z;cases z),d,r⟩
  have hKb:K.In (hidT s₁.heap H):=fun b o e=>RO (KX b o e) (by
   cases qb:H b with
   |none=>rfl
   | some u =>
     rcases hA b u qb with⟨rfl,z,_⟩ | ⟨p,hp,rfl,_⟩
     . rw[z] at e;cases e
     . exact(no_cls KX hK e (tf p hp).2).elim)
  have hM:Mod K mg (hidT s₁.heap H):=⟨hKb,nsK T.g,⟨mb,nsK T.b,T.builtins⟩,let ⟨mc,h1,h2⟩:=T.nolimit;⟨mc,nsK h1,h2⟩⟩
  have hTab:TabsK K mg (hidT s₁.heap H) H:=by
   refine⟨?_,fun y c P' hy ht=>?_⟩
   . obtain⟨bm, ob, b1, b2, b3, b4, b5, b6⟩ := T.bmain;exact⟨bm,ob,b1,b2,base_of b3 (fun _ _ z=>by rw[b6] at z;cases z) (fun z=>by rw[b6] at z;cases z),b4,b5,b6⟩
   . have hm := hT.get hy ht;refine⟨?_,hP _ hm⟩;obtain⟨o,ws,file,tf',flags,tg,inF,text,tt,e1,r1,r2,r3,rest⟩:=(tf _ hm).1;refine⟨o,ws,file,tf',flags,tg,inF,text,tt,base_of e1 (fun _ _ z=>by rw[r2] at z;cases z) (fun z=>?_),r1,r2,r3,rest⟩;rw[r2] at z;cases z;cases r3
  have e0:Env0 P w K mg (hidT s₁.heap H) IV [] s₁ H:=⟨rfl,hM,fun b o e=>of_hidT e,⟨lH (aAr _ _),hTab⟩,trivial,fun b hb=>absurd (show b∈([]:List aA) from hb) (by simp),hok,.of_eq hg⟩
  refine IU ((F _ hKb (nsK T.g)).run IV [] s₁ H ⟨[.ref a],[]⟩ [.ref a] [.ref a] _ _ hr e0 (hbind s₁ (.ref a)) (.cons rfl .nil) (hsp H hS)) fun r s' h=>?_;cases r with
  |error e=>exact False.elim h
  | ok fl =>
    cases fl with
    |next=>exact False.elim h
    |brk=>exact False.elim h
    |cont=>exact False.elim h
    | ret u =>
      obtain⟨v,H',os,bare,un,hok',r',hv⟩:=h;have hv':v=.bl true:=hv;subst hv';obtain rfl:u=aB.bool true:=r';refine⟨rfl,⟨fun b o e=>?_,fun b o e=>un.there b o e (by simp)⟩,os,bare⟩;cases qb:H b with
      |none=>exact .inl (un.keep b o e qb (by intro z;exact absurd (show b∈([]:List aA) from z) (by simp)) (by simp))
      | some u =>
        rcases hA b u qb with⟨_,_,ob,xs,rfl⟩ | ⟨p,hp,rfl,rfl⟩
        . obtain⟨e1, _⟩ := hok b _ qb;obtain⟨e2,_⟩:=hok' b _ (un.frzs b ob _ qb);rw[e] at e1;cases e1;exact .inl e2
        . have t2 := (tf p hp).2;rw[e] at t2;cases t2;obtain⟨ps,e2,_⟩:=hok' _ _ (un.tbls _ _ qb);exact .inr (.inl ⟨((tf p hp).1.tab (tf p hp).2).isCodeTable,rfl,#[],ps,rfl,by rw[Array.empty_append];exact e2⟩)
 have tabOk:∀(H:Hp) (p:Str×aA×aA),p∈tl->ObjOk P w H s₁.heap p.2.2 (.tbl (uD K p.1)):=fun H p hp=>⟨#[],(tf p hp).2,trivial,fun pos v z=>by cases z⟩
 cases hk:K.lookup a with
 | some o =>
   have e:=KX a o hk;rw[ha] at e;cases e;refine core (tabH K tl) (.inr ⟨_,vs.toArray,_,hk,rfl,rfl,rfl,by rw[aZ,hi.length];exact hl,by simpa using rv⟩) (fun b u z=>?_) (fun b u z=>.inr (ER z)) fun p hp=>hT.at p hp;obtain⟨p,hp,rfl,rfl⟩:=ER z;exact tabOk _ p hp
 | none =>
   have na:∀p∈tl,p.2.2≠a:=fun p hp z=>by
    have:=(tf p hp).2;rw[z,ha] at this;cases this
   refine core (upd (tabH K tl) a (.frz { cls:=.type "list",data:=.seq vs.toArray } (.lst (ns.map V.int)))) (.inl (.inr ⟨_,qE⟩)) (fun b u z=>?_) (fun b u z=>?_) fun p hp=>by rw[upd_ne (na p hp)];exact hT.at p hp
   . by_cases hb : b = a
     . subst hb;rw[qE] at z;cases z;exact⟨ha,by rw[aS];exact hl,vs,_,rv,ha⟩
     . rw[upd_ne hb] at z;obtain⟨p,hp,rfl,rfl⟩:=ER z;exact tabOk _ p hp
   . by_cases hb : b = a
     . subst hb;rw[qE] at z;cases z;exact .inl ⟨rfl,hk,_,_,rfl⟩
     . rw[upd_ne hb] at z;exact .inr (ER z)
theorem walkB{l:YL}{q:bG}{loose:List Str}{XP:(Str->Option aB)->Heap->Prop}{YP:bU->Heap->Prop}{d:DefRec}{K:Params->aM}{k:Nat}{tl:List (Str×aA×aA)}(hn:l.most=some 63)(hdf:d.params.defaults=[])(hr:Room k IV)(hY:∀(w:bU) (h:Heap),YP w h->(K w.params).In h)(hK:∀w:bU,EK (K w.params)=true)(hT:∀w:bU,TabL (K w.params) q makers tl)(F:∀(w:bU) (mg:Str->Option aB) (fa:aA) (h:Heap),(K w.params).In h->h.Ns aP mg->mg d.name=some (.ref fa) →
    ∃fd:aK,(∀(s:aE) (u:aB),aBt s fd ⟨[u],[]⟩ [("_law_script",u)])/\∀base:Heap,(K w.params).In base->base.Ns aP mg->FnOk l.prog w (K w.params) mg base CX0 k fa fd ["_law_script"] (TH (K w.params) 63)) :
  PySem.W.WalkO q loose XP YP l.row.toRowW d [] (fun f vs=>PySem.call f vs):=by
 refine Att.attach_callB hn hdf fun w s₀ s₁ mg mb fa o pm cd doc a vs ns G Y ho hd hcd hmg hobj hints hlen hb hg=>?_;have KX:=hY w _ Y;obtain⟨fd,hbd,hF⟩:=F w mg fa _ KX G.T.g hmg;exact aAj KX G.T (hT w) (hK w) hg hobj hints (cL hlen (by decide)) hr hF hbd fun H hS=>⟨a,ns,rfl,hS,hlen,hb,fun _=>rfl⟩
structure Cal(P:bG)(w:bU)(K:Frag)(mg:Str->Option aB)(base:Heap)(x:Str)(k n:Nat)(F:List D->Option Ret):Prop where
 ex:∃(f:aA) (fd:aK) (ps:List Str),FnOk P w K mg base CX0 k f fd ps (spF K n F)/\Binds K fd ps []/\bK K (.ref f)=true/\mg x=some (.ref f)
section
variable{X:Cx}
section
variable{k j:Nat}{n:Nat}{F:List D->Option Ret}{x:Str}{p pos:Pos}{e:Expr}{es:List Expr}{g:FA}
theorem zO(C:Cal X.prog X.w X.K X.mg X.base x k n F)(hr:Room j X.A)(ha:PAn X (e::es) g)(hj:k<=j:=by decide)(hg:Gl X x:=by rfl)(hdb:(x==("__debug__" : Str))=false:=by decide)(he:aL (e::es) X.env=(false,bY e X.env)::aL es X.env:=by rfl)(hpl:(dB pos (aL es X.env)).any (·.1)=false:=by rfl) :
  PV X (.Call (.Name x p) (e::es) [] pos) (qG n F g):=by
 obtain⟨f,fd,ps,Fn,hb,hk,hm⟩:=C.ex;exact aDs Fn (hr.mono hj) hm hk hb ha hg hdb he hpl
theorem yR(C:Cal X.prog X.w X.K X.mg X.base x k n F)(hr:Room j X.A)(ha:PAn X (e::es) g)(hj:k<=j:=by decide)(hg:Gl X x:=by rfl)(hdb:(x==("__debug__" : Str))=false:=by decide)(he:aL (e::es) X.env=(false,bY e X.env)::aL es X.env:=by rfl)(hpl:(dB pos (aL es X.env)).any (·.1)=false:=by rfl) :
  PVf X (.Call (.Name x p) (e::es) [] pos) (vV n F g):=by
 obtain⟨f,fd,ps,Fn,hb,hk,hm⟩:=C.ex;exact ZD Fn (hr.mono hj) hm hk hb ha hg hdb he hpl
end
end
section
variable{X:Cx}{a b:Expr}{fa fb:FE}{pos:Pos}
theorem pv_lt(ha:PVw X a fa)(hb:PVw X b fb):PV X (.Compare a [.Lt] [b] pos) (zI ltD fa fb):=TQ aEv xX ha hb (nB _)
theorem aDp(ha:PVw X a fa)(hb:PVw X b fb):PV X (.Compare a [.LtE] [b] pos) (zI leD fa fb):=TQ aEw xX ha hb (nB _)
theorem wN(ha:PVw X a fa)(hb:PVw X b fb):PTv X (.Compare a [.Lt] [b] pos) (zP (zI ltD fa fb)):=EU aEv xX ha hb (nB _)
theorem pt_le(ha:PVw X a fa)(hb:PVw X b fb):PTv X (.Compare a [.LtE] [b] pos) (zP (zI leD fa fb)):=EU aEw xX ha hb (nB _)
theorem GN(ha:PVw X a fa)(hb:PVw X b fb):PTv X (.Compare a [.Gt] [b] pos) (zP (zI gtD fa fb)):=EU op_gt xX ha hb (nB _)
theorem aEc(ha:PVw X a fa)(hb:PVw X b fb):PTv X (.Compare a [.GtE] [b] pos) (zP (zI geD fa fb)):=EU op_ge xX ha hb (nB _)
theorem qD(ha:PVw X a fa)(hb:PVw X b fb):PV X (.BinOp a .Add b pos) (zI yF fa fb):=BM op_addU os_add ha hb
theorem jK(ha:PVw X a fa)(hb:PVw X b fb):PV X (.BinOp a .Sub b pos) (zI subD fa fb):=BM op_sub os_sub ha hb
theorem jB(ha:PVw X a fa)(hb:PVw X b fb):PV X (.BinOp a .Mult b pos) (zI yV fa fb):=BM op_mulB os_mul ha hb
theorem jA(ha:PVw X a fa)(hb:PVw X b fb):PV X (.BinOp a .Pow b pos) (zI powD fa fb):=BM op_powB os_pow ha hb
theorem zX(ha:PVw X a fa)(hb:PVw X b fb):PV X (.BinOp a .Mod b pos) (zI jF fa fb):=BM op_mod os_mod ha hb
theorem qM(ha:PVw X a fa)(hb:PVw X b fb):PV X (.BinOp a .FloorDiv b pos) (zI qW fa fb):=BM aEy os_fdiv ha hb
end
end FL
namespace L2
open PySem PySem.Spec PyProof.Rows
section
variable{X:Cx}{tg:Expr}
theorem pi_seq{l:Expr}{tl:TE}(hl:PE X l tl):PI X tg l (fun σ H R=>iList X.K tl σ H R\/iTup X.K tl σ H R):=by
 intro aC s σ H R I h;rcases h with h | h
 . exact pi_list hl aC s σ H R I h
 . exact pi_tup hl aC s σ H R I h
end
end L2
namespace FL
open PySem PySem.Spec PyProof.Rows L2
section
variable{X:Cx}
theorem jI{tg e:Expr}{f:FE}(h:PV X e f):PIv X tg e (viaA f asLT):=by
 obtain⟨t,ht,hf⟩:=h;refine⟨_,pi_seq ht,fun H₀ H O σ ds hd items R o e q=>?_⟩;unfold viaA at e;obtain⟨d,h1,e⟩:=bnd e;cases d with
 | lst l =>
   cases e;refine .inl (hf H₀ H O σ ds hd _ _ o h1 fun v H' s r=>?_);obtain⟨a,xs,rfl,hs,rs⟩:=WRep.seqL (.inl r);exact⟨a,rfl,⟨xs,hs⟩,q _ (.ref a,.lst items) H' s r aCo⟩
 | tup l =>
   cases e;refine .inr (hf H₀ H O σ ds hd _ _ o h1 fun v H' s r=>?_);obtain⟨a,xs,rfl,hs,rs⟩:=WRep.seqT (.inl r);exact⟨a,rfl,⟨xs,hs⟩,q _ (.ref a,.tup items) H' s r wlk_tup⟩
 |_=>cases e
end
end FL
namespace L2
open PySem PySem.Spec PyProof.Rows
section
variable{X:Cx}{tg:Expr}
noncomputable def Itv(K:aM)(a:aA)(n:Nat):It :=
 ⟨fun i H=>∃xs x,SqL K H a xs/\xs.length=n/\i<n/\xs[n-1-i]?=some x,fun i H x H'=>H'=H/\∀xs,SqL K H a xs->xs[n-1-i]?=some x,fun i _=>i=n⟩
theorem aCr{P:bG}{w:bU}{K:aM}{tg:Expr}(a it:aA)(n:Nat):Turn P w K tg (Itv K a n) [it] it (fun i h=>i<=n/\h.IsRevIter it a ((n:Int)-1-(i:Int))) where
 mem:=by simp
 obj:=fun i h st b hb=>by
  have e:b=it:=by simpa using hb
  subst e;obtain⟨_,o,e,c,d⟩:=st;exact⟨o,e,fun v z=>by rw[d] at z;cases z⟩
 keep:=fun i h h' st k=>⟨st.1,st.2.at fun o e=>k it (by simp) o e⟩
 item:=by
  intro X hP hw hK hc i aC s σ H E I hf st hg;subst hP hw hK;obtain⟨xs,x,hq,hn,hi,hx⟩:=hg;obtain⟨its,rv,p,hz⟩:=I.list hq;obtain⟨u,hu,ru⟩:=rv.get hx;obtain⟨f0,f1,f2,f3,f4,f5⟩:=hf it (by simp);have e:(n:Int)-1-(i:Int)=((n-1-i:Nat):Int):=by omega
  have hit:=st.2;rw[e] at hit;refine wpAny_pyNext_rev_item hit p.isList (x:=u) (by simpa using hu) fun h' st' sb=>?_;have I1:Inv X aC σ H { s with heap:=h' }:=I.turned (t':=s.toks) (fun b o hb e=>(sb.2 b hb).trans e) f0 f1 f3 f4 f5;have e2:((n-1-i:Nat):Int)-1=(n:Int)-1-((i+1:Nat):Int):=by omega
  rw[e2] at st';obtain⟨o,eo,co,d⟩:=id st';exact⟨u,rfl,RQ (s:={ s with heap:=h' }) eo co d (by decide) ⟨x,H,I1,ru,⟨rfl,fun ys hy=>by rw[I.list_inj hy hq];exact hx⟩,⟨hi,st'⟩,fun b hb=>(hf b hb).1⟩⟩
 done:=by
  intro X hP hw hK hc i aC s σ H E I hf st hg;subst hP hw hK;have hg':i=n:=hg;subst hg';obtain⟨f0,f1,f2,f3,f4,f5⟩:=hf it (by simp);have e:(i:Int)-1-(i:Int)=-1:=by omega
  have hit:=st.2;rw[e] at hit;exact wpAny_pyNext_rev_end (I.ok.hd hc) hit fun h' eb=>⟨rfl,I.turned (t':=s.toks) (fun b o hb e=>eb b o hb e) f0 f1 f3 f4 f5⟩
 self:=fun _ _ _ _ _ st h=>AX st.2 h
def iRev(K:aM)(ta:TA):TI:=fun σ H R=>ta σ H fun vs H1=>∃a xs,vs=[.ref a]/\SqL K H1 a xs/\R (Itv K a xs.length) H1
theorem pi_rev{l:Expr}{ta:TA}{p pos:Pos}(hg:Gl X "reversed")(hm:X.mg "reversed" = none)(ha:PA X [l] ta)(hs:aL [l] X.env=[(false,bY l X.env)]:=by rfl):PI X tg (.Call (.Name "reversed" p) [l] [] pos) (iRev X.K ta):=by
 intro aC s σ H R I h;refine Call_ (uB I hg hm (show gJ "reversed" = some (.type "reversed") by decide +kernel) (eN (thn (ha pos aC s σ H _ I h) fun us s1 zq=>?_) hs rfl));obtain⟨vs,H1,I1,r1,q1⟩:=zq;obtain⟨a,xs,e,hq,q⟩:=q1;subst e;obtain⟨u,rfl,ru⟩:=vals1 r1;cases ru;obtain⟨its,rv,pl,hz⟩:=I1.list hq;have hlen:=rv.length;refine call_reversed_list pl.isList ?_;have hst:Heap.IsRevIter (s1.heap.push (EH a ((its.toArray.size:Int)-1))) s1.heap.objs.size a ((its.toArray.size:Int)-1):=⟨_,bD _ rfl,rfl,rfl⟩
 refine AX hst ?_;refine⟨s1.heap.objs.size,[s1.heap.objs.size],_,_,H1,rfl,I1.kept (t':=s1.toks) fun b o e=>aQ _ e,aCr a _ xs.length,⟨dP _,?_⟩,fun b hb=>?_,q⟩
 . have e1 : ((its.toArray.size : Nat) : Int) - 1 = (xs.length : Int) - 1 - ((0 : Nat) : Int) := by simp only [aZ]; omega
   show Heap.IsRevIter _ _ a ((xs.length:Int)-1-((0:Nat):Int));rw[<- e1];exact hst
 . have e : b = s1.heap.objs.size := by simpa using hb
   subst e;exact I1.fpOk (aU _) (I1.hok.fresh (aU _))
end
end L2
namespace FL
open PySem PySem.Spec PyProof.Rows L2
section
variable{X:Cx}
theorem wlk_rev{K:Frag}{a:aA}{l:List D}: Wlk K (Itv K a l.length) (.ref a,.lst l) l.reverse:=by
 intro H O _ r;obtain⟨b,xs,e,hs,rs⟩:=WRep.seqL (.inl r);cases e;have hlen:=rs.length;refine⟨fun i d hd=>?_,show _=l.length from cZ⟩
 have hi:i<l.length:=by
  have:=(aV.mp hd).1
  rwa [cZ] at this
 rw[mH hi] at hd;obtain⟨v,h1,h2⟩:=rs.get hd;refine⟨⟨xs,v,hs,hlen,hi,h1⟩,fun x H' y=>?_⟩;obtain⟨rfl,y⟩:=y;have:=y xs hs;rw[h1] at this;cases this;exact⟨Same.refl _,h2⟩
theorem WK{tg e:Expr}{p pos:Pos}{f:FE}(hc:True)(hm:X.mg "reversed" = none)(h:PV X e f)(hg:Gl X "reversed":=by rfl)(hs:aL [e] X.env=[(false,bY e X.env)]:=by rfl):PIv X tg (.Call (.Name "reversed" p) [e] [] pos) (revA f):=by
 obtain⟨t,ht,hf⟩:=zG h zS hs;refine⟨_,pi_rev hg hm ht hs,fun H₀ H O σ ds hd items R o e q=>?_⟩;unfold revA at e;obtain⟨d,h1,e⟩:=bnd e;cases d<;>first | (cases e;done) | skip
 rename_i l;cases e;refine hf H₀ H O σ ds hd [.lst l] _ o (by simp[zE,h1,zZ]) fun vs H' s r=>?_;cases r with
 | cons r1 rr =>
   cases rr;obtain⟨a,xs,rfl,hq,rs⟩:=WRep.seqL (.inl r1);refine⟨a,xs,rfl,hq,?_⟩;rw[rs.length];exact q _ (.ref a,.lst l) H' s r1 wlk_rev
theorem RN{K:Frag}{H:Hp}{O:aA->Prop}:∀{xs:List V} {l:List D} {bs:List Int},Reps K H O xs l->intsD l=some bs->xs=bs.map V.int
 |_,_,_,.nil,e=>by cases e;rfl
 | _, _, bs, .cons (d := d) h t, e => by
   cases d with
   | int b =>
     rename_i ds;simp only[intsD] at e;obtain⟨r,hr,rfl⟩:=mpd e;cases h;rw[RN t hr];rfl
   |_=>cases e
theorem QM{i:Nat}{x:Str}{e:Expr}{pos pos':Pos}{f:FE}(hN:X.N.Nodup)(he:PV X e f)(hi:X.N[i]?=some x:=by rfl)(hx:Loc X.env.scope x:=by first | exact Or.inl rfl | exact Or.inr rfl)(hf:X.fn x=true\/X.env.scope.names.lookup x=some .local:=by first | exact .inl rfl | exact .inr rfl):PSv X (.AugAssign (.Name x pos') .Add e pos) (augA i f):=by
 obtain⟨t,ht,hg⟩:=he;refine⟨_,aEj hN hi hx ht ip_add hf,(3:)⟩;unfold augA qL at e;cases hs:ds[i]? with
 |none=>rw[hs] at e;cases e
 | some sl =>
   rw[hs] at e;cases sl with
   |no=>cases e
   |exc _=>cases e
   |fr _=>cases e
   |ob _ _=>cases e
   |own l=>cases e
   | v dx =>
     simp only[aH] at e;obtain⟨dy,h1,e⟩:=bnd e;cases dx<;>first | (cases e;done) | skip
     cases dy<;>first | (cases e;done) | skip
     cases e;obtain⟨v,q1,q2⟩:=o.read hs;cases q2;refine⟨_,q1,hg H₀ H O σ ds hd _ _ o h1 fun v H' s r=>?_⟩;cases r;exact⟨_,_,rfl,rfl,h _ _ _ ((o.mono s).set (.int _))⟩
theorem ZG{op op':DS}{r r':R2}{opD opD':D->D->Option D}{a b c:Expr}{fa fb fc:FE}{pos:Pos}(ho:OpR X (dJ op) r)(hs:OpS X r opD)(ho':OpR X (dJ op') r')(hs':OpS X r' opD')(ha:PVw X a fa)(hb:PVw X b fb)(hc:PVw X c fc)(hm:lastMarks [op,op'] [b,c]=false:=by with_unfolding_all rfl):PTv X (.Compare a [op,op'] [b,c] pos) (zP (chain opD opD' fa fb fc)):=by
 obtain⟨ta,pa,ha⟩:=ha;obtain⟨tb,pb,hb⟩:=hb;obtain⟨tc,pc,hc⟩:=hc;refine⟨_,aEd ho ho' pa pb pc hm,fun H₀ H O σ ds hd k Q o e q=>?_⟩;unfold zP chain at e;cases h1:fa ds with
 |none=>rw[h1] at e;cases e
 | some dx =>
   cases h2:fb ds with
   |none=>rw[h1,h2] at e;cases e
   | some dy =>
     rw[h1,h2] at e;simp only[aH] at e;cases h3:opD dx dy with
     |none=>rw[h3] at e;cases e
     | some z =>
       rw[h3] at e;simp only[aH] at e;refine ha H₀ H O σ ds hd dx _ o h1 fun x H1 s1 r1=>?_;refine hb H₀ H1 O σ ds hd dy _ (o.mono s1) h2 fun y H2 s2 r2=>?_;have o2:=(o.mono s1).mono s2;refine hs H2 O x y dx dy z _ o2.dom (r1.mono s2) r2 h3 fun zv H3 s3 r3=>?_;cases z with
       | bl kk =>
         cases r3;cases kk with
         | false =>
           simp only[aH,isB,Option.some.injEq] at e;subst e;exact⟨false,rfl,iteF ⟨false,rfl,q H3 ((s1.trans s2).trans s3)⟩⟩
         | true =>
           simp only at e;cases h4:fc ds with
           |none=>rw[h4] at e;cases e
           | some dw =>
             rw[h4] at e;simp only[aH] at e;cases h5:opD' dy dw with
             |none=>rw[h5] at e;cases e
             | some zz =>
               rw[h5] at e;simp only[aH] at e;refine⟨true,rfl,iteT ?_⟩;refine hc H₀ H3 O σ ds hd dw _ (o2.mono s3) h4 fun wv H4 s4 r4=>?_;refine hs' H4 O y wv dy dw zz _ ((o2.mono s3).mono s4).dom ((r2.mono s3).mono s4) r4 h5 fun v H' s r=>?_;cases zz with
               |bl k2=>cases e;cases r;exact⟨_,rfl,q H' ((((s1.trans s2).trans s3).trans s4).trans s)⟩
               |_=>cases e
       |_=>cases e
end
end FL
namespace L2
open PySem PySem.Spec PyProof.Rows
section
variable{X:Cx}{aC:List (aA×Obj)}{σ : St}{H:Hp}{s:aE}{h':Heap}
theorem Inv.turnedS{t':Nat}{ch:List aA}(I:Inv X aC σ H s)(k:∀b o,b∉ch->s.heap.get? b=some o->h'.get? b=some o)(hf:∀b∈ch,FpOk X aC H b):Inv X aC σ H { s with heap:=h',toks:=t' }:=by
 have nit:∀b u,H b=some u->b∉ch:=fun b u e z=>by rw[(hf b z).1] at e;cases e
 refine I.step (g':=s.gens) (d':=s.drawn) (ch:=ch) (fun b hb=>?_) (fun b o _ _ hc e _=>k b o hc e) (fun b o _ _ hc e _=>⟨o.slots,k b o hc e⟩) (fun _ _ _ _ n=>n)
  (fun b o hc e=>⟨o,k b o hc e⟩) (fun _ _ e=>e) (fun _ _ _ e=>e) (fun _ _ e=>e) (fun m hm=>?_) (fun b u e=>?_) I.bare
 . obtain⟨f0, f1, f2, f3, f4, f5⟩ := hf b hb;exact⟨f3,f1,f4,f5⟩
 . obtain⟨o, es, ep, ho, r⟩ := hm;exact⟨o,es,ep,k _ o (fun z=>(hf _ z).2.1 rfl) ho,r⟩
 . refine (I.hok b u e).stay (fun c v hc q => k c v ?_ q) (fun _ q => q) fun _ _ q => q;rcases hc with z | z
   . rw[z];exact nit b u e
   . exact nit c _ z
end
section
variable{X:Cx}
end
end L2
namespace FL
open PySem PySem.Spec PyProof.Rows L2
section
variable{X:Cx}
section
variable{scope:Scope}{NY:List Str}{mp:List (Option Nat)}{tg iter elt:Expr}{ifs:List Expr}{pos:Pos}{fi:FA}{ga:D->List Sl->Option (List Sl)}{tt:FT}{fe:FE}
end
end
end FL
namespace L2
open PySem PySem.Spec PyProof.Rows
section
variable{X:Cx}
end
end L2
namespace FL
open PySem PySem.Spec PyProof.Rows L2
section
variable{X:Cx}
end
section
variable{X:Cx}
end
section
variable{X:Cx}
end
end FL
namespace L2
open PySem PySem.Spec PyProof.Rows
section
variable{X:Cx}
end
end L2
namespace FL
open PySem PySem.Spec PyProof.Rows L2
section
variable{X:Cx}
end
end FL
namespace L2
open PySem PySem.Spec PyProof.Rows
section
variable{X:Cx}
def MX(X:Cx)(m:Str)(k:Nat)(ta:TE)(t:TA):TE:=fun σ H Q=>ta σ H fun x H1=>∃(a C dx:aA) (fs:List (Str×V)) (f:aA) (fd:aK) (ps:List Str) (sp:Sp),x=.ref a/\H1 a=some (.ins C dx fs)/\fs.lookup m=none ∧
 Cls X.K C/\Meth X.K C m f/\FnOk X.prog X.w X.K X.mg X.base CX0 k f fd ps sp/\Binds X.K fd ps []/\t σ H1 fun vs H2=>sp (x::vs) H2 Q E0
theorem GR{k:Nat}{m:Str}{e o:Expr}{es:List Expr}{apos pos:Pos}{ta:TE}{t:TA}{pl:Sem Bool}(he:PE X o ta)(hr:Room k X.A)(ha:PA X (e::es) t)(hst:aL (e::es) X.env=(false,bY e X.env)::aL es X.env:=by rfl)(hpl:(dB pos (aL es X.env)).any (·.1)=false:=by rfl)(ht:bY (.Call (.Attribute o m apos) (e::es) [] pos) X.env=(do
    let ov <- bY o X.env
    kJ apos.atName
    let (f,first) <- gD [ov] (kK ov m pl)
    pJ pos f first (dB pos (aL (e::es) X.env)) (iO pos (eV [] X.env))):=by rfl) :
  PE X (.Call (.Attribute o m apos) (e::es) [] pos) (MX X m k ta t):=by
 intro aC s σ H Q I h;refine rB (pl:=pl) (thn (he aC s σ H _ I h) fun u s1 zq=>?_) ht;obtain⟨x,H1,I1,rx,a,C,dx,fs,f,fd,ps,sp,ex,ea,l,c,hm,F,hb,q⟩:=zq;subst ex;obtain rfl:u=aB.ref a:=rx;refine HH I1 ea c hm l ?_;refine nL (first:=[.ref a]) (h₀:=X.base) I.ok.mod.kin hm.kp (thn (ha pos aC s1 σ H1 _ I1 q) fun us s2 ⟨vs,H2,I2,r,q2⟩=>⟨I2.kIn,?_⟩) hst hpl;exact NC (us:=.ref a::us) (vs:=.ref a::vs) F hr hb .nil pass0 I2 (.cons rfl r) (by simpa using q2)
theorem LO{k:Nat}{m:Str}{o:Expr}{apos pos:Pos}{ta:TE}{pl:Sem Bool}(he:PE X o ta)(hr:Room k X.A)(ht:bY (.Call (.Attribute o m apos) [] [] pos) X.env=(do
    let ov <- bY o X.env
    kJ apos.atName
    let (f,first) <- gD [ov] (kK ov m pl)
    pJ pos f first (dB pos (aL [] X.env)) (iO pos (eV [] X.env))):=by rfl) :
  PE X (.Call (.Attribute o m apos) [] [] pos) (MX X m k ta tNil):=by
 intro aC s σ H Q I h;refine rB (pl:=pl) (thn (he aC s σ H _ I h) fun u s1 zq=>?_) ht;obtain⟨x,H1,I1,rx,a,C,dx,fs,f,fd,ps,sp,ex,ea,l,c,hm,F,hb,q⟩:=zq;subst ex;obtain rfl:u=aB.ref a:=rx;refine HH I1 ea c hm l ?_;exact OZ (first:=[.ref a]) I1.kIn hm.kp (NC (us:=[.ref a]) (vs:=[.ref a]) F hr hb .nil pass0 I1 (.cons rfl .nil) q)
structure Sup(K:aM)(C:aA)(m:Str)(f:aA):Prop where
 ex:∃mc,uG K (.ref C) "__getattribute__" = some (some (.builtin "type.__getattribute__"))/\YJ K C mc=true/\YK K (.ref C) mc m=some (.val (.ref f))/\bK K (.ref f)=true
theorem pe_sup{k:Nat}{x m:Str}{C f:aA}{fd:aK}{ps:List Str}{sp:Sp}{e:Expr}{es:List Expr}{p apos pos:Pos}{t:TA}{pl:Sem Bool}(hg:Gl X x)(hmg:X.mg x=some (.ref C))(hs:Sup X.K C m f)(F:FnOk X.prog X.w X.K X.mg X.base CX0 k f fd ps sp)(hr:Room k X.A)(hb:Binds X.K fd ps [])(ha:PA X (e::es) t)(hdb:(x==("__debug__" : Str))=false:=by decide)(hst:aL (e::es) X.env=(false,bY e X.env)::aL es X.env:=by rfl)(hpl:(dB pos (aL es X.env)).any (·.1)=false:=by rfl)(ht:bY (.Call (.Attribute (.Name x p) m apos) (e::es) [] pos) X.env=(do
    let ov <- bY (.Name x p) X.env
    kJ apos.atName
    let (f,first) <- gD [ov] (kK ov m pl)
    pJ pos f first (dB pos (aL (e::es) X.env)) (iO pos (eV [] X.env))):=by rfl) :
  PE X (.Call (.Attribute (.Name x p) m apos) (e::es) [] pos) (fun σ H Q=>t σ H fun vs H2=>sp vs H2 Q E0):=by
 intro aC s σ H Q I h;obtain⟨mc,h1,h2,h3,h4⟩:=hs.ex;refine rB (pl:=pl) (AN I hg hmg ?_ hdb) ht;refine PySem.W.method_cls I.kIn h1 (PySem.W.cls_value I.kIn h2 h3 rfl ?_);have I':=I.tok (s.toks+1);refine nL (first:=[]) (h₀:=X.base) I.ok.mod.kin h4 (thn (ha pos aC _ σ H _ I' h) fun us s2 ⟨vs,H2,I2,r,q2⟩=>⟨I2.kIn,?_⟩) hst hpl;exact NC (us:=us) (vs:=vs) F hr hb .nil pass0 I2 r (by simpa using q2)
end
end L2
namespace FL
open PySem PySem.Spec PyProof.Rows L2
section
variable{X:Cx}
theorem PVd.v{e:Expr}{f:FE}(h:PVd X e f):PV X e f:=by
 obtain⟨t,ht,hf⟩:=h;exact⟨t,ht,fun H₀ H O σ ds hd d Q o e q=>hf H₀ H O σ ds hd d Q o e fun v H' s r=>q v H' s (r.less fun a z=>o.old z)⟩
def FldOk(K:Frag)(f:Str)(ix:List (Nat×Nat)):Prop:=∀t i,ix.lookup t=some i->(cR t)[i]?=some f/\(∀j,j<i->(cR t)[j]?≠some f)/\∀C,aT K aP (dA t)=some (some (.ref C))->Cls K C/\NoAttr K C f
theorem jV{K:Frag}{f:Str}: FldOk K f []:=fun t i h=>by simp at h
theorem UP{K:Frag}{f:Str}{t i:Nat}{C:aA}{ix:List (Nat×Nat)}(a:aT K aP (dA t)=some (some (.ref C)))(c:Cls K C)(n:NoAttr K C f)(h1:(cR t)[i]?=some f)(h2:∀j,j<i->(cR t)[j]?≠some f)(h:FldOk K f ix):FldOk K f ((t,i)::ix):=by
 intro t' i' e
 by_cases q:t'=t
 . subst q;simp at e;subst e;refine⟨h1,h2,fun C' e'=>?_⟩;rw[a] at e';cases e';exact⟨c,n⟩
 . have : (t' == t) = false := by simpa using q
   rw[cG,this] at e;exact h t' i' e
theorem vN{f:Str}:∀{kvs:List (Str×V)} {i:Nat} {v:V},(kvs.map (·.1))[i]?=some f->(∀j,j<i->(kvs.map (·.1))[j]?≠some f)->(kvs.map (·.2))[i]?=some v->kvs.lookup f=some v
 |[],_,_,h,_,_=>by simp at h
 | (g, x) :: r, 0, v, h1, _, h3 => by
   simp at h1 h3;subst h1 h3;simp[List.lookup]
 | (g, x) :: r, i + 1, v, h1, h2, h3 => by
   have hg:g≠f:=fun z=>h2 0 (by omega) (by simp[z]);have:(f==g)=false:=by simpa using fun z=>hg z.symm
   rw[cG,this];exact vN (i:=i) (by simpa using h1) (fun j hj=>by have:=h2 (j+1) (by omega);simpa using this) (by simpa using h3)
theorem jG{e:Expr}{f:Str}{pos:Pos}{fe:FE}{ix:List (Nat×Nat)}(hF:FldOk X.K f ix)(he:PV X e fe)(hb:eG e f X.env (bY e X.env)=bY e X.env:=by rfl):PV X (.Attribute e f pos) (fldG ix fe):=by
 obtain⟨t,ht,hf⟩:=he;refine⟨_,aEp ht hb,fun H₀ H O σ ds hd d Q o e q=>?_⟩;unfold fldG at e;obtain⟨x,h,e⟩:=bnd e;refine hf H₀ H O σ ds hd x _ o h fun v H1 s1 r1=>?_;cases x with
 | ins t es =>
   simp only[fldD] at e;obtain⟨i,hl,e⟩:=bnd e;obtain⟨h1,h2,h3⟩:=hF t i hl;cases r1 with
   | @ins a C dx _ kvs _ c n ha ek rr =>
     obtain⟨cl,na⟩:=h3 C c;obtain⟨w,hw,rw'⟩:=rr.get e;refine⟨a,C,dx,kvs,w,rfl,ha,cl,na,vN (i:=i) (by rw[ek];exact h1) (by rw[ek];exact h2) hw,?_⟩;exact q w H1 s1 rw'
 |_=>simp[fldD] at e
structure MCal(P:bG)(w:bU)(K:Frag)(mg:Str->Option aB)(base:Heap)(m:Str)(k n:Nat)(cs:List Nat)(F:Nat->List D->Option Ret):Prop where
 no:∀t∈cs,m∉cR t
 of:∀t∈cs,∀C,aT K aP (dA t)=some (some (.ref C))->∃(f:aA) (fd:aK) (ps:List Str),Cls K C/\Meth K C m f/\FnOk P w K mg base CX0 k f fd ps (spF K (n+1) (F t))/\Binds K fd ps []
theorem xM{P:bG}{w:bU}{K:Frag}{mg:Str->Option aB}{base:Heap}{m:Str}{k n:Nat}{F:Nat->List D->Option Ret}: MCal P w K mg base m k n [] F:=⟨fun _ h=>(nomatch h),fun _ h=>(nomatch h)⟩
theorem aAc{P:bG}{w:bU}{K:Frag}{mg:Str->Option aB}{base:Heap}{m:Str}{j k n t:Nat}{cs:List Nat}{F:Nat->List D->Option Ret}{C f:aA}{fd:aK}{ps:List Str}(a:aT K aP (dA t)=some (some (.ref C)))(c:Cls K C)(hm:Meth K C m f)(G:FnOk P w K mg base CX0 j f fd ps (spF K (n+1) (F t)))(hj:j<=k)(b:Binds K fd ps [])(hn:m∉cR t)(h:MCal P w K mg base m k n cs F):MCal P w K mg base m k n (t::cs) F:=by
 refine⟨fun t' ht=>(aD.mp ht).elim (fun e=>e▸hn) (h.no t'),fun t' ht C' e=>?_⟩;rcases aD.mp ht with rfl | ht
 . rw[a] at e;cases e;exact⟨f,fd,ps,c,hm,G.mono hj,b⟩
 . exact h.of t' ht C' e
theorem yO{m:Str}:∀{kvs:List (Str×V)},m∉kvs.map (·.1)->kvs.lookup m=none
 |[],_=>rfl
 | (g, x) :: r, h => by
   have hg:(m==g)=false:=by simpa using fun z=>h (by simp[z])
   rw[cG,hg];exact yO fun z=>h (by simp at z ⊢;exact .inr z)
theorem RC{m:Str}{k n:Nat}{cs:List Nat}{F:Nat->List D->Option Ret}(M:MCal X.prog X.w X.K X.mg X.base m k n cs F){ta:TE}{t:TA}{fo:FE}{g:FA}(hfo:∀H₀ H O σ ds hd d Q,Ok X.K H₀ H O σ ds hd->fo ds=some d->(∀v H',Same H H'->Rep X.K H' O v d->Q v H')->ta σ H Q)(hfg:∀H₀ H O σ ds hd l Q,Ok X.K H₀ H O σ ds hd->g ds=some l->(∀vs H',Same H H'->Reps X.K H' yA vs l->Q vs H')->t σ H Q){H₀ H:Hp}{O:aA->Prop}{σ : L2.St}{ds:List Sl}{hd:Hold}{x:D}{l:List D}{r:Ret}{Q:VK}(o:Ok X.K H₀ H O σ ds hd)(h1:fo ds=some x)(h2:g ds=some l)(h3:methR n cs F x l=some r)(q:∀v H1 H',Same H H1->Same H1 H'->RetOk X.K H1 H' v r->Q v H'):MX X m k ta t σ H Q:=by
 refine hfo H₀ H O σ ds hd x _ o h1 fun v H1 s1 r1=>?_;cases x with
 | ins c es =>
   simp only[methR] at h3
   split at h3
   . rename_i hc;cases r1 with
     | @ins a C dx _ kvs _ cc nn ha ek rr =>
       obtain⟨f,fd,ps,cl,hm,Fn,hb⟩:=M.of c hc.1 C cc;refine⟨a,C,dx,kvs,f,fd,ps,_,rfl,ha,yO (by rw[ek];exact M.no c hc.1),cl,hm,Fn,hb,?_⟩;refine hfg H₀ H1 O σ ds hd l _ (o.mono s1) h2 fun vs H2 s2 r2=>?_;have hl:=r2.length;have r1':Rep X.K H2 yA (.ref a) (.ins c es):=(Rep.ins cc (fun z=>z.elim) (s2 _ _ ha) ek ((rr.mono s2).less fun _ z=>z.elim))
       exact⟨by simp only[aJ];omega,_,r,.cons r1' r2,h3,fun v H' s' ro=>q v H2 H' (s1.trans s2) s' ro⟩
   . cases h3
 |_=>simp[methR] at h3
section
variable{m:Str}{k j n:Nat}{cs:List Nat}{F:Nat->List D->Option Ret}{o e:Expr}{es:List Expr}{apos pos:Pos}{fo:FE}{g:FA}
theorem wM{pl:Sem Bool}(M:MCal X.prog X.w X.K X.mg X.base m k n cs F)(hr:Room j X.A)(ho:PV X o fo)(ha:PAn X (e::es) g)(hj:k<=j:=by decide)(hst:aL (e::es) X.env=(false,bY e X.env)::aL es X.env:=by rfl)(hpl:(dB pos (aL es X.env)).any (·.1)=false:=by rfl)(ht:bY (.Call (.Attribute o m apos) (e::es) [] pos) X.env=(do
    let ov <- bY o X.env
    kJ apos.atName
    let (f,first) <- gD [ov] (kK ov m pl)
    pJ pos f first (dB pos (aL (e::es) X.env)) (iO pos (eV [] X.env))):=by rfl):PV X (.Call (.Attribute o m apos) (e::es) [] pos) (methV n cs F fo g):=by
 obtain⟨ta,pa,hfo⟩:=ho;obtain⟨t,pt,hfg⟩:=ha;refine⟨_,GR (pl:=pl) (k:=k) pa (hr.mono hj) pt hst hpl ht,fun H₀ H O σ ds hd d Q o e q=>?_⟩;unfold methV at e;obtain⟨x,h1,e⟩:=bnd e;obtain⟨l,h2,e⟩:=bnd e;obtain⟨r,h3,e⟩:=bnd e;refine RC M hfo hfg o h1 h2 h3 fun v H1 H' s1 s' ro=>q v H' (s1.trans s') ?_;exact ND ro e fun a ha=>(o.mono s1).old ha
end
end
noncomputable def eH:Hp:=fun _=>none
def Keepx(x:aA)(H H':Hp):Prop:=∀b o,b≠x->H b=some o->H' b=some o
theorem Keepx.trans{x:aA}{H H1 H2:Hp}(a:Keepx x H H1)(b:Keepx x H1 H2):Keepx x H H2:=fun c o n e=>b c o n (a c o n e)
theorem Keepx.of_same{x:aA}{H H1:Hp}(s:Same H H1):Keepx x H H1:=fun c o _ e=>s c o e
section
variable{K:Frag}{H H':Hp}{O:aA->Prop}{x:aA}
theorem Keepx.rd{a C dx:aA}{kvs:List (Str×V)}{xs:List V}(k:Keepx x H H')(hx:H x=some (.ins C dx kvs))(h:Rd H a (.tup xs)):Rd H' a (.tup xs):=by
 rcases h with h | ⟨o,h⟩
 . exact .inl (k _ _ (fun z=>by rw[z,hx] at h;cases h) h)
 . exact .inr ⟨o,k _ _ (fun z=>by rw[z,hx] at h;cases h) h⟩
mutual
theorem Rep.flatKeep{C dx:aA}{kvs:List (Str×V)}(k:Keepx x H H')(hx:H x=some (.ins C dx kvs)):∀{v:V} {d:D},flat d=true->Rep K H O v d->Rep K H' O v d
 |_,_,_,.non=>.non
 |_,_,_,.bl b=>.bl b
 |_,_,_,.int i=>.int i
 |_,_,_,.str y=>.str y
 |_,_,f,.tup n h r=>.tup n (k.rd hx h) (Reps.flatKeep k hx (by simpa[flat] using f) r)
 |_,_,f,.tupK h r=>.tupK h (Reps.flatKeep k hx (by simpa[flat] using f) r)
 |_,_,f,.lst _ _ _=>by simp[flat] at f
 |_,_,f,.lstK _ _=>by simp[flat] at f
 |_,_,f,.dct _ _ _ _=>by simp[flat] at f
 |_,_,f,.dcf _ _ _ _=>by simp[flat] at f
 |_,_,f,.ins _ _ _ _ _=>by simp[flat] at f
 |_,_,f,.clo _ _ _ _ _ _=>by simp[flat] at f
 |_,_,f,.fnK _=>by simp[flat] at f
theorem Reps.flatKeep{C dx:aA}{kvs:List (Str×V)}(k:Keepx x H H')(hx:H x=some (.ins C dx kvs)):∀{vs:List V} {ds:List D},flats ds=true->Reps K H O vs ds->Reps K H' O vs ds
 |_,_,_,.nil=>.nil
 | _, _, f, .cons h t => by
   simp only[flats,bX] at f;exact .cons (Rep.flatKeep k hx f.1 h) (Reps.flatKeep k hx f.2 t)
end
end
def FlatS(ds:List Sl):Prop:=∀i:Nat,ds[i]?=none\/ds[i]?=some Sl.no\/∃d,ds[i]?=some (Sl.v d)/\flat d=true
noncomputable def iV(kvs:List (Str×V))(l:List (Str×V)):List (Str×V):=l.foldl (fun k p=>putF p.1 p.2 k) kvs
theorem JF(kvs l m:List (Str×V)):iV kvs (l++m)=iV (iV kvs l) m:=by simp[iV]
theorem tR:∀(l kvs:List (Str×V)),(iV kvs l).length<=kvs.length+l.length
 |[],kvs=>by simp[iV]
 | p :: r, kvs => by
   have h1:=tR r (putF p.1 p.2 kvs);have h2:=wJ p.1 p.2 kvs;simp only[iV,kM,aJ] at h1 ⊢;omega
theorem GJ{f:Str}{v:V}:∀{kvs:List (Str×V)},f∉kvs.map (·.1)->putF f v kvs=kvs++[(f,v)]
 |[],_=>rfl
 | (g, x) :: r, h => by
   have hg : ¬g=f:=fun z=>h (by simp[z]);rw[show putF f v ((g,x)::r)=(if g=f then (g,v)::r else (g,x)::putF f v r) from rfl,if_neg hg,GJ fun z=>h (by simp at z ⊢;exact .inr z)];rfl
theorem GK:∀{l kvs:List (Str×V)},(kvs.map (·.1)++l.map (·.1)).Nodup->iV kvs l=kvs++l
 |[],kvs,_=>by simp[iV]
 | p :: r, kvs, h => by
   have hp:p.1∉kvs.map (·.1):=fun z=>by
    rw[eD] at h;exact h.2.2 _ z _ (by simp) rfl
   have:iV kvs (p::r)=iV (putF p.1 p.2 kvs) r:=rfl;rw[this,GJ hp,GK (by simpa[eS] using h)];simp
theorem ok_flat{K:Frag}{H H':Hp}{σ : L2.St}{ds:List Sl}{x C dx:aA}{kvs:List (Str×V)}(o:Ok K eH H yA σ ds [])(f:FlatS ds)(k:Keepx x H H')(hx:H x=some (.ins C dx kvs)):Ok K eH H' yA σ ds []:=by
 refine⟨(fun b u e=>by cases e),(fun i l a hi _=>by rcases f i with h | h | ⟨d,h,hf⟩<;>rw[h] at hi<;>cases hi),fun _ z=>z.elim,o.len,fun i s e=>?_,fun i j a _ ⟨l,hi⟩ _ _ _=>?_,(fun p hp=>by cases hp),.no fun i r t e=>by rcases f i with h | h | ⟨d,h,hf⟩<;>rw[h] at e<;>cases e⟩
 . rcases f i with h | h | ⟨d, h, hf⟩
   . rw[h] at e;cases e
   . rw[h] at e;cases e;exact jQ
   . rw[h] at e;cases e;obtain⟨v,h1,h2⟩:=o.read h;rw[h1];exact yQ (h2.flatKeep k hx hf)
 . rcases f i with h | h | ⟨d,h,hf⟩<;>rw[h] at hi<;>cases hi
noncomputable def spN(K:Frag)(n:Nat)(ns:List Str)(G:List D->Option (List D)):Sp:=fun vs H Q _=>∃(x C dx:aA) (kvs:List (Str×V)) (vs':List V) (ds new:List D),vs=.ref x::vs'/\vs'.length=n/\H x=some (.ins C dx kvs)/\Cls K C ∧
 Reps K H yA vs' ds/\flats ds=true/\G ds=some new/\(∀f∈ns,NoAttr K C f)/\kvs.length+ns.length<1000 ∧
 ∀ws H',Keepx x H H'->H' x=some (.ins C dx (iV kvs (ns.zip ws)))->Reps K H' yA ws new->new.length=ns.length->flats new=true->Q .non H'
section
variable{X:Cx}
variable(X) in
def PIs(st:List Stmt)(ns:List Str)(g:FN):Prop:=∃t,PSs X st t/\∀H σ ds x C dx kvs new E,Ok X.K eH H yA σ ds []->FlatS ds->σ[0]?=some (some (.ref x))->H x=some (.ins C dx kvs)->Cls X.K C->g ds=some new->flats new=true →
 (∀f∈ns,NoAttr X.K C f)->kvs.length+ns.length<1000->(∀ws H',Keepx x H H'->H' x=some (.ins C dx (iV kvs (ns.zip ws)))->Reps X.K H' yA ws new->new.length=ns.length->E.nx σ H')->t E σ H
variable(X) in
def PI1(st:Stmt)(ns:List Str)(g:FN):Prop:=∃t,PS X st t/\∀H σ ds x C dx kvs new E,Ok X.K eH H yA σ ds []->FlatS ds->σ[0]?=some (some (.ref x))->H x=some (.ins C dx kvs)->Cls X.K C->g ds=some new->flats new=true →
 (∀f∈ns,NoAttr X.K C f)->kvs.length+ns.length<1000->(∀ws H',Keepx x H H'->H' x=some (.ins C dx (iV kvs (ns.zip ws)))->Reps X.K H' yA ws new->new.length=ns.length->E.nx σ H')->t E σ H
theorem vR{st:Stmt}{ns:List Str}{g:FN}(h:PI1 X st ns g):PIs X [st] ns g:=by
 obtain⟨t,ht,hf⟩:=h;exact⟨_,WH ht,hf⟩
theorem AT:∀{a b:List D},flats (a++b)=true->flats a=true/\flats b=true
 |[],b,h=>⟨rfl,h⟩
 | d :: r, b, h => by
   simp only[dZ,flats,bX] at h ⊢;have:=AT h.2;exact⟨⟨h.1,this.1⟩,this.2⟩
theorem yD{st:Stmt}{rest:List Stmt}{ns ms l:List Str}{f g:FN}(h1:PI1 X st ns f)(h2:PIs X rest ms g)(el:l=ns++ms:=by rfl):PIs X (st::rest) l (seqN f g):=by
 subst el;obtain⟨t,ht,hf⟩:=h1;obtain⟨u,hu,hg⟩:=h2;refine⟨_,QN ht hu,fun H σ ds x C dx kvs new E o fl h0 hx cl e hfl hn hk q=>?_⟩;unfold seqN at e;obtain⟨a,e1,e⟩:=bnd e;obtain⟨b,e2,rfl⟩:=mpd e;obtain⟨fa,fb⟩:=AT hfl;simp only[bP] at hk;refine hf H σ ds x C dx kvs a _ o fl h0 hx cl e1 fa (fun f hf=>hn f (by simp[hf])) (by omega) fun ws1 H1 k1 x1 r1 l1=>?_;have hz:(ns.zip ws1).length<=ns.length:=by rw[List.length_zip];omega
 have hkl:=tR (ns.zip ws1) kvs;refine hg H1 σ ds x C dx _ b _ (ok_flat o fl k1 hx) fl h0 x1 cl e2 fb (fun f hf=>hn f (by simp[hf])) (by omega) fun ws2 H2 k2 x2 r2 l2=>?_;refine q (ws1++ws2) H2 (k1.trans k2) ?_ ((r1.flatKeep k2 x1 fa).append r2) (by simp;omega);have hl:ns.length=ws1.length:=by rw[r1.length];exact l1.symm
 rw[List.zip_append hl,JF];exact x2
theorem wI{y f:Str}{e:Expr}{p pos pos':Pos}{fe:FE}(he:PV X e fe)(hN:X.N[0]?=some y:=by rfl)(hv:Vis X.env.scope y:=by first | exact Or.inl rfl | exact Or.inr (Or.inl rfl) | exact Or.inr (Or.inr rfl))(hd:(y==("__debug__" : Str))=false:=by decide)(hcd:(y==("__classdict__" : Str))=false:=by decide)(hs:dI e (some (.Attribute (.Name y p) f pos')) pos.line X.env=pure false:=by rfl):PI1 X (.Assign [.Attribute (.Name y p) f pos'] e pos) [f] (fldN fe):=by
 obtain⟨t,ht,hf⟩:=he;refine⟨_,TW (xW hN hv hd hcd) ht hs,fun H σ ds x C dx kvs new E o fl h0 hx cl e hfl hn hk q=>?_⟩;unfold fldN at e;obtain⟨d,e1,e⟩:=bnd e
 split at e
 . rename_i hd1;cases e;simp only [aJ,dH] at hk;refine hf eH H yA σ ds [] d _ o e1 fun v H1 s1 r1=>?_;refine ⟨.ref x,h0,x,C,dx,kvs,rfl,s1 _ _ hx,cl,hn f (by simp),by omega,?_⟩;have k2:Keepx x H1 (upd H1 x (.ins C dx (putF f v kvs))):=fun b u hb e=>by rw [upd_ne hb]; exact e
   exact q [v] _ ((Keepx.of_same s1).trans k2) qE (.cons (r1.flatKeep k2 (s1 _ _ hx) hd1) .nil) rfl
 . cases e
theorem EV{e:Expr}{pos:Pos}{fe:FE}(he:PV X e fe)(hs:dI e none pos.line X.env=pure false:=by rfl):PI1 X (.Expr e pos) [] (dropN fe):=by
 obtain⟨t,ht,hf⟩:=he;refine⟨_,xY ht hs,fun H σ ds x C dx kvs new E o fl h0 hx cl e hfl hn hk q=>?_⟩;unfold dropN at e;obtain⟨d,e1,rfl⟩:=mpd e;exact hf eH H yA σ ds [] d _ o e1 fun v H1 s1 r1=>q [] H1 (.of_same s1) (s1 _ _ hx) .nil rfl
structure SCal(P:bG)(w:bU)(K:Frag)(mg:Str->Option aB)(base:Heap)(x:Str)(k:Nat)(ns:List Str)(G:List D->Option (List D)):Prop where
 ex:∃(C f:aA) (fd:aK) (ps:List Str),mg x=some (.ref C)/\Sup K C "__init__" f/\FnOk P w K mg base CX0 k f fd ps (spN K 0 ns G)/\Binds K fd ps []
theorem NI{x y:Str}{k j:Nat}{ns:List Str}{G:List D->Option (List D)}{p p1 apos pos pos':Pos}(S:SCal X.prog X.w X.K X.mg X.base x k ns G)(hr:Room j X.A)(hj:k<=j:=by decide)(hg:Gl X x:=by rfl)(hN:X.N[0]?=some y:=by rfl)(hv:Vis X.env.scope y:=by first | exact Or.inl rfl | exact Or.inr (Or.inl rfl) | exact Or.inr (Or.inr rfl))(hd:(y==("__debug__" : Str))=false:=by decide)(hcd:(y==("__classdict__" : Str))=false:=by decide)(hdb:(x==("__debug__" : Str))=false:=by decide)(h1:aL [.Name y p1] X.env=(false,bY (.Name y p1) X.env)::aL [] X.env:=by rfl)(hpl:(dB pos (aL [] X.env)).any (·.1)=false:=by rfl)(hs:dI (.Call (.Attribute (.Name x p) "__init__" apos) [.Name y p1] [] pos) none pos'.line X.env=pure false:=by rfl){pl:Sem Bool}(ht:bY (.Call (.Attribute (.Name x p) "__init__" apos) [.Name y p1] [] pos) X.env=(do
    let ov <- bY (.Name x p) X.env
    kJ apos.atName
    let (f,first) <- gD [ov] (kK ov "__init__" pl)
    pJ pos f first (dB pos (aL [.Name y p1] X.env)) (iO pos (eV [] X.env))):=by rfl) :
  PI1 X (.Expr (.Call (.Attribute (.Name x p) "__init__" apos) [.Name y p1] [] pos) pos') ns (supN G):=by
 obtain⟨C0,f0,fd,ps,hmg,hsu,Fn,hb⟩:=S.ex;refine⟨_,xY (pe_sup (pl:=pl) hg hmg hsu Fn (hr.mono hj) hb (jZ (xW hN hv hd hcd) yW h1) hdb h1 hpl ht) hs,fun H σ ds x C dx kvs new E o fl h0 hx cl e hfl hn hk q=>?_⟩;refine⟨.ref x,h0,x,C,dx,kvs,[],[],new,rfl,rfl,hx,cl,.nil,rfl,e,hn,hk,fun ws H' k' x' r' l' _=>q ws H' k' x' r' l'⟩
end
theorem ME:∀{ds:List D} {i:Nat} {d:D},flats ds=true->ds[i]?=some d->flat d=true
 |[],_,_,_,e=>by simp at e
 | c :: r, 0, d, h, e => by
   simp only[flats,bX] at h;simp at e;subst e;exact h.1
 | c :: r, i + 1, d, h, e => by
   simp only[flats,bX] at h;exact ME h.2 (by simpa using e)
theorem xU{n:Nat}{ds:List D}{i:Nat}{s:Sl}(e:(argsN n ds)[i]?=some s):s=.no\/∃j d,i=j+1/\ds[j]?=some d/\s=.v d:=by
 unfold argsN at e;cases i with
 |zero=>simp at e;exact .inl e.symm
 | succ j =>
   rw[cJ] at e
   by_cases hj:j<ds.length
   . rw [aY (by simpa using hj), bE] at e;cases h:ds[j]? with
     |none=>rw[h] at e;cases e
     |some d=>rw[h] at e;cases e;exact .inr ⟨j,d,rfl,h,rfl⟩
   . rw [bV (by simpa using hj), dD] at e
     split at e
     . cases e;exact .inl rfl
     . cases e
theorem vF{P:bG}{w:bU}{K:Frag}{mg:Str->Option aB}{base:Heap}{x qual:Str}{st:Stmt}{f:aA}{fd:aK}{N ps:List Str}{k n m:Nat}{ns:List Str}{g:FN}(Fn:Fun K x qual st f fd)(S:FnScope N ps (zJ st))(hbody:∀(cdv:aB) (A:bZ) (outer:List Env) (s:aE) (H:Hp) (E:XK),Room k (A.deeper (mJ qual (zJ st) s.heap.objs.size f cdv))->PIs (cxOf CX0 P w K mg base N qual (zJ st) f cdv A outer s H E).nox (jH st) ns g)(hn:ps.length=n+1)(hN:n+1<=m)(hm:N.length=m):FnOk P w K mg base CX0 (k+1) f fd ps (spN K n ns (runN g m)):=by
 subst hm;refine Fn.ok S (fun vs H Q E h=>?_) (fun cdv A outer s H vs Q E hr h=>?_)
 . obtain⟨x, C, dx, kvs, vs', ds, new, rfl, hl, _⟩ := h;simp[hl,hn]
 . obtain ⟨x, C, dx, kvs, vs', ds, new, rfl, hl, hx, cl, rv, hfl, e, hna, hk, q⟩ := h;obtain ⟨t,ht,hf⟩:=hbody cdv A outer s H E hr;refine ⟨t,ht,?_⟩;have hld:ds.length=n:=by rw [<- rv.length]; exact hl
   unfold runN at e;cases e1:g (argsN N.length ds) with
   |none=>rw[e1] at e;cases e
   | some new' =>
     rw[e1] at e;simp only[aH] at e
     split at e
     . rename_i hfn;cases e
       have o:Ok K eH H yA (L2.start N (.ref x::vs')) (argsN N.length ds) []:=by
        refine⟨(fun b u e=>by cases e),(fun i l a hi _=>by rcases xU hi with h | ⟨j,d,_,_,h⟩<;>cases h),fun _ z=>z.elim,by simp[L2.start,argsN,hl,hld],fun i s e=>?_,fun i j a _ ⟨l,hi⟩ _ _ _=>?_,(fun p hp=>by cases hp),.no fun i r t e=>by rcases xU e with h | ⟨j,d,_,_,h⟩<;>cases h⟩
        . rcases xU e with rfl | ⟨j, d, rfl, hj, rfl⟩
          . exact jQ
          . obtain ⟨v, h1, h2⟩ := rv.get hj;have hjl:j < vs'.length:=(aV.mp h1).1
            have:(L2.start N (.ref x::vs'))[j+1]?=some (some v):=by
             unfold L2.start;rw[aY (by simpa using hjl)];simp[h1]
            rw[this];exact yQ h2
        . rcases xU hi with h | ⟨j,d,_,_,h⟩<;>cases h
       have fl:FlatS (argsN N.length ds):=fun i=>by
        cases e:(argsN N.length ds)[i]? with
        |none=>exact .inl rfl
        | some s =>
          rcases xU e with rfl | ⟨j,d,rfl,hj,rfl⟩
          . exact .inr (.inl rfl)
          . exact .inr (.inr ⟨d,rfl,ME hfl hj⟩)
       exact hf H _ _ x C dx kvs new _ o fl (by simp[L2.start]) hx cl e1 hfn hna hk fun ws H' k' x' r' l'=>q ws H' k' x' r' l' hfn
     . cases e
structure MkC(P:bG)(w:bU)(K:Frag)(mg:Str->Option aB)(base:Heap)(t k n:Nat)(G:List D->Option (List D)):Prop where
 ex:∃(C f:aA) (fd:aK) (ps:List Str),aT K aP (dA t)=some (some (.ref C))/\mg (dA t)=some (.ref C)/\Mk K C f/\Cls K C/\FnOk P w K mg base CX0 k f fd ps (spN K n (cR t) G)/\Binds K fd ps []/\(∀f∈cR t,NoAttr K C f)
section
variable{X:Cx}{t k j n:Nat}{G:List D->Option (List D)}{x:Str}{p pos:Pos}{e:Expr}{es:List Expr}{g:FA}
theorem RF{C:aA}{ta:TA}{l:List D}{new:List D}{H₀ H:Hp}{O:aA->Prop}{σ : L2.St}{ds:List Sl}{hd:Hold}{Q:VK}(hc:aT X.K aP (dA t)=some (some (.ref C)))(hcl:Cls X.K C)(hna:∀f∈cR t,NoAttr X.K C f)(hnd:(cR t).Nodup)(hln:(cR t).length<900)(hfa:∀H₀ H O σ ds hd l Q,Ok X.K H₀ H O σ ds hd->g ds=some l->(∀vs H',Same H H'->Reps X.K H' yA vs l->Q vs H')->ta σ H Q)(o:Ok X.K H₀ H O σ ds hd)(h1:g ds=some l)(hl:l.length=n/\flats l=true)(h2:G l=some new)(q:∀v H',Same H H'->Rep X.K H' (Old H) v (.ins t new)->Q v H'):tMake C (spN X.K n (cR t) G) [] E0 ta σ H Q:=by
 refine hfa H₀ H O σ ds hd l _ o h1 fun vs H1 s1 r1=>?_;intro x dx nx ndx nex
 have s2:Same H1 (upd (upd H1 dx (.own x)) x (.ins C dx [])):=fun b o e=>by
  rw[upd_ne (jC e nx),upd_ne (jC e ndx)];exact e
 refine⟨x,C,dx,[],vs,l,new,by simp,by rw[r1.length];exact hl.1,qE,hcl,r1.mono s2,hl.2,h2,hna,by simp;omega,fun ws H' k' x' r' l' f'=>⟨rfl,?_⟩⟩;have s3:Same H1 H':=fun b o e=>k' b o (jC e nx) (s2 b o e);have hlw:(cR t).length=ws.length:=by rw[r'.length];exact l'.symm
 have ek:iV [] ((cR t).zip ws)=(cR t).zip ws:=by
  rw[GK (by simpa[aCl (lH hlw)] using hnd)];simp
 rw[ek] at x';have nx0:H x=none:=s1.free nx;refine q (.ref x) H' (s1.trans s3) (.ins hc (not_old nx0) x' (aCl (lH hlw)) ?_);rw[List.map_snd_zip (lH hlw.symm)];exact Reps.flatten (fun a z=>Old.mono (s1.trans s3) z) f' r'
theorem wW(M:MkC X.prog X.w X.K X.mg X.base t k n G)(hr:Room j X.A)(ha:PAn X (e::es) g)(hj:k+1<=j:=by decide)(hx:dA t=x:=by rfl)(hnd:(cR t).Nodup:=by decide +kernel)(hln:(cR t).length<900:=by decide)(hg:Gl X x:=by rfl)(hdb:(x==("__debug__" : Str))=false:=by decide)(he:aL (e::es) X.env=(false,bY e X.env)::aL es X.env:=by rfl)(hpl:(dB pos (aL es X.env)).any (·.1)=false:=by rfl) :
  PVd X (.Call (.Name x p) (e::es) [] pos) (makeG t n G g):=by
 obtain⟨C,f,fd,ps,hc,hm,mk,cl,Fn,hb,hna⟩:=M.ex;obtain⟨ta,pa,hfa⟩:=ha;subst hx;refine⟨_,WN (CX:=CX0) (E:=E0) mk Fn (hr.mono hj) hg hm hb .nil pass0 pa hdb he hpl,fun H₀ H O σ ds hd d Q o e q=>?_⟩;unfold makeG at e;obtain⟨l,h1,e⟩:=bnd e
 split at e
 . rename_i hl;obtain⟨new,h2,rfl⟩:=mpd e;exact RF hc cl hna hnd hln hfa o h1 hl h2 q
 . cases e
theorem ZE(M:MkC X.prog X.w X.K X.mg X.base t k 0 G)(hr:Room j X.A)(hj:k+1<=j:=by decide)(hx:dA t=x:=by rfl)(hnd:(cR t).Nodup:=by decide +kernel)(hln:(cR t).length<900:=by decide)(hg:Gl X x:=by rfl)(hdb:(x==("__debug__" : Str))=false:=by decide) :
  PVd X (.Call (.Name x p) [] [] pos) (makeG t 0 G zZ):=by
 obtain⟨C,f,fd,ps,hc,hm,mk,cl,Fn,hb,hna⟩:=M.ex;subst hx;refine⟨_,aEm (CX:=CX0) (E:=E0) mk Fn (hr.mono hj) hg hm hb .nil pass0 hdb,fun H₀ H O σ ds hd d Q o e q=>?_⟩;simp only[makeG,zZ,aH,dH,flats,and_self,if_true] at e;obtain⟨new,h2,rfl⟩:=mpd e;exact RF (g:=zZ) hc cl hna hnd hln (fun _ H _ _ _ _ _ _ _ e q=>by cases e;exact q _ H (Same.refl _) .nil) o rfl ⟨rfl,rfl⟩ h2 q
end
section
variable{X:Cx}
end
section
variable{X:Cx}
theorem QH{x:Str}{i:Int}{pos:Pos}(hm:∃t,X.mg x=some (.int i t))(hg:Gl X x:=by rfl)(hd:(x==("__debug__" : Str))=false:=by decide):PV X (.Name x pos) (zA (.int i)):=
 let ⟨t,h⟩:=hm
 WB (v:=.int i) hg h ⟨t,rfl⟩ (fun _ _=>.int i) hd
theorem aDq{x:Str}{i:Str}{pos:Pos}(hm:∃t,X.mg x=some (.str i t))(hg:Gl X x:=by rfl)(hd:(x==("__debug__" : Str))=false:=by decide):PV X (.Name x pos) (zA (.str i)):=
 let ⟨t,h⟩:=hm
 WB (v:=.str i) hg h ⟨t,rfl⟩ (fun _ _=>.str i) hd
end
inductive NoAll(K:Frag)(C:aA):List Str->Prop
 |nil:NoAll K C []
 |cons {f:Str} {l:List Str} (h:NoAttr K C f) (t:NoAll K C l):NoAll K C (f::l)
theorem xI{K:Frag}{C:aA}: NoAll K C []:=.nil
theorem qX{K:Frag}{C:aA}{f:Str}{l:List Str}(h:NoAttr K C f)(t:NoAll K C l):NoAll K C (f::l):=.cons h t
theorem xB{K:Frag}{C:aA}:∀{l:List Str},NoAll K C l->∀f∈l,NoAttr K C f
 |_,.nil,f,h=>(nomatch h)
 |_,.cons q t,f,h=>(aD.mp h).elim (fun e=>e▸q) (xB t f)
noncomputable def spA(K:Frag)(n:Nat)(F:List D->Option Ret):Sp:=fun vs H Q _=>vs.length=n/\∃(B:aA->Prop) (ds:List D) (d:D),(∀a,B a->∃u:MutHO,H a=some u.1)/\Reps K H B vs ds/\F ds=some (.any d)/\∀v H',Same H H'->Rep K H' B v d->Q v H'
section
variable{X:Cx}
theorem kI{e:Expr}{pos:Pos}{f:FE}(he:PV X e f):PSv X (.Return (some e) pos) (retAG f):=by
 obtain⟨t,ht,hg⟩:=he;refine⟨_,BP ht,(3:)⟩;unfold retAG at e;obtain⟨d,h1,rfl⟩:=mpd e;exact hg H₀ H O σ ds hd d _ o h1 fun v H' s r=>h _ _ (o.same.trans s) (r.less fun _ z=>z.elim) fun B hB=>r.less fun a ha=>(o.hold _ hB a ha).1
end
theorem ZR{K:Frag}{H:Hp}{N:List Str}{vs:List V}{ds:List D}{B:aA->Prop}(hB:∀a,B a->∃u:MutHO,H a=some u.1)(r:Reps K H B vs ds):Ok K H H B (L2.start N vs) (args N.length ds) [.base B]:=by
 have o:=QW (N:=N) (r.less (O':=yA) fun _ z=>z.elim);refine⟨o.same,o.fresh,hB,o.len,fun i s e=>?_,o.apart,fun p hp=>?_,.no (OS _ _)⟩
 . unfold args at e;unfold L2.start;have hl:=r.length
   by_cases hi:i<ds.length
   . rw[aY (by simpa using hi), bE] at e;rw[aY (by simpa[hl] using hi),bE];obtain⟨d,h,rfl⟩:=mpd e;obtain⟨v,h1,h2⟩:=r.get h;rw[h1];exact yQ h2
   . rw [bV (by simpa using hi), dD] at e
     split at e
     . cases e;exact jQ
     . cases e
 . simp only[bA] at hp;subst hp;exact fun a ha=>⟨ha,by obtain⟨xs,e⟩:=hB a ha;rw[e];simp⟩
theorem XQ{P:bG}{w:bU}{K:Frag}{mg:Str->Option aB}{base:Heap}{x qual:Str}{st:Stmt}{f:aA}{fd:aK}{N ps:List Str}{k n:Nat}{F:List D->Option Ret}(Fn:Fun K x qual st f fd)(S:FnScope N ps (zJ st)){g:FS}(hbody:∀(cdv:aB) (A:bZ) (outer:List Env) (s:aE) (H:Hp) (E:XK),Room k (A.deeper (mJ qual (zJ st) s.heap.objs.size f cdv))->PSsv (cxOf CX0 P w K mg base N qual (zJ st) f cdv A outer s H E).nox (jH st) g)(hn:ps.length=n)(hg:∀ds r,ds.length=ps.length->F ds=some r->Does g N.length ds r):FnOk P w K mg base CX0 (k+1) f fd ps (spA K n F):=by
 refine Fn.ok S (fun vs H Q E h=>by rw[hn];exact h.1) (fun cdv A outer s H vs Q E hr h=>?_);obtain⟨hl,B,ds,d,hB,rv,e,q⟩:=h;obtain⟨t,ht,hf⟩:=hbody cdv A outer s H E hr;refine⟨t,ht,?_⟩;have o:=ZR (N:=N) hB rv;rcases hg ds _ (by rw[<- rv.length,hn];exact hl) e with e' | ⟨z,_⟩
 . exact hf H H B _ _ [.base B] _ _ o e' (fun v H' s _ r=>q v H' s (r B (by simp)))
 . cases z
structure CalA(P:bG)(w:bU)(K:Frag)(mg:Str->Option aB)(base:Heap)(x:Str)(k n:Nat)(F:List D->Option Ret):Prop where
 ex:∃(f:aA) (fd:aK) (ps:List Str),FnOk P w K mg base CX0 k f fd ps (spA K n F)/\Binds K fd ps []/\bK K (.ref f)=true/\mg x=some (.ref f)
section
variable{X:Cx}{k j n:Nat}{F:List D->Option Ret}{x:Str}{p pos:Pos}{e:Expr}{es:List Expr}{g:FA}
theorem GH(C:CalA X.prog X.w X.K X.mg X.base x k n F)(hr:Room j X.A)(ha:PAs X (e::es) g)(hj:k<=j:=by decide)(hg:Gl X x:=by rfl)(hdb:(x==("__debug__" : Str))=false:=by decide)(he:aL (e::es) X.env=(false,bY e X.env)::aL es X.env:=by rfl)(hpl:(dB pos (aL es X.env)).any (·.1)=false:=by rfl) :
  PV X (.Call (.Name x p) (e::es) [] pos) (callA n F g):=by
 obtain⟨f,fd,ps,Fn,hb,hk,hm⟩:=C.ex;obtain⟨t,ht,hf⟩:=ha;refine⟨_,EX (CX:=CX0) (E:=E0) Fn (hr.mono hj) hg hm hk hb .nil pass0 ht hdb he hpl,fun H₀ H O σ ds hd d Q o e q=>?_⟩;unfold callA at e;obtain⟨l,h,e⟩:=bnd e
 split at e
 . rename_i hln;obtain ⟨r,h2,e⟩:=bnd e;cases r with
   | any d' =>
     cases e;refine hf H₀ H O σ ds hd l _ o h fun vs H1 s1 r1=>?_;have hl:=r1.length;exact⟨by simp only[kN];omega,O,l,_,(o.mono s1).dom,by simpa using r1,h2,fun v H' s' ro=>q v H' (s1.trans s') ro⟩
   |val _=>cases e
   |obj _=>cases e
   |fresh _=>cases e
 . cases e
end
end FL
namespace PySem
open Sem (wp)
section
variable{prog:bG}{w:bU}{A:bZ}{R:Result->aE->Prop}{I:aA}{fp wr:List aA}{n:Nat}{P:Nat->aB->Prop}{St:Nat->Heap->Prop}{kw:List (Str×aB)}
end
section
variable{prog:bG}{w:bU}{A:bZ}{E:aB->aE->Prop}{s:aE}
end
end PySem
namespace FL
open PySem PySem.Spec PyProof.Rows L2
section
variable{X:Cx}
end
open PySem.Calls PySem.Builtin PySem.Builtin.ObjectAttr PySem.Builtin.Getset_descriptor
open PySem.W (Looks looks_findIn looks_mroIn findIn mroIn specialIn takesIn KitX)
structure XIn(K:Frag)(C:aA):Prop where
 ga:findIn K (.ref C) "__getattribute__" = some (some (.builtin "BaseException.__getattribute__"))
 gt:findIn K (.ref C) "__getattr__" = some none
 cl:findIn K (.ref C) "__class__" = some (some (.builtin "object.__class__"))
 ob:mroIn K C (.type "object")=some true
 be:mroIn K C (.type "BaseException")=some true
section
variable{prog:bG}{w:bU}{A:bZ}{E:aB->aE->Prop}{h:Heap}{g:Array GenState}{d:YO}{t:Nat}{os:OsState}{a C:aA}{o:Obj}{K:Frag}
end
end FL
namespace FL
open PySem PySem.Spec PyProof.Rows L2
def Fl2(B:Heap)(l:List Env)(e:aA)(cls a0 fl:aB)(h:Heap):Prop:=B.StaysIn h/\B.get? e=none/\h.FunFrames B l ∧
 ∃oe vs T oT ts,h.get? e=some oe/\(oe.cls=cls/\vs[0]?=some a0/\vs[2]?=some .none)/\oe.data=.fields vs/\vs[1]?=some (.ref T)/\B.get? T=none/\T≠e/\h.get? T=some oT/\oT.data=.fields ts/\ts[3]?=some fl
section
variable{M:Model}{A:bZ}{E:aB->aE->Prop}{s:aE}{B:Heap}{l outer:List Env}{env:Env}{e L:aA}{cls a0 fl:aB}{oe:Obj}{vs:Array aB}{Q:Unit->aE->Prop}
end
open PySem.W (hideAll hideAll_get of_hideAll hideAll_none funFrames_hide excIn tail_of_in nsMap_none_of_in isNs_of_in)
theorem obj_get{P:bG}{w:bU}{H:Hp}{h:Heap}{a:aA}{o:HO}(x:ObjOk P w H h a o):∃u,h.get? a=some u:=by
 cases o with
 |lst xs=>obtain⟨_,_,_,_,e⟩:=x;exact⟨_,e⟩
 |tup xs=>obtain⟨_,_,_,_,e,_⟩:=x;exact⟨_,e⟩
 |dK kvs=>obtain⟨_,_,_,_,o,_,_,e,_⟩:=x;exact⟨_,e⟩
 |dT kvs=>obtain⟨_,_,_,_,o,_,_,e,_⟩:=x;exact⟨_,e⟩
 |set S n=>obtain⟨o,_,_,_,e,_⟩:=x;exact⟨_,e⟩
 |ins C dx fs=>obtain⟨_,_,_,e,_⟩:=x;exact⟨_,e⟩
 |own y=>obtain⟨_,e⟩:=x;exact⟨_,e⟩
 |xd fs=>obtain⟨_,⟨_,_,_,e,_⟩,_⟩:=x;exact⟨_,e⟩
 |rng lo hi=>obtain⟨_,_,_,e⟩:=x;exact⟨_,e⟩
 |frz ob u=>obtain⟨e,_⟩:=x;exact⟨_,e⟩
 |tbl ps=>obtain⟨_,e,_⟩:=x;exact⟨_,e⟩
 |met f y=>exact⟨_,(show h.get? a=some _ from x)⟩
 |ext φ=>obtain⟨_,⟨_,e⟩,_⟩:=x;exact⟨_,e⟩
structure Thrown(P:bG)(w:bU)(outer:List Env)(H:Hp)(s:aE)(cls:aB)(ea:aA)(a0:aB)(B:Heap)(H':Hp)(h:Heap):Prop where
 fly:Fl2 B outer ea cls a0 .none h
 keep:∀b o,s.heap.get? b=some o->H b=none->b∉frs outer->B.get? b=some o
 there:∀b o,s.heap.get? b=some o->b∉frs outer->∃o',B.get? b=some o'
 slot:∀b o,s.heap.get? b=some o->b∈frs outer->∃sl,h.get? b=some { o with slots:=sl }
 free:∀b o,s.heap.get? b=some o->H b=none->H' b=none
 tups:∀b xs,H b=some (.tup xs)->H' b=some (.tup xs)
 frzs:∀b o u,H b=some (.frz o u)->H' b=some (.frz o u)
 tbls:∀b ps,H b=some (.tbl ps)->H' b=some (.tbl ps)
 hok:L2.HOk P w H' B
section
variable{P:bG}{w:bU}{outer:List Env}{H H':Hp}{s:aE}{cls a0:aB}{ea:aA}{B h h':Heap}
theorem Thrown.no(t:Thrown P w outer H s cls ea a0 B H' h):H' ea=none:=by
 cases q:H' ea with
 |none=>rfl
 | some u =>
   obtain⟨o,e⟩:=obj_get (t.hok _ _ q);rw[t.fly.2.1] at e;cases e
end
section
variable(X:Cx)(C:aA)
end
section
variable{X:Cx}{C:aA}
end
end FL
namespace FL
open PySem PySem.Spec PyProof.Rows L2
open PySem.W (Looks looks_mroIn mroIn)
section
variable{X:Cx}{aC:List (aA×Obj)}{σ : L2.St}{H:Hp}{s:aE}{ea:aA}{oe:Obj}{xe:aB->aE->Prop}
end
section
variable{X:Cx}{k j n:Nat}{R:List D->Bool}{C:aA}{x:Str}{p pos:Pos}{e:Expr}{es:List Expr}{g:FA}
end
end FL
namespace FL
open PySem PySem.Spec PyProof.Rows L2
open PySem.W (Looks looks_mroIn mroIn clsIn)
section
variable{prog:bG}{w:bU}{A:bZ}{E:aB->aE->Prop}{h:Heap}{g:Array GenState}{d:YO}{t:Nat}{os:OsState}{a C S:aA}{o:Obj}{K:Frag}
end
section
variable{X:Cx}
end
end FL
namespace FL
open PySem PySem.Spec PyProof.Rows L2
section
variable{X:Cx}
section
variable{en:Str}{i:Nat}{p pe pT pos:Pos}{tb:List (Nat×Bool)}
end
end
section
variable{X:Cx}{m:Str}{k j:Nat}{cs:List Nat}{F:Nat->List D->Option Ret}{o:Expr}{apos pos:Pos}{fo:FE}
theorem QF{pl:Sem Bool}(M:MCal X.prog X.w X.K X.mg X.base m k 0 cs F)(hr:Room j X.A)(ho:PV X o fo)(hj:k<=j:=by decide)(ht:bY (.Call (.Attribute o m apos) [] [] pos) X.env=(do
    let ov <- bY o X.env
    kJ apos.atName
    let (f,first) <- gD [ov] (kK ov m pl)
    pJ pos f first (dB pos (aL [] X.env)) (iO pos (eV [] X.env))):=by rfl):PV X (.Call (.Attribute o m apos) [] [] pos) (methV 0 cs F fo zZ):=by
 obtain⟨ta,pa,hfo⟩:=ho;refine⟨_,LO (pl:=pl) (k:=k) pa (hr.mono hj) ht,fun H₀ H O σ ds hd d Q o e q=>?_⟩;unfold methV at e;obtain⟨x,h1,e⟩:=bnd e;simp only[zZ,aH] at e;obtain⟨r,h3,e⟩:=bnd e;refine RC (g:=zZ) M hfo (fun _ H _ _ _ _ _ _ _ e q=>by cases e;exact q _ H (Same.refl _) .nil) o h1 rfl h3 fun v H1 H' s1 s' ro=>q v H' (s1.trans s') ?_;exact ND ro e fun a ha=>(o.mono s1).old ha
end
section
variable{X:Cx}{C:aA}{x:Str}{p pos:Pos}
end
section
variable{K:Frag}{H:Hp}{O:aA->Prop}{a:aA}{xs ys:List V}
end
section
variable{X:Cx}
end
section
variable(X:Cx)(E:XK)(C:aA)
def PSsAny(st:List Stmt):Prop:=∃t,PSs X st t
end
section
variable{X:Cx}{E:XK}{C:aA}
theorem PSsv.any{st:List Stmt}{g:FS}(h:PSsv X st g):PSsAny X st:=let ⟨t,ht,_⟩:=h;⟨t,ht⟩
section
variable{k j n:Nat}{R:List D->Bool}{x:Str}{p pos:Pos}{e:Expr}{es:List Expr}{g:FA}
end
end
section
variable{X:Cx}{E:XK}{C:aA}{t k j n:Nat}{R:List D->Bool}{x:Str}{p pos:Pos}{e:Expr}{es:List Expr}{g:FA}
end
section
variable{X:Cx}
end
section
variable{X:Cx}{k j i:Nat}{F:Nat->Option Ret}{x en:Str}{p pe pos:Pos}
end
end FL
namespace L2
open PySem PySem.Spec PyProof.Rows
section
variable{X:Cx}
end
end L2
namespace FL
open PySem PySem.Spec PyProof.Rows L2
section
variable{X:Cx}
end
section
variable{X:Cx}
end
end FL
namespace L2
open PySem PySem.Spec PyProof.Rows
section
variable{X:Cx}
theorem KQ:∀{us:List aB} {ns:List Int},BI us ns->Vals (ns.map V.int) us
 |_,_,.nil=>.nil
 |_,_,.cons n t h=>.cons ⟨t,rfl⟩ (KQ h)
end
end L2
namespace FL
open PySem PySem.Spec PyProof.Rows L2
section
variable{X:Cx}
theorem LH{K:Frag}{H:Hp}{O:aA->Prop}:∀ns:List Int,Reps K H O (ns.map V.int) (ns.map D.int)
 |[]=>.nil
 |n::ns=>.cons (.int n) (LH ns)
end
end FL
namespace L2
open PySem PySem.Spec PyProof.Rows
section
variable{prog:bG}{w:bU}{A:bZ}{E:aB->aE->Prop}{s:aE}
end
section
variable{X:Cx}
end
end L2
namespace FL
open PySem PySem.Spec PyProof.Rows L2
section
variable{X:Cx}
end
open PySem.W (tabIn CodeHd tabObj kla_eval kla_makeFunction kla_makeFunctionHit kla_obj kla_fn kla_callFunE kla_codeExpr FnAt callWith_F envX)
section
variable{X:Cx}
end
section
variable{X:Cx}{aC:List (aA×Obj)}{σ : L2.St}{H H':Hp}{s s':aE}{cs:List aA}
end
section
variable{K:Frag}{H:Hp}{O:aA->Prop}{cs:List aA}
end
section
variable{X:Cx}
end
end FL
namespace FL
open PySem PySem.Spec PyProof.Rows L2
open PySem.W (tabIn CodeHd tabObj kla_callFunE kla_codeExpr FnAt callWith_F envX)
section
variable{X:Cx}
section
variable{k j' n m j:Nat}{F:List D->Option Ret}{x y:Str}{p pos:Pos}{e:Expr}{es:List Expr}{g:FA}{is:List Nat}{t:LamT}{st:Stmt}{f c P:aA}
end
end
theorem ClosOk.get{H:Hp}{O:aA->Prop}:∀{cl:List (Str×aA)} {xs:List V},ClosOk H O cl xs->∀{i:Nat} {v:V},xs[i]?=some v->∃p o u w,cl[i]?=some p/\H p.2=some (.frz o u)/\o.data=.cell (some w)/\RelV v w
 |_,_,.nil,_,_,h=>by cases h
 |_,_,.cons no h d r t,0,v,hv=>by cases hv;exact⟨_,_,_,_,rfl,h,d,r⟩
 |_,_,.cons no h d r t,i+1,v,hv=>t.get hv
theorem ClosOk.length{H:Hp}{O:aA->Prop}:∀{cl:List (Str×aA)} {xs:List V},ClosOk H O cl xs->cl.length=xs.length
 |_,_,.nil=>rfl
 |_,_,.cons no h d r t=>by simp[t.length]
section
variable{X:Cx}{k j i:Nat}{Φ : Fun2}{x:Str}{p pos:Pos}{e:Expr}{es:List Expr}{g:FA}
end
end FL
namespace FL
open PySem PySem.Spec PyProof.Rows L2
section
variable{X:Cx}
end
open PySem.W (tabIn CodeHd tabObj makeFunction_K makeFunction_hit fnMade fnX nestDef_K kla_callFunE envX)
section
variable{X:Cx}{aC:List (aA×Obj)}{σ : L2.St}{H:Hp}{s:aE}
end
section
variable{X:Cx}
end
section
variable{X:Cx}{aC:List (aA×Obj)}{σ : L2.St}{H:Hp}{s:aE}{cs:List aA}
end
section
variable{X:Cx}
end
end FL
namespace FL
open PySem PySem.Spec PyProof.Rows L2
section
variable{X:Cx}{tg:Expr}
end
section
variable{X:Cx}
end
open PySem.W (tabIn CodeHd)
section
variable{X:Cx}
end
section
variable{X:Cx}{E:XK}{C:aA}
end
section
variable{X:Cx}{k j:Nat}{n:Nat}{F:List D->Option Ret}{x:Str}{p pos:Pos}{e:Expr}{es:List Expr}{g:FA}
end
end FL
namespace FL
open PySem PySem.Spec PyProof.Rows L2
section
variable{X:Cx}{E:XK}{C:aA}
end
section
variable{X:Cx}{E:XK}{C:aA}
end
end FL
namespace L2
open PySem PySem.Spec PyProof.Rows
section
variable{X:Cx}
end
end L2
namespace FL
open PySem PySem.Spec PyProof.Rows L2
section
variable{X:Cx}{E:XK}{C:aA}
end
section
variable{X:Cx}
end
end FL
namespace L2
open PySem PySem.Spec PyProof.Rows
open Builtin Builtin.Str
section
variable{X:Cx}
theorem split_len(x y:Str):(Txt.split x y).length<=x.length+2:=by
 unfold Txt.split;have e1:=StrLaws.occ_length_le x y 0 x.length (x.length+1)
 split
 . simp
 . split
   . simp
   . rw[length_partsBetween];omega
def rSlS:V->Option Int->Option Int->Hp->VK->Prop:=fun x lo hi H Q=>∃a,x=.str a/\a.length<=sizeLine/\Q (.str (Txt.slice a lo hi)) H
theorem sl_str:SlR X rSlS:=by
 intro aC s σ H x v vl vu lo hi sl Q I rx hs pl pu h;obtain⟨a,rfl,hz,q⟩:=h;obtain⟨tk,rfl⟩:=(show ∃tk,v=aB.str a tk from rx)
 obtain⟨o,ho,hc,hd⟩:=hs
 have fin:∀(l u:Option (Int×Tok)),partValue l=vl->partValue u=vu->l.map (·.1)=lo->u.map (·.1)=hi->bL (bM X.prog X.w) X.A (IT (.str a tk) (.ref sl)) (EP X aC σ Q) X.xe s:=by
  intro l u e1 e2 e3 e4;refine wpAny_getItem_str_slice (l:=l) (u:=u) (st:=none) ⟨o,ho,hc,by rw[hd,e1,e2];rfl⟩ rfl ?_;subst e3 e4;exact post_val_or_str ⟨cL (Txt.slice_le a _ _) hz,fun t' k=>⟨.str _,H,I.tok _,⟨_,rfl⟩,q⟩⟩
 refine⟨"str",_,F.slot_str_getitem.lookup,typeIs_str _ _ _,?_⟩;cases pl with
 | none =>
   cases pu with
   |none=>exact fin none none rfl rfl rfl rfl
   |int j t2=>exact fin none (some (j,t2)) rfl rfl rfl rfl
 | int i t1 =>
   cases pu with
   |none=>exact fin (some (i,t1)) none rfl rfl rfl rfl
   |int j t2=>exact fin (some (i,t1)) (some (j,t2)) rfl rfl rfl rfl
end
end L2
namespace FL
open PySem PySem.Spec PyProof.Rows L2
section
variable{X:Cx}
section
variable{o e:Expr}{apos cpos:Pos}{f g:FE}{name:Str}{id:String}
theorem LF{K:Frag}{H:Hp}{O:aA->Prop}:∀(l:List Str),Reps K H O (l.map V.str) (l.map D.str)
 |[]=>.nil
 |a::l=>.cons (.str a) (LF l)
end
theorem NG{e:Expr}{lo hi:Option Expr}{f:FE}{gl gh:List Sl->Option (Option Int)}{p2 pos:Pos}(he:PVw X e f)(hl:POv X lo gl)(hh:POv X hi gh):PV X (.Subscript e (.Slice lo hi none p2) pos) (slsS f gl gh):=by
 obtain⟨te,pe,he⟩:=he;obtain⟨tl,pl,hl⟩:=hl;obtain⟨th,ph,hh⟩:=hh;refine⟨_,QQ sl_str pe pl ph,fun H₀ H O σ ds hd d' Q o e q=>?_⟩;unfold slsS at e;obtain⟨d,h1,e⟩:=bnd e;obtain⟨a,h2,e⟩:=bnd e;obtain⟨b,h3,e⟩:=bnd e;cases d<;>first | (cases e;done) | skip
 simp only at e
 split at e
 . rename_i hc;cases e;refine he H₀ H O σ ds hd _ _ o h1 fun v H1 s1 r1=>?_;refine hl H₀ H1 O σ ds hd _ _ (o.mono s1) h2 fun H2 s2=>?_;refine hh H₀ H2 O σ ds hd _ _ ((o.mono s1).mono s2) h3 fun H3 s3=>?_;rw[r1.str'];exact⟨_,rfl,hc,q _ H3 ((s1.trans s2).trans s3) (.str _)⟩
 . cases e
end
section
variable{X:Cx}{E:XK}{C:aA}
theorem pe_or{e:Expr}{t u:TE}(h1:PE X e t)(h2:PE X e u):PE X e (fun σ H Q=>t σ H Q\/u σ H Q):=fun aC s σ H Q I h=>h.elim (h1 aC s σ H Q I) (h2 aC s σ H Q I)
section
variable{x:Str}{p pos:Pos}{e:Expr}{t k j:Nat}{G:List D->Option (List D)}{y:List Sl->Bool}
end
end
end FL
namespace L2
open PySem PySem.Spec PyProof.Rows
section
variable{prog:bG}{w:bU}{A:bZ}{E:aB->aE->Prop}{s:aE}
theorem sK{h h':Heap}{l it:aA}{items:Array aB}(hl:h.IsList l items)(hs:Heap.SameBut it h h')(hne:l≠it):h'.IsList l items:=by
 obtain⟨o,ho,r⟩:=hl;exact⟨o,(hs.2 l hne).trans ho,r⟩
theorem MG{it l:aA}{items:Array aB}(hne:l≠it):∀(n i:Nat) (s:aE) (Q:List aB->aE->Prop),s.heap.IsListIter it l i->s.heap.IsList l items->i+n<=items.size →
  (∀h',h'.IsListIter it l (i+n)->Heap.SameBut it s.heap h'->Q ((items.toList.drop i).take n) { s with heap:=h' })->bL (bM prog w) A (draw (.ref it) n) Q E s
 | 0, i, s, Q, hit, _, _, hQ => by
   show bL _ _ (pure []) Q E s;exact cA (by simpa using hQ s.heap hit (Heap.SameBut.refl ..))
 | n + 1, i, s, Q, hit, ht, hle, hQ => by
   have hlt:i<items.size:=by omega
   show bL _ _ (pyNext (.ref it) >>= _) Q E s;refine bC (wpAny_pyNext_list_item hit ht (x:=items[i]) (by simp[hlt]) fun h₁ hit₁ hs₁=>?_);refine bC (fP (MG hne n (i+1) _ _ hit₁ (sK ht hs₁ hne) (by omega) fun h₂ hit₂ hs₂=>cA ?_));have hd:items.toList.drop i=items[i]::items.toList.drop (i+1):=by simp[cK,hlt]
   have:=hQ h₂ (by rw[show i+(n+1)=i+1+n by omega];exact hit₂) (hs₁.trans hs₂);rw[hd,List.take_succ_cons] at this;exact this
theorem BK{l:aA}{items:Array aB}{Q:List aB->aE->Prop}(hh:A.handled=none)(ht:s.heap.IsList l items)(hQ:∀h',Heap.ExtBut s.heap.objs.size s.heap h'->Q items.toList { s with heap:=h' }):bL (bM prog w) A (unpackItems (.ref l) items.size none) Q E s:=by
 have hlt:l≠s.heap.objs.size:=by obtain⟨o,ho,_⟩:=ht;exact bO (bF ho)
 unfold unpackItems;refine bC ?_
 . unfold notIterableAtAll;refine bC (tY ht.typeIs F.slot_list_iter.lookup ?_);refine cA ?_;simp only [oM,if_false];refine bC (fP (IQ ht ?_));refine bC (fP (MG hlt items.size 0 _ _ ⟨_,bD _ rfl,rfl,rfl⟩ (ht.push _) (by omega) fun h₁ hit₁ hs₁=>?_))
   have hall:List.take items.size (List.drop 0 items.toList)=items.toList:=by
    rw[List.drop_zero];exact lF (by simp)
   rw[hall];rw[if_neg (by simp)];have ht₁ : h₁.IsList l items:=sK (ht.push _) hs₁ hlt;refine bC (fP (wpAny_pyNext_list_end hh hit₁ ht₁ (by simp) fun h₂ he₂=>?_));simp only[Option.isSome_none,oM,if_false];refine cA (hQ h₂ fun b o hb e=>he₂ b o hb (hs₁.extBut b o hb (aQ _ e)))
theorem AW{env:Env}{elts:List Expr}{x1}{pos:Pos}{l:aA}{items:Array aB}{Q:Unit->aE->Prop}(hh:A.handled=none)(ht:s.heap.IsList l items)(hn:(dM elts env).length=items.size)(hstar:(dM elts env).findIdx? (·.1)=none)(h:∀h',Heap.ExtBut s.heap.objs.size s.heap h'->bL (bM prog w) A (assignInOrder ((dM elts env).map (·.2)) items.toList) Q E { s with heap:=h' }) :
  bL (bM prog w) A (pK (.Tuple elts x1 pos) env (.ref l)) Q E s:=by
 rw[arm_assign_Tuple];refine bC (DQ ?_);unfold unpack;rw[hn,hstar];exact bC (fP (BK hh ht h))
end
section
variable{X:Cx}{pos:Pos}
def gLst(K:aM)(n:Nat)(t:TGs):TG:=fun v σ H Q=>∃a xs,v=.ref a/\SqL K H a xs/\xs.length=n/\t xs σ H Q
theorem pg_lst{es:List Expr}{k:Nat}{t:TGs}{n:Nat}(hc:X.calm=true)(h:PGs X es t)(hn:(dM es X.env).length=n:=by rfl)(hst:(dM es X.env).findIdx? (·.1)=none:=by rfl):PG X (.Tuple es k pos) (gLst X.K n t):=by
 intro aC s σ H v u Q I r hw;obtain⟨a,xs,e1,hq,hl,hw⟩:=hw;subst e1;cases r;obtain⟨its,rv,pl,hz⟩:=I.list hq;refine AW (I.ok.hd hc) pl.isList (by simp[hn,<- hl,rv.length]) hst fun h' hx=>?_;have I1:Inv X aC σ H { s with heap:=h' }:=I.kept (t':=s.toks) fun b o e=>hx b o (bO (bF e)) e;exact h aC _ σ H xs _ Q I1 (by simpa using rv) hw
end
end L2
namespace FL
open PySem PySem.Spec PyProof.Rows L2
section
variable{X:Cx}
theorem WM{es:List Expr}{k:Nat}{pos:Pos}{h:List D->List Sl->Option (List Sl)}{n:Nat}(hc:X.calm=true)(hh:PGsv X es h)(hn:(dM es X.env).length=n:=by rfl)(hst:(dM es X.env).findIdx? (·.1)=none:=by rfl):PGv X (.Tuple es k pos) (lstG n h):=by
 obtain⟨t,ht,hf⟩:=hh;refine⟨_,pg_lst hc ht hn hst,fun H₀ H O σ ds hd v d ds' Q o r e q=>?_⟩;cases d with
 | lst l =>
   simp only[lstG] at e
   split at e
   . rename_i hl;obtain⟨a,xs,rfl,hs,rs⟩:=WRep.seqL (.inl r);exact⟨a,xs,rfl,hs,by rw[rs.length];exact hl,hf H₀ H O σ ds hd xs l ds' Q o rs e q⟩
   . cases e
 |_=>cases e
end
section
variable{K:Frag}{H H' H₀ : Hp}{O O':aA->Prop}
abbrev orL(fs:List aA)(O:aA->Prop):aA->Prop:=fun b=>b∈fs\/O b
theorem Rep.moreL{v:V}{d:D}:∀{ps:List aA},(∀p∈ps,H p=none)->Rep K H O v d->Rep K H (orL ps O) v d
 |[],_,h=>h.less fun a z=>z.elim (fun q=>nomatch q) id
 |p::ps,hp,h=>((Rep.moreL (ps:=ps) (fun q hq=>hp q (.tail _ hq)) h).more (p:=p) (hp p (.head _))).less fun a z=>z.elim (fun q=>(aD.mp q).elim .inl fun q=>.inr (.inl q)) fun q=>.inr (.inr q)
theorem Reps.moreL{v:List V}{d:List D}:∀{ps:List aA},(∀p∈ps,H p=none)->Reps K H O v d->Reps K H (orL ps O) v d
 |[],_,h=>h.less fun a z=>z.elim (fun q=>nomatch q) id
 |p::ps,hp,h=>((Reps.moreL (ps:=ps) (fun q hq=>hp q (.tail _ hq)) h).more (p:=p) (hp p (.head _))).less fun a z=>z.elim (fun q=>(aD.mp q).elim .inl fun q=>.inr (.inl q)) fun q=>.inr (.inr q)
theorem RepO.moreL{v:V}{t:OT}{fs:List aA}:∀{ps:List aA},(∀p∈ps,H p=none)->RepO K H O v t fs->RepO K H (orL ps O) v t fs
 |[],_,h=>h.less (fun a z=>z.elim (fun q=>nomatch q) id) fun b hb=>.inr (h.owns b hb).1
 |p::ps,hp,h=>((RepO.moreL (ps:=ps) (fun q hq=>hp q (.tail _ hq)) h).more (p:=p) (hp p (.head _))).less (fun a z=>z.elim (fun q=>(aD.mp q).elim .inl fun q=>.inr (.inl q)) fun q=>.inr (.inr q)) fun b hb=>.inr (h.owns b hb).1
theorem Ok.moreL{σ : L2.St}{ds:List Sl}{hd:Hold}{fs:List aA}(o:Ok K H₀ H O σ ds hd)(s:Same H H')(hn:∀b∈fs,H b=none)(hl:∀b∈fs,∃u:MutHO,H' b=some u.1):Ok K H₀ H' (orL fs O) σ ds hd:=by
 refine⟨o.same.trans s,o.fresh,fun b hb=>hb.elim (hl b) fun z=>let ⟨xs,e⟩:=o.dom b z;⟨xs,s _ _ e⟩,o.len,fun i sl e=>?_,o.apart,fun p hp=>?_,o.obs.tr (fun _ _ _ r _=>(r.moreL hn).mono s) (fun _ _ _ e=>⟨e,rfl⟩) fun _ _ oj ej=>.inl ⟨oj,ej⟩⟩
 . cases sl with
   |no=>exact jQ
   |ob r t=>exact xG
   | exc t =>
     obtain⟨a',C',ob',u',q1,q2,q3,q4⟩:=o.readX e;rw[q1];exact⟨C',ob',u',q2,s _ _ q3,q4⟩
   | fr l' =>
     obtain⟨a',xs',q1,q2,q0,q3,q4⟩:=o.readF e;rw[q1];exact⟨fun z=>z.elim (fun z=>by rw[hn _ z] at q3;cases q3) q2,q0,xs',s _ _ q3,(q4.moreL hn).mono s⟩
   | v d =>
     obtain⟨v,h1,h2⟩:=o.read e;rw[h1];exact yQ ((h2.moreL hn).mono s)
   | own l' =>
     obtain⟨b,ys,h1,h2,h3,h4⟩:=o.readO e;rw[h1];exact⟨.inr h2,ys,s _ _ h3,(h4.moreL hn).mono s⟩
 . have := o.hold p hp;cases p with
   |rep v d=>exact(Rep.moreL hn this).mono s
   |base B=>exact fun b hb=>⟨.inr (this b hb).1,(this b hb).2⟩
   |root k a=>exact True.intro
   |fz a' o' kvs' l'=>exact⟨fun z=>z.elim (fun z=>by have:=this.2.1;rw[hn _ z] at this;cases this) this.1,s _ _ this.2.1,(Reps.moreL hn this.2.2).mono s⟩
theorem Ok.setOb{σ : L2.St}{ds:List Sl}{hd:Hold}{fs:List aA}{i:Nat}{v:V}{t:OT}(o:Ok K H₀ H O σ ds hd)(s:Same H H')(r:RepO K H' (orL fs O) v t fs)(nd:fs.Nodup)(hn:∀b∈fs,H b=none) :
  Ok K H₀ H' (orL fs O) (σ.set i (some v)) (ds.set i (.ob none t)) hd:=by
 have o1:Ok K H₀ H' (orL fs O) σ ds hd:=o.moreL s hn fun b hb=>(r.owns b hb).2;have own':∀{j:Nat},IsOwn (ds.set i (.ob none t)) j->IsOwn ds j/\j≠i:=fun h=>vG (fun l=>by intro z;cases z) h;refine⟨o1.same,fun j l a e1 e2=>?_,o1.dom,by simpa using o1.len,fun j sl e=>?_,fun j k a hjk hj hk e1 e2=>?_,o1.hold,?_⟩
 . obtain⟨⟨l', e'⟩, n1⟩ := own' ⟨l, e1⟩;rw[aF (Ne.symm n1)] at e2;exact o1.fresh j l' a e' e2
 . by_cases hj : j = i
   . subst hj
     by_cases hl:j<ds.length
     . rw[aX hl] at e;cases e;exact xG
     . rw[bW (by simpa using hl)] at e;cases e
   . rw[aF (Ne.symm hj)] at e;rw[aF (Ne.symm hj)];exact o1.sl j sl e
 . obtain⟨h1, n1⟩ := own' hj;obtain⟨h2,n2⟩:=own' hk;rw[aF (Ne.symm n1)] at e1;rw[aF (Ne.symm n2)] at e2;exact o1.apart j k a hjk h1 h2 e1 e2
 . obtain ⟨F, hF⟩ := o.obs
   have ne:∀{j:Nat} {r':Option Nat} {t':OT},ds[j]?=some (.ob r' t')->∀b∈F j,b∉fs:=fun {j r' t'} e b hb z=>by
    obtain⟨w,_,q,_⟩:=hF j r' t' e;obtain⟨_,xs,ex⟩:=q.owns b hb;rw[hn b z] at ex;cases ex
   refine⟨fun j=>if j=i then fs else F j,fun j r' t' e=>?_⟩
   by_cases hj:j=i
   . subst hj
     by_cases hl:j<ds.length
     . rw [aX hl] at e;cases e;refine ⟨v,by rw [aX (by rw [o.len]; exact hl)],by simpa using r,(fun k a z=>by cases z),by simpa using nd,fun b hb=>?_⟩;have hb:b∈fs:=by simpa using hb
       refine⟨o.same.free (hn b hb),fun k r2 t2 hk e2 z=>?_,fun k ok ek=>?_⟩
       . simp only[hk, if_false] at z;rw[aF (Ne.symm hk)] at e2;exact ne e2 b z hb
       . obtain⟨⟨l2, e2⟩, hk⟩ := own' ok;rw[aF (Ne.symm hk)] at ek;obtain⟨b',ys,q1,_,q3,_⟩:=o.readO e2;rw[ek] at q1;cases q1;rw[hn b hb] at q3;cases q3
     . rw[bW (by simpa using hl)] at e;cases e
   . rw [aF (Ne.symm hj)] at e;obtain ⟨w,h1,h2,h3,h4,h5⟩:=hF j r' t' e;refine ⟨w,by rw [aF (Ne.symm hj)]; exact h1,by simp only [hj,if_false]; exact (h2.moreL hn).mono s,h3,by simpa [hj] using h4,fun b hb=>?_⟩;have hb:b∈F j:=by simpa [hj] using hb
     refine⟨(h5 b hb).1,fun k r2 t2 hk e2 z=>?_,fun k ok ek=>?_⟩
     . by_cases hki : k = i
       . simp only[hki, if_true] at z;exact ne e b hb z
       . simp only[hki, if_false] at z;rw[aF (Ne.symm hki)] at e2;exact(h5 b hb).2.1 k r2 t2 hk e2 z
     . obtain⟨ok', hk⟩ := own' ok;rw[aF (Ne.symm hk)] at ek;exact(h5 b hb).2.2 k ok' ek
inductive Kid(H:Hp)(b:aA):List V->Prop
 |tup {xs:List V} (h:Rd H b (.tup xs)):Kid H b xs
 |lst {xs:List V} (h:H b=some (.lst xs)):Kid H b xs
 |dct {kvs:List (Key×V)} (h:H b=some (.dK kvs)):Kid H b (kvs.map (·.2))
 |ins {C dx:aA} {kvs:List (Str×V)} (h:H b=some (.ins C dx kvs)):Kid H b (kvs.map (·.2))
noncomputable def PathV(H:Hp):V->List Nat->V->Prop
 |v,[],w=>w=v
 |v,k::p,w=>∃b xs x,v=.ref b/\Kid H b xs/\xs[k]?=some x/\PathV H x p w
theorem Kid.det{b:aA}{xs ys:List V}(h:Kid H b xs)(g:Kid H b ys):xs=ys:=by
 have rd:∀{zs ws:List V},Rd H b (.tup zs)->Rd H b (.tup ws)->zs=ws:=fun h g=>by
  rcases h with h | ⟨o,h⟩<;>rcases g with g | ⟨o',g⟩<;>rw[h] at g<;>cases g<;>rfl
 have no:∀{zs:List V} {u:HO},Rd H b (.tup zs)->H b=some u->(∀ws,u≠.tup ws)->(∀o w,u≠.frz o w)->False:=fun h g n1 n2=>by
  rcases h with h | ⟨o,h⟩<;>rw[h] at g<;>cases g
  . exact n1 _ rfl
  . exact n2 _ _ rfl
 cases h with
 | tup h => cases g with
   |tup g=>exact rd h g
   |lst g=>exact(no h g (fun _ z=>by cases z) (fun _ _ z=>by cases z)).elim
   |dct g=>exact(no h g (fun _ z=>by cases z) (fun _ _ z=>by cases z)).elim
   |ins g=>exact(no h g (fun _ z=>by cases z) (fun _ _ z=>by cases z)).elim
 | lst h => cases g with
   |tup g=>exact(no g h (fun _ z=>by cases z) (fun _ _ z=>by cases z)).elim
   |lst g=>rw[h] at g;cases g;rfl
   |dct g=>rw[h] at g;cases g
   |ins g=>rw[h] at g;cases g
 | dct h => cases g with
   |tup g=>exact(no g h (fun _ z=>by cases z) (fun _ _ z=>by cases z)).elim
   |lst g=>rw[h] at g;cases g
   |dct g=>rw[h] at g;cases g;rfl
   |ins g=>rw[h] at g;cases g
 | ins h => cases g with
   |tup g=>exact(no g h (fun _ z=>by cases z) (fun _ _ z=>by cases z)).elim
   |lst g=>rw[h] at g;cases g
   |dct g=>rw[h] at g;cases g
   |ins g=>rw[h] at g;cases g;rfl
theorem xJ:∀{p:List Nat} {v x y:V},PathV H v p x->PathV H v p y->x=y
 |[],v,x,y,h,g=>h.trans g.symm
 | k :: p, v, x, y, ⟨b, xs, z, h1, h2, h3, h4⟩, ⟨b', xs', z', g1, g2, g3, g4⟩ => by
   rw[h1] at g1;cases g1;cases h2.det g2;rw[h3] at g3;cases g3;exact xJ h4 g4
theorem LP:∀{p:List Nat} {k:Nat} {v x:V} {b:aA} {xs:List V},PathV H v p (.ref b)->Kid H b xs->xs[k]?=some x->PathV H v (p++[k]) x
 |[],k,v,x,b,xs,h,hk,hx=>⟨b,xs,x,h.symm,hk,hx,rfl⟩
 |j::p,k,v,x,b,xs,⟨c,ys,y,h1,h2,h3,h4⟩,hk,hx=>⟨c,ys,y,h1,h2,h3,LP h4 hk hx⟩
theorem wU:∀(p:List Nat) (k:Nat) (t:OT),subO (p++[k]) t=(subO p t).bind (subO [k])
 |[],k,t=>by simp[subO]
 | j :: p, k, t => by
   cases t with
   |val d=>simp[subO]
   |lst l=>simp only[dZ,subO];cases l[j]?<;>simp[wU p k]
   |tup l=>simp only[dZ,subO];cases l[j]?<;>simp[wU p k]
   |dct ks l=>simp only[dZ,subO];cases l[j]?<;>simp[wU p k]
   |ins c l=>simp only[dZ,subO];cases l[j]?<;>simp[wU p k]
theorem RepsO.length:∀{xs:List V} {ts:List OT} {fs:List aA},RepsO K H O xs ts fs->xs.length=ts.length
 |_,_,_,.nil=>rfl
 |_,_,_,.cons _ r=>by simp[RepsO.length r]
theorem RepsO.pick:∀{xs:List V} {ts:List OT} {fs:List aA} {k:Nat} {t:OT},RepsO K H O xs ts fs->ts[k]?=some t->∃(x:V) (pre f post:List aA),xs[k]?=some x/\fs=pre++(f++post)/\RepO K H O x t f ∧
  ∀{H':Hp} {O':aA->Prop} {g:OT->OT} {f':List aA},RepO K H' O' x (g t) f'->(∀y s e,RepO K H O y s e->(∀b∈e,b∈pre\/b∈post)->RepO K H' O' y s e)->RepsO K H' O' xs (ts.modify k g) (pre++(f'++post))
 | _, _, _, 0, t, .cons (x := x) (fs := f) (gs := gs) h r, e => by
   simp only[cC,Option.some.injEq] at e;subst e;refine⟨x,[],f,gs,rfl,rfl,h,fun {H' O' g f'} h' ho=>?_⟩
   have:∀{xs:List V} {ts:List OT} {gs':List aA},RepsO K H O xs ts gs'->(∀b∈gs',b∈gs)->RepsO K H' O' xs ts gs':=by
    intro xs ts gs' h
    induction xs generalizing ts gs' with
    |nil=>intro _;cases h;exact .nil
    | cons y ys ih =>
      intro hb;cases h with
      |cons h1 h2=>exact .cons (ho _ _ _ h1 fun b z=>.inr (hb b (aW _ z))) (ih h2 fun b z=>hb b (aI _ z))
   show RepsO K H' O' _ _ (f'++gs);exact .cons h' (this r fun _ z=>z)
 | _, _, _, k + 1, t, .cons (x := x) (t := t0) (fs := f0) (gs := gs) h r, e => by
   obtain⟨y,pre,f,post,h1,h2,h3,h4⟩:=RepsO.pick (k:=k) (t:=t) r (by simpa using e);refine⟨y,f0++pre,f,post,by simpa using h1,by rw[h2];simp,h3,fun {H' O' g f'} h' ho=>?_⟩;have q:=h4 h' fun z s e' hz hb=>ho z s e' hz fun b hb'=>(hb b hb').elim (fun z=>.inl (aI _ z)) .inr;have:=RepsO.cons (ho _ _ _ h fun b hb=>.inl (aW _ hb)) q;simpa[eS] using this
theorem LU{pre f post:List aA}(nd:(pre++(f++post)).Nodup):f.Nodup/\(∀b∈f,b∉pre/\b∉post)/\∀(f':List aA),f'.Nodup->(∀b∈f',b∈f\/(b∉pre/\b∉post))->(pre++(f'++post)).Nodup:=by
 rw[eD] at nd;obtain⟨n1,n2,n3⟩:=nd;rw[eD] at n2;obtain⟨n4,n5,n6⟩:=n2;have ap:∀b∈f,b∉pre/\b∉post:=fun b hb=>⟨fun z=>n3 b z b (aW _ hb) rfl,fun z=>n6 b hb b z rfl⟩
 refine⟨n4,ap,fun f' hf hs=>?_⟩;have ap':∀b∈f',b∉pre/\b∉post:=fun b hb=>(hs b hb).elim (ap b) id;rw[eD];refine⟨n1,?_,fun a ha b hb e=>?_⟩
 . rw[eD];exact⟨hf,n5,fun a ha b hb e=>(ap' a ha).2 (e▸hb)⟩
 . rcases bJ.mp hb with z | z
   . exact(ap' b z).1 (e▸ha)
   . exact n3 a ha b (aI _ z) e
structure Chg(H H':Hp)(O O':aA->Prop)(f:List aA)(f':List aA):Prop where
 keep:∀b u,¬O b->H b=some u->H' b=some u
 rest:∀b u,O b->b∉f->H b=some u->H' b=some u
 sub:∀b,O b->b∉f->O' b
 new:∀b,O' b->O b\/(b∈f'/\H b=none)
 fp:∀b∈f',b∈f\/H b=none
theorem Chg.rep{f f':List aA}(c:Chg H H' O O' f f'){v:V}{d:D}(r:Rep K H O v d):Rep K H' O' v d:=by
 have hn:∀p∈f'.filter (fun b=>(H b).isNone),H p=none:=fun p hp=>by simpa using(dW.mp hp).2
 have r1:=(r.moreL hn).keep (H':=H') fun b u hb e=>c.keep b u (fun z=>hb (.inr z)) e;exact r1.less (O':=O') fun a z=>(c.new a z).elim .inr fun q=>.inl (dW.mpr ⟨q.1,by rw[q.2];rfl⟩)
theorem Chg.reps{f f':List aA}(c:Chg H H' O O' f f'){v:List V}{d:List D}(r:Reps K H O v d):Reps K H' O' v d:=by
 have hn:∀p∈f'.filter (fun b=>(H b).isNone),H p=none:=fun p hp=>by simpa using(dW.mp hp).2
 have r1:=(r.moreL hn).keep (H':=H') fun b u hb e=>c.keep b u (fun z=>hb (.inr z)) e;exact r1.less (O':=O') fun a z=>(c.new a z).elim .inr fun q=>.inl (dW.mpr ⟨q.1,by rw[q.2];rfl⟩)
theorem Chg.repO{f f':List aA}(c:Chg H H' O O' f f'){v:V}{t:OT}{e:List aA}(r:RepO K H O v t e)(he:∀b∈e,b∉f):RepO K H' O' v t e:=by
 have hn:∀p∈f'.filter (fun b=>(H b).isNone),H p=none:=fun p hp=>by simpa using(dW.mp hp).2
 have r1:=(r.moreL hn).keep (H':=H') (fun b u hb e=>c.keep b u (fun z=>hb (.inr z)) e) fun b hb u eb=>c.rest b u (r.owns b hb).1 (he b hb) eb;exact r1.less (O':=O') (fun a z=>(c.new a z).elim .inr fun q=>.inl (dW.mpr ⟨q.1,by rw[q.2];rfl⟩)) fun b hb=>c.sub b (r.owns b hb).1 (he b hb)
theorem RepO.modAt:∀(p:List Nat) {v:V} {t u:OT} {fs:List aA},RepO K H O v t fs->fs.Nodup->subO p t=some u->∃w f,PathV H v p w/\RepO K H O w u f/\f.Nodup/\(∀b∈f,b∈fs) ∧
  ∀{H':Hp} {O':aA->Prop} {u':OT} {f':List aA},Chg H H' O O' f f'->RepO K H' O' w u' f'->f'.Nodup->∃fs',RepO K H' O' v (putO u' p t) fs'/\fs'.Nodup/\(∀b∈fs',b∈fs\/b∈f')/\∀b∈f',b∈fs'
 | [], v, t, u, fs, r, nd, e => by
   cases e;exact⟨v,fs,rfl,r,nd,fun _ h=>h,fun {H' O' u' f'} c r' nd'=>⟨f',r',nd',fun b hb=>.inr hb,fun b hb=>hb⟩⟩
 | k :: p, v, t, u, fs, r, nd, e => by
   have core:∀{xs:List V} {ts:List OT} {gs:List aA},RepsO K H O xs ts gs->gs.Nodup->(ts[k]?).bind (subO p)=some u->∃x w f,xs[k]?=some x/\PathV H x p w/\RepO K H O w u f/\f.Nodup/\(∀b∈f,b∈gs) ∧
     ∀{H':Hp} {O':aA->Prop} {u':OT} {f':List aA},Chg H H' O O' f f'->RepO K H' O' w u' f'->f'.Nodup->∃gs',RepsO K H' O' xs (ts.modify k (putO u' p)) gs'/\gs'.Nodup/\(∀b∈gs',b∈gs\/b∈f')/\∀b∈f',b∈gs':=by
    intro xs ts gs rs nds es;obtain⟨t1,ht,es⟩:=bnd es;obtain⟨x,pre,f0,post,h1,rfl,h3,h4⟩:=rs.pick ht;obtain⟨nf,nfr,nre⟩:=LU nds;obtain⟨w,f,g1,g2,g3,g4,g5⟩:=RepO.modAt p h3 nf es;have inn:∀b∈f,b∈pre++(f0++post):=fun b hb=>aI _ (aW _ (g4 b hb));refine⟨x,w,f,h1,g1,g2,g3,inn,fun {H' O' u' f'} c r' nd'=>?_⟩;obtain⟨f1,q1,q2,q3,q4⟩:=g5 c r' nd'
    have old:∀b,b∈pre++(f0++post)->H b≠none:=fun b hb z=>by
     obtain⟨_,y,ey⟩:=rs.owns b hb;rw[z] at ey;cases ey
    refine⟨pre++(f1++post),h4 (g:=putO u' p) q1 fun y s e hy hb=>c.repO hy fun b hb' z=>?_,nre f1 q2 fun b hb=>?_,fun b hb=>?_,fun b hb=>aI _ (aW _ (q4 b hb))⟩
    . exact(hb b hb').elim (nfr b (g4 b z)).1 (nfr b (g4 b z)).2
    . rcases q3 b hb with z | z
      . exact .inl z
      . rcases c.fp b z with y | y
        . exact .inl (g4 b y)
        . exact .inr ⟨fun q=>old b (aW _ q) y,fun q=>old b (aI _ (aI _ q)) y⟩
    . rcases bJ.mp hb with z | z
      . exact .inl (aW _ z)
      . rcases bJ.mp z with z | z
        . exact(q3 b z).imp (fun z=>aI _ (aW _ z)) id
        . exact .inl (aI _ (aI _ z))
   have head:∀{a0:aA} {gs gs' f f':List aA} {H':Hp} {O':aA->Prop},(a0::gs).Nodup->O a0->H a0≠none->Chg H H' O O' f f'->gs'.Nodup->(∀b∈gs',b∈gs\/b∈f')->(∀b∈f,b∈gs)->(a0::gs').Nodup/\(∀b∈a0::gs',b∈a0::gs\/b∈f')/\a0∉f:=by
    intro a0 gs gs' f f' H' O' nd0 oa ha c ndg hg hf;obtain⟨n0,_⟩:=bR.mp nd0;refine⟨bR.mpr ⟨fun z=>?_,ndg⟩,fun b hb=>?_,fun z=>n0 (hf a0 z)⟩
    . rcases hg a0 z with y | y
      . exact n0 y
      . exact(c.fp a0 y).elim (fun q=>n0 (hf a0 q)) ha
    . rcases aD.mp hb with rfl | z
      . exact .inl (.head _)
      . exact(hg b z).imp (fun y=>.tail _ y) id
   cases r with
   |val r=>simp[subO] at e
   | tup n h r =>
     obtain⟨x,w,f,h1,g1,g2,g3,g4,g5⟩:=core r nd e;refine⟨w,f,⟨_,_,x,rfl,.tup h,h1,g1⟩,g2,g3,g4,fun {H' O' u' f'} c r' nd'=>?_⟩;obtain⟨gs',q1,q2,q3,q4⟩:=g5 c r' nd';refine⟨gs',?_,q2,q3,q4⟩;have kk:Keep O H H':=fun b u hb eb=>c.keep b u hb eb;exact .tup (fun z=>(c.new _ z).elim n fun q=>Rd.some h q.2) (kk.rd n h) q1
   | lst n h r =>
     obtain⟨x,w,f,h1,g1,g2,g3,g4,g5⟩:=core r (bR.mp nd).2 e;refine⟨w,f,⟨_,_,x,rfl,.lst h,h1,g1⟩,g2,g3,fun b hb=>.tail _ (g4 b hb),fun {H' O' u' f'} c r' nd'=>?_⟩;obtain⟨gs',q1,q2,q3,q4⟩:=g5 c r' nd';obtain⟨k1,k2,k3⟩:=head nd n (by rw[h];simp) c q2 q3 g4;exact⟨_::gs',.lst (c.sub _ n k3) (c.rest _ _ n k3 h) q1,k1,k2,fun b hb=>.tail _ (q4 b hb)⟩
   | dct n h he r =>
     obtain⟨x,w,f,h1,g1,g2,g3,g4,g5⟩:=core r (bR.mp nd).2 e;refine⟨w,f,⟨_,_,x,rfl,.dct h,h1,g1⟩,g2,g3,fun b hb=>.tail _ (g4 b hb),fun {H' O' u' f'} c r' nd'=>?_⟩;obtain⟨gs',q1,q2,q3,q4⟩:=g5 c r' nd';obtain⟨k1,k2,k3⟩:=head nd n (by rw[h];simp) c q2 q3 g4;exact⟨_::gs',.dct (c.sub _ n k3) (c.rest _ _ n k3 h) he q1,k1,k2,fun b hb=>.tail _ (q4 b hb)⟩
   | ins hc n h he r =>
     obtain⟨x,w,f,h1,g1,g2,g3,g4,g5⟩:=core r (bR.mp nd).2 e;refine⟨w,f,⟨_,_,x,rfl,.ins h,h1,g1⟩,g2,g3,fun b hb=>.tail _ (g4 b hb),fun {H' O' u' f'} c r' nd'=>?_⟩;obtain⟨gs',q1,q2,q3,q4⟩:=g5 c r' nd';obtain⟨k1,k2,k3⟩:=head nd n (by rw[h];simp) c q2 q3 g4;exact⟨_::gs',.ins hc (c.sub _ n k3) (c.rest _ _ n k3 h) he q1,k1,k2,fun b hb=>.tail _ (q4 b hb)⟩
theorem Ok.modAt{σ : L2.St}{ds:List Sl}{hd:Hold}{i:Nat}{r:Option Nat}{t u:OT}{p:List Nat}(o:Ok K H₀ H O σ ds hd)(e:ds[i]?=some (.ob r t))(hs:subO p t=some u) :
  ∃v w f,σ[i]?=some (some v)/\PathV H v p w/\RepO K H O w u f/\f.Nodup/\(∀b∈f,H₀ b=none) ∧
   ∀{H':Hp} {O':aA->Prop} {u':OT} {f':List aA},Chg H H' O O' f f'->(∀b∈f,O' b->∃y:MutHO,H' b=some y.1)->RepO K H' O' w u' f'->f'.Nodup->Ok K H₀ H' O' σ (ds.set i (.ob r (putO u' p t))) hd:=by
 obtain⟨F,hF⟩:=o.obs;obtain⟨v,h1,h2,h3,h4,h5⟩:=hF i r t e;obtain⟨w,f,g1,g2,g3,g4,g5⟩:=h2.modAt p h4 hs;have hl:i<ds.length:=(aV.mp e).1;refine⟨v,w,f,h1,g1,g2,g3,fun b hb=>(h5 b (g4 b hb)).1,fun {H' O' u' f'} c hf r' nd'=>?_⟩;obtain⟨fs',q1,q2,q3,q4⟩:=g5 c r' nd';have own':∀{j:Nat},IsOwn (ds.set i (.ob r (putO u' p t))) j->IsOwn ds j/\j≠i:=fun h=>vG (fun l=>by intro z;cases z) h;have nown:∀{j:Nat} {b:aA},IsOwn ds j->σ[j]?=some (some (.ref b))->b∉f:=fun {j b} oj ej z=>(h5 b (g4 b z)).2.2 j oj ej;have free0:∀b,H b=none->H₀ b=none:=fun b hb=>o.same.free hb;refine⟨fun b x eb=>?_,fun j l b e1 e2=>?_,fun b hb=>?_,by simpa using o.len,fun j sl es=>?_,fun j m b hjm hj hm e1 e2=>o.apart j m b hjm (own' hj).1 (own' hm).1 e1 e2,fun q hq=>?_,?_⟩
 . have hb := o.same b x eb
   by_cases ob:O b
   . by_cases bf : b ∈ f
     . rw[(h5 b (g4 b bf)).1] at eb;cases eb
     . exact c.rest b x ob bf hb
   . exact c.keep b x ob hb
 . obtain⟨⟨l', e'⟩, _⟩ := own' ⟨l, e1⟩;exact o.fresh j l' b e' e2
 . rcases c.new b hb with z | z
   . by_cases bf : b ∈ f
     . exact hf b bf hb
     . obtain⟨y, ey⟩ := o.dom b z;exact⟨y,c.rest b _ z bf ey⟩
   . exact(r'.owns b z.1).2
 . by_cases hj : j = i
   . subst hj;rw[aX hl] at es;cases es;exact xG
   . rw [aF (Ne.symm hj)] at es;cases sl with
     |no=>exact jQ
     |ob r t=>exact xG
     | exc t =>
       obtain⟨a',C',ob',x',q1,q2,q3,q4⟩:=o.readX es;rw[q1];refine⟨C',ob',x',q2,c.keep _ _ (fun z=>?_) q3,q4⟩;obtain⟨y,ey⟩:=o.dom _ z;rw[q3] at ey;have h2:=y.2;rw[<- Option.some.inj ey] at h2;cases h2
     | fr l' =>
       obtain⟨a',xs'',q1,q2,q0,q3,q4⟩:=o.readF es;rw[q1];exact⟨fun z=>(c.new _ z).elim q2 (fun y=>by rw[y.2] at q3;cases q3),q0,xs'',c.keep _ _ q2 q3,c.reps q4⟩
     | v d =>
       obtain⟨v,q1,q2⟩:=o.read es;rw[q1];exact yQ (c.rep q2)
     | own l'' =>
       obtain⟨b,ys,q1,q2,q3,q4⟩:=o.readO es;rw[q1];exact⟨c.sub _ q2 (nown ⟨l'',es⟩ q1),ys,c.rest _ _ q2 (nown ⟨l'',es⟩ q1) q3,c.reps q4⟩
 . have := o.hold q hq;cases q with
   |rep v d=>exact c.rep this
   |base B=>exact fun b hb=>⟨c.sub _ (this b hb).1 (fun z=>(this b hb).2 (h5 b (g4 b z)).1),(this b hb).2⟩
   |root k a=>exact True.intro
   |fz a' o' kvs' l'=>exact⟨fun z=>(c.new _ z).elim this.1 (fun y=>by have z:=this.2.1;rw[y.2] at z;cases z),c.keep _ _ this.1 this.2.1,c.reps this.2.2⟩
 . refine ⟨fun j => if j = i then fs' else F j, fun j r2 t2 ej => ?_⟩;have fsOld:∀ b∈fs',b∈F i \/ H b=none:=fun b hb=>(q3 b hb).elim .inl fun z=>(c.fp b z).imp (g4 b) id
   by_cases hj:j=i
   . subst hj;rw [aX hl] at ej;cases ej;refine ⟨v,h1,by simpa using q1,h3,by simpa using q2,fun b hb=>?_⟩;have hb:b∈fs':=by simpa using hb
     rcases fsOld b hb with z | z
     . refine⟨(h5 b z).1, fun m r3 t3 hm e3 y => ?_, fun m om em => (h5 b z).2.2 m (own' om).1 em⟩;simp only[hm,if_false] at y;rw[aF (Ne.symm hm)] at e3;exact(h5 b z).2.1 m r3 t3 hm e3 y
     . refine ⟨free0 b z, fun m r3 t3 hm e3 y => ?_, fun m om em => ?_⟩
       . simp only[hm, if_false] at y;rw[aF (Ne.symm hm)] at e3;obtain⟨_,_,w3,_⟩:=hF m r3 t3 e3;obtain⟨_,x3,ex3⟩:=w3.owns b y;rw[z] at ex3;cases ex3
       . obtain⟨⟨l3, e3⟩, _⟩ := own' om;obtain⟨b3,ys,y1,_,y3,_⟩:=o.readO e3;rw[em] at y1;cases y1;rw[z] at y3;cases y3
   . rw [aF (Ne.symm hj)] at ej;obtain ⟨w2,y1,y2,y3,y4,y5⟩:=hF j r2 t2 ej;have apart:∀ b∈F j,b ∉ f:=fun b hb z=>(h5 b (g4 b z)).2.1 j r2 t2 hj ej hb;refine ⟨w2,y1,by simp only [hj,if_false]; exact c.repO y2 apart,y3,by simpa [hj] using y4,fun b hb=>?_⟩;have hb:b∈F j:=by simpa [hj] using hb
     refine⟨(y5 b hb).1,fun m r3 t3 hm e3 z=>?_,fun m om em=>(y5 b hb).2.2 m (own' om).1 em⟩
     by_cases hmi:m=i
     . simp only [hmi, if_true] at z;rcases fsOld b z with x | x
       . exact(y5 b hb).2.1 i r t (fun z=>hj z.symm) e x
       . obtain⟨_, x3, ex3⟩ := y2.owns b hb;rw[x] at ex3;cases ex3
     . simp only[hmi, if_false] at z;rw[aF (Ne.symm hmi)] at e3;exact(y5 b hb).2.1 m r3 t3 hm e3 z
end
section
variable(X:Cx)
def PVo(e:Expr)(f:FO):Prop:=∃t,PE X e t/\∀H₀ H O σ ds hd T Q,Ok X.K H₀ H O σ ds hd->f ds=some T->(∀v H' fs,Same H H'->RepO X.K H' (orL fs O) v T fs->fs.Nodup->(∀b∈fs,H b=none)->Q v H')->t σ H Q
def PAo(es:List Expr)(f:FOs):Prop:=∃t,PA X es t/\∀H₀ H O σ ds hd T Q,Ok X.K H₀ H O σ ds hd->f ds=some T->(∀vs H' fs,Same H H'->RepsO X.K H' (orL fs O) vs T fs->fs.Nodup->(∀b∈fs,H b=none)->Q vs H')->t σ H Q
def PVp(e:Expr)(f:FP):Prop:=∃t,PE X e t/\∀H₀ H O σ ds hd q Q,Ok X.K H₀ H O σ ds hd->f ds=some q->(∀r T v w fs,ds[q.1]?=some (.ob r T)->subO q.2.1 T=some q.2.2->σ[q.1]?=some (some v)->PathV H v q.2.1 w->RepO X.K H O w q.2.2 fs->Q w H)->t σ H Q
end
section
variable{X:Cx}
theorem GG{K:Frag}{H:Hp}{O:aA->Prop}:∀{xs:List V} {l:List D},Reps K H O xs l->RepsO K H O xs (l.map OT.val) []
 |_,_,.nil=>.nil
 |_,_,.cons h t=>.cons (fs:=[]) (gs:=[]) (.val h) (GG t)
theorem LI{e:Expr}{f:FE}(h:PV X e f):PVo X e (vO f):=by
 obtain⟨t,ht,hf⟩:=h;refine⟨t,ht,fun H₀ H O σ ds hd T Q o e q=>?_⟩;unfold vO at e;obtain⟨d,h1,rfl⟩:=mpd e;exact hf H₀ H O σ ds hd d Q o h1 fun v H' s r=>q v H' [] s (.val (r.less fun a z=>z.elim (fun q=>nomatch q) id)) .nil (fun b hb=>nomatch hb)
theorem NJ:PAo X [] nilO:=⟨_,yW,fun _ H _ _ _ _ _ _ _ e q=>by cases e;exact q [] H [] (Same.refl _) .nil .nil (fun b hb=>nomatch hb)⟩
theorem aDl{es:List Expr}{pos:Pos}{g:FOs}(h:PAo X es g):PVo X (.List es pos) (sO g):=by
 obtain⟨t,ht,hf⟩:=h;refine⟨_,aEn ht,fun H₀ H O σ ds hd T Q o e q=>?_⟩;unfold sO at e;obtain⟨l,h1,e⟩:=bnd e
 split at e
 . rename_i hl;cases e;refine hf H₀ H O σ ds hd l _ o h1 fun vs H1 fs s1 r1 nd n1=>⟨by rw [r1.length]; exact hl,fun p hp=>?_⟩
   have r2:RepsO X.K (upd H1 p (.lst vs)) (orL (p::fs) O) vs l fs:=by
    have e1:∀a,orL (p::fs) O a->orL [p] (orL fs O) a:=fun a z=>z.elim (fun z=>(aD.mp z).elim (fun z=>.inl (by rw[z];exact .head _)) fun z=>.inr (.inl z)) fun z=>.inr (.inr z);have mm:RepsO X.K H1 (ins1 p (orL fs O)) vs l fs:=r1.more hp;exact(mm.mono (qP hp _)).less (fun a z=>(e1 a z).elim (fun z=>.inl (bA.mp z)) .inr) fun b hb=>.inl (.tail _ hb)
   refine q _ _ (p::fs) (s1.trans (qP hp _)) (.lst (.inl (.head _)) qE r2) (bR.mpr ⟨fun z=>?_,nd⟩) fun b hb=>?_
   . obtain⟨_, xs, ex⟩ := r1.owns p z;rw[hp] at ex;cases ex
   . rcases aD.mp hb with z | z
     . rw[z];exact s1.free hp
     . exact n1 b z
 . cases e
theorem kE{i:Nat}{x:Str}{e:Expr}{pos pos':Pos}{f:FO}(hN:X.N.Nodup)(he:PVo X e f)(hi:X.N[i]?=some x:=by rfl)(hx:Loc X.env.scope x:=by first | exact Or.inl rfl | exact Or.inr rfl)(hs:dI e (some (.Name x pos')) pos.line X.env=pure false:=by rfl)(hf:X.fn x=true\/X.env.scope.names.lookup x=some .local:=by first | exact .inl rfl | exact .inr rfl):PSv X (.Assign [.Name x pos'] e pos) (setB i f):=by
 obtain⟨t,ht,hg⟩:=he;refine⟨_,TV hN hi hx ht hs hf,(3:)⟩;unfold setB at e;obtain⟨T,h1,rfl⟩:=mpd e;exact hg H₀ H O σ ds hd T _ o h1 fun v H' fs s r nd n=>h _ _ _ (o.setOb s r nd n)
theorem qN(i:Nat){x:Str}{pos:Pos}(hN:X.N[i]?=some x:=by rfl)(hv:Vis X.env.scope x:=by first | exact Or.inl rfl | exact Or.inr (Or.inl rfl) | exact Or.inr (Or.inr rfl))(hd:(x==("__debug__" : Str))=false:=by decide)(hcd:(x==("__classdict__" : Str))=false:=by decide):PVp X (.Name x pos) (varP i):=by
 refine⟨_,xW hN hv hd hcd,fun H₀ H O σ ds hd q Q o e h=>?_⟩;unfold varP at e;cases hs:ds[i]? with
 |none=>rw[hs] at e;cases e
 | some s =>
   rw[hs] at e;cases s with
   | ob r t =>
     cases e;obtain⟨F,hF⟩:=o.obs;obtain⟨v,h1,h2,_⟩:=hF i r t hs;exact⟨v,h1,h r t v v _ hs rfl h1 rfl h2⟩
   |_=>cases e
theorem RepsO.nth{K:Frag}{H:Hp}{O:aA->Prop}{xs:List V}{ts:List OT}{fs:List aA}{k:Nat}{t:OT}(h:RepsO K H O xs ts fs)(e:ts[k]?=some t):∃x f,xs[k]?=some x/\RepO K H O x t f:=by
 obtain⟨x,_,f,_,h1,_,h3,_⟩:=h.pick e;exact⟨x,f,h1,h3⟩
theorem Chg.ofUpd{H:Hp}{O:aA->Prop}{a:aA}{y:HO}{f f':List aA}(oa:O a)(ha:a∈f)(hf:∀b∈f',b∈f):Chg H (upd H a y) O O f f' :=
 ⟨fun b u nb e=>by have z:b≠a:=fun z=>nb (by rw[z];exact oa);rw[L2.upd_ne z];exact e,fun b u _ nb e=>by have z:b≠a:=fun z=>nb (by rw[z];exact ha);rw[L2.upd_ne z];exact e,fun _ z _=>z,fun _ z=>.inl z,fun b hb=>.inl (hf b hb)⟩
section
variable{x:Str}{k j n:Nat}{F:List D->Option Ret}{p pos:Pos}{e:Expr}{es:List Expr}{g:FA}
theorem ZB(C:Cal X.prog X.w X.K X.mg X.base x k n F)(hr:Room j X.A)(ha:PAn X (e::es) g)(hj:k<=j:=by decide)(hg:Gl X x:=by rfl)(hdb:(x==("__debug__" : Str))=false:=by decide)(he:aL (e::es) X.env=(false,bY e X.env)::aL es X.env:=by rfl)(hpl:(dB pos (aL es X.env)).any (·.1)=false:=by rfl) :
  PVo X (.Call (.Name x p) (e::es) [] pos) (callO n F g):=by
 obtain⟨f,fd,ps,Fn,hb,hk,hm⟩:=C.ex;obtain⟨t,ht,hf⟩:=ha;refine⟨_,EX (CX:=CX0) (E:=E0) Fn (hr.mono hj) hg hm hk hb .nil pass0 ht hdb he hpl,fun H₀ H O σ ds hd T Q o e q=>?_⟩;unfold callO at e;obtain⟨l,h,e⟩:=bnd e
 split at e
 . rename_i hln;obtain ⟨r,h2,e⟩:=bnd e;cases r with
   |any d'=>cases e
   |val _=>cases e
   |fresh _=>cases e
   | obj T' =>
     cases e;refine hf H₀ H O σ ds hd l _ o h fun vs H1 s1 r1=>?_;have hl:=r1.length;refine⟨by simp only[kN];omega,l,_,by simpa using r1,h2,fun v H' s' ro=>?_⟩;obtain⟨fs,q1,q2,q3⟩:=ro;exact q v H' fs (s1.trans s') (q1.less (fun a z=>z.elim .inl fun z=>.inr ((o.mono s1).old z)) fun b hb=>.inl hb) q2 fun b hb=>s1.free (q3 b hb)
 . cases e
end
mutual
theorem RepO.flatten{K:Frag}{H:Hp}{O O':aA->Prop}(ho:∀a,O a->Old H a):∀{v:V} {t:OT} {fs:List aA},flatO t=true->RepO K H O' v t fs->(∀b∈fs,O b)->RepO K H O v t fs
 |_,_,_,f,.val r,_=>.val (Rep.flatten ho (by simpa[flatO] using f) r)
 |_,_,_,f,.lst n h r,hb=>.lst (hb _ (.head _)) h (RepsO.flatten ho (by simpa[flatO] using f) r fun b z=>hb b (.tail _ z))
 |_,_,_,f,.dct n h e r,hb=>.dct (hb _ (.head _)) h e (RepsO.flatten ho (by simpa[flatO] using f) r fun b z=>hb b (.tail _ z))
 |_,_,_,f,.ins c n h e r,hb=>.ins c (hb _ (.head _)) h e (RepsO.flatten ho (by simpa[flatO] using f) r fun b z=>hb b (.tail _ z))
 |_,_,_,f,.tup (a:=a) n h r,hb=>.tup (fun z=>by
    obtain⟨u,e,m⟩:=ho a z;rcases h with h | ⟨o,h⟩
    . rw[e] at h;cases h;cases m
    . rw[e] at h;cases h;cases m) h (RepsO.flatten ho (by simpa[flatO] using f) r hb)
theorem RepsO.flatten{K:Frag}{H:Hp}{O O':aA->Prop}(ho:∀a,O a->Old H a):∀{v:List V} {t:List OT} {fs:List aA},rA t=true->RepsO K H O' v t fs->(∀b∈fs,O b)->RepsO K H O v t fs
 |_,_,_,_,.nil,_=>.nil
 | _, _, _, f, .cons h r, hb => by
   simp only[rA,bX] at f;exact .cons (RepO.flatten ho f.1 h fun b z=>hb b (aW _ z)) (RepsO.flatten ho f.2 r fun b z=>hb b (aI _ z))
end
end
section
variable{X:Cx}
end
section
variable{K:Frag}{H H' H₀ : Hp}{O O':aA->Prop}
theorem Kid.mono(s:Same H H'){b:aA}{xs:List V}(h:Kid H b xs):Kid H' b xs:=by
 cases h with
 |tup h=>exact .tup (Keep.rd (O:=yA) (.of_same s) (fun z=>z) h)
 |lst h=>exact .lst (s _ _ h)
 |dct h=>exact .dct (s _ _ h)
 |ins h=>exact .ins (s _ _ h)
theorem xA(s:Same H H'):∀{p:List Nat} {v w:V},PathV H v p w->PathV H' v p w
 |[],_,_,h=>h
 |_::_,_,_,⟨b,xs,x,h1,h2,h3,h4⟩=>⟨b,xs,x,h1,h2.mono s,h3,xA s h4⟩
theorem RepsO.put:∀{xs:List V} {ts:List OT} {fs:List aA} {k:Nat} {t:OT},RepsO K H O xs ts fs->ts[k]?=some t->∃(pre f post:List aA),fs=pre++(f++post) ∧
  ∀{H':Hp} {O':aA->Prop} {v:V} {T:OT} {f':List aA},RepO K H' O' v T f'->(∀y s e,RepO K H O y s e->(∀b∈e,b∈pre\/b∈post)->RepO K H' O' y s e)->RepsO K H' O' (xs.set k v) (ts.set k T) (pre++(f'++post))
 | _, _, _, 0, t, .cons (x := x) (fs := f) (gs := gs) h r, e => by
   refine⟨[],f,gs,rfl,fun {H' O' v T f'} h' ho=>?_⟩
   have:∀{xs:List V} {ts:List OT} {gs':List aA},RepsO K H O xs ts gs'->(∀b∈gs',b∈gs)->RepsO K H' O' xs ts gs':=by
    intro xs ts gs' h
    induction xs generalizing ts gs' with
    |nil=>intro _;cases h;exact .nil
    | cons y ys ih =>
      intro hb;cases h with
      |cons h1 h2=>exact .cons (ho _ _ _ h1 fun b z=>.inr (hb b (aW _ z))) (ih h2 fun b z=>hb b (aI _ z))
   show RepsO K H' O' (v::_) (T::_) (f'++gs);exact .cons h' (this r fun _ z=>z)
 | _, _, _, k + 1, t, .cons (x := x) (t := t0) (fs := f0) (gs := gs) h r, e => by
   obtain⟨pre,f,post,h2,h4⟩:=RepsO.put (k:=k) (t:=t) r (by simpa using e);refine⟨f0++pre,f,post,by rw[h2];simp,fun {H' O' v T f'} h' ho=>?_⟩;have q:=h4 h' fun z s e' hz hb=>ho z s e' hz fun b hb'=>(hb b hb').elim (fun z=>.inl (aI _ z)) .inr;have:=RepsO.cons (ho _ _ _ h fun b hb=>.inl (aW _ hb)) q;simpa[eS] using this
theorem WD{f:Str}{v:V}:∀{kvs:List (Str×V)} {i:Nat},(kvs.map (·.1))[i]?=some f->(∀j,j<i->(kvs.map (·.1))[j]?≠some f)->(putF f v kvs).map (·.1)=kvs.map (·.1)/\(putF f v kvs).map (·.2)=(kvs.map (·.2)).set i v
 |[],_,h,_=>by simp at h
 | (g, x) :: r, 0, h, _ => by
   simp at h;subst h;simp[putF]
 | (g, x) :: r, i + 1, h1, h2 => by
   have hg:g≠f:=fun z=>h2 0 (by omega) (by simp[z]);have:=WD (v:=v) (kvs:=r) (i:=i) (by simpa using h1) (fun j hj=>by have:=h2 (j+1) (by omega);simpa using this);simp[putF,hg,this.1,this.2]
end
section
variable{X:Cx}
theorem yS{e:Expr}{n:Str}{pos:Pos}{f:FP}{ix:List (Nat×Nat)}(hF:FldOk X.K n ix)(he:PVp X e f)(hb:eG e n X.env (bY e X.env)=bY e X.env:=by rfl):PVp X (.Attribute e n pos) (atP ix f):=by
 obtain⟨t,ht,hf⟩:=he;refine⟨_,aEp ht hb,fun H₀ H O σ ds hd q Q o e h=>?_⟩;unfold atP at e;obtain⟨q0,h1,e⟩:=bnd e;refine hf H₀ H O σ ds hd q0 _ o h1 fun r T v w fs g1 g2 g3 g4 g5=>?_;cases hu:q0.2.2 with
 | ins c l =>
   rw[hu] at e g5;simp only at e;obtain⟨k,hl,e⟩:=bnd e;obtain⟨u,hk,rfl⟩:=mpd e;cases g5 with
   | @ins a C dx _ kvs _ fs' hc n ha ek rs =>
     obtain⟨y1,y2,y3⟩:=hF c k hl;obtain⟨cl,na⟩:=y3 C hc;obtain⟨x,f2,z1,z2⟩:=rs.nth hk;refine⟨a,C,dx,kvs,x,rfl,ha,cl,na,vN (i:=k) (by rw[ek];exact y1) (by rw[ek];exact y2) z1,h r T v x f2 g1 ?_ g3 (LP g4 (.ins ha) z1) z2⟩;rw[wU,g2,hu];simp[subO,hk]
 |_=>rw[hu] at e;cases e
theorem xF{e:Expr}{f:FP}(he:PVp X e f):PV X e (valP f):=by
 obtain⟨t,ht,hf⟩:=he;refine⟨t,ht,fun H₀ H O σ ds hd d Q o e q=>?_⟩;unfold valP at e;obtain⟨q0,h1,e⟩:=bnd e;refine hf H₀ H O σ ds hd q0 _ o h1 fun r T v w fs g1 g2 g3 g4 g5=>?_;cases hu:q0.2.2 with
 | val d' =>
   rw[hu] at e g5;cases e;cases g5 with
   |val r5=>exact q w H (Same.refl _) r5
 |_=>rw[hu] at e;cases e
theorem QE{e:Expr}{f:FP}(he:PVp X e f):PVn X e (seeP f):=by
 obtain⟨t,ht,hf⟩:=he;refine⟨t,ht,fun H₀ H O σ ds hd d Q o e q=>?_⟩;unfold seeP at e;obtain⟨q0,h1,rfl⟩:=mpd e;exact hf H₀ H O σ ds hd q0 _ o h1 fun r T v w fs g1 g2 g3 g4 g5=>q w H (Same.refl _) g5.any
theorem xS{oe e:Expr}{n:Str}{pos pos':Pos}{f:FP}{g:FO}{ix:List (Nat×Nat)}(hF:FldOk X.K n ix)(ho:PVp X oe f)(he:PVo X e g)(hs:dI e (some (.Attribute oe n pos')) pos.line X.env=pure false:=by rfl) :
  PSv X (.Assign [.Attribute oe n pos'] e pos) (setAt ix f g):=by
 obtain⟨tp,hp,hfp⟩:=ho;obtain⟨tv,hv,hg⟩:=he;refine⟨_,TW hp hv hs,(3:)⟩;unfold setAt at e;obtain⟨T,h1,e⟩:=bnd e;obtain⟨q,h2,e⟩:=bnd e;refine hg H₀ H O σ ds hd T _ o h1 fun v H1 fs s1 r1 nd1 n1=>?_;have o1:Ok X.K H₀ H1 (orL fs O) σ ds hd:=o.moreL s1 n1 fun b hb=>(r1.owns b hb).2;refine hfp H₀ H1 (orL fs O) σ ds hd q _ o1 h2 fun r T0 v0 w fs0 g1 g2 g3 g4 g5=>?_;obtain⟨v',w',f',y1,y2,y3,y4,y5,y6⟩:=o.modAt g1 g2;rw[g3] at y1;cases y1;cases xJ g4 (xA s1 y2);cases hq:q.2.2 with
 | ins t l =>
   rw[hq] at y3 e;simp only at e;obtain⟨k,hl,e⟩:=bnd e
   split at e
   . rename_i hk;cases e;cases y3 with
     | @ins a C dx _ kvs _ fs' c na ha ek rs =>
       obtain⟨z1,z2,z3⟩:=hF t k hl;obtain⟨cl,nat⟩:=z3 C c;have ln:kvs.length=l.length:=by simpa using rs.length
       refine⟨a,C,dx,kvs,rfl,s1 _ _ ha,cl,nat,by omega,?_⟩;obtain⟨pre,f0,post,e0,put⟩:=rs.put (bI hk.1);subst e0;obtain⟨n3,n4⟩:=bR.mp y4;obtain⟨nf,nfr,nre⟩:=LU n4
       have old:∀b,H b=none->b∉a::(pre++(f0++post)):=fun b hb z=>by
        rcases aD.mp z with z | z
        . rw[z,ha] at hb;cases hb
        . obtain⟨_, x, ex⟩ := rs.owns b z;rw[hb] at ex;cases ex
       have afs:a∉fs:=fun z=>by rw[n1 a z] at ha;cases ha
       obtain⟨p1,p2⟩:=WD (f:=n) (v:=v) (kvs:=kvs) (i:=k) (by rw[ek];exact z1) (by rw[ek];exact z2);have hs':∀b u,b≠a->H b=some u->upd H1 a (.ins C dx (putF n v kvs)) b=some u:=fun b u nb eb=>by rw[L2.upd_ne nb];exact s1 _ _ eb
       have nO:∀{b:aA},¬O b->b≠a:=fun nb z=>nb (by rw[z];exact na)
       have c0:Chg H (upd H1 a (.ins C dx (putF n v kvs))) O (orL fs O) [a] (a::fs):=
        ⟨fun b u nb eb=>hs' b u (nO nb) eb,fun b u _ nb eb=>hs' b u (fun z=>nb (by rw[z];exact .head _)) eb,fun b z _=>.inr z,fun b z=>z.elim (fun z=>.inr ⟨.tail _ z,n1 b z⟩) .inl,fun b z=>(aD.mp z).elim (fun z=>.inl (by rw[z];exact .head _)) fun z=>.inr (n1 b z)⟩
       have rT:RepO X.K (upd H1 a (.ins C dx (putF n v kvs))) (orL fs O) v T fs:=r1.keep (fun b u nb eb=>by rw[L2.upd_ne (nO fun z=>nb (.inr z))];exact eb) fun b hb u eb=>by
        have z:b≠a:=fun z=>afs (by rw[<- z];exact hb);rw[L2.upd_ne z];exact eb
       have rs':=put rT fun y s e hy hb=>c0.repO hy fun b hb' z=>n3 (by
        rw[<- bA.mp z]
        exact(hb b hb').elim (fun z=>aW _ z) fun z=>aI _ (aI _ z))
       have ok:=y6 (H':=upd H1 a (.ins C dx (putF n v kvs))) (O':=orL fs O) (u':=.ins t (l.set k T)) (f':=a::(pre++(fs++post)))
        ⟨fun b u nb eb=>hs' b u (nO nb) eb,fun b u _ nb eb=>hs' b u (fun z=>nb (by rw[z];exact .head _)) eb,fun b z _=>.inr z,fun b z=>z.elim (fun z=>.inr ⟨.tail _ (aI _ (aW _ z)),n1 b z⟩) .inl,fun b z=>?_⟩
        (fun b z _=>?_) (.ins c (.inr na) qE (p1.trans ek) (by rw[p2];exact rs')) (bR.mpr ⟨fun z=>?_,nre fs nd1 fun b z=>.inr ?_⟩)
       . have e' : putP q (.ins t (l.set k T)) ds = ds.set q.1 (.ob r (putO (.ins t (l.set k T)) q.2.1 T0)) := by simp [putP, g1]
         rw[e'] at h;exact h _ _ _ ok
       . rcases aD.mp z with z | z
         . exact .inl (by rw[z];exact .head _)
         . rcases bJ.mp z with z | z
           . exact .inl (.tail _ (aW _ z))
           . rcases bJ.mp z with z | z
             . exact .inr (n1 b z)
             . exact .inl (.tail _ (aI _ (aI _ z)))
       . by_cases z' : b = a
         . rw[z',qE];exact⟨⟨.ins C dx (putF n v kvs),rfl⟩,rfl⟩
         . rcases aD.mp z with q' | q'
           . exact(z' q').elim
           . obtain⟨_, y, ey⟩ := rs.owns b q';exact⟨y,hs' b _ z' ey⟩
       . rcases bJ.mp z with z | z
         . exact n3 (aW _ z)
         . rcases bJ.mp z with z | z
           . exact afs z
           . exact n3 (aI _ (aI _ z))
       . have := old b (n1 b z);exact⟨fun y=>this (.tail _ (aW _ y)),fun y=>this (.tail _ (aI _ (aI _ y)))⟩
   . cases e
 |_=>rw[hq] at e;cases e
theorem RepsO.snoc{K:Frag}{H:Hp}{O:aA->Prop}:∀{xs:List V} {ts:List OT} {fs:List aA} {v:V} {d:D},RepsO K H O xs ts fs->Rep K H O v d->RepsO K H O (xs++[v]) (ts++[.val d]) fs
 |_,_,_,_,_,.nil,r=>.cons (fs:=[]) (gs:=[]) (.val r) .nil
 |_,_,_,_,_,.cons h t,r=>.cons h (RepsO.snoc t r)
theorem Ok.putL{K:Frag}{H₀ H:Hp}{O:aA->Prop}{σ : L2.St}{ds:List Sl}{hd:Hold}{i:Nat}{r:Option Nat}{T:OT}{p:List Nat}{l l':List OT}{a:aA}{v:V}{ys:List V}(o:Ok K H₀ H O σ ds hd)(e:ds[i]?=some (.ob r T))(hs:subO p T=some (.lst l))(hv : σ[i]?=some (some v))(hp:PathV H v p (.ref a))(h:∀xs fs,H a=some (.lst xs)->O a->RepsO K H O xs l fs->fs.Nodup->a∉fs->∃fs',(∀b∈fs',b∈fs)/\fs'.Nodup/\∀{H':Hp},Chg H H' O O [a] [a]->RepsO K H' O ys l' fs'):Ok K H₀ (upd H a (.lst ys)) O σ (ds.set i (.ob r (putO (.lst l') p T))) hd:=by
 obtain⟨v',w',f,y1,y2,y3,y4,y5,y6⟩:=o.modAt e hs;rw[hv] at y1;cases y1;cases xJ hp y2;cases y3 with
 | @lst _ xs _ fs n hb rs =>
   obtain⟨n3,n4⟩:=bR.mp y4;obtain⟨fs',w1,w2,w3⟩:=h xs fs hb n rs n4 n3;refine y6 (f':=a::fs') (.ofUpd n (.head _) fun b z=>(aD.mp z).elim (fun z=>by rw[z];exact .head _) fun z=>.tail _ (w1 b z)) (fun b z _=>?_) (.lst n qE (w3 (.ofUpd n (.head _) fun _ z=>z))) (bR.mpr ⟨fun z=>n3 (w1 _ z),w2⟩)
   by_cases z':b=a
   . rw[z',qE];exact⟨⟨.lst ys,rfl⟩,rfl⟩
   . rw [upd_ne z'];rcases aD.mp z with q' | q'
     . exact(z' q').elim
     . exact(rs.owns b q').2
theorem Chg.repsO{K:Frag}{H H':Hp}{O O':aA->Prop}{f f':List aA}(c:Chg H H' O O' f f'):∀{v:List V} {t:List OT} {e:List aA},RepsO K H O v t e->(∀b∈e,b∉f)->RepsO K H' O' v t e
 |_,_,_,.nil,_=>.nil
 |_,_,_,.cons h r,he=>.cons (c.repO h fun b z=>he b (aW _ z)) (Chg.repsO c r fun b z=>he b (aI _ z))
theorem GO{oe e:Expr}{pos p2 p3:Pos}{f:FP}{fe:FE}(ho:PVp X oe f)(he:PV X e fe)(hfew:((dB p3 (aL [e] X.env)).all (fun x=>!x.1)&&(iO p3 (eV [] X.env)).all (fun x=>x.1.isSome)
    && decide ([e].length+([]:List sV).length+(if ([]:List sV).isEmpty then 0 else 1)<30))=true:=by rfl)(hline:(p2.endLine==p3.line)=true:=by rfl)(hs:aL [e] X.env=(false,bY e X.env)::aL [] X.env:=by rfl)(hbase:eG oe "append" X.env (bY oe X.env)=bY oe X.env:=by rfl)(hsw:dI (.Call (.Attribute oe "append" p2) [e] [] p3) none pos.line X.env=pure false:=by rfl) :
  PSv X (.Expr (.Call (.Attribute oe "append" p2) [e] [] p3) pos) (appP f fe):=by
 obtain⟨tp,hp,hf⟩:=ho;obtain⟨te,pe,he⟩:=he;refine⟨_,xY (aEr iS IZ IY LV hp (jZ pe yW hs) hbase hfew hline hs rfl) hsw,(3:)⟩;unfold appP at e;obtain⟨q,h1,e⟩:=bnd e;obtain⟨d,h2,e⟩:=bnd e;refine hf H₀ H O σ ds hd q _ o h1 fun r T v w fs g1 g2 g3 g4 g5=>?_;cases hq:q.2.2 with
 | lst l =>
   rw[hq] at e g2 g5;simp only at e
   split at e
   . rename_i hl;cases e;cases g5 with
     | @lst a xs _ fs' n hb rs =>
       refine⟨.inl ⟨rfl,xs,SqL.of hb⟩,?_⟩;refine he H₀ H O σ ds hd d _ o h2 fun v1 H1 s1 r1=>?_;refine⟨a,xs,v1,rfl,rfl,s1 _ _ hb,by rw[rs.length];exact hl,?_⟩
       have ok:=(o.mono s1).putL (l':=l++[.val d]) (ys:=xs++[v1]) g1 g2 g3 (xA s1 g4) fun xs2 fs2 k1 k2 k3 k4 k5=>⟨fs2,fun _ z=>z,k4,fun {H'} c=>by
        rw[s1 _ _ hb] at k1;cases k1
        exact(c.repsO k3 fun b z y=>k5 (bA.mp y▸z)).snoc (c.rep r1)⟩
       have e':putP q (.lst (l++[.val d])) ds=ds.set q.1 (.ob r (putO (.lst (l++[.val d])) q.2.1 T)):=by simp[putP,g1]
       rw[e'] at h;exact h _ _ _ ok
   . cases e
 |_=>rw[hq] at e;cases e
end
section
variable{K:Frag}{H H' H₀ : Hp}{O O':aA->Prop}
theorem RepO.frz{v:V}{t:OT}{fs:List aA}(r:RepO K H O v t fs)(h:∀a,O' a->O a/\a∉fs):Rep K H O' v (otD t):=r.val' h
theorem Ok.frz{σ : L2.St}{ds:List Sl}{hd:Hold}{i:Nat}{r:Option Nat}{T:OT}(o:Ok K H₀ H O σ ds hd)(e:ds[i]?=some (.ob r T)):∃O',Ok K H₀ H O' σ (ds.set i (.v (otD T))) hd:=by
 obtain⟨F,hF⟩:=o.obs;obtain⟨v,h1,h2,h3,h4,h5⟩:=hF i r T e;have hl:i<ds.length:=(aV.mp e).1
 let O':aA->Prop:=fun b=>O b/\b∉F i
 have sub:∀b,O' b->O b:=fun b hb=>hb.1;have own':∀{j:Nat},IsOwn (ds.set i (.v (otD T))) j->IsOwn ds j/\j≠i:=fun h=>vG (fun l=>by intro z;cases z) h;refine⟨O',o.same,fun j l' b e1 e2=>?_,fun b hb=>o.dom b (sub b hb),by simpa using o.len,fun j s es=>?_,fun j m b hjm hj hm e1 e2=>o.apart j m b hjm (own' hj).1 (own' hm).1 e1 e2,fun p hp=>?_,?_⟩
 . obtain⟨⟨l2, e2'⟩, _⟩ := own' ⟨l', e1⟩;exact o.fresh j l2 b e2' e2
 . by_cases hj : j = i
   . subst hj;rw[aX hl] at es;cases es;rw[h1];exact yQ (h2.frz fun a z=>z)
   . rw [aF (Ne.symm hj)] at es;cases s with
     |no=>exact jQ
     |ob r t=>exact xG
     | exc t =>
       obtain⟨a',C',ob',u',q1,q2,q3,q4⟩:=o.readX es;rw[q1];exact⟨C',ob',u',q2,q3,q4⟩
     | fr l' =>
       obtain⟨a',xs',q1,q2,q0,q3,q4⟩:=o.readF es;rw[q1];exact⟨fun z=>q2 (sub _ z),q0,xs',q3,q4.less sub⟩
     | v d =>
       obtain⟨v,q1,q2⟩:=o.read es;rw[q1];exact yQ (q2.less sub)
     | own l' =>
       obtain⟨b,ys,q1,q2,q3,q4⟩:=o.readO es;rw[q1];exact⟨⟨q2,fun z=>(h5 b z).2.2 j ⟨l',es⟩ q1⟩,ys,q3,q4.less sub⟩
 . have := o.hold p hp;cases p with
   |rep v d=>exact Rep.less sub this
   |base B=>exact fun b hb=>⟨⟨(this b hb).1,fun z=>(this b hb).2 (h5 b z).1⟩,(this b hb).2⟩
   |root k a=>exact True.intro
   |fz a' o' kvs' l'=>exact⟨fun z=>this.1 (sub _ z),this.2.1,Reps.less sub this.2.2⟩
 . refine⟨F, fun j r' t' ej => ?_⟩;obtain⟨ej,hj⟩:=vT (fun r t=>by intro z;cases z) ej;obtain⟨w,g1,g2,g3,g4,g5⟩:=hF j r' t' ej;refine⟨w,g1,g2.less sub fun b hb=>⟨(g2.owns b hb).1,fun z=>(h5 b z).2.1 j r' t' hj ej hb⟩,g3,g4,fun b hb=>⟨(g5 b hb).1,fun m r2 t2 hm em=>(g5 b hb).2.1 m r2 t2 hm (vT (fun r t=>by intro z;cases z) em).1,fun m om em=>(g5 b hb).2.2 m (own' om).1 em⟩⟩
end
section
variable{X:Cx}
end
noncomputable def spL(K:Frag)(n:Nat)(F:OT->List D->Option OT):Sp:=fun vs H Q _=>∃(a:aA) (T T':OT) (fs:List aA) (B:aA->Prop) (vs':List V) (l:List D),vs=.ref a::vs'/\vs'.length=n/\RepO K H (orL fs B) (.ref a) T fs/\fs.Nodup ∧
 (∀b,B b->b∉fs/\∃u:MutHO,H b=some u.1)/\Reps K H (orL fs B) vs' l/\F T l=some T' ∧
 ∀H' fs',(∀b u,b∉fs->H b=some u->H' b=some u)->RepO K H' (orL fs' B) (.ref a) T' fs'->fs'.Nodup->(∀b∈fs',b∈fs\/H b=none)->Q .non H'
noncomputable def cutH(fs:List aA)(H:Hp):Hp:=fun b=>if b∈fs then none else H b
theorem YB{fs:List aA}{H:Hp}{b:aA}(h:b∈fs):cutH fs H b=none:=if_pos h
theorem kD{fs:List aA}{H:Hp}{b:aA}(h:b∉fs):cutH fs H b=H b:=if_neg h
theorem aBd{fs:List aA}{H:Hp}{b:aA}(h:cutH fs H b=none):b∈fs\/H b=none:=by
 by_cases z:b∈fs
 . exact .inl z
 . rw[kD z] at h;exact .inr h
theorem CP{n:Nat}{T:OT}{l:List D}{i:Nat}:¬IsOwn (argsL n T l) i:=fun⟨l',e⟩=>by
 unfold argsL at e;cases i with
 |zero=>cases e
 | succ i =>
   rw[cJ] at e;unfold args at e
   by_cases hi:i<l.length
   . rw [aY (by simpa using hi), bE] at e;cases h:l[i]? with
     |none=>rw[h] at e;cases e
     |some d=>rw[h] at e;cases e
   . rw [bV (by simpa using hi), dD] at e
     split at e<;>cases e
theorem ZQ{K:Frag}{H:Hp}{N:List Str}{a:aA}{T:OT}{fs:List aA}{B:aA->Prop}{vs:List V}{l:List D}(rt:RepO K H (orL fs B) (.ref a) T fs)(nd:fs.Nodup)(hB:∀b,B b->b∉fs/\∃u:MutHO,H b=some u.1)(r:Reps K H (orL fs B) vs l)(hN:0<N.length) :
  Ok K (cutH fs H) H (orL fs B) (L2.start N (.ref a::vs)) (argsL N.length T l) [.root 0 a,.base B]:=by
 have hl:=r.length;refine⟨fun b u e=>?_,fun i l' a' e _=>(CP ⟨l',e⟩).elim,fun b hb=>hb.elim (fun z=>(rt.owns b z).2) fun z=>(hB b z).2,?_,fun i s e=>?_,fun i j a _ hi _ _ _=>(CP hi).elim,fun p hp=>?_,?_⟩
 . by_cases z : b ∈ fs
   . rw[YB z] at e;cases e
   . rwa [kD z] at e
 . simp only[L2.start, argsL, args, bP, aS, SO, aJ, hl];omega
 . unfold argsL at e;cases i with
   |zero=>cases e;exact xG
   | succ i =>
     rw[cJ] at e
     have eσ : (L2.start N (.ref a::vs))[i+1]?=(vs.map some++List.replicate (N.length-(vs.length+1)) none)[i]?:=by
      simp only[L2.start,aO,dZ,cJ,aJ]
     rw[eσ];unfold args at e
     by_cases hi:i<l.length
     . rw[aY (by simpa using hi), bE] at e;rw[aY (by simpa[hl] using hi),bE];obtain⟨d,h,rfl⟩:=mpd e;obtain⟨v,h1,h2⟩:=r.get h;rw[h1];exact yQ h2
     . rw [bV (by simpa using hi), dD] at e
       split at e
       . cases e;exact jQ
       . cases e
 . rcases aD.mp hp with rfl | hp
   . exact True.intro
   . cases bA.mp hp;refine fun b hb=>⟨.inr hb,fun z=>?_⟩
     obtain⟨n,u,e⟩:=hB b hb;rw[kD n,e] at z;cases z
 . refine ⟨fun i => if i = 0 then fs else [], fun i r' t' e => ?_⟩;cases i with
   | succ i =>
     unfold argsL at e;rw[cJ] at e;exact(OS _ _ _ _ _ e).elim
   | zero =>
     unfold argsL at e;cases e;refine⟨.ref a,rfl,by simpa using rt,fun k a' ek h=>?_,by simpa using nd,fun b hb=>⟨YB (by simpa using hb),fun j r2 t2 hj _=>by simp[hj],fun j oj=>(CP oj).elim⟩⟩;cases ek;rcases aD.mp h with h | h
     . cases h;rfl
     . cases bA.mp h
theorem RS{P:bG}{w:bU}{K:Frag}{mg:Str->Option aB}{base:Heap}{qual:Str}{st:Stmt}{f:aA}{fd:aK}{N ps:List Str}{k n:Nat}{F:OT->List D->Option OT}(hok:∀sp:Sp,(∀vs H Q E,sp vs H Q E->vs.length=ps.length)->(∀(cdv:aB) (A:bZ) (outer:List Env) (s:aE) (H:Hp) (vs:List V) (Q:VK) (E:XK),Room k (A.deeper (mJ qual (zJ st) s.heap.objs.size f cdv))->sp vs H Q E->∃t,PSs (cxOf CX0 P w K mg base N qual (zJ st) f cdv A outer s H E).nox (jH st) t/\t { nx:=fun _ H'=>Q .non H',rt:=Q } (start N vs) H)->FnOk P w K mg base CX0 (k+1) f fd ps sp){g:FS}(hbody:∀(cdv:aB) (A:bZ) (outer:List Env) (s:aE) (H:Hp) (E:XK),Room k (A.deeper (mJ qual (zJ st) s.heap.objs.size f cdv))->PSsv (cxOf CX0 P w K mg base N qual (zJ st) f cdv A outer s H E).nox (jH st) g)(hg:∀T l T',l.length=n->F T l=some T'->lentF g N.length T l=some T')(hn:ps.length=n+1:=by rfl)(hN:0<N.length:=by decide):FnOk P w K mg base CX0 (k+1) f fd ps (spL K n F):=by
 refine hok _ (fun vs H Q E h=>?_) (fun cdv A outer s H vs Q E hr h=>?_)
 . obtain⟨a, T, T', fs, B, vs', l, rfl, hl, _⟩ := h;simp only[aJ];omega
 . obtain ⟨a, T, T', fs, B, vs', l, rfl, hl, rt, nd, hB, ra, e, q⟩ := h;obtain ⟨t,ht,hf⟩:=hbody cdv A outer s H E hr;refine ⟨t,ht,?_⟩;have o:=ZQ (N:=N) rt nd hB ra hN;have e:=hg T l T' (by rw [<- ra.length]; exact hl) e;unfold lentF at e;cases h1:g (argsL N.length T l) with
   |none=>rw[h1] at e;cases e
   | some out =>
     rw[h1] at e;cases out with
     | nx ds =>
       simp only at e;cases h2:ds[0]? with
       |none=>rw[h2] at e;cases e
       | some s0 =>
         rw[h2] at e;cases s0 with
         | ob r T2 =>
           have hr0:r=some 0/\T2=T':=by
            cases r with
            |none=>cases e
            | some i =>
              cases i with
              |zero=>cases e;exact⟨rfl,rfl⟩
              |succ i=>cases e
           obtain⟨rfl,rfl⟩:=hr0;refine hf _ H _ _ _ _ _ _ o h1 (fun σ H' O' o'=>?_);obtain⟨F',hF⟩:=o'.obs;obtain⟨v,y1,y2,y3,y4,y5⟩:=hF 0 _ _ h2;cases y3 0 a rfl (.head _);have hb:=o'.hold (.base B) (.tail _ (.head _));exact q H' (F' 0) (fun b u nb eb=>o'.same b u (by rw[kD nb];exact eb)) (y2.less (fun b z=>z.elim (fun z=>(y2.owns b z).1) fun z=>(hb b z).1) fun b z=>.inl z) y4 fun b z=>aBd (y5 b z).1
         |_=>cases e
     |_=>cases e
theorem vI{P:bG}{w:bU}{K:Frag}{mg:Str->Option aB}{base:Heap}{x qual:Str}{st:Stmt}{f:aA}{fd:aK}{N ps:List Str}{k n:Nat}{F:OT->List D->Option OT}(Fn:Fun K x qual st f fd)(S:FnScope N ps (zJ st)){g:FS}(hbody:∀(cdv:aB) (A:bZ) (outer:List Env) (s:aE) (H:Hp) (E:XK),Room k (A.deeper (mJ qual (zJ st) s.heap.objs.size f cdv))->PSsv (cxOf CX0 P w K mg base N qual (zJ st) f cdv A outer s H E).nox (jH st) g)(hg:∀T l T',l.length=n->F T l=some T'->lentF g N.length T l=some T')(hn:ps.length=n+1:=by rfl)(hN:0<N.length:=by decide):FnOk P w K mg base CX0 (k+1) f fd ps (spL K n F):=by
 exact RS (fun sp a b=>Fn.ok S a b) hbody hg hn hN
structure LCal(P:bG)(w:bU)(K:Frag)(mg:Str->Option aB)(base:Heap)(m:Str)(k n:Nat)(cs:List Nat)(F:Nat->OT->List D->Option OT):Prop where
 no:∀t∈cs,m∉cR t
 of:∀t∈cs,∀C,aT K aP (dA t)=some (some (.ref C))->∃(f:aA) (fd:aK) (ps:List Str),Cls K C/\Meth K C m f/\FnOk P w K mg base CX0 k f fd ps (spL K n (F t))/\Binds K fd ps []
theorem wF{P:bG}{w:bU}{K:Frag}{mg:Str->Option aB}{base:Heap}{m:Str}{k n:Nat}{F:Nat->OT->List D->Option OT}: LCal P w K mg base m k n [] F:=⟨fun _ h=>(nomatch h),fun _ h=>(nomatch h)⟩
theorem aAi{P:bG}{w:bU}{K:Frag}{mg:Str->Option aB}{base:Heap}{m:Str}{j k n t:Nat}{cs:List Nat}{F:Nat->OT->List D->Option OT}{C f:aA}{fd:aK}{ps:List Str}(a:aT K aP (dA t)=some (some (.ref C)))(c:Cls K C)(hm:Meth K C m f)(G:FnOk P w K mg base CX0 j f fd ps (spL K n (F t)))(hj:j<=k)(b:Binds K fd ps [])(hn:m∉cR t)(h:LCal P w K mg base m k n cs F):LCal P w K mg base m k n (t::cs) F:=by
 refine⟨fun t' ht=>(aD.mp ht).elim (fun e=>e▸hn) (h.no t'),fun t' ht C' e=>?_⟩;rcases aD.mp ht with rfl | ht
 . rw[a] at e;cases e;exact⟨f,fd,ps,c,hm,G.mono hj,b⟩
 . exact h.of t' ht C' e
section
variable{X:Cx}{m:Str}{k j n:Nat}{cs:List Nat}{F:Nat->OT->List D->Option OT}{oe e:Expr}{es:List Expr}{apos pos pos':Pos}{f:FP}{g:FA}
theorem RI(M:LCal X.prog X.w X.K X.mg X.base m k n cs F){ta:TE}{t:TA}(hf:∀H₀ H O σ ds hd q Q,Ok X.K H₀ H O σ ds hd->f ds=some q->(∀r T v w fs,ds[q.1]?=some (.ob r T)->subO q.2.1 T=some q.2.2->σ[q.1]?=some (some v)->PathV H v q.2.1 w->RepO X.K H O w q.2.2 fs->Q w H)->ta σ H Q)(hfg:∀H₀ H O σ ds hd l Q,Ok X.K H₀ H O σ ds hd->g ds=some l->(∀vs H',Same H H'->Reps X.K H' O vs l->Q vs H')->t σ H Q){H₀ H:Hp}{O:aA->Prop}{σ : L2.St}{ds ds':List Sl}{hd:Hold}{Q:VK}(o:Ok X.K H₀ H O σ ds hd)(h1:lentG n cs F f g ds=some (.nx ds'))(q:∀H' O',Ok X.K H₀ H' O' σ ds' hd->Q .non H'):MX X m k ta t σ H Q:=by
 unfold lentG at h1;obtain⟨q0,h2,h1⟩:=bnd h1;obtain⟨l,h3,h1⟩:=bnd h1;refine hf H₀ H O σ ds hd q0 _ o h2 fun r T v w fs g1 g2 g3 g4 g5=>?_;cases hu:q0.2.2 with
 | ins c ts =>
   rw[hu] at h1 g5 g2;simp only at h1
   split at h1
   . rename_i hc;cases h4:F c (.ins c ts) l with
     |none=>rw[h4] at h1;cases h1
     | some T' =>
       rw[h4] at h1;cases h1;cases g5 with
       | @ins a C dx _ kvs _ fs' cc nn ha ek rr =>
         obtain⟨fa,fd,ps,cl,hm,Fn,hb⟩:=M.of c hc.1 C cc;refine⟨a,C,dx,kvs,fa,fd,ps,_,rfl,ha,yO (by rw[ek];exact M.no c hc.1),cl,hm,Fn,hb,?_⟩;refine hfg H₀ H O σ ds hd l _ o h3 fun vs H2 s2 r2=>?_;have o2:=o.mono s2;obtain⟨v',w',f',y1,y2,y3,y4,y5,y6⟩:=o2.modAt g1 g2;rw[g3] at y1;cases y1;cases xJ (xA s2 g4) y2;have ow:∀b∈f',O b:=fun b z=>(y3.owns b z).1
         let B:aA->Prop:=fun b=>O b/\b∉f'
         have toO:∀b,orL f' B b->O b:=fun b z=>z.elim (ow b) fun z=>z.1;refine⟨a,_,T',f',B,vs,l,rfl,by rw[r2.length];exact hc.2,y3.less toO (fun b z=>.inl z),y4,fun b z=>⟨z.2,o2.dom b z.1⟩,r2.less toO,h4,fun H' fs2 k1 k2 k3 k4=>?_⟩;have e':putP q0 T' ds=ds.set q0.1 (.ob r (putO T' q0.2.1 T)):=by simp[putP,g1]
         rw[e'] at q;refine q H' (orL fs2 B) (y6 ⟨fun b u nb eb=>k1 b u (fun z=>nb (ow b z)) eb,fun b u _ nb eb=>k1 b u nb eb,fun b z nb=>.inr ⟨z,nb⟩,fun b z=>z.elim (fun z=>(k4 b z).elim (fun y=>.inl (ow b y)) fun y=>.inr ⟨z,y⟩) fun z=>.inl z.1,k4⟩ (fun b z y=>y.elim (fun y=>(k2.owns b y).2) fun y=>(y.2 z).elim) k2 k3)
   . cases h1
 |_=>rw[hu] at h1;cases h1
theorem kC{pl:Sem Bool}(M:LCal X.prog X.w X.K X.mg X.base m k n cs F)(hr:Room j X.A)(ho:PVp X oe f)(ha:PAs X (e::es) g)(hj:k<=j:=by decide)(hst:aL (e::es) X.env=(false,bY e X.env)::aL es X.env:=by rfl)(hpl:(dB pos (aL es X.env)).any (·.1)=false:=by rfl)(ht:bY (.Call (.Attribute oe m apos) (e::es) [] pos) X.env=(do
    let ov <- bY oe X.env
    kJ apos.atName
    let (f,first) <- gD [ov] (kK ov m pl)
    pJ pos f first (dB pos (aL (e::es) X.env)) (iO pos (eV [] X.env))):=by rfl)(hsw:dI (.Call (.Attribute oe m apos) (e::es) [] pos) none pos'.line X.env=pure false:=by rfl):PSv X (.Expr (.Call (.Attribute oe m apos) (e::es) [] pos) pos') (lentG n cs F f g):=by
 obtain⟨ta,pa,hf⟩:=ho;obtain⟨t,pt,hfg⟩:=ha;refine⟨_,xY (GR (pl:=pl) (k:=k) pa (hr.mono hj) pt hst hpl ht) hsw,(3:)⟩
 have:∃ds',out=.nx ds':=by
  unfold lentG at e;obtain⟨q0,h2,e⟩:=bnd e;obtain⟨l,h3,e⟩:=bnd e
  split at e
  . split at e
    . rename_i c ts _ _;cases h4:F c (.ins c ts) l with
      |none=>rw[h4] at e;cases e
      |some T'=>rw[h4] at e;cases e;exact⟨_,rfl⟩
    . cases e
  . cases e
 obtain⟨ds',rfl⟩:=this;exact RI M hf hfg o e fun H' O' o'=>h _ _ _ o'
theorem LN{pl:Sem Bool}(M:LCal X.prog X.w X.K X.mg X.base m k 0 cs F)(hr:Room j X.A)(ho:PVp X oe f)(hj:k<=j:=by decide)(ht:bY (.Call (.Attribute oe m apos) [] [] pos) X.env=(do
    let ov <- bY oe X.env
    kJ apos.atName
    let (f,first) <- gD [ov] (kK ov m pl)
    pJ pos f first (dB pos (aL [] X.env)) (iO pos (eV [] X.env))):=by rfl)(hsw:dI (.Call (.Attribute oe m apos) [] [] pos) none pos'.line X.env=pure false:=by rfl):PSv X (.Expr (.Call (.Attribute oe m apos) [] [] pos) pos') (lentG 0 cs F f zZ):=by
 obtain⟨ta,pa,hf⟩:=ho;refine⟨_,xY (LO (pl:=pl) (k:=k) pa (hr.mono hj) ht) hsw,(3:)⟩
 have:∃ds',out=.nx ds':=by
  unfold lentG at e;obtain⟨q0,h2,e⟩:=bnd e;simp only[aH,zZ] at e
  split at e
  . split at e
    . rename_i c ts _ _;cases h4:F c (.ins c ts) [] with
      |none=>rw[h4] at e;cases e
      |some T'=>rw[h4] at e;cases e;exact⟨_,rfl⟩
    . cases e
  . cases e
 obtain⟨ds',rfl⟩:=this;exact RI M hf (fun H₀ H O σ ds hd l Q o e q=>by cases e;exact q [] H (Same.refl _) .nil) o e fun H' O' o'=>h _ _ _ o'
end
section
variable{K:Frag}{H H' H₀ : Hp}{O O':aA->Prop}
theorem Ok.putN{σ : L2.St}{ds:List Sl}{hd:Hold}{i:Nat}{r:Option Nat}{T u u':OT}{p:List Nat}{a:aA}{v:V}(y:MutHO)(o:Ok K H₀ H O σ ds hd)(e:ds[i]?=some (.ob r T))(hs:subO p T=some u)(hv : σ[i]?=some (some v))(hp:PathV H v p (.ref a))(h:∀f,RepO K H O (.ref a) u f->f.Nodup->∃f',O a/\a∈f/\(∀b∈f',b∈f)/\f'.Nodup/\RepO K (upd H a y.1) O (.ref a) u' f'):Ok K H₀ (upd H a y.1) O σ (ds.set i (.ob r (putO u' p T))) hd:=by
 obtain⟨v',w',f,y1,y2,y3,y4,y5,y6⟩:=o.modAt e hs;rw[hv] at y1;cases y1;cases xJ hp y2;obtain⟨f',n,h1,h2,h3,h4⟩:=h f y3 y4;refine y6 (f':=f') (.ofUpd n h1 h2) (fun b z _=>?_) h4 h3
 by_cases z':b=a
 . rw[z',qE];exact⟨y,rfl⟩
 . rw[upd_ne z'];exact(y3.owns b z).2
theorem HC{v:V}{d:D}{k:Key}(r:Rep K H O v d)(e:keyD d=some k):v=kV k:=by
 cases d<;>first | (cases e;done) | skip
 . cases e;cases r;rfl
 . cases e;cases r;rfl
theorem AO{v:V}{d:D}{p:List Key×List D}(r:Rep K H O v d)(e:kdD d=some p):∃(a:aA) (kvs:List (Key×V)),v=.ref a/\Rd H a (.dK kvs)/\kvs.map (·.1)=p.1/\Reps K H O (kvs.map (·.2)) p.2:=by
 cases d<;>first | (cases e;done) | skip
 . cases e;cases r with
   |@dct a kvs _ _ n hb ek rs=>exact⟨a,kvs,rfl,.inl hb,ek,rs⟩
 . cases e;cases r with
   |@dcf a o kvs _ _ n hb ek rs=>exact⟨a,kvs,rfl,.inr ⟨o,hb⟩,ek,rs⟩
theorem PK:∀{kvs:List (Key×V)} {l:List D} {k:Key} {d:D},Reps K H O (kvs.map (·.2)) l->getKD k (kvs.map (·.1)) l=some d->∃v,valV kvs k=some v/\Rep K H O v d
 |[],_,_,_,_,e=>by simp[getKD] at e
 |(k',v)::r,[],_,_,h,_=>by cases h
 | (k', v) :: r, d' :: l, k, d, .cons h t, e => by
   simp only[aO,getKD] at e
   by_cases z:k'=k
   . rw[if_pos z] at e;cases e;exact⟨v,kG z,h⟩
   . rw[if_neg z] at e;obtain⟨w,h1,h2⟩:=PK t e;exact⟨w,by simpa[valV,eU,z] using h1,h2⟩
theorem KS:∀(kvs:List (Key×V)) (k:Key),(valV kvs k).isSome=hasK k (kvs.map (·.1))
 |[],k=>rfl
 | (k', v) :: r, k => by
   by_cases z:k'=k
   . simp[valV,eU,z,hasK]
   . have := KS r k;simp only[valV,hasK] at this ⊢;rw[PB (by simpa using z),this];simp[z]
theorem LK{kvs:List (Key×V)}{k:Key}{v:V}(h:hasK k (kvs.map (·.1))=true):putK kvs k v=kvs.map (fun kv=>if kv.1=k then (kv.1,v) else kv):=by
 unfold putK;rw[if_pos];rw[hasK,List.any_map] at h;exact h
theorem putK_new{kvs:List (Key×V)}{k:Key}{v:V}(h : ¬hasK k (kvs.map (·.1))=true):putK kvs k v=kvs++[(k,v)]:=by
 unfold putK;rw[if_neg];rw[hasK,List.any_map] at h;exact h
theorem ZF(kvs:List (Key×V))(k:Key)(v:V):(kvs.map (fun kv=>if kv.1=k then (kv.1,v) else kv)).map (·.1)=kvs.map (·.1):=by
 rw[dX];refine iH fun kv _=>?_;simp only[Function.comp]
 split<;>rfl
theorem RepsO.putTs{k:Key}{v:V}{d:D}(r:Rep K H O v d):∀{kvs:List (Key×V)} {ts:List OT} {fs:List aA},RepsO K H O (kvs.map (·.2)) ts fs->∃fs':List aA,fs'.Sublist fs/\RepsO K H O ((kvs.map (fun kv=>if kv.1=k then (kv.1,v) else kv)).map (·.2)) (FL.putTs k (.val d) (kvs.map (·.1)) ts) fs'
 |[],_,_,.nil=>⟨[],.slnil,.nil⟩
 | (k', w) :: kvs, _, _, .cons (t := t) (ts := ts) (fs := fs) (gs := gs) h q => by
   obtain⟨gs',h1,h2⟩:=RepsO.putTs r q
   by_cases z:k'=k
   . refine⟨gs', h1.trans (List.sublist_append_right _ _), ?_⟩;simp only[aO,z,if_true,FL.putTs];exact .cons (fs:=[]) (.val r) h2
   . refine⟨fs ++ gs', h1.append_left _, ?_⟩;simp only[aO,z,if_false,FL.putTs];exact .cons h h2
end
section
variable{X:Cx}{i:Nat}
theorem QD{pos:Pos}: PVo X (.Dict [] [] pos) dO0:=by
 refine⟨_,QR,fun H₀ H O σ ds hd T Q o e q=>fun p hp=>?_⟩;cases e;exact q _ _ [p] (qP hp _) (.dct (kvs:=[]) (.inl (.head _)) qE rfl .nil) (by simp) fun b hb=>by rw[bA.mp hb];exact hp
theorem AH{oe ke e:Expr}{pos pos':Pos}{f:FP}{fk fv:FE}{j:Nat}(hr:Room j X.A)(ho:PVp X oe f)(hk:PV X ke fk)(he:PV X e fv)(hs:dI e (some (.Subscript oe ke pos')) pos.line X.env=pure false:=by rfl) :
  PSv X (.Assign [.Subscript oe ke pos'] e pos) (dputG f fk fv):=by
 obtain⟨tp,hp,hf⟩:=ho;obtain⟨tk,pk,hk⟩:=hk;obtain⟨te,pe,he⟩:=he;refine⟨_,ps_dput (dG (by omega) (hu100 hr)) hp pk pe hs,(3:)⟩;unfold dputG at e;obtain⟨d,h1,e⟩:=bnd e;obtain⟨q,h2,e⟩:=bnd e;obtain⟨y,h3,e⟩:=bnd e;obtain⟨k,h4,e⟩:=bnd e;refine he H₀ H O σ ds hd d _ o h1 fun v H1 s1 r1=>?_;refine hf H₀ H1 O σ ds hd q _ (o.mono s1) h2 fun r T v0 w fs g1 g2 g3 g4 g5=>?_;refine hk H₀ H1 O σ ds hd y _ (o.mono s1) h3 fun yv H2 s2 r2=>?_;have o2:=(o.mono s1).mono s2;cases hq:q.2.2 with
 | dct ks ts =>
   rw[hq] at e g2 g5;simp only at e
   split at e
   . rename_i hl;cases e;cases g5 with
     | @dct a kvs _ _ fs' n hb ek rs =>
       have hb2:=s2 _ _ hb;cases HC r2 h4;have ln:kvs.length<sizeLine:=by rw[<- ek] at hl;simpa using hl
       refine⟨a,_,rfl,DPut.k hb2 ln,?_⟩;have e':putP q (putKT k (.val d) ks ts) ds=ds.set q.1 (.ob r (putO (putKT k (.val d) ks ts) q.2.1 T)):=by simp[putP,g1]
       rw[e'] at h;refine h _ _ _ (Ok.putN ⟨.dK (putK kvs k v),rfl⟩ o2 g1 g2 g3 (xA s2 g4) fun f2 k1 k2=>?_);cases k1 with
       | @dct _ kvs2 _ _ fs2 n2 hb3 ek2 rs2 =>
         rw[hb2] at hb3;cases hb3;obtain⟨n3,n4⟩:=bR.mp k2;have c:Chg H2 (upd H2 a (.dK (putK kvs k v))) O O [a] [a]:=.ofUpd n (.head _) fun _ z=>z;have rs3:=c.repsO rs2 fun b z y=>n3 (bA.mp y▸z);have rv:=c.rep (r1.mono s2);unfold putKT
         by_cases hm:hasK k ks=true
         . rw [if_pos hm];have hm':hasK k (kvs.map (·.1))=true:=by rw [ek]; exact hm
           obtain⟨fs3,w1,w2⟩:=RepsO.putTs (k:=k) rv rs3;refine⟨a::fs3,n,.head _,fun b z=>(aD.mp z).elim (fun z=>by rw[z];exact .head _) fun z=>.tail _ (w1.subset z),bR.mpr ⟨fun z=>n3 (w1.subset z),w1.nodup n4⟩,?_⟩;refine .dct n qE ?_ ?_
           . rw[LK hm',ZF,ek]
           . have z := congrArg (List.map (·.2)) (LK (v := v) hm');rw[ek] at w2;rw[<- z] at w2;exact w2
         . rw [if_neg hm];have hm' : ¬ hasK k (kvs.map (·.1))=true:=by rw [ek]; exact hm
           refine⟨a::fs2,n,.head _,fun b z=>z,k2,?_⟩;refine .dct n qE ?_ ?_
           . rw[putK_new hm'];simp[ek]
           . have z : (putK kvs k v).map (·.2) = kvs.map (·.2) ++ [v] := by rw [putK_new hm']; simp
             rw[z];exact rs3.snoc rv
   . cases e
 |_=>rw[hq] at e;cases e
theorem ET{oe ke:Expr}{pos:Pos}{fd fk:FE}{j:Nat}(hr:Room j X.A)(ho:PV X oe fd)(hk:PV X ke fk)(hs:NoSl ke:=by exact fun _ _=>rfl):PV X (.Subscript oe ke pos) (dgetG fd fk):=by
 obtain⟨td,pd,hd'⟩:=ho;obtain⟨tk,pk,hk⟩:=hk;refine⟨_,pe_dget (dG (by omega) (hu100 hr)) pd pk hs,fun H₀ H O σ ds hd d Q o e q=>?_⟩;unfold dgetG at e;obtain⟨x,h1,e⟩:=bnd e;obtain⟨y,h3,e⟩:=bnd e;obtain⟨k,h4,e⟩:=bnd e;refine hd' H₀ H O σ ds hd x _ o h1 fun v H1 s1 r1=>?_;refine hk H₀ H1 O σ ds hd y _ (o.mono s1) h3 fun yv H2 s2 r2=>?_;obtain⟨p,h6,e⟩:=bnd e;obtain⟨a,kvs,rfl,hb,ek,rs⟩:=AO (r1.mono s2) h6;cases HC r2 h4;rw[<- ek] at e;obtain⟨w,h5,h6⟩:=PK rs e;exact⟨a,w,rfl,.inl ⟨kvs,k,hb,rfl,h5.symm⟩,q w H2 (s1.trans s2) h6⟩
theorem aEa{oe ke:Expr}{pos:Pos}{fd fk:FE}{j:Nat}(hr:Room j X.A)(hk:PVn X ke fk)(ho:PVn X oe fd)(hm:dY .NotIn oe=false:=by rfl):PTv X (.Compare ke [.NotIn] [oe] pos) (dnotG fk fd):=by
 obtain⟨td,pd,hd'⟩:=ho;obtain⟨tk,pk,hk⟩:=hk;refine⟨_,pt_cmp (ZM (dG (by omega) (hu100 hr)) pk pd) hm,fun H₀ H O σ ds hd b Q o e q=>?_⟩;unfold dnotG dinG at e;cases h3:fk ds with
 |none=>rw[h3] at e;cases e
 | some y =>
   rw[h3] at e;simp only[aH] at e;cases h4:keyD y with
   |none=>rw[h4] at e;cases e
   | some k =>
     rw[h4] at e;simp only[aH] at e;cases h1:fd ds with
     |none=>rw[h1] at e;cases e
     | some x =>
       rw[h1] at e;simp only[aH] at e;refine hk H₀ H O σ ds hd y _ o h3 fun yv H1 s1 r1=>?_;refine hd' H₀ H1 O σ ds hd x _ (o.mono s1) h1 fun v H2 s2 r2=>?_;cases h6:kdD x with
       |none=>rw[h6] at e;cases e
       | some p =>
         rw[h6] at e;cases e;obtain⟨a,kvs,rfl,hb,ek,rs⟩:=AO r2 h6;cases HC r1 h4;refine⟨a,_,rfl,.inl ⟨kvs,k,hb,rfl,rfl⟩,_,rfl,?_⟩;rw[KS,ek];exact q H2 (s1.trans s2)
theorem aBi:CallR X (.type "dict") (fun xs H Q=>∃a kvs,xs=[V.ref a]/\Rd H a (.dK kvs)/\∀p,H p=none->Q (.ref p) (upd H p (.dK kvs))):=by
 intro aC s σ H xs us Q I r h;obtain⟨a,kvs,rfl,ha,q⟩:=h;obtain⟨u,rfl,ru⟩:=vals1 r;cases ru;exact aGp I ha fun p s' hp I'=>⟨.ref p,_,I',rfl,q p hp⟩
theorem ZA{e:Expr}{f:FE}{p pos:Pos}(hm:X.mg "dict" = none)(he:PV X e f)(hg:Gl X "dict":=by rfl)(hs:aL [e] X.env=[(false,bY e X.env)]:=by rfl):PVo X (.Call (.Name "dict" p) [e] [] pos) (OH f):=by
 obtain⟨te,pe,he⟩:=he;refine⟨_,BR aBi hg hm (by decide +kernel) (jZ pe yW hs) (by decide) (by decide) hs rfl,fun H₀ H O σ ds hd T Q o e q=>?_⟩;unfold OH at e;obtain⟨x,h1,e⟩:=bnd e;refine he H₀ H O σ ds hd x _ o h1 fun v H1 s1 r1=>?_;obtain⟨p,h6,rfl⟩:=mpd e;obtain⟨a,kvs,rfl,hb,ek,rs⟩:=AO r1 h6;refine⟨a,kvs,rfl,hb,fun c hc=>?_⟩;refine q _ _ [c] (s1.trans (qP hc _)) (.dct (.inl (.head _)) qE ek (GG ?_)) (by simp) fun b hb=>by rw[bA.mp hb];exact s1.free hc
 exact((rs.moreL (ps:=[c]) fun p hp=>by rw[bA.mp hp];exact hc).mono (qP hc _))
end
end FL
namespace L2
open PySem PySem.Spec PyProof.Rows
section
variable{X:Cx}
theorem Inv.freezeD{aC:List (aA×Obj)}{σ : L2.St}{H:Hp}{s:aE}{a:aA}{kvs:List (Key×V)}(I:Inv X aC σ H s)(e:H a=some (.dK kvs)):∃o,Inv X aC σ (upd H a (.frz o (.dK kvs))) s:=by
 obtain⟨z,hd,vs,rel,dd⟩:=dk_of I.hok e;obtain⟨o,es,ep,ho,r⟩:=id dd;exact⟨o,OI (h':=s.heap) (t':=s.toks) (ob:=.frz o (.dK kvs)) I (by rw[e];trivial) ⟨rfl,fun _ _=>rfl⟩ ⟨o,ho⟩ ⟨ho,z,hd,vs,rel,dd⟩⟩
def sFrz(i:Nat)(t:TS):TS:=fun D σ H=>∃a kvs,σ[i]?=some (some (.ref a))/\H a=some (.dK kvs)/\∀o,t D σ (upd H a (.frz o (.dK kvs)))
theorem ps_frz{st:Stmt}{t:TS}{i:Nat}(h:PS X st t):PS X st (sFrz i t):=by
 intro aC s σ H D I ⟨a,kvs,h1,h2,h3⟩;obtain⟨o,I'⟩:=I.freezeD h2;exact h aC s σ _ D I' (h3 o)
end
noncomputable def Itd(d:aA)(o:Obj)(kvs:List (Key×V)):It :=
 ⟨fun i H => H d = some (.frz o (.dK kvs)) /\ i < kvs.length,
  fun i H v H'=>∃T k x,kvs[i]?=some (k,x)/\v=.ref T/\H T=none/\H'=upd H T (.tup [kV k,x]),
  fun i H=>H d=some (.frz o (.dK kvs))/\kvs.length<=i⟩
theorem nC:entryFor table "dict_itemiterator.__iter__" = some Builtin.«dict_keyiterator.__iter__» :=
 entryFor_alias (id':="dict_keyiterator.__iter__") (by kernel_rfl) rfl (by decide +kernel) (by kernel_rfl)
theorem rM{prog:bG}{w:bU}{A:bZ}{E:aB->aE->Prop}{s:aE}{it d:aA}{i n ep:Nat}{ok ov:aB}{Q:aB->aE->Prop}(hit:IsItemIter s.heap it d i n ep ok ov)(h:Q (.ref it) s):bL (bM prog w) A (pyIter (.ref it)) Q E s:=by
 have hT:s.TypeIs (.ref it) "dict_itemiterator":=⟨_,hit,rfl⟩
 refine wpAny_pyIter_slot hT sQ (wpAny_call_entry sQ hT nC ?_ (PySem.F.args_dict_itemiterator_iter_1 _));show bL _ _ (ret (.ref it)) _ _ s;exact cA ⟨_,rfl,"dict_itemiterator",_,hT,PySem.F.slot_dict_itemiterator_next.lookup,h⟩
theorem HK{X:Cx}{aC:List (aA×Obj)}{σ : L2.St}{H:Hp}{s:aE}{d:aA}{o:Obj}{kvs:List (Key×V)}{es:Array DictEntry}{ep:Nat}(I:Inv X aC σ H s)(hd:H d=some (.frz o (.dK kvs)))(dat:o.data=.dict es ep):∃vs,KV kvs vs/\s.heap.DictAt (gA X.prog X.w) d vs ep:=by
 obtain⟨ho,z,hds,vs,rel,o',es',ep',e1,ex,dat',r⟩:=I.hok d _ hd;rw[ho] at e1;cases e1;rw[dat] at dat';cases dat';exact⟨vs,rel,o,es,ho,ex,dat,r⟩
theorem KV.get{κ : Type}{kvs:List (κ×V)}{vs:List (κ×aB)}{i:Nat}{k : κ}{x:V}(h:KV kvs vs)(e:kvs[i]?=some (k,x)):∃u,vs[i]?=some (k,u)/\RelV x u:=by
 unfold KV at h
 induction h generalizing i with
 |nil=>simp at e
 | @cons p q _ _ h _ ih =>
   cases i with
   | zero =>
     simp only[cC,Option.some.injEq] at e;subst e;exact⟨q.2,by simp only[cC];rw[show q=(k,q.2) from Prod.ext h.1.symm rfl],h.2⟩
   | succ i =>
     simp only[cJ] at e ⊢;exact ih e
theorem PN{P:bG}{w:bU}{K:aM}{es:List Expr}{x1}{pos:Pos}(it d:aA)(o:Obj)(kvs:List (Key×V)){en:Array DictEntry}{ep:Nat}(dat:o.data=.dict en ep) :
  Turn P w K (.Tuple es x1 pos) (Itd d o kvs) [it] it (fun i h=>∃ok ov,IsItemIter h it d i kvs.length ep ok ov) where
 mem:=by simp
 obj:=fun i h st b hb=>by
  obtain⟨ok,ov,he⟩:=st;rw[bA.mp hb];exact⟨_,he,fun v z=>by have z':Data.fields _=Data.cell v:=z;cases z'⟩
 keep:=fun i h h' st k=>by
  obtain⟨ok,ov,he⟩:=st;exact⟨ok,ov,k it (by simp) _ he⟩
 item:=by
  intro X hP hw hK hc i aC s σ H E I hf st hg;subst hP hw hK;obtain⟨hd,hi⟩:=hg;obtain⟨ok,ov,he⟩:=st;obtain⟨vs,rel,hat⟩:=HK I hd dat;have hl:=rel.length;obtain⟨k,x,hx⟩:∃k x,kvs[i]?=some (k,x):=⟨kvs[i].1,kvs[i].2,bI hi⟩
  obtain⟨u,hu,ru⟩:=rel.get hx;rw[hl] at he;refine wpAny_pyNext_items_item he hat hu fun key h' hkey a1 a2 a3 hk=>?_;refine⟨_,rfl,wpAny_letOwnedTupleGo_items a1 fun h2' b1 bs=>?_⟩
  have rk:RelV (kV k) key:=by
   rcases qY hkey with⟨j,t,rfl,rfl⟩ | ⟨y,t,rfl,rfl⟩
   . exact⟨t,rfl⟩
   . exact⟨t,rfl⟩
  have hT:∀b∈[it],b≠s.heap.objs.size:=fun b hb z=>by
   rw[bA.mp hb] at z;exact bO (bF he) z
  have fr:H s.heap.objs.size=none:=I.hok.fresh (aU _)
  have I1:Inv X aC σ (upd H s.heap.objs.size (.tup [kV k,x])) { s with heap:=s.heap.push { cls:=.type "tuple",data:=.seq #[key,u] },toks:=s.toks }:=by
   refine I.laid (t':=s.toks) (fun b u q=>aQ _ q) (aU _) ?_;exact⟨by simp[sizeLine],[key,u],.cons rk (.cons ru .nil),⟨_,bD _ rfl,rfl,_,rfl⟩⟩
  have nz:s.heap.objs.size≠it:=fun z=>hT it (by simp) z.symm
  have I2:Inv X aC σ (upd H s.heap.objs.size (.tup [kV k,x])) { s with heap:=h2',toks:=s.toks }:=by
   refine Inv.turnedS (s:={ s with heap:=s.heap.push { cls:=.type "tuple",data:=.seq #[key,u] },toks:=s.toks }) I1 (h':=h2') (t':=s.toks) (ch:=[it]) (fun b o hb q=>?_) (fun b hb=>?_)
   . simp only [aD, pV, or_false] at hb
     by_cases hbT:b=s.heap.objs.size
     . subst hbT;have q':(s.heap.push { cls:=.type "tuple",data:=.seq #[key,u] }).get? s.heap.objs.size=some o:=q;rw[bD _ rfl] at q';cases q';exact bs.extBut _ _ nz a2
     . have q' : (s.heap.push { cls := .type "tuple", data := .seq #[key, u] }).get? b = some o := q
       have q2:s.heap.get? b=some o:=by
        rwa [aBs _ _ _ hbT] at q'
       exact bs.extBut _ _ hb (hk b o hb q2)
   . obtain⟨f0, fr'⟩ := hf b hb;exact⟨by rw[upd_ne (hT b hb)];exact f0,fr'⟩
  refine⟨.ref s.heap.objs.size,_,I2,rfl,⟨_,k,x,hx,rfl,fr,rfl⟩,⟨key,u,by rw[hl];exact b1⟩,fun b hb=>?_⟩;rw[upd_ne (hT b hb)];exact(hf b hb).1
 done:=by
  intro X hP hw hK hc i aC s σ H E I hf st hg;subst hP hw hK;obtain⟨hd,hi⟩:=hg;obtain⟨ok,ov,he⟩:=st;obtain⟨vs,rel,hat⟩:=HK I hd dat;have hl:=rel.length;rw[hl] at he;refine wpAny_pyNext_items_end (I.ok.hd hc) he hat (bW (by omega)) fun h' hk=>⟨rfl,?_⟩
  refine I.turnedS (t':=s.toks) (ch:=[it]) (fun b o hb q=>?_) hf;simp only[aD,pV,or_false] at hb;exact hk b o hb q
 self:=fun _ _ _ _ _ st h=>by
  obtain⟨ok,ov,he⟩:=st;exact rM he h
section
variable{X:Cx}
def iDI(to:TE):TI:=fun σ H R=>to σ H fun x H1=>∃d o kvs,x=.ref d/\H1 d=some (.frz o (.dK kvs))/\R (Itd d o kvs) H1
theorem ZL{es:List Expr}{x1}{tp:Pos}{oe:Expr}{to:TE}{apos pos:Pos}(ho:PE X oe to)(hbase:eG oe "items" X.env (bY oe X.env)=bY oe X.env:=by rfl)(hline:(apos.endLine==pos.line)=true:=by rfl) :
  PI X (.Tuple es x1 tp) (.Call (.Attribute oe "items" apos) [] [] pos) (iDI to):=by
 intro aC s σ H R I h;refine wpAny_Call_method0_late hbase hline (thn (ho aC s σ H _ I h) fun v s1 zq=>?_);obtain⟨x,H1,I1,r1,d,o,kvs,ex,hd,q⟩:=zq;subst ex;obtain rfl:v=aB.ref d:=r1;obtain⟨hob,z,hds,vs,rel,dd⟩:=I1.hok d _ hd;obtain⟨o',en,ep,e1,exd,dat,r⟩:=id dd;rw[hob] at e1;cases e1;have hat:s1.heap.DictAt (gA X.prog X.w) d vs ep:=⟨o,en,hob,exd,dat,r⟩
 refine⟨"dict","dict.items",PySem.F.plainAttrs_dict,JB,PySem.F.type_dict_items,⟨o,hob,exd.1⟩,fun a e2=>?_,Calls.callWith_builtin rfl (SV (call_meetsIn JB dd.typeIs PySem.F.entry_dict_items (PySem.F.args_dict_items_1 _) (meets_dict_items (gA X.prog X.w) d hds) ⟨⟨vs,dd⟩,?_⟩))⟩
 . cases e2;exact⟨o,hob,exd.2.1⟩
 . refine wpAny_pyIter_items (v := s1.heap.objs.size) ⟨_, bD _ rfl, rfl, rfl⟩ (hat.push _) ?_;have I2:Inv X aC σ H1 { s1 with heap:=s1.heap.push { cls:=.type "dict_items",data:=.fields #[.ref d] } }:=I1.kept (t':=s1.toks) fun b o e=>aQ _ e;refine ⟨_,[_],_,_,H1,rfl,I2.kept (t':=s1.toks) fun b o e=>aQ _ e,PN _ d o kvs dat,⟨.none,.none,?_⟩,fun c hc=>?_,q⟩
   . rw[rel.length];exact bD _ rfl
   . rw[bA.mp hc];exact I2.fpOk (aU _) (I2.hok.fresh (aU _))
end
end L2
namespace FL
open PySem PySem.Spec PyProof.Rows L2
section
variable{K:Frag}{H H' H₀ : Hp}{O O':aA->Prop}
theorem FR:∀{ts:List OT} {l:List D},valsO ts=some l->ts=l.map OT.val
 |[],_,e=>by cases e;rfl
 | .val d :: r, l, e => by
   unfold valsO at e;cases h:valsO r with
   |none=>rw[h] at e;cases e
   |some m=>rw[h] at e;cases e;rw[FR h];rfl
 | .lst _::_,_,e=>by cases e
 | .tup _::_,_,e=>by cases e
 | .dct _ _::_,_,e=>by cases e
 | .ins _ _::_,_,e=>by cases e
theorem RepsO.ofVals:∀{l:List D} {xs:List V} {fs:List aA},RepsO K H O xs (l.map OT.val) fs->fs=[]/\Reps K H O xs l
 |[],_,_,.nil=>⟨rfl,.nil⟩
 | d :: l, _, _, .cons (.val r) t => by
   obtain⟨rfl,rs⟩:=RepsO.ofVals t;exact⟨rfl,.cons r rs⟩
theorem Ok.frzD{σ : L2.St}{ds:List Sl}{hd:Hold}{i:Nat}{r:Option Nat}{ks:List Key}{l:List D}(o:Ok K H₀ H O σ ds hd)(e:ds[i]?=some (.ob r (.dct ks (l.map OT.val)))) :
  ∃a kvs,σ[i]?=some (some (.ref a))/\H a=some (.dK kvs)/\∀ob,∃O',Ok K H₀ (upd H a (.frz ob (.dK kvs))) O' σ (ds.set i (.v (.dcf ks l))) hd:=by
 obtain⟨F,hF⟩:=o.obs;obtain⟨v,h1,h2,h3,h4,h5⟩:=hF i r _ e;have hl:i<ds.length:=(aV.mp e).1;generalize hfi:F i=fi at h2 h4 h5;cases h2 with
 | @dct a kvs _ _ fs n hb ek rs =>
   obtain⟨rfl,rv⟩:=rs.ofVals;refine⟨a,kvs,h1,hb,fun ob=>?_⟩
   let O':aA->Prop:=fun b=>O b/\b≠a
   have sub:∀b,O' b->O b:=fun b hb=>hb.1;have h0:H₀ a=none:=(h5 a (.head _)).1
   have kp:Keep O H (upd H a (.frz ob (.dK kvs))):=fun b u nb eb=>by
    have z:b≠a:=fun z=>nb (by rw[z];exact n);rw[L2.upd_ne z];exact eb
   have ne:∀{b:aA} {u:HO},b≠a->H b=some u->upd H a (.frz ob (.dK kvs)) b=some u:=fun z eb=>by rw[L2.upd_ne z];exact eb
   have own':∀{j:Nat},IsOwn (ds.set i (.v (.dcf ks l))) j->IsOwn ds j/\j≠i:=fun h=>vG (fun l=>by intro z;cases z) h;have nown:∀{j:Nat} {b:aA},IsOwn ds j->σ[j]?=some (some (.ref b))->b≠a:=fun {j b} oj ej z=>(h5 a (.head _)).2.2 j oj (by rw[<- z];exact ej);refine⟨O',fun b u eb=>ne (fun z=>by rw[z,h0] at eb;cases eb) (o.same b u eb),fun j l' b e1 e2=>?_,fun b hb=>?_,by simpa using o.len,fun j s es=>?_,fun j m b hjm hj hm e1 e2=>o.apart j m b hjm (own' hj).1 (own' hm).1 e1 e2,fun p hp=>?_,?_⟩
   . obtain⟨⟨l2, e2'⟩, _⟩ := own' ⟨l', e1⟩;exact o.fresh j l2 b e2' e2
   . obtain⟨u, eu⟩ := o.dom b hb.1;exact⟨u,ne hb.2 eu⟩
   . by_cases hj : j = i
     . subst hj;rw[aX hl] at es;cases es;rw[h1];exact yQ (.dcf (fun z=>z.2 rfl) qE ek ((rv.keep kp).less sub))
     . rw [aF (Ne.symm hj)] at es;cases s with
       |no=>exact jQ
       |ob r t=>exact xG
       | exc t =>
         obtain⟨a',C',ob',u',q1,q2,q3,q4⟩:=o.readX es;rw[q1];exact⟨C',ob',u',q2,ne (fun z=>by rw[z,hb] at q3;cases q3) q3,q4⟩
       | fr l' =>
         obtain⟨a',xs',q1,q2,q0,q3,q4⟩:=o.readF es;rw[q1];exact⟨fun z=>q2 (sub _ z),q0,xs',kp _ _ q2 q3,(q4.keep kp).less sub⟩
       | v d =>
         obtain⟨v,q1,q2⟩:=o.read es;rw[q1];exact yQ ((q2.keep kp).less sub)
       | own l' =>
         obtain⟨b,ys,q1,q2,q3,q4⟩:=o.readO es;rw[q1];have z:=nown ⟨l',es⟩ q1;exact⟨⟨q2,z⟩,ys,ne z q3,(q4.keep kp).less sub⟩
   . have := o.hold p hp;cases p with
     |rep v d=>exact(Rep.keep kp this).less sub
     |base B=>exact fun b hb=>⟨⟨(this b hb).1,fun z=>(this b hb).2 (by rw[z];exact h0)⟩,(this b hb).2⟩
     |root k a=>exact True.intro
     |fz a' o' kvs' l'=>exact⟨fun z=>this.1 (sub _ z),kp _ _ this.1 this.2.1,(Reps.keep kp this.2.2).less sub⟩
   . refine⟨F, fun j r' t' ej => ?_⟩;obtain⟨ej,hj⟩:=vT (fun r t=>by intro z;cases z) ej;obtain⟨w,g1,g2,g3,g4,g5⟩:=hF j r' t' ej;have na:a∉F j:=fun z=>(h5 a (.head _)).2.1 j r' t' hj ej z;refine⟨w,g1,(g2.keep kp fun b hb u eb=>ne (fun z=>na (by rw[<- z];exact hb)) eb).less sub fun b hb=>⟨(g2.owns b hb).1,fun z=>na (by rw[<- z];exact hb)⟩,g3,g4,fun b hb=>⟨(g5 b hb).1,fun m r2 t2 hm em=>(g5 b hb).2.1 m r2 t2 hm (vT (fun r t=>by intro z;cases z) em).1,fun m om em=>(g5 b hb).2.2 m (own' om).1 em⟩⟩
end
section
variable{X:Cx}
theorem QK{i:Nat}{st:Stmt}{g:FS}(h:PSv X st g):PSv X st (frzDG i g):=by
 obtain⟨t,ht,hg⟩:=h;refine⟨_,ps_frz (i:=i) ht,(3:)⟩;unfold frzDG at e;cases hs:ds[i]? with
 |none=>rw[hs] at e;cases e
 | some s =>
   rw[hs] at e;cases s with
   | ob r T =>
     cases T with
     | dct ks ts =>
       simp only at e;obtain⟨l,hv,e⟩:=bnd e;rw[FR hv] at hs;obtain⟨a,kvs,h1,h2,h3⟩:=o.frzD hs;refine⟨a,kvs,h1,h2,fun ob=>?_⟩;obtain⟨O',o'⟩:=h3 ob;exact hg H₀ _ O' σ _ hd out E o' e h
     |_=>cases e
   |_=>cases e
def WlkD(K:Frag)(J:It)(h:HI)(items:List D):Prop:=∀H₀ H O,(∀a,O a->∃u:MutHO,H a=some u.1)->HOk K H₀ H O h →
 (∀i d,items[i]?=some d->J.go i H/\∀x H',J.yld i H x H'->Same H H'/\Rep K H' O x d)/\J.stop items.length H
variable(X) in
def PId(tg iter:Expr)(fi:FA):Prop:=∃wi,PI X tg iter wi/\∀H₀ H O σ ds hd items R,Ok X.K H₀ H O σ ds hd->fi ds=some items →
 (∀J p H',Same H H'->HOk X.K H₀ H' O p->(∀k a,HI.root k a≠p)->(∀B,HI.base B≠p)->WlkD X.K J p items->R J H')->wi σ H R
theorem aFq{K:Frag}{H:Hp}{O:aA->Prop}:∀k:Key,Rep K H O (kV k) (keyDD k)
 | .inl i=>.int i
 | .inr x=>.str x
theorem SY{K:Frag}{d:aA}{o:Obj}{kvs:List (Key×V)}{l:List D}: WlkD K (Itd d o kvs) (.fz d o kvs l) (oF (kvs.map (·.1)) l):=by
 intro H₀ H O dom ⟨n,hd,rs⟩;have hl:l.length=kvs.length:=by rw[<- rs.length];simp
 have hi:(oF (kvs.map (·.1)) l).length=kvs.length:=by simp[oF,hl]
 refine⟨fun i x hx=>?_,⟨hd,by rw[hi];exact aU _⟩⟩;have lt:i<kvs.length:=by rw[<- hi];exact(aV.mp hx).1
 refine⟨⟨hd,lt⟩,fun v H' zq=>?_⟩;obtain⟨T,k,y,hk,e1,hT,e2⟩:=zq;subst e1 e2;have h1:(kvs.map (·.1))[i]?=some k:=by rw[bE,hk];rfl
 have h2:(kvs.map (·.2))[i]?=some y:=by rw[bE,hk];rfl
 have h3:l[i]?=some l[i]:=bI (by omega);obtain⟨y',h4,h5⟩:=rs.get h3;rw[h2] at h4;cases h4
 have:x=.tup [keyDD k,l[i]]:=by
  have q:((kvs.map (·.1)).zip l)[i]?=some (k,l[i]):=List.getElem?_zip_eq_some.mpr ⟨h1,h3⟩;simp only[oF,bE,q,cF,Option.some.injEq] at hx;exact hx.symm
 subst this;have sm:Same H (upd H T (.tup [kV k,y])):=qP hT _;refine⟨sm,.tup (fun z=>?_) (.inl qE) (.cons (aFq k) (.cons (h5.mono sm) .nil))⟩;obtain⟨u,eu⟩:=dom T z;rw[hT] at eu;cases eu
theorem ZJ{es:List Expr}{x1}{tp:Pos}{oe:Expr}{f:FE}{apos pos:Pos}(h:PV X oe f)(hbase:eG oe "items" X.env (bY oe X.env)=bY oe X.env:=by rfl)(hline:(apos.endLine==pos.line)=true:=by rfl) :
  PId X (.Tuple es x1 tp) (.Call (.Attribute oe "items" apos) [] [] pos) (uC f):=by
 obtain⟨t,ht,hf⟩:=h;refine⟨_,ZL ht hbase hline,fun H₀ H O σ ds hd items R o e q=>?_⟩;unfold uC at e;obtain⟨x,h1,e⟩:=bnd e;refine hf H₀ H O σ ds hd x _ o h1 fun v H1 s1 r1=>?_;cases x<;>first | (cases e;done) | skip
 cases e;cases r1 with
 | @dcf a ob kvs _ _ n hb ek rs =>
   refine⟨a,ob,kvs,rfl,hb,?_⟩;rw[<- ek] at q;exact q _ (.fz a ob kvs _) H1 s1 ⟨n,hb,rs⟩ (fun _ _ z=>by cases z) (fun _ z=>by cases z) SY
theorem aEe{tg iter:Expr}{body:List Stmt}{pos:Pos}{fi:FA}{ga:D->List Sl->Option (List Sl)}{g:FS}(hp:PassesOwn (bM X.prog X.w) X.A X.env X.xe)(hc:X.calm=true)(hi:PId X tg iter fi)(hg:PGv X tg ga)(hb:PSsv X body g)(hs:∀x,eJ iter X.env x=pure x:=by intro _;rfl):PSv X (.For tg iter body [] pos) (forG fi ga g):=by
 obtain⟨wi,pi,hi⟩:=hi;obtain⟨tg',pg,hg⟩:=hg;obtain⟨tb,pb,hb⟩:=hb;refine⟨_,aEi hp hc pi pg pb hs,(3:)⟩;unfold forG at e;obtain⟨items,h1,e⟩:=bnd e;refine hi H₀ H O σ ds hd items _ o h1 fun J p H' s r nr nb wk=>?_;refine⟨fun i m σ' H'=>i<=items.length/\m=items.length-i/\∃O' ds',Ok X.K H₀ H' O' σ' ds' (p::hd)/\qZ ga g (items.drop i) ds'=some out,⟨items.length,dP _,rfl,O,ds,(o.mono s).holdMore (p:=p) r nr,by simpa using e⟩,?_⟩;rintro i m σ1 H1 ⟨hi1,rfl,O1,ds1,o1,e1⟩;obtain⟨go,stop⟩:=wk H₀ H1 O1 o1.dom (o1.hold p aN)
 by_cases hlt:i<items.length
 . right;have hd0:items[i]? = some items[i]:=bI hlt;obtain ⟨hgo,hy⟩:=go i _ hd0;rw [cK hlt,qZ] at e1;refine ⟨hgo,fun σ' H'=>i+1<=items.length/\∃ O' ds',Ok X.K H₀ H' O' σ' ds' (p::hd)/\qZ ga g (items.drop (i+1)) ds'=some out,fun σ' H' ⟨q1,q2⟩=>⟨items.length - (i+1),by omega,q1,rfl,q2⟩,fun x H2 y=>?_⟩;obtain ⟨s2,r2⟩:=hy x H2 y;obtain ⟨ds2,h2,e1⟩:=bnd e1;obtain ⟨o3,h3,e1⟩:=bnd e1;refine hg H₀ H2 O1 σ1 ds1 (p::hd) x _ ds2 _ (o1.mono s2) r2 h2 fun σ' o'=>?_;refine hb H₀ H2 O1 σ' ds2 (p::hd) o3 _ o' h3 ?_;cases o3 with
   |nx ds3=>exact fun σ3 H3 O3 ok3=>⟨hlt,O3,ds3,ok3,e1⟩
   |ct ds3=>exact fun σ3 H3 O3 ok3=>⟨hlt,O3,ds3,ok3,e1⟩
   |bk ds3=>cases e1;exact fun σ3 H3 O3 ok3=>h σ3 H3 O3 ok3.holdLess
   |rt rr=>cases e1;exact fun v H s r b=>h v H s r (LD b)
 . left;have ei:i=items.length:=by omega
   subst ei;rw[DR,qZ] at e1;cases e1;exact⟨stop,h σ1 H1 O1 o1.holdLess⟩
end
section
variable{K:Frag}{H H' H₀ : Hp}{O O':aA->Prop}
theorem RepsO.snocO:∀{xs:List V} {ts:List OT} {fs:List aA} {v:V} {T:OT} {f:List aA},RepsO K H O xs ts fs->RepO K H O v T f->RepsO K H O (xs++[v]) (ts++[T]) (fs++f)
 | _, _, _, _, _, f, .nil, r => by
   have:=RepsO.cons (gs:=[]) r .nil;simpa using this
 | _, _, _, _, _, _, .cons (fs := fs) (gs := gs) h t, r => by
   rw[eS];exact .cons h (RepsO.snocO t r)
end
section
variable{X:Cx}
theorem wB{oe e:Expr}{n:Str}{pos pos':Pos}{f:FP}{g:FO}{t t':Nat}(hF:∀C,aT X.K aP (dA t)=some (some (.ref C))->Cls X.K C/\NoAttr X.K C n)(ho:PVp X oe f)(he:PVo X e g)(hn:dA t'=dA t:=by rfl)(hfl:cR t'=cR t++[n]:=by rfl)(hnew:n∉cR t:=by decide +kernel)(hs:dI e (some (.Attribute oe n pos')) pos.line X.env=pure false:=by rfl) :
  PSv X (.Assign [.Attribute oe n pos'] e pos) (setNw t t' f g):=by
 obtain⟨tp,hp,hfp⟩:=ho;obtain⟨tv,hv,hg⟩:=he;refine⟨_,TW hp hv hs,(3:)⟩;unfold setNw at e;cases h1:g ds with
 |none=>rw[h1] at e;cases e
 | some T =>
   rw[h1] at e;simp only[aH] at e;cases h2:f ds with
   |none=>rw[h2] at e;cases e
   | some q =>
     rw[h2] at e;simp only[aH] at e;refine hg H₀ H O σ ds hd T _ o h1 fun v H1 fs s1 r1 nd1 n1=>?_;have o1:Ok X.K H₀ H1 (orL fs O) σ ds hd:=o.moreL s1 n1 fun b hb=>(r1.owns b hb).2;refine hfp H₀ H1 (orL fs O) σ ds hd q _ o1 h2 fun r T0 v0 w fs0 g1 g2 g3 g4 g5=>?_;obtain⟨v',w',f',y1,y2,y3,y4,y5,y6⟩:=o.modAt g1 g2;rw[g3] at y1;cases y1;cases xJ g4 (xA s1 y2);cases hq:q.2.2 with
     | ins c l =>
       rw[hq] at y3 e;simp only at e
       split at e
       . rename_i hk;obtain ⟨rfl,hk⟩:=hk;cases e;cases y3 with
         | @ins a C dx _ kvs _ fs' cc na ha ek rs =>
           obtain⟨cl,nat⟩:=hF C cc;have ln:kvs.length=l.length:=by simpa using rs.length
           refine⟨a,C,dx,kvs,rfl,s1 _ _ ha,cl,nat,by omega,?_⟩;obtain⟨n3,n4⟩:=bR.mp y4
           have old:∀b,H b=none->b∉a::fs':=fun b hb z=>by
            rcases aD.mp z with z | z
            . rw[z,ha] at hb;cases hb
            . obtain⟨_, x, ex⟩ := rs.owns b z;rw[hb] at ex;cases ex
           have afs:a∉fs:=fun z=>by rw[n1 a z] at ha;cases ha
           have pn:putF n v kvs=kvs++[(n,v)]:=GJ (by rw[ek];exact hnew);have hs':∀b u,b≠a->H b=some u->upd H1 a (.ins C dx (putF n v kvs)) b=some u:=fun b u nb eb=>by rw[L2.upd_ne nb];exact s1 _ _ eb
           have nO:∀{b:aA},¬O b->b≠a:=fun nb z=>nb (by rw[z];exact na)
           have c0:Chg H (upd H1 a (.ins C dx (putF n v kvs))) O (orL fs O) [a] (a::fs):=
            ⟨fun b u nb eb=>hs' b u (nO nb) eb,fun b u _ nb eb=>hs' b u (fun z=>nb (by rw[z];exact .head _)) eb,fun b z _=>.inr z,fun b z=>z.elim (fun z=>.inr ⟨.tail _ z,n1 b z⟩) .inl,fun b z=>(aD.mp z).elim (fun z=>.inl (by rw[z];exact .head _)) fun z=>.inr (n1 b z)⟩
           have rT:RepO X.K (upd H1 a (.ins C dx (putF n v kvs))) (orL fs O) v T fs:=r1.keep (fun b u nb eb=>by rw[L2.upd_ne (nO fun z=>nb (.inr z))];exact eb) fun b hb u eb=>by
            have z:b≠a:=fun z=>afs (by rw[<- z];exact hb);rw[L2.upd_ne z];exact eb
           have rs':=(c0.repsO rs fun b hb z=>n3 (bA.mp z▸hb)).snocO rT
           have ok:=y6 (H':=upd H1 a (.ins C dx (putF n v kvs))) (O':=orL fs O) (u':=.ins t' (l++[T])) (f':=a::(fs'++fs))
            ⟨fun b u nb eb=>hs' b u (nO nb) eb,fun b u _ nb eb=>hs' b u (fun z=>nb (by rw[z];exact .head _)) eb,fun b z _=>.inr z,fun b z=>z.elim (fun z=>.inr ⟨.tail _ (aI _ z),n1 b z⟩) .inl,fun b z=>?_⟩
            (fun b z _=>?_) (.ins (by rw[hn];exact cc) (.inr na) qE (by rw[pn,hfl,<- ek];simp) (by rw[show(putF n v kvs).map (·.2)=kvs.map (·.2)++[v] by rw[pn];simp];exact rs')) (bR.mpr ⟨fun z=>?_,?_⟩)
           . have e' : putP q (.ins t' (l ++ [T])) ds = ds.set q.1 (.ob r (putO (.ins t' (l ++ [T])) q.2.1 T0)) := by simp [putP, g1]
             rw[e'] at h;exact h _ _ _ ok
           . rcases aD.mp z with z | z
             . exact .inl (by rw[z];exact .head _)
             . rcases bJ.mp z with z | z
               . exact .inl (.tail _ z)
               . exact .inr (n1 b z)
           . by_cases z' : b = a
             . rw[z',qE];exact⟨⟨.ins C dx (putF n v kvs),rfl⟩,rfl⟩
             . rcases aD.mp z with q' | q'
               . exact(z' q').elim
               . obtain⟨_, y, ey⟩ := rs.owns b q';exact⟨y,hs' b _ z' ey⟩
           . rcases bJ.mp z with z | z
             . exact n3 z
             . exact afs z
           . rw[eD];refine⟨n4,nd1,fun x hx y hy z=>old x (by rw[z];exact n1 y hy) (.tail _ hx)⟩
       . cases e
     |_=>rw[hq] at e;cases e
structure LMk(P:bG)(w:bU)(K:Frag)(mg:Str->Option aB)(base:Heap)(t k n m:Nat)(F:OT->List D->Option OT):Prop where
 ex:∃(C f:aA) (fd:aK) (ps:List Str),aT K aP (dA t)=some (some (.ref C))/\mg (dA t)=some (.ref C)/\Mk K C f/\FnOk P w K mg base CX0 k f fd ps (spL K n F)/\Binds K fd ps (List.replicate m .none)
theorem PJ:∀m:Nat,Vals (List.replicate m V.non) (List.replicate m aB.none)
 |0=>.nil
 |m+1=>.cons rfl (PJ m)
theorem QC{K:Frag}{H:Hp}{O:aA->Prop}:∀m:Nat,Reps K H O (List.replicate m V.non) (List.replicate m D.non)
 |0=>.nil
 |m+1=>.cons .non (QC m)
theorem aAe{t n m:Nat}{F:OT->List D->Option OT}{g:FA}{C:aA}{ta:TA}{T:OT}{H₀ H:Hp}{O:aA->Prop}{σ : L2.St}{ds:List Sl}{hd:Hold}{Q:VK}(hc:aT X.K aP (dA t)=some (some (.ref C)))(hfl:cR t=[])(hfa:∀H₀ H O σ ds hd l Q,Ok X.K H₀ H O σ ds hd->g ds=some l->(∀vs H',Same H H'->Reps X.K H' O vs l->Q vs H')->ta σ H Q)(o:Ok X.K H₀ H O σ ds hd)(h1:makeO t n m F g ds=some T)(q:∀v H' fs,Same H H'->RepO X.K H' (orL fs O) v T fs->fs.Nodup->(∀b∈fs,H b=none)->Q v H'):tMake C (spL X.K n F) (List.replicate m .non) E0 ta σ H Q:=by
 unfold makeO at h1;obtain⟨l,h2,h1⟩:=bnd h1
 split at h1
 . rename_i hl;refine hfa H₀ H O σ ds hd l _ o h2 fun vs H1 s1 r1=>?_;intro x dx nx ndx nex
   have s2:Same H1 (upd (upd H1 dx (.own x)) x (.ins C dx [])):=fun b o e=>by
    rw[upd_ne (jC e nx),upd_ne (jC e ndx)];exact e
   have o1:=o.mono s1;have rl:=r1.length;refine⟨x,.ins t [],T,[x],O,vs++List.replicate m .non,l++List.replicate m .non,rfl,by simp;omega,.ins (kvs:=[]) (fs:=[]) hc (.inl (.head _)) qE (by rw[hfl];rfl) .nil,by simp,fun b hb=>?_,?_,h1,fun H' fs' k1 k2 k3 k4=>⟨rfl,q _ H' fs' (fun b u eb=>?_) k2 k3 fun b hb=>?_⟩⟩
   . obtain⟨u, eu⟩ := o1.dom b hb;exact⟨(fun z=>by rw[bA.mp z,nx] at eu;cases eu),u,s2 _ _ eu⟩
   . exact((r1.moreL (ps:=[x]) fun p hp=>by rw[bA.mp hp];exact nx).mono s2).append (QC m)
   . have e1 := s1 _ _ eb;exact k1 b u (fun z=>by rw[bA.mp z,nx] at e1;cases e1) (s2 _ _ e1)
   . rcases k4 b hb with z | z
     . rw[bA.mp z];exact s1.free nx
     . exact s1.free (s2.free z)
 . cases h1
section
variable{t k j n m:Nat}{F:OT->List D->Option OT}{x:Str}{p pos:Pos}{e:Expr}{es:List Expr}{g:FA}
theorem aDm(M:LMk X.prog X.w X.K X.mg X.base t k n m F)(hr:Room j X.A)(ha:PAs X (e::es) g)(hj:k+1<=j:=by decide)(hx:dA t=x:=by rfl)(hfl:cR t=[]:=by rfl)(hg:Gl X x:=by rfl)(hdb:(x==("__debug__" : Str))=false:=by decide)(he:aL (e::es) X.env=(false,bY e X.env)::aL es X.env:=by rfl)(hpl:(dB pos (aL es X.env)).any (·.1)=false:=by rfl) :
  PVo X (.Call (.Name x p) (e::es) [] pos) (makeO t n m F g):=by
 obtain⟨C,f,fd,ps,hc,hm,mk,Fn,hb⟩:=M.ex;obtain⟨ta,pa,hfa⟩:=ha;subst hx;exact⟨_,WN (CX:=CX0) (E:=E0) mk Fn (hr.mono hj) hg hm hb (PJ m) pass0 pa hdb he hpl,fun H₀ H O σ ds hd T Q o e q=>aAe hc hfl hfa o e q⟩
end
end
section
variable{X:Cx}
variable(X) in
def PVx(e:Expr)(f:FX):Prop:=∃t,PE X e t/\∀H₀ H O σ ds hd d ds' Q,Ok X.K H₀ H O σ ds hd->f ds=some (d,ds')->(∀v H' O',Ok X.K H₀ H' O' σ ds' hd->Rep X.K H' O' v d->Q v H')->t σ H Q
theorem RepsO.last{K:Frag}{H:Hp}{O:aA->Prop}:∀{l:List OT} {xs:List V} {fs:List aA} {d:D},RepsO K H O xs (l++[.val d]) fs->∃ys y,xs=ys++[y]/\RepsO K H O ys l fs/\Rep K H O y d:=by
 intro l
 induction l with
 | nil =>
   intro _ _ _ h;cases h with
   |cons h t=>cases h with | val r=>cases t;exact⟨[],_,rfl,.nil,r⟩
 | cons a l ih =>
   intro _ _ _ h;cases h with
   | cons h t =>
     obtain⟨ys,y,rfl,h1,h2⟩:=ih t;exact⟨_::ys,y,rfl,.cons h h1,h2⟩
theorem VW{oe:Expr}{p2 p3:Pos}{f:FP}(ho:PVp X oe f)(hline:(p2.endLine==p3.line)=true:=by rfl)(hbase:eG oe "pop" X.env (bY oe X.env)=bY oe X.env:=by rfl) :
  PVx X (.Call (.Attribute oe "pop" p2) [] [] p3) (popX f):=by
 obtain⟨t,ht,hf⟩:=ho;refine⟨_,pe_bm0 iS PySem.F.slot_list_pop PySem.F.type_list_pop mt_pop ht hbase hline,fun H₀ H O σ ds hd d ds' Q o e h=>?_⟩;unfold popX at e;obtain⟨q,h1,e⟩:=bnd e;refine hf H₀ H O σ ds hd q _ o h1 fun r T v w fs g1 g2 g3 g4 g5=>?_;cases hq:q.2.2 with
 | lst l =>
   rw[hq] at e g2 g5;simp only at e;cases hl:l.getLast? with
   |none=>rw[hl] at e;cases e
   | some u =>
     rw[hl] at e;cases u with
     | val d' =>
       cases e;obtain⟨l',rfl⟩:=List.getLast?_eq_some_iff.mp hl;have e0:(l'++[OT.val d]).dropLast=l':=by simp
       rw[e0] at h;cases g5 with
       | @lst a xs _ fs' n hb rs =>
         obtain⟨ys,y,rfl,rs',ry⟩:=rs.last;have e2:(ys++[y]).dropLast=ys:=by simp
         refine⟨.inl ⟨rfl,_,SqL.of hb⟩,a,ys++[y],y,rfl,rfl,hb,by simp,?_⟩;rw[e2]
         have ok:=o.putL (l':=l') (ys:=ys) g1 g2 g3 g4 fun xs2 fs2 k1 k2 k3 k4 k5=>⟨fs2,fun _ z=>z,k4,fun {H'} c=>by
          rw[hb] at k1;cases k1;obtain⟨ys2,y2,e3,rs2,_⟩:=k3.last;obtain⟨e4,_⟩:=List.append_inj' e3 rfl;subst e4
          exact c.repsO rs2 fun b z y=>k5 (bA.mp y▸z)⟩
         have e':putP q (.lst l') ds=ds.set q.1 (.ob r (putO (.lst l') q.2.1 T)):=by simp[putP,g1]
         rw[e'] at h;have c:Chg H (upd H a (.lst ys)) O O [a] [a]:=.ofUpd n (.head _) fun _ z=>z;exact h y _ O ok (c.rep ry)
     |_=>cases e
 |_=>rw[hq] at e;cases e
section
variable{m:Str}{k j n:Nat}{cs:List Nat}{F:Nat->OT->List D->Option OT}{oe e:Expr}{es:List Expr}{apos pos pos':Pos}{f:FP}{g:FA}
theorem LM{pl:Sem Bool}{i:Nat}{x:Str}{px:Pos}{gx:FX}(M:LCal X.prog X.w X.K X.mg X.base m k 1 cs F)(hr:Room j X.A)(ha:PVx X e gx)(hj:k<=j:=by decide)(hN:X.N[i]?=some x:=by rfl)(hv:Vis X.env.scope x:=by first | exact Or.inl rfl | exact Or.inr (Or.inl rfl) | exact Or.inr (Or.inr rfl))(hd:(x==("__debug__" : Str))=false:=by decide)(hcd:(x==("__classdict__" : Str))=false:=by decide)(hst:aL [e] X.env=(false,bY e X.env)::aL [] X.env:=by rfl)(hpl:(dB pos (aL [] X.env)).any (·.1)=false:=by rfl)(ht:bY (.Call (.Attribute (.Name x px) m apos) [e] [] pos) X.env=(do
    let ov <- bY (.Name x px) X.env
    kJ apos.atName
    let (f,first) <- gD [ov] (kK ov m pl)
    pJ pos f first (dB pos (aL [e] X.env)) (iO pos (eV [] X.env))):=by rfl)(hsw:dI (.Call (.Attribute (.Name x px) m apos) [e] [] pos) none pos'.line X.env=pure false:=by rfl):PSv X (.Expr (.Call (.Attribute (.Name x px) m apos) [e] [] pos) pos') (lentX cs F i gx):=by
 obtain⟨t,pt,hgx⟩:=ha;refine⟨_,xY (GR (pl:=pl) (k:=k) (xW hN hv hd hcd) (hr.mono hj) (jZ pt yW hst) hst hpl ht) hsw,(3:)⟩;unfold lentX varP at e;cases hs:ds[i]? with
 |none=>rw[hs] at e;cases e
 | some s =>
   rw[hs] at e;cases s with
   | ob r T =>
     simp only[aH] at e;cases T with
     | ins c ts =>
       simp only at e
       split at e
       . rename_i hc;cases h2:gx ds with
         |none=>rw[h2] at e;cases e
         | some p =>
           obtain⟨d,ds2⟩:=p;rw[h2] at e;simp only[aH] at e;cases hs2:ds2[i]? with
           |none=>rw[hs2] at e;cases e
           | some s2 =>
             rw[hs2] at e;cases s2 with
             | ob r2 T2 =>
               simp only[aH] at e;cases T2 with
               | ins c2 ts2 =>
                 simp only at e
                 split at e
                 . rename_i hc2;subst hc2;cases h4:F c2 (.ins c2 ts2) [d] with
                   |none=>rw[h4] at e;cases e
                   | some T' =>
                     rw[h4] at e;cases e;obtain⟨F0,hF0⟩:=o.obs;obtain⟨v,y1,y2,_⟩:=hF0 i r _ hs;generalize F0 i=fi at y2;cases y2 with
                     | @ins a C dx _ kvs _ fs' cc nn ha ek rr =>
                       obtain⟨fa,fd,ps,cl,hm,Fn,hb⟩:=M.of c2 hc C cc;refine⟨.ref a,y1,a,C,dx,kvs,fa,fd,ps,_,rfl,ha,yO (by rw[ek];exact M.no c2 hc),cl,hm,Fn,hb,?_⟩;refine hgx H₀ H O σ ds hd d ds2 _ o h2 fun vd H2 O2 o2 rd=>?_;obtain⟨v',w',f',z1,z2,z3,z4,z5,z6⟩:=o2.modAt (p:=[]) hs2 rfl;rw[y1] at z1;cases z1;cases(show w'=.ref a from z2);have ow:∀b∈f',O2 b:=fun b z=>(z3.owns b z).1
                       let B:aA->Prop:=fun b=>O2 b/\b∉f'
                       have toO:∀b,orL f' B b->O2 b:=fun b z=>z.elim (ow b) fun z=>z.1;refine⟨a,_,T',f',B,[vd],[d],rfl,rfl,z3.less toO (fun b z=>.inl z),z4,fun b z=>⟨z.2,o2.dom b z.1⟩,.cons (rd.less toO) .nil,h4,fun H' fs2 k1 k2 k3 k4=>?_⟩;have e':putP (i,[],OT.ins c2 ts2) T' ds2=ds2.set i (.ob r2 (putO T' [] (.ins c2 ts2))):=by simp[putP,hs2]
                       have h:After X H₀ hd E (.nx (putP (i,[],OT.ins c2 ts2) T' ds2)):=h;rw[e'] at h;exact h _ _ _ (z6 ⟨fun b u nb eb=>k1 b u (fun z=>nb (ow b z)) eb,fun b u _ nb eb=>k1 b u nb eb,fun b z nb=>.inr ⟨z,nb⟩,fun b z=>z.elim (fun z=>(k4 b z).elim (fun y=>.inl (ow b y)) fun y=>.inr ⟨z,y⟩) fun z=>.inl z.1,k4⟩ (fun b z y=>y.elim (fun y=>(k2.owns b y).2) fun y=>(y.2 z).elim) k2 k3)
                 . cases e
               |_=>cases e
             |_=>cases e
       . cases e
     |_=>cases e
   |_=>cases e
end
end
end FL
namespace L2
open PySem PySem.Spec PyProof.Rows
section
variable{X:Cx}
theorem FY:∀{vs:List aB} {ks:List Str},vs.length=ks.length->(∀(j:Nat) (v:aB),vs[j]?=some v->∃(x:Str) (t:Tok),ks[j]?=some x/\v=aB.str x t)->aBn vs ks
 |[],[],_,_=>.nil
 |[],_::_,h,_=>by simp at h
 |_::_,[],h,_=>by simp at h
 | v :: vs, k :: ks, h, H => by
   obtain⟨x,t,h1,h2⟩:=H 0 v rfl;simp only[cC,Option.some.injEq] at h1;subst h1 h2;exact .cons _ _ (FY (by simpa using h) fun j u e=>H (j+1) u (by simpa using e))
theorem FQ:∀{us:List aB} {ns:List Str},aBn us ns->Vals (ns.map V.str) us
 |_,_,.nil=>.nil
 |_,_,.cons n t h=>.cons ⟨t,rfl⟩ (FQ h)
theorem KV.at'{κ : Type}{kvs:List (κ×V)}{vs:List (κ×aB)}{i:Nat}{k : κ}{u:aB}(h:KV kvs vs)(e:vs[i]?=some (k,u)):∃x,kvs[i]?=some (k,x)/\RelV x u:=by
 unfold KV at h
 induction h generalizing i with
 |nil=>simp at e
 | @cons p q _ _ h _ ih =>
   cases i with
   | zero =>
     simp only[cC,Option.some.injEq] at e;subst e;exact⟨p.2,by simp only[cC];rw[show p=(k,p.2) from Prod.ext h.1 rfl],h.2⟩
   | succ i =>
     simp only[cJ] at e ⊢;exact ih e
theorem OM(hc:X.calm=true):CallR X (.builtin "sorted") (fun xs H Q=>∃(p:aA) (kvs:List (Key×V)) (ks:List Str),xs=[.ref p]/\Rd H p (.dK kvs)/\kvs.map (·.1)=ks.map Sum.inr/\ks.length<64/\∀l,H l=none->Q (.ref l) (upd H l (.lst ((FL.srtT ks).map V.str)))):=by
 intro aC s σ H xs us Q I r h;obtain⟨p,kvs,ks,rfl,hq,ek,h64,q⟩:=h;obtain⟨u,rfl,ru⟩:=vals1 r;cases ru;obtain⟨z,hds,vs,rel,dd⟩:=II I.hok hq;obtain⟨ep,hat⟩:=dd.dictAt;have hl:=rel.length;have hk:kvs.length=ks.length:=by have:=congrArg List.length ek;simpa using this
 refine Calls.call_function_entry (A:=X.A) kind_sorted plain_sorted entry_sorted (args_sorted1 _) ?_;show bL _ _ (checkCount "sorted" 1 1 1 >>= _) _ _ s;refine bC (cA (bC (PySem.W.kdu_collect (VG hds) (by simpa using I.ok.hd hc) hat (by omega) fun h1 tk acc k1 hit=>?_)))
 have hS:aBn acc.toList ks:=FY (by rw[eW,hit.1];omega) fun j v e=>by
  obtain⟨k,x,e1,e2⟩:=hit.2 j v (by rw[<- gW];exact e);obtain⟨y,e3,_⟩:=rel.at' e1;have e4:(kvs.map (·.1))[j]?=some k:=by rw[bE,e3];rfl
  rw[ek,bE] at e4;cases e5:ks[j]? with
  |none=>rw[e5] at e4;cases e4
  | some w =>
    rw[e5] at e4;cases e4;rcases qY (k:=Sum.inr w) (v:=v) e2 with⟨i,t,e6,_⟩ | ⟨y,t,e6,e7⟩
    . cases e6
    . cases e6;exact⟨w,t,rfl,e7⟩
 refine TU.sorted_endS (s:={ s with heap:=h1,toks:=tk }) hS (by rw[eW,hit.1];omega) fun h2 vs' ns' e p1 p2 p3 p4 p5=>?_;have en:ns'=FL.srtT ks:=FL.leT_unique _ _ (p4.trans (FL.srtT_perm ks).symm) (FL.sortedS_le p5) (FL.srtT_le ks);have I1:Inv X aC σ H { s with heap:=h1,toks:=tk }:=I.kept k1;refine⟨.ref h1.objs.size,_,Inv.laid (s:={ s with heap:=h1,toks:=tk }) I1 (t':=tk) p1 (aU _) (show ObjOk X.prog X.w _ h2 _ (.lst ((FL.srtT ks).map V.str)) from ⟨?_,vs',e,?_,p2⟩),rfl,q _ (I1.hok.fresh (aU _))⟩
 . have := (FL.srtT_perm ks).length_eq;simp only[aS];omega
 . rw[<- en];exact FQ p3
theorem MW:∀{xs:List V} {us:List aB},xs.length=us.length->(∀(j:Nat) (u:aB),us[j]?=some u->∃x,xs[j]?=some x/\RelV x u)->Vals xs us
 |[],[],_,_=>.nil
 |[],_::_,h,_=>by simp at h
 |_::_,[],h,_=>by simp at h
 | x :: xs, u :: us, h, H => by
   obtain⟨y,h1,h2⟩:=H 0 u rfl;simp only[cC,Option.some.injEq] at h1;subst h1;exact .cons h2 (MW (by simpa using h) fun j v e=>H (j+1) v (by simpa using e))
theorem VA(hc:X.calm=true):CallR X (.type "list") (fun xs H Q=>∃(p:aA) (kvs:List (Key×V)),xs=[.ref p]/\Rd H p (.dK kvs)/\∀l,H l=none->Q (.ref l) (upd H l (.lst (kvs.map fun q=>kV q.1)))):=by
 intro aC s σ H xs us Q I r h;obtain⟨p,kvs,rfl,hq,q⟩:=h;obtain⟨u,rfl,ru⟩:=vals1 r;cases ru;obtain⟨z,hds,vs,rel,dd⟩:=II I.hok hq;obtain⟨ep,hat⟩:=dd.dictAt;have hl:=rel.length;refine PySem.W.kdl_call (VG hds) (I.ok.hd hc) hat (by omega) fun h' tk acc c k1 hL hit=>?_;have I1:Inv X aC σ H { s with heap:=s.heap,toks:=tk }:=I.kept fun _ _ e=>e;refine⟨.ref s.heap.objs.size,_,Inv.laid (s:={ s with heap:=s.heap,toks:=tk }) I1 (t':=tk) k1 (aU _) (show ObjOk X.prog X.w _ h' _ (.lst (kvs.map fun q=>kV q.1)) from ⟨?_,acc.toList,c,?_,by simpa using hL⟩),rfl,q _ (I.hok.fresh (aU _))⟩
 . simpa using z
 . refine MW (by have := hit.1; simp only [aS, eW]; omega) fun j v e => ?_;obtain ⟨k,x,e1,e2⟩:=hit.2 j v (by rw [<- gW]; exact e);obtain ⟨y,e3,_⟩:=rel.at' e1;refine ⟨kV k,by rw [bE,e3]; rfl,?_⟩;rcases qY (k:=k) (v:=v) e2 with ⟨i,t,rfl,rfl⟩ | ⟨y,t,rfl,rfl⟩
   . exact⟨t,rfl⟩
   . exact⟨t,rfl⟩
end
end L2
namespace FL
open PySem PySem.Spec PyProof.Rows L2
section
variable{X:Cx}
theorem DK{e:Expr}{f:FE}{p pos:Pos}(hc:X.calm=true)(hm:X.mg "sorted" = none)(he:PVn X e f)(hg:Gl X "sorted":=by rfl)(hs:aL [e] X.env=[(false,bY e X.env)]:=by rfl) :
  PVf X (.Call (.Name "sorted" p) [e] [] pos) (srtDA f):=by
 obtain⟨te,pe,he⟩:=he;refine⟨_,vY (OM hc) hg hm (by decide +kernel) (jZ pe yW hs) (by decide) (by decide) hs rfl,fun H₀ H O σ ds hd l Q o e q=>?_⟩;unfold srtDA at e;obtain⟨d,h1,e⟩:=bnd e;obtain⟨kl,h2,e⟩:=bnd e;obtain⟨ks,h3,e⟩:=bnd e
 split at e
 . rename_i h64;cases e;refine he H₀ H O σ ds hd _ _ o h1 fun v H1 s1 r1=>?_;obtain⟨a,kvs,rfl,hb,ek,rs⟩:=AO r1 h2;exact⟨a,kvs,ks,rfl,hb,ek.trans (HB h3),h64,fun p hp=>q p _ _ (s1.trans (qP hp _)) (s1.free hp) qE (LF _)⟩
 . cases e
theorem LG{K:Frag}{H:Hp}{O:aA->Prop}:∀l:List Key,Reps K H O (l.map kV) (l.map keyDD)
 |[]=>.nil
 |k::l=>.cons (aFq k) (LG l)
theorem ZC{e:Expr}{f:FE}{p pos:Pos}(hc:X.calm=true)(hm:X.mg "list" = none)(he:PVn X e f)(hg:Gl X "list":=by rfl)(hs:aL [e] X.env=[(false,bY e X.env)]:=by rfl) :
  PVf X (.Call (.Name "list" p) [e] [] pos) (lisDA f):=by
 obtain⟨te,pe,he⟩:=he;refine⟨_,BR (VA hc) hg hm (by decide +kernel) (jZ pe yW hs) (by decide) (by decide) hs rfl,fun H₀ H O σ ds hd l Q o e q=>?_⟩;unfold lisDA at e;obtain⟨d,h1,e⟩:=bnd e;obtain⟨kl,h2,rfl⟩:=mpd e;refine he H₀ H O σ ds hd _ _ o h1 fun v H1 s1 r1=>?_;obtain⟨a,kvs,rfl,hb,ek,rs⟩:=AO r1 h2;refine⟨a,kvs,rfl,hb,fun p hp=>?_⟩;have e1:(kvs.map fun q=>kV q.1)=kl.1.map kV:=by rw[<- ek,dX];rfl
 rw[e1];exact q p _ _ (s1.trans (qP hp _)) (s1.free hp) qE (LG _)
end
end FL
namespace L2
open PySem PySem.Spec PyProof.Rows
section
variable{X:Cx}
def tFrz(t:TE):TE:=fun σ H Q=>t σ H fun x H1=>∃a kvs,x=.ref a/\H1 a=some (.dK kvs)/\∀o,Q x (upd H1 a (.frz o (.dK kvs)))
theorem pe_frz{e:Expr}{t:TE}(h:PE X e t):PE X e (tFrz t):=by
 intro aC s σ H Q I hq;refine thn (h aC s σ H _ I hq) fun v s1 zq=>?_;obtain⟨x,H1,I1,r1,a,kvs,e1,h1,q1⟩:=zq;obtain⟨o,I2⟩:=I1.freezeD h1;exact⟨x,_,I2,r1,q1 o⟩
end
end L2
namespace FL
open PySem PySem.Spec PyProof.Rows L2
section
variable{X:Cx}
theorem aDr{pos:Pos}: PV X (.Dict [] [] pos) (zA (.dcf [] [])):=by
 refine⟨_,pe_frz QR,fun H₀ H O σ ds hd d Q o e q=>fun p hp=>?_⟩;cases e;refine⟨p,[],rfl,qE,fun ob=>?_⟩
 have sm:Same H (upd (upd H p (.dK [])) p (.frz ob (.dK []))):=fun b u eb=>by
  rw[upd_ne (jC eb hp),upd_ne (jC eb hp)];exact eb
 exact q _ _ sm (.dcf (kvs:=[]) (fun z=>by obtain⟨u,eu⟩:=o.dom p z;rw[hp] at eu;cases eu) qE rfl .nil)
end
section
variable{X:Cx}
theorem Ok.look{K:Frag}{H₀ H:Hp}{O:aA->Prop}{σ : L2.St}{ds:List Sl}{hd:Hold}(o:Ok K H₀ H O σ ds hd)(i:Nat):∃O',Ok K H₀ H O' σ (relO i ds) hd:=by
 by_cases hs:∃r T,ds[i]?=some (.ob r T)
 . obtain ⟨r, T, hl⟩ := hs;have e':relO i ds=ds.set i (.v (otD T)):=by unfold relO; rw [hl]
   rw[e'];exact o.frz hl
 . have e':relO i ds=ds:=by
    unfold relO
    split
    . rename_i r T hl;exact(hs ⟨r,T,hl⟩).elim
    . rfl
   rw[e'];exact⟨O,o⟩
theorem aDz(i:Nat){e:Expr}{c:FT}(h:PTv X e c):PTv X e (relTO i c):=by
 obtain⟨t,ht,hf⟩:=h;refine⟨t,ht,fun H₀ H O σ ds hd b Q o e q=>?_⟩;obtain⟨O',o'⟩:=o.look i;exact hf H₀ H O' σ _ hd b Q o' e q
theorem VY(i:Nat){e:Expr}{f:FE}(h:PV X e f):PV X e (relVO i f):=by
 obtain⟨t,ht,hf⟩:=h;refine⟨t,ht,fun H₀ H O σ ds hd d Q o e q=>?_⟩;obtain⟨O',o'⟩:=o.look i;unfold relVO at e;cases h1:f (relO i ds) with
 |none=>rw[h1] at e;cases e
 | some d' =>
   rw[h1] at e;simp only[aH,flV'] at e
   split at e
   . rename_i hfl;cases e;exact hf H₀ H O' σ _ hd _ Q o' h1 fun v H' s r=>q v H' s (Rep.flatten (fun a z=>((o.mono s).dom a z).elim fun u e=>⟨_,e,u.2⟩) hfl r)
   . cases e
theorem aDn(i:Nat){e:Expr}{f:FA}(h:PVf X e f):PVf X e (relFO i f):=by
 obtain⟨t,ht,hf⟩:=h;refine⟨t,ht,fun H₀ H O σ ds hd l Q o e q=>?_⟩;obtain⟨O',o'⟩:=o.look i;unfold relFO at e;cases h1:f (relO i ds) with
 |none=>rw[h1] at e;cases e
 | some l' =>
   rw[h1] at e;simp only[aH] at e
   split at e
   . rename_i hfl;cases e;refine hf H₀ H O' σ _ hd _ Q o' h1 fun a xs H' s hn he r=>q a xs H' s hn he (Reps.flatten (fun b z=>?_) hfl r);rcases z with rfl | z
     . exact⟨_,he,rfl⟩
     . obtain⟨u, eu⟩ := (o.mono s).dom b z;exact⟨_,eu,u.2⟩
   . cases e
end
abbrev LkF(K:Frag)(f:aA)(oc:aB)(od:Option aA)(nm q:Str)(st:Stmt)(dV kV dc pm:aB)(an:Option aA)(cd ct:aB)(sl:Array (Option aB)):Prop:=K.lookup f=some ⟨oc,od,.func (dF nm q (yK st) (jH st) (zJ st) dV kV dc pm an cd ct),sl⟩
structure FunD(K:Frag)(x qual:Str)(st:Stmt)(f:aA)(fd:aK)(its:Array aB):Prop where
 ex:∃(Tu:aA) (ob:Obj) (n:Nat) (oc:aB) (od:Option aA) (kV doc pm:aB) (an:Option aA) (cdv ct:aB) (osl:Array (Option aB)),
  fd=dF x qual (yK st) (jH st) (zJ st) (.ref Tu) kV doc pm an cdv ct/\K.lookup f=some ⟨oc,od,.func fd,osl⟩/\fG K cdv qual=true/\K.lookup Tu=some ob/\ob.data=.seq its n
 kp:bK K (.ref f)=true
section
variable{P:bG}{w:bU}{K:Frag}{mg:Str->Option aB}{base:Heap}{x qual:Str}{st:Stmt}{f:aA}{fd:aK}{its:Array aB}
theorem fun_mkD{Tu:aA}{ob:Obj}{n:Nat}{oc:aB}{od an:Option aA}{osl:Array (Option aB)}{kV doc pm cdv ct:aB}(l:K.lookup f=some ⟨oc,od,.func (dF x qual (yK st) (jH st) (zJ st) (.ref Tu) kV doc pm an cdv ct),osl⟩)(c:fG K cdv qual=true)(k:bK K (.ref f)=true)(lt:K.lookup Tu=some ob)(hs:ob.data=.seq its n):FunD K x qual st f (dF x qual (yK st) (jH st) (zJ st) (.ref Tu) kV doc pm an cdv ct) its :=
 ⟨⟨Tu,ob,n,oc,od,kV,doc,pm,an,cdv,ct,osl,rfl,l,c,lt,hs⟩,k⟩
theorem FunD.binds{ps:List Str}{ds:List aB}(F:FunD K x qual st f fd its)(h:∀(Tu:aA) (kV doc pm:aB) (an:Option aA) (cdv ct:aB) (us:List aB),(us++ds).length=ps.length->∃k:Option (Array aB)->Sem (List (Str×aB)),IW (dF x qual (yK st) (jH st) (zJ st) (.ref Tu) kV doc pm an cdv ct) ⟨us,[]⟩=seqItems? (.ref Tu) >>= k/\k (some its)=pure (ps.zip (us++ds))):Binds K fd ps ds:=by
 obtain⟨Tu,ob,n,oc,od,kV,doc,pm,an,cdv,ct,osl,rfl,lk,hcd,lt,hs⟩:=F.ex;intro s us X hl;obtain⟨k,h1,h2⟩:=h Tu kV doc pm an cdv ct us hl;exact PySem.W.binds_K X rfl lt hs h1 h2
theorem aFw{N ps:List Str}{k n:Nat}{F:OT->List D->Option OT}(Fn:FunD K x qual st f fd its)(S:FnScope N ps (zJ st)){g:FS}(hbody:∀(cdv:aB) (A:bZ) (outer:List Env) (s:aE) (H:Hp) (E:XK),Room k (A.deeper (mJ qual (zJ st) s.heap.objs.size f cdv))->PSsv (cxOf CX0 P w K mg base N qual (zJ st) f cdv A outer s H E).nox (jH st) g)(hg:∀T l T',l.length=n->F T l=some T'->lentF g N.length T l=some T')(hn:ps.length=n+1:=by rfl)(hN:0<N.length:=by decide):FnOk P w K mg base CX0 (k+1) f fd ps (spL K n F):=by
 refine RS (fun sp a b=>?_) hbody hg hn hN;obtain⟨Tu,ob,n,oc,od,kV,doc,pm,an,cdv,ct,osl,rfl,lk,hcd,lt,hs⟩:=Fn.ex;refine fn_of lk hcd S a fun A outer s H vs Q E hr hsp=>?_;obtain⟨t,h,q⟩:=b cdv A outer s H vs Q E hr hsp;exact⟨t,h.nox,q⟩
theorem len0{P:List aB->Prop}(h:P []):∀us:List aB,us.length=0->P us:=fun us hl=>by cases us with | nil=>exact h | cons _ _=>cases hl
theorem lenS{P:List aB->Prop}{n:Nat}(h:∀a us,us.length=n->P (a::us)):∀us:List aB,us.length=n+1->P us:=fun us hl=>by cases us with | nil=>cases hl | cons a r=>exact h a r (Nat.succ.inj hl)
theorem len1{P:List aB->Prop}(h:∀a0,P [a0]):∀us:List aB,us.length=1->P us:=lenS fun a=>len0 (P:=fun us=>P (a::us)) (h a)
theorem len2{P:List aB->Prop}(h:∀a0 a1,P [a0,a1]):∀us:List aB,us.length=2->P us:=lenS fun a=>len1 (P:=fun us=>P (a::us)) (h a)
theorem len3{P:List aB->Prop}(h:∀a0 a1 a2,P [a0,a1,a2]):∀us:List aB,us.length=3->P us:=lenS fun a=>len2 (P:=fun us=>P (a::us)) (h a)
theorem len4{P:List aB->Prop}(h:∀a0 a1 a2 a3,P [a0,a1,a2,a3]):∀us:List aB,us.length=4->P us:=lenS fun a=>len3 (P:=fun us=>P (a::us)) (h a)
theorem len5{P:List aB->Prop}(h:∀a0 a1 a2 a3 a4,P [a0,a1,a2,a3,a4]):∀us:List aB,us.length=5->P us:=lenS fun a=>len4 (P:=fun us=>P (a::us)) (h a)
def DefM(K:Frag)(x:Str)(st:Stmt)(f:aA):Prop:=∃(oc:aB) (od:Option aA) (kV dc pm:aB) (an:Option aA) (cd ct:aB) (sl:Array (Option aB)),aT K aP x=some (some (.ref f))/\LkF K f oc od x x st .none kV dc pm an cd ct sl/\fG K cd x=true/\bK K (.ref f)=true
def DefC(K:Frag)(C:aA)(m q:Str)(st:Stmt)(f:aA):Prop:=∃(oc:aB) (od:Option aA) (kV dc pm:aB) (an:Option aA) (cd ct:aB) (sl:Array (Option aB)),cD K (.ref C) m=some (some (.ref f))/\LkF K f oc od m q st .none kV dc pm an cd ct sl/\fG K cd q=true/\bK K (.ref f)=true/\nD K (.ref f)=true
theorem DefM.get{x:Str}{st:Stmt}{f:aA}(h:DefM K x st f):∃fd,Fun K x x st f fd/\aT K aP x=some (some (.ref f))/\bK K (.ref f)=true:=by
 obtain⟨_,_,_,_,_,_,_,_,_,a,l,c,k⟩:=h;exact⟨_,UM l c k,a,k⟩
theorem DefC.get{C:aA}{m q:Str}{st:Stmt}{f:aA}(h:DefC K C m q st f):∃fd,Fun K m q st f fd/\cD K (.ref C) m=some (some (.ref f))/\bK K (.ref f)=true/\nD K (.ref f)=true:=by
 obtain⟨_,_,_,_,_,_,_,_,_,a,l,c,k,i⟩:=h;exact⟨_,UM l c k,a,k,i⟩
theorem cal_mk{k n:Nat}{x:Str}{f:aA}{fd:aK}{ps:List Str}{F:List D->Option Ret}(G:FnOk P w K mg base CX0 k f fd ps (spF K n F))(b:Binds K fd ps [])(h:bK K (.ref f)=true)(m:mg x=some (.ref f)):Cal P w K mg base x k n F:=⟨f,_,_,G,b,h,m⟩
structure SysAt(P:bG)(w:bU)(base:Heap)(K:Frag)(mg:Str->Option aB):Prop where
 ex:∃h:Heap,K.In h/\h.Ns aP mg
def CN(K:Frag)(x:Str)(C:aA):Prop:=aT K aP x=some (some (.ref C))/\lG K C Str.empty=true/\oJ K C=true/\uH K C=true/\cD K (.ref C) "__setattr__" = some (some (.builtin "object.__setattr__"))
theorem CN.get{C:aA}(h:CN K x C):aT K aP x=some (some (.ref C))/\Cls K C:=⟨h.1,⟨h.2.1,h.2.2.1,h.2.2.2.1,h.2.2.2.2⟩⟩
theorem jS{f:Str}{t i:Nat}{C:aA}{ix:List (Nat×Nat)}(a:aT K aP (dA t)=some (some (.ref C)))(c:Cls K C)(n:NoAttr K C f)(h:FldOk K f ix)(h1:(cR t)[i]?=some f:=by rfl)(h2:∀j,j<i->(cR t)[j]?≠some f:=by decide +kernel):FldOk K f ((t,i)::ix):=UP a c n h1 h2 h
def XN(K:Frag)(A B:aA):Prop:=PySem.W.isClsIn K B=true/\aBo K (.ref B)=some (.type "type")/\PySem.W.subIn K (.ref A) (.ref B)=some false/\(aB.ref A==aB.ref B)=false
def XI(K:Frag)(x:Str)(C:aA):Prop:=aT K aP x=some (some (.ref C))/\cD K (.ref C) "__getattribute__" = some (some (.builtin "BaseException.__getattribute__"))/\cD K (.ref C) "__getattr__" = some none/\cD K (.ref C) "__class__" = some (some (.builtin "object.__class__"))/\IX K C (.type "object")=some true/\IX K C (.type "BaseException")=some true
theorem XI.i{C:aA}(h:XI K x C):XIn K C:=⟨h.2.1,h.2.2.1,h.2.2.2.1,h.2.2.2.2.1,h.2.2.2.2.2⟩
theorem DefM.cal{k n:Nat}{x:Str}{st:Stmt}{f:aA}{ps:List Str}{F:List D->Option Ret}(d:DefM K x st f)(X:SysAt P w base K mg)(hf:∀{fd},Fun K x x st f fd->FnOk P w K mg base CX0 k f fd ps (spF K n F))(hb:∀(kV doc pm:aB) (an:Option aA) (cdv ct:aB) (us:List aB),us.length=ps.length->IW (dF x x (yK st) (jH st) (zJ st) .none kV doc pm an cdv ct) ⟨us,[]⟩=pure (ps.zip us):=by
    intro _ _ _ _ _ _;first | exact len0 rfl | exact len1 fun _=>rfl | exact len2 fun _ _=>rfl | exact len3 fun _ _ _=>rfl | exact len4 fun _ _ _ _=>rfl | exact len5 fun _ _ _ _ _=>rfl):Cal P w K mg base x k n F:=by
 obtain⟨_,F1,a,c⟩:=d.get;obtain⟨_,X,G⟩:=X.ex;exact cal_mk (hf F1) (F1.binds hb) c (cW X G a)
theorem DefC.mc{j k n t:Nat}{cs:List Nat}{C f:aA}{m q:Str}{st:Stmt}{ps:List Str}{F:Nat->List D->Option Ret}(d:DefC K C m q st f)(a:aT K aP (dA t)=some (some (.ref C)))(c:Cls K C)(hf:∀{fd},Fun K m q st f fd->FnOk P w K mg base CX0 j f fd ps (spF K (n+1) (F t)))(h:MCal P w K mg base m k n cs F)(hj:j<=k:=by decide)(hn:m∉cR t:=by decide +kernel)(hb:∀(kV doc pm:aB) (an:Option aA) (cdv ct:aB) (us:List aB),us.length=ps.length->IW (dF m q (yK st) (jH st) (zJ st) .none kV doc pm an cdv ct) ⟨us,[]⟩=pure (ps.zip us):=by
    intro _ _ _ _ _ _;first | exact len1 fun _=>rfl | exact len2 fun _ _=>rfl | exact len3 fun _ _ _=>rfl):MCal P w K mg base m k n (t::cs) F:=by
 obtain⟨_,F1,x,y,z⟩:=d.get;exact aAc a c ⟨x,z,y⟩ (hf F1) hj (F1.binds hb) hn h
theorem DefC.lc{j k n t:Nat}{cs:List Nat}{C f:aA}{m q:Str}{st:Stmt}{ps:List Str}{F:Nat->OT->List D->Option OT}(d:DefC K C m q st f)(a:aT K aP (dA t)=some (some (.ref C)))(c:Cls K C)(hf:∀{fd},Fun K m q st f fd->FnOk P w K mg base CX0 j f fd ps (spL K n (F t)))(h:LCal P w K mg base m k n cs F)(hj:j<=k:=by decide)(hn:m∉cR t:=by decide +kernel)(hb:∀(kV doc pm:aB) (an:Option aA) (cdv ct:aB) (us:List aB),us.length=ps.length->IW (dF m q (yK st) (jH st) (zJ st) .none kV doc pm an cdv ct) ⟨us,[]⟩=pure (ps.zip us):=by
    intro _ _ _ _ _ _;first | exact len1 fun _=>rfl | exact len2 fun _ _=>rfl | exact len3 fun _ _ _=>rfl):LCal P w K mg base m k n (t::cs) F:=by
 obtain⟨_,F1,x,y,z⟩:=d.get;exact aAi a c ⟨x,z,y⟩ (hf F1) hj (F1.binds hb) hn h
theorem newOk{t:Nat}{C:aA}{a:Str}(n:aT K aP (dA t)=some (some (.ref C)))(c:Cls K C)(na:NoAttr K C a):∀C',aT K aP (dA t)=some (some (.ref C'))->Cls K C'/\NoAttr K C' a:=fun C' e=>by
 rw[n] at e;cases e;exact⟨c,na⟩
end
section
variable{X:Cx}
end
section
variable{X:Cx}{m:Str}{k j:Nat}{cs:List Nat}{F:Nat->List D->Option Ret}{o:Expr}{apos pos:Pos}{fo:FE}
end
end FL
namespace L2
open PySem PySem.Spec PyProof.Rows
section
variable{prog:bG}{w:bU}{A:bZ}{E:aB->aE->Prop}{s:aE}
theorem aDi:SK (.type "list_reverseiterator") "__len__" = pure none:=by rw[typeLookup_type,builtinLookup_eq_fast];kernel_rfl
theorem YZ:SK (.type "list_reverseiterator") "__length_hint__" = pure (some (.builtin "list_reverseiterator.__length_hint__")):=by rw[typeLookup_type,builtinLookup_eq_fast];kernel_rfl
theorem rv_hint{r:aA}{Q:Bool->aE->Prop}(hT:s.TypeIs (.ref r) "list_reverseiterator")(h:Q false s):bL (bM prog w) A (Builtin.List.listLengthHint (.ref r)) Q E s:=by
 unfold Builtin.List.listLengthHint;refine bC (tY hT aDi ?_);show bL _ A (specialOf (aB.ref r) (Str.ofString "__length_hint__") >>= _) _ _ _;refine bC (tY hT YZ ?_);generalize hid:("list_reverseiterator.__length_hint__" : String)=id0
 wp_delta
 rw[show splitId id0=some ("list_reverseiterator","__length_hint__") from by subst hid;decide +kernel];subst hid;refine bC (wpAny_isInstance (b:=true) hT (by rw[isSubtype_type];kernel_rfl) ?_);exact cA h
theorem rv_call{I l:aA}{items:Array aB}{Q:aB->aE->Prop}(hh:A.handled=none)(hne:l≠I)(hit:s.heap.IsRevIter I l ((items.size:Int)-1))(hl:s.heap.IsList l items)(hn:items.size<=sizeLine)(hQ:∀h' tk acc' c',(∀b o,b≠I->s.heap.get? b=some o->h'.get? b=some o)->h'.get? s.heap.objs.size=some { cls:=.type "list",dict:=none,data:=.seq acc' c',slots:=#[] }->ItemsOf (fun i v=>items[items.size-1-i]?=some v) acc' items.size->Q (.ref s.heap.objs.size) { s with heap:=h',toks:=tk }) :
  bL (bM prog w) A (call (.type "list") [.ref I]) Q E s:=by
 refine callType_codes (Q₁:=fun obj s₁=>obj=.ref s.heap.objs.size/\s₁={ s with heap:=s.heap.push { cls:=.type "list",data:=.seq #[] } }) PySem.F.called_list (PySem.F.typeCall_list_1 _) PySem.F.entry_list_init
  (code_list_new _ ⟨rfl,rfl⟩) fun obj s₁ h₁=>?_
 obtain⟨rfl,rfl⟩:=h₁;have hS:(s.heap.push { cls:=.type "list",data:=.seq #[] }).get? s.heap.objs.size=some { cls:=.type "list",data:=.seq #[] }:=bD _ rfl;have hI:I<s.heap.objs.size:=let ⟨_,ho,_⟩:=hit;bF ho;have hlt:l<s.heap.objs.size:=let ⟨_,ho,_⟩:=hl;bF ho;refine⟨⟨_,hS,rfl⟩,PySem.F.args_list_init_2 _ _,?_⟩;show bL _ _ (do let old <- Builtin.List.listItems (.ref s.heap.objs.size);Builtin.List.listUpdate (.ref s.heap.objs.size) (fun _=>#[]);letGo old.toList.reverse;Builtin.List.listExtendWith (.ref s.heap.objs.size) (.ref I) .none) _ _ _;refine bC ?_;unfold Builtin.List.listItems;refine bC (wpAny_seqItems hS rfl (cA ?_));show bL _ _ (updateSeq s.heap.objs.size (fun _=>#[]) >>= fun _=>letGo (#[]:Array aB).toList.reverse >>= fun _=>Builtin.List.listExtendWith (.ref s.heap.objs.size) (.ref I) .none) _ _ _;refine bC (wpAny_updateSeq hS rfl ?_);have hS₂:=SR (Obj.mapSeq (fun _=>(#[]:Array aB))) hS rfl
 have oth:∀b o,s.heap.get? b=some o->((s.heap.push { cls:=.type "list",data:=.seq #[] }).update s.heap.objs.size (Obj.mapSeq (fun _=>(#[]:Array aB)))).get? b=some o :=
  fun b o e=>(rL _ _ (Ne.symm (bO (bF e)))).trans (aQ _ e)
 refine bC (wpAny_letGo ?_);have W:=Walks.listRev (prog:=prog) (w:=w) (A:=A.in1.in1) hh I l hne items
 have hst:0<=items.size/\Heap.IsRevIter ((s.heap.push { cls:=.type "list",data:=.seq #[] }).update s.heap.objs.size (Obj.mapSeq (fun _=>(#[]:Array aB)))) I l ((items.size:Int)-1-((0:Nat):Int))/\Heap.IsList ((s.heap.push { cls:=.type "list",data:=.seq #[] }).update s.heap.objs.size (Obj.mapSeq (fun _=>(#[]:Array aB)))) l items :=
  ⟨dP _,by simpa using hit.at fun o e=>oth _ o e,hl.at fun o e=>oth _ o e⟩
 generalize (s.heap.push { cls:=.type "list",data:=.seq #[] }).update s.heap.objs.size (Obj.mapSeq (fun _=>(#[]:Array aB)))=hp at *;have hT:({ s with heap:=hp }: aE).TypeIs (.ref I) "list_reverseiterator":=hst.2.1.typeIs (s:={ s with heap:=hp });unfold Builtin.List.listExtendWith;refine bC (wpAny_typeOf hT ?_)
 have h1:Builtin.List.listSameRef (.ref s.heap.objs.size) (.ref I)=false:=by
  have : ¬s.heap.objs.size=I:=CW hI;simp[Builtin.List.listSameRef,this]
 rw[if_neg (by rw[h1];decide)];refine bC (AX (s:={ s with heap:=hp }) hst.2.1 ?_);refine bC (fP (rv_hint hT ?_));refine wpAny_ite_split (fun z=>absurd z (by decide)) fun _=>?_;refine cA ⟨plainId_quiet PySem.F.plain_extend_loop _,codeAny_extend_loopS W.toS hn s.heap.objs.size (fun z=>by simp only[aD,pV,or_false] at z;exact z.elim (CW hI) (CW hlt)) _ items.size 0 _ #[] _ rfl (dP _) hst hS₂ (ItemsOf.nil _) fun s' acc' c' hm hS' hacc=>?_⟩;rw[Moved.eq_with hm];refine⟨rfl,hQ s'.heap s'.toks acc' c' (fun b o hb e=>hm.heap b o (fun hmem=>?_) (oth b o e)) hS' hacc⟩;have hbs:=bO (bF e);simp only[aD,pV,or_false] at hmem;rcases hmem with z | z
 . exact hbs z
 . exact hb z
end
section
variable{X:Cx}
def tLrev(X:Cx)(ta:TA):TE:=fun σ H Q=>ta σ H fun vs H1=>∃a xs,vs=[.ref a]/\SqL X.K H1 a xs/\∀p,H1 p=none->Q (.ref p) (upd H1 p (.lst xs.reverse))
theorem pe_lrev{a:Expr}{ta:TA}{p p2 pos pos2:Pos}(hc:X.calm=true)(hgl:Gl X "list")(hml:X.mg "list" = none)(hg:Gl X "reversed")(hm:X.mg "reversed" = none)(ha:PA X [a] ta)(hl:aL [.Call (.Name "reversed" p2) [a] [] pos2] X.env=[(false,bY (.Call (.Name "reversed" p2) [a] [] pos2) X.env)]:=by rfl)(hs:aL [a] X.env=[(false,bY a X.env)]:=by rfl) :
  PE X (.Call (.Name "list" p) [.Call (.Name "reversed" p2) [a] [] pos2] [] pos) (tLrev X ta):=by
 intro aC s σ H Q I h;refine gX (uB I hgl hml (show gJ "list" = some (.type "list") by decide +kernel) ?_);refine eN ?_ hl rfl;rw[hl];show bL _ _ (spliced ((false,bY (.Call (.Name "reversed" p2) [a] [] pos2) X.env)::dB pos [])) _ _ s;refine Calls.spliced_cons ?_;refine Call_ (uB I hg hm (show gJ "reversed" = some (.type "reversed") by decide +kernel) (eN (thn (ha pos2 aC s σ H _ I h) fun us s1 zq=>?_) hs rfl));obtain⟨vs,H1,I1,r1,q1⟩:=zq;obtain⟨a,xs,e,hq,q⟩:=q1;subst e;obtain⟨u,rfl,ru⟩:=vals1 r1;cases ru;obtain⟨its,rv,pl,hz⟩:=I1.list hq;have hlen:=rv.length;refine call_reversed_list pl.isList ?_;refine Calls.spliced_nil ?_;have I2:Inv X aC σ H1 { s1 with heap:=s1.heap.push (EH a ((its.toArray.size:Int)-1)),toks:=s1.toks }:=I1.kept fun b o e=>aQ _ e;have hla:a<s1.heap.objs.size:=let ⟨_,ho,_⟩:=pl.isList;bF ho;refine rv_call (I:=s1.heap.objs.size) (l:=a) (items:=its.toArray) (I.ok.hd hc) (bO hla) ⟨_,bD _ rfl,rfl,rfl⟩ (pl.isList.at fun o e=>aQ _ e) (by simp only[aZ];omega) fun h' tk acc' c' hk hS hacc=>?_
 have hv:Vals xs.reverse acc'.toList:=by
  refine MW (by simp only[cZ,eW];rw[hacc.1];simp only[aZ];omega) fun j u e=>?_;have e2:=hacc.2 j u (by rw[<- gW];exact e);have hj:j<acc'.toList.length:=(aV.mp e).1;have hj2:j<its.length:=by simp only[eW] at hj;rw[hacc.1] at hj;simpa using hj
  simp only[aZ,List.getElem?_toArray] at e2;have hx:xs[xs.length-1-j]?=some (xs[xs.length-1-j]'(by omega)):=bI (by omega);obtain⟨u',hu',ru⟩:=rv.get hx;rw[hlen,e2] at hu';cases hu';exact⟨_,by rw[mH (by omega)];exact hx,ru⟩
 generalize hN:(s1.heap.push (EH a ((its.toArray.size:Int)-1))).objs.size=N at *;have hlt:s1.heap.objs.size<N:=by rw[<- hN];exact bF (o:=EH a ((its.toArray.size:Int)-1)) (bD _ rfl)
 have fr:H1 N=none:=by rw[<- hN];exact I2.hok.fresh (aU _)
 have I3:Inv X aC σ (upd H1 N (.lst xs.reverse)) { s1 with heap:=(s1.heap.push (EH a ((its.toArray.size:Int)-1))).push { cls:=.type "list",data:=.seq acc' c' },toks:=tk }:=by
  refine Inv.laid (s:={ s1 with heap:=s1.heap.push (EH a ((its.toArray.size:Int)-1)),toks:=s1.toks }) I2 (fun b u e=>aQ _ e) (lH hN) (show ObjOk X.prog X.w _ _ _ (.lst xs.reverse) from ⟨by simpa using hz,acc'.toList,c',hv,?_⟩);rw[<- hN,Array.toArray_toList];exact bD _ rfl
 have I4:Inv X aC σ (upd H1 N (.lst xs.reverse)) { s1 with heap:=h',toks:=tk }:=by
  refine Inv.turnedS (s:={ s1 with heap:=(s1.heap.push (EH a ((its.toArray.size:Int)-1))).push { cls:=.type "list",data:=.seq acc' c' },toks:=tk }) I3 (h':=h') (t':=tk) (ch:=[s1.heap.objs.size]) (fun b o hb q=>?_) (fun b hb=>?_)
  . have hb' : b ≠ s1.heap.objs.size := fun z => hb (by rw [z]; exact .head _)
    by_cases hbN:b=N
    . subst hbN;have q':((s1.heap.push (EH a ((its.toArray.size:Int)-1))).push { cls:=.type "list",data:=.seq acc' c' }).get? b=some o:=q;rw[<- hN,bD _ rfl] at q';cases q';exact hS
    . have q' : ((s1.heap.push (EH a ((its.toArray.size : Int)-1))).push { cls := .type "list", data := .seq acc' c' }).get? b=some o := q;rw[aBs _ _ _ (by rw[hN];exact hbN)] at q';exact hk b o hb' q'
  . rw[bA.mp hb];exact I1.fpOk (aU _) (by rw[upd_ne (bO hlt)];exact I1.hok.fresh (aU _))
 exact⟨.ref N,_,I4,rfl,q N fr⟩
end
section
variable{X:Cx}
end
section
variable{X:Cx}
end
end L2
namespace FL
open PySem PySem.Spec PyProof.Rows L2
section
variable{X:Cx}
theorem Reps.rev{K:Frag}{H:Hp}{O:aA->Prop}:∀{xs:List V} {l:List D},Reps K H O xs l->Reps K H O xs.reverse l.reverse
 |_,_,.nil=>.nil
 |_,_,.cons h t=>by rw[gY,gY];exact(Reps.rev t).append (.cons h .nil)
theorem aDo{e:Expr}{f:FE}{p p2 pos pos2:Pos}(hc:X.calm=true)(hml:X.mg "list" = none)(hm:X.mg "reversed" = none)(h:PV X e f)(hgl:Gl X "list":=by rfl)(hg:Gl X "reversed":=by rfl)(hl:aL [.Call (.Name "reversed" p2) [e] [] pos2] X.env=[(false,bY (.Call (.Name "reversed" p2) [e] [] pos2) X.env)]:=by rfl)(hs:aL [e] X.env=[(false,bY e X.env)]:=by rfl) :
  PVf X (.Call (.Name "list" p) [.Call (.Name "reversed" p2) [e] [] pos2] [] pos) (revA f):=by
 obtain⟨t,ht,hf⟩:=zG h zS hs;refine⟨_,pe_lrev hc hgl hml hg hm ht hl hs,fun H₀ H O σ ds hd l Q o e q=>?_⟩;unfold revA at e;obtain⟨d,h1,e⟩:=bnd e;cases d<;>first | (cases e;done) | skip
 rename_i l;cases e;refine hf H₀ H O σ ds hd [.lst l] _ o (by simp[zE,h1,zZ]) fun vs H' s r=>?_;cases r with
 | cons r1 rr =>
   cases rr;obtain⟨a,xs,rfl,hq,rs⟩:=WRep.seqL (.inl r1);refine⟨a,xs,rfl,hq,fun p hp=>q p _ _ (s.trans (qP hp _)) (s.free hp) qE ?_⟩;exact((rs.rev).more hp).mono (qP hp _)
end
section
variable{X:Cx}
section
variable{scope:Scope}{NY:List Str}{mp:List (Option Nat)}{tg iter elt:Expr}{ifs:List Expr}{pos:Pos}{fi:FA}{ga:D->List Sl->Option (List Sl)}{tt:FT}{fe:FE}
end
theorem PVo.n{e:Expr}{f:FO}(h:PVo X e f):PVn X e (seeO f):=by
 obtain⟨t,ht,hf⟩:=h;refine⟨t,ht,fun H₀ H O σ ds hd d Q o e q=>?_⟩;unfold seeO at e;obtain⟨T,h1,rfl⟩:=mpd e;exact hf H₀ H O σ ds hd T Q o h1 fun v H' fs s r nd hn=>q v H' s (r.frz fun a z=>z.elim)
end
section
variable{X:Cx}
theorem aEg{i:Nat}{x:Str}{e:Expr}{pos pos':Pos}{f:FE}(hN:X.N.Nodup)(he:PV X e f)(hi:X.N[i]?=some x:=by rfl)(hx:Loc X.env.scope x:=by first | exact Or.inl rfl | exact Or.inr rfl)(hf:X.fn x=true\/X.env.scope.names.lookup x=some .local:=by first | exact .inl rfl | exact .inr rfl):PSv X (.AugAssign (.Name x pos') .Sub e pos) (augS i f):=by
 obtain⟨t,ht,hg⟩:=he;refine⟨_,aEj hN hi hx ht ip_sub hf,(3:)⟩;unfold augS qL at e;cases hs:ds[i]? with
 |none=>rw[hs] at e;cases e
 | some sl =>
   rw[hs] at e;cases sl with
   | v dx =>
     simp only[aH] at e;obtain⟨dy,h1,e⟩:=bnd e;cases dx<;>first | (cases e;done) | skip
     cases dy<;>first | (cases e;done) | skip
     cases e;obtain⟨v,q1,q2⟩:=o.read hs;cases q2;refine⟨_,q1,hg H₀ H O σ ds hd _ _ o h1 fun v H' s r=>?_⟩;cases r;exact⟨_,_,rfl,rfl,h _ _ _ ((o.mono s).set (.int _))⟩
   |_=>cases e
theorem ZH(i:Nat){x:Str}{pos pos':Pos}(hN:X.N[i]?=some x:=by rfl)(hv:Vis X.env.scope x:=by first | exact Or.inl rfl | exact Or.inr (Or.inl rfl) | exact Or.inr (Or.inr rfl))(hd:(x==("__debug__" : Str))=false:=by decide)(hcd:(x==("__classdict__" : Str))=false:=by decide):PSv X (.Return (some (.Name x pos')) pos) (retBv i):=by
 refine⟨_,BP (xW hN hv hd hcd),(3:)⟩;unfold retBv at e;cases hs:ds[i]? with
 |none=>rw[hs] at e;cases e
 | some s =>
   rw[hs] at e;cases s with
   | ob r T =>
     cases r with
     | none =>
       simp only at e
       split at e
       . rename_i hf;cases e;obtain ⟨F,hF⟩:=o.obs;obtain ⟨v,h1,h2,h3,h4,h5⟩:=hF i none T hs;refine ⟨v,h1,h _ _ o.same ⟨F i,RepO.flatten (fun a z=>?_) hf h2 fun b hb=>.inl hb,h4,fun b hb=>(h5 b hb).1⟩ True.intro⟩;rcases z with z | z
         . obtain⟨_, xs, ex⟩ := h2.owns a z;exact⟨_,ex,xs.2⟩
         . exact Old.mono o.same z
       . cases e
     |some _=>cases e
   |_=>cases e
end
end FL
namespace L2
open PySem PySem.Spec PyProof.Rows
section
variable{X:Cx}
theorem JY:CallR X (.builtin "sorted") (fun xs H Q=>∃(p:aA) (ns:List Int),xs=[.ref p]/\SqL X.K H p (ns.map V.int)/\ns.length<64/\∀l,H l=none->Q (.ref l) (upd H l (.lst ((FL.srtI ns).map V.int)))):=by
 intro aC s σ H xs us Q I r h;obtain⟨p,ns,rfl,hq,h64,q⟩:=h;obtain⟨u,rfl,ru⟩:=vals1 r;cases ru;obtain⟨its,rv,pl,hz⟩:=I.list hq;have hi:BI its ns:=UJ rv;have hlen:=rv.length;refine sorted_ints pl.isList hi (by simp only[aS] at hlen;omega) fun out ns' hI' hp hs=>?_;have en:ns'=FL.srtI ns:=FL.le_unique _ _ (hp.trans (FL.srtI_perm ns).symm) hs (FL.srtI_le ns);obtain⟨e,he⟩:=sortedAll_at s.heap its out;refine⟨.ref (s.heap.objs.size+1),_,Inv.laid (s:=s) I (t':=s.toks) (fun b o z=>sortedAll_old z) (VJ _) (show ObjOk X.prog X.w _ (sortedAll s.heap its out) _ (.lst ((FL.srtI ns).map V.int)) from ⟨?_,out.toList,e,?_,by simpa using he⟩),rfl,q _ (I.hok.fresh (VJ _))⟩
 . have := (FL.srtI_perm ns).length_eq;simp only[aS] at hz ⊢;omega
 . rw[<- en];exact KQ hI'
end
end L2
namespace FL
open PySem PySem.Spec PyProof.Rows L2
section
variable{X:Cx}
theorem NE{e:Expr}{f:FE}{p pos:Pos}(hc:X.calm=true)(hm:X.mg "sorted" = none)(he:PVw X e f)(hg:Gl X "sorted":=by rfl)(hs:aL [e] X.env=[(false,bY e X.env)]:=by rfl) :
  PVf X (.Call (.Name "sorted" p) [e] [] pos) (MZ f):=by
 obtain⟨te,pe,he⟩:=he;refine⟨_,vY JY hg hm (by decide +kernel) (jZ pe yW hs) (by decide) (by decide) hs rfl,fun H₀ H O σ ds hd l Q o e q=>?_⟩;unfold MZ at e;obtain⟨d,h1,e⟩:=bnd e;refine he H₀ H O σ ds hd _ _ o h1 fun v H1 s1 r1=>?_;cases d<;>first | (cases e;done) | skip
 rename_i l';simp only at e;obtain⟨ns,hb,e⟩:=bnd e
 split at e
 . rename_i h64;cases e;obtain ⟨a1,xs,rfl,hq,rs⟩:=r1.seqL;refine ⟨a1,ns,rfl,?_,h64,fun p hp=>?_⟩
   . rw[<- RN rs hb];exact hq
   . exact q p _ _ (s1.trans (qP hp _)) (s1.free hp) qE (LH _)
 . cases e
end
section
variable{prog:bG}{w:bU}{A:bZ}{E:aB->aE->Prop}{s:aE}
end
section
variable{X:Cx}{tg:Expr}
end
section
variable{K:Frag}{H H' H₀ : Hp}{O O':aA->Prop}
end
section
variable{X:Cx}
end
section
variable{X:Cx}
section
variable{scope:Scope}{NY:List Str}{mp:List (Option Nat)}{tg iter elt:Expr}{pos:Pos}{fi:FA}{ga:D->List Sl->Option (List Sl)}{fe:FX}{i p:Nat}
end
end
section
variable{P:bG}{w:bU}{K:Frag}{mg:Str->Option aB}{base:Heap}
end
open PySem.W (hideAll hideAll_get of_hideAll hideAll_none)
section
variable{M:Model}{A:bZ}{E:aB->aE->Prop}{s:aE}{B:Heap}{l outer:List Env}{env:Env}{e L:aA}{cls a0 fl:aB}{Q:Unit->aE->Prop}
end
section
variable{X:Cx}{E:XK}{C:aA}
end
section
variable{X:Cx}{E:XK}{C:aA}{scope:Scope}{NY:List Str}{mp:List (Option Nat)}{tg iter elt:Expr}{pos:Pos}{fi:FA}{ga:D->List Sl->Option (List Sl)}{fe:FE}{x:List Sl->Bool}
end
section
variable{X:Cx}
end
end FL
namespace FL
open PySem PySem.Spec PyProof.Rows L2
section
variable{X:Cx}{E:XK}{C:aA}{m:Str}{t k j n:Nat}{R:List D->Bool}{o e:Expr}{es:List Expr}{apos pos:Pos}{fo:FE}{g:FA}
end
section
variable{X:Cx}{E:XK}{C:aA}{m:Str}{t k j n:Nat}{R:List D->Bool}{o e:Expr}{es:List Expr}{apos pos:Pos}{fo:FE}{g:FA}
end
section
variable{X:Cx}{scope:Scope}{NY:List Str}{mp:List (Option Nat)}{tg iter elt:Expr}{ifs:List Expr}{pos:Pos}{fi:FA}{ga:D->List Sl->Option (List Sl)}{tt:FT}{fe:FE}
end
noncomputable def oi:Option Int->D
 |none=>.non
 |some i=>.int i
@[simp] theorem WS:oi none=.non:=rfl
@[simp] theorem EY(i:Int):oi (some i)=.int i:=rfl
noncomputable def andK(r:Option D):D->Option D:=fun d=>match d with | .bl true=>r | .bl false=>some (.bl false) | _=>none
noncomputable def orK(r:Option D):D->Option D:=fun d=>match d with | .bl true=>some (.bl true) | .bl false=>r | _=>none
@[simp] theorem andK_bl(r:Option D)(b:Bool):andK r (.bl b)=if b=true then r else some (.bl false):=by cases b<;>rfl
@[simp] theorem orK_bl(r:Option D)(b:Bool):orK r (.bl b)=if b=true then some (.bl true) else r:=by cases b<;>rfl
@[simp] theorem ite_andD(b c:Bool):(if b=true then some (D.bl c) else some (D.bl false))=some (.bl (b&&c)):=by cases b<;>rfl
@[simp] theorem ite_orD(b c:Bool):(if b=true then some (D.bl true) else some (D.bl c))=some (.bl (b||c)):=by cases b<;>rfl
@[simp] theorem ite_andB(b c:Bool):(if b=true then some c else some false)=some (b&&c):=by cases b<;>rfl
@[simp] theorem ite_orB(b c:Bool):(if b=true then some true else some c)=some (b||c):=by cases b<;>rfl
@[simp] theorem ite_andD'(p:Prop)[Decidable p](c:Bool):(if p then some (D.bl c) else some (D.bl false))=some (.bl (decide p&&c)):=by by_cases h:p<;>simp[h]
@[simp] theorem ite_andB'(p:Prop)[Decidable p](c:Bool):(if p then some c else some false)=some (decide p&&c):=by by_cases h:p<;>simp[h]
@[simp] theorem ite_orB'(p:Prop)[Decidable p](c:Bool):(if p then some true else some c)=some (decide p||c):=by by_cases h:p<;>simp[h]
@[simp] theorem szl:sizeLine=16777216:=AY
section
variable(ds:List Sl)
@[simp] theorem getV_eq(i:Nat):qL i ds=match ds[i]? with | some (.v d)=>some d | _=>none:=rfl
@[simp] theorem FF(i:Nat):zH i ds=match ds[i]? with | some (.v d)=>some d | some (.own l)=>some (.lst l) | _=>none:=rfl
@[simp] theorem RM(d:D):zA d ds=some d:=rfl
@[simp] theorem YE(op:D->D->Option D)(fa fb:FE):zI op fa fb ds=(fa ds).bind fun x=>(fb ds).bind fun y=>op x y:=rfl
@[simp] theorem un1_eq(op:D->Option D)(f:FE):un1 op f ds=(f ds).bind op:=rfl
@[simp] theorem SH(F:List D->Option D)(g:FA):callB F g ds=(g ds).bind F:=rfl
@[simp] theorem aGv(n:Nat)(F:List D->Option Ret)(g:FA):qG n F g ds=(g ds).bind fun l=>if l.length=n then (F l).bind retV else none:=rfl
@[simp] theorem callF_eq(n:Nat)(F:List D->Option Ret)(g:FA):vV n F g ds=(g ds).bind fun l=>if l.length=n then (F l).bind retF else none:=rfl
@[simp] theorem aDj(d:D):retV (.val d)=some d:=rfl
@[simp] theorem retV_fresh(l:List D):retV (.fresh l)=some (.lst l):=rfl
@[simp] theorem retF_val(d:D):retF (.val d)=none:=rfl
@[simp] theorem retF_fresh(l:List D):retF (.fresh l)=some l:=rfl
@[simp] theorem IJ(f:FE)(g:FA):zE f g ds=(f ds).bind fun x=>(g ds).map fun r=>x::r:=rfl
@[simp] theorem NK:zZ ds=some []:=rfl
@[simp] theorem sized_eq(f:FA):qK f ds=(f ds).bind fun l=>if l.length<=sizeLine then some l else none:=rfl
@[simp] theorem vS(f:FA):mkL f ds=(f ds).map D.lst:=rfl
@[simp] theorem mkT_eq(f:FA):mkT f ds=(f ds).map D.tup:=rfl
@[simp] theorem testB_eq(f:FE):zP f ds=(f ds).bind isB:=rfl
@[simp] theorem testT_eq(f:FE):testT f ds=(f ds).bind truD:=rfl
@[simp] theorem isB_bl(b:Bool):isB (.bl b)=some b:=rfl
@[simp] theorem andT_eq(c d:FT):andT c d ds=(c ds).bind fun b=>if b=true then d ds else some false:=rfl
@[simp] theorem orT_eq(c d:FT):orT c d ds=(c ds).bind fun b=>if b=true then some true else d ds:=rfl
@[simp] theorem notT_eq(c:FT):notT c ds=(c ds).map not:=rfl
@[simp] theorem andV_eq(f g:FE):andV f g ds=(f ds).bind (andK (g ds)):=rfl
@[simp] theorem orV_eq(f g:FE):orV f g ds=(f ds).bind (orK (g ds)):=rfl
@[simp] theorem notV_eq(f:FE):notV f ds=(f ds).bind fun d=>match d with | .bl b=>some (.bl (!b)) | _=>none:=rfl
@[simp] theorem ifV_eq(c:FT)(f g:FE):ifV c f g ds=(c ds).bind fun b=>if b=true then f ds else g ds:=rfl
@[simp] theorem seqG_eq(f g:FS):qB f g ds=(f ds).bind fun o=>match o with | .nx ds'=>g ds' | o=>some o:=rfl
@[simp] theorem ifG_eq(c:FT)(f g:FS):ifG c f g ds=(c ds).bind fun b=>if b=true then f ds else g ds:=rfl
@[simp] theorem ES(i:Nat)(f:FE):jU i f ds=(f ds).map fun d=>.nx (ds.set i (.v d)):=rfl
@[simp] theorem setOG_eq(i:Nat)(f:FA):setOG i f ds=(f ds).map fun l=>.nx (ds.set i (.own l)):=rfl
@[simp] theorem retG_eq(f:FE):retG f ds=(f ds).bind flatR:=rfl
@[simp] theorem QB(f:FA):retOG f ds=(f ds).bind flatF:=rfl
@[simp] theorem retXG_eq(i:Nat):retXG i ds=match ds[i]? with | some (.own l)=>flatF l | _=>none:=rfl
@[simp] theorem nextG_eq:qH ds=some (.nx ds):=rfl
@[simp] theorem appG_eq(i:Nat)(fe:FE):appG i fe ds=match ds[i]? with
 |some (.own l)=>(fe ds).bind fun d=>if l.length<sizeLine then some (.nx (ds.set i (.own (l++[d])))) else none
 |_=>none:=rfl
@[simp] theorem extG_eq(i:Nat)(fe:FA):extG i fe ds=match ds[i]? with
 |some (.own l)=>(fe ds).bind fun d=>if l.length+d.length<=sizeLine then some (.nx (ds.set i (.own (l++d)))) else none
 |_=>none:=rfl
@[simp] theorem putG_eq(i:Nat)(fk fe:FE):putG i fk fe ds=match ds[i]? with
 | some (.own l) => (fe ds).bind fun d => (fk ds).bind fun k => match k with
   | .int n=>(ixN l.length n).map fun j=>.nx (ds.set i (.own (l.set j d)))
   |_=>none
 |_=>none:=rfl
@[simp] theorem clrG_eq(i:Nat):clrG i ds=match ds[i]? with
 |some (.own l)=>some (.nx (ds.set i (.own [])))
 |_=>none:=rfl
@[simp] theorem asgG_eq(ga:D->List Sl->Option (List Sl))(f:FE):asgG ga f ds=(f ds).bind fun d=>(ga d ds).map .nx:=rfl
@[simp] theorem relS_eq(i:Nat):relS i ds=match ds[i]? with | some (.own l)=>ds.set i (.v (.lst l)) | _=>ds:=rfl
@[simp] theorem viaA_eq(f:FE)(k:D->Option (List D)):viaA f k ds=(f ds).bind k:=rfl
@[simp] theorem asLT_lst(l:List D):asLT (.lst l)=some l:=rfl
@[simp] theorem asLT_tup(l:List D):asLT (.tup l)=some l:=rfl
@[simp] theorem catA_eq(fa fb:FE):catA fa fb ds=(fa ds).bind fun x=>(fb ds).bind fun y=>match x,y with
 | .lst a,.lst b=>if a.length+b.length<=sizeLine then some (a++b) else none
 |_,_=>none:=rfl
@[simp] theorem sliA_eq(f:FE)(lo hi:List Sl->Option (Option Int)):sliA f lo hi ds=(f ds).bind fun d=>(lo ds).bind fun a=>(hi ds).bind fun b=>match d with
 | .lst l=>some (cutD l a b)
 |_=>none:=rfl
@[simp] theorem lisA_eq(f:FE):lisA f ds=(f ds).bind asLT:=rfl
@[simp] theorem noP_eq:noP ds=some none:=rfl
@[simp] theorem soP_eq(f:FE):soP f ds=(f ds).bind fun d=>match d with | .int i=>some (some i) | _=>none:=rfl
@[simp] theorem NV(fi:FA)(ga:D->List Sl->Option (List Sl))(body:FS):forG fi ga body ds=(fi ds).bind fun items=>qZ ga body items ds:=rfl
@[simp] theorem vB(i:Nat)(d:D):zU i d ds=some (ds.set i (.v d)):=rfl
@[simp] theorem tupG_eq(n:Nat)(h:List D->List Sl->Option (List Sl))(l:List D):tupG n h (.tup l) ds=if l.length=n then h l ds else none:=rfl
@[simp] theorem tgCons_eq(g:D->List Sl->Option (List Sl))(h:List D->List Sl->Option (List Sl))(d:D)(r:List D):zY g h (d::r) ds=(g d ds).bind fun ds'=>h r ds':=rfl
@[simp] theorem tgNil_eq:tgNil [] ds=some ds:=rfl
@[simp] theorem isiG_eq(T:String)(f:FE):isiG T f ds=(f ds).bind (isiD T):=rfl
@[simp] theorem chain_eq(op op':D->D->Option D)(fa fb fc:FE):chain op op' fa fb fc ds=(fa ds).bind fun x=>(fb ds).bind fun y=>(op x y).bind fun z=>match z with
 | .bl true=>(fc ds).bind fun w=>op' y w
 | .bl false=>some (.bl false)
 |_=>none:=rfl
end
@[simp] theorem addD_int(i j:Int):yF (.int i) (.int j)=some (.int (i+j)):=rfl
@[simp] theorem subD_int(i j:Int):subD (.int i) (.int j)=some (.int (i-j)):=rfl
@[simp] theorem negD_int(i:Int):negD (.int i)=some (.int (-i)):=rfl
@[simp] theorem ltD_int(i j:Int):ltD (.int i) (.int j)=some (.bl (decide (i<j))):=rfl
@[simp] theorem leD_int(i j:Int):leD (.int i) (.int j)=some (.bl (decide (i<=j))):=rfl
@[simp] theorem gtD_int(i j:Int):gtD (.int i) (.int j)=some (.bl (decide (j<i))):=rfl
@[simp] theorem geD_int(i j:Int):geD (.int i) (.int j)=some (.bl (decide (j<=i))):=rfl
@[simp] theorem jR{j:Int}(i:Int)(h:0<j):jF (.int i) (.int j)=some (.int (i%j)):=if_pos h
theorem SA{j:Int}(h:0<j)(h2:j<1000000000):divOk j:=⟨h,by
 have h3:j.natAbs<2 ^ 30:=by
  have:(2:Nat) ^ 30=1073741824:=by decide
  omega
 have h4:j.natAbs≠0:=by omega
 have:=(Nat.log2_lt h4).mpr h3
 omega⟩
@[simp] theorem yM{j:Int}(i:Int)(h:0<j)(h2:j<1000000000):qW (.int i) (.int j)=some (.int (i/j)):=if_pos (SA h h2)
theorem yU{i j:Int}(h:JA i j):yV (.int i) (.int j)=some (.int (i*j)):=if_pos h
theorem AI{i j:Int}(h:CPowB i j):powD (.int i) (.int j)=some (.int (i ^ j.toNat)):=if_pos h
theorem AV{i j:Int}{n m:Nat}(h:i.natAbs<2 ^ n)(h0:0<=j)(h1:j<=m)(h2:n*m<=134217728):CPowB i j:=by
 refine⟨h0,?_⟩;have hb:Builtin.Int.intBits i<=n:=intBits_le_iff.mpr h;have h3:(Builtin.Int.intBits i:Int)*j<=(n:Int)*(m:Int):=Int.mul_le_mul (by omega) h1 h0 (by omega);have h4:((n*m:Nat):Int)<=134217728:=by omega
 have e:((n*m:Nat):Int)=(n:Int)*(m:Int):=Int.natCast_mul n m;have e2:(2:Int) ^ 27=134217728:=by decide
 rw[e2];omega
@[simp] theorem pow10{j:Int}(h0:0<=j)(h1:j<=1000):powD (.int 10) (.int j)=some (.int (10 ^ j.toNat)):=AI (AV (n:=4) (m:=1000) (by decide) h0 h1 (by decide))
@[simp] theorem mxD_int(i j:Int):mxD [.int i,.int j]=some (.int (max i j)):=by
 show some (D.int (if j>i then j else i))=_;congr 2
 split<;>omega
@[simp] theorem mnD_int(i j:Int):mnD [.int i,.int j]=some (.int (min i j)):=by
 show some (D.int (if j<i then j else i))=_;congr 2
 split<;>omega
@[simp] theorem lenD_lst(l:List D):lenD [.lst l]=some (.int l.length):=rfl
@[simp] theorem lenD_tup(l:List D):lenD [.tup l]=some (.int l.length):=rfl
@[simp] theorem isD_non:isD .non .non=some (.bl true):=rfl
@[simp] theorem isD_int(i:Int):isD (.int i) .non=some (.bl false):=rfl
@[simp] theorem isD_bl(i:Bool):isD (.bl i) .non=some (.bl false):=rfl
@[simp] theorem isD_tup(i:List D):isD (.tup i) .non=some (.bl false):=rfl
@[simp] theorem isD_lst(i:List D):isD (.lst i) .non=some (.bl false):=rfl
@[simp] theorem isD_oi(o:Option Int):isD (oi o) .non=some (.bl o.isNone):=by cases o<;>rfl
@[simp] theorem notD_non:notD .non .non=some (.bl false):=rfl
@[simp] theorem notD_int(i:Int):notD (.int i) .non=some (.bl true):=rfl
@[simp] theorem notD_bl(i:Bool):notD (.bl i) .non=some (.bl true):=rfl
@[simp] theorem notD_tup(i:List D):notD (.tup i) .non=some (.bl true):=rfl
@[simp] theorem notD_lst(i:List D):notD (.lst i) .non=some (.bl true):=rfl
@[simp] theorem notD_oi(o:Option Int):notD (oi o) .non=some (.bl o.isSome):=by cases o<;>rfl
@[simp] theorem truD_bl(b:Bool):truD (.bl b)=some b:=rfl
@[simp] theorem truD_non:truD .non=some false:=rfl
@[simp] theorem truD_lst(l:List D):truD (.lst l)=some (!l.isEmpty):=rfl
@[simp] theorem truD_tup(l:List D):truD (.tup l)=some (!l.isEmpty):=rfl
theorem FC{n:Nat}{i:Int}(h:0<=i)(h2:i<n):ixN n i=some i.toNat:=by
 unfold ixN;rw[if_pos h,if_pos h2]
theorem jL(l:List D){i:Int}(h:0<=i)(h2:i<l.length):ixD (.lst l) (.int i)=l[i.toNat]?:=by
 show atI l i=_;unfold atI;rw[FC h h2];rfl
theorem NS(l:List D){i:Int}(h:0<=i)(h2:i<l.length):ixD (.tup l) (.int i)=l[i.toNat]?:=by
 show atI l i=_;unfold atI;rw[FC h h2];rfl
@[simp] theorem ixT0(a:D)(l:List D):ixD (.tup (a::l)) (.int 0)=some a:=by
 rw[NS _ (by decide) (by rw[aJ];omega)];rfl
@[simp] theorem ixT1(a b:D)(l:List D):ixD (.tup (a::b::l)) (.int 1)=some b:=by
 rw[NS _ (by decide) (by rw[aJ,aJ];omega)];rfl
@[simp] theorem ixT2(a b c:D)(l:List D):ixD (.tup (a::b::c::l)) (.int 2)=some c:=by
 rw[NS _ (by decide) (by rw[aJ,aJ,aJ];omega)];rfl
@[simp] theorem ixL0(a:D)(l:List D):ixD (.lst (a::l)) (.int 0)=some a:=by
 rw[jL _ (by decide) (by rw[aJ];omega)];rfl
@[simp] theorem ixL1(a b:D)(l:List D):ixD (.lst (a::b::l)) (.int 1)=some b:=by
 rw[jL _ (by decide) (by rw[aJ,aJ];omega)];rfl
theorem wS(l:List D)(a:D):ixD (.lst (l++[a])) (.int (-1))=some a:=by
 show atI (l++[a]) (-1)=_;unfold atI ixN;rw[if_neg (by decide),if_pos (by rw[bP,rX];omega),bP,rX];have e:(-1+((l.length+1:Nat):Int)).toNat=l.length:=by omega
 rw[e];simp
@[simp] theorem flat_non:flat .non=true:=by simp[flat]
@[simp] theorem flat_bl(b:Bool):flat (.bl b)=true:=by simp[flat]
@[simp] theorem flat_int(i:Int):flat (.int i)=true:=by simp[flat]
@[simp] theorem flat_str(i:Str):flat (.str i)=true:=by simp[flat]
@[simp] theorem flat_tup(l:List D):flat (.tup l)=flats l:=by simp[flat]
@[simp] theorem flats_nil:flats []=true:=by simp[flats]
@[simp] theorem flats_cons(d:D)(l:List D):flats (d::l)=(flat d&&flats l):=by simp[flats]
@[simp] theorem flat_oi(o:Option Int):flat (oi o)=true:=by cases o<;>simp
theorem wA{d:D}(h:flat d=true):flatR d=some (.rt (.val d)):=if_pos h
@[simp] theorem flatR_non:flatR .non=some (.rt (.val .non)):=wA (by simp)
@[simp] theorem flatR_bl(b:Bool):flatR (.bl b)=some (.rt (.val (.bl b))):=wA (by simp)
@[simp] theorem flatR_int(i:Int):flatR (.int i)=some (.rt (.val (.int i))):=wA (by simp)
@[simp] theorem flatR_str(i:Str):flatR (.str i)=some (.rt (.val (.str i))):=wA (by simp)
@[simp] theorem flatR_oi(o:Option Int):flatR (oi o)=some (.rt (.val (oi o))):=wA (by simp)
@[simp] theorem flatR_tup(l:List D)(h:flats l=true):flatR (.tup l)=some (.rt (.val (.tup l))):=wA (by simpa using h)
@[simp] theorem aGa(l:List D)(h:flats l=true):flatF l=some (.rt (.fresh l)):=if_pos h
@[simp] theorem shal_int(n:Nat)(i:Int):shal n (.int i)=true:=by simp[shal]
@[simp] theorem shal_non(n:Nat):shal n .non=true:=by simp[shal]
@[simp] theorem shal_oi(n:Nat)(o:Option Int):shal n (oi o)=true:=by cases o<;>simp
@[simp] theorem shal_tup(n:Nat)(l:List D):shal n (.tup l)=shals n l:=by simp[shal]
@[simp] theorem shal_lst(n:Nat)(l:List D):shal n (.lst l)=shals n l:=by simp[shal]
@[simp] theorem shals_nil(n:Nat):shals n []=true:=by cases n<;>simp[shals]
@[simp] theorem TM(n:Nat)(d:D)(l:List D):shals (n+1) (d::l)=(shal n d&&shals (n+1) l):=by simp[shals]
theorem LA{n:Nat}{l:List D}(h:∀d∈l,shal n d=true):shals (n+1) l=true:=by
 induction l with
 |nil=>simp
 | cons d r ih =>
   rw[TM,h d aN,ih fun x hx=>h x (aG _ hx)];rfl
theorem UY{x y:D}(h:shal 40 x=true)(h2:shal 40 y=true):eqD x y=some (.bl (eqvD x y)):=if_pos ⟨h,h2⟩
theorem BS{x y:D}(h:shal 40 x=true)(h2:shal 40 y=true):neD x y=some (.bl (!eqvD x y)):=if_pos ⟨h,h2⟩
@[simp] theorem eqvD_int(i j:Int):eqvD (.int i) (.int j)=decide (i=j):=by
 show(i==j)=_;rw[gS];simp
@[simp] theorem eqvD_non:eqvD .non .non=true:=rfl
@[simp] theorem eqvD_non_int(j:Int):eqvD .non (.int j)=false:=rfl
@[simp] theorem eqvD_int_non(j:Int):eqvD (.int j) .non=false:=rfl
@[simp] theorem eqvD_oi(o p:Option Int):eqvD (oi o) (oi p)=decide (o=p):=by cases o<;>cases p<;>simp
@[simp] theorem eqvD_tup(a b:List D):eqvD (.tup a) (.tup b)=eqvs a b:=by simp[eqvD,eqvs,toPy,PyData.eqv]
@[simp] theorem AU(a b:List D):eqvD (.lst a) (.lst b)=eqvs a b:=by simp[eqvD,eqvs,toPy,PyData.eqv]
@[simp] theorem eqvs_nil:eqvs [] []=true:=by simp[eqvs,toPys,PyData.eqvAll]
@[simp] theorem MF(x y:D)(a b:List D):eqvs (x::a) (y::b)=(eqvD x y&&eqvs a b):=by simp[eqvs,eqvD,toPys,PyData.eqvAll]
@[simp] theorem eqvs_nil_cons(y:D)(b:List D):eqvs [] (y::b)=false:=by simp[eqvs,toPys,PyData.eqvAll]
@[simp] theorem eqvs_cons_nil(y:D)(b:List D):eqvs (y::b) []=false:=by simp[eqvs,toPys,PyData.eqvAll]
@[simp] theorem eqD_int(i j:Int):eqD (.int i) (.int j)=some (.bl (decide (i=j))):=by rw[UY (by simp) (by simp)];simp
@[simp] theorem neD_int(i j:Int):neD (.int i) (.int j)=some (.bl (!decide (i=j))):=by rw[BS (by simp) (by simp)];simp
@[simp] theorem aGi(i j:Option Int):eqD (oi i) (oi j)=some (.bl (decide (i=j))):=by rw[UY (by simp) (by simp)];simp
@[simp] theorem neD_oi(i j:Option Int):neD (oi i) (oi j)=some (.bl (!decide (i=j))):=by rw[BS (by simp) (by simp)];simp
theorem UT(l:List D):eqvs l []=l.isEmpty:=by cases l<;>simp
theorem neD_nil{l:List D}(h:shals 40 l=true):neD (.lst l) (.lst [])=some (.bl (!l.isEmpty)):=by rw[BS (by simpa using h) (by simp),AU,UT]
theorem TK(n:Nat)(l:List Int):shals (n+1) (l.map D.int)=true:=LA fun d hd=>by obtain⟨i,_,rfl⟩:=cP.mp hd;simp
theorem wE(l:List Int):flats (l.map D.int)=true:=by
 induction l with
 |nil=>simp
 |cons a r ih=>simp[ih]
theorem kits:kitF "int" "int" = some true/\kitF "NoneType" "int" = some false/\kitF "bool" "int" = some true/\kitF "tuple" "int" = some false/\kitF "list" "int" = some false/\kitF "str" "int" = some false ∧
  kitF "bool" "bool" = some true/\kitF "int" "bool" = some false/\kitF "NoneType" "bool" = some false/\kitF "tuple" "tuple" = some true/\kitF "list" "tuple" = some false/\kitF "NoneType" "tuple" = some false ∧
  kitF "list" "list" = some true/\kitF "tuple" "list" = some false/\kitF "NoneType" "list" = some false:=by
 refine⟨?_,?_,?_,?_,?_,?_,?_,?_,?_,?_,?_,?_,?_,?_,?_⟩<;>decide +kernel
@[simp] theorem isi_int_int(i:Int):isiD "int" (.int i)=some (.bl true):=by simp[isiD,tyD,kits.1]
@[simp] theorem isi_int_non:isiD "int" .non=some (.bl false):=by simp[isiD,tyD,kits.2.1]
@[simp] theorem isi_bool_int(i:Int):isiD "bool" (.int i)=some (.bl false):=by simp[isiD,tyD,kits.2.2.2.2.2.2.2.1]
@[simp] theorem isi_bool_non:isiD "bool" .non=some (.bl false):=by simp[isiD,tyD,kits.2.2.2.2.2.2.2.2.1]
@[simp] theorem isi_tup_tup(l:List D):isiD "tuple" (.tup l)=some (.bl true):=by simp[isiD,tyD,kits.2.2.2.2.2.2.2.2.2.1]
@[simp] theorem isi_lst_lst(l:List D):isiD "list" (.lst l)=some (.bl true):=by simp[isiD,tyD,kits.2.2.2.2.2.2.2.2.2.2.2.2.1]
@[simp] theorem bind_ite{α β : Type}{c:Prop}[Decidable c](a b:Option α)(f : α->Option β):(if c then a else b).bind f=if c then a.bind f else b.bind f:=by split<;>rfl
@[simp] theorem map_ite{α β : Type}{c:Prop}[Decidable c](a b:Option α)(f : α->β):(if c then a else b).map f=if c then a.map f else b.map f:=by split<;>rfl
theorem GX{ga:D->List Sl->Option (List Sl)}{body:FS}(P:List Sl->Prop):∀(items:List D) (ds:List Sl),P ds →
  (∀d∈items,∀ds,P ds->∃ds1 ds2,ga d ds=some ds1/\(body ds1=some (.nx ds2)\/body ds1=some (.ct ds2))/\P ds2)->∃ds',qZ ga body items ds=some (.nx ds')/\P ds'
 |[],ds,h,_=>⟨ds,rfl,h⟩
 | d :: r, ds, h, H => by
   obtain⟨ds1,ds2,e1,e2,h2⟩:=H d aN ds h;obtain⟨ds',e3,h3⟩:=GX P r ds2 h2 fun x hx=>H x (aG _ hx);refine⟨ds',?_,h3⟩;rcases e2 with e2 | e2<;>simp only[qZ,e1,e2,aH,e3]
theorem jY{fi:FA}{mp:List (Option Nat)}{ga:D->List Sl->Option (List Sl)}{tt:FT}{fe:FE}{ds:List Sl}{items l:List D}(h:fi ds=some items)(hl:items.length<=sizeLine)(hc:compL ga tt fe (yE mp ds) items=some l):compG fi mp ga tt fe ds=some l:=by
 unfold compG;rw[h];show(if items.length<=sizeLine then compL ga tt fe (yE mp ds) items else none)=_;rw[if_pos hl];exact hc
theorem SJ:∀bs:List Bool,blsD (bs.map D.bl)=some bs
 |[]=>rfl
 |b::r=>by simp[blsD,SJ r]
@[simp] theorem aGx(bs:List Bool):allD [.lst (bs.map D.bl)]=some (.bl (bs.all id)):=by simp[allD,SJ]
@[simp] theorem ixL2(a b c:D)(l:List D):ixD (.lst (a::b::c::l)) (.int 2)=some c:=by
 rw[jL _ (by decide) (by rw[aJ,aJ,aJ];omega)];rfl
@[simp] theorem ixL3(a b c d:D)(l:List D):ixD (.lst (a::b::c::d::l)) (.int 3)=some d:=by
 rw[jL _ (by decide) (by rw[aJ,aJ,aJ,aJ];omega)];rfl
@[simp] theorem rng3_eq(fa fb fc:FE)(ds:List Sl):rng3 fa fb fc ds=(fa ds).bind fun x=>(fb ds).bind fun y=>(fc ds).bind fun z=>match x,y,z with
 | .int i,.int j,.int c=>if okR3 i j c then some (VV i c (aCx i j c)) else none
 |_,_,_=>none:=rfl
@[simp] theorem rng2_eq(fa fb:FE)(ds:List Sl):rng2 fa fb ds=(fa ds).bind fun x=>(fb ds).bind fun y=>match x,y with
 | .int i,.int j=>if okR i/\okR j then some (fC i (j-i).toNat) else none
 |_,_=>none:=rfl
@[simp] theorem rng1_eq(f:FE)(ds:List Sl):rng1 f ds=(f ds).bind fun d=>match d with | .int j=>if okR j then some (fC 0 j.toNat) else none | _=>none:=rfl
theorem xQ{j:Int}(h : -1000000000<=j)(h2:j<=1000000000):okR j:=⟨CZ (by decide) h,Int.lt_of_le_of_lt h2 (by decide)⟩
@[simp] theorem absD_int(i:Int):absD [.int i]=some (.int (if i<0 then -i else i)):=rfl
@[simp] theorem int1D_int(i:Int):int1D [.int i]=some (.int i):=rfl
@[simp] theorem int1D_bl(b:Bool):int1D [.bl b]=some (.int (if b then 1 else 0)):=rfl
@[simp] theorem augA_eq(i:Nat)(f:FE)(ds:List Sl):augA i f ds=(qL i ds).bind fun x=>(f ds).bind fun y=>match x,y with
 | .int a,.int b=>some (.nx (ds.set i (.v (.int (a+b)))))
 |_,_=>none:=rfl
@[simp] theorem parG_eq(i j:Nat)(f:FA)(ds:List Sl):parG i j f ds=(f ds).bind fun l=>match l with
 |[a,b]=>some (.nx ((ds.set i (.v a)).set j (.v b)))
 |_=>none:=rfl
@[simp] theorem revA_eq(f:FE)(ds:List Sl):revA f ds=(f ds).bind fun d=>match d with
 | .lst l=>some l.reverse
 |_=>none:=rfl
theorem UD{d:D}{lo:Int}{n:Nat}(h:d∈fC lo n):∃k:Nat,k<n/\d=.int (lo+(k:Int)):=by
 obtain⟨k,hk,rfl⟩:=cP.mp h;exact⟨k,oK.mp hk,rfl⟩
theorem qJ{f g:FS}{ds ds':List Sl}(h:f ds=some (.nx ds')):qB f g ds=g ds':=by simp[h]
theorem aDe{f g:FS}{ds:List Sl}{r:Ret}(h:f ds=some (.rt r)):qB f g ds=some (.rt r):=by simp[h]
theorem xO{g:FS}{n:Nat}{ds:List D}{r:Ret}(h:g (args n ds)=some (.rt r)):runG g n ds=some r:=by unfold runG;rw[h]
end FL
section
open PySem PyProof.Rows L2 FL
noncomputable def mN:FS:=(retG (andV (zI notD (zH 0) (zA .non)) (andV (zI notD (zH 1) (zA .non)) (zI leD (zH 0) (zH 1)))))
noncomputable def gQ:List D->Option Ret:=runG mN 2
noncomputable def FH:FS:=(retG (andV (orV (zI isD (zI ixD (zH 0) (zA (.int 0))) (zA .non)) (zI leD (zI ixD (zH 0) (zA (.int 0))) (zH 1))) (orV (zI isD (zI ixD (zH 0) (4:)) (zA .non)) (zI ltD (zH 1) (zI ixD (zH 0) (4:))))))
noncomputable def rS:List D->Option Ret:=runG FH 2
noncomputable def CS:FS:=(qB (ifG (orT (zP (zI isD (zI ixD (zH 0) (zA (.int 0))) (zA .non))) (zP (zI isD (zI ixD (zH 0) (4:)) (zA .non)))) (retG (zA .non)) qH)
 (retG (zI subD (zI ixD (zH 0) (4:)) (zI ixD (zH 0) (zA (.int 0))))))
noncomputable def CT:List D->Option Ret:=runG CS 1
noncomputable def nR:FS:=(qB (ifG (zP (zI isD (zH 0) (zA .non))) (retG (zH 1)) qH)
 (qB (ifG (zP (zI isD (zH 1) (zA .non))) (retG (zH 0)) qH)
 (retG (callB mxD (zE (zH 0) (zE (zH 1) zZ))))))
noncomputable def hR:List D->Option Ret:=runG nR 2
noncomputable def iC:FS:=(qB (ifG (zP (zI isD (zH 0) (zA .non))) (retG (zH 1)) qH)
 (qB (ifG (zP (zI isD (zH 1) (zA .non))) (retG (zH 0)) qH)
 (retG (callB mnD (zE (zH 0) (zE (zH 1) zZ))))))
noncomputable def eT:List D->Option Ret:=runG iC 2
noncomputable def BB:FS:=(qB (jU 2 (qG 2 hR (zE (zI ixD (zH 0) (zA (.int 0))) (zE (zI ixD (zH 1) (zA (.int 0))) zZ))))
 (qB (jU 3 (qG 2 eT (zE (zI ixD (zH 0) (4:)) (zE (zI ixD (zH 1) (4:)) zZ))))
 (qB (ifG (testT (qG 2 gQ (zE (zH 3) (zE (zH 2) zZ)))) (retG (zA .non)) qH)
 (retG (mkT (qK (zE (qL 2) (zE (qL 3) zZ))))))))
noncomputable def nI:List D->Option Ret:=runG BB 4
noncomputable def pN:FS:=(qB (ifG (notT (testT (isiG "str" (zH 0)))) (retG (zA (.bl false))) qH)
 (qB (ifG (orT (zP (zI ltD (callB lenD (zE (zH 0) zZ)) (4:))) (zP (zI gtD (callB lenD (zE (zH 0) zZ)) (zA (.int 8))))) (retG (zA (.bl false))) qH)
 (retG (callB allD (zE (mkL (compG (viaA (qL 0) asS) [none] (zU 0) (fun _=>some true) (zI inS (zH 0) (zA (.str "abcdefghijklmnopqrstuvwxyz"))))) zZ)))))
noncomputable def gN:List D->Option Ret:=runG pN 1
noncomputable def nS:FS:=(qB (ifG (zP (zI isD (zH 4) (zA .non))) (fun ds=>some (.ct ds)) qH)
 (ifG (andT (testT (zH 1)) (andT (zP (zI eqD (zI ixD (zI ixD (zH 1) (un1 negD (4:))) (4:)) (zH 2))) (zP (zI eqD (zI ixD (zI ixD (zH 1) (un1 negD (4:))) (zA (.int 2))) (zH 4))))) (putG 1 (un1 negD (4:)) (mkT (qK (zE (zI ixD (zI ixD (zH 1) (un1 negD (4:))) (zA (.int 0))) (zE (qL 3) (zE (qL 4) zZ)))))) (appG 1 (mkT (qK (zE (qL 2) (zE (qL 3) (zE (qL 4) zZ))))))))
noncomputable def BC:FS:=(qB (setOG 1 (qK zZ))
 (qB (forG (viaA (qL 0) asLT) (tupG 3 (zY (zU 2) (zY (zU 3) (zY (zU 4) tgNil)))) nS)
 (retXG 1)))
noncomputable def fU:List D->Option Ret:=runG BC 5
noncomputable def gG:FS:=(qB (jU 6 (qG 2 nI (zE (mkT (qK (zE (qL 3) (zE (qL 4) zZ)))) (zE (zH 1) zZ))))
 (ifG (zP (zI notD (zH 6) (zA .non))) (appG 2 (mkT (qK (zE (zI ixD (zH 6) (zA (.int 0))) (zE (zI ixD (zH 6) (4:)) (zE (qL 5) zZ)))))) qH))
noncomputable def oU:FS:=(qB (setOG 2 (qK zZ))
 (qB (forG (viaA (qL 0) asLT) (tupG 3 (zY (zU 3) (zY (zU 4) (zY (zU 5) tgNil)))) gG)
 (retXG 2)))
noncomputable def cQ:List D->Option Ret:=runG oU 7
noncomputable def nQ:FS:=(qB (setOG 3 (qK zZ))
 (qB (ifG (zP (zI notD (zI ixD (zH 1) (zA (.int 0))) (zA .non))) (extG 3 (vV 2 cQ (zE (zH 0) (zE (mkT (qK (zE (zA .non) (zE (zI ixD (zH 1) (zA (.int 0))) zZ)))) zZ)))) qH)
 (qB (appG 3 (mkT (qK (zE (zI ixD (zH 1) (zA (.int 0))) (zE (zI ixD (zH 1) (4:)) (zE (qL 2) zZ))))))
 (qB (ifG (zP (zI notD (zI ixD (zH 1) (4:)) (zA .non))) (extG 3 (vV 2 cQ (zE (zH 0) (zE (mkT (qK (zE (zI ixD (zH 1) (4:)) (zE (zA .non) zZ)))) zZ)))) qH)
 (retXG 3)))))
noncomputable def gF:List D->Option Ret:=runG nQ 4
noncomputable def FG:FS:=(retOG (vV 1 fU (zE (qG 3 gF (zE (zH 0) (zE (zH 1) (zE (zH 2) zZ)))) zZ)))
noncomputable def rQ:List D->Option Ret:=runG FG 3
noncomputable def iR:FN:=(fldN (zA .non))
noncomputable def bT:List D->Option (List D):=runN iR 1
noncomputable def kX:FN:=(seqN (fldN (mkT (qK (zE (zI ixD (zH 1) (zA (.int 0))) (zE (zI ixD (zH 1) (4:)) zZ)))))
 (fldN (qL 2)))
noncomputable def eP:List D->Option (List D):=runN kX 3
noncomputable def pA:FS:=(retG (ifV (testT (qG 2 rS (zE (fldG [(0,0)] (qL 0)) (zE (zH 1) zZ)))) (zA .non) (qL 1)))
noncomputable def pB:List D->Option Ret:=runG pA 2
noncomputable def oW:FS:=(retG (zH 1))
noncomputable def oX:List D->Option Ret:=runG oW 2
noncomputable def mO:FS:=(ifG (zP (zI ltD (zH 0) (zA (.int 0)))) (fun _=>none) qH)
noncomputable def fV:List D->Option Ret:=runG mO 1
noncomputable def gE:FN:=(seqN (dropN (qG 1 fV (zE (zH 2) zZ)))
 (seqN (supN bT)
 (seqN (fldN (qL 1))
 (fldN (qL 2)))))
noncomputable def cI:List D->Option (List D):=runN gE 3
noncomputable def nP:FS:=(qB (ifG (zP (zI ltD (zH 0) (zH 1))) (retG (zH 0)) qH)
 (retG (ifV (zP (zI ltD (zH 0) (zI yF (zH 1) (zH 2)))) (zA .non) (zI subD (zH 0) (zH 2)))))
noncomputable def fI:List D->Option Ret:=runG nP 3
noncomputable def mT:FS:=(retG (qG 3 fI (zE (zH 1) (zE (fldG [(1,1),(2,1)] (qL 0)) (zE (fldG [(1,2),(2,2)] (qL 0)) zZ)))))
noncomputable def mU:List D->Option Ret:=runG mT 2
noncomputable def rR:FS:=(retG (ifV (zP (zI ltD (zH 0) (zH 1))) (qL 0) (zI yF (zH 0) (zH 2))))
noncomputable def hO:List D->Option Ret:=runG rR 3
noncomputable def mP:FS:=(retG (qG 3 hO (zE (zH 1) (zE (fldG [(1,1),(2,1)] (qL 0)) (zE (fldG [(1,2),(2,2)] (qL 0)) zZ)))))
noncomputable def mQ:List D->Option Ret:=runG mP 2
noncomputable def lQ:FS:=(retG (qG 3 hO (zE (zH 1) (zE (fldG [(1,1),(2,1)] (qL 0)) (zE (fldG [(1,2),(2,2)] (qL 0)) zZ)))))
noncomputable def lR:List D->Option Ret:=runG lQ 2
noncomputable def lL:FS:=(retG (qG 3 fI (zE (zH 1) (zE (fldG [(1,1),(2,1)] (qL 0)) (zE (fldG [(1,2),(2,2)] (qL 0)) zZ)))))
noncomputable def lM:List D->Option Ret:=runG lL 2
noncomputable def iP:FN:=(seqN (supN bT)
 (fldN (qL 1)))
noncomputable def eK:List D->Option (List D):=runN iP 2
noncomputable def nX:FS:=(retG (zI subD (zH 1) (fldG [(3,1)] (qL 0))))
noncomputable def nY:List D->Option Ret:=runG nX 2
noncomputable def nT:FS:=(retG (zI yF (zH 1) (fldG [(3,1)] (qL 0))))
noncomputable def nU:List D->Option Ret:=runG nT 2
noncomputable def lK:FS:=(ifG (orT (zP (zI ltD (zH 0) (4:))) (zP (zI gtD (zH 0) (zA (.int 1000))))) (fun _=>none) qH)
noncomputable def fF:List D->Option Ret:=runG lK 1
noncomputable def gR:FN:=(seqN (dropN (qG 1 fF (zE (zH 1) zZ)))
 (seqN (dropN (qG 1 fF (zE (zH 2) zZ)))
 (seqN (supN bT)
 (seqN (fldN (qL 1))
 (fldN (qL 2))))))
noncomputable def dO:List D->Option (List D):=runN gR 3
noncomputable def kW:FS:=(retG (zI qW (zI yV (zH 1) (fldG [(4,2)] (qL 0))) (fldG [(4,1)] (qL 0))))
noncomputable def gU:List D->Option Ret:=runG kW 2
noncomputable def eO:FS:=(retG (ifV (zP (zI isD (zH 1) (zA .non))) (zA .non) (un1 negD (zI qW (zI yV (un1 negD (qL 1)) (fldG [(4,1)] (qL 0))) (fldG [(4,2)] (qL 0))))))
noncomputable def dC:List D->Option Ret:=runG eO 2
noncomputable def lW:FS:=(retG (un1 negD (qL 1)))
noncomputable def lX:List D->Option Ret:=runG lW 2
noncomputable def bS:Nat->List D->Option Ret
 |4=>dC
 |_=>fun _=>none
noncomputable def cX:Nat->List D->Option Ret
 |0=>pB
 |1=>mU
 |2=>lR
 |3=>nY
 |4=>gU
 |5=>lX
 |_=>fun _=>none
noncomputable def kR:FS:=(qB (jU 2 (methV 1 [4] bS (qL 0) (zE (zH 1) zZ)))
 (retG (ifV (zP (zI eqD (methV 1 [0,1,2,3,4,5] cX (qL 0) (zE (zH 2) zZ)) (zH 1))) (qL 2) (zA .non))))
noncomputable def kS:List D->Option Ret:=runG kR 3
noncomputable def lS:FS:=(retG (un1 negD (qL 1)))
noncomputable def lT:List D->Option Ret:=runG lS 2
noncomputable def cO:Nat->List D->Option Ret
 |0=>oX
 |1=>mQ
 |2=>lM
 |3=>nU
 |4=>kS
 |5=>lT
 |_=>fun _=>none
noncomputable def oY:FS:=(retOG (vV 3 rQ (zE (zH 1) (zE (fldG [(0,0)] (qL 0)) (zE (fldG [(0,1),(1,0),(2,0),(3,0),(4,0),(5,0),(6,0)] (qL 0)) zZ)))))
noncomputable def oZ:List D->Option Ret:=runG oY 2
noncomputable def pO:FS:=(retG (ifV (zP (zI isD (zH 0) (zA .non))) (zA .non) (zI yF (zH 0) (zH 1))))
noncomputable def fW:List D->Option Ret:=runG pO 2
noncomputable def pM:FS:=(retOG (compG (viaA (qL 0) asLT) [none,none,none,some 1] (tupG 3 (zY (zU 0) (zY (zU 1) (zY (zU 2) tgNil)))) (fun _=>some true) (mkT (qK (zE (qG 2 fW (zE (zH 0) (zE (zH 3) zZ))) (zE (qG 2 fW (zE (zH 1) (zE (zH 3) zZ))) (zE (qL 2) zZ)))))))
noncomputable def eX:List D->Option Ret:=runG pM 2
noncomputable def mR:FS:=(qB (jU 2 (qG 2 cQ (zE (zH 1) (zE (mkT (qK (zE (zA .non) (zE (fldG [(1,1),(2,1)] (qL 0)) zZ)))) zZ))))
 (qB (jU 3 (qG 2 cQ (zE (zH 1) (zE (mkT (qK (zE (fldG [(1,1),(2,1)] (qL 0)) (zE (zA .non) zZ)))) zZ))))
 (retOG (vV 1 fU (zE (mkL (catA (zH 2) (qG 2 eX (zE (zH 3) (zE (fldG [(1,2),(2,2)] (qL 0)) zZ))))) zZ)))))
noncomputable def mS:List D->Option Ret:=runG mR 4
noncomputable def lN:FS:=(qB (jU 2 (qG 2 cQ (zE (zH 1) (zE (mkT (qK (zE (zA .non) (zE (fldG [(1,1),(2,1)] (qL 0)) zZ)))) zZ))))
 (qB (jU 3 (qG 2 cQ (zE (zH 1) (zE (mkT (qK (zE (zI yF (fldG [(1,1),(2,1)] (qL 0)) (fldG [(1,2),(2,2)] (qL 0))) (zE (zA .non) zZ)))) zZ))))
 (retOG (vV 1 fU (zE (mkL (catA (zH 2) (qG 2 eX (zE (zH 3) (zE (un1 negD (fldG [(1,2),(2,2)] (qL 0))) zZ))))) zZ)))))
noncomputable def lP:List D->Option Ret:=runG lN 4
noncomputable def nV:FS:=(retOG (vV 2 eX (zE (zH 1) (zE (fldG [(3,1)] (qL 0)) zZ))))
noncomputable def nW:List D->Option Ret:=runG nV 2
noncomputable def kT:FS:=(qB (jU 2 (mkL (compG (viaA (qL 1) asLT) [none,none,none,some 0] (tupG 3 (zY (zU 0) (zY (zU 1) (zY (zU 2) tgNil)))) (fun _=>some true) (mkT (qK (zE (methV 1 [4] bS (qL 3) (zE (zH 0) zZ)) (zE (methV 1 [4] bS (qL 3) (zE (zH 1) zZ)) (zE (qL 2) zZ))))))))
 (retOG (vV 1 fU (zE (mkL (compG (viaA (qL 2) asLT) [none] (zU 0) (orT (zP (zI isD (zI ixD (zH 0) (zA (.int 0))) (zA .non))) (zP (zI neD (zI ixD (zH 0) (zA (.int 0))) (zI ixD (zH 0) (4:))))) (qL 0))) zZ))))
noncomputable def kU:List D->Option Ret:=runG kT 3
noncomputable def oV:FS:=(retG (ifV (zP (zI isD (zH 0) (zA .non))) (zA .non) (zI subD (4:) (zH 0))))
noncomputable def fE:List D->Option Ret:=runG oV 1
noncomputable def lU:FS:=(retOG (compG (revA (qL 1)) [none,none,none] (tupG 3 (zY (zU 0) (zY (zU 1) (zY (zU 2) tgNil)))) (fun _=>some true) (mkT (qK (zE (qG 1 fE (zE (zH 1) zZ)) (zE (qG 1 fE (zE (zH 0) zZ)) (zE (qL 2) zZ)))))))
noncomputable def lV:List D->Option Ret:=runG lU 2
noncomputable def cE:Nat->List D->Option Ret
 |0=>oZ
 |1=>mS
 |2=>lP
 |3=>nW
 |4=>kU
 |5=>lV
 |_=>fun _=>none
noncomputable def iQ:FS:=(qB (setNw 20 21 (varP 0) (vO (ifV (zP (zI isD (zH 1) (zA .non))) (mkL (qK zZ)) (mkL (lisA (zH 1))))))
 (qB (setNw 21 22 (varP 0) (vO (zA (.dcf [] []))))
 (qB (setNw 22 23 (varP 0) (sO nilO))
 (setNw 23 11 (varP 0) (sO nilO)))))
noncomputable def dS:OT->List D->Option OT:=lentF iQ 2
noncomputable def oB:FS:=(qB (appP (atP [(11,2)] (varP 0)) (mkT (qK (zE (valP (atP [(11,0)] (varP 0))) (zE (valP (atP [(11,1)] (varP 0))) zZ)))))
 (qB (setAt [(11,3)] (varP 0) (sO nilO))
 (qB (setAt [(11,0)] (varP 0) (vO (qL 1)))
 (setAt [(11,1)] (varP 0) (vO (qL 2))))))
noncomputable def dE:OT->List D->Option OT:=lentF oB 3
noncomputable def gC:FS:=(dputG (varP 2) (qL 3) (ifV (zP (zI isD (zH 4) (zA .non))) (zA .non) (methV 1 [0,1,2,3,4,5] cO (qL 1) (zE (zH 4) zZ))))
noncomputable def nH:FS:=(qB (setB 2 dO0)
 (qB (forG (uC (valP (atP [(11,1)] (varP 0)))) (tupG 2 (zY (zU 3) (zY (zU 4) tgNil))) gC)
 (frzDG 2 (lentG 2 [11] (fun _=>dE) (varP 0) (zE (methV 1 [0,1,2,3,4,5] cE (qL 1) (zE (valP (atP [(11,0)] (varP 0))) zZ)) (zE (qL 2) zZ))))))
noncomputable def eY:OT->List D->Option OT:=lentF nH 5
noncomputable def nZ:FS:=(retOG (lisA (fldG [(11,0)] (qL 0))))
noncomputable def oA:List D->Option Ret:=runG nZ 1
noncomputable def gH:Nat->List D->Option Ret
 |11=>oA
 |_=>fun _=>none
noncomputable def kY:FS:=(qB (ifG (notT (testT (qG 1 gN (zE (zH 1) zZ)))) (fun _=>none) qH)
 (qB (setB 3 (OH (valP (atP [(11,1)] (varP 0)))))
 (qB (dputG (varP 3) (qL 1) (qL 2))
 (frzDG 3 (lentG 2 [11] (fun _=>dE) (varP 0) (zE (valP (atP [(11,0)] (varP 0))) (zE (qL 3) zZ)))))))
noncomputable def eB:OT->List D->Option OT:=lentF kY 4
noncomputable def mV:FS:=(qB (ifG (orT (notT (testT (qG 1 gN (zE (zH 1) zZ)))) (dnotG (zH 1) (fldG [(11,1)] (qL 0)))) (fun _=>none) qH)
 (retG (dgetG (fldG [(11,1)] (qL 0)) (qL 1))))
noncomputable def mW:List D->Option Ret:=runG mV 2
noncomputable def mX:FS:=(retOG (srtDA (fldG [(11,1)] (qL 0))))
noncomputable def mY:List D->Option Ret:=runG mX 1
noncomputable def fY:Nat->List D->Option Ret
 |11=>mY
 |_=>fun _=>none
noncomputable def fX:Nat->List D->Option Ret
 |11=>mW
 |_=>fun _=>none
noncomputable def lY:FS:=(qB (setAt [(11,0)] (varP 0) (vO (zI ixD (zH 1) (zA (.int 0)))))
 (setAt [(11,1)] (varP 0) (vO (zI ixD (zH 1) (4:)))))
noncomputable def cY:OT->List D->Option OT:=lentF lY 2
noncomputable def kZ:FS:=(qB (ifG (notT (testT (seeP (atP [(11,2)] (varP 0))))) (fun _=>none) qH)
 (qB (appP (atP [(11,3)] (varP 0)) (mkT (qK (zE (valP (atP [(11,0)] (varP 0))) (zE (valP (atP [(11,1)] (varP 0))) zZ)))))
 (lentX [11] (fun _=>cY) 0 (popX (atP [(11,2)] (varP 0))))))
noncomputable def fJ:OT->List D->Option OT:=lentF kZ 1
noncomputable def iM:FS:=(qB (ifG (notT (testT (seeP (atP [(11,3)] (varP 0))))) (fun _=>none) qH)
 (qB (appP (atP [(11,2)] (varP 0)) (mkT (qK (zE (valP (atP [(11,0)] (varP 0))) (zE (valP (atP [(11,1)] (varP 0))) zZ)))))
 (lentX [11] (fun _=>cY) 0 (popX (atP [(11,3)] (varP 0))))))
noncomputable def eR:OT->List D->Option OT:=lentF iM 1
noncomputable def pU:FS:=(qB (ifG (zP (zI ltD (zH 1) (callB lenD (zE (zH 0) zZ)))) (retG (zI ixD (zH 0) (zH 1))) qH)
 (retG (zA (.int 0))))
noncomputable def dQ:List D->Option Ret:=runG pU 2
noncomputable def pQ:FS:=(retG (andV (isiG "int" (zH 0)) (notV (isiG "bool" (zH 0)))))
noncomputable def fK:List D->Option Ret:=runG pQ 1
noncomputable def OX:FS:=(retG (andV (orV (zI isD (zI ixD (zH 0) (zA (.int 0))) (zA .non)) (zI leD (zI ixD (zH 0) (zA (.int 0))) (zH 1))) (orV (zI isD (zI ixD (zH 0) (4:)) (zA .non)) (zI ltD (zH 1) (zI ixD (zH 0) (4:))))))
noncomputable def OY:List D->Option Ret:=runG OX 2
noncomputable def fL:FS:=(ifG (andT (orT (zP (zI isD (zH 2) (zA .non))) (zP (zI leD (zH 2) (zH 1)))) (orT (zP (zI isD (zH 3) (zA .non))) (zP (zI ltD (zH 1) (zH 3))))) (retG (zH 4)) qH)
noncomputable def sS:FS:=(qB (forG (viaA (qL 0) asLT) (tupG 3 (zY (zU 2) (zY (zU 3) (zY (zU 4) tgNil)))) fL)
 (retG (zA .non)))
noncomputable def pC:List D->Option Ret:=runG sS 5
noncomputable def rV:FS:=(qB (jU 2 (zI qW (zH 0) (zA (.int 3))))
 (qB (ifG (zP (zI eqD (zI jF (zH 0) (zA (.int 3))) (4:))) (retG (zI subD (zI jF (zH 2) (zI yF (zI yV (zA (.int 2)) (zI powD (zA (.int 10)) (zA (.int 60)))) (4:))) (zI powD (zA (.int 10)) (zA (.int 60))))) qH)
 (qB (ifG (andT (zP (zI eqD (zI jF (zH 0) (zA (.int 3))) (zA (.int 2)))) (zP (zI neD (zH 1) (mkL (qK zZ))))) (retG (zI subD (zI yF (zI ixD (zH 1) (zI jF (zH 2) (callB lenD (zE (zH 1) zZ)))) (zI jF (zI qW (zH 2) (callB lenD (zE (zH 1) zZ))) (zA (.int 3)))) (4:))) qH)
 (retG (zI subD (zI jF (zH 2) (zA (.int 41))) (zA (.int 20)))))))
noncomputable def eM:List D->Option Ret:=runG rV 3
noncomputable def BH:FS:=(retG (zI ixD (mkL (qK (zE (zI jF (zI qW (zH 0) (zA (.int 3))) (zA (.int 9))) (zE (zI jF (zI qW (zH 0) (zA (.int 3))) (zI powD (zA (.int 10)) (zA (.int 60)))) (zE (zI jF (zI qW (zH 0) (zA (.int 3))) (zA (.int 61))) zZ))))) (zI jF (zH 0) (zA (.int 3)))))
noncomputable def iZ:List D->Option Ret:=runG BH 1
noncomputable def tV:FS:=(retG (zI yF (4:) (zI jF (zI qW (zH 0) (zA (.int 2))) (zI ixD (mkL (qK (zE (zA (.int 4)) (zE (zA (.int 1000)) zZ)))) (zI jF (zH 0) (zA (.int 2)))))))
noncomputable def lZ:List D->Option Ret:=runG tV 1
noncomputable def tU:FS:=(qB (jU 2 (zI yF (4:) (qG 1 iZ (zE (zI qW (zH 1) (zA (.int 12))) zZ))))
 (qB (ifG (zP (zI gtD (zI jF (zH 1) (zA (.int 12))) (zA (.int 8)))) (retG (zI ixD (mkL (qK (zE (mkT (qK (zE (qL 0) (zE (zA .non) zZ)))) (zE (mkT (qK (zE (zA .non) (zE (qL 0) zZ)))) (zE (mkT (qK (zE (zA .non) (zE (zA .non) zZ)))) zZ))))) (zI subD (zI jF (zH 1) (zA (.int 12))) (zA (.int 9))))) qH)
 (retG (mkT (qK (zE (qL 0) (zE (zI yF (zH 0) (zH 2)) zZ)))))))
noncomputable def oC:List D->Option Ret:=runG tU 3
noncomputable def tX:FS:=(qB (asgG (tupG 3 (zY (zU 1) (zY (zU 2) (zY (zU 3) tgNil)))) (qL 0))
 (qB (ifG (zP (zI eqD (zH 1) (zA (.str "put")))) (retDG (makeG 0 2 eP (zE (zH 2) (zE (zH 3) zZ)))) qH)
 (qB (ifG (zP (zI eqD (zH 1) (zA (.str "widen")))) (retDG (makeG 1 2 cI (zE (zH 2) (zE (zH 3) zZ)))) qH)
 (qB (ifG (zP (zI eqD (zH 1) (zA (.str "narrow")))) (retDG (makeG 2 2 cI (zE (zH 2) (zE (zH 3) zZ)))) qH)
 (qB (ifG (zP (zI eqD (zH 1) (zA (.str "move")))) (retDG (makeG 3 1 eK (zE (zH 2) zZ))) qH)
 (qB (ifG (zP (zI eqD (zH 1) (zA (.str "stretch")))) (retDG (makeG 4 2 dO (zE (zH 2) (zE (zH 3) zZ)))) qH)
 (retDG (makeG 5 0 bT zZ))))))))
noncomputable def mC:List D->Option Ret:=runG tX 4
noncomputable def pP:FS:=(qB (jU 2 (zI yF (zH 2) (zI ixD (zA (.str "abcdefghijklmnopqrstuvwxyz")) (zI jF (zH 0) (zA (.int 26))))))
 (jU 0 (zI yF (zI qW (zH 0) (zA (.int 26))) (zA (.int 5)))))
noncomputable def BD:FS:=(qB (jU 2 (zA (.str "")))
 (qB (forG (rng1 (qL 1)) (zU 3) pP)
 (retG (zH 2))))
noncomputable def iW:List D->Option Ret:=runG BD 4
noncomputable def iA:FS:=(qB (jU 2 (zI yF (4:) (zI jF (zH 0) (zA (.int 8)))))
 (qB (jU 3 (qG 2 iW (zE (zI qW (zH 0) (zA (.int 8))) (zE (zH 2) zZ))))
 (qB (jU 4 (zI jF (zI qW (zH 1) (zA (.int 5))) (zH 2)))
 (qB (jU 5 (qG 2 iW (zE (zI qW (zH 1) (zA (.int 40))) (zE (4:) zZ))))
 (qB (ifG (zP (zI eqD (zI jF (zH 1) (zA (.int 5))) (4:))) (retG (zI yF (zI yF (slsS (zH 3) noP (soP (zH 4))) (zH 5)) (slsS (zH 3) (soP (zI yF (zH 4) (4:))) noP))) qH)
 (qB (ifG (zP (zI eqD (zI jF (zH 1) (zA (.int 5))) (zA (.int 2)))) (retG (slsS (zH 3) noP (soP (zI yF (zH 4) (4:))))) qH)
 (qB (ifG (zP (zI eqD (zI jF (zH 1) (zA (.int 5))) (zA (.int 3)))) (retG (slsS (zI yF (zH 3) (zH 5)) noP (soP (zA (.int 8))))) qH)
 (qB (ifG (zP (zI eqD (zI jF (zH 1) (zA (.int 5))) (zA (.int 4)))) (retG (qG 2 iW (zE (zI qW (zH 1) (zA (.int 40))) (zE (zI yF (4:) (zI jF (zI qW (zH 1) (zA (.int 5))) (zA (.int 8)))) zZ)))) qH)
 (retG (zH 3))))))))))
noncomputable def nK:List D->Option Ret:=runG iA 6
noncomputable def BE:FS:=(qB (asgG (tupG 3 (zY (zU 2) (zY (zU 3) (zY (zU 4) tgNil)))) (qL 0))
 (qB (ifG (orT (zP (zI isD (zH 1) (zA .non))) (zP (zI eqD (zH 2) (zA (.str "put"))))) (retG (zH 1)) qH)
 (qB (ifG (zP (zI eqD (zH 2) (zA (.str "move")))) (retG (zI yF (zH 1) (zH 3))) qH)
 (qB (ifG (zP (zI eqD (zH 2) (zA (.str "mirror")))) (retG (un1 negD (qL 1))) qH)
 (qB (ifG (zP (zI eqD (zH 2) (zA (.str "stretch")))) (qB (jU 5 (un1 negD (zI qW (zI yV (un1 negD (qL 1)) (zH 3)) (zH 4))))
 (qB (ifG (zP (zI eqD (zI qW (zI yV (zH 5) (zH 4)) (zH 3)) (zH 1))) (retG (zH 5)) qH)
 (retG (zA .non)))) qH)
 (qB (ifG (zP (zI ltD (zH 1) (zH 3))) (retG (zH 1)) qH)
 (qB (ifG (zP (zI eqD (zH 2) (zA (.str "widen")))) (retG (zI yF (zH 1) (zH 4))) qH)
 (qB (ifG (zP (zI ltD (zH 1) (zI yF (zH 3) (zH 4)))) (retG (zA .non)) qH)
 (retG (zI subD (zH 1) (zH 4)))))))))))
noncomputable def iX:List D->Option Ret:=runG BE 6
noncomputable def mG:FS:=(qB (jU 6 (methV 1 [11] fX (qL 0) (zE (zH 5) zZ)))
 (ifG (zP (zI isD (dgetG (qL 1) (qL 5)) (zA .non))) (ifG (zP (zI notD (zH 6) (zA .non))) (retG (zA (.bl false))) qH) (ifG (orT (notT (testT (qG 1 fK (zE (zH 6) zZ)))) (zP (zI neD (zH 6) (dgetG (qL 1) (qL 5))))) (retG (zA (.bl false))) qH)))
noncomputable def pR:FS:=(qB (jU 3 (mkL (srtDA (zH 1))))
 (qB (jU 4 (methV 0 [11] fY (qL 0) zZ))
 (qB (ifG (orT (notT (testT (isiG "list" (zH 4)))) (zP (zI neD (zH 4) (zH 3)))) (retG (zA (.bl false))) qH)
 (qB (ifG (zP (zI eqD (zH 2) (4:))) (jU 3 (mkL (revA (qL 3)))) qH)
 (qB (forG (viaA (qL 3) asLT) (zU 5) mG)
 (retG (zA (.bl true))))))))
noncomputable def gO:List D->Option Ret:=runG pR 7
noncomputable def pS:FS:=(qB (jU 4 (zI qW (zH 3) (zA (.int 120))))
 (qB (jU 5 (zI yF (zH 2) (zI ixD (mkL (qK (zE (zA (.int 0)) (zE (zA (.int 0)) (zE (zI yF (4:) (zI jF (zH 4) (zA (.int 9)))) (zE (zI jF (zH 4) (zI powD (zA (.int 10)) (zA (.int 60)))) zZ)))))) (zI jF (zH 3) (zA (.int 4))))))
 (qB (ifG (zP (zI eqD (zH 1) (mkL (qK zZ)))) (qB (jU 6 (zI yV (zA (.int 9)) (zI powD (zI powD (zA (.int 10)) (zA (.int 33))) (zA (.int 6)))))
 (jU 5 (zI ixD (mkL (qK (zE (zI subD (zI jF (zH 4) (zA (.int 41))) (zA (.int 20))) (zE (zI jF (zH 4) (zI powD (zA (.int 10)) (zA (.int 60)))) (zE (zI yF (zH 6) (zI jF (zH 4) (zI powD (zA (.int 10)) (zA (.int 60))))) (zE (zI subD (4:) (zH 6)) zZ)))))) (zI jF (zH 3) (zA (.int 4)))))) qH)
 (qB (jU 7 (zI ixD (mkL (qK (zE (zA (.int 0)) (zE (4:) (zE (zI subD (zI jF (zH 4) (zA (.int 19))) (zA (.int 9))) (zE (zI subD (zI jF (zI yV (zH 4) (zA (.int 48271))) (zI yF (zI powD (zA (.int 10)) (zA (.int 60))) (zA (.int 7)))) (zI powD (zA (.int 10)) (zA (.int 59)))) (zE (4:) zZ))))))) (zI jF (zI qW (zH 3) (zA (.int 4))) (zA (.int 5)))))
 (qB (ifG (andT (zP (zI neD (zH 1) (mkL (qK zZ)))) (andT (zP (zI eqD (zH 5) (zH 2))) (zP (zI eqD (zH 7) (zI ixD (zI ixD (zH 1) (un1 negD (4:))) (zA (.int 2))))))) (jU 7 (zI yF (zH 7) (4:))) qH)
 (qB (jU 2 (zI yF (zH 5) (zI ixD (mkL (qK (zE (4:) (zE (zI yF (4:) (zI jF (zI qW (zH 4) (zA (.int 9))) (zA (.int 9)))) (zE (zI yF (4:) (zI jF (zI yV (zH 4) (zA (.int 69621))) (zI yF (zI powD (zA (.int 10)) (zA (.int 60))) (zA (.int 9))))) zZ))))) (zI jF (zI qW (zH 3) (zA (.int 20))) (zA (.int 3))))))
 (appG 1 (mkT (qK (zE (qL 5) (zE (qL 2) (zE (qL 7) zZ))))))))))))
noncomputable def BG:FS:=(qB (setOG 1 (qK zZ))
 (qB (jU 2 (zA (.int 0)))
 (qB (forG (viaA (qL 0) asLT) (zU 3) pS)
 (qB (ifG (andT (zP (zI neD (zH 1) (mkL (qK zZ)))) (zP (zI eqD (zI jF (zI qW (zI ixD (zH 0) (zA (.int 0))) (zA (.int 60))) (zA (.int 8))) (4:)))) (putG 1 (zA (.int 0)) (mkT (qK (zE (zA .non) (zE (zI ixD (zI ixD (zH 1) (zA (.int 0))) (4:)) (zE (zI ixD (zI ixD (zH 1) (zA (.int 0))) (zA (.int 2))) zZ)))))) qH)
 (qB (ifG (andT (zP (zI neD (zH 1) (mkL (qK zZ)))) (zP (zI eqD (zI jF (zI qW (zI ixD (zH 0) (un1 negD (4:))) (zA (.int 60))) (zA (.int 8))) (zA (.int 6))))) (putG 1 (un1 negD (4:)) (mkT (qK (zE (zI ixD (zI ixD (zH 1) (un1 negD (4:))) (zA (.int 0))) (zE (zA .non) (zE (zI ixD (zI ixD (zH 1) (un1 negD (4:))) (zA (.int 2))) zZ)))))) qH)
 (retXG 1))))))
noncomputable def pE:List D->Option Ret:=runG BG 8
noncomputable def BF:FS:=(qB (jU 4 (qG 2 eM (zE (zH 1) (zE (zH 3) zZ))))
 (qB (ifG (zP (zI eqD (zI jF (zH 0) (zA (.int 8))) (zA (.int 3)))) (retG (mkT (qK (zE (zA (.str "widen")) (zE (qL 4) (zE (qG 1 iZ (zE (zH 2) zZ)) zZ)))))) qH)
 (qB (ifG (zP (zI eqD (zI jF (zH 0) (zA (.int 8))) (zA (.int 4)))) (retG (mkT (qK (zE (zA (.str "narrow")) (zE (qL 4) (zE (qG 1 iZ (zE (zH 2) zZ)) zZ)))))) qH)
 (qB (ifG (zP (zI eqD (zI jF (zH 0) (zA (.int 8))) (zA (.int 5)))) (retG (mkT (qK (zE (zA (.str "move")) (zE (qL 4) (zE (zA (.int 0)) zZ)))))) qH)
 (qB (ifG (zP (zI eqD (zI jF (zH 0) (zA (.int 8))) (zA (.int 6)))) (retG (mkT (qK (zE (zA (.str "stretch")) (zE (qG 1 lZ (zE (zH 1) zZ)) (zE (qG 1 lZ (zE (zH 2) zZ)) zZ)))))) qH)
 (qB (ifG (zP (zI eqD (zI jF (zH 0) (zA (.int 8))) (zA (.int 7)))) (retG (mkT (qK (zE (zA (.str "mirror")) (zE (zA (.int 0)) (zE (zA (.int 0)) zZ)))))) qH)
 (qB (jU 5 (zI ixD (mkL (qK (zE (zA .non) (zE (zA (.int 0)) (zE (4:) (zE (zI subD (zI jF (zI qW (zH 0) (zA (.int 40))) (zI yF (zI yV (zA (.int 2)) (zI powD (zA (.int 10)) (zA (.int 60)))) (4:))) (zI powD (zA (.int 10)) (zA (.int 60)))) (zE (4:) zZ))))))) (zI jF (zI qW (zH 0) (zA (.int 8))) (zA (.int 5)))))
 (retG (mkT (qK (zE (zA (.str "put")) (zE (qG 2 oC (zE (zH 4) (zE (zH 2) zZ))) (zE (qL 5) zZ)))))))))))))
noncomputable def nJ:List D->Option Ret:=runG BF 6
noncomputable def MS:FS:=(ifG (andT (orT (zP (zI isD (zH 2) (zA .non))) (zP (zI leD (zH 2) (zH 1)))) (orT (zP (zI isD (zH 3) (zA .non))) (zP (zI ltD (zH 1) (zH 3))))) (retG (zH 4)) qH)
noncomputable def CU:FS:=(qB (forG (viaA (qL 0) asLT) (tupG 3 (zY (zU 2) (zY (zU 3) (zY (zU 4) tgNil)))) MS)
 (retG (zA .non)))
noncomputable def iY:List D->Option Ret:=runG CU 5
noncomputable def JZ:FS:=(retG (andV (orV (zI isD (zI ixD (zH 0) (zA (.int 0))) (zA .non)) (zI leD (zI ixD (zH 0) (zA (.int 0))) (zH 1))) (orV (zI isD (zI ixD (zH 0) (4:)) (zA .non)) (zI ltD (zH 1) (zI ixD (zH 0) (4:))))))
noncomputable def sN:List D->Option Ret:=runG JZ 2
noncomputable def tW:FS:=(retG (zI jF (zI powD (zI jF (zI yF (zI yV (zH 0) (zI powD (zA (.int 48271)) (zA (.int 9)))) (zI powD (zA (.int 7)) (zA (.int 60)))) (zI yF (zI powD (zA (.int 10)) (zA (.int 61))) (zA (.int 7)))) (zA (.int 2))) (zI yF (zI powD (zA (.int 10)) (zA (.int 60))) (zA (.int 9)))))
noncomputable def fM:List D->Option Ret:=runG tW 1
noncomputable def lB:FS:=(qB (ifG (zP (zI eqD (zH 0) (zA (.int 0)))) (qB (jU 4 (qG 1 fM (zE (zH 4) zZ)))
 (jU 0 (zI yF (4:) (zI jF (zI qW (zH 4) (zA (.int 3))) (zI ixD (mkL (qK (zE (zA (.int 50)) (zE (zI powD (zA (.int 10)) (zA (.int 9))) (zE (zI powD (zA (.int 10)) (zA (.int 60))) zZ))))) (zI jF (zH 4) (zA (.int 3)))))))) qH)
 (qB (appG 3 (zI jF (zH 0) (zH 1)))
 (jU 0 (zI qW (zH 0) (zH 1)))))
noncomputable def rW:FS:=(qB (setOG 3 (qK zZ))
 (qB (jU 4 (qG 1 fM (zE (zH 0) zZ)))
 (qB (forG (rng1 (qL 2)) (zU 5) lB)
 (retXG 3))))
noncomputable def fZ:List D->Option Ret:=runG rW 6
noncomputable def FI:FS:=(retG (zI yV (zI qW (zI yF (zH 0) (4:)) (zA (.int 2))) (zI subD (4:) (zI yV (zA (.int 2)) (zI jF (zH 0) (zA (.int 2)))))))
noncomputable def lA:List D->Option Ret:=runG FI 1
end
namespace FL
open PySem PySem.Spec PyProof.Rows L2
abbrev Spn:=Option Int×Option Int
noncomputable def spD(s:Spn):D:=.tup [oi s.1,oi s.2]
noncomputable def oS:Option Spn->D
 |none=>.non
 |some s=>spD s
noncomputable def hasS(s:Spn)(p:Int):Bool:=(match s.1 with | none=>true | some a=>decide (a<=p))&&(match s.2 with | none=>true | some b=>decide (p<b))
def okS(s:Spn):Prop:=∀a b,s.1=some a->s.2=some b->a<b
@[simp] theorem spD_0(s:Spn):ixD (spD s) (.int 0)=some (oi s.1):=ixT0 _ _
@[simp] theorem spD_1(s:Spn):ixD (spD s) (.int 1)=some (oi s.2):=ixT1 _ _ _
@[simp] theorem spD_flat(s:Spn):flat (spD s)=true:=by simp[spD]
@[simp] theorem spD_isD(s:Spn):isD (spD s) .non=some (.bl false):=rfl
@[simp] theorem spD_notD(s:Spn):notD (spD s) .non=some (.bl true):=rfl
@[simp] theorem spD_asLT(s:Spn):asLT (spD s)=some [oi s.1,oi s.2]:=rfl
@[simp] theorem oS_isD(o:Option Spn):isD (oS o) .non=some (.bl o.isNone):=by cases o<;>rfl
@[simp] theorem oS_notD(o:Option Spn):notD (oS o) .non=some (.bl o.isSome):=by cases o<;>rfl
theorem has_eq(s:Spn)(p:Int):rS [spD s,.int p]=some (.val (.bl (hasS s p))):=by
 obtain⟨a,b⟩:=s;unfold rS runG FH;cases a<;>cases b<;>simp[args,hasS]
theorem length_eq(s:Spn):CT [spD s]=some (.val (oi (match s.1,s.2 with | some a,some b=>some (b-a) | _,_=>none))):=by
 obtain⟨a,b⟩:=s;unfold CT runG CS;cases a<;>cases b<;>simp[args]
noncomputable def lateL:Option Int->Option Int->Option Int
 |none,b=>b
 |a,none=>a
 |some a,some b=>some (max a b)
noncomputable def vH:Option Int->Option Int->Option Int
 |none,b=>b
 |a,none=>a
 |some a,some b=>some (min a b)
noncomputable def sM:Option Int->Option Int->Bool
 |some b,some l=>decide (b<=l)
 |_,_=>false
theorem aFp(a b:Option Int):hR [oi a,oi b]=some (.val (oi (lateL a b))):=by
 unfold hR runG nR;cases a<;>cases b<;>simp[args,lateL]
theorem aGj(a b:Option Int):eT [oi a,oi b]=some (.val (oi (vH a b))):=by
 unfold eT runG iC;cases a<;>cases b<;>simp[args,vH]
theorem aBl(a b:Option Int):gQ [oi a,oi b]=some (.val (.bl (sM a b))):=by
 unfold gQ runG mN;cases a<;>cases b<;>simp[args,sM]
noncomputable def meetS(s t:Spn):Option Spn:=if sM (vH s.2 t.2) (lateL s.1 t.1)=true then none else some (lateL s.1 t.1,vH s.2 t.2)
theorem meet_eq(s t:Spn):nI [spD s,spD t]=some (.val (oS (meetS s t))):=by
 unfold nI runG BB;cases h:sM (vH s.2 t.2) (lateL s.1 t.1)<;>simp[args,aFp,aGj,aBl,h,meetS,oS,spD]
def HasS(s:Spn)(p:Int):Prop:=(∀a,s.1=some a->a<=p)/\(∀b,s.2=some b->p<b)
theorem xE(s:Spn)(p:Int):hasS s p=true↔HasS s p:=by
 obtain⟨a,b⟩:=s;cases a<;>cases b<;>simp[hasS,HasS]
theorem RK{a c:Option Int}{p:Int}:(∀x,lateL a c=some x->x<=p)↔(∀x,a=some x->x<=p)/\(∀x,c=some x->x<=p):=by
 cases a<;>cases c<;>simp[lateL]
 omega
theorem RY{a c:Option Int}{p:Int}:(∀x,vH a c=some x->p<x)↔(∀x,a=some x->p<x)/\(∀x,c=some x->p<x):=by
 cases a<;>cases c<;>simp[vH]
 omega
theorem aBk{b l:Option Int}{p:Int}(h:sM b l=true)(h1:∀x,l=some x->x<=p)(h2:∀x,b=some x->p<x):False:=by
 cases b<;>cases l<;>simp[sM] at h
 have:=h1 _ rfl;have:=h2 _ rfl;omega
noncomputable def hasO(o:Option Spn)(p:Int):Bool:=match o with
 |none=>false
 |some u=>hasS u p
theorem MC(s t:Spn)(p:Int):hasO (meetS s t) p=(hasS s p&&hasS t p):=by
 rw[gS,bX,xE,xE];unfold meetS
 by_cases h:sM (vH s.2 t.2) (lateL s.1 t.1)=true
 . rw[if_pos h];refine⟨fun z=>by simp[hasO] at z,fun z=>(aBk h (RK.mpr ⟨z.1.1,z.2.1⟩) (RY.mpr ⟨z.1.2,z.2.2⟩)).elim⟩
 . rw[if_neg h];show hasS _ p=true↔_;rw[xE];show(∀x,lateL s.1 t.1=some x->x<=p)/\(∀x,vH s.2 t.2=some x->p<x)↔_;rw[RK,RY];exact⟨fun⟨⟨a,b⟩,c,d⟩=>⟨⟨a,c⟩,b,d⟩,fun⟨⟨a,c⟩,b,d⟩=>⟨⟨a,b⟩,c,d⟩⟩
theorem aFj{s t u:Spn}(h:meetS s t=some u):okS u:=by
 unfold meetS at h
 split at h
 . cases h
 . rename_i hn;cases h;intro a b h1 h2;simp only at h1 h2;rw[h1,h2] at hn;simp[sM] at hn;omega
open Builtin.Int (intBits)
noncomputable def cel(ns:List Int)(k:Nat):Int:=ns.getD k 0
theorem aGt(ns:List Int){k:Int}(h:0<=k):dQ [.lst (ns.map D.int),.int k]=some (.val (.int (ns.getD k.toNat 0))):=by
 unfold dQ runG pU
 by_cases hk:k<(ns.length:Int)
 . have hl : k < ((ns.map D.int).length : Int) := by simpa using hk
   have e:(ns.map D.int)[k.toNat]?=some (.int (ns.getD k.toNat 0)):=by
    have:k.toNat<ns.length:=by omega
    simp[this,List.getD]
   simp[args,hk,jL _ h hl,e]
 . have:ns.getD k.toNat 0=0:=by
    have:ns.length<=k.toNat:=by omega
    simp[List.getD,bW this]
   rw[this];simp[args,hk]
theorem OK(ns:List Int)(k:Nat):dQ [.lst (ns.map D.int),.int (k:Int)]=some (.val (.int (cel ns k))):=aGt ns (k:=(k:Int)) (by omega)
theorem MJ{a b:Int}{m:Nat}(hb:0<=b)(h:intBits a<=m):intBits (a/b)<=m:=by
 rw[<- KJ _ hb];exact bits_fdiv h
theorem jO{a:Int}{m:Nat}(h:a.natAbs<2 ^ m):intBits a<=m:=intBits_le_iff.mpr h
theorem MK{ns:List Int}(hb:∀c∈ns,intBits c<=1048576)(k:Nat):intBits (cel ns k)<=1048576:=by
 show intBits (ns.getD k 0)<=1048576
 by_cases h:k<ns.length
 . have : ns.getD k 0 = ns[k] := by simp [List.getD, h]
   rw[this];exact hb _ (pX h)
 . have : ns.getD k 0 = 0 := by simp [List.getD, bW (Nat.le_of_not_lt h)]
   rw[this];decide
inductive Dd where
 |put (s:Spn) (v:Option Int) | widen (a m:Int) | narrow (a m:Int) | move (f:Int) | stretch (t b:Int) | mirror
noncomputable def insD:Dd->D
 | .put s v=>.ins 0 [spD s,oi v]
 | .widen a m=>.ins 1 [.non,.int a,.int m]
 | .narrow a m=>.ins 2 [.non,.int a,.int m]
 | .move f=>.ins 3 [.non,.int f]
 | .stretch t b=>.ins 4 [.non,.int t,.int b]
 | .mirror=>.ins 5 [.non]
noncomputable def okD:Dd->Prop
 | .put s _=>okS s
 | .widen _ m=>0<=m
 | .narrow _ m=>0<=m
 | .stretch t b=>(1<=t/\t<=1000)/\1<=b/\b<=1000
 |_=>True
noncomputable def cameF:Dd->Int->Option Int
 | .put s _,p=>if hasS s p=true then none else some p
 | .widen a m,p=>if p<a then some p else if p<a+m then none else some (p-m)
 | .narrow a m,p=>some (if p<a then p else p+m)
 | .move f,p=>some (p-f)
 | .stretch t b,p=>some (p*b/t)
 | .mirror,p=>some (-p)
noncomputable def fR(t b p:Int):Int:=-(-p*t/b)
noncomputable def wentF:Dd->Int->Option Int
 | .put _ _,p=>some p
 | .widen a m,p=>some (if p<a then p else p+m)
 | .narrow a m,p=>if p<a then some p else if p<a+m then none else some (p-m)
 | .move f,p=>some (p+f)
 | .stretch t b,p=>if fR t b p*b/t=p then some (fR t b p) else none
 | .mirror,p=>some (-p)
@[simp] theorem eqS_put_put:eqD (.str "put") (.str "put")=some (.bl true):=by kernel_rfl
@[simp] theorem neS_put_put:neD (.str "put") (.str "put")=some (.bl false):=by kernel_rfl
@[simp] theorem eqS_put_widen:eqD (.str "put") (.str "widen")=some (.bl false):=by kernel_rfl
@[simp] theorem neS_put_widen:neD (.str "put") (.str "widen")=some (.bl true):=by kernel_rfl
@[simp] theorem aGd:eqD (.str "put") (.str "narrow")=some (.bl false):=by kernel_rfl
@[simp] theorem aFd:neD (.str "put") (.str "narrow")=some (.bl true):=by kernel_rfl
@[simp] theorem eqS_put_move:eqD (.str "put") (.str "move")=some (.bl false):=by kernel_rfl
@[simp] theorem neS_put_move:neD (.str "put") (.str "move")=some (.bl true):=by kernel_rfl
@[simp] theorem aCd:eqD (.str "put") (.str "stretch")=some (.bl false):=by kernel_rfl
@[simp] theorem aBw:neD (.str "put") (.str "stretch")=some (.bl true):=by kernel_rfl
@[simp] theorem aGe:eqD (.str "put") (.str "mirror")=some (.bl false):=by kernel_rfl
@[simp] theorem aFe:neD (.str "put") (.str "mirror")=some (.bl true):=by kernel_rfl
@[simp] theorem eqS_widen_put:eqD (.str "widen") (.str "put")=some (.bl false):=by kernel_rfl
@[simp] theorem neS_widen_put:neD (.str "widen") (.str "put")=some (.bl true):=by kernel_rfl
@[simp] theorem aCb:eqD (.str "widen") (.str "widen")=some (.bl true):=by kernel_rfl
@[simp] theorem aBu:neD (.str "widen") (.str "widen")=some (.bl false):=by kernel_rfl
@[simp] theorem aAu:eqD (.str "widen") (.str "narrow")=some (.bl false):=by kernel_rfl
@[simp] theorem ZT:neD (.str "widen") (.str "narrow")=some (.bl true):=by kernel_rfl
@[simp] theorem aGc:eqD (.str "widen") (.str "move")=some (.bl false):=by kernel_rfl
@[simp] theorem aFc:neD (.str "widen") (.str "move")=some (.bl true):=by kernel_rfl
@[simp] theorem XR:eqD (.str "widen") (.str "stretch")=some (.bl false):=by kernel_rfl
@[simp] theorem WV:neD (.str "widen") (.str "stretch")=some (.bl true):=by kernel_rfl
@[simp] theorem aAv:eqD (.str "widen") (.str "mirror")=some (.bl false):=by kernel_rfl
@[simp] theorem ZU:neD (.str "widen") (.str "mirror")=some (.bl true):=by kernel_rfl
@[simp] theorem aGf:eqD (.str "narrow") (.str "put")=some (.bl false):=by kernel_rfl
@[simp] theorem aFf:neD (.str "narrow") (.str "put")=some (.bl true):=by kernel_rfl
@[simp] theorem aAx:eqD (.str "narrow") (.str "widen")=some (.bl false):=by kernel_rfl
@[simp] theorem ZW:neD (.str "narrow") (.str "widen")=some (.bl true):=by kernel_rfl
@[simp] theorem XT:eqD (.str "narrow") (.str "narrow")=some (.bl true):=by kernel_rfl
@[simp] theorem WY:neD (.str "narrow") (.str "narrow")=some (.bl false):=by kernel_rfl
@[simp] theorem aCe:eqD (.str "narrow") (.str "move")=some (.bl false):=by kernel_rfl
@[simp] theorem aBx:neD (.str "narrow") (.str "move")=some (.bl true):=by kernel_rfl
@[simp] theorem UW:eqD (.str "narrow") (.str "stretch")=some (.bl false):=by kernel_rfl
@[simp] theorem UB:neD (.str "narrow") (.str "stretch")=some (.bl true):=by kernel_rfl
@[simp] theorem XU:eqD (.str "narrow") (.str "mirror")=some (.bl false):=by kernel_rfl
@[simp] theorem WZ:neD (.str "narrow") (.str "mirror")=some (.bl true):=by kernel_rfl
@[simp] theorem eqS_move_put:eqD (.str "move") (.str "put")=some (.bl false):=by kernel_rfl
@[simp] theorem neS_move_put:neD (.str "move") (.str "put")=some (.bl true):=by kernel_rfl
@[simp] theorem aGg:eqD (.str "move") (.str "widen")=some (.bl false):=by kernel_rfl
@[simp] theorem aFg:neD (.str "move") (.str "widen")=some (.bl true):=by kernel_rfl
@[simp] theorem aCf:eqD (.str "move") (.str "narrow")=some (.bl false):=by kernel_rfl
@[simp] theorem aBy:neD (.str "move") (.str "narrow")=some (.bl true):=by kernel_rfl
@[simp] theorem eqS_move_move:eqD (.str "move") (.str "move")=some (.bl true):=by kernel_rfl
@[simp] theorem neS_move_move:neD (.str "move") (.str "move")=some (.bl false):=by kernel_rfl
@[simp] theorem aAy:eqD (.str "move") (.str "stretch")=some (.bl false):=by kernel_rfl
@[simp] theorem ZX:neD (.str "move") (.str "stretch")=some (.bl true):=by kernel_rfl
@[simp] theorem aCg:eqD (.str "move") (.str "mirror")=some (.bl false):=by kernel_rfl
@[simp] theorem aBz:neD (.str "move") (.str "mirror")=some (.bl true):=by kernel_rfl
@[simp] theorem aCc:eqD (.str "stretch") (.str "put")=some (.bl false):=by kernel_rfl
@[simp] theorem aBv:neD (.str "stretch") (.str "put")=some (.bl true):=by kernel_rfl
@[simp] theorem XS:eqD (.str "stretch") (.str "widen")=some (.bl false):=by kernel_rfl
@[simp] theorem WX:neD (.str "stretch") (.str "widen")=some (.bl true):=by kernel_rfl
@[simp] theorem UU:eqD (.str "stretch") (.str "narrow")=some (.bl false):=by kernel_rfl
@[simp] theorem TZ:neD (.str "stretch") (.str "narrow")=some (.bl true):=by kernel_rfl
@[simp] theorem aAw:eqD (.str "stretch") (.str "move")=some (.bl false):=by kernel_rfl
@[simp] theorem ZV:neD (.str "stretch") (.str "move")=some (.bl true):=by kernel_rfl
@[simp] theorem SU:eqD (.str "stretch") (.str "stretch")=some (.bl true):=by kernel_rfl
@[simp] theorem SS:neD (.str "stretch") (.str "stretch")=some (.bl false):=by kernel_rfl
@[simp] theorem UV:eqD (.str "stretch") (.str "mirror")=some (.bl false):=by kernel_rfl
@[simp] theorem UA:neD (.str "stretch") (.str "mirror")=some (.bl true):=by kernel_rfl
@[simp] theorem aGh:eqD (.str "mirror") (.str "put")=some (.bl false):=by kernel_rfl
@[simp] theorem aFh:neD (.str "mirror") (.str "put")=some (.bl true):=by kernel_rfl
@[simp] theorem aAz:eqD (.str "mirror") (.str "widen")=some (.bl false):=by kernel_rfl
@[simp] theorem ZY:neD (.str "mirror") (.str "widen")=some (.bl true):=by kernel_rfl
@[simp] theorem XV:eqD (.str "mirror") (.str "narrow")=some (.bl false):=by kernel_rfl
@[simp] theorem XA:neD (.str "mirror") (.str "narrow")=some (.bl true):=by kernel_rfl
@[simp] theorem aCh:eqD (.str "mirror") (.str "move")=some (.bl false):=by kernel_rfl
@[simp] theorem aCa:neD (.str "mirror") (.str "move")=some (.bl true):=by kernel_rfl
@[simp] theorem UX:eqD (.str "mirror") (.str "stretch")=some (.bl false):=by kernel_rfl
@[simp] theorem UC:neD (.str "mirror") (.str "stretch")=some (.bl true):=by kernel_rfl
@[simp] theorem XW:eqD (.str "mirror") (.str "mirror")=some (.bl true):=by kernel_rfl
@[simp] theorem XB:neD (.str "mirror") (.str "mirror")=some (.bl false):=by kernel_rfl
@[simp] theorem fldG_eq(ix:List (Nat×Nat))(f:FE)(ds:List Sl):fldG ix f ds=(f ds).bind (fldD ix):=rfl
@[simp] theorem fldD_ins(ix:List (Nat×Nat))(t:Nat)(es:List D):fldD ix (.ins t es)=(ix.lookup t).bind fun i=>es[i]?:=rfl
@[simp] theorem methV_eq(n:Nat)(cs:List Nat)(F:Nat->List D->Option Ret)(fo:FE)(g:FA)(ds:List Sl):methV n cs F fo g ds=(fo ds).bind fun o=>(g ds).bind fun l=>(methR n cs F o l).bind retV:=rfl
@[simp] theorem methF_eq(n:Nat)(cs:List Nat)(F:Nat->List D->Option Ret)(fo:FE)(g:FA)(ds:List Sl):methF n cs F fo g ds=(fo ds).bind fun o=>(g ds).bind fun l=>(methR n cs F o l).bind retF:=rfl
@[simp] theorem makeG_eq(t n:Nat)(G:List D->Option (List D))(g:FA)(ds:List Sl):makeG t n G g ds=(g ds).bind fun l=>if l.length=n/\flats l=true then (G l).map (D.ins t) else none:=rfl
@[simp] theorem retDG_eq(f:FE)(ds:List Sl):retDG f ds=(f ds).map fun d=>.rt (.val d):=rfl
theorem aFm{β : Type}(a:Nat)(b : β)(l:List (Nat×β)):((a,b)::l).lookup a=some b:=by simp[List.lookup]
theorem aGs{m:Int}(h:0<=m):fV [.int m]=some (.val .non):=by
 unfold fV runG mO;have : ¬m<0:=by omega
 simp[args,this]
theorem MI{m:Int}(h:1<=m)(h2:m<=1000):fF [.int m]=some (.val .non):=by
 unfold fF runG lK;have h1 : ¬m<1:=by omega
 have h3 : ¬1000<m:=by omega
 simp[args,h1,h3]
theorem aFs(s:Spn)(v:Option Int):eP [spD s,oi v]=some [spD s,oi v]:=by
 obtain⟨a,b⟩:=s;unfold eP runN kX;simp[argsN,seqN,fldN,spD]
theorem vC:bT []=some [.non]:=by
 unfold bT runN iR;simp[argsN,seqN,fldN]
theorem HG{a m:Int}(h:0<=m):cI [.int a,.int m]=some [.non,.int a,.int m]:=by
 unfold cI runN gE;simp[argsN,seqN,fldN,dropN,supN,aGs h,vC]
theorem aAq{a:Int}: eK [.int a]=some [.non,.int a]:=by
 unfold eK runN iP;simp[argsN,seqN,fldN,dropN,supN,vC]
theorem NT{a m:Int}(h:1<=a/\a<=1000)(h2:1<=m/\m<=1000):dO [.int a,.int m]=some [.non,.int a,.int m]:=by
 unfold dO runN gR;simp[argsN,seqN,fldN,dropN,supN,MI h.1 h.2,MI h2.1 h2.2,vC]
end FL
namespace FL
open PySem PySem.Spec PyProof.Rows L2
abbrev Rw:=Option Int×Option Int×Option Int
noncomputable def rwD(r:Rw):D:=.tup [oi r.1,oi r.2.1,oi r.2.2]
noncomputable def has3(r:Rw)(p:Int):Bool:=hasS (r.1,r.2.1) p
def ok3(r:Rw):Prop:=okS (r.1,r.2.1)
@[simp] theorem rwD_0(r:Rw):ixD (rwD r) (.int 0)=some (oi r.1):=ixT0 _ _
@[simp] theorem rwD_1(r:Rw):ixD (rwD r) (.int 1)=some (oi r.2.1):=ixT1 _ _ _
@[simp] theorem rwD_2(r:Rw):ixD (rwD r) (.int 2)=some (oi r.2.2):=ixT2 _ _ _ _
@[simp] theorem rwD_flat(r:Rw):flat (rwD r)=true:=by simp[rwD]
@[simp] theorem rwD_shal(r:Rw)(n:Nat):shal (n+1) (rwD r)=true:=by simp[rwD]
@[simp] theorem rwD_tupG(h:List D->List Sl->Option (List Sl))(r:Rw)(ds:List Sl):tupG 3 h (rwD r) ds=h [oi r.1,oi r.2.1,oi r.2.2] ds:=by simp[rwD]
@[simp] theorem rwD_eqv(r t:Rw):eqvD (rwD r) (rwD t)=decide (r=t):=by
 obtain⟨a,b,c⟩:=r;obtain⟨x,y,z⟩:=t;rw[gS];simp[rwD]
theorem yP(l:List Rw):flats (l.map rwD)=true:=by
 induction l with
 |nil=>simp
 |cons a r ih=>simp[ih]
theorem kA(n:Nat)(l:List Rw):shals (n+2) (l.map rwD)=true:=LA fun d hd=>by obtain⟨r,_,rfl⟩:=cP.mp hd;simp
theorem OG:∀a b:List Rw,eqvs (a.map rwD) (b.map rwD)=decide (a=b)
 |[],[]=>by simp
 |[],y::b=>by simp
 |x::a,[]=>by simp
 | x :: a, y :: b => by
   simp only[aO,MF,rwD_eqv,OG a b];rw[gS];simp
theorem eqD_rw(a b:List Rw):eqD (.lst (a.map rwD)) (.lst (b.map rwD))=some (.bl (decide (a=b))):=by rw[UY (by simpa using kA 38 a) (by simpa using kA 38 b),AU,OG]
theorem neD_rw(a b:List Rw):neD (.lst (a.map rwD)) (.lst (b.map rwD))=some (.bl (!decide (a=b))):=by rw[BS (by simpa using kA 38 a) (by simpa using kA 38 b),AU,OG]
theorem IG(a:List Rw):eqD (.lst (a.map rwD)) (.lst [])=some (.bl a.isEmpty):=by
 have:=eqD_rw a [];simp only[cH] at this;rw[this];cases a<;>simp
theorem yZ(a:List Rw):neD (.lst (a.map rwD)) (.lst [])=some (.bl (!a.isEmpty)):=by
 have:=neD_rw a [];simp only[cH] at this;rw[this];cases a<;>simp
theorem HD{n:Nat}(h:0<n):ixN n (-1)=some (n-1):=by
 unfold ixN;rw[if_neg (by decide),if_pos (by omega)];congr 1;omega
def ahead(a b:Rw):Prop:=∃x y,a.2.1=some x/\b.1=some y/\x<=y
structure Ord(rows:List Rw):Prop where
 ok:∀r∈rows,ok3 r
 pw:rows.Pairwise ahead
def Tel(rows:List Rw)(p v:Int):Prop:=∃r∈rows,has3 r p=true/\r.2.2=some v
noncomputable def knit1(acc:List Rw)(r:Rw):List Rw:=match r.2.2 with
 |none=>acc
 | some v => match acc with
   |[]=>[r]
   |q::t=>if q.2.1=r.1/\q.2.2=some v then (q.1,r.2.1,some v)::t else r::q::t
noncomputable def knitF(rows:List Rw):List Rw:=(rows.foldl knit1 []).reverse
theorem aAk(acc:List Rw)(r:Rw)(R a b c:Sl)(hl:acc.length<16777216) :
  nS [R,.own (acc.map rwD).reverse,.v (oi r.1),.v (oi r.2.1),.v (oi r.2.2)]=some (.nx [R,.own ((knit1 acc r).map rwD).reverse,.v (oi r.1),.v (oi r.2.1),.v (oi r.2.2)]) ∨
  nS [R,.own (acc.map rwD).reverse,.v (oi r.1),.v (oi r.2.1),.v (oi r.2.2)]=some (.ct [R,.own ((knit1 acc r).map rwD).reverse,.v (oi r.1),.v (oi r.2.1),.v (oi r.2.2)]):=by
 obtain⟨lo,bh,v⟩:=r;unfold nS;cases v with
 |none=>right;simp[knit1]
 | some v =>
   left;cases acc with
   | nil =>
     have e:D.tup [oi lo,oi bh,.int v]=rwD (lo,bh,some v):=rfl;simp[knit1,e]
   | cons q t =>
     have last:ixD (.lst ((t.map rwD).reverse++[rwD q])) (.int (-1))=some (rwD q):=wS _ _;have le:ixN (t.length+1) (-1)=some t.length:=by rw[HD (by omega)];rfl
     have hl':t.length+1<16777216:=by simpa using hl
     have e2:∀x:Option Int,eqD (oi x) (D.int v)=some (.bl (decide (x=some v))):=fun x=>aGi x (some v)
     by_cases h1:q.2.1=lo
     . by_cases h2 : q.2.2 = some v
       . have e : D.tup [oi q.1, oi bh, .int v]=rwD (q.1, bh, some v):= rfl;simp[knit1,h1,h2,last,le,e2,e]
       . have e : D.tup [oi lo, oi bh, .int v]=rwD (lo, bh, some v):= rfl;simp[knit1,h1,h2,last,le,e2,hl',e]
     . have e : D.tup [oi lo, oi bh, .int v]=rwD (lo, bh, some v):= rfl;simp[knit1,h1,last,le,hl',e]
theorem MA(acc:List Rw)(r:Rw):(knit1 acc r).length<=acc.length+1:=by
 unfold knit1
 split
 . omega
 . split
   . simp
   . split<;>simp
theorem LZ(R:Sl):∀(rows acc:List Rw) (a b c:Sl),acc.length+rows.length<16777216 →
  ∃a' b' c',qZ (tupG 3 (zY (zU 2) (zY (zU 3) (zY (zU 4) tgNil)))) nS (rows.map rwD) [R,.own (acc.map rwD).reverse,a,b,c]=some (.nx [R,.own ((rows.foldl knit1 acc).map rwD).reverse,a',b',c'])
 |[],acc,a,b,c,_=>⟨a,b,c,rfl⟩
 | r :: rows, acc, a, b, c, h => by
   simp only[aJ] at h;have hl:=MA acc r;obtain⟨a',b',c',ih⟩:=LZ R rows (knit1 acc r) (.v (oi r.1)) (.v (oi r.2.1)) (.v (oi r.2.2)) (by omega);refine⟨a',b',c',?_⟩;rcases aAk acc r R a b c (by omega) with e | e<;>simp[qZ,e,ih]
theorem EZ(rows:List Rw)(h:rows.length<16777216):fU [.lst (rows.map rwD)]=some (.fresh ((knitF rows).map rwD)):=by
 obtain⟨a,b,c,e⟩:=LZ (.v (.lst (rows.map rwD))) rows [] .no .no .no (by simpa using h);simp only[List.reverse_nil,cH] at e;unfold fU runG BC;have fl:=yP (knitF rows);unfold knitF at fl ⊢;rw[aCk] at fl ⊢;simp[args,e,fl]
theorem wX(rows:List Rw):(knitF rows).length<=rows.length:=by
 unfold knitF;rw[cZ]
 have:∀(rows acc:List Rw),(rows.foldl knit1 acc).length<=acc.length+rows.length:=by
  intro rows
  induction rows with
  |nil=>intro acc;simp
  | cons r t ih =>
    intro acc;have:=ih (knit1 acc r);have:=MA acc r;simp only[kM,aJ];omega
 have:=this rows [];simpa using this
noncomputable def adjOk:List Rw->Prop
 |b::a::t=>¬(a.2.1=b.1/\a.2.2=b.2.2)/\adjOk (a::t)
 |_=>True
structure KI(acc:List Rw):Prop where
 ok:∀r∈acc,ok3 r
 pw:acc.Pairwise fun b a=>ahead a b
 val:∀r∈acc,r.2.2≠none
 adj:adjOk acc
theorem KI.nil:KI []:=⟨(fun _ h=>nomatch h),List.Pairwise.nil,(fun _ h=>nomatch h),trivial⟩
theorem jX(r:Rw)(p:Int):has3 r p=true↔(∀a,r.1=some a->a<=p)/\(∀b,r.2.1=some b->p<b):=xE _ _
theorem UH{acc:List Rw}{r:Rw}(k:KI acc)(ho:ok3 r)(ha:∀a∈acc,ahead a r) :
  KI (knit1 acc r)/\(∀r',ahead r r'->(∀a∈acc,ahead a r')->∀a∈knit1 acc r,ahead a r')/\∀p v,Tel (knit1 acc r) p v↔Tel acc p v\/(has3 r p=true/\r.2.2=some v):=by
 obtain⟨lo,bh,w⟩:=r;cases w with
 | none =>
   refine⟨k,fun r' _ h=>h,fun p v=>⟨.inl,fun h=>h.elim id fun z=>by simp at z⟩⟩
 | some w =>
   cases acc with
   | nil =>
     refine⟨⟨?_,?_,?_,trivial⟩,?_,?_⟩
     . intro x hx;simp[knit1] at hx;subst hx;exact ho
     . simp[knit1]
     . intro x hx;simp[knit1] at hx;subst hx;simp
     . intro r' h1 _ a h;simp[knit1] at h;subst h;exact h1
     . intro p v;simp[knit1,Tel]
   | cons q t =>
     obtain⟨x,y,hx,hy,hxy⟩:=ha q aN;simp only at hy;have pw:=bH.mp k.pw
     by_cases hm:q.2.1=lo/\q.2.2=some w
     . have e : knit1 (q :: t) (lo, bh, some w) = (q.1, bh, some w) :: t := by simp [knit1, hm.1, hm.2]
       rw[e]
       have exy:x=y:=by
        have:=hm.1;rw[hx,hy] at this;exact Option.some.inj this
       have hn:∀p,has3 (q.1,bh,some w) p=true↔has3 q p=true\/has3 (lo,bh,some w) p=true:=by
        intro p;rw[jX,jX,jX];simp only;constructor
        . rintro ⟨h1, h2⟩
          by_cases hp:p<x
          . exact .inl ⟨h1,fun b hb=>by rw[hx] at hb;cases hb;exact hp⟩
          . exact .inr ⟨fun a h=>by rw[hy] at h;cases h;omega,h2⟩
        . rintro (⟨h1, h2⟩ | ⟨h1, h2⟩)
          . refine⟨h1, fun b hb => ?_⟩;have:=h2 x hx;have:=ho y b hy hb;omega
          . refine⟨fun a h => ?_, h2⟩;have:=k.ok q aN a x h hx;have:=h1 y hy;omega
       refine⟨⟨?_,?_,?_,?_⟩,?_,?_⟩
       . intro z hz;rcases aD.mp hz with rfl | hz
         . intro a b h1 h2;have:=k.ok q aN a x h1 hx;have:=ho y b hy h2;omega
         . exact k.ok z (aG _ hz)
       . refine bH.mpr ⟨fun a h => ?_, pw.2⟩;exact pw.1 a h
       . intro z hz;rcases aD.mp hz with rfl | hz
         . simp
         . exact k.val z (aG _ hz)
       . have ka := k.adj;cases t with
         |nil=>trivial
         | cons a t =>
           refine⟨fun h=>ka.1 ⟨h.1,?_⟩,ka.2⟩;rw[hm.2];exact h.2
       . intro r' h1 h2 a h;rcases aD.mp h with rfl | h
         . exact h1
         . exact h2 a (aG _ h)
       . intro p v;constructor
         . rintro ⟨z, hz, h1, h2⟩;rcases aD.mp hz with rfl | hz
           . rcases (hn p).mp h1 with h3 | h3
             . exact .inl ⟨q,aN,h3,hm.2.trans h2⟩
             . exact .inr ⟨h3,h2⟩
           . exact .inl ⟨z,aG _ hz,h1,h2⟩
         . rintro (⟨z, hz, h1, h2⟩ | ⟨h1, h2⟩)
           . rcases aD.mp hz with rfl | hz
             . exact⟨_,aN,(hn p).mpr (.inl h1),by rw[hm.2] at h2;exact h2⟩
             . exact⟨z,aG _ hz,h1,h2⟩
           . exact⟨_,aN,(hn p).mpr (.inr h1),h2⟩
     . have e : knit1 (q :: t) (lo, bh, some w) = (lo, bh, some w) :: q :: t := by simp only [knit1]; rw [if_neg hm]
       rw[e];refine⟨⟨?_,bH.mpr ⟨ha,k.pw⟩,?_,hm,k.adj⟩,?_,?_⟩
       . intro z hz;rcases aD.mp hz with rfl | hz
         . exact ho
         . exact k.ok z hz
       . intro z hz;rcases aD.mp hz with rfl | hz
         . simp
         . exact k.val z hz
       . intro r' h1 h2 a h;rcases aD.mp h with rfl | h
         . exact h1
         . exact h2 a h
       . intro p v;constructor
         . rintro ⟨z, hz, h1, h2⟩;rcases aD.mp hz with rfl | hz
           . exact .inr ⟨h1,h2⟩
           . exact .inl ⟨z,hz,h1,h2⟩
         . rintro (⟨z, hz, h1, h2⟩ | ⟨h1, h2⟩)
           . exact⟨z,aG _ hz,h1,h2⟩
           . exact⟨_,aN,h1,h2⟩
theorem BU:∀(rows acc:List Rw),KI acc->Ord rows->(∀a∈acc,∀r∈rows,ahead a r)->KI (rows.foldl knit1 acc)/\∀p v,Tel (rows.foldl knit1 acc) p v↔Tel acc p v\/Tel rows p v
 |[],acc,k,_,_=>⟨k,fun p v=>⟨.inl,fun h=>h.elim id fun⟨r,hr,_⟩=>nomatch hr⟩⟩
 | r :: rows, acc, k, o, h => by
   have pw:=bH.mp o.pw;obtain⟨k1,h1,t1⟩:=UH k (o.ok r aN) fun a ha=>h a ha r aN;obtain⟨k2,t2⟩:=BU rows (knit1 acc r) k1 ⟨fun z hz=>o.ok z (aG _ hz),pw.2⟩ fun a ha r' hr'=>h1 r' (pw.1 r' hr') (fun b hb=>h b hb r' (aG _ hr')) a ha;refine⟨k2,fun p v=>?_⟩;show Tel (rows.foldl knit1 (knit1 acc r)) p v↔_;rw[t2,t1];constructor
   . rintro ((h | ⟨h, e⟩) | ⟨z, hz, h⟩)
     . exact .inl h
     . exact .inr ⟨r,aN,h,e⟩
     . exact .inr ⟨z,aG _ hz,h⟩
   . rintro (h' | ⟨z, hz, h'⟩)
     . exact .inl (.inl h')
     . rcases aD.mp hz with rfl | hz
       . exact .inl (.inr h')
       . exact .inr ⟨z,hz,h'⟩
structure MapF(ps:List Rw):Prop where
 ord:Ord ps
 val:∀r∈ps,r.2.2≠none
 adj:∀(i:Nat) (a b:Rw),ps[i]?=some a->ps[i+1]?=some b->¬(a.2.1=b.1/\a.2.2=b.2.2)
theorem MR:∀{l:List Rw},adjOk l->∀(i:Nat) (b a:Rw),l[i]?=some b->l[i+1]?=some a->¬(a.2.1=b.1/\a.2.2=b.2.2)
 |[],_,i,b,a,e,_=>by simp at e
 |[x],_,i,b,a,e,e2=>by simp at e2
 | x :: y :: t, h, 0, b, a, e, e2 => by
   simp at e e2;subst e e2;exact h.1
 |x::y::t,h,i+1,b,a,e,e2=>MR h.2 i b a (by simpa using e) (by simpa using e2)
theorem KI.map{acc:List Rw}(k:KI acc):MapF acc.reverse:=by
 refine⟨⟨fun r hr=>k.ok r (dL.mp hr),SN.mpr k.pw⟩,fun r hr=>k.val r (dL.mp hr),fun i a b h1 h2=>?_⟩;have l2:=(aV.mp h2).1;rw[cZ] at l2;rw[mH (by omega)] at h1 h2;refine MR k.adj (acc.length-1-(i+1)) b a h2 ?_;rw[<- h1];congr 1;omega
theorem DA{l:List Rw}{p v:Int}: Tel l.reverse p v↔Tel l p v:=⟨fun⟨r,h,q⟩=>⟨r,dL.mp h,q⟩,fun⟨r,h,q⟩=>⟨r,dL.mpr h,q⟩⟩
theorem wT{rows:List Rw}(o:Ord rows):MapF (knitF rows):=(BU rows [] KI.nil o (fun _ h=>nomatch h)).1.map
theorem wP{rows:List Rw}(o:Ord rows)(p v:Int):Tel (knitF rows) p v↔Tel rows p v:=by
 unfold knitF;rw[DA,(BU rows [] KI.nil o (fun _ h=>nomatch h)).2];exact⟨fun h=>h.elim (fun⟨r,hr,_⟩=>nomatch hr) id,.inr⟩
noncomputable def valL(rows:List Rw)(p:Int):Option Int:=rows.foldl (fun t r=>if has3 r p=true then r.2.2 else t) none
theorem wQ{a b:Rw}{p:Int}(h:ahead a b)(h1:has3 a p=true)(h2:has3 b p=true):False:=by
 obtain⟨x,y,hx,hy,hxy⟩:=h;rw[jX] at h1 h2;have:=h1.2 x hx;have:=h2.1 y hy;omega
theorem YT{rows:List Rw}{p:Int}(h:∀r∈rows,has3 r p=false)(t:Option Int):rows.foldl (fun t r=>if has3 r p=true then r.2.2 else t) t=t:=by
 induction rows generalizing t with
 |nil=>rfl
 | cons r rows ih =>
   rw[kM,h r aN];exact ih (fun z hz=>h z (aG _ hz)) _
theorem wV{rows:List Rw}(o:Ord rows)(p v:Int):valL rows p=some v↔Tel rows p v:=by
 have key:∀(rows:List Rw),Ord rows->∀t:Option Int,rows.foldl (fun t r=>if has3 r p=true then r.2.2 else t) t=(match rows.find? (fun r=>has3 r p) with | some r=>r.2.2 | none=>t):=by
  intro rows
  induction rows with
  |nil=>intro _ t;rfl
  | cons r rows ih =>
    intro o t;have pw:=bH.mp o.pw;rw[kM];cases h:has3 r p with
    | true =>
      rw[List.find?_cons_of_pos (by exact h)];simp only[if_true]
      exact YT (fun z hz=>by
       cases hz':has3 z p with
       |false=>rfl
       |true=>exact(wQ (pw.1 z hz) h hz').elim) _
    | false =>
      rw[PB (by simpa using h)];simp only[oM,if_false];exact ih ⟨fun z hz=>o.ok z (aG _ hz),pw.2⟩ t
 unfold valL;rw[key rows o none];constructor
 . intro h;cases hf:rows.find? (fun r=>has3 r p) with
   |none=>rw[hf] at h;cases h
   | some r =>
     rw[hf] at h;exact⟨r,iE hf,by simpa using rO hf,h⟩
 . rintro ⟨r, hr, h1, h2⟩;cases hf:rows.find? (fun r=>has3 r p) with
   | none =>
     have:=YN.mp hf r hr;exact(this h1).elim
   | some r' =>
     have h3:has3 r' p=true:=by simpa using rO hf
     have hm:=iE hf
     have:r'=r:=by
      by_cases e:r'=r
      . exact e
      . exfalso;have pw:=o.pw;rcases nA.mp hr with ⟨i,hi,rfl⟩
        rcases nA.mp hm with⟨j,hj,rfl⟩
        rcases aCi i j with hlt | hlt | hlt
        . exact wQ (cS.mp pw i j hi hj hlt) h1 h3
        . subst hlt;exact e rfl
        . exact wQ (cS.mp pw j i hj hi hlt) h3 h1
     rw[this];exact h2
open Builtin.Int (intBits)
structure YO(rows:List Rw)(s:Int):Prop where
 ord:Ord rows
 fin:∀r∈rows,∃lo bh,r.1=some lo/\r.2.1=some bh/\bh<=s
theorem YO.snoc{rows:List Rw}{s lo bh:Int}{v:Option Int}(h:YO rows s)(h1:s<=lo)(h2:lo<bh):YO (rows++[(some lo,some bh,v)]) bh:=by
 refine⟨⟨fun r hr=>?_,?_⟩,fun r hr=>?_⟩
 . rcases bJ.mp hr with hr | hr
   . exact h.ord.ok r hr
   . have : r = (some lo, some bh, v) := by simpa using hr
     subst this;intro a b e1 e2;cases e1;cases e2;exact h2
 . refine iB.mpr ⟨h.ord.pw, gK _ _, fun a ha b hb => ?_⟩;have:b=(some lo,some bh,v):=by simpa using hb
   subst this;obtain⟨x,y,e1,e2,e3⟩:=h.fin a ha;exact⟨y,lo,e2,rfl,by omega⟩
 . rcases bJ.mp hr with hr | hr
   . obtain⟨x, y, e1, e2, e3⟩ := h.fin r hr;exact⟨x,y,e1,e2,by omega⟩
   . have : r = (some lo, some bh, v) := by simpa using hr
     subst this;exact⟨lo,bh,rfl,rfl,pF _⟩
theorem XH(ns:List Int){k:Int}(h0:0<=k)(h1:k<ns.length):ixD (.lst (ns.map D.int)) (.int k)=some (.int (cel ns k.toNat)):=by
 have h3:k.toNat<ns.length:=by omega
 rw[jL _ h0 (by simpa using h1)];simp[h3,cel,List.getD]
theorem LR{r:Rw}{t:List Rw}(h:Ord (r::t)):Ord ((none,r.2)::t):=by
 have pw:=bH.mp h.pw;refine⟨fun z hz=>?_,bH.mpr ⟨pw.1,pw.2⟩⟩;rcases aD.mp hz with rfl | hz
 . intro a b e1 _;cases e1
 . exact h.ok z (aG _ hz)
theorem QV{r:Rw}{t:List Rw}(h:Ord (t++[r])):Ord (t++[(r.1,none,r.2.2)]):=by
 have pw:=iB.mp h.pw;refine⟨fun z hz=>?_,iB.mpr ⟨pw.1,gK _ _,fun a ha b hb=>?_⟩⟩
 . rcases bJ.mp hz with hz | hz
   . exact h.ok z (aW _ hz)
   . have : z = (r.1, none, r.2.2) := by simpa using hz
     subst this;intro a b _ e2;cases e2
 . have : b = (r.1, none, r.2.2) := by simpa using hb
   subst this;exact pw.2.2 a ha r (by simp)
theorem ixN0{n:Nat}(h:0<n):ixN n 0=some 0:=by
 rw[FC (by decide) (by omega)];rfl
theorem vZ{α : Type}{l:List α}{i:Nat}{x : α}(h:l[i]?=some x):l.set i x=l:=by
 obtain⟨hi,rfl⟩:=aV.mp h;exact List.set_getElem_self hi
theorem WP(i:Nat)(T:FT)(ds:List Sl)(rows:List Rw)(t:Bool)(o:Ord rows)(hi:ds[i]?=some (.own (rows.map rwD)))(hT:T ds=some t):∃rows':List Rw,Ord rows'/\rows'.length=rows.length/\(rows'=rows\/∃r r',rows=r::r'/\rows'=(none,r.2)::r') ∧
   (ifG (andT (zP (zI neD (zH i) (mkL (qK zZ)))) T) (putG i (zA (.int 0)) (mkT (qK (zE (zA .non) (zE (zI ixD (zI ixD (zH i) (zA (.int 0))) (4:)) (zE (zI ixD (zI ixD (zH i) (zA (.int 0))) (zA (.int 2))) zZ)))))) qH) ds=some (.nx (ds.set i (.own (rows'.map rwD)))):=by
 have ne:=yZ rows;cases t with
 | true =>
   cases rows with
   | nil =>
     simp at ne hi;exact⟨[],o,rfl,.inl rfl,by simp[hi,ne,vZ hi]⟩
   | cons r t =>
     have e0:D.tup [.non,oi r.2.1,oi r.2.2]=rwD (none,r.2):=rfl;have le:ixN (t.length+1) 0=some 0:=ixN0 (by omega);refine⟨(none,r.2)::t,LR o,by simp,.inr ⟨r,t,rfl,rfl⟩,?_⟩;simp at ne hi;simp[hi,ne,hT,le,e0]
 |false=>exact⟨rows,o,rfl,.inl rfl,by simp[hi,ne,hT,vZ hi]⟩
theorem WQ(i:Nat)(T:FT)(ds:List Sl)(rows:List Rw)(t:Bool)(o:Ord rows)(hi:ds[i]?=some (.own (rows.map rwD)))(hT:T ds=some t):∃rows':List Rw,Ord rows'/\rows'.length=rows.length/\(rows'=rows\/∃r r',rows=r'++[r]/\rows'=r'++[(r.1,none,r.2.2)]) ∧
   (ifG (andT (zP (zI neD (zH i) (mkL (qK zZ)))) T) (putG i (un1 negD (4:)) (mkT (qK (zE (zI ixD (zI ixD (zH i) (un1 negD (4:))) (zA (.int 0))) (zE (zA .non) (zE (zI ixD (zI ixD (zH i) (un1 negD (4:))) (zA (.int 2))) zZ)))))) qH) ds=some (.nx (ds.set i (.own (rows'.map rwD)))):=by
 have ne:=yZ rows;cases t with
 | true =>
   rcases List.eq_nil_or_concat rows with rfl | ⟨t,r,rfl⟩
   . simp at ne hi;exact⟨[],o,rfl,.inl rfl,by simp[hi,ne,vZ hi]⟩
   . rw [List.concat_eq_append] at o ne hi ⊢;have last:ixD (.lst (t.map rwD++[rwD r])) (.int (-1))=some (rwD r):=wS _ _;have le:ixN (t.length+1) (-1)=some t.length:=by rw [HD (by omega)]; rfl
     have e0:D.tup [oi r.1,.non,oi r.2.2]=rwD (r.1,none,r.2.2):=rfl;have ie:(t++[r]).isEmpty=false:=by simp
     refine⟨t++[(r.1,none,r.2.2)],QV o,by simp,.inr ⟨r,t,rfl,rfl⟩,?_⟩;rw[ie] at ne;simp at ne hi;simp[hi,ne,hT,last,le,e0]
 |false=>exact⟨rows,o,rfl,.inl rfl,by simp[hi,ne,hT,vZ hi]⟩
theorem KO(i:Int):fK [.int i]=some (.val (.bl true)):=by
 unfold fK runG pQ;simp[args]
theorem yJ{i j:Int}(h:0<=j)(h2:j<=1000):yV (.int i) (.int j)=some (.int (i*j)):=yU (.of_right (jO (dG (show j.natAbs<=1000 by omega) (by decide))))
@[simp] theorem aAb(n:Nat)(cs:List Nat)(F:Nat->List D->Option Ret)(t:Nat)(es l:List D):methR n cs F (.ins t es) l=if t∈cs/\l.length=n then F t (.ins t es::l) else none:=rfl
theorem PU(p a m:Int):fI [.int p,.int a,.int m]=some (.val (oi (if p<a then some p else if p<a+m then none else some (p-m)))):=by
 unfold fI runG nP
 by_cases h:p<a
 . simp[args,h]
 . by_cases h2:p<a+m<;>simp[args,h,h2]
theorem LS(p a m:Int):hO [.int p,.int a,.int m]=some (.val (.int (if p<a then p else p+m))):=by
 unfold hO runG rR
 by_cases h:p<a<;>simp[args,h]
theorem HA(t b p:Int)(ht:1<=t/\t<=1000)(hb:1<=b/\b<=1000):dC [.ins 4 [.non,.int t,.int b],.int p]=some (.val (.int (fR t b p))):=by
 unfold dC runG eO;have h1:=yJ (i:=-p) (j:=t) (by omega) ht.2;have h2:=yM (j:=b) (-p*t) (by omega) (by omega);simp[args,aFm,h1,h2,fR]
theorem MY(t b p:Int)(ht:1<=t/\t<=1000)(hb:1<=b/\b<=1000):gU [.ins 4 [.non,.int t,.int b],.int p]=some (.val (.int (p*b/t))):=by
 unfold gU runG kW;have h1:=yJ (i:=p) (j:=b) (by omega) hb.2;have h2:=yM (j:=t) (p*b) (by omega) (by omega);simp[args,List.lookup,h1,h2]
theorem came_eq(d:Dd)(h:okD d)(p:Int):methR 1 [0,1,2,3,4,5] cX (insD d) [.int p]=some (.val (oi (cameF d p))):=by
 cases d with
 | put s v =>
   simp only[insD,aAb,aD,true_or,aJ,dH,and_self,if_true,cX];unfold pB runG pA;cases hs:hasS s p<;>simp[args,aFm,has_eq,cameF,hs]
 | widen a m =>
   simp[insD,cX];unfold mU runG mT;simp[args,List.lookup,PU,cameF]
 | narrow a m =>
   simp[insD,cX];unfold lR runG lQ;simp[args,List.lookup,LS,cameF]
 | move f =>
   simp[insD,cX];unfold nY runG nX;simp[args,List.lookup,cameF]
 | stretch t b =>
   simp[insD,cX,MY t b p h.1 h.2,cameF]
 | mirror =>
   simp[insD,cX];unfold lX runG lW;simp[args,cameF]
theorem went_eq(d:Dd)(h:okD d)(p:Int):methR 1 [0,1,2,3,4,5] cO (insD d) [.int p]=some (.val (oi (wentF d p))):=by
 cases d with
 | put s v =>
   simp[insD,cO];unfold oX runG oW;simp[args,wentF]
 | widen a m =>
   simp[insD,cO];unfold mQ runG mP;simp[args,List.lookup,LS,wentF]
 | narrow a m =>
   simp[insD,cO];unfold lM runG lL;simp[args,List.lookup,PU,wentF]
 | move f =>
   simp[insD,cO];unfold nU runG nT;simp[args,List.lookup,wentF]
 | stretch t b =>
   simp[insD,cO];unfold kS runG kR;have e1:=came_eq (.stretch t b) h (fR t b p);simp only[insD,cameF] at e1
   by_cases hc:fR t b p*b/t=p
   . simp[args,bS,HA t b p h.1 h.2,e1,wentF,hc]
   . simp[args,bS,HA t b p h.1 h.2,e1,wentF,hc]
 | mirror =>
   simp[insD,cO];unfold lT runG lS;simp[args,wentF]
theorem aFn{t b p:Int}(hb:0<b):p*t<=fR t b p*b/\(fR t b p-1)*b<p*t:=by
 have h1:=Int.ediv_mul_le (-p*t) (oH hb);have h2:=Int.lt_ediv_add_one_mul_self (-p*t) hb;unfold fR;have e1 : -(-p*t/b)*b=-((-p*t/b)*b):=by rw[VM]
 have e2:(-(-p*t/b)-1)*b=-(((-p*t/b)+1)*b):=by
  rw[<- VM];congr 1;omega
 have e3 : -p*t=-(p*t):=VM ..;rw[e1,e2];rw[e3] at h1 h2 ⊢;constructor<;>omega
theorem hasL_eq(s:Spn)(p:Int):OY [spD s,.int p]=some (.val (.bl (hasS s p))):=by
 obtain⟨a,b⟩:=s;unfold OY runG OX;cases a<;>cases b<;>simp[args,hasS]
end FL
namespace FL
open PySem PyProof.Rows L2 Builtin.Str
noncomputable def txS(cs:List Nat):Str:=⟨cs.toArray⟩
@[simp] theorem RH(cs:List Nat):(txS cs).cps.toList=cs:=rfl
@[simp] theorem vM(cs:List Nat):(txS cs).length=cs.length:=by simp[txS,Str.length]
theorem EO{a b:List Nat}: txS a=txS b↔a=b:=⟨fun h=>by have:=congrArg (fun x:Str=>x.cps.toList) h;simpa using this,fun h=>by rw[h]⟩
@[simp] theorem txS_app(a b:List Nat):txS a++txS b=txS (a++b):=Str.ext' (by rw[Str.cps_append];simp[txS])
theorem yX(x:Str)(l u:Option Int):Txt.slice x l u=StrLaws.sliceText x l u:=rfl
theorem KZ(cs:List Nat){a b:Nat}(hab:a<=b)(hb:b<=cs.length):Txt.slice (txS cs) (some (a:Int)) (some (b:Int))=txS ((cs.drop a).take (b-a)):=by
 rw[yX,StrLaws.sliceText_nat _ hab (by simpa using hb)];rfl
theorem kF(cs:List Nat){b:Nat}(hb:b<=cs.length):Txt.slice (txS cs) none (some (b:Int))=txS (cs.take b):=by
 have e:Txt.slice (txS cs) none (some (b:Int))=Txt.slice (txS cs) (some ((0:Nat):Int)) (some (b:Int)):=by
  rw[yX,yX];unfold StrLaws.sliceText;rw[StrLaws.sliceIdx_none_lo];rfl
 rw[e,KZ cs (dP _) hb];simp
theorem TJ(cs:List Nat)(a:Nat):Txt.slice (txS cs) (some (a:Int)) none=txS (cs.drop a):=by
 have key:∀a:Nat,a<=cs.length->Txt.slice (txS cs) (some (a:Int)) none=txS (cs.drop a):=by
  intro a ha
  have e:Txt.slice (txS cs) (some (a:Int)) none=Txt.slice (txS cs) (some (a:Int)) (some (cs.length:Int)):=by
   rw[yX,yX];unfold StrLaws.sliceText;rw[StrLaws.sliceIdx_none_hi];simp
  rw[e,KZ cs ha (aU _)];congr 1;exact lF (by simp)
 by_cases ha:a<=cs.length
 . exact key a ha
 . have e:Txt.slice (txS cs) (some (a:Int)) none=Txt.slice (txS cs) (some (cs.length:Int)) none:=by
    have:strSliceIndices (some (a:Int)) none 1 (txS cs).length=strSliceIndices (some (cs.length:Int)) none 1 (txS cs).length:=by
     have h1 : ¬((a:Int)<0):=by omega
     have h2 : ¬((cs.length:Int)<0):=by omega
     have e1:max (0:Int) (min (a:Int) (cs.length:Int))=cs.length:=by omega
     have e2:max (0:Int) (min (cs.length:Int) (cs.length:Int))=cs.length:=by omega
     simp only[strSliceIndices,vM,h1,h2,if_false,e1,e2,show((1:Int)>0)=True from by simp,if_true]
    rw[yX,yX];unfold StrLaws.sliceText;rw[this]
   rw[e,key _ (aU _),PD (by omega),PD (by omega)]
theorem in_one(cs:List Nat)(c:Nat):inS (.str (txS [c])) (.str (txS cs))=some (.bl (decide (c∈cs))):=by
 have e3:txS [c]=(⟨#[c]⟩:Str):=rfl;have e:=StrLaws.found_one (txS cs) c;rw[RH] at e;rw[e3];show some (D.bl _)=_;rw[e]
theorem len_tx(cs:List Nat)(h:cs.length<=16777216):lenD [.str (txS cs)]=some (.int cs.length):=by
 simp[lenD,h]
theorem OV(a b:List Nat)(h:a.length+b.length<=16777216):yF (.str (txS a)) (.str (txS b))=some (.str (txS (a++b))):=by
 simp[yF,h]
def Asc(cs:List Nat):Prop:=∀c∈cs,c<1000
theorem shal_tx{cs:List Nat}(h:Asc cs)(n:Nat):shal n (.str (txS cs))=true:=by
 have:PyData.strOk (txS cs)=true:=by
  unfold PyData.strOk;rw[<- Array.all_toList,RH,pY];intro c hc;have:=h c hc;simp;omega
 simp[shal,this]
end FL
namespace FL
open PySem PySem.Spec PyProof.Rows L2
open Builtin.Int (intBits)
noncomputable def told3:Dd->D
 | .put s v=>.tup [.str "put",spD s,oi v]
 | .widen a m=>.tup [.str "widen",.int a,.int m]
 | .narrow a m=>.tup [.str "narrow",.int a,.int m]
 | .move f=>.tup [.str "move",.int f,.int 0]
 | .stretch t b=>.tup [.str "stretch",.int t,.int b]
 | .mirror=>.tup [.str "mirror",.int 0,.int 0]
theorem aFl(d:Dd)(h:okD d):mC [told3 d]=some (.val (insD d)):=by
 unfold mC runG tX;cases d with
 |put s v=>simp[args,told3,insD,aFs]
 |widen a m=>simp[args,told3,insD,HG h]
 |narrow a m=>simp[args,told3,insD,HG h]
 |move f=>simp[args,told3,insD,aAq]
 |stretch t b=>simp[args,told3,insD,NT h.1 h.2]
 |mirror=>simp[args,told3,insD,vC]
theorem XG(x y z:D):ixD (.lst [x,y,z]) (.int 2)=some z:=by rw[jL _ (by decide) (by simp)];rfl
theorem XC(c:Int):∃m,0<=m/\iZ [.int c]=some (.val (.int m)):=by
 have p2:powD (.int 10) (.int 60)=some (.int (10 ^ 60)):=pow10 (by decide) (by decide);have mm:∀x,jF (.int x) (.int (10 ^ 60))=some (.int (x%10 ^ 60)):=fun x=>jR x (by decide);have q0:(0:Int)<=c/3%10 ^ 60:=eI _ (by decide);unfold iZ runG BH;rcases(by omega:c%3=0\/c%3=1\/c%3=2) with h | h | h
 . exact⟨c/3%9,by omega,by simp[-Int.reducePow,-Nat.reducePow,args,p2,mm,h]⟩
 . exact⟨c/3%10 ^ 60,q0,by simp[-Int.reducePow,-Nat.reducePow,args,p2,mm,h]⟩
 . exact⟨c/3%61,by omega,by simp[-Int.reducePow,-Nat.reducePow,args,p2,mm,h,XG]⟩
theorem PZ(c:Int):∃m,(1<=m/\m<=1000)/\lZ [.int c]=some (.val (.int m)):=by
 unfold lZ runG tV;rcases(by omega:c%2=0\/c%2=1) with h | h
 . exact⟨1+c/2%4,by omega,by simp[args,h]⟩
 . exact⟨1+c/2%1000,by omega,by simp[args,h]⟩
theorem NM(l:List Int):neD (.lst (l.map D.int)) (.lst [])=some (.bl (!l.isEmpty)):=by rw[neD_nil (TK 39 l)];cases l<;>rfl
theorem BQ(c:Int)(known:List Int)(hk:known.length<100000):∃v,eM [.int c,.lst (known.map D.int)]=some (.val (.int v)):=by
 have p2:powD (.int 10) (.int 60)=some (.int (10 ^ 60)):=pow10 (by decide) (by decide);have m1:yV (.int 2) (.int (10 ^ 60))=some (.int (2*10 ^ 60)):=yU (.of_left (jO (by decide)));have mm:∀x,jF (.int x) (.int (2*10 ^ 60+1))=some (.int (x%(2*10 ^ 60+1))):=fun x=>jR x (by decide);unfold eM runG rV
 by_cases h1:c%3=1
 . exact⟨c/3%(2*10 ^ 60+1)-10 ^ 60,by simp[-Int.reducePow,-Nat.reducePow,args,h1,p2,m1,mm]⟩
 . by_cases h2 : c % 3 = 2
   . have e0 := NM known;cases hk0:known.isEmpty with
     | true =>
       rw[hk0] at e0;generalize known.map D.int=kd at *;exact⟨c/3%41-20,by simp[-Int.reducePow,-Nat.reducePow,args,h2,e0]⟩
     | false =>
       rw[hk0] at e0
       have hl:(0:Int)<(known.length:Int):=by
        cases known with
        |nil=>cases hk0
        |cons a r=>simp
       have hl2:(known.length:Int)<1000000000:=by omega
       have e1:=XH known (k:=c/3%(known.length:Int)) (eI _ (oH hl)) (fO _ hl);have e2:=jR (c/3) hl;have e3:=yM (c/3) hl hl2;exact⟨_,by simp[-Int.reducePow,-Nat.reducePow,args,h2,e0,e1,e2,e3];rfl⟩
   . exact⟨c/3%41-20,by simp[-Int.reducePow,-Nat.reducePow,args,h1,h2]⟩
theorem aDa(a c:Int):∃s:Spn,okS s/\oC [.int a,.int c]=some (.val (spD s)):=by
 obtain⟨m,hm,em⟩:=XC (c/12);unfold oC runG tU
 by_cases h:8<c%12
 . rcases (by omega : c % 12 = 9 \/ c % 12 = 10 \/ c % 12 = 11) with e | e | e
   . exact⟨(some a,none),(fun a b _ z=>by cases z),by simp[args,em,e,spD]⟩
   . exact⟨(none,some a),(fun a b z=>by cases z),by simp[args,em,e,spD]⟩
   . exact⟨(none,none),(fun a b z=>by cases z),by simp[args,em,e,spD,XG]⟩
 . exact⟨(some a,some (a+(1+m))),(fun a b z w=>by cases z;cases w;omega),by simp[args,em,h,spD]⟩
theorem row3_ex(a b c:Int)(known:List Int)(hk:known.length<100000):∃d,okD d/\nJ [.int a,.int b,.int c,.lst (known.map D.int)]=some (.val (told3 d)):=by
 obtain⟨at',ea⟩:=BQ b known hk;obtain⟨m,hm,em⟩:=XC c;obtain⟨s1,h1,e1⟩:=PZ b;obtain⟨s2,h2,e2⟩:=PZ c;obtain⟨sp,hs,es⟩:=aDa at' c;have p2:powD (.int 10) (.int 60)=some (.int (10 ^ 60)):=pow10 (by decide) (by decide);have m1:yV (.int 2) (.int (10 ^ 60))=some (.int (2*10 ^ 60)):=yU (.of_left (jO (by decide)));have mm:∀x,jF (.int x) (.int (2*10 ^ 60+1))=some (.int (x%(2*10 ^ 60+1))):=fun x=>jR x (by decide);unfold nJ runG BF;generalize known.map D.int=kd at *
 by_cases q3:a%8=3
 . exact⟨.widen at' m,hm,by simp[-Int.reducePow,-Nat.reducePow,args,ea,em,q3,told3]⟩
 by_cases q4:a%8=4
 . exact⟨.narrow at' m,hm,by simp[-Int.reducePow,-Nat.reducePow,args,ea,em,q4,told3]⟩
 by_cases q5:a%8=5
 . exact⟨.move at',trivial,by simp[-Int.reducePow,-Nat.reducePow,args,ea,q5,told3]⟩
 by_cases q6:a%8=6
 . exact⟨.stretch s1 s2,⟨h1,h2⟩,by simp[-Int.reducePow,-Nat.reducePow,args,ea,e1,e2,q6,told3]⟩
 by_cases q7:a%8=7
 . exact⟨.mirror,trivial,by simp[-Int.reducePow,-Nat.reducePow,args,ea,q7,told3]⟩
 obtain⟨v,ev⟩:∃v:Option Int,ixD (.lst [.non,.int 0,.int 1,.int (a/40%(2*10 ^ 60+1)-10 ^ 60),.int 1]) (.int (a/8%5))=some (oi v):=by
  rcases(by omega:a/8%5=0\/a/8%5=1\/a/8%5=2\/a/8%5=3\/a/8%5=4) with e | e | e | e | e<;>rw[e,jL _ (by decide) (by simp)]
  . exact⟨none,rfl⟩
  . exact⟨some 0,rfl⟩
  . exact⟨some 1,rfl⟩
  . exact⟨some _,rfl⟩
  . exact⟨some 1,rfl⟩
 exact⟨.put sp v,hs,by simp[-Int.reducePow,-Nat.reducePow,args,ea,es,q3,q4,q5,q6,q7,p2,m1,mm,ev,told3]⟩
end FL
namespace FL
open PySem PySem.Spec PyProof.Rows L2
theorem xC{α : Type}{ga:D->List Sl->Option (List Sl)}{fe:FE}{s0:List Sl}(f h : α->D):∀(xs:List α),(∀x∈xs,∃ds1,ga (f x) s0=some ds1/\fe ds1=some (h x))->compL ga (fun _=>some true) fe s0 (xs.map f)=some (xs.map h)
 |[],_=>rfl
 | x :: xs, H => by
   obtain⟨ds1,e1,e2⟩:=H x aN;have ih:=xC (ga:=ga) (fe:=fe) (s0:=s0) f h xs fun y hy=>H y (aG _ hy);simp only[aO,compL,e1,e2,ih,aH,if_true,cF]
theorem YU{rows:List Rw}(o:Ord rows)(p:Int):valL rows p=(match rows.find? (fun r=>has3 r p) with | some r=>r.2.2 | none=>none):=by
 cases hf:rows.find? (fun r=>has3 r p) with
 | none =>
   cases hv:valL rows p with
   |none=>rfl
   | some v =>
     obtain⟨r,hr,h1,_⟩:=(wV o p v).mp hv;exact(YN.mp hf r hr h1).elim
 | some r =>
   have hm:=iE hf;have h3:has3 r p=true:=by simpa using rO hf
   cases hw:r.2.2 with
   |some v=>exact((wV o p v).mpr ⟨r,hm,h3,hw⟩).trans hw.symm
   | none =>
     cases hv:valL rows p with
     |none=>exact hw.symm
     | some v =>
       obtain⟨r',hr',h1,h2⟩:=(wV o p v).mp hv
       have:r'=r:=by
        by_cases e:r'=r
        . exact e
        . exfalso;rcases nA.mp hr' with ⟨i,hi,rfl⟩
          rcases nA.mp hm with⟨j,hj,rfl⟩
          rcases aCi i j with hlt | hlt | hlt
          . exact wQ (cS.mp o.pw i j hi hj hlt) h1 h3
          . subst hlt;exact e rfl
          . exact wQ (cS.mp o.pw j i hj hi hlt) h3 h1
       rw[this,hw] at h2;cases h2
noncomputable def part1(s:Spn)(r:Rw):Option Rw:=(meetS (r.1,r.2.1) s).map fun u=>(u.1,u.2,r.2.2)
noncomputable def zV(ps:List Rw)(s:Spn):List Rw:=ps.filterMap (part1 s)
theorem vK(R:Sl)(s:Spn):∀(ps acc:List Rw) (a b c d:Sl),acc.length+ps.length<16777216->∃a' b' c' d',qZ (tupG 3 (zY (zU 3) (zY (zU 4) (zY (zU 5) tgNil)))) gG (ps.map rwD) [R,.v (spD s),.own (acc.map rwD),a,b,c,d]=some (.nx [R,.v (spD s),.own ((acc++zV ps s).map rwD),a',b',c',d'])
 |[],acc,a,b,c,d,_=>⟨a,b,c,d,by simp[zV,qZ]⟩
 | r :: ps, acc, a, b, c, d, h => by
   simp only[aJ] at h;have me:nI [.tup [oi r.1,oi r.2.1],spD s]=some (.val (oS (meetS (r.1,r.2.1) s))):=meet_eq (r.1,r.2.1) s;cases hm:meetS (r.1,r.2.1) s with
   | none =>
     rw[hm] at me;obtain⟨a',b',c',d',ih⟩:=vK R s ps acc (.v (oi r.1)) (.v (oi r.2.1)) (.v (oi r.2.2)) (.v .non) (by omega);refine⟨a',b',c',d',?_⟩;have turn:gG [R,.v (spD s),.own (acc.map rwD),.v (oi r.1),.v (oi r.2.1),.v (oi r.2.2),d]=some (.nx [R,.v (spD s),.own (acc.map rwD),.v (oi r.1),.v (oi r.2.1),.v (oi r.2.2),.v .non]):=by simp[gG,me,oS]
     have e:zV (r::ps) s=zV ps s:=by simp[zV,part1,hm]
     rw[e];simp[qZ,turn,ih]
   | some u =>
     rw[hm] at me;obtain⟨a',b',c',d',ih⟩:=vK R s ps (acc++[(u.1,u.2,r.2.2)]) (.v (oi r.1)) (.v (oi r.2.1)) (.v (oi r.2.2)) (.v (spD u)) (by simp;omega);refine⟨a',b',c',d',?_⟩;have z:acc.length<16777216:=by omega
     have e0:D.tup [oi u.1,oi u.2,oi r.2.2]=rwD (u.1,u.2,r.2.2):=rfl;have turn:gG [R,.v (spD s),.own (acc.map rwD),.v (oi r.1),.v (oi r.2.1),.v (oi r.2.2),d]=some (.nx [R,.v (spD s),.own (acc.map rwD++[rwD (u.1,u.2,r.2.2)]),.v (oi r.1),.v (oi r.2.1),.v (oi r.2.2),.v (spD u)]):=by simp[gG,me,oS,z,e0]
     have e:zV (r::ps) s=(u.1,u.2,r.2.2)::zV ps s:=by simp[zV,part1,hm]
     rw[e];simp only[bN,aO,cH,eS,dZ,kL] at ih ⊢;simp[qZ,turn,ih]
theorem jM(ps:List Rw)(s:Spn):(zV ps s).length<=ps.length:=iT _ _
theorem wG(ps:List Rw)(s:Spn)(h:ps.length<16777216):cQ [.lst (ps.map rwD),spD s]=some (.fresh ((zV ps s).map rwD)):=by
 obtain⟨a,b,c,d,e⟩:=vK (.v (.lst (ps.map rwD))) s ps [] .no .no .no .no (by simpa using h);simp only[cH,kL] at e;unfold cQ runG oU;simp[args,e,yP]
theorem qV{s:Spn}{r r':Rw}(h:part1 s r=some r'):ok3 r'/\r'.2.2=r.2.2/\(∀p,has3 r' p=(has3 r p&&hasS s p))/\(∀x,r.2.1=some x->∃x',r'.2.1=some x'/\x'<=x)/\(∀y,r.1=some y->∃y',r'.1=some y'/\y<=y')/\(∀x,s.2=some x->∃x',r'.2.1=some x'/\x'<=x)/\(∀y,s.1=some y->∃y',r'.1=some y'/\y<=y'):=by
 unfold part1 at h;cases hm:meetS (r.1,r.2.1) s with
 |none=>rw[hm] at h;cases h
 | some u =>
   rw[hm] at h;cases h;have hp:=fun p=>MC (r.1,r.2.1) s p;rw[hm] at hp;refine⟨aFj hm,rfl,fun p=>hp p,?_,?_,?_,?_⟩
   all_goals (unfold meetS at hm;split at hm;(· cases hm);cases hm)
   . intro x hx;show ∃ x',vH r.2.1 s.2=some x'/\x'<=x;rw [hx];cases s.2 <;> simp [vH]
     omega
   . intro y hy;show ∃ y',lateL r.1 s.1=some y'/\y<=y';rw [hy];cases s.1 <;> simp [lateL]
     omega
   . intro x hx;show ∃ x',vH r.2.1 s.2=some x'/\x'<=x;rw [hx];cases r.2.1 <;> simp [vH]
     omega
   . intro y hy;show ∃ y',lateL r.1 s.1=some y'/\y<=y';rw [hy];cases r.1 <;> simp [lateL]
     omega
theorem TX{s:Spn}{r:Rw}(h:part1 s r=none)(p:Int):(has3 r p&&hasS s p)=false:=by
 unfold part1 at h;have hp:=MC (r.1,r.2.1) s p;cases hm:meetS (r.1,r.2.1) s with
 |none=>rw[hm] at hp;exact hp.symm
 |some u=>rw[hm] at h;cases h
theorem mD{ps:List Rw}{s:Spn}{r':Rw}: r'∈zV ps s↔∃r∈ps,part1 s r=some r':=uM
theorem vE{ps:List Rw}(o:Ord ps)(s:Spn):Ord (zV ps s):=by
 refine⟨fun r' h=>?_,?_⟩
 . obtain⟨r, _, h⟩ := mD.mp h;exact(qV h).1
 . unfold zV;rw[List.pairwise_filterMap];refine o.pw.imp fun {a b} hab a' ha b' hb=>?_;obtain⟨x,y,hx,hy,hxy⟩:=hab;obtain⟨x',e1,h1⟩:=(qV ha).2.2.2.1 x hx;obtain⟨y',e2,h2⟩:=(qV hb).2.2.2.2.1 y hy;exact⟨x',y',e1,e2,by omega⟩
theorem vD{ps:List Rw}{s:Spn}{p v:Int}: Tel (zV ps s) p v↔hasS s p=true/\Tel ps p v:=by
 constructor
 . rintro⟨r', h, h1, h2⟩;obtain⟨r,hr,h⟩:=mD.mp h;obtain⟨_,e,hh,_⟩:=qV h;rw[hh p,bX] at h1;exact⟨h1.2,r,hr,h1.1,e▸h2⟩
 . rintro ⟨hs, r, hr, h1, h2⟩;cases h:part1 s r with
   | none =>
     have:=TX h p;rw[h1,hs] at this;cases this
   | some r' =>
     obtain⟨_,e,hh,_⟩:=qV h;exact⟨r',mD.mpr ⟨r,hr,h⟩,by rw[hh p,h1,hs];rfl,e.trans h2⟩
noncomputable def loP(ps:List Rw):Option Int->List Rw
 |none=>[]
 |some a=>zV ps (none,some a)
noncomputable def hiP(ps:List Rw):Option Int->List Rw
 |none=>[]
 |some b=>zV ps (some b,none)
noncomputable def overF(ps:List Rw)(s:Spn)(v:Option Int):List Rw:=loP ps s.1++(s.1,s.2,v)::hiP ps s.2
theorem ZN{ps:List Rw}(o:Ord ps){a b:Int}(h:a<b):(zV ps (none,some a)).length+(zV ps (some b,none)).length<=ps.length+1:=by
 induction ps with
 |nil=>simp[zV]
 | cons r t ih =>
   have pw:=bH.mp o.pw;have ot:Ord t:=⟨fun z hz=>o.ok z (aG _ hz),pw.2⟩
   have ih:=ih ot;cases h1:part1 (none,some a) r with
   | none =>
     have e1:zV (r::t) (none,some a)=zV t (none,some a):=by simp[zV,h1]
     rw[e1]
     have:(zV (r::t) (some b,none)).length<=(zV t (some b,none)).length+1:=by
      unfold zV;rw[iI]
      split<;>simp
     simp only[aJ];omega
   | some r1 =>
     have e1:zV (r::t) (none,some a)=r1::zV t (none,some a):=by simp[zV,h1]
     rw[e1];cases h2:part1 (some b,none) r with
     | none =>
       have e2:zV (r::t) (some b,none)=zV t (some b,none):=by simp[zV,h2]
       rw[e2];simp only[aJ];omega
     | some r2 =>
       have e2:zV (r::t) (some b,none)=r2::zV t (some b,none):=by simp[zV,h2]
       have e3:zV t (none,some a)=[]:=by
        unfold zV;rw[KH];intro z hz;cases hz':part1 (none,some a) z with
        |none=>rfl
        | some z' =>
          exfalso;obtain⟨x,y,hx,hy,hxy⟩:=pw.1 z hz;have k2:=qV h2;have kz:=qV hz';obtain⟨x2,ex2,hx2⟩:=k2.2.2.2.1 x hx;obtain⟨y2,ey2,hy2⟩:=k2.2.2.2.2.2.2 b rfl;have:=k2.1 y2 x2 ey2 ex2;obtain⟨y3,ey3,hy3⟩:=kz.2.2.2.2.1 y hy;obtain⟨x3,ex3,hx3⟩:=kz.2.2.2.2.2.1 a rfl;have:=kz.1 y3 x3 ey3 ex3;omega
       rw[e2,e3];have:=jM t (some b,none);simp only[aJ,dH];omega
theorem QT{ps:List Rw}(o:Ord ps)(s:Spn)(hs:okS s)(v:Option Int):(overF ps s v).length<=ps.length+2:=by
 obtain⟨lo,bh⟩:=s;unfold overF loP hiP;cases lo with
 | none =>
   cases bh with
   |none=>simp
   | some b =>
     have:=jM ps (some b,none);simp;omega
 | some a =>
   cases bh with
   | none =>
     have:=jM ps (none,some a);simp;omega
   | some b =>
     have:=ZN o (hs a b rfl rfl);simp;omega
theorem QS{ps:List Rw}(o:Ord ps)(s:Spn)(hs:okS s)(v:Option Int):Ord (overF ps s v):=by
 obtain⟨lo,bh⟩:=s;unfold overF
 have l1:∀r∈(loP ps lo),ok3 r/\∃a x,lo=some a/\r.2.1=some x/\x<=a:=by
  cases lo with
  |none=>intro r h;cases h
  | some a =>
    intro r h;obtain⟨q,_,h⟩:=mD.mp h;obtain⟨x,e,hx⟩:=(qV h).2.2.2.2.2.1 a rfl;exact⟨(qV h).1,a,x,rfl,e,hx⟩
 have l2:∀r∈(hiP ps bh),ok3 r/\∃b y,bh=some b/\r.1=some y/\b<=y:=by
  cases bh with
  |none=>intro r h;cases h
  | some b =>
    intro r h;obtain⟨q,_,h⟩:=mD.mp h;obtain⟨y,e,hy⟩:=(qV h).2.2.2.2.2.2 b rfl;exact⟨(qV h).1,b,y,rfl,e,hy⟩
 have o1:Ord (loP ps lo):=by
  cases lo with
  |none=>exact⟨(fun _ h=>nomatch h),List.Pairwise.nil⟩
  |some a=>exact vE o _
 have o2:Ord (hiP ps bh):=by
  cases bh with
  |none=>exact⟨(fun _ h=>nomatch h),List.Pairwise.nil⟩
  |some b=>exact vE o _
 refine⟨fun r h=>?_,?_⟩
 . rcases bJ.mp h with h | h
   . exact(l1 r h).1
   . rcases aD.mp h with rfl | h
     . exact hs
     . exact(l2 r h).1
 . refine iB.mpr ⟨o1.pw, bH.mpr ⟨fun r h => ?_, o2.pw⟩, fun a ha b hb => ?_⟩
   . obtain⟨_, b, y, e, e2, hy⟩ := l2 r h;exact⟨b,y,e,e2,hy⟩
   . obtain ⟨_, x, x', e, e2, hx⟩ := l1 a ha;rcases aD.mp hb with rfl | hb
     . exact⟨x',x,e2,e,hx⟩
     . obtain⟨_, y, y', e3, e4, hy⟩ := l2 b hb;have:=hs x y e e3;exact⟨x',y',e2,e4,by omega⟩
theorem aEs{ps:List Rw}(s:Spn)(hs:okS s)(v:Option Int)(p w:Int):Tel (overF ps s v) p w↔if hasS s p=true then v=some w else Tel ps p w:=by
 obtain⟨lo,bh⟩:=s
 have h1:Tel (loP ps lo) p w↔(∃a,lo=some a/\p<a)/\Tel ps p w:=by
  cases lo with
  |none=>exact⟨(fun⟨r,h,_⟩=>nomatch h),(fun⟨⟨a,e,_⟩,_⟩=>by cases e)⟩
  | some a =>
    show Tel (zV ps (none,some a)) p w↔_;rw[vD];simp[hasS]
 have h2:Tel (hiP ps bh) p w↔(∃b,bh=some b/\b<=p)/\Tel ps p w:=by
  cases bh with
  |none=>exact⟨(fun⟨r,h,_⟩=>nomatch h),(fun⟨⟨a,e,_⟩,_⟩=>by cases e)⟩
  | some b =>
    show Tel (zV ps (some b,none)) p w↔_;rw[vD];simp[hasS]
 have h3:Tel (overF ps (lo,bh) v) p w↔Tel (loP ps lo) p w\/(hasS (lo,bh) p=true/\v=some w)\/Tel (hiP ps bh) p w:=by
  unfold overF;constructor
  . rintro ⟨r, h, e1, e2⟩;rcases bJ.mp h with h | h
    . exact .inl ⟨r,h,e1,e2⟩
    . rcases aD.mp h with rfl | h
      . exact .inr (.inl ⟨e1,e2⟩)
      . exact .inr (.inr ⟨r,h,e1,e2⟩)
  . rintro (⟨r, h, e1, e2⟩ | ⟨e1, e2⟩ | ⟨r, h, e1, e2⟩)
    . exact⟨r,aW _ h,e1,e2⟩
    . exact⟨_,aI _ aN,e1,e2⟩
    . exact⟨r,aI _ (aG _ h),e1,e2⟩
 rw[h3,h1,h2]
 by_cases hp:hasS (lo,bh) p=true
 . rw [if_pos hp];have hq:=(xE _ _).mp hp;constructor
   . rintro (⟨⟨a, e, hlt⟩, _⟩ | ⟨_, e⟩ | ⟨⟨b, e, hle⟩, _⟩)
     . have:=hq.1 a e;omega
     . exact e
     . have:=hq.2 b e;omega
   . exact fun e=>.inr (.inl ⟨hp,e⟩)
 . rw [if_neg hp];constructor
   . rintro (⟨_, h⟩ | ⟨e, _⟩ | ⟨_, h⟩)
     . exact h
     . exact(hp e).elim
     . exact h
   . intro h
     by_cases hl:∃a,lo=some a/\p<a
     . exact .inl ⟨hl,h⟩
     . by_cases hb : ∃ b, bh = some b /\ b <= p
       . exact .inr (.inr ⟨hb,h⟩)
       . exfalso;apply hp;rw [xE];refine ⟨fun a e=>?_,fun b e=>?_⟩
         . exact Int.not_lt.mp fun z=>hl ⟨a,e,z⟩
         . exact Int.not_le.mp fun z=>hb ⟨b,e,z⟩
theorem over_eq{ps:List Rw}(s:Spn)(v:Option Int)(h:ps.length<=1000000):gF [.lst (ps.map rwD),spD s,oi v]=some (.fresh ((overF ps s v).map rwD)):=by
 obtain⟨lo,bh⟩:=s;have p1:∀a:Int,cQ [.lst (ps.map rwD),.tup [.non,.int a]]=some (.fresh ((zV ps (none,some a)).map rwD)):=fun a=>wG ps (none,some a) (by omega);have p2:∀a:Int,cQ [.lst (ps.map rwD),.tup [.int a,.non]]=some (.fresh ((zV ps (some a,none)).map rwD)):=fun a=>wG ps (some a,none) (by omega);have e0:D.tup [oi lo,oi bh,oi v]=rwD (lo,bh,v):=rfl;have fl:=yP (overF ps (lo,bh) v);unfold overF loP hiP at fl ⊢;unfold gF runG nQ;cases lo with
 | none =>
   cases bh with
   |none=>simp at fl e0;simp[args,e0]
   | some b =>
     have z:=jM ps (some b,none);have z1:1+(zV ps (some b,none)).length<=16777216:=by omega
     simp at fl e0;simp[args,p2,e0,z1,fl]
 | some a =>
   have z:=jM ps (none,some a);have z0:(zV ps (none,some a)).length<=16777216:=by omega
   have z1:(zV ps (none,some a)).length<16777216:=by omega
   cases bh with
   | none =>
     simp at fl e0;simp[args,p1,e0,z0,z1,fl]
   | some b =>
     have z':=jM ps (some b,none);have z2:(zV ps (none,some a)).length+1+(zV ps (some b,none)).length<=16777216:=by omega
     simp at fl e0;simp[args,p1,p2,e0,z0,z1,z2,fl]
abbrev Rv:=Spn×Option Int
noncomputable def put1(ps:List Rw)(r:Rv):List Rw:=knitF (overF ps r.1 r.2)
theorem aDx{ps:List Rw}(m:MapF ps){r:Rv}(h:okS r.1):MapF (put1 ps r):=wT (QS m.ord r.1 h r.2)
theorem aDy{ps:List Rw}(m:MapF ps){r:Rv}(h:okS r.1):(put1 ps r).length<=ps.length+2:=cL (wX _) (QT m.ord r.1 h r.2)
theorem aDw{ps:List Rw}(m:MapF ps){r:Rv}(h:okS r.1)(p w:Int):Tel (put1 ps r) p w↔if hasS r.1 p=true then r.2=some w else Tel ps p w:=by
 unfold put1;rw[wP (QS m.ord r.1 h r.2),aEs r.1 h r.2]
theorem put1_eq{ps:List Rw}(m:MapF ps)(hl:ps.length<=100000){s:Spn}{v:Option Int}(h:okS s):(gF [.lst (ps.map rwD),spD s,oi v]=some (.fresh ((overF ps s v).map rwD)))/\fU [.lst ((overF ps s v).map rwD)]=some (.fresh ((put1 ps (s,v)).map rwD)):=
 ⟨over_eq s v (by omega),EZ _ (by have:=QT m.ord s h v;omega)⟩
theorem MapF.nil:MapF []:=⟨⟨(fun _ h=>nomatch h),List.Pairwise.nil⟩,(fun _ h=>nomatch h),(fun i a b h _=>by simp at h)⟩
theorem IM{α : Type}{ga:D->List Sl->Option (List Sl)}{tt:FT}{fe:FE}{s0:List Sl}(f : α->D)(p : α->Bool)(h : α->D):∀(xs:List α),(∀x∈xs,∃ds1,ga (f x) s0=some ds1/\tt ds1=some (p x)/\(p x=true->fe ds1=some (h x)))->compL ga tt fe s0 (xs.map f)=some ((xs.filter p).map h)
 |[],_=>rfl
 | x :: xs, H => by
   obtain⟨ds1,e1,e2,e3⟩:=H x aN;have ih:=IM (ga:=ga) (tt:=tt) (fe:=fe) (s0:=s0) f p h xs fun y hy=>H y (aG _ hy);cases hp:p x with
   |true=>simp[compL,e1,e2,e3 hp,ih,hp]
   |false=>simp[compL,e1,e2,ih,hp]
theorem ix_rw{A:List Rw}{i:Nat}{a:Rw}(h:A[i]?=some a):ixD (.lst (A.map rwD)) (.int (i:Int))=some (rwD a):=by
 have hi:=(aV.mp h).1;rw[jL _ (by omega) (by simp;omega),aCn,bE,h];rfl
theorem later{r z:Rw}{t:List Rw}(o:Ord (r::t))(hz:z∈t){p:Int}(hp:has3 z p=true):∃x y,r.2.1=some x/\z.1=some y/\x<=y/\y<=p:=by
 obtain⟨x,y,h1,h2,h3⟩:=(bH.mp o.pw).1 z hz;refine⟨x,y,h1,h2,h3,?_⟩;unfold has3 hasS at hp;simp only[h2,bX,decide_eq_true_eq] at hp;exact hp.1
noncomputable def shR(f:Int)(r:Rw):Rw:=(r.1.map (·+f),r.2.1.map (·+f),r.2.2)
noncomputable def mirR(r:Rw):Rw:=(r.2.1.map (1 - ·),r.1.map (1 - ·),r.2.2)
noncomputable def strR(t b:Int)(r:Rw):Rw:=(r.1.map (fR t b),r.2.1.map (fR t b),r.2.2)
theorem EQ{T:Rw->Rw}{c:Int->Int}(h1:∀r p,has3 (T r) p=has3 r (c p))(h2:∀r,(T r).2.2=r.2.2)(ps:List Rw)(p v:Int):Tel (ps.map T) p v↔Tel ps (c p) v:=by
 constructor
 . rintro⟨r', hr, h3, h4⟩;obtain⟨r,hm,rfl⟩:=cP.mp hr;exact⟨r,hm,by rw[<- h1];exact h3,by rw[<- h2];exact h4⟩
 . rintro⟨r, hr, h3, h4⟩;exact⟨T r,eF hr,by rw[h1];exact h3,by rw[h2];exact h4⟩
theorem aFu(f:Int)(r:Rw)(p:Int):has3 (shR f r) p=has3 r (p-f):=by
 obtain⟨a,b,v⟩:=r;rw[gS,jX,jX];cases a<;>cases b<;>simp[shR]<;>omega
theorem has_mir(r:Rw)(p:Int):has3 (mirR r) p=has3 r (-p):=by
 obtain⟨a,b,v⟩:=r;rw[gS,jX,jX];cases a<;>cases b<;>simp[mirR]<;>omega
theorem GZ{t b x p:Int}(ht:0<t)(hb:0<b):fR t b x<=p↔x<=p*b/t:=by
 obtain⟨g1,g2⟩:=aFn (t:=t) (b:=b) (p:=x) hb;rw[Int.le_ediv_iff_mul_le ht];constructor
 . intro h;exact CZ g1 (Int.mul_le_mul_of_nonneg_right h (rP hb))
 . intro h;have:=Int.lt_of_mul_lt_mul_right (Int.lt_of_lt_of_le g2 h) (rP hb);omega
theorem has_str{t b:Int}(ht:0<t)(hb:0<b)(r:Rw)(p:Int):has3 (strR t b r) p=has3 r (p*b/t):=by
 obtain⟨x,y,v⟩:=r;have h1:=fun z=>GZ (t:=t) (b:=b) (x:=z) (p:=p) ht hb;rw[gS,jX,jX];cases x<;>cases y<;>simp[strR]<;>(try rw[h1])<;>(try (have:=h1;simp only[<- Int.not_le,h1]))
theorem ord_map{T:Rw->Rw}{ps:List Rw}(o:Ord ps)(h1:∀r∈ps,ok3 r->ok3 (T r))(h2:∀a b,ahead a b->ahead (T a) (T b)):Ord (ps.map T):=
 ⟨fun r' hr=>by obtain⟨r,hm,rfl⟩:=cP.mp hr;exact h1 r hm (o.ok r hm),pD.mpr (o.pw.imp fun h=>h2 _ _ h)⟩
theorem ok_sh{f:Int}{r:Rw}(h:ok3 r):ok3 (shR f r):=by
 intro a b h1 h2;obtain⟨x,y,v⟩:=r;cases x<;>cases y<;>simp[shR] at h1 h2
 rename_i x y;have:x<y:=h x y rfl rfl;omega
theorem aGy{f:Int}{a b:Rw}(h:ahead a b):ahead (shR f a) (shR f b):=by
 obtain⟨x,y,h1,h2,h3⟩:=h;exact⟨x+f,y+f,by simp[shR,h1],by simp[shR,h2],by omega⟩
theorem aDc{ps:List Rw}(o:Ord ps)(f:Int):Ord (ps.map (shR f)):=ord_map o (fun r _ h=>ok_sh h) fun a b h=>aGy h
theorem sh_map{ps:List Rw}(m:MapF ps)(f:Int):MapF (ps.map (shR f)):=by
 refine⟨aDc m.ord f,fun r' hr=>?_,fun i a b h1 h2=>?_⟩
 . obtain⟨r, hm, rfl⟩ := cP.mp hr;exact m.val r hm
 . rw [bE] at h1 h2;obtain ⟨a',e1,rfl⟩:=eZ.mp h1;obtain ⟨b',e2,rfl⟩:=eZ.mp h2;rintro ⟨q1,q2⟩;refine m.adj i a' b' e1 e2 ⟨?_,q2⟩;obtain ⟨x,y,v⟩:=a';obtain ⟨x',y',v'⟩:=b';cases y <;> cases x' <;> simp [shR] at q1 ⊢
   omega
theorem mir_map{ps:List Rw}(m:MapF ps):MapF (ps.reverse.map mirR):=by
 refine⟨⟨fun r' hr=>?_,?_⟩,fun r' hr=>?_,fun i a b h1 h2=>?_⟩
 . obtain ⟨r, hm, rfl⟩ := cP.mp hr;have h:=m.ord.ok r (dL.mp hm);clear hr hm;intro a b h1 h2;obtain ⟨x,y,v⟩:=r;cases x <;> cases y <;> simp [mirR] at h1 h2
   rename_i x y;have:x<y:=h x y rfl rfl;omega
 . rw[pD, SN];refine m.ord.pw.imp fun {a b} ⟨x,y,h1,h2,h3⟩=>⟨1-y,1-x,by simp[mirR,h2],by simp[mirR,h1],by omega⟩
 . obtain⟨r, hm, rfl⟩ := cP.mp hr;exact m.val r (dL.mp hm)
 . have l2 := (aV.mp h2).1;rw [aS,cZ] at l2;rw [bE,mH (by omega)] at h1 h2;obtain ⟨a',e1,rfl⟩:=eZ.mp h1;obtain ⟨b',e2,rfl⟩:=eZ.mp h2;rintro ⟨q1,q2⟩;refine m.adj (ps.length - 1 - (i+1)) b' a' e2 (by rw [<- e1]; congr 1; omega) ⟨?_,q2.symm⟩;obtain ⟨x,y,v⟩:=a';obtain ⟨x',y',v'⟩:=b';cases x <;> cases y' <;> simp [mirR] at q1 ⊢
   omega
noncomputable def keepR(r:Rw):Bool:=r.1.isNone||decide (r.1≠r.2.1)
noncomputable def mI(t b:Int)(ps:List Rw):List Rw:=(ps.map (strR t b)).filter keepR
theorem GY{t b x y:Int}(ht:0<t)(hb:0<b)(h:x<=y):fR t b x<=fR t b y:=by
 rw[GZ ht hb];exact CZ h ((GZ ht hb).mp (pF _))
theorem VP{ps:List Rw}(o:Ord ps){t b:Int}(ht:0<t)(hb:0<b):Ord (mI t b ps):=by
 refine⟨fun r' hr=>?_,?_⟩
 . obtain ⟨h1, h2⟩ := dW.mp hr;obtain ⟨r,hm,rfl⟩:=cP.mp h1;intro x y e1 e2;have h:=o.ok r hm;clear hr hm h1;obtain ⟨a,c,v⟩:=r;cases a <;> cases c <;> simp [strR] at e1 e2
   rename_i a c;have hac:a<c:=h a c rfl rfl;have hm:=GY (t:=t) (b:=b) ht hb (rP hac);simp[keepR,strR] at h2;omega
 . refine List.Pairwise.filter _ (pD.mpr (o.pw.imp fun {a c} ⟨x,y,h1,h2,h3⟩=>⟨fR t b x,fR t b y,by simp[strR,h1],by simp[strR,h2],GY ht hb h3⟩))
theorem str_tel{ps:List Rw}{t b:Int}(ht:0<t)(hb:0<b)(p v:Int):Tel (mI t b ps) p v↔Tel ps (p*b/t) v:=by
 rw[<- EQ (has_str ht hb) (fun _=>rfl) ps p v];constructor
 . rintro⟨r, hr, h⟩;exact⟨r,(dW.mp hr).1,h⟩
 . rintro ⟨r, hr, h1, h2⟩;refine ⟨r,dW.mpr ⟨hr,?_⟩,h1,h2⟩;obtain ⟨g1,g2⟩:=(jX r p).mp h1;obtain ⟨x,y,w⟩:=r;cases x with
   |none=>rfl
   | some x =>
     cases y with
     |none=>simp[keepR]
     | some y =>
       have:=g1 x rfl;have:=g2 y rfl;simp[keepR];omega
noncomputable def gT(ps:List Rw)(a c f:Int):List Rw:=zV ps (none,some a)++(zV ps (some c,none)).map (shR f)
theorem vA{ps:List Rw}(o:Ord ps){a c f:Int}(h:a<=c+f):Ord (gT ps a c f):=by
 have o1:=vE o (none,some a);have o2:=aDc (vE o (some c,none)) f;refine⟨fun r hr=>(bJ.mp hr).elim (o1.ok r) (o2.ok r),iB.mpr ⟨o1.pw,o2.pw,fun x hx y hy=>?_⟩⟩;obtain⟨r,_,hr⟩:=mD.mp hx;obtain⟨y',hy',rfl⟩:=cP.mp hy;obtain⟨q,_,hq⟩:=mD.mp hy';obtain⟨x',e1,h1⟩:=(qV hr).2.2.2.2.2.1 a rfl;obtain⟨z',e2,h2⟩:=(qV hq).2.2.2.2.2.2 c rfl;exact⟨x',z'+f,e1,by simp[shR,e2],by omega⟩
theorem KY{ps:List Rw}{a c f p v:Int}: Tel (gT ps a c f) p v↔(p<a/\Tel ps p v)\/(c<=p-f/\Tel ps (p-f) v):=by
 have e:Tel (gT ps a c f) p v↔Tel (zV ps (none,some a)) p v\/Tel ((zV ps (some c,none)).map (shR f)) p v:=by
  unfold gT;constructor
  . rintro ⟨r, hr, h⟩;rcases bJ.mp hr with hr | hr
    . exact .inl ⟨r,hr,h⟩
    . exact .inr ⟨r,hr,h⟩
  . rintro (⟨r, hr, h⟩ | ⟨r, hr, h⟩)
    . exact⟨r,aW _ hr,h⟩
    . exact⟨r,aI _ hr,h⟩
 rw[e,EQ (aFu f) (fun _=>rfl),vD,vD,xE,xE];simp[HasS]
theorem split_len(ps:List Rw)(a c f:Int):(gT ps a c f).length<=2*ps.length:=by
 have h1:=jM ps (none,some a);have h2:=jM ps (some c,none);simp only[gT,bP,aS];omega
noncomputable def doneF:Dd->List Rw->List Rw
 | .put s v,ps=>put1 ps (s,v)
 | .widen a m,ps=>knitF (gT ps a a m)
 | .narrow a m,ps=>knitF (gT ps a (a+m) (-m))
 | .move f,ps=>ps.map (shR f)
 | .stretch t b,ps=>knitF (mI t b ps)
 | .mirror,ps=>ps.reverse.map mirR
noncomputable def fillF:Dd->Option Int
 | .put _ v=>v
 |_=>none
theorem RZ{d:Dd}(h:okD d){ps:List Rw}(m:MapF ps):MapF (doneF d ps):=by
 cases d with
 |put s v=>exact aDx m h
 |widen a k=>exact wT (vA m.ord (by have:(0:Int)<=k:=h;omega))
 |narrow a k=>exact wT (vA m.ord (by omega))
 |move f=>exact sh_map m f
 |stretch t b=>exact wT (VP m.ord (by have:=h.1.1;omega) (by have:=h.2.1;omega))
 |mirror=>exact mir_map m
theorem aGl{d:Dd}(h:okD d){ps:List Rw}(m:MapF ps)(p v:Int):Tel (doneF d ps) p v↔(match cameF d p with | some q=>Tel ps q v | none=>fillF d=some v):=by
 cases d with
 | put s w =>
   simp only[doneF,cameF,fillF];rw[aDw m (r:=(s,w)) h];cases hs:hasS s p<;>simp
 | widen a k =>
   have hk:(0:Int)<=k:=h;simp only[doneF,cameF,fillF];rw[wP (vA m.ord (by omega)),KY]
   by_cases h1:p<a
   . have : ¬ a <= p - k := by omega
     simp[h1,this]
   . by_cases h2 : p < a + k
     . have : ¬ a <= p - k := by omega
       simp[h1,h2,this]
     . have : a <= p - k := by omega
       simp[h1,h2,this]
 | narrow a k =>
   have hk:(0:Int)<=k:=h;simp only[doneF,cameF,fillF];rw[wP (vA m.ord (by omega)),KY];have e:p - -k=p+k:=by omega
   rw[e]
   by_cases h1:p<a
   . have : ¬ a + k <= p + k := by omega
     simp[h1,this]
   . have : a + k <= p + k := by omega
     simp[h1,this]
 | move f =>
   simp only[doneF,cameF];exact EQ (aFu f) (fun _=>rfl) ps p v
 | stretch t b =>
   have ht:(0:Int)<t:=by have:=h.1.1;omega
   have hb:(0:Int)<b:=by have:=h.2.1;omega
   simp only[doneF,cameF];rw[wP (VP m.ord ht hb),str_tel ht hb]
 | mirror =>
   simp only[doneF,cameF];rw[EQ has_mir (fun _=>rfl),DA]
theorem UR(o:Option Int)(f:Int):fW [oi o,.int f]=some (.val (oi (o.map (·+f)))):=by
 unfold fW runG pO;cases o<;>simp[args]
theorem RB(o:Option Int):fE [oi o]=some (.val (oi (o.map (1 - ·)))):=by
 unfold fE runG oV;cases o<;>simp[args]
theorem vJ(ps:List Rw)(f:Int)(hl:ps.length<=1000000):eX [.lst (ps.map rwD),.int f]=some (.fresh ((ps.map (shR f)).map rwD)):=by
 unfold eX;refine xO ?_;unfold pM
 have cm:(compG (viaA (qL 0) asLT) [none,none,none,some 1] (tupG 3 (zY (zU 0) (zY (zU 1) (zY (zU 2) tgNil)))) (fun _=>some true) (mkT (qK (zE (qG 2 fW (zE (zH 0) (zE (zH 3) zZ))) (zE (qG 2 fW (zE (zH 1) (zE (zH 3) zZ))) (zE (qL 2) zZ)))))) [.v (.lst (ps.map rwD)),.v (.int f)]=some ((ps.map (shR f)).map rwD):=by
  refine jY (items:=ps.map rwD) (by simp) (by simp;omega) ?_;rw[xC rwD (fun r=>rwD (shR f r)),dX]
  . rfl
  . intro r _;obtain⟨a,b,c⟩:=r;exact⟨_,by simp[rwD,yE];rfl,by simp[UR];rfl⟩
 have fl:=yP (ps.map (shR f));show retOG _ [.v (.lst (ps.map rwD)),.v (.int f)]=_;rw[QB,cm,aH,aGa _ fl]
theorem aAa(ps:List Rw)(hl:ps.length<=1000000)(S:Sl):(compG (revA (qL 1)) [none,none,none] (tupG 3 (zY (zU 0) (zY (zU 1) (zY (zU 2) tgNil)))) (fun _=>some true) (mkT (qK (zE (qG 1 fE (zE (zH 1) zZ)) (zE (qG 1 fE (zE (zH 0) zZ)) (zE (qL 2) zZ)))))) [S,.v (.lst (ps.map rwD))]=some ((ps.reverse.map mirR).map rwD):=by
 refine jY (items:=ps.reverse.map rwD) (by simp[revA]) (by simp;omega) ?_;rw[xC rwD (fun r=>rwD (mirR r)),dX]
 . rfl
 . intro r _;obtain⟨a,b,c⟩:=r;exact⟨_,by simp[rwD,yE];rfl,by simp[RB];rfl⟩
theorem aAg(t b:Int)(o:Option Int)(ht:1<=t/\t<=1000)(hb:1<=b/\b<=1000):dC [.ins 4 [.non,.int t,.int b],oi o]=some (.val (oi (o.map (fR t b)))):=by
 cases o with
 |none=>unfold dC runG eO;simp[args]
 |some p=>simpa using HA t b p ht hb
theorem aCw(t b:Int)(ht:1<=t/\t<=1000)(hb:1<=b/\b<=1000)(ps:List Rw)(hl:ps.length<=1000000)(S:Sl) :
  (compG (viaA (qL 1) asLT) [none,none,none,some 0] (tupG 3 (zY (zU 0) (zY (zU 1) (zY (zU 2) tgNil)))) (fun _=>some true) (mkT (qK (zE (methV 1 [4] bS (qL 3) (zE (zH 0) zZ)) (zE (methV 1 [4] bS (qL 3) (zE (zH 1) zZ)) (zE (qL 2) zZ)))))) [.v (.ins 4 [.non,.int t,.int b]),.v (.lst (ps.map rwD)),S]=some ((ps.map (strR t b)).map rwD):=by
 refine jY (items:=ps.map rwD) (by simp) (by simp;omega) ?_;rw[xC rwD (fun r=>rwD (strR t b r)),dX]
 . rfl
 . intro r _;obtain⟨x,y,c⟩:=r;exact⟨_,by simp[rwD,yE];rfl,by simp[bS,aAg t b _ ht hb];rfl⟩
theorem aCv(qs:List Rw)(hl:qs.length<=1000000)(A B:Sl) :
  (compG (viaA (qL 2) asLT) [none] (zU 0) (orT (zP (zI isD (zI ixD (zH 0) (zA (.int 0))) (zA .non))) (zP (zI neD (zI ixD (zH 0) (zA (.int 0))) (zI ixD (zH 0) (4:))))) (qL 0)) [A,B,.v (.lst (qs.map rwD))]=some ((qs.filter keepR).map rwD):=by
 refine jY (items:=qs.map rwD) (by simp) (by simp;omega) ?_;refine IM rwD keepR rwD qs fun r _=>⟨_,rfl,?_,fun _=>by simp[yE]⟩
 obtain⟨x,y,c⟩:=r;cases x<;>cases y<;>simp[rwD,yE,keepR,BS]
theorem put_eq{ps:List Rw}(m:MapF ps)(hl:ps.length<=100000){s:Spn}{v:Option Int}(h:okS s):rQ [.lst (ps.map rwD),spD s,oi v]=some (.fresh ((put1 ps (s,v)).map rwD)):=by
 obtain⟨e1,e2⟩:=put1_eq m hl (v:=v) h;have fl:=yP (put1 ps (s,v));unfold rQ runG FG;generalize (overF ps s v).map rwD=A at *;generalize (put1 ps (s,v)).map rwD=B at *;simp[args,e1,e2,fl]
theorem done_eq{d:Dd}(h:okD d){ps:List Rw}(m:MapF ps)(hl:ps.length<=50000):methR 1 [0,1,2,3,4,5] cE (insD d) [.lst (ps.map rwD)]=some (.fresh ((doneF d ps).map rwD)):=by
 have fl:=yP (doneF d ps);cases d with
 | put s v =>
   have e:=put_eq m (by omega) (v:=v) h;simp only[doneF] at *;generalize (put1 ps (s,v)).map rwD=B at *;simp[insD,cE];unfold oZ runG oY;simp[args,List.lookup,e,fl]
 | widen a k =>
   have e1:=wG ps (none,some a) (by omega);have e2:=wG ps (some a,none) (by omega);have l1:=jM ps (none,some a);have l2:=jM ps (some a,none);have e3:=vJ (zV ps (some a,none)) k (by omega);have e4:=EZ (gT ps a a k) (by have:=split_len ps a a k;omega);simp only[doneF] at *;rw[show(gT ps a a k).map rwD=(zV ps (none,some a)).map rwD++((zV ps (some a,none)).map (shR k)).map rwD by simp[gT]] at e4;have n1:((zV ps (none,some a)).map rwD).length+(((zV ps (some a,none)).map (shR k)).map rwD).length<=16777216:=by simp only[aS];omega
   simp only[spD,EY,WS] at e1 e2;generalize (knitF (gT ps a a k)).map rwD=B at *;generalize ((zV ps (some a,none)).map (shR k)).map rwD=C at *;generalize (zV ps (some a,none)).map rwD=E at *;generalize (zV ps (none,some a)).map rwD=F at *;simp[insD,cE];unfold mS runG mR;simp[args,List.lookup,e1,e2,e3,e4,n1,fl]
 | narrow a k =>
   have e1:=wG ps (none,some a) (by omega);have e2:=wG ps (some (a+k),none) (by omega);have l1:=jM ps (none,some a);have l2:=jM ps (some (a+k),none);have e3:=vJ (zV ps (some (a+k),none)) (-k) (by omega);have e4:=EZ (gT ps a (a+k) (-k)) (by have:=split_len ps a (a+k) (-k);omega);simp only[doneF] at *;rw[show(gT ps a (a+k) (-k)).map rwD=(zV ps (none,some a)).map rwD++((zV ps (some (a+k),none)).map (shR (-k))).map rwD by simp[gT]] at e4;have n1:((zV ps (none,some a)).map rwD).length+(((zV ps (some (a+k),none)).map (shR (-k))).map rwD).length<=16777216:=by simp only[aS];omega
   simp only[spD,EY,WS] at e1 e2;generalize (knitF (gT ps a (a+k) (-k))).map rwD=B at *;generalize ((zV ps (some (a+k),none)).map (shR (-k))).map rwD=C at *;generalize (zV ps (some (a+k),none)).map rwD=E at *;generalize (zV ps (none,some a)).map rwD=F at *;simp[insD,cE];unfold lP runG lN;simp[args,List.lookup,e1,e2,e3,e4,n1,fl]
 | move f =>
   have e:=vJ ps f (by omega);simp only[doneF] at *;generalize (ps.map (shR f)).map rwD=B at *;simp[insD,cE];unfold nW runG nV;simp[args,List.lookup,e,fl]
 | stretch t b =>
   have e1:=fun S=>aCw t b h.1 h.2 ps (by omega) S;have e2:=fun A B=>aCv (ps.map (strR t b)) (by simp;omega) A B
   have e4:=EZ (mI t b ps) (by
    have:(mI t b ps).length<=(ps.map (strR t b)).length:=SQ _ _
    rw[aS] at this;omega)
   simp only[doneF] at *;rw[show(ps.map (strR t b)).filter keepR=mI t b ps from rfl] at e2;generalize (knitF (mI t b ps)).map rwD=B at *;generalize (mI t b ps).map rwD=C at *;generalize (ps.map (strR t b)).map rwD=E at *;simp[insD,cE];unfold kU runG kT;simp[args,e1,e2,e4,fl]
 | mirror =>
   have e:=fun S=>aAa ps (by omega) S;simp only[doneF] at *;generalize (ps.reverse.map mirR).map rwD=B at *;simp[insD,cE];unfold lV runG lU;simp[args,e,fl]
open Builtin.Int (intBits)
structure DrawM(rows:List Rw)(s:Int):Prop where
 map:MapF rows
 fin:∀r∈rows,∃lo bh,r.1=some lo/\r.2.1=some bh/\bh<=s
 last:∀r,rows.getLast?=some r->r.2.1=some s
theorem DrawM.nil(s:Int):DrawM [] s:=⟨MapF.nil,(fun _ h=>nomatch h),fun r h=>by simp at h⟩
theorem DrawM.snoc{rows:List Rw}{s lo bh v:Int}(h:DrawM rows s)(h1:s<=lo)(h2:lo<bh)(h3:∀r,rows.getLast?=some r->lo=s->r.2.2≠some v):DrawM (rows++[(some lo,some bh,some v)]) bh:=by
 have d:YO rows s:=⟨h.map.ord,h.fin⟩
 have d2:=d.snoc (v:=some v) h1 h2;refine⟨⟨d2.ord,fun r hr=>?_,fun i a b e1 e2=>?_⟩,d2.fin,fun r hr=>?_⟩
 . rcases bJ.mp hr with hr | hr
   . exact h.map.val r hr
   . have : r = (some lo, some bh, some v) := by simpa using hr
     subst this;simp
 . by_cases hi : i + 1 < rows.length
   . rw[aY (by omega)] at e1;rw[aY hi] at e2;exact h.map.adj i a b e1 e2
   . have l2 := (aV.mp e2).1;simp only [bP,aJ,dH] at l2;have hi2:i+1=rows.length:=by omega
     rw[aY (by omega)] at e1;rw[bV (by omega),hi2] at e2;simp at e2;subst e2
     have hl:rows.getLast?=some a:=by
      rw[List.getLast?_eq_getElem?,<- e1];congr 1;omega
     have:=h.last a hl;rintro⟨q1,q2⟩;rw[this] at q1;simp at q1;exact h3 a hl q1.symm q2
 . simp at hr;subst hr;rfl
theorem last_rw{rows:List Rw}{r:Rw}(h:rows.getLast?=some r):ixD (.lst (rows.map rwD)) (.int (-1))=some (rwD r):=by
 obtain⟨l,rfl⟩:∃l,rows=l++[r]:=by
  have hne:rows≠[]:=by intro z;subst z;simp at h
  refine⟨rows.dropLast,?_⟩;rw[List.getLast?_eq_some_getLast hne] at h;cases h;exact(FK hne).symm
 rw[bN,aO,cH];exact wS _ _
theorem LW{r:Rw}{t:List Rw}(m:MapF (r::t)):MapF ((none,r.2)::t):=by
 refine⟨LR m.ord,fun z hz=>?_,fun i a b e1 e2=>?_⟩
 . rcases aD.mp hz with rfl | hz
   . exact m.val r aN
   . exact m.val z (aG _ hz)
 . cases i with
   | zero =>
     simp at e1;subst e1;exact m.adj 0 r b rfl (by simpa using e2)
   |succ i=>exact m.adj (i+1) a b (by simpa using e1) (by simpa using e2)
theorem RE{r:Rw}{t:List Rw}(m:MapF (t++[r])):MapF (t++[(r.1,none,r.2.2)]):=by
 refine⟨QV m.ord,fun z hz=>?_,fun i a b e1 e2=>?_⟩
 . rcases bJ.mp hz with hz | hz
   . exact m.val z (aW _ hz)
   . have : z = (r.1, none, r.2.2) := by simpa using hz
     subst this;exact m.val r (by simp)
 . have l2 := (aV.mp e2).1;simp only [bP,aJ,dH] at l2;rw [aY (by omega)] at e1
   by_cases hi:i+1<t.length
   . rw[aY hi] at e2;exact m.adj i a b (by rw[aY (by omega)];exact e1) (by rw[aY hi];exact e2)
   . have hi2 : i + 1 = t.length := by omega
     rw[bV (by omega),hi2] at e2;simp at e2;subst e2;exact m.adj i a r (by rw[aY (by omega)];exact e1) (by rw[bV (by omega),hi2];simp)
theorem GW{ga:D->List Sl->Option (List Sl)}{body:FS}(P:Nat->List Sl->Prop)(N:Nat)(H:∀k,k<N->∀ds,P k ds->∃ds1 ds2,ga (.int (k:Int)) ds=some ds1/\body ds1=some (.nx ds2)/\P (k+1) ds2) :
  ∀n k ds,k+n=N->P k ds->∃ds',qZ ga body ((List.range' k n).map fun(j:Nat)=>D.int (0+(j:Int))) ds=some (.nx ds')/\P N ds'
 | 0, k, ds, h, hp => ⟨ds, rfl, by have : k = N := by omega
                                   subst this;exact hp⟩
 | n + 1, k, ds, h, hp => by
   obtain⟨ds1,ds2,e1,e2,h2⟩:=H k (by omega) ds hp;obtain⟨ds',e,h'⟩:=GW P N H n (k+1) ds2 (by omega) h2;refine⟨ds',?_,h'⟩;rw[List.range'_succ,aO,qZ];have:(0+(k:Int))=(k:Int):=by omega
   rw[this,e1,aH,e2,aH];exact e
@[simp] theorem notD_rw(r:Rw):notD (rwD r) .non=some (.bl true):=rfl
end FL
namespace FL
open PySem PySem.Spec PyProof.Rows L2
theorem YS(ps:List Rw)(p:Int):pC [.lst (ps.map rwD),.int p]=some (.val (oi (match ps.find? (fun r=>has3 r p) with | some r=>r.2.2 | none=>none))):=by
 have lp:∀(qs:List Rw) (R a b c:Sl),(∃r,qs.find? (fun r=>has3 r p)=some r/\qZ (tupG 3 (zY (zU 2) (zY (zU 3) (zY (zU 4) tgNil)))) fL (qs.map rwD) [R,.v (.int p),a,b,c]=some (.rt (.val (oi r.2.2)))) ∨
   (qs.find? (fun r=>has3 r p)=none/\∃a' b' c',qZ (tupG 3 (zY (zU 2) (zY (zU 3) (zY (zU 4) tgNil)))) fL (qs.map rwD) [R,.v (.int p),a,b,c]=some (.nx [R,.v (.int p),a',b',c'])):=by
  intro qs
  induction qs with
  |nil=>intro R a b c;exact .inr ⟨rfl,a,b,c,rfl⟩
  | cons r t ih =>
    intro R a b c;obtain⟨x,y,v⟩:=r;have tg:tupG 3 (zY (zU 2) (zY (zU 3) (zY (zU 4) tgNil))) (rwD (x,y,v)) [R,.v (.int p),a,b,c]=some [R,.v (.int p),.v (oi x),.v (oi y),.v (oi v)]:=by simp[rwD]
    cases h:has3 (x,y,v) p with
    | true =>
      left;refine⟨(x,y,v),by simp[h],?_⟩
      have bd:fL [R,.v (.int p),.v (oi x),.v (oi y),.v (oi v)]=some (.rt (.val (oi v))):=by
       obtain⟨g1,g2⟩:=(jX _ _).mp h;unfold fL;cases x with
       | none => cases y with
         |none=>simp
         |some y=>have:=g2 y rfl;simp[this]
       | some x => cases y with
         |none=>have:=g1 x rfl;simp[this]
         |some y=>have h1:=g1 x rfl;have h2:=g2 y rfl;simp[h1,h2]
      simp only[aO,qZ,tg,aH,bd]
    | false =>
      have bd:fL [R,.v (.int p),.v (oi x),.v (oi y),.v (oi v)]=some (.nx [R,.v (.int p),.v (oi x),.v (oi y),.v (oi v)]):=by
       have hn : ¬((∀a,x=some a->a<=p)/\(∀b,y=some b->p<b)):=fun z=>by
        have:=(jX (x,y,v) p).mpr z;rw[h] at this;cases this
       unfold fL;cases x with
       | none => cases y with
         |none=>exact(hn ⟨(fun _ z=>nomatch z),(fun _ z=>nomatch z)⟩).elim
         | some y =>
           have : ¬p<y:=fun z=>hn ⟨(fun _ z=>nomatch z),fun b e=>by cases e;exact z⟩;simp[this]
       | some x => cases y with
         | none =>
           have : ¬x<=p:=fun z=>hn ⟨fun b e=>by cases e;exact z,(fun _ z=>nomatch z)⟩;simp[this]
         | some y =>
           by_cases h1:x<=p
           . have : ¬p<y := fun z => hn ⟨fun b e => by cases e;exact h1, fun b e => by cases e;exact z⟩;simp[h1,this]
           . simp[h1]
      have fd:((x,y,v)::t).find? (fun r=>has3 r p)=t.find? (fun r=>has3 r p):=by simp[h]
      rw[fd];rcases ih R (.v (oi x)) (.v (oi y)) (.v (oi v)) with⟨r,h1,h2⟩ | ⟨h1,a',b',c',h2⟩
      . exact .inl ⟨r,h1,by simp only[aO,qZ,tg,aH,bd];exact h2⟩
      . exact .inr ⟨h1,a',b',c',by simp only[aO,qZ,tg,aH,bd];exact h2⟩
 unfold pC runG sS;rcases lp ps (.v (.lst (ps.map rwD))) .no .no .no with⟨r,h1,h2⟩ | ⟨h1,a',b',c',h2⟩
 . rw[h1];generalize ps.map rwD=L at *;simp[args,h2]
 . rw[h1];generalize ps.map rwD=L at *;simp[args,h2]
theorem aCp{ps:List Rw}(o:Ord ps)(p:Int):pC [.lst (ps.map rwD),.int p]=some (.val (oi (valL ps p))):=by
 rw[YS,YU o]
 all_goals (cases ps.find? (fun r=>has3 r p)<;>rfl)
noncomputable def dueD(d:Dd)(ps:List Rw)(p:Int):Option Int:=match cameF d p with | some q=>valL ps q | none=>fillF d
theorem aGk{d:Dd}(h:okD d){ps:List Rw}(m:MapF ps)(p:Int):valL (doneF d ps) p=dueD d ps p:=by
 have key:∀v,valL (doneF d ps) p=some v↔dueD d ps p=some v:=fun v=>by
  rw[wV (RZ h m).ord,aGl h m];unfold dueD;cases cameF d p with
  |none=>simp
  |some q=>simp only;rw[wV m.ord]
 cases h1:valL (doneF d ps) p with
 | none =>
   cases h2:dueD d ps p with
   |none=>rfl
   |some v=>rw[(key v).mpr h2] at h1;cases h1
 |some v=>exact((key v).mp h1).symm
theorem BY{t:FT}{f g:FS}{ds:List Sl}(h:t ds=some true):ifG t f g ds=f ds:=by simp[h]
theorem wY{t:FT}{f g:FS}{ds:List Sl}(h:t ds=some false):ifG t f g ds=g ds:=by simp[h]
end FL
namespace FL
open PySem PyProof.Rows L2 NumText
theorem kitS:kitF "str" "str" = some true/\kitF "int" "str" = some false/\kitF "NoneType" "str" = some false/\kitF "tuple" "str" = some false/\kitF "list" "str" = some false/\kitF "str" "tuple" = some false/\kitF "str" "bool" = some false:=by
 refine⟨?_,?_,?_,?_,?_,?_,?_⟩<;>decide +kernel
@[simp] theorem isi_str_str(x:Str):isiD "str" (.str x)=some (.bl true):=by simp[isiD,tyD,kitS.1]
theorem t_empty:Str.ofString "" = txS []:=by decide
end FL
namespace FL
open PySem PySem.Spec PyProof.Rows L2
def Ltr(cs:List Nat):Prop:=∀c∈cs,97<=c/\c<=122
def Nm(cs:List Nat):Prop:=1<=cs.length/\cs.length<=8/\Ltr cs
noncomputable def abcL:List Nat:=[97,98,99,100,101,102,103,104,105,106,107,108,109,110,111,112,113,114,115,116,117,118,119,120,121,122]
theorem t_abc:Str.ofString "abcdefghijklmnopqrstuvwxyz" = txS abcL:=by decide
theorem mem_abc{c:Nat}(h:97<=c/\c<=122):c∈abcL:=by
 have:abcL=List.range' 97 26:=by decide
 rw[this,List.mem_range'_1];omega
theorem Ltr.asc{cs:List Nat}(h:Ltr cs):Asc cs:=fun c hc=>by have:=h c hc;omega
theorem Ltr.app{a b:List Nat}(h:Ltr a)(g:Ltr b):Ltr (a++b):=fun c hc=>(bJ.mp hc).elim (h c) (g c)
theorem Ltr.take{a:List Nat}(h:Ltr a)(n:Nat):Ltr (a.take n):=fun c hc=>h c (mZ hc)
theorem Ltr.drop{a:List Nat}(h:Ltr a)(n:Nat):Ltr (a.drop n):=fun c hc=>h c (SX hc)
theorem HE{cs:List Nat}(h:Nm cs):gN [.str (txS cs)]=some (.val (.bl true)):=by
 obtain⟨h1,h8,hL⟩:=h;have lf:=len_tx cs (by omega)
 have comp:compG (viaA (qL 0) asS) [none] (zU 0) (fun _=>some true) (zI inS (zH 0) (zA (.str (Str.ofString "abcdefghijklmnopqrstuvwxyz")))) [.v (.str (txS cs))]=some (cs.map fun _=>D.bl true):=by
  rw[t_abc];refine jY (items:=cs.map fun c=>D.str (txS [c])) (by simp;rfl) (by simp;omega) ?_;rw[xC (fun c=>D.str (txS [c])) (fun c=>D.bl true) cs];intro c hc;have:=in_one abcL c;rw[decide_eq_true (mem_abc (hL c hc))] at this;exact⟨_,rfl,by simp[yE,this]⟩
 have al:allD [.lst (cs.map fun _=>D.bl true)]=some (.bl true):=by
  have e:(cs.map fun _=>D.bl true)=(cs.map fun _=>true).map D.bl:=by simp
  rw[e,aGx];simp
 refine xO ?_;unfold pN;have ar:args 1 [.str (txS cs)]=[.v (.str (txS cs))]:=by simp[args]
 have k1 : ¬((cs.length:Int)<1):=by omega
 have k2 : ¬((8:Int)<(cs.length:Int)):=by omega
 rw[ar,qJ (ds':=[.v (.str (txS cs))]) (by simp),qJ (ds':=[.v (.str (txS cs))]) (by simp[lf,k1,k2])];simp only[retG_eq,SH,IJ,NK,vS,comp,cF,aH,al,flatR];simp
theorem abc_ix(n:Int):∃c,(97<=c/\c<=122)/\ixD (.str (Str.ofString "abcdefghijklmnopqrstuvwxyz")) (.int (n%26))=some (.str (txS [c])):=by
 have h0:=eI n (show(26:Int)≠0 by decide);have h1:=fO n (show(0:Int)<26 by decide);generalize n%26=i at *
 have e:ixD (.str (txS abcL)) (.int i)=(abcL[i.toNat]?).map fun c=>D.str (txS [c]):=by
  show(if (txS abcL).length<=sizeLine then (atI abcL i).map fun c=>D.str ⟨#[c]⟩ else none)=_;rw[vM,if_pos (by decide)];unfold atI;rw[FC h0 (by show i<26;exact h1)];rfl
 rw[t_abc,e];have hl:i.toNat<abcL.length:=by show i.toNat<26;omega
 rw[bI hl];refine⟨abcL[i.toNat],?_,rfl⟩;have:∀c∈abcL,97<=c/\c<=122:=by decide
 exact this _ (pX hl)
theorem YQ(n:Int)(S x3:Sl)(cs:List Nat)(h:cs.length<1000):∃c,(97<=c/\c<=122)/\pP [.v (.int n),S,.v (.str (txS cs)),x3]=some (.nx [.v (.int (n/26+5)),S,.v (.str (txS (cs++[c]))),x3]):=by
 obtain⟨c,hc,e⟩:=abc_ix n;have ad:=OV cs [c] (by simp;omega);refine⟨c,hc,?_⟩;unfold pP;simp[e,ad]
theorem KN(S:Sl):∀(items:List D) (n:Int) (cs:List Nat) (x3:Sl),cs.length+items.length<=1000->Ltr cs->∃(n':Int) (cs':List Nat) (y3:Sl),cs'.length=cs.length+items.length/\Ltr cs' ∧
  qZ (zU 3) pP items [.v (.int n),S,.v (.str (txS cs)),x3]=some (.nx [.v (.int n'),S,.v (.str (txS cs')),y3])
 |[],n,cs,x3,_,hL=>⟨n,cs,x3,rfl,hL,rfl⟩
 | d :: r, n, cs, x3, hl, hL => by
   simp only[aJ] at hl;obtain⟨c,hc,turn⟩:=YQ n S (.v d) cs (by omega);obtain⟨n',cs',y3,l,hL',e⟩:=KN S r (n/26+5) (cs++[c]) (.v d) (by simp;omega) (hL.app fun x hx=>by rw[bA.mp hx];exact hc);refine⟨n',cs',y3,by simp at l ⊢;omega,hL',?_⟩;simp only[qZ,zU,aH,cU,cT,turn];exact e
theorem MV(n k:Int)(h1:1<=k)(h8:k<=8):∃cs:List Nat,(cs.length:Int)=k/\Ltr cs/\iW [.int n,.int k]=some (.val (.str (txS cs))):=by
 have hr:(fC 0 k.toNat).length=k.toNat:=by simp[fC]
 obtain⟨n',cs,y3,l,hL,e⟩:=KN (.v (.int k)) (fC 0 k.toNat) n [] .no (by rw[hr];simp;omega) (fun _ h=>nomatch h);have ok:okR k:=xQ (by omega) (by omega);refine⟨cs,by rw[hr] at l;simp at l;omega,hL,xO ?_⟩;unfold BD;rw[qJ (ds':=[.v (.int n),.v (.int k),.v (.str (txS [])),.no]) (by simp[args,<- t_empty]),qJ (ds':=[.v (.int n'),.v (.int k),.v (.str (txS cs)),y3]) (by simp[ok,e])];simp
theorem name_ex(s c:Int):∃cs,Nm cs/\nK [.int s,.int c]=some (.val (.str (txS cs))):=by
 obtain⟨w,lw,hw,ew⟩:=MV (s/8) (1+s%8) (by omega) (by omega);obtain⟨g,lg,hg,eg⟩:=MV (c/40) 1 (by omega) (by omega);obtain⟨z,lz,hz,ez⟩:=MV (c/40) (1+c/5%8) (by omega) (by omega);have sz:(0:Int)<1+s%8:=by omega
 have m0:=eI (c/5) (show(1+s%8:Int)≠0 by omega);have m1:=fO (c/5) sz;have r1:=jR (c/5) sz;generalize hk:1+s%8=k at *;generalize c/5%k=a at *;obtain⟨n,rfl⟩:∃n:Nat,a=(n:Int):=⟨a.toNat,by omega⟩
 have lw':w.length<=16777216:=by omega
 have lgw:(w++g).length<=16777216:=by simp;omega
 unfold nK;have ar:args 6 [.int s,.int c]=[.v (.int s),.v (.int c),.no,.no,.no,.no]:=by simp[args]
 have pre:∀q:FS,(qB (jU 2 (zI yF (4:) (zI jF (zH 0) (zA (.int 8))))) (qB (jU 3 (qG 2 iW (zE (zI qW (zH 0) (zA (.int 8))) (zE (zH 2) zZ)))) (qB (jU 4 (zI jF (zI qW (zH 1) (zA (.int 5))) (zH 2))) (qB (jU 5 (qG 2 iW (zE (zI qW (zH 1) (zA (.int 40))) (zE (4:) zZ)))) q)))) (args 6 [.int s,.int c])=q [.v (.int s),.v (.int c),.v (.int k),.v (.str (txS w)),.v (.int (n:Int)),.v (.str (txS g))]:=by
  intro q;rw[ar,qJ (ds':=[.v (.int s),.v (.int c),.v (.int k),.no,.no,.no]) (by simp[hk]),qJ (ds':=[.v (.int s),.v (.int c),.v (.int k),.v (.str (txS w)),.no,.no]) (by simp[ew]),qJ (ds':=[.v (.int s),.v (.int c),.v (.int k),.v (.str (txS w)),.v (.int (n:Int)),.no]) (by simp[r1]),qJ (ds':=[.v (.int s),.v (.int c),.v (.int k),.v (.str (txS w)),.v (.int (n:Int)),.v (.str (txS g))]) (by simp[eg])]
 have hrun:∀cs,iA (args 6 [.int s,.int c])=some (.rt (.val (.str (txS cs))))->runG iA 6 [.int s,.int c]=some (.val (.str (txS cs))):=fun cs h=>xO h;have s1:=kF w (b:=n) (by omega);have hnn:((n+1:Nat):Int)=(n:Int)+1:=by omega
 have s2:=TJ w (n+1);have s3:=kF w (b:=n+1) (by omega);rw[hnn] at s2 s3;have a1:=OV (w.take n) g (by simp;omega);have a2:=OV (w.take n++g) (w.drop (n+1)) (by simp;omega);have a3:=OV w g (by omega);rcases(by omega:c%5=1\/c%5=2\/c%5=3\/c%5=4\/c%5=0) with h | h | h | h | h
 . refine⟨w.take n ++ g ++ w.drop (n + 1), ⟨by simp;omega, by simp;omega, ((hw.take n).app hg).app (hw.drop _)⟩, hrun _ ?_⟩;unfold iA;rw[pre];simp[h,slsS,soP,noP,vM,lw',s1,s2,a1,a2]
 . refine⟨w.take (n + 1), ⟨by simp;omega, by simp;omega, hw.take _⟩, hrun _ ?_⟩;unfold iA;rw[pre];simp[h,slsS,soP,noP,vM,lw',s3]
 . have lmin : (w ++ g).length <= 9 := by simp; omega
   refine⟨(w++g).take 8,⟨by simp;omega,by simp;omega,(hw.app hg).take _⟩,hrun _ ?_⟩
   have s4:Txt.slice (txS (w++g)) none (some 8)=txS ((w++g).take 8):=by
    by_cases hl:8<=(w++g).length
    . exact kF (w++g) (b:=8) hl
    . rw [lF (by omega)]
      have hc:Txt.slice (txS (w++g)) none (some 8)=Txt.slice (txS (w++g)) none (some ((w++g).length:Int)):=by
       rw[yX,yX];unfold StrLaws.sliceText
       have:Builtin.Str.strSliceIndices none (some 8) 1 (txS (w++g)).length=Builtin.Str.strSliceIndices none (some ((w++g).length:Int)) 1 (txS (w++g)).length:=by
        rw[vM];generalize (w++g).length=m at *;have h1 : ¬((8:Int)<0):=by omega
        have h2 : ¬((m:Int)<0):=by omega
        have e1:max (0:Int) (min 8 (m:Int))=m:=by omega
        have e2:max (0:Int) (min (m:Int) (m:Int))=m:=by omega
        simp only[Builtin.Str.strSliceIndices,h1,h2,if_false,e1,e2,show((1:Int)>0)=True from by simp,if_true]
       rw[this]
      rw[hc,kF (w++g) (aU _),List.take_length]
   unfold iA;rw[pre];generalize hwg:w++g=wg at *;simp[h,slsS,soP,noP,a3,vM,lgw,s4]
 . refine⟨z, ⟨by omega, by omega, hz⟩, hrun _ ?_⟩;unfold iA;rw[pre];simp[h,ez]
 . refine⟨w, ⟨by omega, by omega, hw⟩, hrun _ ?_⟩;unfold iA;rw[pre];simp[h]
end FL
section
open PySem PyProof.Rows L2 FL
end
namespace FL
open PySem PySem.Spec PyProof.Rows L2
open Builtin.Int (intBits)
theorem WJ:powD (.int (10 ^ 33)) (.int 6)=some (.int ((10 ^ 33) ^ 6)):=AI (AV (n:=110) (m:=6) (by decide) (by decide) (by decide) (by decide))
theorem aAd(C:Sl)(rows:List Rw)(s c:Int)(hc:intBits c<=1048576)(hz:rows.length<16777216)(d:DrawM rows s)(x4 x5 x6 x7:Sl):∃(lo bh v:Int) (y4 y6:Sl),DrawM (rows++[(some lo,some bh,some v)]) bh ∧
  pS [C,.own (rows.map rwD),.v (.int s),.v (.int c),x4,x5,x6,x7]=some (.nx [C,.own ((rows++[(some lo,some bh,some v)]).map rwD),.v (.int bh),.v (.int c),y4,.v (.int lo),y6,.v (.int v)]):=by
 have p1:powD (.int 10) (.int 60)=some (.int (10 ^ 60)):=pow10 (by decide) (by decide);have p2:powD (.int 10) (.int 59)=some (.int (10 ^ 59)):=pow10 (by decide) (by decide);have p3:powD (.int 10) (.int 33)=some (.int (10 ^ 33)):=pow10 (by decide) (by decide);have p4:=WJ;have b24:intBits (c/120)<=1048576:=MJ (by decide) hc;have m1:yV (.int (c/120)) (.int 48271)=some (.int (c/120*48271)):=yU (VF b24 (jO (m:=200) (by decide)) (by decide));have m2:yV (.int (c/120)) (.int 69621)=some (.int (c/120*69621)):=yU (VF b24 (jO (m:=200) (by decide)) (by decide));have m3:yV (.int 9) (.int ((10 ^ 33) ^ 6))=some (.int (9*(10 ^ 33) ^ 6)):=yU (.of_left (jO (by decide)));have r1:∀x,jF (.int x) (.int (10 ^ 60))=some (.int (x%10 ^ 60)):=fun x=>jR x (by decide);have r2:∀x,jF (.int x) (.int (10 ^ 60+7))=some (.int (x%(10 ^ 60+7))):=fun x=>jR x (by decide);have r3:∀x,jF (.int x) (.int (10 ^ 60+9))=some (.int (x%(10 ^ 60+9))):=fun x=>jR x (by decide);have z2:∀x y z w:D,ixD (.lst [x,y,z,w]) (.int 2)=some z:=fun x y z w=>by rw[jL _ (by decide) (by simp)];rfl
 have z3:∀x y z w:D,ixD (.lst [x,y,z,w]) (.int 3)=some w:=fun x y z w=>by rw[jL _ (by decide) (by simp)];rfl
 have n60:∀x:Int,0<=x%10 ^ 60:=fun x=>eI x (by decide);have n69:∀x:Int,0<=x%(10 ^ 60+9):=fun x=>eI x (by decide);generalize hfar:(9:Int)*(10 ^ 33) ^ 6=far at *;generalize hq:c/120=q at *
 obtain⟨g,hg,eg⟩:∃g:Int,0<=g/\ixD (.lst [.int 0,.int 0,.int (1+q%9),.int (q%10 ^ 60)]) (.int (c%4))=some (.int g):=by
  rcases(by omega:c%4=0\/c%4=1\/c%4=2\/c%4=3) with h | h | h | h
  . exact⟨0,by omega,by simp[h]⟩
  . exact⟨0,by omega,by simp[h]⟩
  . exact⟨1+q%9,by omega,by rw[h,z2]⟩
  . exact⟨q%10 ^ 60,n60 q,by rw[h,z3]⟩
 obtain⟨lo0,el⟩:∃g:Int,ixD (.lst [.int (q%41-20),.int (q%10 ^ 60),.int (far+q%10 ^ 60),.int (1-far)]) (.int (c%4))=some (.int g):=by
  rcases(by omega:c%4=0\/c%4=1\/c%4=2\/c%4=3) with h | h | h | h
  . exact⟨_,by rw[h,jL _ (by decide) (by simp)];rfl⟩
  . exact⟨_,by rw[h,jL _ (by decide) (by simp)];rfl⟩
  . exact⟨_,by rw[h,z2]⟩
  . exact⟨_,by rw[h,z3]⟩
 obtain⟨w,hw,ew⟩:∃w:Int,1<=w/\ixD (.lst [.int 1,.int (1+q/9%9),.int (1+q*69621%(10 ^ 60+9))]) (.int (c/20%3))=some (.int w):=by
  rcases(by omega:c/20%3=0\/c/20%3=1\/c/20%3=2) with h | h | h
  . exact⟨1,by omega,by simp[h]⟩
  . exact⟨1+q/9%9,by omega,by simp[h]⟩
  . exact⟨1+q*69621%(10 ^ 60+9),by have:=n69 (q*69621);omega,by rw[h,XG]⟩
 obtain⟨v,ev⟩:∃v:Int,ixD (.lst [.int 0,.int 1,.int (q%19-9),.int (q*48271%(10 ^ 60+7)-10 ^ 59),.int 1]) (.int (c/4%5))=some (.int v):=by
  rcases(by omega:c/4%5=0\/c/4%5=1\/c/4%5=2\/c/4%5=3\/c/4%5=4) with h | h | h | h | h
  . exact⟨0,by rw[h,jL _ (by decide) (by simp)];rfl⟩
  . exact⟨1,by rw[h,jL _ (by decide) (by simp)];rfl⟩
  . exact⟨_,by rw[h,jL _ (by decide) (by simp)];rfl⟩
  . exact⟨_,by rw[h,jL _ (by decide) (by simp)];rfl⟩
  . exact⟨1,by rw[h,jL _ (by decide) (by simp)];rfl⟩
 unfold pS;cases hr:rows.getLast? with
 | none =>
   have hz:rows=[]:=List.getLast?_eq_none_iff.mp hr;subst hz;have ne0:neD (.lst []) (.lst [])=some (.bl false):=yZ [];have eq0:eqD (.lst []) (.lst [])=some (.bl true):=IG [];refine⟨lo0,lo0+w,v,.v (.int q),.v (.int far),(DrawM.nil lo0).snoc (by omega) (by omega) (fun r h=>by simp at h),?_⟩;simp[-Int.reducePow,-Nat.reducePow,p1,p2,p3,p4,m1,m2,m3,r1,r2,r3,hq,hfar,eg,el,ew,ev,ne0,eq0,rwD]
 | some r =>
   have hne:rows.isEmpty=false:=by
    cases rows with
    |nil=>simp at hr
    |cons _ _=>rfl
   have ne0:=yZ rows;have eq0:=IG rows;rw[hne] at ne0 eq0;have lr:=last_rw hr
   obtain⟨u,hu⟩:∃u,r.2.2=some u:=by
    cases hv:r.2.2 with
    |none=>exact(d.map.val r (List.mem_of_getLast? hr) hv).elim
    |some u=>exact⟨u,rfl⟩
   obtain⟨ra,rb,rc⟩:=r;simp only at hu;subst hu;have app:∀x:Int,rows.map rwD++[D.tup [.int (s+g),.int (s+g+w),.int x]]=(rows++[(some (s+g),some (s+g+w),some x)]).map rwD:=fun x=>by simp[rwD]
   by_cases hcnd:s+g=s/\v=u
   . have hg0 : g = 0 := by omega
     refine⟨s+g,s+g+w,v+1,.v (.int q),x6,d.snoc (by omega) (by omega) (fun q h _=>by rw[hr] at h;cases h;simp;omega),?_⟩;rw[<- app];generalize hG:rows.map rwD=R at *;have hl:R.length<16777216:=by rw[<- hG];simpa using hz
     simp[-Int.reducePow,-Nat.reducePow,p1,p2,p3,p4,m1,m2,m3,r1,r2,r3,hq,eg,ew,ev,ne0,eq0,lr,hcnd.1,hcnd.2,hl]
   . refine ⟨s + g, s + g + w, v, .v (.int q), x6, d.snoc (by omega) (by omega) (fun q h h2 => by rw [hr] at h; cases h; simp; intro z; exact hcnd ⟨by omega, z.symm⟩), ?_⟩;rw [<- app];generalize hG:rows.map rwD=R at *;have hl:R.length < 16777216:=by rw [<- hG]; simpa using hz
     by_cases h1:g=0
     . have h2 : ¬v=u := fun z => hcnd ⟨by omega, z⟩;simp[-Int.reducePow,-Nat.reducePow,p1,p2,p3,p4,m1,m2,m3,r1,r2,r3,hq,eg,ew,ev,ne0,eq0,lr,h1,h2,hl]
     . have h3 : ¬ s + g = s := by omega
       simp[-Int.reducePow,-Nat.reducePow,p1,p2,p3,p4,m1,m2,m3,r1,r2,r3,hq,eg,ew,ev,ne0,eq0,lr,h1,h3,hl]
theorem LX(C:Sl):∀(cs:List Int) (rows:List Rw) (s:Int) (x3 x4 x5 x6 x7:Sl),(∀c∈cs,intBits c<=1048576)->rows.length+cs.length<16777216->DrawM rows s->∃(rows':List Rw) (s':Int) (y3 y4 y5 y6 y7:Sl),DrawM rows' s'/\rows'.length=rows.length+cs.length ∧
  qZ (zU 3) pS (cs.map D.int) [C,.own (rows.map rwD),.v (.int s),x3,x4,x5,x6,x7]=some (.nx [C,.own (rows'.map rwD),.v (.int s'),y3,y4,y5,y6,y7])
 |[],rows,s,x3,x4,x5,x6,x7,_,_,d=>⟨rows,s,x3,x4,x5,x6,x7,d,rfl,rfl⟩
 | c :: cs, rows, s, x3, x4, x5, x6, x7, hb, hz, d => by
   simp only[aJ] at hz;obtain⟨lo,bh,v,y4,y6,d',turn⟩:=aAd C rows s c (hb c aN) (by omega) d x4 x5 x6 x7;obtain⟨rows',s',y3,y4',y5,y6',y7,d2,l2,e⟩:=LX C cs (rows++[(some lo,some bh,some v)]) bh (.v (.int c)) y4 (.v (.int lo)) y6 (.v (.int v)) (fun x hx=>hb x (aG _ hx)) (by simp;omega) d';refine⟨rows',s',y3,y4',y5,y6',y7,d2,by simp at l2;simp only[aJ];omega,?_⟩;simp only[aO,qZ,zU,aH,cU,cT,turn];exact e
theorem map3_ex(cs:List Int)(hb:∀c∈cs,intBits c<=1048576)(hl:cs.length<=1000):∃rows:List Rw,MapF rows/\rows.length=cs.length/\pE [.lst (cs.map D.int)]=some (.fresh (rows.map rwD)):=by
 obtain⟨rows,s',y3,y4,y5,y6,y7,d,l,e⟩:=LX (.v (.lst (cs.map D.int))) cs [] 0 .no .no .no .no .no hb (by simp;omega) (DrawM.nil 0);have l:rows.length=cs.length:=by simpa using l
 unfold pE runG BG
 rw[qJ (ds':=[.v (.lst (cs.map D.int)),.own [],.no,.no,.no,.no,.no,.no]) (by simp[args]),qJ (ds':=[.v (.lst (cs.map D.int)),.own [],.v (.int 0),.no,.no,.no,.no,.no]) (by simp),
  qJ (ds':=[.v (.lst (cs.map D.int)),.own (rows.map rwD),.v (.int s'),y3,y4,y5,y6,y7]) (by simp only[cH] at e;simp[e])]
 cases cs with
 | nil =>
   have hz:rows=[]:=by cases rows with | nil=>rfl | cons _ _=>simp at l
   subst hz;have ne0:neD (.lst []) (.lst [])=some (.bl false):=yZ [];exact⟨[],d.map,rfl,by simp[ne0,flatF,flats]⟩
 | cons c0 cr =>
   generalize hcs:c0::cr=cs at *;have i0:∃a,ixD (.lst (cs.map D.int)) (.int 0)=some (.int a):=⟨c0,by rw[<- hcs];simp⟩
   have i1:∃a,ixD (.lst (cs.map D.int)) (.int (-1))=some (.int a):=by
    obtain⟨l',a,e'⟩:∃l' a,cs=l'++[a]:=⟨cs.dropLast,cs.getLast (by rw[<- hcs];simp),(FK _).symm⟩
    refine⟨a,?_⟩;rw[e',bN,aO,cH];exact wS _ _
   obtain⟨a0,e0⟩:=i0;obtain⟨a1,e1⟩:=i1;obtain⟨rows1,o1,l1,c1',e1'⟩:=WP 1 (zP (zI eqD (zI jF (zI qW (zI ixD (zH 0) (zA (.int 0))) (zA (.int 60))) (zA (.int 8))) (4:))) [.v (.lst (cs.map D.int)),.own (rows.map rwD),.v (.int s'),y3,y4,y5,y6,y7] rows (decide (a0/60%8=1)) d.map.ord rfl (by simp[e0])
   have m1':MapF rows1:=by
    rcases c1' with rfl | ⟨r,t,rfl,rfl⟩
    . exact d.map
    . exact LW d.map
   obtain⟨rows2,o2,l2,c2',e2'⟩:=WQ 1 (zP (zI eqD (zI jF (zI qW (zI ixD (zH 0) (un1 negD (4:))) (zA (.int 60))) (zA (.int 8))) (zA (.int 6)))) [.v (.lst (cs.map D.int)),.own (rows1.map rwD),.v (.int s'),y3,y4,y5,y6,y7] rows1 (decide (a1/60%8=6)) o1 rfl (by simp[e1])
   have m2':MapF rows2:=by
    rcases c2' with rfl | ⟨r,t,rfl,rfl⟩
    . exact m1'
    . exact RE m1'
   refine⟨rows2,m2',by omega,?_⟩;simp only[cU,cT] at e1' e2';rw[qJ e1',qJ e2'];have fl:=yP rows2;simp[fl]
end FL
namespace FL
open PySem PySem.Spec PyProof.Rows L2
noncomputable def lnT(P M:D)(es ls:List OT):OT:=.ins 11 [.val P,.val M,.lst es,.lst ls]
theorem VS{f g:FS}{ds ds':List Sl}(h:f ds=some (.nx ds')):qB f g ds=g ds':=by simp[qB,h]
theorem VQ{P M P' M':D}{es ls:List OT}(h:es.length<sizeLine):dE (lnT P M es ls) [P',M']=some (lnT P' M' (es++[.val (.tup [P,M])]) []):=by
 have h':es.length<16777216:=h;have hz:(2:Nat)<=sizeLine:=by decide
 have hz0:(0:Nat)<=sizeLine:=dP _;simp[dE,lentF,argsL,args,oB,lnT,qB,appP,atP,varP,valP,mkT,qK,zE,zZ,List.lookup,h,hz,putP,putO,setAt,sO,nilO,vO,qL,ob0,List.modify,hz0,h']
theorem aFt{l:List D}: dS (.ins 20 []) [.lst l]=some (lnT (.lst l) (.dcf [] []) [] []):=by
 have hz0:(0:Nat)<=sizeLine:=dP _;simp[dS,lentF,argsL,args,iQ,lnT,qB,setNw,varP,valP,mkL,qK,zZ,ifV,zP,isB,zI,isD,zH,zA,vO,sO,nilO,putP,putO,ob0,hz0,lisA]
noncomputable def putDs(k:Key)(d:D):List Key->List D->List D
 |k'::ks,x::xs=>(if k'=k then d else x)::putDs k d ks xs
 |_,xs=>xs
noncomputable def putKD(k:Key)(d:D)(ks:List Key)(l:List D):List Key×List D:=if hasK k ks=true then (ks,putDs k d ks l) else (ks++[k],l++[d])
theorem LJ(k:Key)(d:D):∀(ks:List Key) (l:List D),putTs k (.val d) ks (l.map OT.val)=(putDs k d ks l).map OT.val
 |[],l=>by cases l<;>simp[putTs,putDs]
 |_::_,[]=>by simp[putTs,putDs]
 | k' :: ks, x :: l => by
   simp only[aO,putTs,putDs,LJ k d ks l]
   split<;>rfl
theorem BN(k:Key)(d:D)(ks:List Key)(l:List D):putKT k (.val d) ks (l.map OT.val)=.dct (putKD k d ks l).1 ((putKD k d ks l).2.map OT.val):=by
 unfold putKT putKD
 split
 . rw[LJ]
 . simp
theorem BJ:∀l:List D,valsO (l.map OT.val)=some l
 |[]=>rfl
 |d::l=>by simp[valsO,BJ l]
theorem mark_eq{nm:Str}{pl P:D}{ks:List Key}{l:List D}{es ls:List OT}(hF:gN [.str nm]=some (.val (.bl true)))(h:es.length<sizeLine)(hk:ks.length<sizeLine) :
  eB (lnT P (.dcf ks l) es ls) [.str nm,pl]=some (lnT P (.dcf (putKD (.inr nm) pl ks l).1 (putKD (.inr nm) pl ks l).2) (es++[.val (.tup [P,.dcf ks l])]) []):=by
 have hk':ks.length<16777216:=hk;have st:=VQ (P:=P) (M:=.dcf ks l) (P':=P) (M':=.dcf (putKD (.inr nm) pl ks l).1 (putKD (.inr nm) pl ks l).2) (ls:=ls) h;have pk:=BN (.inr nm) pl ks l;have vv:=BJ (putKD (.inr nm) pl ks l).2;generalize hS:dE=S at *;generalize putKD (.inr nm) pl ks l=p at *;obtain⟨ks',l'⟩:=p;simp only[lnT] at st ⊢;have e0:∀T l,eB T l=match kY (argsL 4 T l) with | some (.nx ds)=>ob0 ds[0]? | _=>none:=fun _ _=>rfl
 rw[e0];simp[argsL,args,kY,qB,ifG,notT,testT,qG,zE,zZ,zH,hF,retV,truD,qH,setB,OH,valP,atP,varP,List.lookup,kdD,dputG,qL,keyD,hk',pk,putP,putO,frzDG,vv,lentG,hS,st,ob0]
abbrev cs6:List Nat:=[0,1,2,3,4,5]
noncomputable def UZ:D->List Sl->Option (List Sl):=tupG 2 (zY (zU 3) (zY (zU 4) tgNil))
def Goes(dd pl q:D):Prop:=(pl=.non/\q=.non)\/∃i,pl=.int i/\(methR 1 cs6 cO dd [pl]).bind retV=some q
theorem do_turn{dd pl q:D}{nm:Str}{ks:List Key}{l:List D}{a0 y3 y4:Sl}(hg:Goes dd pl q)(hk:ks.length<16777216) :
  (UZ (.tup [keyDD (.inr nm),pl]) [a0,.v dd,.ob none (.dct ks (l.map OT.val)),y3,y4]).bind gC=some (.nx [a0,.v dd,.ob none (.dct (putKD (.inr nm) q ks l).1 ((putKD (.inr nm) q ks l).2.map OT.val)),.v (.str nm),.v pl]):=by
 have pk:=BN (.inr nm) q ks l;generalize putKD (.inr nm) q ks l=p at *;obtain⟨ks',l'⟩:=p;rcases hg with⟨rfl,rfl⟩ | ⟨i,rfl,h⟩
 . simp[UZ,gC,tupG,zY,tgNil,zU,keyDD,dputG,ifV,zP,isB,zI,isD,zH,zA,varP,qL,keyD,hk,pk,putP,putO]
 . simp[UZ,gC,tupG,zY,tgNil,zU,keyDD,dputG,ifV,zP,isB,zI,isD,zH,zA,varP,qL,keyD,hk,pk,putP,putO,methV,zE,zZ,h]
theorem NU{k:Key}:∀{ks:List Key},k∉ks->hasK k ks=false
 |[],_=>rfl
 | k' :: ks, h => by
   have h1:k'≠k:=fun z=>h (by rw[z];exact .head _);have:=NU (k:=k) (ks:=ks) fun z=>h (.tail _ z);unfold hasK at this ⊢;simp[h1,this]
theorem RP{k:Key}{ks:List Key}(h:k∈ks):hasK k ks=true:=by
 unfold hasK;rw[List.any_eq_true];exact⟨k,h,by simp⟩
theorem XZ{dd:D}{a0:Sl}:∀(nms:List Str) (pls qs:List D) (ks:List Key) (l:List D) (y3 y4:Sl),pls.length=nms.length->qs.length=nms.length->(∀(j:Nat) (pl q:D),pls[j]?=some pl->qs[j]?=some q->Goes dd pl q) →
  (ks++nms.map Sum.inr).Nodup->ks.length+nms.length<=16777216->∃z3 z4,qZ UZ gC (oF (nms.map Sum.inr) pls) [a0,.v dd,.ob none (.dct ks (l.map OT.val)),y3,y4]=some (.nx [a0,.v dd,.ob none (.dct (ks++nms.map Sum.inr) ((l++qs).map OT.val)),z3,z4])
 |[],[],[],ks,l,y3,y4,_,_,_,_,_=>⟨y3,y4,by simp[oF,qZ]⟩
 | nm :: nms, pl :: pls, q :: qs, ks, l, y3, y4, h1, h2, hg, nd, hz => by
   have hz':ks.length+(nms.length+1)<=16777216:=hz;have tr:=do_turn (y3:=y3) (y4:=y4) (a0:=a0) (nm:=nm) (l:=l) (hg 0 pl q rfl rfl) (ks:=ks) (by omega)
   have nk:(Sum.inr nm:Key)∉ks:=fun z=>by
    rw[eD] at nd;exact nd.2.2 _ z (Sum.inr nm) (by simp) rfl
   have ep:putKD (.inr nm) q ks l=(ks++[.inr nm],l++[q]):=by unfold putKD;rw[NU nk];rfl
   rw[ep] at tr;obtain⟨z3,z4,ih⟩:=XZ (a0:=a0) nms pls qs (ks++[.inr nm]) (l++[q]) (.v (.str nm)) (.v pl) (by simpa using h1) (by simpa using h2) (fun j p' q' e1 e2=>hg (j+1) p' q' (by simpa using e1) (by simpa using e2)) (by simpa[eS] using nd) (by simp;omega);refine⟨z3,z4,?_⟩;have e0:oF ((nm::nms).map Sum.inr) (pl::pls)=.tup [keyDD (.inr nm),pl]::oF (nms.map Sum.inr) pls:=by simp[oF]
   rw[e0,qZ];cases ht:UZ (.tup [keyDD (.inr nm),pl]) [a0,.v dd,.ob none (.dct ks (l.map OT.val)),y3,y4] with
   |none=>rw[ht] at tr;cases tr
   | some ds1 =>
     rw[ht] at tr;simp only[aH] at tr ⊢;rw[tr];simp only[aH];rw[ih];simp[eS]
 |[],_::_,_,_,_,_,_,h,_,_,_,_=>by simp at h
 |[],[],_::_,_,_,_,_,_,h,_,_,_=>by simp at h
 |_::_,[],_,_,_,_,_,h,_,_,_,_=>by simp at h
 |_::_,_::_,[],_,_,_,_,_,h,_,_,_=>by simp at h
theorem do_eq{dd P P':D}{nms:List Str}{pls qs:List D}{es ls:List OT}(hd:(methR 1 cs6 cE dd [P]).bind retV=some P')(h1:pls.length=nms.length)(h2:qs.length=nms.length)(hg:∀(j:Nat) (pl q:D),pls[j]?=some pl->qs[j]?=some q->Goes dd pl q)(nd:(nms.map (Sum.inr:Str->Key)).Nodup)(hz:nms.length<=16777216)(h:es.length<sizeLine) :
  eY (lnT P (.dcf (nms.map Sum.inr) pls) es ls) [dd]=some (lnT P' (.dcf (nms.map Sum.inr) qs) (es++[.val (.tup [P,.dcf (nms.map Sum.inr) pls])]) []):=by
 have st:=VQ (P:=P) (M:=.dcf (nms.map Sum.inr) pls) (P':=P') (M':=.dcf (nms.map Sum.inr) qs) (ls:=ls) h;obtain⟨z3,z4,lp⟩:=XZ (dd:=dd) (a0:=.ob (some 0) (lnT P (.dcf (nms.map Sum.inr) pls) es ls)) nms pls qs [] [] .no .no h1 h2 hg (by simpa using nd) (by simpa using hz);have vv:=BJ qs;have e0:∀T l,eY T l=match nH (argsL 5 T l) with | some (.nx ds)=>ob0 ds[0]? | _=>none:=fun _ _=>rfl
 rw[e0];have eg:nH=qB (setB 2 dO0) (qB (forG (uC (valP (atP [(11,1)] (varP 0)))) UZ gC) (frzDG 2 (lentG 2 [11] (fun _=>dE) (varP 0) (zE (methV 1 cs6 cE (qL 1) (zE (valP (atP [(11,0)] (varP 0))) zZ)) (zE (qL 2) zZ))))):=rfl;rw[eg];generalize hS:dE=S at *;have s1:setB 2 dO0 (argsL 5 (lnT P (.dcf (nms.map Sum.inr) pls) es ls) [dd])=some (.nx [.ob (some 0) (lnT P (.dcf (nms.map Sum.inr) pls) es ls),.v dd,.ob none (.dct [] []),.no,.no]):=by simp[setB,dO0,argsL,args]
 rw[VS s1]
 have s2:forG (uC (valP (atP [(11,1)] (varP 0)))) UZ gC [.ob (some 0) (lnT P (.dcf (nms.map Sum.inr) pls) es ls),.v dd,.ob none (.dct [] []),.no,.no]=some (.nx [.ob (some 0) (lnT P (.dcf (nms.map Sum.inr) pls) es ls),.v dd,.ob none (.dct (nms.map Sum.inr) (qs.map OT.val)),z3,z4]):=by
  unfold forG;have:uC (valP (atP [(11,1)] (varP 0))) [.ob (some 0) (lnT P (.dcf (nms.map Sum.inr) pls) es ls),.v dd,.ob none (.dct [] []),.no,.no]=some (oF (nms.map Sum.inr) pls):=by simp[uC,valP,atP,varP,lnT,List.lookup]
  rw[this];simpa using lp
 rw[VS s2];simp only[lnT] at st ⊢;simp[frzDG,vv,lentG,varP,zE,mkL,methV,qL,valP,atP,List.lookup,zZ,hd,st,putP,putO,ob0]
open Builtin.Int (intBits)
theorem GS{ps:List Rw}(o:Ord ps){a b:Int}(h:a<=b):(zV ps (none,some a)).length+(zV ps (some b,none)).length<=ps.length+1:=by
 induction ps with
 |nil=>simp[zV]
 | cons r t ih =>
   have pw:=bH.mp o.pw;have ot:Ord t:=⟨fun z hz=>o.ok z (aG _ hz),pw.2⟩
   have ih:=ih ot;cases h1:part1 (none,some a) r with
   | none =>
     have e1:zV (r::t) (none,some a)=zV t (none,some a):=by simp[zV,h1]
     rw[e1]
     have:(zV (r::t) (some b,none)).length<=(zV t (some b,none)).length+1:=by
      unfold zV;rw[iI]
      split<;>simp
     simp only[aJ];omega
   | some r1 =>
     have e1:zV (r::t) (none,some a)=r1::zV t (none,some a):=by simp[zV,h1]
     rw[e1];cases h2:part1 (some b,none) r with
     | none =>
       have e2:zV (r::t) (some b,none)=zV t (some b,none):=by simp[zV,h2]
       rw[e2];simp only[aJ];omega
     | some r2 =>
       have e2:zV (r::t) (some b,none)=r2::zV t (some b,none):=by simp[zV,h2]
       have e3:zV t (none,some a)=[]:=by
        unfold zV;rw[KH];intro z hz;cases hz':part1 (none,some a) z with
        |none=>rfl
        | some z' =>
          exfalso;obtain⟨x,y,hx,hy,hxy⟩:=pw.1 z hz;have k2:=qV h2;have kz:=qV hz';obtain⟨x2,ex2,hx2⟩:=k2.2.2.2.1 x hx;obtain⟨y2,ey2,hy2⟩:=k2.2.2.2.2.2.2 b rfl;have:=k2.1 y2 x2 ey2 ex2;obtain⟨y3,ey3,hy3⟩:=kz.2.2.2.2.1 y hy;obtain⟨x3,ex3,hx3⟩:=kz.2.2.2.2.2.1 a rfl;have:=kz.1 y3 x3 ey3 ex3;omega
       rw[e2,e3];have:=jM t (some b,none);simp only[aJ,dH];omega
theorem aBa{d:Dd}(h:okD d){ps:List Rw}(m:MapF ps):(doneF d ps).length<=ps.length+2:=by
 cases d with
 |put s v=>exact aDy m (r:=(s,v)) h
 | widen a k =>
   have h1:=GS m.ord (pF a);refine cL (wX _) ?_;simp only[gT,bP,aS];omega
 | narrow a k =>
   have h1:=GS m.ord (show a<=a+k by have:(0:Int)<=k:=h;omega);refine cL (wX _) ?_;simp only[gT,bP,aS];omega
 |move f=>simp only[doneF,aS];omega
 | stretch t b =>
   refine cL (wX _) (cL (SQ _ _) ?_);rw[aS];omega
 |mirror=>simp only[doneF,aS,cZ];omega
noncomputable def thrR:List Dd->List Rw->List Rw
 |[],ps=>ps
 |d::r,ps=>doneF d (thrR r ps)
noncomputable def backF:List Dd->List Rw->Int->Option Int
 |[],ps,p=>valL ps p
 |d::r,ps,p=>match cameF d p with | some q=>backF r ps q | none=>fillF d
theorem wZ:∀(es:List Dd) {ps:List Rw},(∀d∈es,okD d)->MapF ps->MapF (thrR es ps)
 |[],ps,_,m=>m
 |d::r,ps,h,m=>RZ (h d aN) (wZ r (fun x hx=>h x (aG _ hx)) m)
theorem FW:∀(es:List Dd) {ps:List Rw},(∀d∈es,okD d)->MapF ps->(thrR es ps).length<=ps.length+2*es.length
 |[],ps,_,m=>by simp[thrR]
 | d :: r, ps, h, m => by
   have h1:=FW r (fun x hx=>h x (aG _ hx)) m;have h2:=aBa (h d aN) (wZ r (fun x hx=>h x (aG _ hx)) m);simp only[thrR,aJ];omega
theorem PQ:∀(es:List Dd) {ps:List Rw} (p:Int),(∀d∈es,okD d)->MapF ps->valL (thrR es ps) p=backF es ps p
 |[],ps,p,_,m=>rfl
 | d :: r, ps, p, h, m => by
   have hr:∀x∈r,okD x:=fun x hx=>h x (aG _ hx);simp only[thrR,backF];rw[aGk (h d aN) (wZ r hr m)];unfold dueD;cases cameF d p with
   |none=>rfl
   |some q=>exact PQ r q hr m
end FL
namespace FL
open PySem PySem.Spec PyProof.Rows L2
abbrev Mks:=List (List Nat×Option Int)
noncomputable def mkN(mk:Mks):List Str:=mk.map fun p=>txS p.1
noncomputable def mkV(mk:Mks):List D:=mk.map fun p=>oi p.2
noncomputable def mkD(mk:Mks):D:=.dcf ((mkN mk).map Sum.inr) (mkV mk)
noncomputable def lnM(ps:List Rw)(mk:Mks)(es ls:List OT):OT:=lnT (.lst (ps.map rwD)) (mkD mk) es ls
noncomputable def stM(ps:List Rw)(mk:Mks):OT:=.val (.tup [.lst (ps.map rwD),mkD mk])
noncomputable def putM(n:List Nat)(v:Option Int)(mk:Mks):Mks:=if n∈mk.map (·.1) then mk.map fun p=>if p.1=n then (p.1,v) else p else mk++[(n,v)]
noncomputable def goM(d:Dd)(mk:Mks):Mks:=mk.map fun p=>(p.1,p.2.bind (wentF d))
structure MkOk(mk:Mks):Prop where
 nd:(mk.map (·.1)).Nodup
 nm:∀p∈mk,Nm p.1
theorem MkOk.nil:MkOk []:=⟨List.nodup_nil,fun _ h=>nomatch h⟩
theorem MD(d:Dd)(mk:Mks):(goM d mk).map (·.1)=mk.map (·.1):=by simp[goM]
theorem MkOk.go{mk:Mks}(h:MkOk mk)(d:Dd):MkOk (goM d mk):=⟨by rw[MD];exact h.nd,fun p hp=>by
 have:p.1∈(goM d mk).map (·.1):=eF hp;rw[MD] at this;obtain⟨q,hq,e⟩:=cP.mp this;rw[<- e]
 exact h.nm q hq⟩
theorem MkOk.put{mk:Mks}(h:MkOk mk){n:List Nat}(hn:Nm n)(v:Option Int):MkOk (putM n v mk):=by
 unfold putM
 split
 . have e:(mk.map fun p=>if p.1=n then (p.1,v) else p).map (·.1)=mk.map (·.1):=by
    rw[dX];refine iH fun p _=>?_;simp only[Function.comp]
    split<;>rfl
   refine⟨by rw[e];exact h.nd,fun p hp=>?_⟩;have:p.1∈(mk.map fun p=>if p.1=n then (p.1,v) else p).map (·.1):=eF hp;rw[e] at this;obtain⟨q,hq,e⟩:=cP.mp this;rw[<- e];exact h.nm q hq
 . rename_i hne;refine ⟨?_,fun p hp=>?_⟩
   . rw [bN, eD];refine ⟨h.nd,by simp,fun a ha b hb=>?_⟩;have:b=n:=by simpa using hb
     subst this;exact fun z=>hne (z▸ha)
   . rcases bJ.mp hp with hp | hp
     . exact h.nm p hp
     . rw[bA.mp hp];exact hn
theorem aDv(n:List Nat)(v:Option Int)(mk:Mks):(putM n v mk).length<=mk.length+1:=by
 unfold putM
 split<;>simp
theorem goM_len(d:Dd)(mk:Mks):(goM d mk).length=mk.length:=by simp[goM]
theorem keys_nd{mk:Mks}(h:(mk.map (·.1)).Nodup):((mkN mk).map (Sum.inr:Str->Key)).Nodup:=by
 unfold mkN;rw[dX];have e:(mk.map ((Sum.inr:Str->Key) ∘ fun p=>txS p.1))=(mk.map (·.1)).map fun n=>(Sum.inr (txS n):Key):=by rw[dX];rfl
 rw[e];refine pD.mpr (List.Pairwise.imp (fun {a b} hne hab=>?_) h);have:txS a=txS b:=by simpa using hab
 exact hne (EO.mp this)
theorem NO(n:List Nat)(mk:Mks):(Sum.inr (txS n):Key)∈(mkN mk).map (Sum.inr:Str->Key)↔n∈mk.map (·.1):=by
 unfold mkN;constructor
 . intro h;obtain ⟨x,hx,e⟩:=cP.mp h;obtain ⟨p,hp,e2⟩:=cP.mp hx;have:txS p.1=txS n:=by rw [e2]; simpa using e
   rw[<- EO.mp this];exact eF hp
 . intro h;obtain⟨p,hp,e⟩:=cP.mp h;rw[<- e];exact eF (eF (f:=fun p:List Nat×Option Int=>txS p.1) hp)
theorem QJ(n:List Nat)(v:Option Int):∀mk:Mks,putDs (.inr (txS n)) (oi v) ((mkN mk).map Sum.inr) (mkV mk)=mkV (mk.map fun p=>if p.1=n then (p.1,v) else p)
 |[]=>by simp[mkN,mkV,putDs]
 | p :: r => by
   have ih:=QJ n v r;simp only[mkN,mkV,aO] at ih ⊢;simp only[putDs];rw[ih]
   have e:((Sum.inr (txS p.1):Key)=Sum.inr (txS n))=(p.1=n):=by
    rw[Sum.inr.injEq];exact propext EO
   simp only[e]
   by_cases h:p.1=n
   . simp[h]
   . simp[h]
theorem QI(n:List Nat)(v:Option Int)(mk:Mks):putKD (.inr (txS n)) (oi v) ((mkN mk).map Sum.inr) (mkV mk)=((mkN (putM n v mk)).map Sum.inr,mkV (putM n v mk)):=by
 unfold putKD putM
 by_cases h:n∈mk.map (·.1)
 . rw [RP ((NO n mk).mpr h), if_pos rfl, if_pos h, QJ];congr 1;simp only [mkN,dX];refine iH fun p _=>?_;simp only [Function.comp]
   split<;>rfl
 . rw[NU (fun z => h ((NO n mk).mp z)), if_neg cV, if_neg h];simp[mkN,mkV]
theorem markM{n:List Nat}(hn:Nm n){ps:List Rw}{mk:Mks}{es ls:List OT}(v:Option Int)(h:es.length<sizeLine)(hk:mk.length<sizeLine) :
  eB (lnM ps mk es ls) [.str (txS n),oi v]=some (lnM ps (putM n v mk) (es++[stM ps mk]) []):=by
 have:=mark_eq (nm:=txS n) (pl:=oi v) (P:=.lst (ps.map rwD)) (ks:=(mkN mk).map Sum.inr) (l:=mkV mk) (es:=es) (ls:=ls) (HE hn) h (by simpa[mkN] using hk);rw[QI] at this;exact this
theorem doM{d:Dd}(hd:okD d){ps:List Rw}(m:MapF ps)(hl:ps.length<=50000){mk:Mks}(hm:MkOk mk){es ls:List OT}(h:es.length<sizeLine)(hk:mk.length<=sizeLine) :
  eY (lnM ps mk es ls) [insD d]=some (lnM (doneF d ps) (goM d mk) (es++[stM ps mk]) []):=by
 have hdn:(methR 1 cs6 cE (insD d) [.lst (ps.map rwD)]).bind retV=some (.lst ((doneF d ps).map rwD)):=by
  rw[done_eq hd m hl];rfl
 have e1:mkN (goM d mk)=mkN mk:=by simp[mkN,goM]
 have:=do_eq (dd:=insD d) (nms:=mkN mk) (pls:=mkV mk) (qs:=mkV (goM d mk)) (es:=es) (ls:=ls) hdn (by simp[mkN,mkV]) (by simp[mkN,mkV,goM]) (fun j pl q h1 h2=>by
  simp only[mkV,goM,dX,bE] at h1 h2;cases hj:mk[j]? with
  |none=>rw[hj] at h1;cases h1
  | some p =>
    rw[hj] at h1 h2;simp only[cF,Option.some.injEq,Function.comp] at h1 h2;subst h1 h2;cases hp:p.2 with
    |none=>exact .inl ⟨rfl,rfl⟩
    | some i =>
      refine .inr ⟨i,rfl,?_⟩;rw[EY,went_eq d hd i]
      rfl) (keys_nd hm.nd) (by simpa[mkN] using hk) h
 unfold lnM mkD stM mkD;rw[e1];exact this
theorem aEu(P M:D)(es ls:List OT):otD (lnT P M es ls)=.ins 11 [P,M,.lst (otDs es),.lst (otDs ls)]:=by simp[lnT,otD,otDs]
theorem toldM(ps:List Rw)(mk:Mks)(es ls:List OT):methR 0 [11] gH (otD (lnM ps mk es ls)) []=some (.fresh (ps.map rwD)):=by
 have fl:=yP ps;unfold lnM;rw[aEu];generalize ps.map rwD=L at *;simp[gH,oA,runG,nZ,args,retOG,lisA,fldG,fldD,List.lookup,flatF,fl]
theorem HJ{n:List Nat}{v:Option Int}:∀{mk:Mks},(mk.map (·.1)).Nodup->(n,v)∈mk->getKD (.inr (txS n)) ((mkN mk).map Sum.inr) (mkV mk)=some (oi v)
 |[],_,h=>nomatch h
 | p :: r, nd, h => by
   simp only[mkN,mkV,aO,getKD] at *;rw[bR] at nd
   have e:((Sum.inr (txS p.1):Key)=Sum.inr (txS n))↔(p.1=n):=by
    rw[Sum.inr.injEq];exact EO
   rcases aD.mp h with rfl | h
   . simp
   . have hne : p.1 ≠ n := fun z => nd.1 (z▸eF (f := fun q : List Nat×Option Int => q.1) h);rw[if_neg (fun z=>hne (e.mp z))];exact HJ (mk:=r) nd.2 h
theorem whereM{mk:Mks}(hm:MkOk mk){n:List Nat}{v:Option Int}(h:(n,v)∈mk)(ps:List Rw)(es ls:List OT):methR 1 [11] fX (otD (lnM ps mk es ls)) [.str (txS n)]=some (.val (oi v)):=by
 have hn:=HE (hm.nm _ h);have hk:=RP ((NO n mk).mpr (eF (f:=fun q:List Nat×Option Int=>q.1) h));have hg:=HJ hm.nd h;unfold lnM mkD;rw[aEu];generalize (mkN mk).map (Sum.inr:Str->Key)=ks at *;generalize mkV mk=vs at *;have fv:flat (oi v)=true:=by cases v<;>simp[flat]
 generalize oi v=ov at *;simp[fX,mW,runG,mV,args,hn,dnotG,dinG,keyD,kdD,hk,dgetG,hg,fldG,fldD,List.lookup,flatR,fv]
theorem marksM{mk:Mks}(hl:mk.length<64)(ps:List Rw)(es ls:List OT):methR 0 [11] fY (otD (lnM ps mk es ls)) []=some (.fresh ((srtT (mkN mk)).map D.str)):=by
 unfold lnM mkD;rw[aEu];have hl':(mkN mk).length<64:=by simpa[mkN] using hl
 have e:keysT ((mkN mk).map Sum.inr)=some (mkN mk):=by
  generalize mkN mk=l
  induction l with
  |nil=>rfl
  |cons a r ih=>simp[keysT,ih]
 have fl:flats ((srtT (mkN mk)).map D.str)=true:=by
  generalize srtT (mkN mk)=l
  induction l with
  |nil=>simp[flats]
  |cons a r ih=>simp[flats,flat,ih]
 generalize (mkN mk).map (Sum.inr:Str->Key)=ks at *;simp[fY,mY,runG,mX,args,srtDA,kdD,e,fldG,fldD,List.lookup];simp[flatF,fl,hl']
theorem aCy(mk:Mks):∃sp:Mks,(∀p∈sp,p∈mk)/\sp.length=mk.length/\srtT (mkN mk)=mkN sp:=by
 have hp:=srtT_perm (mkN mk)
 have key:∀L:List Str,(∀x∈L,∃p∈mk,x=txS p.1)->∃sp:Mks,(∀p∈sp,p∈mk)/\L=mkN sp:=by
  intro L
  induction L with
  |nil=>intro _;exact⟨[],(fun _ h=>nomatch h),rfl⟩
  | cons a r ih =>
    intro h;obtain⟨p,hp,e⟩:=h a (.head _);obtain⟨sp,h1,h2⟩:=ih fun x hx=>h x (.tail _ hx);exact⟨p::sp,fun q hq=>(aD.mp hq).elim (fun z=>z▸hp) (h1 q),by rw[h2,e];rfl⟩
 obtain⟨sp,h1,h2⟩:=key (srtT (mkN mk)) fun x hx=>by
  obtain⟨p,hp,e⟩:=cP.mp (hp.mem_iff.mp hx);exact⟨p,hp,e.symm⟩
 refine⟨sp,h1,?_,h2⟩;have:=hp.length_eq;rw[h2] at this;simpa[mkN] using this
theorem KP{ps:List Rw}(o:Ord ps)(p:Int):iY [.lst (ps.map rwD),.int p]=some (.val (oi (valL ps p))):=aCp o p
theorem XO(s:Spn)(p:Int):sN [spD s,.int p]=some (.val (.bl (hasS s p))):=hasL_eq s p
open Builtin.Int (intBits)
theorem FM(o:Option Int):fK [oi o]=some (.val (.bl o.isSome)):=by
 cases o with
 |some i=>exact KO i
 | none =>
   unfold fK runG pQ;simp[args]
@[simp] theorem sltW_eq(f:FE)(lo hi:List Sl->Option (Option Int))(ds:List Sl):sltW f lo hi ds=(f ds).bind fun d=>(lo ds).bind fun a=>(hi ds).bind fun b=>match d with
 | .tup l=>some (.tup (cutD l a b))
 |_=>none:=rfl
end FL
namespace FL
open PySem PySem.Spec PyProof.Rows L2
noncomputable def mkO(mk:Mks):OT:=.dct ((mkN mk).map Sum.inr) ((mkV mk).map OT.val)
theorem aEt(mk:Mks):otD (mkO mk)=.dct ((mkN mk).map Sum.inr) (mkV mk):=by simp[mkO,otD,LQ]
theorem PH(d:Dd)(h:okD d)(pl:Option Int):iX [told3 d,oi pl]=some (.val (oi (pl.bind (wentF d)))):=by
 unfold iX runG BE;cases pl with
 |none=>cases d<;>simp[args,told3]
 | some i =>
   cases d with
   |put s v=>simp[args,told3,wentF]
   |move f=>simp[args,told3,wentF]
   |mirror=>simp[args,told3,wentF]
   | widen a m =>
     by_cases q:i<a
     . simp[args,told3,wentF,q]
     . simp[args,told3,wentF,q]
   | narrow a m =>
     by_cases q:i<a
     . simp[args,told3,wentF,q]
     . by_cases q2 : i < a + m
       . simp[args,told3,wentF,q,q2]
       . simp[args,told3,wentF,q,q2]
   | stretch t b =>
     obtain⟨⟨t1,t2⟩,b1,b2⟩:=h;have m1:=yJ (i:=-i) (j:=t) (by omega) t2;have m2:=fun x=>yJ (i:=x) (j:=b) (by omega) b2;have f1:=fun x=>yM x (show(0:Int)<b by omega) (by omega);have f2:=fun x=>yM x (show(0:Int)<t by omega) (by omega)
     by_cases q:fR t b i*b/t=i
     . have q' : -(-i*t/b)*b/t=i := q;simp[args,told3,wentF,m1,m2,f1,f2,q,q',fR]<;>simp_all [fR]
     . have q' : ¬-(-i*t/b)*b/t=i := q;simp[args,told3,wentF,m1,m2,f1,f2,q,q',fR]<;>simp_all [fR]
theorem aDt(n:List Nat)(v:Option Int)(mk:Mks):putKT (.inr (txS n)) (.val (oi v)) ((mkN mk).map Sum.inr) ((mkV mk).map OT.val)=mkO (putM n v mk):=by
 rw[BN,QI];rfl
theorem aDu{n:List Nat}{v w:Option Int}{a r:Mks}(nd:((a++(n,w)::r).map (·.1)).Nodup):putM n v (a++(n,w)::r)=a++(n,v)::r:=by
 unfold putM;rw[if_pos (by simp)];rw[bN,aO] at nd;have h2:=eD.mp nd;obtain⟨h3,h4⟩:=bR.mp h2.2.1
 have key:∀l:Mks,n∉l.map (·.1)->(l.map fun p=>if p.1=n then (p.1,v) else p)=l:=by
  intro l hl
  induction l with
  |nil=>rfl
  | cons p l ih =>
    simp only[aO,aD,not_or] at hl;rw[aO,ih hl.2,if_neg (fun z=>hl.1 z.symm)]
 rw[bN,aO,key a (fun z=>h2.2.2 _ z n (by simp) rfl),key r h3,if_pos rfl]
theorem YW{l:List Str}(h:∀x∈l,PyData.strOk x=true):shals 40 (l.map D.str)=true:=by
 induction l with
 |nil=>simp[shals]
 | cons a r ih =>
   simp only[aO,shals,bX];exact⟨by simp[shal,h a (.head _)],ih fun x hx=>h x (.tail _ hx)⟩
theorem aCu(l:List Str):eqvD (.lst (l.map D.str)) (.lst (l.map D.str))=true:=by
 rw[AU]
 induction l with
 |nil=>rfl
 | cons a r ih =>
   have:eqvD (.str a) (.str a)=true:=by simp[eqvD,toPy,PyData.eqv]
   rw[aO,MF,this,ih];rfl
theorem aFi{l:List Str}(h:∀x∈l,PyData.strOk x=true):neD (.lst (l.map D.str)) (.lst (l.map D.str))=some (.bl false):=by
 have hs:shal 40 (.lst (l.map D.str))=true:=by simpa using YW h
 rw[BS hs hs,aCu];rfl
theorem nm_ok{mk:Mks}(hm:MkOk mk):∀x∈srtT (mkN mk),PyData.strOk x=true:=fun x hx=>by
 obtain⟨p,hp,e⟩:=cP.mp ((srtT_perm (mkN mk)).mem_iff.mp hx);have:=shal_tx (hm.nm p hp).2.2.asc 40;rw[<- e];simpa[shal] using this
theorem srtO{mk:Mks}(hl:mk.length<64){ds:List Sl}{f:FE}(hf:f ds=some (otD (mkO mk))):srtDA f ds=some ((srtT (mkN mk)).map D.str):=by
 have e:keysT ((mkN mk).map Sum.inr)=some (mkN mk):=by
  generalize mkN mk=l
  induction l with
  |nil=>rfl
  |cons a r ih=>simp[keysT,ih]
 have hl':(mkN mk).length<64:=by simpa[mkN] using hl
 unfold srtDA;rw[hf,aEt];simp[kdD,e,hl']
theorem dgetO{mk:Mks}(nd:(mk.map (·.1)).Nodup){n:List Nat}{v:Option Int}(h:(n,v)∈mk){ds:List Sl}{f g:FE}(hf:f ds=some (otD (mkO mk)))(hg:g ds=some (.str (txS n))):dgetG f g ds=some (oi v):=by
 have:=HJ nd h;unfold dgetG;rw[hf,hg,aEt];simpa[keyD,kdD] using this
theorem PY{mk:Mks}(hm:MkOk mk)(ps:List Rw)(es:List OT){ls:List OT}{p:List Nat×Option Int}(hp:p∈mk)(A2 A3 A4 x6:Sl) :
  mG [.v (otD (lnM ps mk es ls)),.v (otD (mkO mk)),A2,A3,A4,.v (.str (txS p.1)),x6]=some (.nx [.v (otD (lnM ps mk es ls)),.v (otD (mkO mk)),A2,A3,A4,.v (.str (txS p.1)),.v (oi p.2)]):=by
 obtain⟨n,v⟩:=p;have hw:=whereM hm hp ps es ls;have hg:∀x6:Sl,dgetG (qL 1) (qL 5) [.v (otD (lnM ps mk es ls)),.v (otD (mkO mk)),A2,A3,A4,.v (.str (txS n)),x6]=some (oi v):=fun x6=>dgetO hm.nd hp (f:=qL 1) (g:=qL 5) (by simp) (by simp);have hwh:=FM v;unfold mG;generalize otD (lnM ps mk es ls)=L at *;generalize otD (mkO mk)=M at *;generalize dgetG (qL 1) (qL 5)=dg at *;cases v with
 |none=>simp[hw,hg]
 |some i=>simp[hw,hg] at hwh ⊢;simp[hwh]
theorem wK{mk:Mks}(hm:MkOk mk)(ps:List Rw)(es:List OT){ls:List OT}(A2 A3 A4:Sl):∀(sp:Mks) (x5 x6:Sl),(∀p∈sp,p∈mk)->∃y5 y6,
  qZ (zU 5) mG ((mkN sp).map D.str) [.v (otD (lnM ps mk es ls)),.v (otD (mkO mk)),A2,A3,A4,x5,x6]=some (.nx [.v (otD (lnM ps mk es ls)),.v (otD (mkO mk)),A2,A3,A4,y5,y6])
 |[],x5,x6,_=>⟨x5,x6,rfl⟩
 | p :: r, x5, x6, h => by
   have e:=PY hm ps es (ls:=ls) (h p (.head _)) A2 A3 A4 x6;obtain⟨z5,z6,ih⟩:=wK hm ps es (ls:=ls) A2 A3 A4 r (.v (.str (txS p.1))) (.v (oi p.2)) fun q hq=>h q (.tail _ hq);refine⟨z5,z6,?_⟩;simp only[mkN,aO,qZ,zU,aH,cU,cT,e];exact ih
theorem YX{mk:Mks}(hm:MkOk mk)(hl:mk.length<64)(ps:List Rw)(es:List OT){ls:List OT}(t:Int):gO [otD (lnM ps mk es ls),otD (mkO mk),.int t]=some (.val (.bl true)):=by
 obtain⟨sp,h1,h2,h3⟩:=aCy mk;have hs:∀A:Sl,srtDA (zH 1) [.v (otD (lnM ps mk es ls)),.v (otD (mkO mk)),.v (.int t),A,.no,.no,.no]=some ((mkN sp).map D.str):=fun A=>by rw[<- h3];exact srtO hl (f:=zH 1) (by simp)
 have hmk:=marksM hl ps es ls;rw[h3] at hmk;have hne:=aFi (nm_ok hm);rw[h3] at hne;have lp:=fun A3 A4=>wK hm ps es (ls:=ls) (.v (.int t)) A3 A4 sp .no .no h1;have lp2:=fun A3 A4=>wK hm ps es (ls:=ls) (.v (.int t)) A3 A4 sp.reverse .no .no (fun p hp=>h1 p (dL.mp hp));have er:(mkN sp.reverse).map D.str=((mkN sp).map D.str).reverse:=by simp[mkN]
 rw[er] at lp2;unfold gO;refine xO ?_;unfold pR;have ar:args 7 [otD (lnM ps mk es ls),otD (mkO mk),.int t]=[.v (otD (lnM ps mk es ls)),.v (otD (mkO mk)),.v (.int t),.no,.no,.no,.no]:=by simp[args]
 rw[ar,qJ (ds':=[.v (otD (lnM ps mk es ls)),.v (otD (mkO mk)),.v (.int t),.v (.lst ((mkN sp).map D.str)),.no,.no,.no]) (by rw[ES,vS,hs];rfl)];generalize otD (lnM ps mk es ls)=L at *;generalize otD (mkO mk)=M at *;generalize (mkN sp).map D.str=NN at *;rw[qJ (ds':=[.v L,.v M,.v (.int t),.v (.lst NN),.v (.lst NN),.no,.no]) (by simp[hmk])];rw[qJ (ds':=[.v L,.v M,.v (.int t),.v (.lst NN),.v (.lst NN),.no,.no]) (by simp[hne])]
 by_cases ht:t=1
 . obtain⟨y5, y6, e⟩ := lp2 (.v (.lst NN.reverse)) (.v (.lst NN));rw[qJ (ds':=[.v L,.v M,.v (.int t),.v (.lst NN.reverse),.v (.lst NN),.no,.no]) (by simp[ht,revA]),qJ (ds':=[.v L,.v M,.v (.int t),.v (.lst NN.reverse),.v (.lst NN),y5,y6]) (by simp[e])];simp
 . obtain⟨y5, y6, e⟩ := lp (.v (.lst NN)) (.v (.lst NN));rw[qJ (ds':=[.v L,.v M,.v (.int t),.v (.lst NN),.v (.lst NN),.no,.no]) (by simp[ht]),qJ (ds':=[.v L,.v M,.v (.int t),.v (.lst NN),.v (.lst NN),y5,y6]) (by simp[e])];simp
inductive R3 where
 |deed (d:Dd) | mark (n:List Nat) (p:Int)
noncomputable def r3D:R3->D
 | .deed d=>told3 d
 | .mark n p=>.tup [.str "mark",.str (txS n),.int p]
noncomputable def okR3':R3->Prop
 | .deed d=>okD d
 | .mark n _=>Nm n
noncomputable def eL:List R3->List Dd
 |[]=>[]
 | .deed d::r=>d::eL r
 | .mark _ _::r=>eL r
noncomputable def psR(rs:List R3)(ps:List Rw):List Rw:=rs.foldl (fun q r=>match r with | .deed d=>doneF d q | .mark _ _=>q) ps
noncomputable def mkR(rs:List R3)(mk:Mks):Mks:=rs.foldl (fun m r=>match r with | .deed d=>goM d m | .mark n p=>putM n (some p) m) mk
theorem PR:∀(a b:List Dd) (ps:List Rw),thrR (a++b) ps=thrR a (thrR b ps)
 |[],b,ps=>rfl
 |d::a,b,ps=>by simp[thrR,PR a b ps]
theorem vQ:∀(rs:List R3) (ps:List Rw),psR rs ps=thrR (eL rs).reverse ps
 |[],ps=>rfl
 | .deed d :: r, ps => by
   have:=vQ r (doneF d ps);rw[eL,gY,PR];simpa[psR,thrR] using this
 | .mark _ _ :: r, ps => by
   have:=vQ r ps;simpa[psR,eL] using this
theorem CK{rs:List R3}(h:∀r∈rs,okR3' r):∀d∈eL rs,okD d:=by
 induction rs with
 |nil=>intro d hd;cases hd
 | cons r rs ih =>
   intro d hd;have ih:=ih fun x hx=>h x (.tail _ hx);cases r with
   | deed e =>
     rcases aD.mp hd with rfl | hd
     . exact h _ (.head _)
     . exact ih d hd
   |mark n p=>exact ih d hd
theorem GU:∀(rs:List R3) {mk:Mks},(∀r∈rs,okR3' r)->MkOk mk->MkOk (mkR rs mk)
 |[],mk,_,h=>h
 | .deed d::r,mk,hr,h=>GU r (fun x hx=>hr x (.tail _ hx)) (h.go d)
 | .mark n p::r,mk,hr,h=>GU r (fun x hx=>hr x (.tail _ hx)) (h.put (hr (.mark n p) (.head _)) (some p))
theorem AJ:∀(rs:List R3) (mk:Mks),(mkR rs mk).length<=mk.length+rs.length
 |[],mk=>aU _
 | .deed d :: r, mk => by
   have:=AJ r (goM d mk);rw[goM_len] at this;simp only[mkR,kM,aJ] at this ⊢;omega
 | .mark n p :: r, mk => by
   have:=AJ r (putM n (some p) mk);have h2:=aDv n (some p) mk;simp only[mkR,kM,aJ] at this ⊢;omega
theorem QP(rs:List R3)(r:R3)(ps:List Rw):psR (rs++[r]) ps=match r with | .deed d=>doneF d (psR rs ps) | .mark _ _=>psR rs ps:=by
 simp[psR,aBr]
theorem QY(rs:List R3)(r:R3)(mk:Mks):mkR (rs++[r]) mk=match r with | .deed d=>goM d (mkR rs mk) | .mark n p=>putM n (some p) (mkR rs mk):=by
 simp[mkR,aBr]
theorem MQ{P M P' M':D}{es ls:List OT}: cY (lnT P M es ls) [.tup [P',M']]=some (lnT P' M' es ls):=by
 simp[cY,lentF,argsL,args,lY,lnT,qB,setAt,varP,vO,zI,ixD,zH,zA,atI,ixN,List.lookup,putP,putO,ob0]
theorem QU(l:List OT)(d:D):otDs (l++[.val d])=otDs l++[d]:=by
 induction l with
 |nil=>simp[otDs,otD]
 |cons a r ih=>simp[otDs,ih]
theorem back_eq{P M P' M':D}{es ls:List OT}(h:ls.length<sizeLine):fJ (lnT P M (es++[.val (.tup [P',M'])]) ls) []=some (lnT P' M' es (ls++[.val (.tup [P,M])])):=by
 have h':ls.length<16777216:=h;have bc:=MQ (P:=P) (M:=M) (P':=P') (M':=M') (es:=es) (ls:=ls++[.val (.tup [P,M])]);have e0:∀T l,fJ T l=match kZ (argsL 1 T l) with | some (.nx ds)=>ob0 ds[0]? | _=>none:=fun _ _=>rfl
 generalize hS:cY=S at *;rw[e0];have ne:∀l:List D,(l++[D.tup [P',M']]).isEmpty=false:=fun l=>by cases l<;>rfl
 simp only[lnT] at bc ⊢;simp[argsL,args,kZ,qB,ifG,notT,testT,seeP,atP,varP,List.lookup,otD,QU,truD,ne,qH,appP,valP,mkT,qK,zE,zZ,h',putP,putO,List.modify,lentX,popX,hS,bc,ob0]
theorem aGz{P M P' M':D}{es ls:List OT}(h:es.length<sizeLine):eR (lnT P M es (ls++[.val (.tup [P',M'])])) []=some (lnT P' M' (es++[.val (.tup [P,M])]) ls):=by
 have h':es.length<16777216:=h;have bc:=MQ (P:=P) (M:=M) (P':=P') (M':=M') (es:=es++[.val (.tup [P,M])]) (ls:=ls);have e0:∀T l,eR T l=match iM (argsL 1 T l) with | some (.nx ds)=>ob0 ds[0]? | _=>none:=fun _ _=>rfl
 generalize hS:cY=S at *;rw[e0];have ne:∀l:List D,(l++[D.tup [P',M']]).isEmpty=false:=fun l=>by cases l<;>rfl
 simp only[lnT] at bc ⊢;simp[argsL,args,iM,qB,ifG,notT,testT,seeP,atP,varP,List.lookup,otD,QU,truD,ne,qH,appP,valP,mkT,qK,zE,zZ,h',putP,putO,List.modify,lentX,popX,hS,bc,ob0]
noncomputable def erl(rs:List R3)(ps:List Rw)(k:Nat):List OT:=(List.range k).map fun i=>stM (psR (rs.take i) ps) (mkR (rs.take i) [])
noncomputable def ltr(rs:List R3)(ps:List Rw)(k:Nat):List OT:=((List.range (rs.length-k)).map fun i=>stM (psR (rs.take (k+1+i)) ps) (mkR (rs.take (k+1+i)) [])).reverse
noncomputable def lnR(rs:List R3)(ps:List Rw)(k:Nat):OT:=lnM (psR (rs.take k) ps) (mkR (rs.take k) []) (erl rs ps k) (ltr rs ps k)
theorem IF(rs:List R3)(ps:List Rw)(k:Nat):erl rs ps (k+1)=erl rs ps k++[stM (psR (rs.take k) ps) (mkR (rs.take k) [])]:=by simp[erl,List.range_succ]
theorem RG(rs:List R3)(ps:List Rw){k:Nat}(h:k<rs.length):ltr rs ps k=ltr rs ps (k+1)++[stM (psR (rs.take (k+1)) ps) (mkR (rs.take (k+1)) [])]:=by
 unfold ltr;obtain⟨n,hn⟩:∃n,rs.length-k=n+1:=⟨rs.length-k-1,by omega⟩
 have hn2:rs.length-(k+1)=n:=by omega
 rw[hn,hn2,List.range_succ_eq_map,aO,gY,dX];congr 2;refine iH fun i _=>?_;simp only[Function.comp,Nat.succ_eq_add_one];rw[show k+1+(i+1)=k+1+1+i by omega]
theorem backR(rs:List R3)(ps:List Rw){k:Nat}(h:k<rs.length)(hl:rs.length<1000):fJ (lnR rs ps (k+1)) []=some (lnR rs ps k):=by
 unfold lnR;rw[IF,RG rs ps h];exact back_eq (by unfold ltr;simp only[cZ,aS,aBq];exact dG (show _<=1000 by omega) (by decide))
theorem againR(rs:List R3)(ps:List Rw){k:Nat}(h:k<rs.length)(hl:rs.length<1000):eR (lnR rs ps k) []=some (lnR rs ps (k+1)):=by
 unfold lnR;rw[IF,RG rs ps h];exact aGz (by unfold erl;simp only[aS,aBq];exact dG (show _<=1000 by omega) (by decide))
open Builtin.Int (intBits)
theorem CO(ns:List Int)(hb:∀c∈ns,intBits c<=1048576)(a b:Nat):∃cs:List Int,cs.length<=ns.length/\cs.length<=b-a/\(∀c∈cs,intBits c<=1048576)/\cutD (ns.map D.int) (some (a:Int)) (some (b:Int))=cs.map D.int:=by
 refine⟨(ns.drop (min a ns.length)).take (min b ns.length-min a ns.length),by simp;omega,by simp;omega,fun c hc=>hb c (SX (mZ hc)),?_⟩;have e1:HT.sIx (ns.map D.int).length 0 (some (a:Int))=min a ns.length:=by simp[HT.sIx];omega
 have e2:HT.sIx (ns.map D.int).length (ns.map D.int).length (some (b:Int))=min b ns.length:=by simp[HT.sIx];omega
 unfold cutD;rw[e1,e2,uK,MU]
end FL
section
open PySem PyProof.Rows L2 FL
noncomputable def hX:FS:=(qB (asgG (lstG 2 (zY (zU 9) (zY (zU 10) tgNil))) (mkL (sliA (zH 5) (soP (zI yV (zA (.int 2)) (zH 8))) (soP (zI yF (zI yV (zA (.int 2)) (zH 8)) (zA (.int 2)))))))
 (ifG (andT (zP (zI neD (zH 7) (mkL (qK zZ)))) (andT (zP (zI eqD (zH 9) (zI ixD (zI ixD (zH 7) (un1 negD (4:))) (4:)))) (zP (zI eqD (zI ixD (zH 6) (zH 8)) (zI ixD (zI ixD (zH 7) (un1 negD (4:))) (zA (.int 2))))))) (putG 7 (un1 negD (4:)) (mkT (qK (zE (zI ixD (zI ixD (zH 7) (un1 negD (4:))) (zA (.int 0))) (zE (qL 10) (zE (zI ixD (zH 6) (zH 8)) zZ)))))) (ifG (zP (zI ltD (zH 9) (zH 10))) (appG 7 (mkT (qK (zE (qL 9) (zE (qL 10) (zE (zI ixD (zH 6) (zH 8)) zZ)))))) qH)))
noncomputable def mM:FS:=(qB (jU 4 (zI powD (zI powD (zA (.int 10)) (zA (.int 33))) (zA (.int 6))))
 (qB (jU 5 (mkL (MZ (mkL (compG (viaA (qG 3 fZ (zE (zH 2) (zE (zI yF (zI yV (zA (.int 2)) (zH 4)) (4:)) (zE (zI yV (zA (.int 2)) (zH 0)) zZ)))) asLT) [none] (zU 0) (fun _=>some true) (qG 1 lA (zE (zH 0) zZ)))))))
 (qB (jU 6 (mkL (compG (viaA (qG 3 fZ (zE (zH 3) (zE (zI yF (zI yV (zA (.int 2)) (zH 4)) (4:)) (zE (zH 0) zZ)))) asLT) [none] (zU 0) (fun _=>some true) (qG 1 lA (zE (zH 0) zZ)))))
 (qB (setOG 7 (qK zZ))
 (qB (forG (rng1 (qL 0)) (zU 8) hX)
 (qB (ifG (andT (zP (zI neD (zH 7) (mkL (qK zZ)))) (zP (zI eqD (zI jF (zH 1) (zA (.int 2))) (4:)))) (putG 7 (zA (.int 0)) (mkT (qK (zE (zA .non) (zE (zI ixD (zI ixD (zH 7) (zA (.int 0))) (4:)) (zE (zI ixD (zI ixD (zH 7) (zA (.int 0))) (zA (.int 2))) zZ)))))) qH)
 (qB (ifG (andT (zP (zI neD (zH 7) (mkL (qK zZ)))) (zP (zI eqD (zI jF (zI qW (zH 1) (zA (.int 2))) (zA (.int 2))) (4:)))) (putG 7 (un1 negD (4:)) (mkT (qK (zE (zI ixD (zI ixD (zH 7) (un1 negD (4:))) (zA (.int 0))) (zE (zA .non) (zE (zI ixD (zI ixD (zH 7) (un1 negD (4:))) (zA (.int 2))) zZ)))))) qH)
 (retXG 7))))))))
noncomputable def gP:List D->Option Ret:=runG mM 11
noncomputable def iJ:FS:=(qB (jU 6 (zI qW (zH 5) (zH 2)))
 (qB (ifG (zP (zI eqD (zH 6) (zA (.int 0)))) (jU 6 (qG 1 fM (zE (zH 5) zZ))) qH)
 (qB (jU 7 (zI qW (zH 6) (zH 3)))
 (qB (ifG (zP (zI eqD (zH 7) (zA (.int 0)))) (jU 7 (qG 1 fM (zE (zH 6) zZ))) qH)
 (appG 4 (mkL (qK (zE (zI jF (zH 5) (zH 2)) (zE (zI jF (zH 6) (zH 3)) (zE (qL 7) zZ))))))))))
noncomputable def kP:FS:=(qB (ifG (zP (zI eqD (zH 1) (zA (.int 0)))) (retAG (mkL (compG (rng1 (zI qW (callB lenD (zE (zH 0) zZ)) (zA (.int 3)))) [none,some 0] (zU 0) (fun _=>some true) (mkL (sliA (zH 1) (soP (zI yV (zA (.int 3)) (zH 0))) (soP (zI yF (zI yV (zA (.int 3)) (zH 0)) (zA (.int 3))))))))) qH)
 (qB (jU 2 (zI yV (zA (.int 240)) (zI yF (zI yV (zA (.int 2)) (zI powD (zA (.int 10)) (zA (.int 60)))) (4:))))
 (qB (jU 3 (zI yV (zA (.int 3)) (zI yF (zI yV (zA (.int 2)) (zI powD (zA (.int 10)) (zA (.int 60)))) (4:))))
 (qB (setOG 4 (qK zZ))
 (qB (forG (viaA (qL 0) asLT) (zU 5) iJ)
 (fun ds=>(retAG (qL 4)) (relS 4 ds)))))))
noncomputable def fH:List D->Option Ret:=runG kP 8
noncomputable def nG:FS:=(qB (asgG (tupG 3 (zY (zU 2) (zY (zU 3) (zY (zU 4) tgNil)))) (qL 0))
 (qB (ifG (zP (zI eqD (zH 2) (zA (.str "move")))) (retG (zI subD (zH 1) (zH 3))) qH)
 (qB (ifG (zP (zI eqD (zH 2) (zA (.str "mirror")))) (retG (un1 negD (qL 1))) qH)
 (qB (ifG (zP (zI eqD (zH 2) (zA (.str "stretch")))) (retG (zI qW (zI yV (zH 1) (zH 4)) (zH 3))) qH)
 (qB (ifG (andT (zP (zI eqD (zH 2) (zA (.str "narrow")))) (zP (zI geD (zH 1) (zH 3)))) (retG (zI yF (zH 1) (zH 4))) qH)
 (qB (ifG (andT (zP (zI eqD (zH 2) (zA (.str "widen")))) (zP (zI geD (zH 1) (zH 3)))) (retG (zI subD (zH 1) (zH 4))) qH)
 (retG (zH 1))))))))
noncomputable def gM:List D->Option Ret:=runG nG 5
noncomputable def cN:FS:=(qB (asgG (tupG 3 (zY (zU 4) (zY (zU 5) (zY (zU 6) tgNil)))) (qL 3))
 (qB (ifG (andT (zP (zI eqD (zH 4) (zA (.str "put")))) (testT (qG 2 sN (zE (zH 5) (zE (zH 2) zZ))))) (retG (zH 6)) qH)
 (qB (ifG (andT (zP (zI eqD (zH 4) (zA (.str "widen")))) (zP (chain leD ltD (zH 5) (zH 2) (zI yF (zH 5) (zH 6))))) (retG (zA .non)) qH)
 (jU 2 (qG 2 gM (zE (zH 3) (zE (zH 2) zZ)))))))
noncomputable def oR:FS:=(qB (forG (revA (qL 0)) (zU 3) cN)
 (retG (qG 2 iY (zE (zH 1) (zE (zH 2) zZ)))))
noncomputable def iG:List D->Option Ret:=runG oR 7
noncomputable def iK:FS:=(qB (ifG (orT (notT (testT (isiG "tuple" (zI ixD (zH 0) (zH 1))))) (zP (zI neD (callB lenD (zE (zI ixD (zH 0) (zH 1)) zZ)) (zA (.int 3))))) (retG (zA (.bl false))) qH)
 (qB (asgG (tupG 3 (zY (zU 2) (zY (zU 3) (zY (zU 4) tgNil)))) (zI ixD (zH 0) (zH 1)))
 (qB (ifG (orT (andT (zP (zI isD (zH 2) (zA .non))) (zP (zI gtD (zH 1) (zA (.int 0))))) (orT (andT (zP (zI isD (zH 3) (zA .non))) (zP (zI ltD (zI yF (zH 1) (4:)) (callB lenD (zE (zH 0) zZ))))) (notT (testT (qG 1 fK (zE (zH 4) zZ)))))) (retG (zA (.bl false))) qH)
 (qB (ifG (orT (andT (zP (zI notD (zH 2) (zA .non))) (notT (testT (qG 1 fK (zE (zH 2) zZ))))) (andT (zP (zI notD (zH 3) (zA .non))) (notT (testT (qG 1 fK (zE (zH 3) zZ)))))) (retG (zA (.bl false))) qH)
 (qB (ifG (andT (zP (zI notD (zH 2) (zA .non))) (andT (zP (zI notD (zH 3) (zA .non))) (zP (zI geD (zH 2) (zH 3))))) (retG (zA (.bl false))) qH)
 (qB (ifG (andT (zP (zI gtD (zH 1) (zA (.int 0)))) (zP (zI ltD (zH 2) (zI ixD (zI ixD (zH 0) (zI subD (zH 1) (4:))) (4:))))) (retG (zA (.bl false))) qH)
 (ifG (andT (zP (zI gtD (zH 1) (zA (.int 0)))) (andT (zP (zI eqD (zH 2) (zI ixD (zI ixD (zH 0) (zI subD (zH 1) (4:))) (4:)))) (zP (zI eqD (zH 4) (zI ixD (zI ixD (zH 0) (zI subD (zH 1) (4:))) (zA (.int 2))))))) (retG (zA (.bl false))) qH)))))))
noncomputable def nN:FS:=(qB (ifG (notT (testT (isiG "list" (zH 0)))) (retG (zA (.bl false))) qH)
 (qB (forG (rng1 (callB lenD (zE (zH 0) zZ))) (zU 1) iK)
 (retG (zA (.bl true)))))
noncomputable def hJ:List D->Option Ret:=runG nN 5
noncomputable def pL:FS:=(qB (jU 1 (mkL (compG (viaA (qL 0) asLT) [none] (zU 0) (zP (zI notD (zI ixD (zH 0) (zA (.int 0))) (zA .non))) (zI ixD (zH 0) (zA (.int 0))))))
 (retOG (catA (zH 1) (mkL (compG (viaA (qL 0) asLT) [none] (zU 0) (zP (zI notD (zI ixD (zH 0) (4:)) (zA .non))) (zI ixD (zH 0) (4:)))))))
noncomputable def gL:List D->Option Ret:=runG pL 2
noncomputable def kQ:FS:=(dputG (varP 1) (qL 3) (qG 2 iX (zE (zH 2) (zE (relVO 1 (dgetG (qL 1) (qL 3))) zZ))))
noncomputable def gZ:FS:=(ifG (zP (zI eqD (zI ixD (zH 2) (zA (.int 0))) (zA (.str "mark")))) (dputG (varP 1) (zI ixD (zH 2) (4:)) (zI ixD (zH 2) (zA (.int 2)))) (forG (viaA (mkL (relFO 1 (lisDA (zH 1)))) asLT) (zU 3) kQ))
noncomputable def oQ:FS:=(qB (setB 1 dO0)
 (qB (forG (viaA (qL 0) asLT) (zU 2) gZ)
 (retBv 1)))
noncomputable def iF:List D->Option Ret:=runG oQ 4
noncomputable def iL:FS:=(qB (ifG (zP (zI eqD (zI ixD (zH 1) (zA (.int 0))) (zA (.str "mark")))) (retOG (catA (zH 0) (mkL (qK (zE (zI ixD (zH 1) (zA (.int 2))) zZ))))) qH)
 (qB (setOG 2 (compG (viaA (qL 0) asLT) [none,some 1] (zU 0) (fun _=>some true) (qG 2 iX (zE (zH 1) (zE (zH 0) zZ)))))
 (qB (ifG (zP (zI eqD (zI ixD (zH 1) (zA (.int 0))) (zA (.str "put")))) (setOG 2 (catA (zH 2) (mkL (lisA (zI ixD (zH 1) (4:)))))) qH)
 (qB (ifG (zP (zI (inD false) (zI ixD (zH 1) (zA (.int 0))) (mkL (qK (zE (zA (.str "widen")) (zE (zA (.str "narrow")) zZ)))))) (appG 2 (zI ixD (zH 1) (4:))) qH)
 (fun ds=>(retOG (compG (viaA (mkL (sliA (zH 2) (soP (un1 negD (zA (.int 10)))) noP)) asLT) [none] (zU 0) (zP (zI notD (zH 0) (zA .non))) (qL 0))) (relS 2 ds))))))
noncomputable def fT:List D->Option Ret:=runG iL 3
noncomputable def lJ:FS:=(ifG (zP (zI neD (qG 2 iY (zE (zH 4) (zE (zH 6) zZ))) (qG 3 iG (zE (zH 1) (zE (zH 2) (zE (zH 6) zZ)))))) (retG (zA (.bl false))) qH)
noncomputable def hW:FS:=(forG (viaA (mkT (qK (zE (qL 5) (zE (zI subD (zH 5) (4:)) zZ)))) asLT) (zU 6) lJ)
noncomputable def mL:FS:=(qB (jU 4 (methV 0 [11] gH (qL 0) zZ))
 (qB (ifG (notT (testT (qG 1 hJ (zE (zH 4) zZ)))) (retG (zA (.bl false))) qH)
 (qB (forG (viaA (mkL (catA (qG 1 gL (zE (zH 4) zZ)) (zH 3))) asLT) (zU 5) hW)
 (retG (zA (.bl true))))))
noncomputable def fS:List D->Option Ret:=runG mL 7
noncomputable def mE:FS:=(qB (jU 3 (zI jF (zI qW (zH 1) (zA (.int 8))) (zA (.int 5))))
 (qB (ifG (zP (zI eqD (zH 2) (zA (.int 0)))) (retAG (mkT (qK (zE (qG 1 pE (zE (mkL (sliA (zH 0) (soP (4:)) (soP (zI yF (4:) (zH 3))))) zZ)) (zE (callA 2 fH (zE (mkL (sliA (zH 0) (soP (zI yF (4:) (zH 3))) (soP (zI yF (zA (.int 121)) (zH 3))))) (zE (zA (.int 0)) zZ))) zZ))))) qH)
 (qB (jU 4 (qG 4 gP (zE (zI jF (zI qW (zH 1) (zA (.int 80))) (zA (.int 9))) (zE (zI qW (zH 1) (zA (.int 720))) (zE (qG 2 dQ (zE (zH 0) (zE (4:) zZ))) (zE (qG 2 dQ (zE (zH 0) (zE (zA (.int 2)) zZ))) zZ))))))
 (retAG (mkT (qK (zE (qL 4) (zE (callA 2 fH (zE (mkL (sliA (zH 0) (soP (zA (.int 3))) (soP (zA (.int 60))))) (zE (4:) zZ))) zZ))))))))
noncomputable def fD:List D->Option Ret:=runG mE 5
noncomputable def nM:FS:=(ifG (zP (zI ltD (zI jF (zH 8) (zA (.int 6))) (zA (.int 4)))) (qB (jU 11 (qG 4 nJ (zE (zI qW (zH 8) (zA (.int 6))) (zE (zH 9) (zE (zH 10) (zE (zH 5) zZ))))))
 (qB (ifG (zP (zI eqD (zI jF (zH 8) (zA (.int 6))) (zA (.int 3)))) (qB (jU 11 (mkT (qK (zE (zA (.str "mark")) (zE (qG 2 nK (zE (zH 1) (zE (zH 9) zZ))) (zE (qG 2 eM (zE (zH 10) (zE (zH 5) zZ))) zZ))))))
 (lentG 2 [11] (fun _=>eB) (varP 4) (zE (zI ixD (zH 11) (4:)) (zE (zI ixD (zH 11) (zA (.int 2))) zZ)))) (lentG 1 [11] (fun _=>eY) (varP 4) (zE (qG 1 mC (zE (zH 11) zZ)) zZ)))
 (qB (jU 6 (mkL (catA (mkL (sliA (zH 6) noP (soP (zH 7)))) (mkL (qK (zE (qL 11) zZ))))))
 (qB (augA 7 (4:))
 (jU 5 (qG 2 fT (zE (zH 5) (zE (zH 11) zZ)))))))) (ifG (andT (zP (zI eqD (zI jF (zH 8) (zA (.int 6))) (zA (.int 4)))) (zP (zI gtD (zH 7) (zA (.int 0))))) (qB (lentG 0 [11] (fun _=>fJ) (varP 4) zZ)
 (augS 7 (4:))) (ifG (andT (zP (zI eqD (zI jF (zH 8) (zA (.int 6))) (zA (.int 5)))) (zP (zI ltD (zH 7) (callB lenD (zE (zH 6) zZ))))) (qB (lentG 0 [11] (fun _=>eR) (varP 4) zZ)
 (augA 7 (4:))) qH)))
noncomputable def AZ:FS:=(qB (jU 1 (qG 2 dQ (zE (zH 0) (zE (zA (.int 0)) zZ))))
 (qB (asgG (tupG 2 (zY (zU 2) (zY (zU 3) tgNil))) (callA 3 fD (zE (qL 0) (zE (qL 1) (zE (zI jF (zI qW (zH 1) (zA (.int 40))) (zA (.int 2))) zZ)))))
 (qB (setB 4 (makeO 20 1 0 dS (zE (mkL (lisA (zH 2))) zZ)))
 (qB (jU 5 (qG 1 gL (zE (zH 2) zZ)))
 (qB (jU 6 (mkL (qK zZ)))
 (qB (jU 7 (zA (.int 0)))
 (qB (forG (viaA (qL 3) asLT) (lstG 3 (zY (zU 8) (zY (zU 9) (zY (zU 10) tgNil)))) nM)
 (qB (jU 12 (mkL (catA (zH 5) (mkL (compG (viaA (mkL (sliA (zH 0) (soP (un1 negD (zA (.int 16)))) noP)) asLT) [none,some 5] (zU 0) (fun _=>some true) (qG 2 eM (zE (zH 0) (zE (zH 1) zZ))))))))
 (qB (ifG (notT (relTO 4 (testT (qG 4 fS (zE (zH 4) (zE (mkL (sliA (zH 6) noP (soP (zH 7)))) (zE (zH 2) (zE (zH 12) zZ)))))))) (retG (zA (.bl false))) qH)
 (retG (relVO 4 (qG 3 gO (zE (zH 4) (zE (seeO (callO 1 iF (zE (mkL (sliA (zH 6) noP (soP (zH 7)))) zZ))) (zE (zI jF (zH 1) (zA (.int 2))) zZ)))))))))))))))
noncomputable def BA:List D->Option Ret:=runG AZ 13
end
namespace K56
open PySem PyProof.Rows L2 FL
noncomputable def top(i:Nat):Stmt:=PySem.Challenge.pw_spanmap_k56_whole_line.main.body.getD i (.Pass ⟨0,0,0,0⟩)
structure Glb(K:Frag)(mg:Str->Option aB):Prop where
 b_all:mg "all" = none
 b_bool:mg "bool" = none
 b_dict:mg "dict" = none
 b_int:mg "int" = none
 b_isinstance:mg "isinstance" = none
 b_len:mg "len" = none
 b_list:mg "list" = none
 b_max:mg "max" = none
 b_min:mg "min" = none
 b_range:mg "range" = none
 b_reversed:mg "reversed" = none
 b_sorted:mg "sorted" = none
 b_str:mg "str" = none
 b_tuple:mg "tuple" = none
 c_LETTERS:∃t,mg "LETTERS" = some (.str "abcdefghijklmnopqrstuvwxyz" t)
 c_MOST_LETTERS:∃t,mg "MOST_LETTERS" = some (.int 8 t)
 c_MOST_SHARE:∃t,mg "MOST_SHARE" = some (.int 1000 t)
 fl_at:FldOk K "at" [(1,1),(2,1)]
 fl_bottom:FldOk K "bottom" [(4,2)]
 fl_earlier:FldOk K "earlier" [(11,2)]
 fl_far:FldOk K "far" [(3,1)]
 fl_fill:FldOk K "fill" [(0,1),(1,0),(2,0),(3,0),(4,0),(5,0),(6,0)]
 fl_later:FldOk K "later" [(11,3)]
 fl_many:FldOk K "many" [(1,2),(2,2)]
 fl_pieces:FldOk K "pieces" [(11,0)]
 fl_places:FldOk K "places" [(11,1)]
 fl_span:FldOk K "span" [(0,0)]
 fl_top:FldOk K "top" [(4,1)]
 nw_earlier:∀C,aT K aP (dA 22)=some (some (.ref C))->Cls K C/\NoAttr K C "earlier"
 nw_later:∀C,aT K aP (dA 23)=some (some (.ref C))->Cls K C/\NoAttr K C "later"
 nw_pieces:∀C,aT K aP (dA 20)=some (some (.ref C))->Cls K C/\NoAttr K C "pieces"
 nw_places:∀C,aT K aP (dA 21)=some (some (.ref C))->Cls K C/\NoAttr K C "places"
theorem pwI{X:Cx}{i:Int}{k:Nat}{p:Pos}: PVw X (.Constant (.int i) k p) (zA (.int i)):=PV.w qO
theorem pnI{X:Cx}{i:Int}{k:Nat}{p:Pos}: PVn X (.Constant (.int i) k p) (zA (.int i)):=PV.n qO
theorem pnV{X:Cx}(i:Nat){x:Str}{pos:Pos}(hN:X.N[i]?=some x:=by rfl)(hv:Vis X.env.scope x:=by first | exact Or.inl rfl | exact Or.inr (Or.inl rfl) | exact Or.inr (Or.inr rfl))(hd:(x==("__debug__" : Str))=false:=by decide)(hcd:(x==("__classdict__" : Str))=false:=by decide):PVn X (.Name x pos) (zH i):=(zC i hN hv hd hcd).n
section
variable{P:bG}{w:bU}{K:Frag}{mg:Str->Option aB}{base:Heap}
theorem GC:FnScope ["thing"] ["thing"] (zJ (top 10)):={}
theorem RU{f:aA}{fd:aK}(Fn:Fun K "is_name" "is_name" (top 10) f fd)(T:Glb K mg): FnOk P w K mg base CX0 1 f fd ["thing"] (spF K 1 gN):=by
 have nd:=GC.nd;have nI0:(["sign"]:List Str).Nodup:=by decide +kernel
 refine qC (k:=0) (g:=pN) Fn GC (1:) (2:)
 exact(zB (zT (yH (PVn.t (PV.n (BL T.b_isinstance T.b_str (by decide +kernel) (zC 0))))) (zD (zM (PV.w xP))) zK)
  (zB (zT (PWv.t (xK (wN (PV.w (wH T.b_len (jP (zC 0) yL))) pwI) (yT (GN (PV.w (wH T.b_len (jP (zC 0) yL))) (PV.w (QH T.c_MOST_LETTERS)))))) (zD (zM (PV.w xP))) zK)
  (zD (zM (PV.w (pv_all rfl T.b_all (jP (PV.w (PVf.s (yY (NY:=["sign"]) (mp:=[none]) (jD (by kernel_rfl)) rfl (piv_str (zL 0)) (fun c=>(zR (i:=0) nI0)) (fun c=>xN) (fun c=>(TQ ZO os_inS (zC 0) (PV.w (aDq T.c_LETTERS)) rfl))))) yL)))))))
theorem pH:FnScope ["self","pieces"] ["self","pieces"] (zJ (aR (top 12) 0)):={}
theorem AR{f:aA}{fd:aK}(Fn:FunD K "__init__" "Line.__init__" (aR (top 12) 0) f fd #[.none])(T:Glb K mg): FnOk P w K mg base CX0 1 f fd ["self","pieces"] (spL K 1 dS):=by
 have nd:=pH.nd;refine aFw (k:=0) (n:=1) (g:=iQ) Fn pH (1:) (fun _ _ _ _ e=>e)
 exact(zB (wB T.nw_pieces (qN 0) (LI (AF (xR (pnV 1) (PV.n qI)) (PVf.s (qQ zS)) (PVf.s (kH T.b_list (zC 1))))))
  (zB (wB T.nw_places (qN 0) (LI aDr))
  (zB (wB T.nw_earlier (qN 0) (aDl NJ))
  (zD (wB T.nw_later (qN 0) (aDl NJ))))))
theorem AC:FnScope ["self","pieces","places"] ["self","pieces","places"] (zJ (aR (top 12) 3)):={}
theorem JV{f:aA}{fd:aK}(Fn:Fun K "step" "Line.step" (aR (top 12) 3) f fd)(T:Glb K mg): FnOk P w K mg base CX0 1 f fd ["self","pieces","places"] (spL K 2 dE):=by
 have nd:=AC.nd;refine vI (k:=0) (n:=2) (g:=oB) Fn AC (1:) (fun _ _ _ _ e=>e)
 exact(zB (GO (yS T.fl_earlier (qN 0)) (qR (zG (xF (yS T.fl_pieces (qN 0))) (zG (xF (yS T.fl_places (qN 0))) zS))))
  (zB (xS T.fl_later (qN 0) (aDl NJ))
  (zB (xS T.fl_pieces (qN 0) (LI (zL 1)))
  (zD (xS T.fl_places (qN 0) (LI (zL 2)))))))
theorem VU:FnScope ["rows","pieces","low","behind","value"] ["rows"] (zJ (top 20)):={}
theorem aFz{f:aA}{fd:aK}(Fn:Fun K "knit" "knit" (top 20) f fd)(T:Glb K mg): FnOk P w K mg base CX0 1 f fd ["rows"] (spF K 1 fU):=by
 have nd:=VU.nd;refine qC (k:=0) (g:=BC) Fn VU (1:) (2:)
 exact(zB (xD (i:=1) nd (qQ zS))
  (zB (yB PassesOwn.never rfl (jI (zL 0)) (yN (n:=3) rfl (zW (zR (i:=2) nd) (zW (zR (i:=3) nd) (zW (zR (i:=4) nd) jT)))) (zB (zT (xR (pnV 4) (PV.n qI)) (zD NH) zK)
  (zD (zT (PWv.t (qU (PVn.t (pnV 1)) (qU (qT hr (PV.n (qF (PV.w (qF (zC 1) (PV.w (jJ qO)))) pwI)) (pnV 2)) (qS (qT hr (PV.n (qF (PV.w (qF (zC 1) (PV.w (jJ qO)))) pwI)) (pnV 4)))))) (zD (vL (i:=1) (qR (zG (qF (PV.w (qF (zC 1) (PV.w (jJ qO)))) pwI) (zG (zL 3) (zG (zL 4) zS)))) (jJ qO))) (zD (xV (i:=1) (qR (zG (zL 2) (zG (zL 3) (zG (zL 4) zS))))))))))
  (zD (xZ 1))))
theorem uP:FnScope ["one","other"] ["one","other"] (zJ (top 17)):={}
theorem JI{f:aA}{fd:aK}(Fn:Fun K "later_low" "later_low" (top 17) f fd)(T:Glb K mg): FnOk P w K mg base CX0 1 f fd ["one","other"] (spF K 2 hR):=by
 have nd:=uP.nd;refine qC (k:=0) (g:=nR) Fn uP (1:) (2:)
 exact(zB (zT (xR (pnV 0) (PV.n qI)) (zD (zM (zC 1))) zK)
  (zB (zT (xR (pnV 1) (PV.n qI)) (zD (zM (zC 0))) zK)
  (zD (zM (PV.w (pv_max2 rfl T.b_max (jP (zC 0) (jP (zC 1) yL))))))))
theorem oO:FnScope ["one","other"] ["one","other"] (zJ (top 18)):={}
theorem uE{f:aA}{fd:aK}(Fn:Fun K "earlier_behind" "earlier_behind" (top 18) f fd)(T:Glb K mg): FnOk P w K mg base CX0 1 f fd ["one","other"] (spF K 2 eT):=by
 have nd:=oO.nd;refine qC (k:=0) (g:=iC) Fn oO (1:) (2:)
 exact(zB (zT (xR (pnV 0) (PV.n qI)) (zD (zM (zC 1))) zK)
  (zB (zT (xR (pnV 1) (PV.n qI)) (zD (zM (zC 0))) zK)
  (zD (zM (PV.w (pv_min2 rfl T.b_min (jP (zC 0) (jP (zC 1) yL))))))))
theorem sX:FnScope ["behind","low"] ["behind","low"] (zJ (top 16)):={}
theorem HM{f:aA}{fd:aK}(Fn:Fun K "ends_ahead" "ends_ahead" (top 16) f fd)(T:Glb K mg): FnOk P w K mg base CX0 1 f fd ["behind","low"] (spF K 2 gQ):=by
 have nd:=sX.nd;refine qC (k:=0) (g:=mN) Fn sX (1:) (2:);exact(zD (zM (PV.w (GI (QG (pnV 0) (PV.n qI)) (GI (QG (pnV 1) (PV.n qI)) (vU (aDp (zC 0) (zC 1))))))))
theorem VT:FnScope ["one","other","low","behind"] ["one","other"] (zJ (top 15)):={}
theorem aFy{f:aA}{fd:aK}(Fn:Fun K "meet" "meet" (top 15) f fd)(T:Glb K mg)(C_later_low:Cal P w K mg base "later_low" 1 2 hR)(C_earlier_behind:Cal P w K mg base "earlier_behind" 1 2 eT)(C_ends_ahead:Cal P w K mg base "ends_ahead" 1 2 gQ):FnOk P w K mg base CX0 2 f fd ["one","other"] (spF K 2 nI):=by
 have nd:=VT.nd;refine qC (k:=1) (g:=BB) Fn VT (1:) (2:)
 exact(zB (qA (i:=2) nd (zO C_later_low hr (zF (PV.n (qF (zC 0) pwI)) (zF (PV.n (qF (zC 1) pwI)) zN))))
  (zB (qA (i:=3) nd (zO C_earlier_behind hr (zF (PV.n (qF (zC 0) pwI)) (zF (PV.n (qF (zC 1) pwI)) zN))))
  (zB (zT (PVn.t (PV.n (zO C_ends_ahead hr (zF (pnV 3) (zF (pnV 2) zN))))) (zD (zM (PV.w qI))) zK)
  (zD (zM (PV.w (qR (zG (zL 2) (zG (zL 3) zS)))))))))
theorem DB:FnScope ["pieces","within","parts","low","behind","value","common"] ["pieces","within"] (zJ (top 21)):={}
theorem NW{f:aA}{fd:aK}(Fn:Fun K "parts_in" "parts_in" (top 21) f fd)(T:Glb K mg)(C_meet:Cal P w K mg base "meet" 2 2 nI):FnOk P w K mg base CX0 3 f fd ["pieces","within"] (spF K 2 cQ):=by
 have nd:=DB.nd;refine qC (k:=2) (g:=oU) Fn DB (1:) (2:)
 exact(zB (xD (i:=2) nd (qQ zS))
  (zB (yB PassesOwn.never rfl (jI (zL 0)) (yN (n:=3) rfl (zW (zR (i:=3) nd) (zW (zR (i:=4) nd) (zW (zR (i:=5) nd) jT)))) (zB (qA (i:=6) nd (zO C_meet hr (zF (PV.n (qR (zG (zL 3) (zG (zL 4) zS)))) (zF (pnV 1) zN))))
  (zD (zT (yI (pnV 6) (PV.n qI)) (zD (xV (i:=2) (qR (zG (qF (zC 6) pwI) (zG (qF (zC 6) pwI) (zG (zL 5) zS)))))) zK))))
  (zD (xZ 2))))
theorem uO:FnScope ["pieces","over","value","rows"] ["pieces","over","value"] (zJ (top 22)):={}
theorem JH{f:aA}{fd:aK}(Fn:Fun K "rows_over" "rows_over" (top 22) f fd)(T:Glb K mg)(C_parts_in:Cal P w K mg base "parts_in" 3 2 cQ):FnOk P w K mg base CX0 4 f fd ["pieces","over","value"] (spF K 3 gF):=by
 have nd:=uO.nd;refine qC (k:=3) (g:=nQ) Fn uO (1:) (2:)
 exact(zB (xD (i:=3) nd (qQ zS))
  (zB (zT (yI (PV.n (qF (zC 1) pwI)) (PV.n qI)) (zD (WG (i:=3) (yR C_parts_in hr (zF (pnV 0) (zF (PV.n (qR (zG qI (zG (qF (zC 1) pwI) zS)))) zN))))) zK)
  (zB (xV (i:=3) (qR (zG (qF (zC 1) pwI) (zG (qF (zC 1) pwI) (zG (zL 2) zS)))))
  (zB (zT (yI (PV.n (qF (zC 1) pwI)) (PV.n qI)) (zD (WG (i:=3) (yR C_parts_in hr (zF (pnV 0) (zF (PV.n (qR (zG (qF (zC 1) pwI) (zG qI zS)))) zN))))) zK)
  (zD (xZ 3))))))
theorem aDf:FnScope ["pieces","span","value"] ["pieces","span","value"] (zJ (top 24)):={}
theorem fok_put{f:aA}{fd:aK}(Fn:Fun K "put" "put" (top 24) f fd)(T:Glb K mg)(C_knit:Cal P w K mg base "knit" 1 1 fU)(C_rows_over:Cal P w K mg base "rows_over" 4 3 gF):FnOk P w K mg base CX0 5 f fd ["pieces","span","value"] (spF K 3 rQ):=by
 have nd:=aDf.nd;refine qC (k:=4) (g:=FG) Fn aDf (1:) (2:);exact(zD (jW (yR C_knit hr (zF (PV.n (zO C_rows_over hr (zF (pnV 0) (zF (pnV 1) (zF (pnV 2) zN))))) zN))))
theorem DI:FnScope ["self","pieces"] ["self","pieces"] (zJ (aR (top 28) 3)):={}
theorem OE{f:aA}{fd:aK}(Fn:Fun K "done" "Put.done" (aR (top 28) 3) f fd)(T:Glb K mg)(C_put:Cal P w K mg base "put" 5 3 rQ):FnOk P w K mg base CX0 6 f fd ["self","pieces"] (spF K 2 oZ):=by
 have nd:=DI.nd;refine qC (k:=5) (g:=oY) Fn DI (1:) (2:);exact(zD (jW (yR C_put hr (zF (pnV 1) (zF (PV.n (jG T.fl_span (zL 0))) (zF (PV.n (jG T.fl_fill (zL 0))) zN))))))
theorem GD:FnScope ["side","far"] ["side","far"] (zJ (top 39)):={}
theorem RW{f:aA}{fd:aK}(Fn:Fun K "farther" "farther" (top 39) f fd)(T:Glb K mg): FnOk P w K mg base CX0 1 f fd ["side","far"] (spF K 2 fW):=by
 have nd:=GD.nd;refine qC (k:=0) (g:=pO) Fn GD (1:) (2:);exact(zD (zM (PV.w (AF (xR (pnV 0) (PV.n qI)) qI (qD (zC 0) (zC 1))))))
theorem GB:FnScope ["pieces","far"] ["pieces","far"] (zJ (top 38)):={}
theorem RT{f:aA}{fd:aK}(Fn:Fun K "shifted" "shifted" (top 38) f fd)(T:Glb K mg)(C_farther:Cal P w K mg base "farther" 1 2 fW):FnOk P w K mg base CX0 2 f fd ["pieces","far"] (spF K 2 eX):=by
 have nd:=GB.nd;have nI0:(["low","behind","value","far"]:List Str).Nodup:=by decide +kernel
 refine qC (k:=1) (g:=pM) Fn GB (1:) (2:);exact(zD (jW (yY (NY:=["low","behind","value","far"]) (mp:=[none,none,none,some 1]) (jD (by kernel_rfl)) rfl (jI (zL 0)) (fun c=>(yN (n:=3) rfl (zW (zR (i:=0) nI0) (zW (zR (i:=1) nI0) (zW (zR (i:=2) nI0) jT))))) (fun c=>xN) (fun c=>(qR (zG (zO C_farther hr (zF (pnV 0) (zF (pnV 3) zN))) (zG (zO C_farther hr (zF (pnV 1) (zF (pnV 3) zN))) (zG (zL 2) zS))))))))
theorem tL:FnScope ["self","pieces","stay","go"] ["self","pieces"] (zJ (aR (top 29) 3)):={}
theorem HZ{f:aA}{fd:aK}(Fn:Fun K "done" "Widen.done" (aR (top 29) 3) f fd)(T:Glb K mg)(C_parts_in:Cal P w K mg base "parts_in" 3 2 cQ)(C_knit:Cal P w K mg base "knit" 1 1 fU)(C_shifted:Cal P w K mg base "shifted" 2 2 eX):FnOk P w K mg base CX0 4 f fd ["self","pieces"] (spF K 2 mS):=by
 have nd:=tL.nd;refine qC (k:=3) (g:=mR) Fn tL (1:) (2:)
 exact(zB (qA (i:=2) nd (zO C_parts_in hr (zF (pnV 1) (zF (PV.n (qR (zG qI (zG (jG T.fl_at (zL 0)) zS)))) zN))))
  (zB (qA (i:=3) nd (zO C_parts_in hr (zF (pnV 1) (zF (PV.n (qR (zG (jG T.fl_at (zL 0)) (zG qI zS)))) zN))))
  (zD (jW (yR C_knit hr (zF (PV.n (PVf.s (xT (zC 2) (PV.w (zO C_shifted hr (zF (pnV 3) (zF (PV.n (jG T.fl_many (zL 0))) zN))))))) zN))))))
theorem sE:FnScope ["self","pieces","stay","come"] ["self","pieces"] (zJ (aR (top 30) 3)):={}
theorem EA{f:aA}{fd:aK}(Fn:Fun K "done" "Narrow.done" (aR (top 30) 3) f fd)(T:Glb K mg)(C_parts_in:Cal P w K mg base "parts_in" 3 2 cQ)(C_knit:Cal P w K mg base "knit" 1 1 fU)(C_shifted:Cal P w K mg base "shifted" 2 2 eX):FnOk P w K mg base CX0 4 f fd ["self","pieces"] (spF K 2 lP):=by
 have nd:=sE.nd;refine qC (k:=3) (g:=lN) Fn sE (1:) (2:)
 exact(zB (qA (i:=2) nd (zO C_parts_in hr (zF (pnV 1) (zF (PV.n (qR (zG qI (zG (jG T.fl_at (zL 0)) zS)))) zN))))
  (zB (qA (i:=3) nd (zO C_parts_in hr (zF (pnV 1) (zF (PV.n (qR (zG (qD (PV.w (jG T.fl_at (zL 0))) (PV.w (jG T.fl_many (zL 0)))) (zG qI zS)))) zN))))
  (zD (jW (yR C_knit hr (zF (PV.n (PVf.s (xT (zC 2) (PV.w (zO C_shifted hr (zF (pnV 3) (zF (PV.n (jJ (jG T.fl_many (zL 0)))) zN))))))) zN))))))
theorem uZ:FnScope ["self","pieces"] ["self","pieces"] (zJ (aR (top 31) 3)):={}
theorem JS{f:aA}{fd:aK}(Fn:Fun K "done" "Move.done" (aR (top 31) 3) f fd)(T:Glb K mg)(C_shifted:Cal P w K mg base "shifted" 2 2 eX):FnOk P w K mg base CX0 3 f fd ["self","pieces"] (spF K 2 nW):=by
 have nd:=uZ.nd;refine qC (k:=2) (g:=nV) Fn uZ (1:) (2:);exact(zD (jW (yR C_shifted hr (zF (pnV 1) (zF (PV.n (jG T.fl_far (zL 0))) zN)))))
theorem lI:FnScope ["self","place"] ["self","place"] (zJ (aR (top 32) 4)):={}
theorem pZ{f:aA}{fd:aK}(Fn:Fun K "least_from" "Stretch.least_from" (aR (top 32) 4) f fd)(T:Glb K mg): FnOk P w K mg base CX0 1 f fd ["self","place"] (spF K 2 dC):=by
 have nd:=lI.nd;refine qC (k:=0) (g:=eO) Fn lI (1:) (2:);exact(zD (zM (PV.w (AF (xR (pnV 1) (PV.n qI)) qI (jJ (qM (PV.w (jB (PV.w (jJ (zL 1))) (PV.w (jG T.fl_top (zL 0))))) (PV.w (jG T.fl_bottom (zL 0)))))))))
theorem rH:FnScope ["self","pieces","rows"] ["self","pieces"] (zJ (aR (top 32) 3)):={}
theorem CF{f:aA}{fd:aK}(Fn:Fun K "done" "Stretch.done" (aR (top 32) 3) f fd)(T:Glb K mg)(C_knit:Cal P w K mg base "knit" 1 1 fU)(M_least_from:MCal P w K mg base "least_from" 1 1 [4] bS):FnOk P w K mg base CX0 2 f fd ["self","pieces"] (spF K 2 kU):=by
 have nd:=rH.nd;have nI0:(["low","behind","value","self"]:List Str).Nodup:=by decide +kernel
 have nI1:(["row"]:List Str).Nodup:=by decide +kernel
 refine qC (k:=1) (g:=kT) Fn rH (1:) (2:)
 exact(zB (BO (i:=2) nd (NY:=["low","behind","value","self"]) (mp:=[none,none,none,some 0]) (jD (by kernel_rfl)) rfl (jI (zL 1)) (fun c=>(yN (n:=3) rfl (zW (zR (i:=0) nI0) (zW (zR (i:=1) nI0) (zW (zR (i:=2) nI0) jT))))) (fun c=>xN) (fun c=>(qR (zG (wM M_least_from hr (zL 3) (zF (pnV 0) zN)) (zG (wM M_least_from hr (zL 3) (zF (pnV 1) zN)) (zG (zL 2) zS))))))
  (zD (jW (yR C_knit hr (zF (PV.n (PVf.s (yY (NY:=["row"]) (mp:=[none]) (jD (by kernel_rfl)) rfl (jI (zL 2)) (fun c=>(zR (i:=0) nI1)) (fun c=>(EW (PWv.t (xK (xR (PV.n (qF (zC 0) pwI)) (PV.n qI)) (yT (vX hr (PV.n (qF (zC 0) pwI)) (PV.n (qF (zC 0) pwI)))))))) (fun c=>(zL 0))))) zN)))))
theorem DC:FnScope ["side"] ["side"] (zJ (top 40)):={}
theorem NX{f:aA}{fd:aK}(Fn:Fun K "mirrored" "mirrored" (top 40) f fd)(T:Glb K mg): FnOk P w K mg base CX0 1 f fd ["side"] (spF K 1 fE):=by
 have nd:=DC.nd;refine qC (k:=0) (g:=oV) Fn DC (1:) (2:);exact(zD (zM (PV.w (AF (xR (pnV 0) (PV.n qI)) qI (jK pwI (zC 0))))))
theorem sH:FnScope ["self","pieces"] ["self","pieces"] (zJ (aR (top 33) 2)):={}
theorem ED{f:aA}{fd:aK}(Fn:Fun K "done" "Mirror.done" (aR (top 33) 2) f fd)(T:Glb K mg)(C_mirrored:Cal P w K mg base "mirrored" 1 1 fE):FnOk P w K mg base CX0 2 f fd ["self","pieces"] (spF K 2 lV):=by
 have nd:=sH.nd;have nI0:(["low","behind","value"]:List Str).Nodup:=by decide +kernel
 refine qC (k:=1) (g:=lU) Fn sH (1:) (2:);exact(zD (jW (yY (NY:=["low","behind","value"]) (mp:=[none,none,none]) (jD (by kernel_rfl)) rfl (WK trivial T.b_reversed (zL 1)) (fun c=>(yN (n:=3) rfl (zW (zR (i:=0) nI0) (zW (zR (i:=1) nI0) (zW (zR (i:=2) nI0) jT))))) (fun c=>xN) (fun c=>(qR (zG (zO C_mirrored hr (zF (pnV 1) zN)) (zG (zO C_mirrored hr (zF (pnV 0) zN)) (zG (zL 2) zS))))))))
theorem DH:FnScope ["self","place"] ["self","place"] (zJ (aR (top 28) 2)):={}
theorem OD{f:aA}{fd:aK}(Fn:Fun K "went" "Put.went" (aR (top 28) 2) f fd)(T:Glb K mg): FnOk P w K mg base CX0 1 f fd ["self","place"] (spF K 2 oX):=by
 have nd:=DH.nd;refine qC (k:=0) (g:=oW) Fn DH (1:) (2:);exact(zD (zM (zC 1)))
theorem LB:FnScope ["place","at","many"] ["place","at","many"] (zJ (top 36)):={}
theorem UO{f:aA}{fd:aK}(Fn:Fun K "opened" "opened" (top 36) f fd)(T:Glb K mg): FnOk P w K mg base CX0 1 f fd ["place","at","many"] (spF K 3 hO):=by
 have nd:=LB.nd;refine qC (k:=0) (g:=rR) Fn LB (1:) (2:);exact(zD (zM (PV.w (AF (wN (zC 0) (zC 1)) (zL 0) (qD (zC 0) (zC 2))))))
theorem tK:FnScope ["self","place"] ["self","place"] (zJ (aR (top 29) 2)):={}
theorem HY{f:aA}{fd:aK}(Fn:Fun K "went" "Widen.went" (aR (top 29) 2) f fd)(T:Glb K mg)(C_opened:Cal P w K mg base "opened" 1 3 hO):FnOk P w K mg base CX0 2 f fd ["self","place"] (spF K 2 mQ):=by
 have nd:=tK.nd;refine qC (k:=1) (g:=mP) Fn tK (1:) (2:);exact(zD (zM (PV.w (zO C_opened hr (zF (pnV 1) (zF (PV.n (jG T.fl_at (zL 0))) (zF (PV.n (jG T.fl_many (zL 0))) zN)))))))
theorem uN:FnScope ["place","at","many"] ["place","at","many"] (zJ (top 37)):={}
theorem JG{f:aA}{fd:aK}(Fn:Fun K "taken_out" "taken_out" (top 37) f fd)(T:Glb K mg): FnOk P w K mg base CX0 1 f fd ["place","at","many"] (spF K 3 fI):=by
 have nd:=uN.nd;refine qC (k:=0) (g:=nP) Fn uN (1:) (2:)
 exact(zB (zT (wN (zC 0) (zC 1)) (zD (zM (zC 0))) zK)
  (zD (zM (PV.w (AF (wN (zC 0) (PV.w (qD (zC 1) (zC 2)))) qI (jK (zC 0) (zC 2)))))))
theorem sD:FnScope ["self","place"] ["self","place"] (zJ (aR (top 30) 2)):={}
theorem DZ{f:aA}{fd:aK}(Fn:Fun K "went" "Narrow.went" (aR (top 30) 2) f fd)(T:Glb K mg)(C_taken_out:Cal P w K mg base "taken_out" 1 3 fI):FnOk P w K mg base CX0 2 f fd ["self","place"] (spF K 2 lM):=by
 have nd:=sD.nd;refine qC (k:=1) (g:=lL) Fn sD (1:) (2:);exact(zD (zM (PV.w (zO C_taken_out hr (zF (pnV 1) (zF (PV.n (jG T.fl_at (zL 0))) (zF (PV.n (jG T.fl_many (zL 0))) zN)))))))
theorem uY:FnScope ["self","place"] ["self","place"] (zJ (aR (top 31) 2)):={}
theorem JR{f:aA}{fd:aK}(Fn:Fun K "went" "Move.went" (aR (top 31) 2) f fd)(T:Glb K mg): FnOk P w K mg base CX0 1 f fd ["self","place"] (spF K 2 nU):=by
 have nd:=uY.nd;refine qC (k:=0) (g:=nT) Fn uY (1:) (2:);exact(zD (zM (PV.w (qD (zC 1) (PV.w (jG T.fl_far (zL 0)))))))
theorem aDh:FnScope ["one","place"] ["one","place"] (zJ (top 14)):={}
theorem fok_has{f:aA}{fd:aK}(Fn:Fun K "has" "has" (top 14) f fd)(T:Glb K mg): FnOk P w K mg base CX0 1 f fd ["one","place"] (spF K 2 rS):=by
 have nd:=aDh.nd;refine qC (k:=0) (g:=FH) Fn aDh (1:) (2:);exact(zD (zM (PV.w (GI (VZ (WA (PV.n (qF (zC 0) pwI)) (PV.n qI)) (vU (aDp (PV.w (qF (zC 0) pwI)) (zC 1)))) (vU (VZ (WA (PV.n (qF (zC 0) pwI)) (PV.n qI)) (vU (pv_lt (zC 1) (PV.w (qF (zC 0) pwI))))))))))
theorem DJ:FnScope ["self","place"] ["self","place"] (zJ (aR (top 28) 1)):={}
theorem OF{f:aA}{fd:aK}(Fn:Fun K "came" "Put.came" (aR (top 28) 1) f fd)(T:Glb K mg)(C_has:Cal P w K mg base "has" 1 2 rS):FnOk P w K mg base CX0 2 f fd ["self","place"] (spF K 2 pB):=by
 have nd:=DJ.nd;refine qC (k:=1) (g:=pA) Fn DJ (1:) (2:);exact(zD (zM (PV.w (AF (PVn.t (PV.n (zO C_has hr (zF (PV.n (jG T.fl_span (zL 0))) (zF (pnV 1) zN))))) qI (zL 1)))))
theorem tM:FnScope ["self","place"] ["self","place"] (zJ (aR (top 29) 1)):={}
theorem IA{f:aA}{fd:aK}(Fn:Fun K "came" "Widen.came" (aR (top 29) 1) f fd)(T:Glb K mg)(C_taken_out:Cal P w K mg base "taken_out" 1 3 fI):FnOk P w K mg base CX0 2 f fd ["self","place"] (spF K 2 mU):=by
 have nd:=tM.nd;refine qC (k:=1) (g:=mT) Fn tM (1:) (2:);exact(zD (zM (PV.w (zO C_taken_out hr (zF (pnV 1) (zF (PV.n (jG T.fl_at (zL 0))) (zF (PV.n (jG T.fl_many (zL 0))) zN)))))))
theorem sF:FnScope ["self","place"] ["self","place"] (zJ (aR (top 30) 1)):={}
theorem EB{f:aA}{fd:aK}(Fn:Fun K "came" "Narrow.came" (aR (top 30) 1) f fd)(T:Glb K mg)(C_opened:Cal P w K mg base "opened" 1 3 hO):FnOk P w K mg base CX0 2 f fd ["self","place"] (spF K 2 lR):=by
 have nd:=sF.nd;refine qC (k:=1) (g:=lQ) Fn sF (1:) (2:);exact(zD (zM (PV.w (zO C_opened hr (zF (pnV 1) (zF (PV.n (jG T.fl_at (zL 0))) (zF (PV.n (jG T.fl_many (zL 0))) zN)))))))
theorem AA:FnScope ["self","place"] ["self","place"] (zJ (aR (top 31) 1)):={}
theorem JT{f:aA}{fd:aK}(Fn:Fun K "came" "Move.came" (aR (top 31) 1) f fd)(T:Glb K mg): FnOk P w K mg base CX0 1 f fd ["self","place"] (spF K 2 nY):=by
 have nd:=AA.nd;refine qC (k:=0) (g:=nX) Fn AA (1:) (2:);exact(zD (zM (PV.w (jK (zC 1) (PV.w (jG T.fl_far (zL 0)))))))
theorem rJ:FnScope ["self","place"] ["self","place"] (zJ (aR (top 32) 1)):={}
theorem CG{f:aA}{fd:aK}(Fn:Fun K "came" "Stretch.came" (aR (top 32) 1) f fd)(T:Glb K mg): FnOk P w K mg base CX0 1 f fd ["self","place"] (spF K 2 gU):=by
 have nd:=rJ.nd;refine qC (k:=0) (g:=kW) Fn rJ (1:) (2:);exact(zD (zM (PV.w (qM (PV.w (jB (zC 1) (PV.w (jG T.fl_bottom (zL 0))))) (PV.w (jG T.fl_top (zL 0)))))))
theorem sI:FnScope ["self","place"] ["self","place"] (zJ (aR (top 33) 0)):={}
theorem EE{f:aA}{fd:aK}(Fn:Fun K "came" "Mirror.came" (aR (top 33) 0) f fd)(T:Glb K mg): FnOk P w K mg base CX0 1 f fd ["self","place"] (spF K 2 lX):=by
 have nd:=sI.nd;refine qC (k:=0) (g:=lW) Fn sI (1:) (2:);exact(zD (zM (PV.w (jJ (zL 1)))))
theorem rG:FnScope ["self","place","least"] ["self","place"] (zJ (aR (top 32) 2)):={}
theorem CD{f:aA}{fd:aK}(Fn:Fun K "went" "Stretch.went" (aR (top 32) 2) f fd)(T:Glb K mg)(M_least_from:MCal P w K mg base "least_from" 1 1 [4] bS)(M_came:MCal P w K mg base "came" 2 1 [0,1,2,3,4,5] cX):FnOk P w K mg base CX0 3 f fd ["self","place"] (spF K 2 kS):=by
 have nd:=rG.nd;refine qC (k:=2) (g:=kR) Fn rG (1:) (2:)
 exact(zB (qA (i:=2) nd (wM M_least_from hr (zL 0) (zF (pnV 1) zN)))
  (zD (zM (PV.w (AF (qT hr (PV.n (wM M_came hr (zL 0) (zF (pnV 2) zN))) (pnV 1)) (zL 2) qI)))))
theorem sG:FnScope ["self","place"] ["self","place"] (zJ (aR (top 33) 1)):={}
theorem EC{f:aA}{fd:aK}(Fn:Fun K "went" "Mirror.went" (aR (top 33) 1) f fd)(T:Glb K mg): FnOk P w K mg base CX0 1 f fd ["self","place"] (spF K 2 lT):=by
 have nd:=sG.nd;refine qC (k:=0) (g:=lS) Fn sG (1:) (2:);exact(zD (zM (PV.w (jJ (zL 1)))))
theorem GF:FnScope ["self","deed","places","name","place"] ["self","deed"] (zJ (aR (top 12) 1)):={}
theorem RX{f:aA}{fd:aK}(Fn:Fun K "do" "Line.do" (aR (top 12) 1) f fd)(T:Glb K mg)(M_step:LCal P w K mg base "step" 1 2 [11] (fun _=>dE))(M_done:MCal P w K mg base "done" 6 1 [0,1,2,3,4,5] cE)(M_went:MCal P w K mg base "went" 3 1 [0,1,2,3,4,5] cO):FnOk P w K mg base CX0 7 f fd ["self","deed"] (spL K 1 eY):=by
 have nd:=GF.nd;refine vI (k:=6) (n:=1) (g:=nH) Fn GF (1:) (fun _ _ _ _ e=>e)
 exact(zB (kE (i:=2) nd QD)
  (zB (aEe PassesOwn.never rfl (ZJ (xF (yS T.fl_places (qN 0)))) (yN (n:=2) rfl (zW (zR (i:=3) nd) (zW (zR (i:=4) nd) jT))) (zD (AH hr (qN 2) (zL 3) (AF (xR (pnV 4) (PV.n qI)) qI (wM M_went hr (zL 1) (zF (pnV 4) zN))))))
  (zD (QK (i:=2) (kC M_step hr (qN 0) (zG (wM M_done hr (zL 1) (zF (PV.n (xF (yS T.fl_pieces (qN 0)))) zN)) (zG (zL 2) zS)))))))
theorem AD:FnScope ["self","name","place","places"] ["self","name","place"] (zJ (aR (top 12) 2)):={}
theorem JW{f:aA}{fd:aK}(Fn:Fun K "mark" "Line.mark" (aR (top 12) 2) f fd)(T:Glb K mg)(C_is_name:Cal P w K mg base "is_name" 1 1 gN)(M_step:LCal P w K mg base "step" 1 2 [11] (fun _=>dE)):FnOk P w K mg base CX0 2 f fd ["self","name","place"] (spL K 2 eB):=by
 have nd:=AD.nd;refine vI (k:=1) (n:=2) (g:=kY) Fn AD (1:) (fun _ _ _ _ e=>e)
 exact(zB (zT (yH (PVn.t (PV.n (zO C_is_name hr (zF (pnV 1) zN))))) (zD xH) zK)
  (zB (kE (i:=3) nd (ZA T.b_dict (xF (yS T.fl_places (qN 0)))))
  (zB (AH hr (qN 3) (zL 1) (zL 2))
  (zD (QK (i:=3) (kC M_step hr (qN 0) (zG (xF (yS T.fl_pieces (qN 0))) (zG (zL 3) zS))))))))
theorem sJ:FnScope ["self","state"] ["self","state"] (zJ (aR (top 12) 6)):={}
theorem EF{f:aA}{fd:aK}(Fn:Fun K "become" "Line.become" (aR (top 12) 6) f fd)(T:Glb K mg): FnOk P w K mg base CX0 1 f fd ["self","state"] (spL K 1 cY):=by
 have nd:=sJ.nd;refine vI (k:=0) (n:=1) (g:=lY) Fn sJ (1:) (fun _ _ _ _ e=>e)
 exact(zB (xS T.fl_pieces (qN 0) (LI (qF (zC 1) pwI)))
  (zD (xS T.fl_places (qN 0) (LI (qF (zC 1) pwI)))))
theorem AE:FnScope ["self"] ["self"] (zJ (aR (top 12) 4)):={}
theorem JX{f:aA}{fd:aK}(Fn:Fun K "back" "Line.back" (aR (top 12) 4) f fd)(T:Glb K mg)(M_become:LCal P w K mg base "become" 1 1 [11] (fun _=>cY)):FnOk P w K mg base CX0 2 f fd ["self"] (spL K 0 fJ):=by
 have nd:=AE.nd;refine vI (k:=1) (n:=0) (g:=kZ) Fn AE (1:) (fun _ _ _ _ e=>e)
 exact(zB (zT (yH (PVn.t (QE (yS T.fl_earlier (qN 0))))) (zD xH) zK)
  (zB (GO (yS T.fl_later (qN 0)) (qR (zG (xF (yS T.fl_pieces (qN 0))) (zG (xF (yS T.fl_places (qN 0))) zS))))
  (zD (LM (i:=0) M_become hr (VW (yS T.fl_earlier (qN 0)))))))
theorem tQ:FnScope ["self"] ["self"] (zJ (aR (top 12) 5)):={}
theorem IE{f:aA}{fd:aK}(Fn:Fun K "again" "Line.again" (aR (top 12) 5) f fd)(T:Glb K mg)(M_become:LCal P w K mg base "become" 1 1 [11] (fun _=>cY)):FnOk P w K mg base CX0 2 f fd ["self"] (spL K 0 eR):=by
 have nd:=tQ.nd;refine vI (k:=1) (n:=0) (g:=iM) Fn tQ (1:) (fun _ _ _ _ e=>e)
 exact(zB (zT (yH (PVn.t (QE (yS T.fl_later (qN 0))))) (zD xH) zK)
  (zB (GO (yS T.fl_earlier (qN 0)) (qR (zG (xF (yS T.fl_pieces (qN 0))) (zG (xF (yS T.fl_places (qN 0))) zS))))
  (zD (LM (i:=0) M_become hr (VW (yS T.fl_later (qN 0)))))))
theorem AB:FnScope ["self"] ["self"] (zJ (aR (top 12) 7)):={}
theorem JU{f:aA}{fd:aK}(Fn:Fun K "told" "Line.told" (aR (top 12) 7) f fd)(T:Glb K mg): FnOk P w K mg base CX0 1 f fd ["self"] (spF K 1 oA):=by
 have nd:=AB.nd;refine qC (k:=0) (g:=nZ) Fn AB (1:) (2:);exact(zD (jW (kH T.b_list (PV.w (jG T.fl_pieces (zL 0))))))
theorem tN:FnScope ["self","name"] ["self","name"] (zJ (aR (top 12) 8)):={}
theorem IB{f:aA}{fd:aK}(Fn:Fun K "where" "Line.where" (aR (top 12) 8) f fd)(T:Glb K mg)(C_is_name:Cal P w K mg base "is_name" 1 1 gN):FnOk P w K mg base CX0 2 f fd ["self","name"] (spF K 2 mW):=by
 have nd:=tN.nd;refine qC (k:=1) (g:=mV) Fn tN (1:) (2:)
 exact(zB (zT (PWv.t (xK (yH (PVn.t (PV.n (zO C_is_name hr (zF (pnV 1) zN))))) (yT (aEa hr (pnV 1) (PV.n (jG T.fl_places (zL 0))))))) (zD xH) zK)
  (zD (zM (PV.w (ET hr (jG T.fl_places (zL 0)) (zL 1))))))
theorem tP:FnScope ["self"] ["self"] (zJ (aR (top 12) 9)):={}
theorem IC{f:aA}{fd:aK}(Fn:Fun K "marks" "Line.marks" (aR (top 12) 9) f fd)(T:Glb K mg): FnOk P w K mg base CX0 1 f fd ["self"] (spF K 1 mY):=by
 have nd:=tP.nd;refine qC (k:=0) (g:=mX) Fn tP (1:) (2:);exact(zD (jW (DK rfl T.b_sorted (PV.n (jG T.fl_places (zL 0))))))
theorem pI:FnScope ["self"] ["self"] (zJ (aR (top 27) 0)):={}
theorem AS{f:aA}{fd:aK}(Fn:Fun K "__init__" "Deed.__init__" (aR (top 27) 0) f fd)(T:Glb K mg): FnOk P w K mg base CX0 1 f fd ["self"] (spN K 0 ["fill"] bT):=by
 have nd:=pI.nd;refine vF (k:=0) (n:=0) (m:=1) (g:=iR) Fn pI (1:) rfl (by decide) rfl;exact(vR (wI qI))
theorem rK:FnScope ["self","span","value"] ["self","span","value"] (zJ (aR (top 28) 0)):={}
theorem CH{f:aA}{fd:aK}(Fn:Fun K "__init__" "Put.__init__" (aR (top 28) 0) f fd)(T:Glb K mg): FnOk P w K mg base CX0 1 f fd ["self","span","value"] (spN K 2 ["span","fill"] eP):=by
 have nd:=rK.nd;refine vF (k:=0) (n:=2) (m:=3) (g:=kX) Fn rK (1:) rfl (by decide) rfl
 exact(yD (ns:=["span"]) (ms:=["fill"]) (wI (qR (zG (qF (zC 1) pwI) (zG (qF (zC 1) pwI) zS))))
  (vR (wI (zL 2))))
theorem sY:FnScope ["many"] ["many"] (zJ (top 34)):={}
theorem HN{f:aA}{fd:aK}(Fn:Fun K "check_many" "check_many" (top 34) f fd)(T:Glb K mg): FnOk P w K mg base CX0 1 f fd ["many"] (spF K 1 fV):=by
 have nd:=sY.nd;refine qC (k:=0) (g:=mO) Fn sY (1:) (2:);exact(zD (zT (wN (zC 0) pwI) (zD xH) zK))
theorem oP:FnScope ["self","at","many"] ["self","at","many"] (zJ (aR (top 29) 0)):={}
theorem uF{f:aA}{fd:aK}(Fn:Fun K "__init__" "Widen.__init__" (aR (top 29) 0) f fd)(T:Glb K mg)(C_check_many:Cal P w K mg base "check_many" 1 1 fV)(S_Deed:SCal P w K mg base "Deed" 1 ["fill"] bT):FnOk P w K mg base CX0 2 f fd ["self","at","many"] (spN K 2 ["fill","at","many"] cI):=by
 have nd:=oP.nd;refine vF (k:=1) (n:=2) (m:=3) (g:=gE) Fn oP (1:) rfl (by decide) rfl
 exact(yD (ns:=[]) (ms:=["fill","at","many"]) (EV (zO C_check_many hr (zF (pnV 2) zN)))
  (yD (ns:=["fill"]) (ms:=["at","many"]) (NI S_Deed hr)
  (yD (ns:=["at"]) (ms:=["many"]) (wI (zL 1))
  (vR (wI (zL 2))))))
theorem oE:FnScope ["self","at","many"] ["self","at","many"] (zJ (aR (top 30) 0)):={}
theorem sR{f:aA}{fd:aK}(Fn:Fun K "__init__" "Narrow.__init__" (aR (top 30) 0) f fd)(T:Glb K mg)(C_check_many:Cal P w K mg base "check_many" 1 1 fV)(S_Deed:SCal P w K mg base "Deed" 1 ["fill"] bT):FnOk P w K mg base CX0 2 f fd ["self","at","many"] (spN K 2 ["fill","at","many"] cI):=by
 have nd:=oE.nd;refine vF (k:=1) (n:=2) (m:=3) (g:=gE) Fn oE (1:) rfl (by decide) rfl
 exact(yD (ns:=[]) (ms:=["fill","at","many"]) (EV (zO C_check_many hr (zF (pnV 2) zN)))
  (yD (ns:=["fill"]) (ms:=["at","many"]) (NI S_Deed hr)
  (yD (ns:=["at"]) (ms:=["many"]) (wI (zL 1))
  (vR (wI (zL 2))))))
theorem pG:FnScope ["self","far"] ["self","far"] (zJ (aR (top 31) 0)):={}
theorem AQ{f:aA}{fd:aK}(Fn:Fun K "__init__" "Move.__init__" (aR (top 31) 0) f fd)(T:Glb K mg)(S_Deed:SCal P w K mg base "Deed" 1 ["fill"] bT):FnOk P w K mg base CX0 2 f fd ["self","far"] (spN K 1 ["fill","far"] eK):=by
 have nd:=pG.nd;refine vF (k:=1) (n:=1) (m:=2) (g:=iP) Fn pG (1:) rfl (by decide) rfl
 exact(yD (ns:=["fill"]) (ms:=["far"]) (NI S_Deed hr)
  (vR (wI (zL 1))))
theorem rY:FnScope ["number"] ["number"] (zJ (top 35)):={}
theorem DU{f:aA}{fd:aK}(Fn:Fun K "check_share" "check_share" (top 35) f fd)(T:Glb K mg): FnOk P w K mg base CX0 1 f fd ["number"] (spF K 1 fF):=by
 have nd:=rY.nd;refine qC (k:=0) (g:=lK) Fn rY (1:) (2:);exact(zD (zT (PWv.t (xK (wN (zC 0) pwI) (yT (GN (zC 0) (PV.w (QH T.c_MOST_SHARE)))))) (zD xH) zK))
theorem nE:FnScope ["self","top","bottom"] ["self","top","bottom"] (zJ (aR (top 32) 0)):={}
theorem sL{f:aA}{fd:aK}(Fn:Fun K "__init__" "Stretch.__init__" (aR (top 32) 0) f fd)(T:Glb K mg)(C_check_share:Cal P w K mg base "check_share" 1 1 fF)(S_Deed:SCal P w K mg base "Deed" 1 ["fill"] bT):FnOk P w K mg base CX0 2 f fd ["self","top","bottom"] (spN K 2 ["fill","top","bottom"] dO):=by
 have nd:=nE.nd;refine vF (k:=1) (n:=2) (m:=3) (g:=gR) Fn nE (1:) rfl (by decide) rfl
 exact(yD (ns:=[]) (ms:=["fill","top","bottom"]) (EV (zO C_check_share hr (zF (pnV 1) zN)))
  (yD (ns:=[]) (ms:=["fill","top","bottom"]) (EV (zO C_check_share hr (zF (pnV 2) zN)))
  (yD (ns:=["fill"]) (ms:=["top","bottom"]) (NI S_Deed hr)
  (yD (ns:=["top"]) (ms:=["bottom"]) (wI (zL 1))
  (vR (wI (zL 2)))))))
theorem sZ:FnScope ["_law_found_here"] ["_law_found_here"] (zJ (top 42)):={}
theorem HP{f:aA}{fd:aK}(Fn:Fun K "_law_whole" "_law_whole" (top 42) f fd)(T:Glb K mg): FnOk P w K mg base CX0 1 f fd ["_law_found_here"] (spF K 1 fK):=by
 have nd:=sZ.nd;refine qC (k:=0) (g:=pQ) Fn sZ (1:) (2:);exact(zD (zM (PV.w (GI (BL T.b_isinstance T.b_int (by decide +kernel) (zC 0)) (vU (pv_not (BL T.b_isinstance T.b_bool (by decide +kernel) (zC 0))))))))
theorem rD:FnScope ["_law_script","_law_k"] ["_law_script","_law_k"] (zJ (top 43)):={}
theorem CA{f:aA}{fd:aK}(Fn:Fun K "_law_cell_at" "_law_cell_at" (top 43) f fd)(T:Glb K mg): FnOk P w K mg base CX0 1 f fd ["_law_script","_law_k"] (spF K 2 dQ):=by
 have nd:=rD.nd;refine qC (k:=0) (g:=pU) Fn rD (1:) (2:)
 exact(zB (zT (wN (zC 1) (PV.w (wH T.b_len (jP (zC 0) yL)))) (zD (zM (PV.w (qF (zC 0) (zC 1))))) zK)
  (zD (zM pwI)))
theorem DF:FnScope ["_law_cells","_law_pieces","_law_behind","_law_cell","_law_rest","_law_low","_law_far","_law_value_here"] ["_law_cells"] (zJ (top 44)):={}
theorem OB{f:aA}{fd:aK}(Fn:Fun K "_law_map" "_law_map" (top 44) f fd)(T:Glb K mg): FnOk P w K mg base CX0 1 f fd ["_law_cells"] (spF K 1 pE):=by
 have nd:=DF.nd;refine qC (k:=0) (g:=BG) Fn DF (1:) (2:)
 exact(zB (xD (i:=1) nd (qQ zS))
  (zB (qA (i:=2) nd qO)
  (zB (yB PassesOwn.never rfl (jI (zL 0)) (zR (i:=3) nd) (zB (qA (i:=4) nd (qM (zC 3) pwI))
  (zB (qA (i:=5) nd (qD (zC 2) (PV.w (qF (PV.w (PVf.s (qQ (zG qO (zG qO (zG (qD pwI (PV.w (zX (zC 4) pwI))) (zG (zX (zC 4) (PV.w (jA pwI pwI))) zS))))))) (PV.w (zX (zC 3) pwI))))))
  (zB (zT (qT hr (pnV 1) (PV.n (PVf.s (qQ zS)))) (zB (qA (i:=6) nd (jB pwI (PV.w (jA (PV.w (jA pwI pwI)) pwI))))
  (zD (qA (i:=5) nd (qF (PV.w (PVf.s (qQ (zG (jK (PV.w (zX (zC 4) pwI)) pwI) (zG (zX (zC 4) (PV.w (jA pwI pwI))) (zG (qD (zC 6) (PV.w (zX (zC 4) (PV.w (jA pwI pwI))))) (zG (jK pwI (zC 6)) zS))))))) (PV.w (zX (zC 3) pwI)))))) zK)
  (zB (qA (i:=7) nd (qF (PV.w (PVf.s (qQ (zG qO (zG qO (zG (jK (PV.w (zX (zC 4) pwI)) pwI) (zG (jK (PV.w (zX (PV.w (jB (zC 4) pwI)) (PV.w (qD (PV.w (jA pwI pwI)) pwI)))) (PV.w (jA pwI pwI))) (zG qO zS)))))))) (PV.w (zX (PV.w (qM (zC 3) pwI)) pwI))))
  (zB (zT (PWv.t (qU (vX hr (pnV 1) (PV.n (PVf.s (qQ zS)))) (qU (qT hr (pnV 5) (pnV 2)) (qS (qT hr (pnV 7) (PV.n (qF (PV.w (qF (zC 1) (PV.w (jJ qO)))) pwI))))))) (zD (qA (i:=7) nd (qD (zC 7) pwI))) zK)
  (zB (qA (i:=2) nd (qD (zC 5) (PV.w (qF (PV.w (PVf.s (qQ (zG qO (zG (qD pwI (PV.w (zX (PV.w (qM (zC 4) pwI)) pwI))) (zG (qD pwI (PV.w (zX (PV.w (jB (zC 4) pwI)) (PV.w (qD (PV.w (jA pwI pwI)) pwI))))) zS)))))) (PV.w (zX (PV.w (qM (zC 3) pwI)) pwI))))))
  (zD (xV (i:=1) (qR (zG (zL 5) (zG (zL 2) (zG (zL 7) zS)))))))))))))
  (zB (zT (PWv.t (qU (vX hr (pnV 1) (PV.n (PVf.s (qQ zS)))) (qS (qT hr (PV.n (zX (PV.w (qM (PV.w (qF (zC 0) pwI)) pwI)) pwI)) pnI)))) (zD (vL (i:=1) (qR (zG qI (zG (qF (PV.w (qF (zC 1) pwI)) pwI) (zG (qF (PV.w (qF (zC 1) pwI)) pwI) zS)))) qO)) zK)
  (zB (zT (PWv.t (qU (vX hr (pnV 1) (PV.n (PVf.s (qQ zS)))) (qS (qT hr (PV.n (zX (PV.w (qM (PV.w (qF (zC 0) (PV.w (jJ qO)))) pwI)) pwI)) pnI)))) (zD (vL (i:=1) (qR (zG (qF (PV.w (qF (zC 1) (PV.w (jJ qO)))) pwI) (zG qI (zG (qF (PV.w (qF (zC 1) (PV.w (jJ qO)))) pwI) zS)))) (jJ qO))) zK)
  (zD (xZ 1)))))))
theorem tH:FnScope ["_law_cell"] ["_law_cell"] (zJ (top 45)):={}
theorem HV{f:aA}{fd:aK}(Fn:Fun K "_law_mixed" "_law_mixed" (top 45) f fd)(T:Glb K mg): FnOk P w K mg base CX0 1 f fd ["_law_cell"] (spF K 1 fM):=by
 have nd:=tH.nd;refine qC (k:=0) (g:=tW) Fn tH (1:) (2:);exact(zD (zM (PV.w (zX (PV.w (jA (PV.w (zX (PV.w (qD (PV.w (jB (zC 0) (PV.w (jA pwI pwI)))) (PV.w (jA pwI pwI)))) (PV.w (qD (PV.w (jA pwI pwI)) pwI)))) pwI)) (PV.w (qD (PV.w (jA pwI pwI)) pwI))))))
theorem sC:FnScope ["_law_number","_law_base","_law_many_here","_law_found_here","_law_rest","_law_k"] ["_law_number","_law_base","_law_many_here"] (zJ (top 46)):={}
theorem DY{f:aA}{fd:aK}(Fn:Fun K "_law_digits" "_law_digits" (top 46) f fd)(T:Glb K mg)(C__law_mixed:Cal P w K mg base "_law_mixed" 1 1 fM):FnOk P w K mg base CX0 2 f fd ["_law_number","_law_base","_law_many_here"] (spF K 3 fZ):=by
 have nd:=sC.nd;refine qC (k:=1) (g:=rW) Fn sC (1:) (2:)
 exact(zB (xD (i:=3) nd (qQ zS))
  (zB (qA (i:=4) nd (zO C__law_mixed hr (zF (pnV 0) zN)))
  (zB (yB PassesOwn.never rfl (xL T.b_range (zL 2)) (zR (i:=5) nd) (zB (zT (qT hr (pnV 0) pnI) (zB (qA (i:=4) nd (zO C__law_mixed hr (zF (pnV 4) zN)))
  (zD (qA (i:=0) nd (qD pwI (PV.w (zX (PV.w (qM (zC 4) pwI)) (PV.w (qF (PV.w (PVf.s (qQ (zG qO (zG (jA pwI pwI) (zG (jA pwI pwI) zS)))))) (PV.w (zX (zC 4) pwI)))))))))) zK)
  (zB (xV (i:=3) (zX (zC 0) (zC 1)))
  (zD (qA (i:=0) nd (qM (zC 0) (zC 1)))))))
  (zD (xZ 3)))))
theorem DD:FnScope ["_law_number"] ["_law_number"] (zJ (top 47)):={}
theorem NZ{f:aA}{fd:aK}(Fn:Fun K "_law_zig" "_law_zig" (top 47) f fd)(T:Glb K mg): FnOk P w K mg base CX0 1 f fd ["_law_number"] (spF K 1 lA):=by
 have nd:=DD.nd;refine qC (k:=0) (g:=FI) Fn DD (1:) (2:);exact(zD (zM (PV.w (jB (PV.w (qM (PV.w (qD (zC 0) pwI)) pwI)) (PV.w (jK pwI (PV.w (jB pwI (PV.w (zX (zC 0) pwI))))))))))
theorem rF:FnScope ["_law_many_here","_law_turn","_law_ends_cell","_law_values_cell","_law_far","_law_ends_here","_law_values","_law_pieces","_law_k","_law_low","_law_behind"] ["_law_many_here","_law_turn","_law_ends_cell","_law_values_cell"] (zJ (top 48)):={}
theorem CC{f:aA}{fd:aK}(Fn:Fun K "_law_any_map" "_law_any_map" (top 48) f fd)(T:Glb K mg)(C__law_zig:Cal P w K mg base "_law_zig" 1 1 lA)(C__law_digits:Cal P w K mg base "_law_digits" 2 3 fZ):FnOk P w K mg base CX0 3 f fd ["_law_many_here","_law_turn","_law_ends_cell","_law_values_cell"] (spF K 4 gP):=by
 have nd:=rF.nd;have nI0:(["_law_one"]:List Str).Nodup:=by decide +kernel
 have nI1:(["_law_one"]:List Str).Nodup:=by decide +kernel
 refine qC (k:=2) (g:=mM) Fn rF (1:) (2:)
 exact(zB (qA (i:=4) nd (jA (PV.w (jA pwI pwI)) pwI))
  (zB (qA (i:=5) nd (PVf.s (NE rfl T.b_sorted (PV.w (PVf.s (yY (NY:=["_law_one"]) (mp:=[none]) (jD (by kernel_rfl)) rfl (jI (zO C__law_digits hr (zF (pnV 2) (zF (PV.n (qD (PV.w (jB pwI (zC 4))) pwI)) (zF (PV.n (jB pwI (zC 0))) zN))))) (fun c=>(zR (i:=0) nI0)) (fun c=>xN) (fun c=>(zO C__law_zig hr (zF (pnV 0) zN)))))))))
  (zB (BO (i:=6) nd (NY:=["_law_one"]) (mp:=[none]) (jD (by kernel_rfl)) rfl (jI (zO C__law_digits hr (zF (pnV 3) (zF (PV.n (qD (PV.w (jB pwI (zC 4))) pwI)) (zF (pnV 0) zN))))) (fun c=>(zR (i:=0) nI1)) (fun c=>xN) (fun c=>(zO C__law_zig hr (zF (pnV 0) zN))))
  (zB (xD (i:=7) nd (qQ zS))
  (zB (yB PassesOwn.never rfl (xL T.b_range (zL 0)) (zR (i:=8) nd) (zB (wL (PVf.s (yC (zC 5) (yG (PV.w (jB pwI (zC 8)))) (yG (PV.w (qD (PV.w (jB pwI (zC 8))) pwI))))) (WM (n:=2) rfl (zW (zR (i:=9) nd) (zW (zR (i:=10) nd) jT))))
  (zD (zT (PWv.t (qU (vX hr (pnV 7) (PV.n (PVf.s (qQ zS)))) (qU (qT hr (pnV 9) (PV.n (qF (PV.w (qF (zC 7) (PV.w (jJ qO)))) pwI))) (qS (qT hr (PV.n (qF (zC 6) (zC 8))) (PV.n (qF (PV.w (qF (zC 7) (PV.w (jJ qO)))) pwI))))))) (zD (vL (i:=7) (qR (zG (qF (PV.w (qF (zC 7) (PV.w (jJ qO)))) pwI) (zG (zL 10) (zG (qF (zC 6) (zC 8)) zS)))) (jJ qO))) (zD (zT (wN (zC 9) (zC 10)) (zD (xV (i:=7) (qR (zG (zL 9) (zG (zL 10) (zG (qF (zC 6) (zC 8)) zS)))))) zK))))))
  (zB (zT (PWv.t (qU (vX hr (pnV 7) (PV.n (PVf.s (qQ zS)))) (qS (qT hr (PV.n (zX (zC 1) pwI)) pnI)))) (zD (vL (i:=7) (qR (zG qI (zG (qF (PV.w (qF (zC 7) pwI)) pwI) (zG (qF (PV.w (qF (zC 7) pwI)) pwI) zS)))) qO)) zK)
  (zB (zT (PWv.t (qU (vX hr (pnV 7) (PV.n (PVf.s (qQ zS)))) (qS (qT hr (PV.n (zX (PV.w (qM (zC 1) pwI)) pwI)) pnI)))) (zD (vL (i:=7) (qR (zG (qF (PV.w (qF (zC 7) (PV.w (jJ qO)))) pwI) (zG qI (zG (qF (PV.w (qF (zC 7) (PV.w (jJ qO)))) pwI) zS)))) (jJ qO))) zK)
  (zD (xZ 7)))))))))
theorem rZ:FnScope ["_law_cells","_law_way","_law_one","_law_other","_law_found_here","_law_cell","_law_second","_law_third"] ["_law_cells","_law_way"] (zJ (top 49)):={}
theorem DV{f:aA}{fd:aK}(Fn:Fun K "_law_threes" "_law_threes" (top 49) f fd)(T:Glb K mg)(C__law_mixed:Cal P w K mg base "_law_mixed" 1 1 fM):FnOk P w K mg base CX0 2 f fd ["_law_cells","_law_way"] (spA K 2 fH):=by
 have nd:=rZ.nd;have nI0:(["_law_k","_law_cells"]:List Str).Nodup:=by decide +kernel
 refine XQ (k:=1) (n:=2) (F:=fH) (g:=kP) Fn rZ (1:) rfl (2:)
 exact(zB (zT (qT hr (pnV 1) pnI) (zD (kI (PVf.s (yY (NY:=["_law_k","_law_cells"]) (mp:=[none,some 0]) (jD (by kernel_rfl)) rfl (xL T.b_range (qM (PV.w (wH T.b_len (jP (zC 0) yL))) pwI)) (fun c=>(zR (i:=0) nI0)) (fun c=>xN) (fun c=>(PVf.s (yC (zC 1) (yG (PV.w (jB pwI (zC 0)))) (yG (PV.w (qD (PV.w (jB pwI (zC 0))) pwI)))))))))) zK)
  (zB (qA (i:=2) nd (jB pwI (PV.w (qD (PV.w (jB pwI (PV.w (jA pwI pwI)))) pwI))))
  (zB (qA (i:=3) nd (jB pwI (PV.w (qD (PV.w (jB pwI (PV.w (jA pwI pwI)))) pwI))))
  (zB (xD (i:=4) nd (qQ zS))
  (zB (yB PassesOwn.never rfl (jI (zL 0)) (zR (i:=5) nd) (zB (qA (i:=6) nd (qM (zC 5) (zC 2)))
  (zB (zT (qT hr (pnV 6) pnI) (zD (qA (i:=6) nd (zO C__law_mixed hr (zF (pnV 5) zN)))) zK)
  (zB (qA (i:=7) nd (qM (zC 6) (zC 3)))
  (zB (zT (qT hr (pnV 7) pnI) (zD (qA (i:=7) nd (zO C__law_mixed hr (zF (pnV 6) zN)))) zK)
  (zD (xV (i:=4) (PVf.s (qQ (zG (zX (zC 5) (zC 2)) (zG (zX (zC 6) (zC 3)) (zG (zL 7) zS))))))))))))
  (zD (WF 4 (kI (zL 4)))))))))
theorem uQ:FnScope ["_law_number","_law_size","_law_word_here","_law_k"] ["_law_number","_law_size"] (zJ (top 50)):={}
theorem JJ{f:aA}{fd:aK}(Fn:Fun K "_law_word" "_law_word" (top 50) f fd)(T:Glb K mg): FnOk P w K mg base CX0 1 f fd ["_law_number","_law_size"] (spF K 2 iW):=by
 have nd:=uQ.nd;refine qC (k:=0) (g:=BD) Fn uQ (1:) (2:)
 exact(zB (qA (i:=2) nd jE)
  (zB (yB PassesOwn.never rfl (xL T.b_range (zL 1)) (zR (i:=3) nd) (zB (qA (i:=2) nd (qD (zC 2) (PV.w (qF (PV.w jE) (PV.w (zX (zC 0) pwI))))))
  (zD (qA (i:=0) nd (qD (PV.w (qM (zC 0) pwI)) pwI)))))
  (zD (zM (zC 2)))))
theorem uT:FnScope ["_law_seed","_law_cell","_law_size","_law_word_here","_law_at","_law_sign"] ["_law_seed","_law_cell"] (zJ (top 51)):={}
theorem JM{f:aA}{fd:aK}(Fn:Fun K "_law_name" "_law_name" (top 51) f fd)(T:Glb K mg)(C__law_word:Cal P w K mg base "_law_word" 1 2 iW):FnOk P w K mg base CX0 2 f fd ["_law_seed","_law_cell"] (spF K 2 nK):=by
 have nd:=uT.nd;refine qC (k:=1) (g:=iA) Fn uT (1:) (2:)
 exact(zB (qA (i:=2) nd (qD pwI (PV.w (zX (zC 0) pwI))))
  (zB (qA (i:=3) nd (zO C__law_word hr (zF (PV.n (qM (zC 0) pwI)) (zF (pnV 2) zN))))
  (zB (qA (i:=4) nd (zX (PV.w (qM (zC 1) pwI)) (zC 2)))
  (zB (qA (i:=5) nd (zO C__law_word hr (zF (PV.n (qM (zC 1) pwI)) (zF pnI zN))))
  (zB (zT (qT hr (PV.n (zX (zC 1) pwI)) pnI) (zD (zM (PV.w (qD (PV.w (qD (PV.w (NG (zC 3) wO (yG (zC 4)))) (zC 5))) (PV.w (NG (zC 3) (yG (PV.w (qD (zC 4) pwI))) wO)))))) zK)
  (zB (zT (qT hr (PV.n (zX (zC 1) pwI)) pnI) (zD (zM (PV.w (NG (zC 3) wO (yG (PV.w (qD (zC 4) pwI))))))) zK)
  (zB (zT (qT hr (PV.n (zX (zC 1) pwI)) pnI) (zD (zM (PV.w (NG (PV.w (qD (zC 3) (zC 5))) wO (yG pwI))))) zK)
  (zB (zT (qT hr (PV.n (zX (zC 1) pwI)) pnI) (zD (zM (PV.w (zO C__law_word hr (zF (PV.n (qM (zC 1) pwI)) (zF (PV.n (qD pwI (PV.w (zX (PV.w (qM (zC 1) pwI)) pwI)))) zN)))))) zK)
  (zD (zM (zC 3)))))))))))
theorem tG:FnScope ["_law_cell","_law_known","_law_rest"] ["_law_cell","_law_known"] (zJ (top 52)):={}
theorem HU{f:aA}{fd:aK}(Fn:Fun K "_law_place" "_law_place" (top 52) f fd)(T:Glb K mg): FnOk P w K mg base CX0 1 f fd ["_law_cell","_law_known"] (spF K 2 eM):=by
 have nd:=tG.nd;refine qC (k:=0) (g:=rV) Fn tG (1:) (2:)
 exact(zB (qA (i:=2) nd (qM (zC 0) pwI))
  (zB (zT (qT hr (PV.n (zX (zC 0) pwI)) pnI) (zD (zM (PV.w (jK (PV.w (zX (zC 2) (PV.w (qD (PV.w (jB pwI (PV.w (jA pwI pwI)))) pwI)))) (PV.w (jA pwI pwI)))))) zK)
  (zB (zT (PWv.t (qU (qT hr (PV.n (zX (zC 0) pwI)) pnI) (qS (vX hr (pnV 1) (PV.n (PVf.s (qQ zS))))))) (zD (zM (PV.w (jK (PV.w (qD (PV.w (qF (zC 1) (PV.w (zX (zC 2) (PV.w (wH T.b_len (jP (zC 1) yL))))))) (PV.w (zX (PV.w (qM (zC 2) (PV.w (wH T.b_len (jP (zC 1) yL))))) pwI)))) pwI)))) zK)
  (zD (zM (PV.w (jK (PV.w (zX (zC 2) pwI)) pwI)))))))
theorem uU:FnScope ["_law_cell"] ["_law_cell"] (zJ (top 53)):={}
theorem JN{f:aA}{fd:aK}(Fn:Fun K "_law_many" "_law_many" (top 53) f fd)(T:Glb K mg): FnOk P w K mg base CX0 1 f fd ["_law_cell"] (spF K 1 iZ):=by
 have nd:=uU.nd;refine qC (k:=0) (g:=BH) Fn uU (1:) (2:);exact(zD (zM (PV.w (qF (PV.w (PVf.s (qQ (zG (zX (PV.w (qM (zC 0) pwI)) pwI) (zG (zX (PV.w (qM (zC 0) pwI)) (PV.w (jA pwI pwI))) (zG (zX (PV.w (qM (zC 0) pwI)) pwI) zS)))))) (PV.w (zX (zC 0) pwI))))))
theorem tF:FnScope ["_law_cell"] ["_law_cell"] (zJ (top 54)):={}
theorem HS{f:aA}{fd:aK}(Fn:Fun K "_law_share" "_law_share" (top 54) f fd)(T:Glb K mg): FnOk P w K mg base CX0 1 f fd ["_law_cell"] (spF K 1 lZ):=by
 have nd:=tF.nd;refine qC (k:=0) (g:=tV) Fn tF (1:) (2:);exact(zD (zM (PV.w (qD pwI (PV.w (zX (PV.w (qM (zC 0) pwI)) (PV.w (qF (PV.w (PVf.s (qQ (zG qO (zG qO zS))))) (PV.w (zX (zC 0) pwI))))))))))
theorem uS:FnScope ["_law_at","_law_cell","_law_size"] ["_law_at","_law_cell"] (zJ (top 55)):={}
theorem JL{f:aA}{fd:aK}(Fn:Fun K "_law_span" "_law_span" (top 55) f fd)(T:Glb K mg)(C__law_many:Cal P w K mg base "_law_many" 1 1 iZ):FnOk P w K mg base CX0 2 f fd ["_law_at","_law_cell"] (spF K 2 oC):=by
 have nd:=uS.nd;refine qC (k:=1) (g:=tU) Fn uS (1:) (2:)
 exact(zB (qA (i:=2) nd (qD pwI (PV.w (zO C__law_many hr (zF (PV.n (qM (zC 1) pwI)) zN)))))
  (zB (zT (GN (PV.w (zX (zC 1) pwI)) pwI) (zD (zM (PV.w (qF (PV.w (PVf.s (qQ (zG (qR (zG (zL 0) (zG qI zS))) (zG (qR (zG qI (zG (zL 0) zS))) (zG (qR (zG qI (zG qI zS))) zS)))))) (PV.w (jK (PV.w (zX (zC 1) pwI)) pwI)))))) zK)
  (zD (zM (PV.w (qR (zG (zL 0) (zG (qD (zC 0) (zC 2)) zS))))))))
theorem DE:FnScope ["_law_a","_law_b","_law_c","_law_known","_law_at","_law_value_here"] ["_law_a","_law_b","_law_c","_law_known"] (zJ (top 56)):={}
theorem OA{f:aA}{fd:aK}(Fn:Fun K "_law_row" "_law_row" (top 56) f fd)(T:Glb K mg)(C__law_place:Cal P w K mg base "_law_place" 1 2 eM)(C__law_span:Cal P w K mg base "_law_span" 2 2 oC)(C__law_many:Cal P w K mg base "_law_many" 1 1 iZ)(C__law_share:Cal P w K mg base "_law_share" 1 1 lZ):FnOk P w K mg base CX0 3 f fd ["_law_a","_law_b","_law_c","_law_known"] (spF K 4 nJ):=by
 have nd:=DE.nd;refine qC (k:=2) (g:=BF) Fn DE (1:) (2:)
 exact(zB (qA (i:=4) nd (zO C__law_place hr (zF (pnV 1) (zF (pnV 3) zN))))
  (zB (zT (qT hr (PV.n (zX (zC 0) pwI)) pnI) (zD (zM (PV.w (qR (zG jE (zG (zL 4) (zG (zO C__law_many hr (zF (pnV 2) zN)) zS))))))) zK)
  (zB (zT (qT hr (PV.n (zX (zC 0) pwI)) pnI) (zD (zM (PV.w (qR (zG jE (zG (zL 4) (zG (zO C__law_many hr (zF (pnV 2) zN)) zS))))))) zK)
  (zB (zT (qT hr (PV.n (zX (zC 0) pwI)) pnI) (zD (zM (PV.w (qR (zG jE (zG (zL 4) (zG qO zS))))))) zK)
  (zB (zT (qT hr (PV.n (zX (zC 0) pwI)) pnI) (zD (zM (PV.w (qR (zG jE (zG (zO C__law_share hr (zF (pnV 1) zN)) (zG (zO C__law_share hr (zF (pnV 2) zN)) zS))))))) zK)
  (zB (zT (qT hr (PV.n (zX (zC 0) pwI)) pnI) (zD (zM (PV.w (qR (zG jE (zG qO (zG qO zS))))))) zK)
  (zB (qA (i:=5) nd (qF (PV.w (PVf.s (qQ (zG qI (zG qO (zG qO (zG (jK (PV.w (zX (PV.w (qM (zC 0) pwI)) (PV.w (qD (PV.w (jB pwI (PV.w (jA pwI pwI)))) pwI)))) (PV.w (jA pwI pwI))) (zG qO zS)))))))) (PV.w (zX (PV.w (qM (zC 0) pwI)) pwI))))
  (zD (zM (PV.w (qR (zG jE (zG (zO C__law_span hr (zF (pnV 4) (zF (pnV 2) zN))) (zG (zL 5) zS))))))))))))))
theorem uV:FnScope ["_law_row_here","_law_kind","_law_one","_law_other"] ["_law_row_here"] (zJ (top 57)):={}
theorem JO{f:aA}{fd:aK}(Fn:Fun K "_law_made" "_law_made" (top 57) f fd)(T:Glb K mg)(Mk_Mirror:MkC P w K mg base 5 1 0 bT)(Mk_Put:MkC P w K mg base 0 1 2 eP)(Mk_Widen:MkC P w K mg base 1 2 2 cI)(Mk_Narrow:MkC P w K mg base 2 2 2 cI)(Mk_Move:MkC P w K mg base 3 2 1 eK)(Mk_Stretch:MkC P w K mg base 4 2 2 dO):FnOk P w K mg base CX0 4 f fd ["_law_row_here"] (spF K 1 mC):=by
 have nd:=uV.nd;refine qC (k:=3) (g:=tX) Fn uV (1:) (2:)
 exact(zB (wL (zL 0) (yN (n:=3) rfl (zW (zR (i:=1) nd) (zW (zR (i:=2) nd) (zW (zR (i:=3) nd) jT)))))
  (zB (zT (qT hr (pnV 1) (PV.n jE)) (zD (wD (wW Mk_Put hr (zF (pnV 2) (zF (pnV 3) zN))))) zK)
  (zB (zT (qT hr (pnV 1) (PV.n jE)) (zD (wD (wW Mk_Widen hr (zF (pnV 2) (zF (pnV 3) zN))))) zK)
  (zB (zT (qT hr (pnV 1) (PV.n jE)) (zD (wD (wW Mk_Narrow hr (zF (pnV 2) (zF (pnV 3) zN))))) zK)
  (zB (zT (qT hr (pnV 1) (PV.n jE)) (zD (wD (wW Mk_Move hr (zF (pnV 2) zN)))) zK)
  (zB (zT (qT hr (pnV 1) (PV.n jE)) (zD (wD (wW Mk_Stretch hr (zF (pnV 2) (zF (pnV 3) zN))))) zK)
  (zD (wD (ZE Mk_Mirror hr)))))))))
theorem uR:FnScope ["_law_row_here","_law_place_here","_law_kind","_law_one","_law_other","_law_least"] ["_law_row_here","_law_place_here"] (zJ (top 58)):={}
theorem JK{f:aA}{fd:aK}(Fn:Fun K "_law_went" "_law_went" (top 58) f fd)(T:Glb K mg): FnOk P w K mg base CX0 1 f fd ["_law_row_here","_law_place_here"] (spF K 2 iX):=by
 have nd:=uR.nd;refine qC (k:=0) (g:=BE) Fn uR (1:) (2:)
 exact(zB (wL (zL 0) (yN (n:=3) rfl (zW (zR (i:=2) nd) (zW (zR (i:=3) nd) (zW (zR (i:=4) nd) jT)))))
  (zB (zT (PWv.t (xK (xR (pnV 1) (PV.n qI)) (yT (qT hr (pnV 2) (PV.n jE))))) (zD (zM (zC 1))) zK)
  (zB (zT (qT hr (pnV 2) (PV.n jE)) (zD (zM (PV.w (qD (zC 1) (zC 3))))) zK)
  (zB (zT (qT hr (pnV 2) (PV.n jE)) (zD (zM (PV.w (jJ (zL 1))))) zK)
  (zB (zT (qT hr (pnV 2) (PV.n jE)) (zB (qA (i:=5) nd (jJ (qM (PV.w (jB (PV.w (jJ (zL 1))) (zC 3))) (zC 4))))
  (zB (zT (qT hr (PV.n (qM (PV.w (jB (zC 5) (zC 4))) (zC 3))) (pnV 1)) (zD (zM (zC 5))) zK)
  (zD (zM (PV.w qI))))) zK)
  (zB (zT (wN (zC 1) (zC 3)) (zD (zM (zC 1))) zK)
  (zB (zT (qT hr (pnV 2) (PV.n jE)) (zD (zM (PV.w (qD (zC 1) (zC 4))))) zK)
  (zB (zT (wN (zC 1) (PV.w (qD (zC 3) (zC 4)))) (zD (zM (PV.w qI))) zK)
  (zD (zM (PV.w (jK (zC 1) (zC 4)))))))))))))
theorem sA:FnScope ["_law_line","_law_spots_here","_law_turn","_law_names","_law_told","_law_name_here","_law_found_here"] ["_law_line","_law_spots_here","_law_turn"] (zJ (top 59)):={}
theorem DW{f:aA}{fd:aK}(Fn:Fun K "_law_stands" "_law_stands" (top 59) f fd)(T:Glb K mg)(C__law_whole:Cal P w K mg base "_law_whole" 1 1 fK)(M_marks:MCal P w K mg base "marks" 1 0 [11] fY)(M_where:MCal P w K mg base "where" 2 1 [11] fX):FnOk P w K mg base CX0 3 f fd ["_law_line","_law_spots_here","_law_turn"] (spF K 3 gO):=by
 have nd:=sA.nd;refine qC (k:=2) (g:=pR) Fn sA (1:) (2:)
 exact(zB (qA (i:=3) nd (PVf.s (DK rfl T.b_sorted (pnV 1))))
  (zB (qA (i:=4) nd (QF M_marks hr (zL 0) ))
  (zB (zT (PWv.t (xK (yH (PVn.t (PV.n (BL T.b_isinstance T.b_list (by decide +kernel) (zC 4))))) (yT (vX hr (pnV 4) (pnV 3))))) (zD (zM (PV.w xP))) zK)
  (zB (zT (qT hr (pnV 2) pnI) (zD (qA (i:=3) nd (PVf.s (aDo rfl T.b_list T.b_reversed (zL 3))))) zK)
  (zB (yB PassesOwn.never rfl (jI (zL 3)) (zR (i:=5) nd) (zB (qA (i:=6) nd (wM M_where hr (zL 0) (zF (pnV 5) zN)))
  (zD (zT (xR (PV.n (ET hr (zL 1) (zL 5))) (PV.n qI)) (zD (zT (yI (pnV 6) (PV.n qI)) (zD (zM (PV.w xP))) zK)) (zD (zT (PWv.t (xK (yH (PVn.t (PV.n (zO C__law_whole hr (zF (pnV 6) zN))))) (yT (vX hr (pnV 6) (PV.n (ET hr (zL 1) (zL 5))))))) (zD (zM (PV.w xP))) zK))))))
  (zD (zM (PV.w xP))))))))
theorem tD:FnScope ["_law_pieces","_law_place_here","_law_low","_law_behind","_law_value_here"] ["_law_pieces","_law_place_here"] (zJ (top 60)):={}
theorem HQ{f:aA}{fd:aK}(Fn:Fun K "_law_value" "_law_value" (top 60) f fd)(T:Glb K mg): FnOk P w K mg base CX0 1 f fd ["_law_pieces","_law_place_here"] (spF K 2 iY):=by
 have nd:=tD.nd;refine qC (k:=0) (g:=CU) Fn tD (1:) (2:)
 exact(zB (yB PassesOwn.never rfl (jI (zL 0)) (yN (n:=3) rfl (zW (zR (i:=2) nd) (zW (zR (i:=3) nd) (zW (zR (i:=4) nd) jT)))) (zD (zT (PWv.t (qU (PWv.t (xK (xR (pnV 2) (PV.n qI)) (yT (pt_le (zC 2) (zC 1))))) (qS (PWv.t (xK (xR (pnV 3) (PV.n qI)) (yT (wN (zC 1) (zC 3)))))))) (zD (zM (zC 4))) zK)))
  (zD (zM (PV.w qI))))
theorem DG:FnScope ["_law_one","_law_place_here"] ["_law_one","_law_place_here"] (zJ (top 61)):={}
theorem OC{f:aA}{fd:aK}(Fn:Fun K "_law_has" "_law_has" (top 61) f fd)(T:Glb K mg): FnOk P w K mg base CX0 1 f fd ["_law_one","_law_place_here"] (spF K 2 sN):=by
 have nd:=DG.nd;refine qC (k:=0) (g:=JZ) Fn DG (1:) (2:);exact(zD (zM (PV.w (GI (VZ (WA (PV.n (qF (zC 0) pwI)) (PV.n qI)) (vU (aDp (PV.w (qF (zC 0) pwI)) (zC 1)))) (vU (VZ (WA (PV.n (qF (zC 0) pwI)) (PV.n qI)) (vU (pv_lt (zC 1) (PV.w (qF (zC 0) pwI))))))))))
theorem uX:FnScope ["_law_row_here","_law_place_here","_law_kind","_law_one","_law_other"] ["_law_row_here","_law_place_here"] (zJ (top 62)):={}
theorem JQ{f:aA}{fd:aK}(Fn:Fun K "_law_came" "_law_came" (top 62) f fd)(T:Glb K mg): FnOk P w K mg base CX0 1 f fd ["_law_row_here","_law_place_here"] (spF K 2 gM):=by
 have nd:=uX.nd;refine qC (k:=0) (g:=nG) Fn uX (1:) (2:)
 exact(zB (wL (zL 0) (yN (n:=3) rfl (zW (zR (i:=2) nd) (zW (zR (i:=3) nd) (zW (zR (i:=4) nd) jT)))))
  (zB (zT (qT hr (pnV 2) (PV.n jE)) (zD (zM (PV.w (jK (zC 1) (zC 3))))) zK)
  (zB (zT (qT hr (pnV 2) (PV.n jE)) (zD (zM (PV.w (jJ (zL 1))))) zK)
  (zB (zT (qT hr (pnV 2) (PV.n jE)) (zD (zM (PV.w (qM (PV.w (jB (zC 1) (zC 4))) (zC 3))))) zK)
  (zB (zT (PWv.t (qU (qT hr (pnV 2) (PV.n jE)) (qS (aEc (zC 1) (zC 3))))) (zD (zM (PV.w (qD (zC 1) (zC 4))))) zK)
  (zB (zT (PWv.t (qU (qT hr (pnV 2) (PV.n jE)) (qS (aEc (zC 1) (zC 3))))) (zD (zM (PV.w (jK (zC 1) (zC 4))))) zK)
  (zD (zM (zC 1)))))))))
theorem tI:FnScope ["_law_rows","_law_pieces","_law_place_here","_law_row_here","_law_kind","_law_one","_law_other"] ["_law_rows","_law_pieces","_law_place_here"] (zJ (top 63)):={}
theorem HW{f:aA}{fd:aK}(Fn:Fun K "_law_found" "_law_found" (top 63) f fd)(T:Glb K mg)(C__law_value:Cal P w K mg base "_law_value" 1 2 iY)(C__law_came:Cal P w K mg base "_law_came" 1 2 gM)(C__law_has:Cal P w K mg base "_law_has" 1 2 sN):FnOk P w K mg base CX0 2 f fd ["_law_rows","_law_pieces","_law_place_here"] (spF K 3 iG):=by
 have nd:=tI.nd;refine qC (k:=1) (g:=oR) Fn tI (1:) (2:)
 exact(zB (yB PassesOwn.never rfl (WK trivial T.b_reversed (zL 0)) (zR (i:=3) nd) (zB (wL (zL 3) (yN (n:=3) rfl (zW (zR (i:=4) nd) (zW (zR (i:=5) nd) (zW (zR (i:=6) nd) jT)))))
  (zB (zT (PWv.t (qU (qT hr (pnV 4) (PV.n jE)) (qS (PVn.t (PV.n (zO C__law_has hr (zF (pnV 5) (zF (pnV 2) zN)))))))) (zD (zM (zC 6))) zK)
  (zB (zT (PWv.t (qU (qT hr (pnV 4) (PV.n jE)) (qS (ZG aEw xX aEv xX (zC 5) (zC 2) (PV.w (qD (zC 5) (zC 6))))))) (zD (zM (PV.w qI))) zK)
  (zD (qA (i:=2) nd (zO C__law_came hr (zF (pnV 3) (zF (pnV 2) zN)))))))))
  (zD (zM (PV.w (zO C__law_value hr (zF (pnV 1) (zF (pnV 2) zN)))))))
theorem sB:FnScope ["_law_told","_law_k","_law_low","_law_behind","_law_value_here"] ["_law_told"] (zJ (top 64)):={}
theorem DX{f:aA}{fd:aK}(Fn:Fun K "_law_is_map" "_law_is_map" (top 64) f fd)(T:Glb K mg)(C__law_whole:Cal P w K mg base "_law_whole" 1 1 fK):FnOk P w K mg base CX0 2 f fd ["_law_told"] (spF K 1 hJ):=by
 have nd:=sB.nd;refine qC (k:=1) (g:=nN) Fn sB (1:) (2:)
 exact(zB (zT (yH (PVn.t (PV.n (BL T.b_isinstance T.b_list (by decide +kernel) (zC 0))))) (zD (zM (PV.w xP))) zK)
  (zB (yB PassesOwn.never rfl (xL T.b_range (wH T.b_len (jP (zC 0) yL))) (zR (i:=1) nd) (zB (zT (PWv.t (xK (yH (PVn.t (PV.n (BL T.b_isinstance T.b_tuple (by decide +kernel) (PV.w (qF (zC 0) (zC 1))))))) (yT (vX hr (PV.n (wH T.b_len (jP (PV.w (qF (zC 0) (zC 1))) yL))) pnI)))) (zD (zM (PV.w xP))) zK)
  (zB (wL (qF (zC 0) (zC 1)) (yN (n:=3) rfl (zW (zR (i:=2) nd) (zW (zR (i:=3) nd) (zW (zR (i:=4) nd) jT)))))
  (zB (zT (PWv.t (xK (PWv.t (qU (xR (pnV 2) (PV.n qI)) (qS (GN (zC 1) pwI)))) (xK (PWv.t (qU (xR (pnV 3) (PV.n qI)) (qS (wN (PV.w (qD (zC 1) pwI)) (PV.w (wH T.b_len (jP (zC 0) yL))))))) (yT (yH (PVn.t (PV.n (zO C__law_whole hr (zF (pnV 4) zN))))))))) (zD (zM (PV.w xP))) zK)
  (zB (zT (PWv.t (xK (PWv.t (qU (yI (pnV 2) (PV.n qI)) (qS (yH (PVn.t (PV.n (zO C__law_whole hr (zF (pnV 2) zN)))))))) (yT (PWv.t (qU (yI (pnV 3) (PV.n qI)) (qS (yH (PVn.t (PV.n (zO C__law_whole hr (zF (pnV 3) zN))))))))))) (zD (zM (PV.w xP))) zK)
  (zB (zT (PWv.t (qU (yI (pnV 2) (PV.n qI)) (qU (yI (pnV 3) (PV.n qI)) (qS (aEc (zC 2) (zC 3)))))) (zD (zM (PV.w xP))) zK)
  (zB (zT (PWv.t (qU (GN (zC 1) pwI) (qS (wN (zC 2) (PV.w (qF (PV.w (qF (zC 0) (PV.w (jK (zC 1) pwI)))) pwI)))))) (zD (zM (PV.w xP))) zK)
  (zD (zT (PWv.t (qU (GN (zC 1) pwI) (qU (qT hr (pnV 2) (PV.n (qF (PV.w (qF (zC 0) (PV.w (jK (zC 1) pwI)))) pwI))) (qS (qT hr (pnV 4) (PV.n (qF (PV.w (qF (zC 0) (PV.w (jK (zC 1) pwI)))) pwI))))))) (zD (zM (PV.w xP))) zK)))))))))
  (zD (zM (PV.w xP)))))
theorem uW:FnScope ["_law_rows","_law_ends_here"] ["_law_rows"] (zJ (top 65)):={}
theorem JP{f:aA}{fd:aK}(Fn:Fun K "_law_ends" "_law_ends" (top 65) f fd)(T:Glb K mg): FnOk P w K mg base CX0 1 f fd ["_law_rows"] (spF K 1 gL):=by
 have nd:=uW.nd;have nI0:(["_law_row_here"]:List Str).Nodup:=by decide +kernel
 have nI1:(["_law_row_here"]:List Str).Nodup:=by decide +kernel
 refine qC (k:=0) (g:=pL) Fn uW (1:) (2:)
 exact(zB (BO (i:=1) nd (NY:=["_law_row_here"]) (mp:=[none]) (jD (by kernel_rfl)) rfl (jI (zL 0)) (fun c=>(zR (i:=0) nI0)) (fun c=>(EW (yI (PV.n (qF (zC 0) pwI)) (PV.n qI)))) (fun c=>(qF (zC 0) pwI)))
  (zD (jW (xT (zC 1) (PV.w (PVf.s (yY (NY:=["_law_row_here"]) (mp:=[none]) (jD (by kernel_rfl)) rfl (jI (zL 0)) (fun c=>(zR (i:=0) nI1)) (fun c=>(EW (yI (PV.n (qF (zC 0) pwI)) (PV.n qI)))) (fun c=>(qF (zC 0) pwI)))))))))
theorem tE:FnScope ["_law_rows","_law_spots_here","_law_row_here","_law_name_here"] ["_law_rows"] (zJ (top 66)):={}
theorem HR{f:aA}{fd:aK}(Fn:Fun K "_law_spots" "_law_spots" (top 66) f fd)(T:Glb K mg)(C__law_went:Cal P w K mg base "_law_went" 1 2 iX):FnOk P w K mg base CX0 2 f fd ["_law_rows"] (spF K 1 iF):=by
 have nd:=tE.nd;refine qC (k:=1) (g:=oQ) Fn tE (1:) (2:)
 exact(zB (kE (i:=1) nd QD)
  (zB (yB PassesOwn.never rfl (jI (zL 0)) (zR (i:=2) nd) (zD (zT (qT hr (PV.n (qF (zC 2) pwI)) (PV.n jE)) (zD (AH hr (qN 1) (qF (zC 2) pwI) (qF (zC 2) pwI))) (zD (yB PassesOwn.never rfl (jI (PVf.s (aDn 1 (ZC rfl T.b_list (pnV 1))))) (zR (i:=3) nd) (zD (AH hr (qN 1) (zL 3) (zO C__law_went hr (zF (pnV 2) (zF (PV.n (VY 1 (ET hr (zL 1) (zL 3)))) zN))))))))))
  (zD (ZH 1))))
theorem rE:FnScope ["_law_known","_law_row_here","_law_ends_here"] ["_law_known","_law_row_here"] (zJ (top 67)):={}
theorem CB{f:aA}{fd:aK}(Fn:Fun K "_law_carried" "_law_carried" (top 67) f fd)(T:Glb K mg)(C__law_went:Cal P w K mg base "_law_went" 1 2 iX):FnOk P w K mg base CX0 2 f fd ["_law_known","_law_row_here"] (spF K 2 fT):=by
 have nd:=rE.nd;have nI0:(["_law_place_here","_law_row_here"]:List Str).Nodup:=by decide +kernel
 have nI1:(["_law_end"]:List Str).Nodup:=by decide +kernel
 refine qC (k:=1) (g:=iL) Fn rE (1:) (2:)
 exact(zB (zT (qT hr (PV.n (qF (zC 1) pwI)) (PV.n jE)) (zD (jW (xT (zC 0) (PV.w (PVf.s (qQ (zG (qF (zC 1) pwI) zS))))))) zK)
  (zB (aEf (i:=2) nd (NY:=["_law_place_here","_law_row_here"]) (mp:=[none,some 1]) (jD (by kernel_rfl)) rfl (jI (zL 0)) (fun c=>(zR (i:=0) nI0)) (fun c=>xN) (fun c=>(zO C__law_went hr (zF (pnV 1) (zF (pnV 0) zN)))))
  (zB (zT (qT hr (PV.n (qF (zC 1) pwI)) (PV.n jE)) (zD (xD (i:=2) nd (xT (zC 2) (PV.w (PVf.s (kH T.b_list (PV.w (qF (zC 1) pwI)))))))) zK)
  (zB (zT (pt_in (PV.n (qF (zC 1) pwI)) (PV.n (PVf.s (qQ (zG jE (zG jE zS)))))) (zD (xV (i:=2) (qF (zC 1) pwI))) zK)
  (zD (WF 2 (jW (yY (NY:=["_law_end"]) (mp:=[none]) (jD (by kernel_rfl)) rfl (jI (PVf.s (yC (zC 2) (yG (PV.w (jJ qO))) wO))) (fun c=>(zR (i:=0) nI1)) (fun c=>(EW (yI (pnV 0) (PV.n qI)))) (fun c=>(zL 0))))))))))
theorem rC:FnScope ["_law_line","_law_rows","_law_pieces","_law_places","_law_told","_law_place_here","_law_one"] ["_law_line","_law_rows","_law_pieces","_law_places"] (zJ (top 68)):={}
theorem BZ{f:aA}{fd:aK}(Fn:Fun K "_law_told_so" "_law_told_so" (top 68) f fd)(T:Glb K mg)(C__law_is_map:Cal P w K mg base "_law_is_map" 2 1 hJ)(C__law_ends:Cal P w K mg base "_law_ends" 1 1 gL)(C__law_value:Cal P w K mg base "_law_value" 1 2 iY)(C__law_found:Cal P w K mg base "_law_found" 2 3 iG)(M_told:MCal P w K mg base "told" 1 0 [11] gH):FnOk P w K mg base CX0 3 f fd ["_law_line","_law_rows","_law_pieces","_law_places"] (spF K 4 fS):=by
 have nd:=rC.nd;refine qC (k:=2) (g:=mL) Fn rC (1:) (2:)
 exact(zB (qA (i:=4) nd (QF M_told hr (zL 0) ))
  (zB (zT (yH (PVn.t (PV.n (zO C__law_is_map hr (zF (pnV 4) zN))))) (zD (zM (PV.w xP))) zK)
  (zB (yB PassesOwn.never rfl (jI (PVf.s (xT (PV.w (zO C__law_ends hr (zF (pnV 4) zN))) (zC 3)))) (zR (i:=5) nd) (zD (yB PassesOwn.never rfl (jI (qR (zG (zL 5) (zG (jK (zC 5) pwI) zS)))) (zR (i:=6) nd) (zD (zT (vX hr (PV.n (zO C__law_value hr (zF (pnV 4) (zF (pnV 6) zN)))) (PV.n (zO C__law_found hr (zF (pnV 1) (zF (pnV 2) (zF (pnV 6) zN)))))) (zD (zM (PV.w xP))) zK)))))
  (zD (zM (PV.w xP))))))
theorem tJ:FnScope ["_law_script","_law_seed","_law_way","_law_many_here","_law_pieces"] ["_law_script","_law_seed","_law_way"] (zJ (top 69)):={}
theorem HX{f:aA}{fd:aK}(Fn:Fun K "_law_begun" "_law_begun" (top 69) f fd)(T:Glb K mg)(C__law_any_map:Cal P w K mg base "_law_any_map" 3 4 gP)(C__law_cell_at:Cal P w K mg base "_law_cell_at" 1 2 dQ)(C__law_threes:CalA P w K mg base "_law_threes" 2 2 fH)(C__law_map:Cal P w K mg base "_law_map" 1 1 pE):FnOk P w K mg base CX0 4 f fd ["_law_script","_law_seed","_law_way"] (spA K 3 fD):=by
 have nd:=tJ.nd;refine XQ (k:=3) (n:=3) (F:=fD) (g:=mE) Fn tJ (1:) rfl (2:)
 exact(zB (qA (i:=3) nd (zX (PV.w (qM (zC 1) pwI)) pwI))
  (zB (zT (qT hr (pnV 2) pnI) (zD (kI (qR (zG (zO C__law_map hr (zF (PV.n (PVf.s (yC (zC 0) (yG pwI) (yG (PV.w (qD pwI (zC 3))))))) zN)) (zG (GH C__law_threes hr (zG (PVf.s (yC (zC 0) (yG (PV.w (qD pwI (zC 3)))) (yG (PV.w (qD pwI (zC 3)))))) (zG qO zS))) zS))))) zK)
  (zB (qA (i:=4) nd (zO C__law_any_map hr (zF (PV.n (zX (PV.w (qM (zC 1) pwI)) pwI)) (zF (PV.n (qM (zC 1) pwI)) (zF (PV.n (zO C__law_cell_at hr (zF (pnV 0) (zF pnI zN)))) (zF (PV.n (zO C__law_cell_at hr (zF (pnV 0) (zF pnI zN)))) zN))))))
  (zD (kI (qR (zG (zL 4) (zG (GH C__law_threes hr (zG (PVf.s (yC (zC 0) (yG pwI) (yG pwI))) (zG qO zS))) zS))))))))
theorem aDg:FnScope ["_law_script","_law_seed","_law_pieces","_law_threes_here","_law_line","_law_known","_law_rows","_law_now","_law_a","_law_b","_law_c","_law_row_here","_law_places"] ["_law_script"] (zJ (top 70)):={}
theorem fok_law{f:aA}{fd:aK}(Fn:Fun K "law" "law" (top 70) f fd)(T:Glb K mg)(C__law_cell_at:Cal P w K mg base "_law_cell_at" 1 2 dQ)(C__law_begun:CalA P w K mg base "_law_begun" 4 3 fD)(C__law_ends:Cal P w K mg base "_law_ends" 1 1 gL)(C__law_stands:Cal P w K mg base "_law_stands" 3 3 gO)(C__law_told_so:Cal P w K mg base "_law_told_so" 3 4 fS)(C__law_spots:Cal P w K mg base "_law_spots" 2 1 iF)(C__law_row:Cal P w K mg base "_law_row" 3 4 nJ)(C__law_carried:Cal P w K mg base "_law_carried" 2 2 fT)(C__law_place:Cal P w K mg base "_law_place" 1 2 eM)(C__law_name:Cal P w K mg base "_law_name" 2 2 nK)(C__law_made:Cal P w K mg base "_law_made" 4 1 mC)(M_mark:LCal P w K mg base "mark" 2 2 [11] (fun _=>eB))(M_do:LCal P w K mg base "do" 7 1 [11] (fun _=>eY))(M_back:LCal P w K mg base "back" 2 0 [11] (fun _=>fJ))(M_again:LCal P w K mg base "again" 2 0 [11] (fun _=>eR))(Mk_Line_0:LMk P w K mg base 20 1 1 0 dS):FnOk P w K mg base CX0 8 f fd ["_law_script"] (spF K 1 BA):=by
 have nd:=aDg.nd;have nI0:(["_law_cell","_law_known"]:List Str).Nodup:=by decide +kernel
 refine qC (k:=7) (g:=AZ) Fn aDg (1:) (2:)
 exact(zB (qA (i:=1) nd (zO C__law_cell_at hr (zF (pnV 0) (zF pnI zN))))
  (zB (wL (GH C__law_begun hr (zG (zL 0) (zG (zL 1) (zG (zX (PV.w (qM (zC 1) pwI)) pwI) zS)))) (yN (n:=2) rfl (zW (zR (i:=2) nd) (zW (zR (i:=3) nd) jT))))
  (zB (kE (i:=4) nd (aDm Mk_Line_0 hr (zG (PVf.s (kH T.b_list (zC 2))) zS)))
  (zB (qA (i:=5) nd (zO C__law_ends hr (zF (pnV 2) zN)))
  (zB (qA (i:=6) nd (PVf.s (qQ zS)))
  (zB (qA (i:=7) nd qO)
  (zB (yB PassesOwn.never rfl (jI (zL 3)) (WM (n:=3) rfl (zW (zR (i:=8) nd) (zW (zR (i:=9) nd) (zW (zR (i:=10) nd) jT)))) (zD (zT (wN (PV.w (zX (zC 8) pwI)) pwI) (zB (qA (i:=11) nd (zO C__law_row hr (zF (PV.n (qM (zC 8) pwI)) (zF (pnV 9) (zF (pnV 10) (zF (pnV 5) zN))))))
  (zB (zT (qT hr (PV.n (zX (zC 8) pwI)) pnI) (zB (qA (i:=11) nd (qR (zG jE (zG (zO C__law_name hr (zF (pnV 1) (zF (pnV 9) zN))) (zG (zO C__law_place hr (zF (pnV 10) (zF (pnV 5) zN))) zS)))))
  (zD (kC M_mark hr (qN 4) (zG (qF (zC 11) pwI) (zG (qF (zC 11) pwI) zS))))) (zD (kC M_do hr (qN 4) (zG (zO C__law_made hr (zF (pnV 11) zN)) zS))))
  (zB (qA (i:=6) nd (PVf.s (xT (PV.w (PVf.s (yC (zC 6) wO (yG (zC 7))))) (PV.w (PVf.s (qQ (zG (zL 11) zS)))))))
  (zB (QM (i:=7) nd qO)
  (zD (qA (i:=5) nd (zO C__law_carried hr (zF (pnV 5) (zF (pnV 11) zN))))))))) (zD (zT (PWv.t (qU (qT hr (PV.n (zX (zC 8) pwI)) pnI) (qS (GN (zC 7) pwI)))) (zB (LN M_back hr (qN 4))
  (zD (aEg (i:=7) nd qO))) (zD (zT (PWv.t (qU (qT hr (PV.n (zX (zC 8) pwI)) pnI) (qS (wN (zC 7) (PV.w (wH T.b_len (jP (zC 6) yL))))))) (zB (LN M_again hr (qN 4))
  (zD (QM (i:=7) nd qO))) zK)))))))
  (zB (qA (i:=12) nd (PVf.s (xT (zC 5) (PV.w (PVf.s (yY (NY:=["_law_cell","_law_known"]) (mp:=[none,some 5]) (jD (by kernel_rfl)) rfl (jI (PVf.s (yC (zC 0) (yG (PV.w (jJ qO))) wO))) (fun c=>(zR (i:=0) nI0)) (fun c=>xN) (fun c=>(zO C__law_place hr (zF (pnV 0) (zF (pnV 1) zN))))))))))
  (zB (zT (yH (aDz 4 (PVn.t (PV.n (zO C__law_told_so hr (zF (pnV 4) (zF (PV.n (PVf.s (yC (zC 6) wO (yG (zC 7))))) (zF (pnV 2) (zF (pnV 12) zN))))))))) (zD (zM (PV.w xP))) zK)
  (zD (zM (PV.w (VY 4 (zO C__law_stands hr (zF (pnV 4) (zF (PVo.n (ZB C__law_spots hr (zF (PV.n (PVf.s (yC (zC 6) wO (yG (zC 7))))) zN))) (zF (PV.n (zX (zC 1) pwI)) zN)))))))))))))))))
end
end K56
namespace K56
open PySem PyProof.Rows L2 FL
open Builtin.Int (intBits)
theorem em1:eqD (.str "mark") (.str "put")=some (.bl false):=by kernel_rfl
theorem em2:eqD (.str "mark") (.str "widen")=some (.bl false):=by kernel_rfl
theorem em3:eqD (.str "mark") (.str "narrow")=some (.bl false):=by kernel_rfl
theorem em4:eqD (.str "mark") (.str "move")=some (.bl false):=by kernel_rfl
theorem em5:eqD (.str "mark") (.str "stretch")=some (.bl false):=by kernel_rfl
theorem em6:eqD (.str "mark") (.str "mirror")=some (.bl false):=by kernel_rfl
theorem em0:eqD (.str "mark") (.str "mark")=some (.bl true):=by kernel_rfl
theorem en1:eqD (.str "put") (.str "mark")=some (.bl false):=by kernel_rfl
theorem en2:eqD (.str "widen") (.str "mark")=some (.bl false):=by kernel_rfl
theorem en3:eqD (.str "narrow") (.str "mark")=some (.bl false):=by kernel_rfl
theorem en4:eqD (.str "move") (.str "mark")=some (.bl false):=by kernel_rfl
theorem en5:eqD (.str "stretch") (.str "mark")=some (.bl false):=by kernel_rfl
theorem en6:eqD (.str "mirror") (.str "mark")=some (.bl false):=by kernel_rfl
theorem aAn(d:Dd)(h:okD d){p q:Int}(e:cameF d p=some q):gM [told3 d,.int p]=some (.val (.int q)):=by
 unfold gM runG nG;cases d with
 | put s v =>
   simp only[cameF] at e
   split at e
   . cases e
   . cases e;simp[args,told3]
 | widen a m =>
   simp only[cameF] at e
   by_cases h1:p<a
   . rw[if_pos h1] at e;cases e;simp[args,told3,show ¬a<=p by omega]
   . rw [if_neg h1] at e
     split at e
     . cases e
     . cases e;simp[args,told3,show a<=p by omega]
 | narrow a m =>
   simp only[cameF] at e;cases e
   by_cases h1:p<a
   . simp[args,told3,show ¬a<=p by omega,h1]
   . simp[args,told3,show a<=p by omega,h1]
 |move f=>cases e;simp[args,told3]
 |mirror=>cases e;simp[args,told3]
 | stretch t b =>
   obtain⟨⟨t1,t2⟩,b1,b2⟩:=h;have m2:=yJ (i:=p) (j:=b) (by omega) b2;have f2:=fun x=>yM x (show(0:Int)<t by omega) (by omega);cases e;simp[args,told3,m2,f2]
theorem aBe(n:List Nat)(pl p:Int):gM [r3D (.mark n pl),.int p]=some (.val (.int p)):=by
 unfold gM runG nG;simp[args,r3D,em1,em2,em3,em4,em5,em6]
theorem UN(R P:Sl)(r:R3)(ok:okR3' r)(p:Int)(x4 x5 x6:Sl) :
  (∃q y4 y5 y6,cN [R,P,.v (.int p),.v (r3D r),x4,x5,x6]=some (.nx [R,P,.v (.int q),.v (r3D r),y4,y5,y6])/\((∃d,r=.deed d/\cameF d p=some q)\/((∃n pl,r=.mark n pl)/\q=p))) ∨
  (∃d,r=.deed d/\cameF d p=none/\cN [R,P,.v (.int p),.v (r3D r),x4,x5,x6]=some (.rt (.val (oi (fillF d))))):=by
 cases r with
 | mark n pl =>
   left;have c:=aBe n pl p;unfold r3D at c;refine⟨p,.v (.str "mark"),.v (.str (txS n)),.v (.int pl),?_,.inr ⟨⟨n,pl,rfl⟩,rfl⟩⟩;unfold cN r3D;simp[em1,em2,c]
 | deed d =>
   have od:okD d:=ok;cases hq:cameF d p with
   | some q =>
     left;have c:=aAn d od hq;simp only[r3D];cases d with
     | put s v =>
       have hh:=XO s p;simp only[cameF] at hq
       split at hq
       . cases hq
       . rename_i hs;have hs:hasS s p=false:=by simpa using hs
         rw[hs] at hh;refine⟨q,.v (.str "put"),.v (spD s),.v (oi v),?_,.inl ⟨_,rfl,by simpa[cameF,hs] using hq⟩⟩;unfold cN;unfold told3 at c ⊢;simp[hh,c]
     | widen a m =>
       refine⟨q,.v (.str "widen"),.v (.int a),.v (.int m),?_,.inl ⟨_,rfl,hq⟩⟩;unfold cN;unfold told3 at c ⊢;simp only[cameF] at hq
       by_cases h1:p<a
       . simp[c,show ¬a<=p by omega]
       . rw [if_neg h1] at hq
         split at hq
         . cases hq
         . rename_i h2;simp[c,show a<=p by omega,h2]
       |narrow a m =>
       refine⟨q,.v (.str "narrow"),.v (.int a),.v (.int m),?_,.inl ⟨_,rfl,hq⟩⟩;unfold cN;unfold told3 at c ⊢;simp[c]
     | move f =>
       refine⟨q,.v (.str "move"),.v (.int f),.v (.int 0),?_,.inl ⟨_,rfl,hq⟩⟩;unfold cN;unfold told3 at c ⊢;simp[c]
     | mirror =>
       refine⟨q,.v (.str "mirror"),.v (.int 0),.v (.int 0),?_,.inl ⟨_,rfl,hq⟩⟩;unfold cN;unfold told3 at c ⊢;simp[c]
     | stretch t b =>
       refine⟨q,.v (.str "stretch"),.v (.int t),.v (.int b),?_,.inl ⟨_,rfl,hq⟩⟩;unfold cN;unfold told3 at c ⊢;simp[c]
   | none =>
     right;refine⟨d,rfl,hq,?_⟩;unfold cN;simp only[r3D];cases d with
     | put s v =>
       have hh:=XO s p;simp only[cameF] at hq
       split at hq
       . rename_i hs;rw[hs] at hh;simp[told3,hh,fillF]
       . cases hq
     | widen a m =>
       simp only[cameF] at hq
       by_cases h1:p<a
       . rw[if_pos h1] at hq;cases hq
       . rw [if_neg h1] at hq
         split at hq
         . rename_i h2;simp[told3,show a<=p by omega,h2,fillF]
         . cases hq
     |narrow a m=>cases hq
     |move f=>cases hq
     |mirror=>cases hq
     |stretch t b=>cases hq
theorem HL(R:Sl)(ps:List Rw):∀(rs:List R3) (p:Int) (x3 x4 x5 x6:Sl),(∀r∈rs,okR3' r) →
  (∃q y3 y4 y5 y6,qZ (zU 3) cN (rs.map r3D) [R,.v (.lst (ps.map rwD)),.v (.int p),x3,x4,x5,x6]=some (.nx [R,.v (.lst (ps.map rwD)),.v (.int q),y3,y4,y5,y6])/\backF (eL rs) ps p=valL ps q) ∨
  qZ (zU 3) cN (rs.map r3D) [R,.v (.lst (ps.map rwD)),.v (.int p),x3,x4,x5,x6]=some (.rt (.val (oi (backF (eL rs) ps p))))
 |[],p,x3,x4,x5,x6,_=>.inl ⟨p,x3,x4,x5,x6,rfl,rfl⟩
 | r :: rs, p, x3, x4, x5, x6, h => by
   have hr:=fun x hx=>h x (aG _ hx);rcases UN R (.v (.lst (ps.map rwD))) r (h r aN) p x4 x5 x6 with⟨q,y4,y5,y6,e,c⟩ | ⟨d,rfl,c,e⟩
   . have ih := HL R ps rs q (.v (r3D r)) y4 y5 y6 hr
     have bk:backF (eL (r::rs)) ps p=backF (eL rs) ps q:=by
      rcases c with⟨d,rfl,c⟩ | ⟨⟨n,pl,rfl⟩,rfl⟩
      . simp only[eL,backF,c]
      . rfl
     rw[bk];simp only[aO,qZ,vB,aH,cU,cT,e];exact ih
   . right;simp only[aO,qZ,vB,aH,cU,cT,e,eL,backF,c]
theorem wR:∀a b:List R3,eL (a++b)=eL a++eL b
 |[],b=>rfl
 | .deed d::a,b=>by simp[eL,wR a b]
 | .mark _ _::a,b=>by simp[eL,wR a b]
theorem CJ:∀a:List R3,eL a.reverse=(eL a).reverse
 |[]=>rfl
 | .deed d::a=>by simp[eL,wR,CJ a]
 | .mark _ _::a=>by simp[eL,wR,CJ a]
theorem aFx(rs:List R3)(h:∀r∈rs,okR3' r)(ps:List Rw)(m:MapF ps)(p:Int):iG [.lst (rs.map r3D),.lst (ps.map rwD),.int p]=some (.val (oi (valL (psR rs ps) p))):=by
 rw[vQ,PQ _ p (fun d hd=>CK h d (dL.mp hd)) m,<- CJ];have rv:(rs.map r3D).reverse=rs.reverse.map r3D:=by rw[aCk]
 unfold iG;refine xO ?_;unfold oR;have ar:args 7 [.lst (rs.map r3D),.lst (ps.map rwD),.int p]=[.v (.lst (rs.map r3D)),.v (.lst (ps.map rwD)),.v (.int p),.no,.no,.no,.no]:=by simp[args]
 rw[ar];rcases HL (.v (.lst (rs.map r3D))) ps rs.reverse p .no .no .no .no (fun r hr=>h r (dL.mp hr)) with⟨q,y3,y4,y5,y6,e1,e2⟩ | e
 . have vi := KP m.ord q;rw[<- rv] at e1;generalize rs.map r3D=A at *;rw[e2];generalize ps.map rwD=L at *;rw[qJ (ds':=[.v (.lst A),.v (.lst L),.v (.int q),y3,y4,y5,y6]) (by simp[revA];exact e1)];simp[vi]
 . rw[<- rv] at e;generalize rs.map r3D=A at *;generalize ps.map rwD=L at *;refine aDe ?_;simp[revA];exact e
theorem IH(k:Int)(f:Rw->Option Int)(hf:∀r,ixD (rwD r) (.int k)=some (oi (f r))):∀ps:List Rw,compL (zU 0) (zP (zI notD (zI ixD (zH 0) (zA (.int k))) (zA .non))) (zI ixD (zH 0) (zA (.int k))) [.no] (ps.map rwD)=some ((ps.filterMap f).map D.int)
 |[]=>rfl
 | r :: t => by
   have ih:=IH k f hf t;have h:=hf r;rw[aO,compL];cases e:f r with
   |none=>rw[e] at h;simp[h,ih,e]
   |some x=>rw[e] at h;simp[h,ih,e]
theorem XX(ps:List Rw)(hl:ps.length<=10000):∃es:List Int,es.length<=2*ps.length/\gL [.lst (ps.map rwD)]=some (.fresh (es.map D.int)):=by
 have sz:sizeLine=16777216:=rfl
 have c0:∀X:Sl,compG (viaA (qL 0) asLT) [none] (zU 0) (zP (zI notD (zI ixD (zH 0) (zA (.int 0))) (zA .non))) (zI ixD (zH 0) (zA (.int 0))) [.v (.lst (ps.map rwD)),X]=some ((ps.filterMap (·.1)).map D.int):=fun X =>
  jY (items:=ps.map rwD) (by simp) (by simp;omega) (IH 0 _ (fun r=>by simp[rwD]) ps)
 have c1:∀X:Sl,compG (viaA (qL 0) asLT) [none] (zU 0) (zP (zI notD (zI ixD (zH 0) (4:)) (zA .non))) (zI ixD (zH 0) (4:)) [.v (.lst (ps.map rwD)),X]=some ((ps.filterMap (·.2.1)).map D.int):=fun X =>
  jY (items:=ps.map rwD) (by simp) (by simp;omega) (IH 1 _ (fun r=>by simp[rwD]) ps)
 have l0:=iT (·.1) ps;have l1:=iT (·.2.1) ps;refine⟨ps.filterMap (·.1)++ps.filterMap (·.2.1),by rw[bP];omega,?_⟩;have z:((ps.filterMap (·.1)).map D.int).length+((ps.filterMap (·.2.1)).map D.int).length<=16777216:=by rw[aS,aS];omega
 have fl:=wE (ps.filterMap (·.1)++ps.filterMap (·.2.1));rw[bN] at fl ⊢;unfold gL runG pL;generalize (ps.filterMap (·.1)).map D.int=A at *;generalize (ps.filterMap (·.2.1)).map D.int=B at *;generalize ps.map rwD=P at *;simp[args,c0,c1,z,fl]
theorem aFr(ps:List Rw)(h:MapF ps)(k:Nat)(hk:k<ps.length)(b c d:Sl):∃b' c' d',iK [.v (.lst (ps.map rwD)),.v (.int (k:Int)),b,c,d]=some (.nx [.v (.lst (ps.map rwD)),.v (.int (k:Int)),b',c',d']):=by
 have i1:ixD (.lst (ps.map rwD)) (.int (k:Int))=some (rwD ps[k]):=ix_rw (bI hk)
 obtain⟨v,hv⟩:∃v,ps[k].2.2=some v:=by
  cases hv:ps[k].2.2 with
  |none=>exact(h.val _ (pX hk) hv).elim
  |some v=>exact⟨v,rfl⟩
 have ok:=h.ord.ok _ (pX hk)
 have hbh:ps[k].2.1=none->¬((k:Int)+1<(ps.length:Int)):=by
  intro hn
  by_cases e:k+1<ps.length
  . obtain⟨x, y, h1, _⟩ := cS.mp h.ord.pw k (k + 1) hk e (by omega);rw[hn] at h1;cases h1
  . omega
 have hlen:lenD [.lst (ps.map rwD)]=some (.int (ps.length:Int)):=by simp
 have adj:0<k->∃a x y,ixD (.lst (ps.map rwD)) (.int ((k:Int)-1))=some (rwD a)/\a.2.1=some x/\ps[k].1=some y/\x<=y/\¬(x=y/\a.2.2=ps[k].2.2):=by
  intro hk0;have hkm:k-1<ps.length:=by omega
  obtain⟨x,y,h1,h2,h3⟩:=cS.mp h.ord.pw (k-1) k hkm hk (by omega);refine⟨ps[k-1],x,y,?_,h1,h2,h3,fun z=>?_⟩
  . have := ix_rw (bI hkm)
    rwa [show((k-1:Nat):Int)=(k:Int)-1 by omega] at this
  . exact h.adj (k-1) _ ps[k] (bI hkm) (by rw[show k-1+1=k by omega];exact bI hk) ⟨by rw[h1,h2,z.1],z.2⟩
 have hk0:k=0\/0<k:=by omega
 generalize ps[k]=r at *;obtain⟨lo,bh,w⟩:=r;simp only at hv hbh adj ok;subst hv;have wv:=KO v;have wl:=FM lo;have wb:=FM bh;refine⟨.v (oi lo),.v (oi bh),.v (.int v),?_⟩;unfold iK;generalize (ps.length:Int)=n at *;generalize ps.map rwD=P at *;have g3:∀y,bh=some y->∀x,lo=some x->¬y<=x:=fun y e1 x e2=>by have:=ok x y e2 e1;omega
 rcases hk0 with rfl | hk0
 . simp only [Int.cast_ofNat_Int, Int.natCast_zero, Int.ofNat_zero] at i1 hbh ⊢;cases lo with
   | none =>
     cases bh with
     | none =>
       have g:=hbh rfl;simp at wl wb g;simp[i1,wv,wl,wb,rwD,hlen,g]
     | some y =>
       simp at wl wb;simp[i1,wv,wl,wb,rwD]
   | some x =>
     cases bh with
     | none =>
       have g:=hbh rfl;simp at wl wb g;simp[i1,wv,wl,wb,rwD,hlen,g]
     | some y =>
       have g:=g3 y rfl x rfl;simp at wl wb;simp[i1,wv,wl,wb,rwD,g]
 . obtain ⟨a, x, y, i2, a1, a2, a3, a4⟩ := adj hk0;subst a2;obtain ⟨alo,abh,aw⟩:=a;simp only at a1 a4;subst a1;have g1 : ¬ y < x:=by omega
   have q0:eqD (.int v) (oi aw)=some (.bl (decide (some v=aw))):=aGi (some v) aw;have g2 : ¬(y=x/\some v=aw):=fun z=>a4 ⟨z.1.symm,z.2.symm⟩;have g4:y=x->¬some v=aw:=fun e z=>g2 ⟨e,z⟩;cases bh with
   | none =>
     have g:=hbh rfl;simp at wl wb g
     by_cases e:y=x
     . have:=g4 e;subst e;simp[i1,i2,wv,wl,wb,rwD,hlen,g,hk0,g1,q0,this]
     . simp[i1,i2,wv,wl,wb,rwD,hlen,g,hk0,g1,e,q0]
   | some z =>
     have g:=g3 z rfl y rfl;simp at wl wb
     by_cases e:y=x
     . have:=g4 e;subst e;simp[i1,i2,wv,wl,wb,rwD,g,hk0,g1,q0,this]
     . simp[i1,i2,wv,wl,wb,rwD,g,hk0,g1,e,q0]
theorem isM_eq(ps:List Rw)(h:MapF ps)(hl:ps.length<=10000):hJ [.lst (ps.map rwD)]=some (.val (.bl true)):=by
 obtain⟨ds',e1,a',b',c',d',rfl⟩:=GX (ga:=zU 1) (body:=iK) (fun ds=>∃a b c d,ds=[.v (.lst (ps.map rwD)),a,b,c,d]) (fC 0 ps.length) [.v (.lst (ps.map rwD)),.no,.no,.no,.no] ⟨_,_,_,_,rfl⟩ (by
  rintro _ hd _ ⟨a,b,c,d,rfl⟩;obtain⟨k,hk,rfl⟩:=UD hd;obtain⟨b',c',d',ee⟩:=aFr ps h k hk b c d;rw[show(0+(k:Int))=(k:Int) by omega]
  exact⟨_,_,rfl,.inl ee,_,_,_,_,rfl⟩)
 have ok:okR (ps.length:Int):=xQ (by omega) (by omega);unfold hJ runG nN;simp[args,ok,e1]
theorem TF{rs:List R3}(hr:∀r∈rs,okR3' r)(hrl:rs.length<=100){ps:List Rw}(m:MapF ps)(hl:ps.length<=100)(mk:Mks)(es ls:List OT)(pl:List Int)(hp:pl.length<=10000) :
  fS [otD (lnM (psR rs ps) mk es ls),.lst (rs.map r3D),.lst (ps.map rwD),.lst (pl.map D.int)]=some (.val (.bl true)):=by
 have dk:∀d∈(eL rs).reverse,okD d:=fun d hd=>CK hr d (dL.mp hd);have mm:MapF (psR rs ps):=by rw[vQ];exact wZ _ dk m
 have ll:(psR rs ps).length<=10000:=by
  have h1:=FW _ dk m
  have h2:∀l:List R3,(eL l).length<=l.length:=fun l=>by
   induction l with
   |nil=>exact aU _
   |cons r l ih=>cases r<;>simp[eL]<;>omega
  have:=h2 rs;rw[<- vQ,cZ] at h1;omega
 have fo:=fun p=>aFx rs hr ps m p;have va:=fun p=>KP mm.ord p;have im:=isM_eq (psR rs ps) mm ll;obtain⟨ee,el,ef⟩:=XX (psR rs ps) ll;have tm:=toldM (psR rs ps) mk es ls;have fl:=yP (psR rs ps);have cat:(ee.map D.int++pl.map D.int)=(ee++pl).map D.int:=(bN).symm;have z1:(ee.map D.int).length+(pl.map D.int).length<=16777216:=by rw[aS,aS];omega
 have zl:((ee++pl).map D.int).length<=16777216:=by rw[aS,bP];omega
 generalize otD (lnM (psR rs ps) mk es ls)=OL at *;generalize hV:valL (psR rs ps)=V at *;generalize (psR rs ps).map rwD=TL at *;generalize rs.map r3D=RL at *;generalize ps.map rwD=PL at *
 have b1:∀(X3 X5:Sl) (p:Int),lJ [.v OL,.v (.lst RL),.v (.lst PL),X3,.v (.lst TL),X5,.v (.int p)]=some (.nx [.v OL,.v (.lst RL),.v (.lst PL),X3,.v (.lst TL),X5,.v (.int p)]):=fun X3 X5 p=>by
  unfold lJ;simp[fo,va]
 have b2:∀(X3 X6:Sl) (p:Int),hW [.v OL,.v (.lst RL),.v (.lst PL),X3,.v (.lst TL),.v (.int p),X6]=some (.nx [.v OL,.v (.lst RL),.v (.lst PL),X3,.v (.lst TL),.v (.int p),.v (.int (p-1))]):=fun X3 X6 p=>by
  unfold hW;simp[qZ,b1]
 obtain⟨ds',e1,y5,y6,rfl⟩:=GX (ga:=zU 5) (body:=hW) (fun ds=>∃a b,ds=[.v OL,.v (.lst RL),.v (.lst PL),.v (.lst (pl.map D.int)),.v (.lst TL),a,b]) ((ee++pl).map D.int) [.v OL,.v (.lst RL),.v (.lst PL),.v (.lst (pl.map D.int)),.v (.lst TL),.no,.no] ⟨_,_,rfl⟩ (by
  rintro _ hd _ ⟨a,b,rfl⟩;obtain⟨p,_,rfl⟩:=cP.mp hd
  exact⟨_,_,rfl,.inl (b2 _ b p),_,_,rfl⟩)
 rw[<- cat] at e1 zl;generalize ee.map D.int=EL at *;generalize pl.map D.int=QL at *;unfold fS runG mL;simp[args,tm,fl,im,ef,z1,zl,e1,retV]
theorem sp_turn{d:Dd}(hd:okD d){a r:Mks}{p:List Nat×Option Int}(nd:((a++p::r).map (·.1)).Nodup)(hl:(a++p::r).length<=1000)(A0:Sl) :
  kQ [A0,.ob none (mkO (a++p::r)),.v (told3 d),.v (.str (txS p.1))]=some (.nx [A0,.ob none (mkO (a++(p.1,p.2.bind (wentF d))::r)),.v (told3 d),.v (.str (txS p.1))]):=by
 obtain⟨n,v⟩:=p;have hg:=dgetO (mk:=a++(n,v)::r) nd (n:=n) (v:=v) (by simp) (ds:=[A0,.v (otD (mkO (a++(n,v)::r))),.v (told3 d),.v (.str (txS n))]) (f:=qL 1) (g:=qL 3) (by simp) (by simp);have hw:=PH d hd v;have pk:=aDt n (v.bind (wentF d)) (a++(n,v)::r);rw[aDu nd] at pk;have hk:((mkN (a++(n,v)::r)).map (Sum.inr:Str->Key)).length<sizeLine:=dG (show _<=1000 by simp[mkN] at hl ⊢;omega) (by decide);have r2:relO 1 [A0,.ob none (mkO (a++(n,v)::r)),.v (told3 d),.v (.str (txS n))]=[A0,.v (otD (mkO (a++(n,v)::r))),.v (told3 d),.v (.str (txS n))]:=rfl;have fv:flat (oi v)=true:=by cases v<;>simp[flat]
 have ev:relVO 1 (dgetG (qL 1) (qL 3)) [A0,.ob none (mkO (a++(n,v)::r)),.v (told3 d),.v (.str (txS n))]=some (oi v):=by
  unfold relVO;rw[r2,hg];simp[flV',fv]
 unfold kQ;generalize relVO 1 (dgetG (qL 1) (qL 3))=RV at *;have e0:mkO (a++(n,v)::r)=.dct ((mkN (a++(n,v)::r)).map Sum.inr) ((mkV (a++(n,v)::r)).map OT.val):=rfl;simp only at ev ⊢;generalize hM:mkO (a++(n,v.bind (wentF d))::r)=M at *;unfold dputG;simp only[aGv,IJ,NK,FF,cJ,cC,ev,aH,cF,aJ,dH,hw,aDj,varP,getV_eq,keyD,if_true];rw[e0];simp only;rw[if_pos hk,pk];simp[putP,putO]
theorem VR{d:Dd}(hd:okD d)(A0:Sl):∀(r a:Mks) (x3:Sl),((a++r).map (·.1)).Nodup->(a++r).length<=1000->∃y3,
  qZ (zU 3) kQ ((mkN r).map D.str) [A0,.ob none (mkO (a++r)),.v (told3 d),x3]=some (.nx [A0,.ob none (mkO (a++goM d r)),.v (told3 d),y3])
 |[],a,x3,_,_=>⟨x3,rfl⟩
 | p :: r, a, x3, nd, hl => by
   have e:=sp_turn hd nd hl A0;obtain⟨y3,ih⟩:=VR hd A0 r (a++[(p.1,p.2.bind (wentF d))]) (.v (.str (txS p.1))) (by simpa using nd) (by simpa using hl);refine⟨y3,?_⟩;simp only[mkN,aO,qZ,zU,aH,cU,cT,e];simp only[eS,List.singleton_append] at ih;exact ih
theorem VO(d:Dd):∃k:Str,ixD (told3 d) (.int 0)=some (.str k)/\eqD (.str k) (.str "mark")=some (.bl false):=by
 cases d with
 |put s v=>exact⟨"put",by simp[told3],en1⟩
 |widen a m=>exact⟨"widen",by simp[told3],en2⟩
 |narrow a m=>exact⟨"narrow",by simp[told3],en3⟩
 |move f=>exact⟨"move",by simp[told3],en4⟩
 |stretch t b=>exact⟨"stretch",by simp[told3],en5⟩
 |mirror=>exact⟨"mirror",by simp[told3],en6⟩
theorem aAt(l:List Str):flats (l.map D.str)=true:=by
 induction l with
 |nil=>simp[flats]
 |cons a r ih=>simp[flats,flat,ih]
theorem sp_row{r:R3}(hr:okR3' r){mk:Mks}(hm:MkOk mk)(hl:mk.length<1000)(A0 x3:Sl):∃y3,
  gZ [A0,.ob none (mkO mk),.v (r3D r),x3]=some (.nx [A0,.ob none (mkO (mkR [r] mk)),.v (r3D r),y3]):=by
 cases r with
 | mark n p =>
   refine⟨x3,?_⟩;have pk:=aDt n (some p) mk;have hk:((mkN mk).map (Sum.inr:Str->Key)).length<sizeLine:=dG (show _<=1000 by simp[mkN];omega) (by decide);have e0:mkO mk=.dct ((mkN mk).map Sum.inr) ((mkV mk).map OT.val):=rfl;have e1:mkR [.mark n p] mk=putM n (some p) mk:=rfl;rw[e1];unfold gZ;rw[BY (by simp[r3D,em0])];generalize hM:mkO (putM n (some p) mk)=M at *;unfold dputG;have i1:ixD (r3D (.mark n p)) (.int 1)=some (.str (txS n)):=by simp[r3D]
   have i2:ixD (r3D (.mark n p)) (.int 2)=some (.int p):=by simp[r3D]
   generalize r3D (.mark n p)=RD at *;simp only[YE,RM,FF,cJ,cC,aH,i1,i2,varP,keyD];rw[e0];simp only;rw[if_pos hk];have pk':putKT (.inr (txS n)) (.val (.int p)) ((mkN mk).map Sum.inr) ((mkV mk).map OT.val)=M:=pk;rw[pk'];simp[putP,putO]
 | deed d =>
   obtain⟨k,k1,k2⟩:=VO d;obtain⟨y3,e⟩:=VR (show okD d from hr) A0 mk [] x3 (by simpa using hm.nd) (by simp;omega);simp only[kL] at e;refine⟨y3,?_⟩;have e1:mkR [.deed d] mk=goM d mk:=rfl;rw[e1];unfold gZ;simp only[r3D];rw[wY (by simp[k1,k2])];have r2:relO 1 [A0,.ob none (mkO mk),.v (told3 d),x3]=[A0,.v (otD (mkO mk)),.v (told3 d),x3]:=rfl
   have li:relFO 1 (lisDA (zH 1)) [A0,.ob none (mkO mk),.v (told3 d),x3]=some ((mkN mk).map D.str):=by
    unfold relFO lisDA;rw[r2,aEt];have:((mkN mk).map (Sum.inr:Str->Key)).map keyDD=(mkN mk).map D.str:=by rw[dX];rfl
    simp[kdD,this,aAt]
   have zl:((mkN mk).map D.str).length<=16777216:=by simp[mkN];omega
   rw[NV];simp only[viaA,mkL,li,cF,aH,asLT]
   first | exact e | simpa[zl] using e
theorem aDb(A0:Sl):∀(rs:List R3) (mk:Mks) (x2 x3:Sl),(∀r∈rs,okR3' r)->MkOk mk->mk.length+rs.length<1000->∃y2 y3,
  qZ (zU 2) gZ (rs.map r3D) [A0,.ob none (mkO mk),x2,x3]=some (.nx [A0,.ob none (mkO (mkR rs mk)),y2,y3])
 |[],mk,x2,x3,_,_,_=>⟨x2,x3,rfl⟩
 | r :: rs, mk, x2, x3, h, hm, hl => by
   simp only[aJ] at hl;have hr:=h r aN;obtain⟨y3,e⟩:=sp_row hr hm (by omega) A0 x3;have l1:=AJ [r] mk;simp only[aJ,dH] at l1;obtain⟨y2,y3',e'⟩:=aDb A0 rs (mkR [r] mk) (.v (r3D r)) y3 (fun x hx=>h x (aG _ hx)) (GU [r] (fun x hx=>h x (by rw[bA.mp hx];exact aN)) hm) (by omega);refine⟨y2,y3',?_⟩;simp only[aO,qZ,vB,aH,cU,cT,e];exact e'
theorem tS:∀l:List (Option Int),rA ((l.map oi).map OT.val)=true
 |[]=>rfl
 | a :: l => by
   have:=tS l;simp only[aO,rA,flatO,this];cases a<;>simp[flat]
theorem aCz(rs:List R3)(h:∀r∈rs,okR3' r)(hl:rs.length<=100):iF [.lst (rs.map r3D)]=some (.obj (mkO (mkR rs []))):=by
 obtain⟨y2,y3,e⟩:=aDb (.v (.lst (rs.map r3D))) rs [] .no .no h .nil (by simp;omega)
 have fl:flatO (mkO (mkR rs []))=true:=by
  have:=tS ((mkR rs []).map (·.2));have e:mkV (mkR rs [])=((mkR rs []).map (·.2)).map oi:=by simp[mkV]
  rw[<- e] at this;simpa only[mkO,flatO] using this
 have zl:(rs.map r3D).length<=16777216:=by rw[aS];omega
 have ar:args 4 [.lst (rs.map r3D)]=[.v (.lst (rs.map r3D)),.no,.no,.no]:=by simp[args]
 refine xO ?_;unfold oQ;rw[ar];generalize rs.map r3D=A at *;rw[qJ (ds':=[.v (.lst A),.ob none (mkO []),.no,.no]) (by simp[setB,dO0,mkO,mkN,mkV])];rw[qJ (ds':=[.v (.lst A),.ob none (mkO (mkR rs [])),y2,y3]) (by rw[NV];simpa[zl] using e)];simp[retBv,fl]
theorem cut_oi(E:List (Option Int))(lo hi:Option Int):∃E':List (Option Int),E'.length<=E.length/\FL.cutD (E.map oi) lo hi=E'.map oi :=
 ⟨(E.drop (HT.sIx E.length 0 lo)).take (HT.sIx E.length E.length hi-HT.sIx E.length 0 lo),by rw[fN,pW];omega,by unfold FL.cutD;rw[aS,uK,MU]⟩
theorem in_p:inD false (.str "put") (.lst [.str "widen",.str "narrow"])=some (.bl false):=by kernel_rfl
theorem in_w:inD false (.str "widen") (.lst [.str "widen",.str "narrow"])=some (.bl true):=by kernel_rfl
theorem in_n:inD false (.str "narrow") (.lst [.str "widen",.str "narrow"])=some (.bl true):=by kernel_rfl
theorem in_m:inD false (.str "move") (.lst [.str "widen",.str "narrow"])=some (.bl false):=by kernel_rfl
theorem in_s:inD false (.str "stretch") (.lst [.str "widen",.str "narrow"])=some (.bl false):=by kernel_rfl
theorem in_i:inD false (.str "mirror") (.lst [.str "widen",.str "narrow"])=some (.bl false):=by kernel_rfl
theorem WT:∀E:List (Option Int),compL (zU 0) (zP (zI notD (zH 0) (zA .non))) (qL 0) [.no] (E.map oi)=some ((E.filterMap id).map D.int)
 |[]=>rfl
 | a :: E => by
   have ih:=WT E;rw[aO,compL];cases a<;>simp[ih]
theorem NR(known:List Int)(hk:known.length<=5000){r:R3}(hr:okR3' r):∃known':List Int,known'.length<=known.length+2/\fT [.lst (known.map D.int),r3D r]=some (.fresh (known'.map D.int)):=by
 have sz:sizeLine=16777216:=rfl;cases r with
 | mark n p =>
   refine⟨known++[p],by simp,?_⟩;have z:(known.map D.int).length+1<=16777216:=by rw[aS];omega
   have fl:=wE (known++[p]);rw[bN] at fl ⊢;unfold fT runG iL;generalize known.map D.int=KL at *;simp at fl;simp[args,r3D,em0,z,fl]
 | deed d =>
   have hd:okD d:=hr;have w:=fun k=>PH d hd (some k);simp only[EY,aH] at w;obtain⟨k0,k1,k2⟩:=VO d
   have cm:∀X:Sl,compG (viaA (qL 0) asLT) [none,some 1] (zU 0) (fun _=>some true) (qG 2 iX (zE (zH 1) (zE (zH 0) zZ))) [.v (.lst (known.map D.int)),.v (told3 d),X]=some ((known.map (wentF d)).map oi):=fun X=>by
    refine jY (items:=known.map D.int) (by simp) (by simp;omega) ?_;rw[dX];refine xC _ _ _ fun k _=>⟨[.v (.int k),.v (told3 d)],by simp[yE],?_⟩
    generalize told3 d=T at *;simp[w]
   obtain⟨E,hE,eE⟩:∃E:List (Option Int),E.length<=known.length+2/\∀ds',(qB (ifG (zP (zI eqD (zI ixD (zH 1) (zA (.int 0))) (zA (.str "put")))) (setOG 2 (catA (zH 2) (mkL (lisA (zI ixD (zH 1) (4:)))))) qH)
     (ifG (zP (zI (inD false) (zI ixD (zH 1) (zA (.int 0))) (mkL (qK (zE (zA (.str "widen")) (zE (zA (.str "narrow")) zZ)))))) (appG 2 (zI ixD (zH 1) (4:))) qH)) [ds',.v (told3 d),.own ((known.map (wentF d)).map oi)]=some (.nx [ds',.v (told3 d),.own (E.map oi)]):=by
    have lk:((known.map (wentF d)).map oi).length<16777216:=by simp;omega
    have lk2:((known.map (wentF d)).map oi).length+2<=16777216:=by simp;omega
    cases d with
    | put s v =>
      refine⟨known.map (wentF (.put s v))++[s.1,s.2],by simp,fun X=>?_⟩;rw[bN];generalize (known.map (wentF (.put s v))).map oi=L at *;simp[told3,in_p,spD,lk2]
    | widen a m =>
      refine⟨known.map (wentF (.widen a m))++[some a],by simp,fun X=>?_⟩;rw[bN];generalize (known.map (wentF (.widen a m))).map oi=L at *;simp[told3,in_w,lk]
    | narrow a m =>
      refine⟨known.map (wentF (.narrow a m))++[some a],by simp,fun X=>?_⟩;rw[bN];generalize (known.map (wentF (.narrow a m))).map oi=L at *;simp[told3,in_n,lk]
    | move f =>
      refine⟨known.map (wentF (.move f)),by simp,fun X=>?_⟩;generalize (known.map (wentF (.move f))).map oi=L at *;simp[told3,in_m]
    | stretch t b =>
      refine⟨known.map (wentF (.stretch t b)),by simp,fun X=>?_⟩;generalize (known.map (wentF (.stretch t b))).map oi=L at *;simp[told3,in_s]
    | mirror =>
      refine⟨known.map (wentF .mirror),by simp,fun X=>?_⟩;generalize (known.map (wentF .mirror)).map oi=L at *;simp[told3,in_i]
   obtain⟨E',hE',eC⟩:=cut_oi E (some (-10)) none
   have cf:∀X Y:Sl,compG (viaA (mkL (sliA (zH 2) (soP (un1 negD (zA (.int 10)))) noP)) asLT) [none] (zU 0) (zP (zI notD (zH 0) (zA .non))) (qL 0) [X,Y,.v (.lst (E.map oi))]=some ((E'.filterMap id).map D.int):=fun X Y=>by
    refine jY (items:=E'.map oi) ?_ (by simp;omega) (WT E');generalize E.map oi=EL at *;simp[eC]
   have fl:=wE (E'.filterMap id);have lf:=iT id E';refine⟨E'.filterMap id,by omega,?_⟩;unfold fT;refine xO ?_;unfold iL;have ar:args 3 [.lst (known.map D.int),r3D (.deed d)]=[.v (.lst (known.map D.int)),.v (told3 d),.no]:=by simp[args,r3D]
   rw[ar]
   rw[qJ (ds':=[.v (.lst (known.map D.int)),.v (told3 d),.no]) (by
    generalize known.map D.int=KL at *
    rw[wY (by simp[k1,k2])];simp)]
   rw[qJ (ds':=[.v (.lst (known.map D.int)),.v (told3 d),.own ((known.map (wentF d)).map oi)]) (by unfold setOG;rw[cm];simp)];have ee:=eE (.v (.lst (known.map D.int)));generalize known.map D.int=KL at *;generalize (known.map (wentF d)).map oi=WL at *;generalize (E'.filterMap id).map D.int=FL at *;generalize E.map oi=EL at *
   have as:∀(f g h:FS) (ds:List Sl),qB f (qB g h) ds=qB (qB f g) h ds:=fun f g h ds=>by
    unfold qB;cases f ds with
    |none=>rfl
    |some o=>cases o<;>rfl
   rw[as,qJ ee];have rs:relS 2 [.v (.lst KL),.v (told3 d),.own EL]=[.v (.lst KL),.v (told3 d),.v (.lst EL)]:=rfl;show retOG _ (relS 2 _)=_;rw[rs,QB,cf];simp[fl]
theorem AK(c:Int)(hc:intBits c<=1048576):∃m:Int,0<=m/\m<10 ^ 61/\fM [.int c]=some (.val (.int m)):=by
 have p1:powD (.int 48271) (.int 9)=some (.int (48271 ^ 9)):=AI (AV (n:=16) (m:=9) (by decide) (by decide) (by decide) (by decide));have p2:powD (.int 7) (.int 60)=some (.int (7 ^ 60)):=AI (AV (n:=3) (m:=60) (by decide) (by decide) (by decide) (by decide));have p3:powD (.int 10) (.int 61)=some (.int (10 ^ 61)):=pow10 (by decide) (by decide);have p4:powD (.int 10) (.int 60)=some (.int (10 ^ 60)):=pow10 (by decide) (by decide);have mu:yV (.int c) (.int (48271 ^ 9))=some (.int (c*48271 ^ 9)):=yU (VF hc (show intBits (48271 ^ 9)<=160 from jO (by decide)) (by decide));have q1:(0:Int)<10 ^ 61+7:=by decide
 have q2:(0:Int)<10 ^ 60+9:=by decide
 have m1:∀x,jF (.int x) (.int (10 ^ 61+7))=some (.int (x%(10 ^ 61+7))):=fun x=>jR x q1;have m2:∀x,jF (.int x) (.int (10 ^ 60+9))=some (.int (x%(10 ^ 60+9))):=fun x=>jR x q2;obtain⟨y,hy0,hy1,ey⟩:∃y:Int,0<=y/\y<10 ^ 61+7/\y=(c*48271 ^ 9+7 ^ 60)%(10 ^ 61+7):=⟨_,eI _ (oH q1),fO _ q1,rfl⟩
 have p5:powD (.int y) (.int 2)=some (.int (y ^ 2)):=AI (AV (n:=210) (m:=2) (by
  have:(10:Nat) ^ 61+7<2 ^ 210:=by decide +kernel
  have e:((10 ^ 61:Nat):Int)=10 ^ 61:=Int.natCast_pow 10 61;generalize (10:Int) ^ 61=A at *;generalize (10:Nat) ^ 61=B at *;generalize 2 ^ 210=C at *
  omega) (by decide) (by decide) (by decide))
 have lt:(10:Int) ^ 60+9<10 ^ 61:=by decide
 refine⟨y ^ 2%(10 ^ 60+9),eI _ (oH q2),Int.lt_trans (fO _ q2) lt,?_⟩;unfold fM runG tW;generalize (10:Int) ^ 61=A at *;generalize (10:Int) ^ 60=B at *;generalize (48271:Int) ^ 9=C at *;generalize (7:Int) ^ 60=E at *;simp[args,p1,p2,p3,p4,mu,m1,m2,<- ey,p5]
theorem YD{x:Int}(h0:0<=x)(h1:x<10 ^ 61):intBits x<=1048576:=by
 refine cL (jO (m:=210) ?_) (by decide);have:(10:Nat) ^ 61<2 ^ 210:=by decide +kernel
 have e:((10 ^ 61:Nat):Int)=10 ^ 61:=Int.natCast_pow 10 61;generalize (10:Int) ^ 61=A at *;generalize (10:Nat) ^ 61=B at *;generalize 2 ^ 210=C at *;omega
theorem aGo{B:Int}(hB:divOk B)(N:Sl)(acc:List Int)(c r:Int)(r0:0<=r)(r1:r<10 ^ 61)(hz:acc.length<1000)(x5:Sl):∃c' r':Int,(0<=r'/\r'<10 ^ 61)/\∃x:Int,0<=x/\x<B ∧
  lB [.v (.int c),.v (.int B),N,.own (acc.map D.int),.v (.int r),x5]=some (.nx [.v (.int c'),.v (.int B),N,.own ((acc++[x]).map D.int),.v (.int r'),x5]):=by
 have hl:(acc.map D.int).length<16777216:=by rw[aS];omega
 have fd:∀x,qW (.int x) (.int B)=some (.int (x/B)):=fun x=>if_pos hB;have md:∀x,jF (.int x) (.int B)=some (.int (x%B)):=fun x=>jR x hB.1;obtain⟨m,m0,m1,em⟩:=AK r (YD r0 r1);have p9:powD (.int 10) (.int 9)=some (.int (10 ^ 9)):=pow10 (by decide) (by decide);have p60:powD (.int 10) (.int 60)=some (.int (10 ^ 60)):=pow10 (by decide) (by decide);have q9:∀x,jF (.int x) (.int (10 ^ 9))=some (.int (x%10 ^ 9)):=fun x=>jR x (by decide);have q60:∀x,jF (.int x) (.int (10 ^ 60))=some (.int (x%10 ^ 60)):=fun x=>jR x (by decide);have x0:∀a b c:D,ixD (.lst [a,b,c]) (.int 0)=some a:=fun a b c=>by rw[jL _ (by decide) (by simp)];rfl
 have x1:∀a b c:D,ixD (.lst [a,b,c]) (.int 1)=some b:=fun a b c=>by rw[jL _ (by decide) (by simp)];rfl
 by_cases h:c=0
 . obtain⟨z,ez⟩:∃z:Int,jF (.int (m/3)) ((fun k:Int=>if k=0 then D.int 50 else if k=1 then .int (10 ^ 9) else .int (10 ^ 60)) (m%3))=some (.int z):=by
    have:m%3=0\/m%3=1\/m%3=2:=by omega
    rcases this with e | e | e<;>rw[e]<;>simp only[]<;>simp
   refine⟨(1+z)/B,m,⟨m0,m1⟩,(1+z)%B,eI _ (oH hB.1),fO _ hB.1,?_⟩;subst h;rw[bN];have:m%3=0\/m%3=1\/m%3=2:=by omega
   unfold lB;generalize (10:Int) ^ 60=A at *;generalize acc.map D.int=AL at *;rcases this with e | e | e<;>rw[e] at ez<;>simp at ez<;>simp[em,e,p9,p60,x0,x1,XG,ez,fd,md,hl]
 . refine⟨c/B, r, ⟨r0, r1⟩, c%B, eI _ (oH hB.1), fO _ hB.1, ?_⟩;rw[bN];unfold lB;generalize acc.map D.int=AL at *;simp[h,fd,md,hl]
theorem SD{B:Int}(hB:divOk B)(N:Sl):∀(items:List D) (acc:List Int) (c r:Int) (x5:Sl),acc.length+items.length<=1000->0<=r->r<10 ^ 61->(∀x∈acc,0<=x/\x<B)->∃(acc':List Int) (y0 y4 y5:Sl),acc'.length=acc.length+items.length/\(∀x∈acc',0<=x/\x<B) ∧
  qZ (zU 5) lB items [.v (.int c),.v (.int B),N,.own (acc.map D.int),.v (.int r),x5]=some (.nx [y0,.v (.int B),N,.own (acc'.map D.int),y4,y5])
 |[],acc,c,r,x5,_,_,_,h=>⟨acc,_,_,_,rfl,h,rfl⟩
 | d :: items, acc, c, r, x5, hl, r0, r1, h => by
   simp only[aJ] at hl;obtain⟨c',r',⟨a0,a1⟩,x,b0,b1,e⟩:=aGo hB N acc c r r0 r1 (by omega) (.v d)
   obtain⟨acc',y0,y4,y5,l,h',e'⟩:=SD hB N items (acc++[x]) c' r' (.v d) (by simp;omega) a0 a1 (fun z hz=>by
    rcases bJ.mp hz with hz | hz
    . exact h z hz
    . rw[bA.mp hz];exact⟨b0,b1⟩)
   refine⟨acc',y0,y4,y5,by simp at l ⊢;omega,h',?_⟩;simp only[qZ,vB,aH,cU,cT,e];exact e'
theorem MH(c B:Int)(hc:intBits c<=1048576)(hB:divOk B)(n:Nat)(hn:n<=100):∃ds:List Int,ds.length=n/\(∀x∈ds,0<=x/\x<B)/\fZ [.int c,.int B,.int (n:Int)]=some (.fresh (ds.map D.int)):=by
 obtain⟨m,m0,m1,em⟩:=AK c hc;obtain⟨acc,y0,y4,y5,l,h,e⟩:=SD hB (.v (.int (n:Int))) (fC 0 n) [] c m .no (by simp[fC];omega) m0 m1 (fun _ h=>nomatch h);have ok:okR (n:Int):=xQ (by omega) (by omega);have fl:=wE acc;refine⟨acc,by simpa[fC] using l,h,?_⟩;unfold fZ runG rW;simp only[cH] at e;generalize acc.map D.int=AL at *;simp[args,em,ok,e,fl,flatF]
theorem zig_ex{x:Int}(hb:intBits x<=1048576):∃y:Int,lA [.int x]=some (.val (.int y)):=by
 have m1:=yJ (i:=2) (j:=x%2) (by omega) (by omega);have m2:yV (.int ((x+1)/2)) (.int (1-2*(x%2)))=some (.int ((x+1)/2*(1-2*(x%2)))):=yU (.of_right (cL (jO (m:=2) (by omega)) (by decide)));exact⟨_,by unfold lA runG FI;simp[args,m1,m2];rfl⟩
theorem YA(E:List D)(a b:Nat)(ha:a<=E.length)(hb:b<=E.length):FL.cutD E (some (a:Int)) (some (b:Int))=(E.drop a).take (b-a):=by
 have e1:HT.sIx E.length 0 (some (a:Int))=a:=by simp[HT.sIx,show ¬((a:Int)<0) by omega];omega
 have e2:HT.sIx E.length E.length (some (b:Int))=b:=by simp[HT.sIx,show ¬((b:Int)<0) by omega];omega
 unfold FL.cutD;rw[e1,e2]
theorem cut2(E:List Int)(k:Nat)(h:2*k+2<=E.length):FL.cutD (E.map D.int) (some (2*(k:Int))) (some (2*(k:Int)+2))=[.int (E[2*k]),.int (E[2*k+1])]:=by
 have:=YA (E.map D.int) (2*k) (2*k+2) (by simp;omega) (by simp;omega);rw[show((2*k:Nat):Int)=2*(k:Int) by omega,show((2*k+2:Nat):Int)=2*(k:Int)+2 by omega] at this;rw[this,cK (by simp;omega),cK (by simp;omega),show 2*k+2-2*k=2 by omega];simp
theorem cut3(E:List Int)(k:Nat)(h:3*k+3<=E.length):FL.cutD (E.map D.int) (some (3*(k:Int))) (some (3*(k:Int)+3))=[.int (E[3*k]),.int (E[3*k+1]),.int (E[3*k+2])]:=by
 have:=YA (E.map D.int) (3*k) (3*k+3) (by simp;omega) (by simp;omega);rw[show((3*k:Nat):Int)=3*(k:Int) by omega,show((3*k+3:Nat):Int)=3*(k:Int)+3 by omega] at this;rw[this,cK (by simp;omega),cK (by simp;omega),cK (by simp;omega),show 3*k+3-3*k=3 by omega];simp
def AM(E:List Int)(rows:List Rw)(k:Nat):Prop:=rows.length<=k/\(rows=[]\/∃rows0 s0 lo s v,DrawM rows0 s0/\s0<=lo/\lo<s/\(∀r,rows0.getLast?=some r->lo=s0->r.2.2≠some v)/\rows=rows0++[(some lo,some s,some v)]/\∀j x,2*k<=j->E[j]?=some x->s<=x)
theorem AM.map{E:List Int}{rows:List Rw}{k:Nat}(h:AM E rows k):MapF rows:=by
 rcases h.2 with rfl | ⟨rows0,s0,lo,s,v,d,h1,h2,h3,rfl,_⟩
 . exact MapF.nil
 . exact(d.snoc h1 h2 h3).map
theorem am_turn{E:List Int}(so:E.Pairwise (·<=·)){vals:List Int}{k:Nat}(hk:2*k+2<=E.length)(hv:k<vals.length)(hk2:k<1000){rows:List Rw}(h:AM E rows k)(A0 A1 A2 A3 A4 x9 x10:Sl):∃rows' y9 y10,AM E rows' (k+1) ∧
  hX [A0,A1,A2,A3,A4,.v (.lst (E.map D.int)),.v (.lst (vals.map D.int)),.own (rows.map rwD),.v (.int (k:Int)),x9,x10]=some (.nx [A0,A1,A2,A3,A4,.v (.lst (E.map D.int)),.v (.lst (vals.map D.int)),.own (rows'.map rwD),.v (.int (k:Int)),y9,y10]):=by
 have c2:=cut2 E k hk;have m2:=yJ (i:=2) (j:=(k:Int)) (by omega) (by omega);have iv:=XH vals (k:=(k:Int)) (by omega) (by omega);generalize cel vals (k:Int).toNat=v at iv;have ab:E[2*k]<=E[2*k+1]:=cS.mp so (2*k) (2*k+1) (by omega) (by omega) (by omega)
 have up:∀j x,2*(k+1)<=j->E[j]?=some x->E[2*k+1]<=x:=fun j x hj e=>by
  obtain⟨hj',rfl⟩:=aV.mp e;exact cS.mp so (2*k+1) j (by omega) hj' (by omega)
 have lo':∀{s:Int},(∀j x,2*k<=j->E[j]?=some x->s<=x)->s<=E[2*k]:=fun {s} hs=>hs (2*k) _ (aU _) (bI (by omega));generalize E[2*k]=a at *;generalize E[2*k+1]=b at *;have ne:=yZ rows;obtain⟨hl,h⟩:=h;have zl:(rows.map rwD).length<16777216:=by rw[aS];omega
 have e0:D.tup [.int a,.int b,.int v]=rwD (some a,some b,some v):=rfl;unfold hX
 rw[qJ (ds':=[A0,A1,A2,A3,A4,.v (.lst (E.map D.int)),.v (.lst (vals.map D.int)),.own (rows.map rwD),.v (.int (k:Int)),.v (.int a),.v (.int b)]) (by
  generalize E.map D.int=EL at *;generalize rows.map rwD=RL at *
  simp[m2,c2,lstG])]
 generalize E.map D.int=EL at *;generalize vals.map D.int=VL at *;rcases h with rfl | ⟨rows0,s0,lo,s,w,d,h1,h2,h3,rfl,h4⟩
 . by_cases hab : a < b
   . refine⟨[(some a, some b, some v)], .v (.int a), .v (.int b), ⟨by simp, .inr ⟨[], a, a, b, v, DrawM.nil a, pF _, hab, (fun r h => by simp at h), rfl, up⟩⟩, ?_⟩;simp at ne;simp[ne,hab,iv,e0]
   . refine⟨[], .v (.int a), .v (.int b), ⟨by simp, .inl rfl⟩, ?_⟩;simp at ne;simp[ne,hab]
 . have sa := lo' h4;have ie:(rows0++[(some lo,some s,some w)]).isEmpty=false:=by simp
   rw[ie] at ne;rw[bN,aO,cH] at ne zl;have last:ixD (.lst (rows0.map rwD++[rwD (some lo,some s,some w)])) (.int (-1))=some (rwD (some lo,some s,some w)):=wS _ _;have le:ixN (rows0.length+1) (-1)=some rows0.length:=by rw[HD (by omega)];rfl
   have w0:ixD (rwD (some lo,some s,some w)) (.int 0)=some (.int lo):=by simp[rwD]
   have w1:ixD (rwD (some lo,some s,some w)) (.int 1)=some (.int s):=by simp[rwD]
   have w2:ixD (rwD (some lo,some s,some w)) (.int 2)=some (.int w):=by simp[rwD]
   have e2:D.tup [.int lo,.int b,.int v]=rwD (some lo,some b,some v):=rfl
   by_cases hm:a=s/\v=w
   . obtain⟨rfl, rfl⟩ := hm;refine⟨rows0++[(some lo,some b,some v)],.v (.int a),.v (.int b),⟨by simp at hl ⊢;omega,.inr ⟨rows0,s0,lo,b,v,d,h1,by omega,h3,rfl,up⟩⟩,?_⟩;rw[bN,bN,aO,cH,aO,cH];generalize rwD (some lo,some a,some v)=R1 at *;simp at ne;simp[ne,last,w0,w1,w2,iv,le,e2]
   . have t1:(andT (zP (zI neD (zH 7) (mkL (qK zZ)))) (andT (zP (zI eqD (zH 9) (zI ixD (zI ixD (zH 7) (un1 negD (4:))) (4:)))) (zP (zI eqD (zI ixD (zH 6) (zH 8)) (zI ixD (zI ixD (zH 7) (un1 negD (4:))) (zA (.int 2))))))) [A0,A1,A2,A3,A4,.v (.lst EL),.v (.lst VL),.own (rows0.map rwD++[rwD (some lo,some s,some w)]),.v (.int (k:Int)),.v (.int a),.v (.int b)]=some false:=by
      generalize rwD (some lo,some s,some w)=R1 at *;generalize rows0.map rwD=R0 at *
      by_cases q:a=s
      . have q2 : ¬v=w := fun z => hm ⟨q, z⟩;simp[ne,last,w1,w2,iv,q,q2]
      . simp[ne,last,w1,q]
     rw[bN,aO,cH];rw[wY t1]
     by_cases hab:a<b
     . refine ⟨(rows0 ++ [(some lo, some s, some w)]) ++ [(some a, some b, some v)], .v (.int a), .v (.int b), ⟨by simp at hl ⊢; omega, .inr ⟨_, s, a, b, v, d.snoc h1 h2 h3, sa, hab, (fun r hr e => ?_), rfl, up⟩⟩, ?_⟩
       . simp at hr;subst hr;exact fun z=>hm ⟨e,by cases z;rfl⟩
       . rw[bN, bN];simp only[aO,cH];generalize rwD (some lo,some s,some w)=R1 at *;simp at zl;simp[hab,iv,e0,zl]
     . refine⟨rows0 ++ [(some lo, some s, some w)], .v (.int a), .v (.int b), ⟨by simp at hl ⊢;omega, .inr ⟨rows0, s0, lo, s, w, d, h1, h2, h3, rfl, fun j x hj e => h4 j x (by omega) e⟩⟩, ?_⟩;rw[bN,aO,cH];simp[hab]
theorem VN(ds:List Int){B:Int}(hB:intBits B<=1000)(h:∀x∈ds,0<=x/\x<B):∃es:List Int,es.length=ds.length/\compL (zU 0) (fun _=>some true) (qG 1 lA (zE (zH 0) zZ)) [.no] (ds.map D.int)=some (es.map D.int):=by
 induction ds with
 |nil=>exact⟨[],rfl,rfl⟩
 | cons x ds ih =>
   obtain⟨es,l,e⟩:=ih fun z hz=>h z (aG _ hz);obtain⟨h0,h1⟩:=h x aN
   obtain⟨y,ey⟩:=zig_ex (x:=x) (by
    have:intBits x<=intBits B:=by
     have:=intBits_le_iff.mp (aU (intBits B));refine jO ?_;omega
    omega)
   refine⟨y::es,by simp[l],?_⟩;rw[aO,compL];simp[ey,e]
theorem ints_of(ns:List Int):intsD (ns.map D.int)=some ns:=by
 induction ns with
 |nil=>rfl
 |cons a r ih=>simp[intsD,ih]
theorem VB(n:Nat)(hn:n<=8)(t c1 c2:Int)(h1:intBits c1<=1048576)(h2:intBits c2<=1048576):∃ps:List Rw,MapF ps/\ps.length<=8/\gP [.int (n:Int),.int t,.int c1,.int c2]=some (.fresh (ps.map rwD)):=by
 have sz:sizeLine=16777216:=rfl;have p1:powD (.int 10) (.int 33)=some (.int (10 ^ 33)):=pow10 (by decide) (by decide);have p2:=WJ;obtain⟨F,hF⟩:∃F:Int,F=(10 ^ 33) ^ 6:=⟨_,rfl⟩
 have hB:divOk (2*F+1):=by rw[hF];exact⟨by decide,by decide +kernel⟩
 have bB:intBits (2*F+1)<=1000:=by rw[hF];exact jO (by decide +kernel)
 have mF:yV (.int 2) (.int F)=some (.int (2*F)):=yU (.of_left (jO (bQ (show(2:Int).natAbs<2 ^ 2 by decide) (by decide))));have mn:=yJ (i:=2) (j:=(n:Int)) (by omega) (by omega);rw[<- hF] at p2;obtain⟨d1,l1,b1,e1⟩:=MH c1 (2*F+1) h1 hB (2*n) (by omega);obtain⟨d2,l2,b2,e2⟩:=MH c2 (2*F+1) h2 hB n (by omega);rw[show((2*n:Nat):Int)=2*(n:Int) by omega] at e1;obtain⟨g1,k1,z1⟩:=VN d1 bB b1;obtain⟨g2,k2,z2⟩:=VN d2 bB b2;have pm:=srtI_perm g1;have so:=srtI_le g1;have lE:(srtI g1).length=2*n:=by rw[pm.length_eq];omega
 have sr:∀ds,(mkL (compG (viaA (qG 3 fZ (zE (zH 2) (zE (zI yF (zI yV (zA (.int 2)) (zH 4)) (4:)) (zE (zI yV (zA (.int 2)) (zH 0)) zZ)))) asLT) [none] (zU 0) (fun _=>some true) (qG 1 lA (zE (zH 0) zZ)))) ([.v (.int (n:Int)),.v (.int t),.v (.int c1),.v (.int c2),.v (.int F)]++ds)=some (.lst (g1.map D.int)):=fun ds=>by
  have:=jY (fi:=viaA (qG 3 fZ (zE (zH 2) (zE (zI yF (zI yV (zA (.int 2)) (zH 4)) (4:)) (zE (zI yV (zA (.int 2)) (zH 0)) zZ)))) asLT) (mp:=[none]) (ds:=[.v (.int (n:Int)),.v (.int t),.v (.int c1),.v (.int c2),.v (.int F)]++ds) (items:=d1.map D.int) (by
   generalize d1.map D.int=DL at *
   simp[mF,mn,e1,retV]) (by simp;omega) z1
  rw[vS,this];rfl
 have cv:∀ds,compG (viaA (qG 3 fZ (zE (zH 3) (zE (zI yF (zI yV (zA (.int 2)) (zH 4)) (4:)) (zE (zH 0) zZ)))) asLT) [none] (zU 0) (fun _=>some true) (qG 1 lA (zE (zH 0) zZ)) ([.v (.int (n:Int)),.v (.int t),.v (.int c1),.v (.int c2),.v (.int F)]++ds)=some (g2.map D.int):=fun ds =>
  jY (items:=d2.map D.int) (by
   generalize d2.map D.int=DL at *
   simp[mF,e2,retV]) (by simp;omega) z2
 have is:=ints_of g1;have g64:g1.length<64:=by omega
 obtain⟨ds',el,rows,x8,x9,x10,am,rfl⟩:=GW (ga:=zU 8) (body:=hX) (fun k ds=>∃rows x8 x9 x10,AM (srtI g1) rows k/\ds=[.v (.int (n:Int)),.v (.int t),.v (.int c1),.v (.int c2),.v (.int F),.v (.lst ((srtI g1).map D.int)),.v (.lst (g2.map D.int)),.own (rows.map rwD),x8,x9,x10]) n (by
  rintro k hk _ ⟨rows,x8,x9,x10,am,rfl⟩;obtain⟨rows',y9,y10,am',e⟩:=am_turn so (vals:=g2) (k:=k) (by omega) (by omega) (by omega) am (.v (.int (n:Int))) (.v (.int t)) (.v (.int c1)) (.v (.int c2)) (.v (.int F)) x9 x10
  exact⟨_,_,rfl,e,rows',_,y9,y10,am',rfl⟩) n 0 [.v (.int (n:Int)),.v (.int t),.v (.int c1),.v (.int c2),.v (.int F),.v (.lst ((srtI g1).map D.int)),.v (.lst (g2.map D.int)),.own [],.no,.no,.no] (by omega) ⟨[],.no,.no,.no,⟨by simp,.inl rfl⟩,rfl⟩
 have ok:okR (n:Int):=xQ (by omega) (by omega);have rg:(List.range' 0 n).map (fun(j:Nat)=>D.int (0+(j:Int)))=fC 0 n:=by rw[fC,List.range_eq_range']
 rw[rg] at el;have mm:=am.map;obtain⟨rows1,o1,r1,q1,w1⟩:=WP 7 (zP (zI eqD (zI jF (zH 1) (zA (.int 2))) (4:))) [.v (.int (n:Int)),.v (.int t),.v (.int c1),.v (.int c2),.v (.int F),.v (.lst ((srtI g1).map D.int)),.v (.lst (g2.map D.int)),.own (rows.map rwD),x8,x9,x10] rows (decide (t%2=1)) mm.ord rfl (by simp)
 have m1':MapF rows1:=by
  rcases q1 with rfl | ⟨r,t,rfl,rfl⟩
  . exact mm
  . exact LW mm
 obtain⟨rows2,o2,r2,q2,w2⟩:=WQ 7 (zP (zI eqD (zI jF (zI qW (zH 1) (zA (.int 2))) (zA (.int 2))) (4:))) [.v (.int (n:Int)),.v (.int t),.v (.int c1),.v (.int c2),.v (.int F),.v (.lst ((srtI g1).map D.int)),.v (.lst (g2.map D.int)),.own (rows1.map rwD),x8,x9,x10] rows1 (decide (t/2%2=1)) o1 rfl (by simp)
 have m2':MapF rows2:=by
  rcases q2 with rfl | ⟨r,t,rfl,rfl⟩
  . exact m1'
  . exact RE m1'
 have fl:=yP rows2;refine⟨rows2,m2',by have:=am.1;omega,?_⟩;unfold gP;refine xO ?_;unfold mM;have ar:args 11 [.int (n:Int),.int t,.int c1,.int c2]=[.v (.int (n:Int)),.v (.int t),.v (.int c1),.v (.int c2),.no,.no,.no,.no,.no,.no,.no]:=by simp[args]
 rw[ar]
 rw[qJ (ds':=[.v (.int (n:Int)),.v (.int t),.v (.int c1),.v (.int c2),.v (.int F),.no,.no,.no,.no,.no,.no]) (by
  generalize (10:Int) ^ 33=A at *
  simp[p1,p2])]
 have sr1:=sr [.no,.no,.no,.no,.no,.no];simp only[dZ,kL] at sr1
 rw[qJ (ds':=[.v (.int (n:Int)),.v (.int t),.v (.int c1),.v (.int c2),.v (.int F),.v (.lst ((srtI g1).map D.int)),.no,.no,.no,.no,.no]) (by
  rw[ES,vS];unfold MZ;rw[sr1]
  simp[is,g64])]
 have cv1:=cv [.v (.lst ((srtI g1).map D.int)),.no,.no,.no,.no,.no];simp only[dZ,kL] at cv1
 rw[qJ (ds':=[.v (.int (n:Int)),.v (.int t),.v (.int c1),.v (.int c2),.v (.int F),.v (.lst ((srtI g1).map D.int)),.v (.lst (g2.map D.int)),.no,.no,.no,.no]) (by
  rw[ES,vS,cv1];rfl)]
 generalize (srtI g1).map D.int=EL at *;generalize g2.map D.int=VL at *;rw[qJ (ds':=[.v (.int (n:Int)),.v (.int t),.v (.int c1),.v (.int c2),.v (.int F),.v (.lst EL),.v (.lst VL),.own [],.no,.no,.no]) (by simp)]
 rw[qJ (ds':=[.v (.int (n:Int)),.v (.int t),.v (.int c1),.v (.int c2),.v (.int F),.v (.lst EL),.v (.lst VL),.own (rows.map rwD),x8,x9,x10]) (by
  simp[ok,el])]
 simp only[cU,cT] at w1 w2;rw[qJ w1,qJ w2];simp[retXG,flatF,fl]
noncomputable def t3D(t:Int×Int×Int):D:=.lst [.int t.1,.int t.2.1,.int t.2.2]
theorem aCs{c:Int}(hc:intBits c<=1048576){A B:Int}(hA:divOk A)(hB:divOk B)(ts:List (Int×Int×Int))(hz:ts.length<1000)(A0 A1 x6 x7:Sl):∃t y6 y7,iJ [A0,A1,.v (.int A),.v (.int B),.own (ts.map t3D),.v (.int c),x6,x7]=some (.nx [A0,A1,.v (.int A),.v (.int B),.own ((ts++[t]).map t3D),.v (.int c),y6,y7]):=by
 have fA:∀x,qW (.int x) (.int A)=some (.int (x/A)):=fun x=>if_pos hA;have fB:∀x,qW (.int x) (.int B)=some (.int (x/B)):=fun x=>if_pos hB;have mA:∀x,jF (.int x) (.int A)=some (.int (x%A)):=fun x=>jR x hA.1;have mB:∀x,jF (.int x) (.int B)=some (.int (x%B)):=fun x=>jR x hB.1;obtain⟨m,m0,m1,em⟩:=AK c hc
 obtain⟨s,hs,es⟩:∃s:Int,intBits s<=1048576/\(ifG (zP (zI eqD (zH 6) (zA (.int 0)))) (jU 6 (qG 1 fM (zE (zH 5) zZ))) qH) [A0,A1,.v (.int A),.v (.int B),.own (ts.map t3D),.v (.int c),.v (.int (c/A)),x7]=some (.nx [A0,A1,.v (.int A),.v (.int B),.own (ts.map t3D),.v (.int c),.v (.int s),x7]):=by
  by_cases h:c/A=0
  . exact⟨m,YD m0 m1,by simp[h,em]⟩
  . exact⟨c/A,MJ (rP hA.1) hc,by simp[h]⟩
 obtain⟨m',_,_,em'⟩:=AK s hs
 obtain⟨u,eu⟩:∃u:Int,(ifG (zP (zI eqD (zH 7) (zA (.int 0)))) (jU 7 (qG 1 fM (zE (zH 6) zZ))) qH) [A0,A1,.v (.int A),.v (.int B),.own (ts.map t3D),.v (.int c),.v (.int s),.v (.int (s/B))]=some (.nx [A0,A1,.v (.int A),.v (.int B),.own (ts.map t3D),.v (.int c),.v (.int s),.v (.int u)]):=by
  by_cases h:s/B=0
  . exact⟨m',by simp[h,em']⟩
  . exact⟨s/B,by simp[h]⟩
 have zl:(ts.map t3D).length<16777216:=by rw[aS];omega
 refine⟨(c%A,s%B,u),.v (.int s),.v (.int u),?_⟩;unfold iJ;rw[qJ (ds':=[A0,A1,.v (.int A),.v (.int B),.own (ts.map t3D),.v (.int c),.v (.int (c/A)),x7]) (by simp[fA]),qJ es,qJ (ds':=[A0,A1,.v (.int A),.v (.int B),.own (ts.map t3D),.v (.int c),.v (.int s),.v (.int (s/B))]) (by simp[fB]),qJ eu];rw[bN];generalize ts.map t3D=TL at *;simp[mA,mB,zl,t3D]
theorem PP{A B:Int}(hA:divOk A)(hB:divOk B)(A0 A1:Sl):∀(cs:List Int) (ts:List (Int×Int×Int)) (x5 x6 x7:Sl),(∀c∈cs,intBits c<=1048576)->ts.length+cs.length<=1000->∃(ts':List (Int×Int×Int)) (y5 y6 y7:Sl),ts'.length=ts.length+cs.length ∧
  qZ (zU 5) iJ (cs.map D.int) [A0,A1,.v (.int A),.v (.int B),.own (ts.map t3D),x5,x6,x7]=some (.nx [A0,A1,.v (.int A),.v (.int B),.own (ts'.map t3D),y5,y6,y7])
 |[],ts,x5,x6,x7,_,_=>⟨ts,_,_,_,rfl,rfl⟩
 | c :: cs, ts, x5, x6, x7, h, hl => by
   simp only[aJ] at hl;obtain⟨t,y6,y7,e⟩:=aCs (h c aN) hA hB ts (by omega) A0 A1 x6 x7;obtain⟨ts',z5,z6,z7,l,e'⟩:=PP hA hB A0 A1 cs (ts++[t]) (.v (.int c)) y6 y7 (fun x hx=>h x (aG _ hx)) (by simp;omega);refine⟨ts',z5,z6,z7,by simp at l ⊢;omega,?_⟩;simp only[aO,qZ,vB,aH,cU,cT,e];exact e'
theorem KU(cs:List Int)(h:∀c∈cs,intBits c<=1048576)(hl:cs.length<=63)(w:Int):∃ts:List (Int×Int×Int),ts.length<=cs.length/\fH [.lst (cs.map D.int),.int w]=some (.any (.lst (ts.map t3D))):=by
 have sz:sizeLine=16777216:=rfl
 by_cases hw:w=0
 . subst hw
   obtain⟨ts,tl,te⟩:∃ts:List (Int×Int×Int),ts.length=cs.length/3/\compL (zU 0) (fun _=>some true) (mkL (sliA (zH 1) (soP (zI yV (zA (.int 3)) (zH 0))) (soP (zI yF (zI yV (zA (.int 3)) (zH 0)) (zA (.int 3)))))) [.no,.v (.lst (cs.map D.int))] (fC 0 (cs.length/3))=some (ts.map t3D):=by
    refine⟨(List.range (cs.length/3)).map fun k=>(cs.getD (3*k) 0,cs.getD (3*k+1) 0,cs.getD (3*k+2) 0),by simp,?_⟩;rw[fC,dX];refine xC _ _ _ fun k hk=>⟨[.v (.int (0+(k:Int))),.v (.lst (cs.map D.int))],by simp,?_⟩
    have hk:=oK.mp hk;have m3:=yJ (i:=3) (j:=(k:Int)) (by omega) (by omega);have c3:=cut3 cs k (by omega)
    have e:t3D (cs.getD (3*k) 0,cs.getD (3*k+1) 0,cs.getD (3*k+2) 0)=.lst [.int (cs[3*k]'(by omega)),.int (cs[3*k+1]'(by omega)),.int (cs[3*k+2]'(by omega))]:=by
     simp[t3D,List.getD_eq_getElem?_getD,bI (show 3*k<cs.length by omega),bI (show 3*k+1<cs.length by omega),bI (show 3*k+2<cs.length by omega)]
    show _=some (t3D _);rw[e];generalize cs.map D.int=CL at *;simp[m3,c3]
   refine⟨ts,by omega,?_⟩;have ok:okR ((cs.length/3:Nat):Int):=xQ (by omega) (by omega);have dv:qW (.int (cs.length:Int)) (.int 3)=some (.int ((cs.length/3:Nat):Int)):=by simp
   have cm:compG (rng1 (zI qW (callB lenD (zE (zH 0) zZ)) (zA (.int 3)))) [none,some 0] (zU 0) (fun _=>some true) (mkL (sliA (zH 1) (soP (zI yV (zA (.int 3)) (zH 0))) (soP (zI yF (zI yV (zA (.int 3)) (zH 0)) (zA (.int 3)))))) [.v (.lst (cs.map D.int)),.v (.int 0),.no,.no,.no,.no,.no,.no]=some (ts.map t3D):=by
    refine jY (items:=fC 0 (cs.length/3)) ?_ (by simp[fC];omega) te;have ln:lenD [.lst (cs.map D.int)]=some (.int (cs.length:Int)):=by simp
    generalize cs.map D.int=CL at *;simp only[rng1,YE,SH,IJ,NK,FF,RM,cC,aH,ln,cF,dv];rw[if_pos ok,aCn]
   have ar:args 8 [.lst (cs.map D.int),.int 0]=[.v (.lst (cs.map D.int)),.v (.int 0),.no,.no,.no,.no,.no,.no]:=by simp[args]
   refine xO ?_;unfold kP;rw[ar];refine aDe ?_;rw[BY (by simp)];unfold retAG;rw[vS,cm];rfl
 . have p60 : powD (.int 10) (.int 60) = some (.int (10 ^ 60)) := pow10 (by decide) (by decide);have ma:yV (.int 2) (.int (10 ^ 60))=some (.int (2 * 10 ^ 60)):=yU (.of_left (jO (by decide)));have mb:yV (.int 240) (.int (2 * 10 ^ 60+1))=some (.int (240 * (2 * 10 ^ 60+1))):=yU (.of_left (jO (by decide)));have mc:yV (.int 3) (.int (2 * 10 ^ 60+1))=some (.int (3 * (2 * 10 ^ 60+1))):=yU (.of_left (jO (by decide)));have hA:divOk (240 * (2 * 10 ^ 60+1)):=⟨by decide,by decide +kernel⟩
   have hB:divOk (3*(2*10 ^ 60+1)):=⟨by decide,by decide +kernel⟩
   obtain⟨ts,y5,y6,y7,l,e⟩:=PP hA hB (.v (.lst (cs.map D.int))) (.v (.int w)) cs [] .no .no .no h (by simp;omega);refine⟨ts,by simp at l;omega,?_⟩;simp only[cH] at e;have zl:(cs.map D.int).length<=16777216:=by rw[aS];omega
   have ar:args 8 [.lst (cs.map D.int),.int w]=[.v (.lst (cs.map D.int)),.v (.int w),.no,.no,.no,.no,.no,.no]:=by simp[args]
   refine xO ?_;unfold kP;rw[ar];generalize cs.map D.int=CL at *;rw[qJ (ds':=[.v (.lst CL),.v (.int w),.no,.no,.no,.no,.no,.no]) (by rw[wY (by simp[hw])];simp)];generalize hA':(240:Int)*(2*10 ^ 60+1)=A at *;generalize hB':(3:Int)*(2*10 ^ 60+1)=B at *;generalize (10:Int) ^ 60=P at *;rw[qJ (ds':=[.v (.lst CL),.v (.int w),.v (.int A),.no,.no,.no,.no,.no]) (by simp[p60,ma,mb])];rw[qJ (ds':=[.v (.lst CL),.v (.int w),.v (.int A),.v (.int B),.no,.no,.no,.no]) (by simp[p60,ma,mc])];rw[qJ (ds':=[.v (.lst CL),.v (.int w),.v (.int A),.v (.int B),.own [],.no,.no,.no]) (by simp)];rw[qJ (ds':=[.v (.lst CL),.v (.int w),.v (.int A),.v (.int B),.own (ts.map t3D),y5,y6,y7]) (by rw[NV];simpa[zl] using e)];rfl
theorem aGw(ns:List Int)(hl:ns.length<=63)(hb:∀c∈ns,intBits c<=1048576)(sd:Int)(w:Int)(hw:w=0\/w=1):∃(ps:List Rw) (ts:List (Int×Int×Int)),MapF ps/\ps.length<=8/\ts.length<=62/\fD [.lst (ns.map D.int),.int sd,.int w]=some (.any (.tup [.lst (ps.map rwD),.lst (ts.map t3D)])):=by
 rcases hw with rfl | rfl
 . obtain ⟨k, hk⟩ : ∃ k : Nat, (k : Int) = sd / 8 % 5 := ⟨(sd / 8 % 5).toNat, by omega⟩
   have k5:k<=4:=by omega
   obtain⟨cs,l1,l2,b1,e1⟩:=CO ns hb 1 (1+k);obtain⟨cs2,l3,l4,b2,e2⟩:=CO ns hb (1+k) (121+k)
   have l5:cs2.length<=62:=by
    have:cs2.length+(1+k)<=ns.length\/cs2=[]:=by
     by_cases hz:cs2=[]
     . exact .inr hz
     . left;have q:=congrArg List.length e2;rw [aS] at q;unfold FL.cutD at q;rw [fN,pW,aS] at q;have s1:HT.sIx ns.length 0 (some ((1+k:Nat):Int))=min (1+k) ns.length:=by simp [HT.sIx,show ¬ (1+(k:Int) < 0) by omega]; omega
       rw[s1] at q;have:0<cs2.length:=List.length_pos_iff.mpr hz;omega
    rcases this with q | q
    . omega
    . rw[q];simp
   obtain⟨ps,m,pl,pe⟩:=map3_ex cs b1 (by omega);obtain⟨ts,tl,te⟩:=KU cs2 b2 (by omega) 0;refine⟨ps,ts,m,by omega,by omega,?_⟩;have e1':FL.cutD (ns.map D.int) (some 1) (some (1+(k:Int)))=cs.map D.int:=by simpa using e1
   have e2':FL.cutD (ns.map D.int) (some (1+(k:Int))) (some (121+(k:Int)))=cs2.map D.int:=by simpa using e2
   unfold fD runG mE;generalize ns.map D.int=N at *;generalize cs.map D.int=C1 at *;generalize cs2.map D.int=C2 at *;generalize ps.map rwD=P at *;generalize ts.map t3D=T at *;simp[args,<- hk,e1',e2',pe,te,retV,callA,retA,retAG]
 . obtain ⟨k, hk⟩ : ∃ k : Nat, (k : Int) = sd / 80 % 9 := ⟨(sd / 80 % 9).toNat, by omega⟩
   obtain⟨ps,m,pl,pe⟩:=VB k (by omega) (sd/720) (cel ns 1) (cel ns 2) (MK hb 1) (MK hb 2);obtain⟨cs2,l3,l4,b2,e2⟩:=CO ns hb 3 60;obtain⟨ts,tl,te⟩:=KU cs2 b2 (by omega) 1;have c1:dQ [.lst (ns.map D.int),.int 1]=some (.val (.int (cel ns 1))):=OK ns 1;have c2:dQ [.lst (ns.map D.int),.int 2]=some (.val (.int (cel ns 2))):=OK ns 2;refine⟨ps,ts,m,pl,by omega,?_⟩;have e2':FL.cutD (ns.map D.int) (some 3) (some 60)=cs2.map D.int:=e2;unfold fD runG mE;generalize ns.map D.int=N at *;generalize cs2.map D.int=C2 at *;generalize ps.map rwD=P at *;generalize ts.map t3D=T at *;simp[args,<- hk,e2',pe,te,c1,c2,retV,callA,retA,retAG]
theorem XD(rs:List R3)(ps:List Rw){k:Nat}(h:k<=rs.length)(r:R3):lnM (psR (rs.take k++[r]) ps) (mkR (rs.take k++[r]) []) (erl rs ps k++[stM (psR (rs.take k) ps) (mkR (rs.take k) [])]) []=lnR (rs.take k++[r]) ps (k+1):=by
 have lt:(rs.take k).length=k:=by rw[fN];omega
 have t1:(rs.take k++[r]).take (k+1)=rs.take k++[r]:=lF (by simp;omega)
 have ti:∀i,i<=k->(rs.take k++[r]).take i=rs.take i:=fun i hi=>by
  rw[List.take_append_of_le_length (by omega),List.take_take,Nat.min_eq_left hi]
 have e1:erl (rs.take k++[r]) ps k=erl rs ps k:=by
  unfold erl;refine iH fun i hi=>?_;rw[ti i (CY (oK.mp hi))]
 have e2:ltr (rs.take k++[r]) ps (k+1)=[]:=by
  unfold ltr;rw[show(rs.take k++[r]).length-(k+1)=0 by simp;omega];rfl
 unfold lnR;rw[t1,IF,e1,e2,ti k (aU _)]
theorem PX(rs:List R3)(k:Nat)(h:k<=rs.length):FL.cutD (rs.map r3D) none (some (k:Int))=(rs.take k).map r3D:=by
 have e2:HT.sIx (rs.map r3D).length (rs.map r3D).length (some (k:Int))=k:=by simp[HT.sIx,show ¬((k:Int)<0) by omega];omega
 have e1:HT.sIx (rs.map r3D).length 0 none=0:=rfl;unfold FL.cutD;rw[e1,e2,List.drop_zero,Nat.sub_zero,uK]
structure k6St(n:Nat)(rs:List R3)(k:Nat)(known:List Int):Prop where
 ok:∀r∈rs,okR3' r
 len:rs.length<=n
 at':k<=rs.length
 kn:known.length<=16+2*n
theorem ps_ok{rs:List R3}(h:∀r∈rs,okR3' r)(hl:rs.length<=100){ps:List Rw}(m:MapF ps)(hp:ps.length<=8):MapF (psR rs ps)/\(psR rs ps).length<=50000:=by
 have dk:∀d∈(eL rs).reverse,okD d:=fun d hd=>CK h d (dL.mp hd);rw[vQ];refine⟨wZ _ dk m,?_⟩;have h1:=FW _ dk m
 have h2:∀l:List R3,(eL l).length<=l.length:=fun l=>by
  induction l with
  |nil=>exact aU _
  |cons r l ih=>cases r<;>simp[eL]<;>omega
 have:=h2 rs;rw[cZ] at h1;omega
theorem erl_len(rs:List R3)(ps:List Rw)(k:Nat):(erl rs ps k).length=k:=by simp[erl]
theorem aFo{n:Nat}(hn:n<62){ps:List Rw}(m:MapF ps)(hp:ps.length<=8){rs:List R3}{k:Nat}{known:List Int}(s:k6St n rs k known)(N T:Sl)(sd a b c:Int)(x11 x12:Sl) :
  ∃(rs':List R3) (k':Nat) (known':List Int) (y11:Sl),k6St (n+1) rs' k' known' ∧
   nM [N,.v (.int sd),.v (.lst (ps.map rwD)),T,.ob none (lnR rs ps k),.v (.lst (known.map D.int)),.v (.lst (rs.map r3D)),.v (.int (k:Int)),.v (.int a),.v (.int b),.v (.int c),x11,x12]
    = some (.nx [N,.v (.int sd),.v (.lst (ps.map rwD)),T,.ob none (lnR rs' ps k'),.v (.lst (known'.map D.int)),.v (.lst (rs'.map r3D)),.v (.int (k':Int)),.v (.int a),.v (.int b),.v (.int c),y11,x12]):=by
 obtain⟨ok,len,at',kn⟩:=s;have tok:∀r∈rs.take k,okR3' r:=fun r hr=>ok r (mZ hr);have tl:(rs.take k).length=k:=by rw[fN];omega
 by_cases h4:a%6<4
 . obtain ⟨d, hd, ed⟩ := row3_ex (a / 6) b c known (by omega);obtain ⟨nm,hnm,enm⟩:=name_ex sd b;obtain ⟨pl,epl⟩:=BQ c known (by omega);obtain ⟨pm,pl2⟩:=ps_ok tok (by omega) m hp;have mo:=GU (rs.take k) tok MkOk.nil;have ml:=AJ (rs.take k) [];simp only [dH] at ml;have es:(erl rs ps k).length < sizeLine:=by rw [erl_len]; exact dG (show k<=1000 by omega) (by decide)
   have tm:=PX rs k at';have cat:∀r:R3,(rs.take k).map r3D++[r3D r]=(rs.take k++[r]).map r3D:=fun r=>by simp
   have zl:((rs.take k).map r3D).length+1<=16777216:=by rw[aS];omega
   obtain⟨r,hr,er⟩:∃r:R3,okR3' r/\(qB (jU 11 (qG 4 nJ (zE (zI qW (zH 8) (zA (.int 6))) (zE (zH 9) (zE (zH 10) (zE (zH 5) zZ))))))
     (ifG (zP (zI eqD (zI jF (zH 8) (zA (.int 6))) (zA (.int 3)))) (qB (jU 11 (mkT (qK (zE (zA (.str "mark")) (zE (qG 2 nK (zE (zH 1) (zE (zH 9) zZ))) (zE (qG 2 eM (zE (zH 10) (zE (zH 5) zZ))) zZ))))))
 (lentG 2 [11] (fun _=>eB) (varP 4) (zE (zI ixD (zH 11) (4:)) (zE (zI ixD (zH 11) (zA (.int 2))) zZ)))) (lentG 1 [11] (fun _=>eY) (varP 4) (zE (qG 1 mC (zE (zH 11) zZ)) zZ)))) [N,.v (.int sd),.v (.lst (ps.map rwD)),T,.ob none (lnR rs ps k),.v (.lst (known.map D.int)),.v (.lst (rs.map r3D)),.v (.int (k:Int)),.v (.int a),.v (.int b),.v (.int c),x11,x12]
     = some (.nx [N,.v (.int sd),.v (.lst (ps.map rwD)),T,.ob none (lnR (rs.take k++[r]) ps (k+1)),.v (.lst (known.map D.int)),.v (.lst (rs.map r3D)),.v (.int (k:Int)),.v (.int a),.v (.int b),.v (.int c),.v (r3D r),x12]):=by
    obtain⟨U,hU⟩:∃U,lnR rs ps k=.ins 11 U:=⟨_,rfl⟩
    by_cases h3:a%6=3
    . refine⟨.mark nm pl, hnm, ?_⟩;have mm:=markM hnm (ps:=psR (rs.take k) ps) (mk:=mkR (rs.take k) []) (es:=erl rs ps k) (ls:=ltr rs ps k) (some pl) es (dG (show(mkR (rs.take k) []).length<=1000 by omega) (by decide));have ln:=XD rs ps at' (.mark nm pl);rw[QP,QY] at ln;simp only at ln;rw[ln] at mm;have mm':eB (lnR rs ps k) [.str (txS nm),.int pl]=some (lnR (rs.take k++[.mark nm pl]) ps (k+1)):=mm;rw[hU] at mm' ⊢;generalize lnR (rs.take k++[.mark nm pl]) ps (k+1)=L' at *;generalize known.map D.int=KL at *;generalize rs.map r3D=RL at *;generalize ps.map rwD=PL at *;rw[qJ (ds':=[N,.v (.int sd),.v (.lst PL),T,.ob none (.ins 11 U),.v (.lst KL),.v (.lst RL),.v (.int (k:Int)),.v (.int a),.v (.int b),.v (.int c),.v (told3 d),x12]) (by simp[ed])];rw[BY (by simp[h3])];rw[qJ (ds':=[N,.v (.int sd),.v (.lst PL),T,.ob none (.ins 11 U),.v (.lst KL),.v (.lst RL),.v (.int (k:Int)),.v (.int a),.v (.int b),.v (.int c),.v (r3D (.mark nm pl)),x12]) (by simp[enm,epl,r3D])];simp[lentG,varP,r3D,mm',putP,putO]
    . refine⟨.deed d, hd, ?_⟩;have dm:=doM hd pm pl2 mo (es:=erl rs ps k) (ls:=ltr rs ps k) es (cL (show(mkR (rs.take k) []).length<=1000 by omega) (by decide));have ln:=XD rs ps at' (.deed d);rw[QP,QY] at ln;simp only at ln;rw[ln] at dm;have dm':eY (lnR rs ps k) [insD d]=some (lnR (rs.take k++[.deed d]) ps (k+1)):=dm;have ma:=aFl d hd;rw[hU] at dm' ⊢;simp only[r3D];generalize lnR (rs.take k++[.deed d]) ps (k+1)=L' at *;generalize known.map D.int=KL at *;generalize rs.map r3D=RL at *;generalize ps.map rwD=PL at *;generalize told3 d=TD at *;generalize insD d=ID at *;rw[qJ (ds':=[N,.v (.int sd),.v (.lst PL),T,.ob none (.ins 11 U),.v (.lst KL),.v (.lst RL),.v (.int (k:Int)),.v (.int a),.v (.int b),.v (.int c),.v TD,x12]) (by simp[ed])];rw[wY (by simp[h3])];simp[lentG,varP,ma,dm',putP,putO]
   obtain⟨known',kl,ek⟩:=NR known (by omega) hr;refine⟨rs.take k++[r],k+1,known',.v (r3D r),⟨fun x hx=>?_,by simp;omega,by simp;omega,by omega⟩,?_⟩
   . rcases bJ.mp hx with q | q
     . exact tok x q
     . rw[bA.mp q];exact hr
   . unfold nM;rw [BY (by simp [h4])]
     have as:∀(f g h:FS) (ds:List Sl),qB f (qB g h) ds=qB (qB f g) h ds:=fun f g h ds=>by
      unfold qB;cases f ds with
      |none=>rfl
      |some o=>cases o<;>rfl
     rw[as,qJ er];have ca:=cat r;rw[<- ca];generalize lnR (rs.take k++[r]) ps (k+1)=L' at *;generalize known.map D.int=KL at *;generalize known'.map D.int=KL' at *;generalize (rs.take k).map r3D=TL at *;generalize rs.map r3D=RL at *;generalize ps.map rwD=PL at *;generalize r3D r=RD at *;rw[qJ (ds':=[N,.v (.int sd),.v (.lst PL),T,.ob none L',.v (.lst KL),.v (.lst (TL++[RD])),.v (.int (k:Int)),.v (.int a),.v (.int b),.v (.int c),.v RD,x12]) (by simp[tm,zl])];rw[qJ (ds':=[N,.v (.int sd),.v (.lst PL),T,.ob none L',.v (.lst KL),.v (.lst (TL++[RD])),.v (.int ((k:Int)+1)),.v (.int a),.v (.int b),.v (.int c),.v RD,x12]) (by simp[augA])];simp[ek,retV]
 . unfold nM;rw [wY (by simp; omega)]
   by_cases c4:a%6=4/\0<k
   . obtain ⟨k', rfl⟩ : ∃ k', k = k' + 1 := ⟨k - 1, by omega⟩
     have bk:=backR rs ps (k:=k') (by omega) (by omega);obtain⟨U,hU⟩:∃U,lnR rs ps (k'+1)=.ins 11 U:=⟨_,rfl⟩
     refine⟨rs,k',known,x11,⟨ok,by omega,by omega,by omega⟩,?_⟩;rw[hU] at bk ⊢;generalize lnR rs ps k'=L' at *;generalize known.map D.int=KL at *;generalize rs.map r3D=RL at *;generalize ps.map rwD=PL at *;rw[BY (by simp[c4.1])];rw[qJ (ds':=[N,.v (.int sd),.v (.lst PL),T,.ob none L',.v (.lst KL),.v (.lst RL),.v (.int ((k'+1:Nat):Int)),.v (.int a),.v (.int b),.v (.int c),x11,x12]) (by simp[lentG,varP,bk,putP,putO])];simp[augS]
   . have t4:(andT (zP (zI eqD (zI jF (zH 8) (zA (.int 6))) (zA (.int 4)))) (zP (zI gtD (zH 7) (zA (.int 0))))) [N,.v (.int sd),.v (.lst (ps.map rwD)),T,.ob none (lnR rs ps k),.v (.lst (known.map D.int)),.v (.lst (rs.map r3D)),.v (.int (k:Int)),.v (.int a),.v (.int b),.v (.int c),x11,x12]=some false:=by
      by_cases q:a%6=4
      . have : ¬(0<k):= fun z => c4 ⟨q, z⟩;simp[q];omega
      . simp[q]
     rw[wY t4];have ln:lenD [.lst (rs.map r3D)]=some (.int (rs.length:Int)):=by simp
     by_cases c5:a%6=5/\k<rs.length
     . have ag := againR rs ps (k := k) c5.2 (by omega);obtain ⟨U,hU⟩:∃ U,lnR rs ps k = .ins 11 U:=⟨_,rfl⟩
       have lt:(k:Int)<(rs.length:Int):=by omega
       refine⟨rs,k+1,known,x11,⟨ok,by omega,by omega,by omega⟩,?_⟩;rw[hU] at ag ⊢;generalize lnR rs ps (k+1)=L' at *;generalize known.map D.int=KL at *;generalize rs.map r3D=RL at *;generalize ps.map rwD=PL at *;rw[BY (by simp[c5.1,ln,lt])];rw[qJ (ds':=[N,.v (.int sd),.v (.lst PL),T,.ob none L',.v (.lst KL),.v (.lst RL),.v (.int (k:Int)),.v (.int a),.v (.int b),.v (.int c),x11,x12]) (by simp[lentG,varP,ag,putP,putO])];simp[augA]
     . refine ⟨rs, k, known, x11, ⟨ok, by omega, at', by omega⟩, ?_⟩;generalize lnR rs ps k=L at *;generalize known.map D.int=KL at *;generalize hRL:rs.map r3D=RL at *;generalize ps.map rwD=PL at *;rw [wY]
       . simp
       . by_cases q : a % 6 = 5
         . have : ¬((k : Int)<(rs.length : Int)):= fun z => c5 ⟨q, by omega⟩;simp[q,ln,this]
         . simp[q]
theorem RJ{ps:List Rw}(m:MapF ps)(hp:ps.length<=8)(N T:Sl)(sd:Int)(x12:Sl):∀(ts:List (Int×Int×Int)) (n:Nat) (rs:List R3) (k:Nat) (known:List Int) (x8 x9 x10 x11:Sl),n+ts.length<=62->k6St n rs k known →
  ∃(rs':List R3) (k':Nat) (known':List Int) (y8 y9 y10 y11:Sl),k6St 62 rs' k' known' ∧
   qZ (lstG 3 (zY (zU 8) (zY (zU 9) (zY (zU 10) tgNil)))) nM (ts.map t3D) [N,.v (.int sd),.v (.lst (ps.map rwD)),T,.ob none (lnR rs ps k),.v (.lst (known.map D.int)),.v (.lst (rs.map r3D)),.v (.int (k:Int)),x8,x9,x10,x11,x12]
    = some (.nx [N,.v (.int sd),.v (.lst (ps.map rwD)),T,.ob none (lnR rs' ps k'),.v (.lst (known'.map D.int)),.v (.lst (rs'.map r3D)),.v (.int (k':Int)),y8,y9,y10,y11,x12])
 |[],n,rs,k,known,x8,x9,x10,x11,h,s=>⟨rs,k,known,_,_,_,_,⟨s.ok,by have:=s.len;simp at h;omega,s.at',by have:=s.kn;simp at h;omega⟩,rfl⟩
 | t :: ts, n, rs, k, known, x8, x9, x10, x11, h, s => by
   simp only[aJ] at h;obtain⟨rs',k',known',y11,s',e⟩:=aFo (by omega) m hp s N T sd t.1 t.2.1 t.2.2 x11 x12;obtain⟨rs2,k2,known2,z8,z9,z10,z11,s2,e2⟩:=RJ m hp N T sd x12 ts (n+1) rs' k' known' (.v (.int t.1)) (.v (.int t.2.1)) (.v (.int t.2.2)) y11 (by omega) s';refine⟨rs2,k2,known2,z8,z9,z10,z11,s2,?_⟩;rw[aO,qZ];have g:∀(A5 A6:List D) (L:OT) (K:Int) (P:List D),lstG 3 (zY (zU 8) (zY (zU 9) (zY (zU 10) tgNil))) (t3D t) [N,.v (.int sd),.v (.lst P),T,.ob none L,.v (.lst A5),.v (.lst A6),.v (.int K),x8,x9,x10,x11,x12]=some [N,.v (.int sd),.v (.lst P),T,.ob none L,.v (.lst A5),.v (.lst A6),.v (.int K),.v (.int t.1),.v (.int t.2.1),.v (.int t.2.2),x11,x12]:=fun _ _ _ _ _=>by simp[lstG,t3D]
   rw[g,aH,e,aH];exact e2
theorem run_law(ns:List Int)(hl:ns.length<=63)(hb:∀c∈ns,intBits c<=1048576):BA [.lst (ns.map D.int)]=some (.val (.bl true)):=by
 have sz:sizeLine=16777216:=rfl;have c0:dQ [.lst (ns.map D.int),.int 0]=some (.val (.int (cel ns 0))):=OK ns 0;generalize cel ns 0=sd at *;obtain⟨ps,ts,m,hp,tl,be⟩:=aGw ns hl hb sd (sd/40%2) (by omega);obtain⟨kn0,kl0,ke0⟩:=XX ps (by omega);have in0:dS (.ins 20 []) [.lst (ps.map rwD)]=some (lnR [] ps 0):=aFt;obtain⟨rs,k,known,y8,y9,y10,y11,s,el⟩:=RJ m hp (.v (.lst (ns.map D.int))) (.v (.lst (ts.map t3D))) sd .no ts 0 [] 0 kn0 .no .no .no .no (by omega) ⟨(fun _ h=>nomatch h),by simp,by simp,by omega⟩;obtain⟨ok,len,at',kn⟩:=s;have tok:∀r∈rs.take k,okR3' r:=fun r hr=>ok r (mZ hr);have tlen:(rs.take k).length=k:=by rw[fN];omega
 have tm:=PX rs k at'
 obtain⟨cs,csl,cse⟩:∃cs:List Int,cs.length<=63/\FL.cutD (ns.map D.int) (some (-16)) none=cs.map D.int :=
  ⟨(ns.drop (HT.sIx ns.length 0 (some (-16)))).take (HT.sIx ns.length ns.length none-HT.sIx ns.length 0 (some (-16))),by rw[fN,pW];omega,by unfold FL.cutD;rw[aS,uK,MU]⟩
 obtain⟨qs,ql,qe⟩:∃qs:List Int,qs.length=cs.length/\compL (zU 0) (fun _=>some true) (qG 2 eM (zE (zH 0) (zE (zH 1) zZ))) [.no,.v (.lst (known.map D.int))] (cs.map D.int)=some (qs.map D.int):=by
  clear cse csl
  induction cs with
  |nil=>exact⟨[],rfl,rfl⟩
  | cons x cs ih =>
    obtain⟨qs,l,e⟩:=ih;obtain⟨q,eq⟩:=BQ x known (by omega);refine⟨q::qs,by simp[l],?_⟩;rw[aO,compL];generalize known.map D.int=KL at *;simp[eq,e]
 have cp:∀ds:List Sl,compG (viaA (mkL (sliA (zH 0) (soP (un1 negD (zA (.int 16)))) noP)) asLT) [none,some 5] (zU 0) (fun _=>some true) (qG 2 eM (zE (zH 0) (zE (zH 1) zZ))) ([.v (.lst (ns.map D.int)),.v (.int sd),.v (.lst (ps.map rwD)),.v (.lst (ts.map t3D)),.ob none (lnR rs ps k),.v (.lst (known.map D.int))]++ds)=some (qs.map D.int):=fun ds =>
  jY (items:=cs.map D.int) (by
   generalize ns.map D.int=NL at *;generalize cs.map D.int=CL at *
   simp[cse]) (by simp;omega) qe
 have ct:known.map D.int++qs.map D.int=(known++qs).map D.int:=(bN).symm;have zc:(known.map D.int).length+(qs.map D.int).length<=16777216:=by rw[aS,aS];omega
 have ts':=TF tok (by omega) m (by omega) (mkR (rs.take k) []) (erl rs ps k) (ltr rs ps k) (known++qs) (by rw[bP];omega);have sp:=aCz (rs.take k) tok (by omega);have mo:=GU (rs.take k) tok MkOk.nil;have ml:=AJ (rs.take k) [];simp only[dH] at ml;have sn:=YX mo (by omega) (psR (rs.take k) ps) (erl rs ps k) (ls:=ltr rs ps k) (sd%2);have ts2:fS [otD (lnR rs ps k),.lst ((rs.take k).map r3D),.lst (ps.map rwD),.lst (known.map D.int++qs.map D.int)]=some (.val (.bl true)):=by rw[ct];exact ts'
 have sn2:gO [otD (lnR rs ps k),otD (mkO (mkR (rs.take k) [])),.int (sd%2)]=some (.val (.bl true)):=sn;have zt:(ts.map t3D).length<=16777216:=by rw[aS];omega
 refine xO ?_;unfold AZ;have ar:args 13 [.lst (ns.map D.int)]=[.v (.lst (ns.map D.int)),.no,.no,.no,.no,.no,.no,.no,.no,.no,.no,.no,.no]:=by simp[args]
 rw[ar];simp only[cH] at el
 rw[qJ (ds':=[.v (.lst (ns.map D.int)),.v (.int sd),.no,.no,.no,.no,.no,.no,.no,.no,.no,.no,.no]) (by
  generalize ns.map D.int=NL at *
  simp[c0])]
 rw[qJ (ds':=[.v (.lst (ns.map D.int)),.v (.int sd),.v (.lst (ps.map rwD)),.v (.lst (ts.map t3D)),.no,.no,.no,.no,.no,.no,.no,.no,.no]) (by
  generalize ns.map D.int=NL at *;generalize ps.map rwD=PL at *;generalize ts.map t3D=TL at *
  simp[be,callA,retA])]
 rw[qJ (ds':=[.v (.lst (ns.map D.int)),.v (.int sd),.v (.lst (ps.map rwD)),.v (.lst (ts.map t3D)),.ob none (lnR [] ps 0),.no,.no,.no,.no,.no,.no,.no,.no]) (by
  generalize lnR [] ps 0=L0 at *;generalize ps.map rwD=PL at *
  simp[makeO,setB,in0])]
 rw[qJ (ds':=[.v (.lst (ns.map D.int)),.v (.int sd),.v (.lst (ps.map rwD)),.v (.lst (ts.map t3D)),.ob none (lnR [] ps 0),.v (.lst (kn0.map D.int)),.no,.no,.no,.no,.no,.no,.no]) (by
  generalize lnR [] ps 0=L0 at *;generalize ps.map rwD=PL at *;generalize kn0.map D.int=KL at *
  simp[ke0,retV])]
 rw[qJ (ds':=[.v (.lst (ns.map D.int)),.v (.int sd),.v (.lst (ps.map rwD)),.v (.lst (ts.map t3D)),.ob none (lnR [] ps 0),.v (.lst (kn0.map D.int)),.v (.lst []),.no,.no,.no,.no,.no,.no]) (by
  generalize lnR [] ps 0=L0 at *
  simp)]
 rw[qJ (ds':=[.v (.lst (ns.map D.int)),.v (.int sd),.v (.lst (ps.map rwD)),.v (.lst (ts.map t3D)),.ob none (lnR [] ps 0),.v (.lst (kn0.map D.int)),.v (.lst []),.v (.int 0),.no,.no,.no,.no,.no]) (by
  generalize lnR [] ps 0=L0 at *
  simp)]
 rw[qJ (ds':=[.v (.lst (ns.map D.int)),.v (.int sd),.v (.lst (ps.map rwD)),.v (.lst (ts.map t3D)),.ob none (lnR rs ps k),.v (.lst (known.map D.int)),.v (.lst (rs.map r3D)),.v (.int (k:Int)),y8,y9,y10,y11,.no]) (by
  rw[<- el];generalize lnR [] ps 0=L0 at *;generalize ts.map t3D=TL at *
  simp[forG,zt])]
 have cp1:=cp [.v (.lst (rs.map r3D)),.v (.int (k:Int)),y8,y9,y10,y11,.no];simp only[dZ,kL] at cp1
 rw[qJ (ds':=[.v (.lst (ns.map D.int)),.v (.int sd),.v (.lst (ps.map rwD)),.v (.lst (ts.map t3D)),.ob none (lnR rs ps k),.v (.lst (known.map D.int)),.v (.lst (rs.map r3D)),.v (.int (k:Int)),y8,y9,y10,y11,.v (.lst (known.map D.int++qs.map D.int))]) (by
  rw[ES,vS];unfold catA;simp only[FF,cJ,cC,aH,vS,cp1,cF];rw[if_pos (by rw[sz];exact zc)]
  simp)]
 clear cp cp1 el;have r4:relO 4 [.v (.lst (ns.map D.int)),.v (.int sd),.v (.lst (ps.map rwD)),.v (.lst (ts.map t3D)),.ob none (lnR rs ps k),.v (.lst (known.map D.int)),.v (.lst (rs.map r3D)),.v (.int (k:Int)),y8,y9,y10,y11,.v (.lst (known.map D.int++qs.map D.int))]=[.v (.lst (ns.map D.int)),.v (.int sd),.v (.lst (ps.map rwD)),.v (.lst (ts.map t3D)),.v (otD (lnR rs ps k)),.v (.lst (known.map D.int)),.v (.lst (rs.map r3D)),.v (.int (k:Int)),y8,y9,y10,y11,.v (.lst (known.map D.int++qs.map D.int))]:=rfl;generalize hOL:otD (lnR rs ps k)=OL at *;generalize hLL:lnR rs ps k=LL at *;generalize known.map D.int++qs.map D.int=QL at *;generalize (rs.take k).map r3D=TR at *;generalize rs.map r3D=RL at *;generalize ps.map rwD=PL at *;generalize ts.map t3D=TL at *;generalize known.map D.int=KL at *;generalize ns.map D.int=NL at *
 rw[qJ (ds':=[.v (.lst NL),.v (.int sd),.v (.lst PL),.v (.lst TL),.ob none LL,.v (.lst KL),.v (.lst RL),.v (.int (k:Int)),y8,y9,y10,y11,.v (.lst QL)]) (by
  rw[wY]
  . simp
  . simp only [notT, relTO, r4]
    simp[tm,ts2])]
 have rv:relVO 4 (qG 3 gO (zE (zH 4) (zE (seeO (callO 1 iF (zE (mkL (sliA (zH 6) noP (soP (zH 7)))) zZ))) (zE (zI jF (zH 1) (zA (.int 2))) zZ)))) [.v (.lst NL),.v (.int sd),.v (.lst PL),.v (.lst TL),.ob none LL,.v (.lst KL),.v (.lst RL),.v (.int (k:Int)),y8,y9,y10,y11,.v (.lst QL)]=some (.bl true):=by
  unfold relVO;rw[r4];generalize mkO (mkR (rs.take k) [])=MO at *;simp[tm,seeO,callO,sp,retO,sn2,flV',flat]
 unfold retG;rw[rv];simp
end K56
namespace K56
open PySem PyProof.Rows L2 FL
set_option maxHeartbeats 0 in
theorem all_mk{l:YL}{w:bU}{K:aM}{h:Heap}{mg:Str->Option aB}{fa:aA}(X:K.In h)(G:h.Ns aP mg)(hfa:mg "law" = some (.ref fa)){K0 K1 K2 K3 K4 K5 K6 K11 f0 f2 f3 f4 f5 f6 f7 f8 f9 f10 f11 f12 f13 f14 f15 f16 f17 f18 f19 f20 f21 f22 f23 f24 f25 f26 f27 f28 f29 f30 f31 f32 f33 f34 f35 f36 f37 f38 f39 f40 f41 f42 f43 f44 f45 f46 f47 f48 f49 f50 f51 f52 f53 f54 f55 f56 f57 f58 f59 f60 f61 f62 f63 f64 f65 f66 f67 f68 f69 f70 f71 f72 f73 f74 f75 f76 f77 f78 f79:aA}{t0 t1 t2:Tok}{tu1:aA}{tc1:aB}{td1:Option aA}{tn1:Nat}{ts1:Array (Option aB)}{f1 f80:aA}{od1 an1 od80 an80:Option aA}{sl1 sl80:Array (Option aB)}{oc1 kV1 dc1 pm1 cd1 ct1 oc80 kV80 dc80 pm80 cd80 ct80:aB}(q0:CN K "Put" K0)(na0_span:NoAttr K K0 "span")(na0_fill:NoAttr K K0 "fill")(q1:CN K "Widen" K1)(na1_fill:NoAttr K K1 "fill")(na1_at:NoAttr K K1 "at")(na1_many:NoAttr K K1 "many")(q2:CN K "Narrow" K2)(na2_fill:NoAttr K K2 "fill")(na2_at:NoAttr K K2 "at")(na2_many:NoAttr K K2 "many")(q3:CN K "Move" K3)(na3_fill:NoAttr K K3 "fill")(na3_far:NoAttr K K3 "far")(q4:CN K "Stretch" K4)(na4_fill:NoAttr K K4 "fill")(na4_top:NoAttr K K4 "top")(na4_bottom:NoAttr K K4 "bottom")(q5:CN K "Mirror" K5)(na5_fill:NoAttr K K5 "fill")(q6:CN K "Deed" K6)(na6_fill:NoAttr K K6 "fill")(q11:CN K "Line" K11)(na11_pieces:NoAttr K K11 "pieces")(na11_places:NoAttr K K11 "places")(na11_earlier:NoAttr K K11 "earlier")(na11_later:NoAttr K K11 "later")(d0:DefM K "is_name" (top 10) f0)(a1:cD K (.ref K11) "__init__" = some (some (.ref f1)))(l1:LkF K f1 oc1 od1 "__init__" "Line.__init__" (aR (top 12) 0) (.ref tu1) kV1 dc1 pm1 an1 cd1 ct1 sl1)(c1:fG K cd1 "Line.__init__" = true)(k1:bK K (.ref f1)=true)(lt1:K.lookup tu1=some ⟨tc1,td1,.seq #[.none] tn1,ts1⟩)(i1:nD K (.ref f1)=true)(d2:DefC K K11 "step" "Line.step" (aR (top 12) 3) f2)(d3:DefM K "knit" (top 20) f3)(d4:DefM K "later_low" (top 17) f4)(d5:DefM K "earlier_behind" (top 18) f5)(d6:DefM K "ends_ahead" (top 16) f6)(d7:DefM K "meet" (top 15) f7)(d8:DefM K "parts_in" (top 21) f8)(d9:DefM K "rows_over" (top 22) f9)(d10:DefM K "put" (top 24) f10)(d11:DefC K K0 "done" "Put.done" (aR (top 28) 3) f11)(d12:DefM K "farther" (top 39) f12)(d13:DefM K "shifted" (top 38) f13)(d14:DefC K K1 "done" "Widen.done" (aR (top 29) 3) f14)(d15:DefC K K2 "done" "Narrow.done" (aR (top 30) 3) f15)(d16:DefC K K3 "done" "Move.done" (aR (top 31) 3) f16)(d17:DefC K K4 "least_from" "Stretch.least_from" (aR (top 32) 4) f17)(d18:DefC K K4 "done" "Stretch.done" (aR (top 32) 3) f18)(d19:DefM K "mirrored" (top 40) f19)(d20:DefC K K5 "done" "Mirror.done" (aR (top 33) 2) f20)(d21:DefC K K0 "went" "Put.went" (aR (top 28) 2) f21)(d22:DefM K "opened" (top 36) f22)(d23:DefC K K1 "went" "Widen.went" (aR (top 29) 2) f23)(d24:DefM K "taken_out" (top 37) f24)(d25:DefC K K2 "went" "Narrow.went" (aR (top 30) 2) f25)(d26:DefC K K3 "went" "Move.went" (aR (top 31) 2) f26)(d27:DefM K "has" (top 14) f27)(d28:DefC K K0 "came" "Put.came" (aR (top 28) 1) f28)(d29:DefC K K1 "came" "Widen.came" (aR (top 29) 1) f29)(d30:DefC K K2 "came" "Narrow.came" (aR (top 30) 1) f30)(d31:DefC K K3 "came" "Move.came" (aR (top 31) 1) f31)(d32:DefC K K4 "came" "Stretch.came" (aR (top 32) 1) f32)(d33:DefC K K5 "came" "Mirror.came" (aR (top 33) 0) f33)(d34:DefC K K4 "went" "Stretch.went" (aR (top 32) 2) f34)(d35:DefC K K5 "went" "Mirror.went" (aR (top 33) 1) f35)(d36:DefC K K11 "do" "Line.do" (aR (top 12) 1) f36)(d37:DefC K K11 "mark" "Line.mark" (aR (top 12) 2) f37)(d38:DefC K K11 "become" "Line.become" (aR (top 12) 6) f38)(d39:DefC K K11 "back" "Line.back" (aR (top 12) 4) f39)(d40:DefC K K11 "again" "Line.again" (aR (top 12) 5) f40)(d41:DefC K K11 "told" "Line.told" (aR (top 12) 7) f41)(d42:DefC K K11 "where" "Line.where" (aR (top 12) 8) f42)(d43:DefC K K11 "marks" "Line.marks" (aR (top 12) 9) f43)(d44:DefC K K6 "__init__" "Deed.__init__" (aR (top 27) 0) f44)(d45:DefC K K0 "__init__" "Put.__init__" (aR (top 28) 0) f45)(d46:DefM K "check_many" (top 34) f46)(d47:DefC K K1 "__init__" "Widen.__init__" (aR (top 29) 0) f47)(d48:DefC K K2 "__init__" "Narrow.__init__" (aR (top 30) 0) f48)(d49:DefC K K3 "__init__" "Move.__init__" (aR (top 31) 0) f49)(d50:DefM K "check_share" (top 35) f50)(d51:DefC K K4 "__init__" "Stretch.__init__" (aR (top 32) 0) f51)(d52:DefM K "_law_whole" (top 42) f52)(d53:DefM K "_law_cell_at" (top 43) f53)(d54:DefM K "_law_map" (top 44) f54)(d55:DefM K "_law_mixed" (top 45) f55)(d56:DefM K "_law_digits" (top 46) f56)(d57:DefM K "_law_zig" (top 47) f57)(d58:DefM K "_law_any_map" (top 48) f58)(d59:DefM K "_law_threes" (top 49) f59)(d60:DefM K "_law_word" (top 50) f60)(d61:DefM K "_law_name" (top 51) f61)(d62:DefM K "_law_place" (top 52) f62)(d63:DefM K "_law_many" (top 53) f63)(d64:DefM K "_law_share" (top 54) f64)(d65:DefM K "_law_span" (top 55) f65)(d66:DefM K "_law_row" (top 56) f66)(d67:DefM K "_law_made" (top 57) f67)(d68:DefM K "_law_went" (top 58) f68)(d69:DefM K "_law_stands" (top 59) f69)(d70:DefM K "_law_value" (top 60) f70)(d71:DefM K "_law_has" (top 61) f71)(d72:DefM K "_law_came" (top 62) f72)(d73:DefM K "_law_found" (top 63) f73)(d74:DefM K "_law_is_map" (top 64) f74)(d75:DefM K "_law_ends" (top 65) f75)(d76:DefM K "_law_spots" (top 66) f76)(d77:DefM K "_law_carried" (top 67) f77)(d78:DefM K "_law_told_so" (top 68) f78)(d79:DefM K "_law_begun" (top 69) f79)(a80:aT K aP "law" = some (some (.ref f80)))(l80:LkF K f80 oc80 od80 "law" "law" (top 70) .none kV80 dc80 pm80 an80 cd80 ct80 sl80)(c80:fG K cd80 "law" = true)(k80:bK K (.ref f80)=true)(mk0:eQ K K0=true)(kc0:bK K (.ref K0)=true)(mk1:eQ K K1=true)(kc1:bK K (.ref K1)=true)(mk2:eQ K K2=true)(kc2:bK K (.ref K2)=true)(mk3:eQ K K3=true)(kc3:bK K (.ref K3)=true)(mk4:eQ K K4=true)(kc4:bK K (.ref K4)=true)(mk5:eQ K K5=true)(kc5:bK K (.ref K5)=true)(ai5:cD K (.ref K5) "__init__" = some (some (.ref f44)))(mk11:eQ K K11=true)(kc11:bK K (.ref K11)=true)(s1_6:uG K (.ref K6) "__getattribute__" = some (some (.builtin "type.__getattribute__")))(s2_6:YJ K K6 (.type "type")=true)(s3_6:YK K (.ref K6) (.type "type") "__init__" = some (.val (.ref f44)))(z0:aT K aP "all" = some none)(z1:aT K aP "bool" = some none)(z2:aT K aP "dict" = some none)(z3:aT K aP "int" = some none)(z4:aT K aP "isinstance" = some none)(z5:aT K aP "len" = some none)(z6:aT K aP "list" = some none)(z7:aT K aP "max" = some none)(z8:aT K aP "min" = some none)(z9:aT K aP "range" = some none)(z10:aT K aP "reversed" = some none)(z11:aT K aP "sorted" = some none)(z12:aT K aP "str" = some none)(z13:aT K aP "tuple" = some none)(v0:aT K aP "LETTERS" = some (some (.str "abcdefghijklmnopqrstuvwxyz" t0)))(v1:aT K aP "MOST_LETTERS" = some (some (.int 8 t1)))(v2:aT K aP "MOST_SHARE" = some (some (.int 1000 t2))) :
  ∃fd:aK,(∀(s:aE) (v:aB),aBt s fd ⟨[v],[]⟩ [("_law_script",v)])/\∀base:Heap,K.In base->base.Ns aP mg->FnOk l.prog w K mg base CX0 8 fa fd ["_law_script"] (TH K 63):=by
 have e:=hfa.symm.trans (cW X G a80);cases e;obtain⟨n0,cl0⟩:=q0.get;obtain⟨n1,cl1⟩:=q1.get;obtain⟨n2,cl2⟩:=q2.get;obtain⟨n3,cl3⟩:=q3.get;obtain⟨n4,cl4⟩:=q4.get;obtain⟨n5,cl5⟩:=q5.get;obtain⟨n6,cl6⟩:=q6.get;obtain⟨n11,cl11⟩:=q11.get;have T:Glb K mg:=⟨cB X G z0,cB X G z1,cB X G z2,cB X G z3,cB X G z4,cB X G z5,cB X G z6,cB X G z7,cB X G z8,cB X G z9,cB X G z10,cB X G z11,cB X G z12,cB X G z13,⟨_,cW X G v0⟩,⟨_,cW X G v1⟩,⟨_,cW X G v2⟩,(jS n1 cl1 na1_at (jS n2 cl2 na2_at jV)),(jS n4 cl4 na4_bottom jV),(jS n11 cl11 na11_earlier jV),(jS n3 cl3 na3_far jV),(jS n0 cl0 na0_fill (jS n1 cl1 na1_fill (jS n2 cl2 na2_fill (jS n3 cl3 na3_fill (jS n4 cl4 na4_fill (jS n5 cl5 na5_fill (jS n6 cl6 na6_fill jV))))))),(jS n11 cl11 na11_later jV),(jS n1 cl1 na1_many (jS n2 cl2 na2_many jV)),(jS n11 cl11 na11_pieces jV),(jS n11 cl11 na11_places jV),(jS n0 cl0 na0_span jV),(jS n4 cl4 na4_top jV),(newOk (t:=22) (by exact n11) cl11 na11_earlier),(newOk (t:=23) (by exact n11) cl11 na11_later),(newOk (t:=20) (by exact n11) cl11 na11_pieces),(newOk (t:=21) (by exact n11) cl11 na11_places)⟩
 have F1:=fun_mkD (st:=(aR (top 12) 0)) l1 c1 k1 lt1 rfl;have b1_0:Binds K _ ["self","pieces"] (List.replicate 0 .none):=F1.binds (ps:=["self","pieces"]) fun _ _ _ _ _ _ _ us hl=>match us,hl with | [_,_],_=>⟨_,rfl,rfl⟩
 have b1_1:Binds K _ ["self","pieces"] (List.replicate 1 .none):=F1.binds (ps:=["self","pieces"]) fun _ _ _ _ _ _ _ us hl=>match us,hl with | [_],_=>⟨_,rfl,rfl⟩ | _::_::_,hl=>absurd hl (by simp) | [],hl=>absurd hl (by simp)
 obtain⟨_,F44,a44,k44,i44⟩:=d44.get;have b44:=F44.binds (ps:=["self"]) fun _ _ _ _ _ _=>len1 fun _=>rfl;obtain⟨_,F45,a45,k45,i45⟩:=d45.get;have b45:=F45.binds (ps:=["self","span","value"]) fun _ _ _ _ _ _=>len3 fun _ _ _=>rfl;obtain⟨_,F47,a47,k47,i47⟩:=d47.get;have b47:=F47.binds (ps:=["self","at","many"]) fun _ _ _ _ _ _=>len3 fun _ _ _=>rfl;obtain⟨_,F48,a48,k48,i48⟩:=d48.get;have b48:=F48.binds (ps:=["self","at","many"]) fun _ _ _ _ _ _=>len3 fun _ _ _=>rfl;obtain⟨_,F49,a49,k49,i49⟩:=d49.get;have b49:=F49.binds (ps:=["self","far"]) fun _ _ _ _ _ _=>len2 fun _ _=>rfl;obtain⟨_,F51,a51,k51,i51⟩:=d51.get;have b51:=F51.binds (ps:=["self","top","bottom"]) fun _ _ _ _ _ _=>len3 fun _ _ _=>rfl;obtain⟨_,F59,a59,k59⟩:=d59.get;have b59:=F59.binds (ps:=["_law_cells","_law_way"]) fun _ _ _ _ _ _=>len2 fun _ _=>rfl;obtain⟨_,F79,a79,k79⟩:=d79.get;have b79:=F79.binds (ps:=["_law_script","_law_seed","_law_way"]) fun _ _ _ _ _ _=>len3 fun _ _ _=>rfl;have F80:=UM (st:=(top 70)) l80 c80 k80;refine⟨dF "law" "law" (yK (top 70)) (jH (top 70)) (zJ (top 70)) .none kV80 dc80 pm80 an80 cd80 ct80,fun s v=>.of_eq rfl,fun base _ _=>?_⟩;have S:SysAt l.prog w base K mg:=⟨h,X,G⟩
 have C_is_name:=d0.cal S fun F=>RU F T;have G1:=AR (P:=l.prog) (w:=w) (base:=base) F1 T;have C_knit:=d3.cal S fun F=>aFz F T;have C_later_low:=d4.cal S fun F=>JI F T;have C_earlier_behind:=d5.cal S fun F=>uE F T;have C_ends_ahead:=d6.cal S fun F=>HM F T;have C_meet:=d7.cal S fun F=>aFy F T C_later_low C_earlier_behind C_ends_ahead;have C_parts_in:=d8.cal S fun F=>NW F T C_meet;have C_rows_over:=d9.cal S fun F=>JH F T C_parts_in;have C_put:=d10.cal S fun F=>fok_put F T C_knit C_rows_over;have C_farther:=d12.cal S fun F=>RW F T;have C_shifted:=d13.cal S fun F=>RT F T C_farther;have M_least_from:MCal l.prog w K mg base "least_from" 1 1 [4] bS:=(d17.mc n4 cl4 (fun F=>pZ F T) xM)
 have C_mirrored:=d19.cal S fun F=>NX F T;have C_opened:=d22.cal S fun F=>UO F T;have C_taken_out:=d24.cal S fun F=>JG F T;have C_has:=d27.cal S fun F=>fok_has F T;have M_came:MCal l.prog w K mg base "came" 2 1 [0,1,2,3,4,5] cX:=(d28.mc n0 cl0 (fun F=>OF F T C_has) (d29.mc n1 cl1 (fun F=>IA F T C_taken_out) (d30.mc n2 cl2 (fun F=>EB F T C_opened) (d31.mc n3 cl3 (fun F=>JT F T) (d32.mc n4 cl4 (fun F=>CG F T) (d33.mc n5 cl5 (fun F=>EE F T) xM))))))
 have M_step:LCal l.prog w K mg base "step" 1 2 [11] (fun _=>dE):=(d2.lc n11 cl11 (fun F=>JV F T) wF)
 have M_done:MCal l.prog w K mg base "done" 6 1 [0,1,2,3,4,5] cE:=(d11.mc n0 cl0 (fun F=>OE F T C_put) (d14.mc n1 cl1 (fun F=>HZ F T C_parts_in C_knit C_shifted) (d15.mc n2 cl2 (fun F=>EA F T C_parts_in C_knit C_shifted) (d16.mc n3 cl3 (fun F=>JS F T C_shifted) (d18.mc n4 cl4 (fun F=>CF F T C_knit M_least_from) (d20.mc n5 cl5 (fun F=>ED F T C_mirrored) xM))))))
 have M_went:MCal l.prog w K mg base "went" 3 1 [0,1,2,3,4,5] cO:=(d21.mc n0 cl0 (fun F=>OD F T) (d23.mc n1 cl1 (fun F=>HY F T C_opened) (d25.mc n2 cl2 (fun F=>DZ F T C_taken_out) (d26.mc n3 cl3 (fun F=>JR F T) (d34.mc n4 cl4 (fun F=>CD F T M_least_from M_came) (d35.mc n5 cl5 (fun F=>EC F T) xM))))))
 have M_become:LCal l.prog w K mg base "become" 1 1 [11] (fun _=>cY):=(d38.lc n11 cl11 (fun F=>EF F T) wF)
 have G44:=AS (P:=l.prog) (w:=w) (base:=base) F44 T;have G45:=CH (P:=l.prog) (w:=w) (base:=base) F45 T;have C_check_many:=d46.cal S fun F=>HN F T;have S_Deed:SCal l.prog w K mg base "Deed" 1 ["fill"] bT:=⟨K6,f44,_,_,cW X G n6,⟨.type "type",s1_6,s2_6,s3_6,k44⟩,G44,b44⟩
 have G47:=uF F47 T C_check_many S_Deed;have G48:=sR F48 T C_check_many S_Deed;have G49:=AQ (P:=l.prog) (w:=w) (base:=base) F49 T S_Deed;have C_check_share:=d50.cal S fun F=>DU F T;have G51:=sL F51 T C_check_share S_Deed;have C__law_whole:=d52.cal S fun F=>HP F T;have C__law_cell_at:=d53.cal S fun F=>CA F T;have C__law_map:=d54.cal S fun F=>OB F T;have C__law_mixed:=d55.cal S fun F=>HV F T;have C__law_digits:=d56.cal S fun F=>DY F T C__law_mixed;have C__law_zig:=d57.cal S fun F=>NZ F T;have C__law_any_map:=d58.cal S fun F=>CC F T C__law_zig C__law_digits;have G59:=DV F59 T C__law_mixed;have C__law_threes:CalA l.prog w K mg base "_law_threes" 2 2 fH:=⟨f59,_,_,G59,b59,k59,cW X G a59⟩
 have C__law_word:=d60.cal S fun F=>JJ F T;have C__law_name:=d61.cal S fun F=>JM F T C__law_word;have C__law_place:=d62.cal S fun F=>HU F T;have C__law_many:=d63.cal S fun F=>JN F T;have C__law_share:=d64.cal S fun F=>HS F T;have C__law_span:=d65.cal S fun F=>JL F T C__law_many;have C__law_row:=d66.cal S fun F=>OA F T C__law_place C__law_span C__law_many C__law_share;have Mk_Mirror:MkC l.prog w K mg base 5 1 0 bT:=⟨K5,f44,_,_,n5,cW X G n5,⟨mk5,ai5,i44,kc5⟩,cl5,G44,b44,(xB (l:=["fill"]) (qX na5_fill xI))⟩
 have Mk_Put:MkC l.prog w K mg base 0 1 2 eP:=⟨K0,f45,_,_,n0,cW X G n0,⟨mk0,a45,i45,kc0⟩,cl0,G45,b45,(xB (l:=["span","fill"]) (qX na0_span (qX na0_fill xI)))⟩
 have Mk_Widen:MkC l.prog w K mg base 1 2 2 cI:=⟨K1,f47,_,_,n1,cW X G n1,⟨mk1,a47,i47,kc1⟩,cl1,G47,b47,(xB (l:=["fill","at","many"]) (qX na1_fill (qX na1_at (qX na1_many xI))))⟩
 have Mk_Narrow:MkC l.prog w K mg base 2 2 2 cI:=⟨K2,f48,_,_,n2,cW X G n2,⟨mk2,a48,i48,kc2⟩,cl2,G48,b48,(xB (l:=["fill","at","many"]) (qX na2_fill (qX na2_at (qX na2_many xI))))⟩
 have Mk_Move:MkC l.prog w K mg base 3 2 1 eK:=⟨K3,f49,_,_,n3,cW X G n3,⟨mk3,a49,i49,kc3⟩,cl3,G49,b49,(xB (l:=["fill","far"]) (qX na3_fill (qX na3_far xI)))⟩
 have Mk_Stretch:MkC l.prog w K mg base 4 2 2 dO:=⟨K4,f51,_,_,n4,cW X G n4,⟨mk4,a51,i51,kc4⟩,cl4,G51,b51,(xB (l:=["fill","top","bottom"]) (qX na4_fill (qX na4_top (qX na4_bottom xI))))⟩
 have C__law_made:=d67.cal S fun F=>JO F T Mk_Mirror Mk_Put Mk_Widen Mk_Narrow Mk_Move Mk_Stretch;have C__law_went:=d68.cal S fun F=>JK F T;have M_marks:MCal l.prog w K mg base "marks" 1 0 [11] fY:=(d43.mc n11 cl11 (fun F=>IC F T) xM)
 have M_where:MCal l.prog w K mg base "where" 2 1 [11] fX:=(d42.mc n11 cl11 (fun F=>IB F T C_is_name) xM)
 have C__law_stands:=d69.cal S fun F=>DW F T C__law_whole M_marks M_where;have C__law_value:=d70.cal S fun F=>HQ F T;have C__law_has:=d71.cal S fun F=>OC F T;have C__law_came:=d72.cal S fun F=>JQ F T;have C__law_found:=d73.cal S fun F=>HW F T C__law_value C__law_came C__law_has;have C__law_is_map:=d74.cal S fun F=>DX F T C__law_whole;have C__law_ends:=d75.cal S fun F=>JP F T;have C__law_spots:=d76.cal S fun F=>HR F T C__law_went;have C__law_carried:=d77.cal S fun F=>CB F T C__law_went;have M_told:MCal l.prog w K mg base "told" 1 0 [11] gH:=(d41.mc n11 cl11 (fun F=>JU F T) xM)
 have C__law_told_so:=d78.cal S fun F=>BZ F T C__law_is_map C__law_ends C__law_value C__law_found M_told;have G79:=HX F79 T C__law_any_map C__law_cell_at C__law_threes C__law_map;have C__law_begun:CalA l.prog w K mg base "_law_begun" 4 3 fD:=⟨f79,_,_,G79,b79,k79,cW X G a79⟩
 have M_mark:LCal l.prog w K mg base "mark" 2 2 [11] (fun _=>eB):=(d37.lc n11 cl11 (fun F=>JW F T C_is_name M_step) wF)
 have M_do:LCal l.prog w K mg base "do" 7 1 [11] (fun _=>eY):=(d36.lc n11 cl11 (fun F=>RX F T M_step M_done M_went) wF)
 have M_back:LCal l.prog w K mg base "back" 2 0 [11] (fun _=>fJ):=(d39.lc n11 cl11 (fun F=>JX F T M_become) wF)
 have M_again:LCal l.prog w K mg base "again" 2 0 [11] (fun _=>eR):=(d40.lc n11 cl11 (fun F=>IE F T M_become) wF)
 have Mk_Line_0:LMk l.prog w K mg base 20 1 1 0 dS:=⟨⟨K11,f1,_,_,by exact n11,cW X G n11,⟨mk11,a1,i1,kc11⟩,G1,b1_0⟩⟩
 exact law_ofB (F:=BA) (fok_law F80 T C__law_cell_at C__law_begun C__law_ends C__law_stands C__law_told_so C__law_spots C__law_row C__law_carried C__law_place C__law_name C__law_made M_mark M_do M_back M_again Mk_Line_0) run_law
end K56
namespace PySem.W.Fast
def tw9080760546462494234:=0
def tw15328744972418642433:=0
def tw9536965071242913200:=0
def tw12116255966397479375:=0
def tw10926595090679643202:=0
def tw9617030058052917650:=0
def tw12298209838999208523:=0
def tw7228968745896040371:=0
def tw1792216497568356991:=0
def tw14054455706896805648:=0
def tw11705263750126360058:=0
def tw4423162519451893455:=0
def tw13753178567422355647:=0
def tw1276828026682742162:=0
def tw2082439259702823290:=0
def tw5422734854182693011:=0
def tw8715108868471734322:=0
def tw371574211462512191:=0
def tw14224699544065923167:=0
def tw10264037406205818451:=0
def tw7202291431085323218:=0
def tw493567455882836828:=0
def tw9759406908719088239:=0
def tw17902740377063749866:=0
def tw6037147121564865134:=0
def tw3196483679578363725:=0
def tw15227630845670532743:=0
def tw6618004120333580810:=0
def tw14928893617595396238:=0
def tw13798721729851255247:=0
def tw7022384743182035765:=0
def tw8872391733714775774:=0
def tw7437188446094561814:=0
def tw5687696605611936797:=0
def tw218133213362666323:=0
def tw10488073281656575640:=0
def tw17159079502768205709:=0
def tw436065315381955520:=0
def tw10807523934380117581:=0
def tw8982711376292508424:=0
def tw15752564205753862771:=0
def tw12038868216435778093:=0
def tw16939638223639895453:=0
def tw9170302156045314223:=0
def tw95258954450605672:=0
def tw9695855820129576084:=0
def tw5056391743199452762:=0
def tw17652633324778005968:=0
def tw13362315788577914890:=0
def tw8717348483308061170:=0
def tw12843581063125618600:=0
def tw605169546444398692:=0
def tw17755953286945570759:=0
def tw5310808159807830138:=0
def tw11925294205363086143:=0
def tw18347832795322535113:=0
def tw2907371257446233570:=0
def tw14794084593255204217:=0
def tw11994231798501913622:=0
def tw17474696124548009798:=0
def tw2003984135900945956:=0
def tw8153033869280323835:=0
def tw15751241374121878989:=0
def tw2357680117148457581:=0
def tw14649696011378269409:=0
def tw6635388276228221098:=0
def tw4755638627160946062:=0
def tw653845016830477857:=0
def tw9003051286214276976:=0
def tw6760914377742810297:=0
def tw17004492302901047748:=0
def tw584404749809782472:=0
def tw3605269340084519162:=0
def tw9492559048153196558:=0
def tw4360197654165660020:=0
def tw6079196950194641531:=0
def tw6088141891978442540:=0
def tw2228347232784210875:=0
def tw13584957808631212198:=0
def tw4401308131415737427:=0
def tw3288157586663692983:=0
def tw6996934950271157670:=0
def tw11730327761600401255:=0
def tw10965227207729985146:=0
def tw5991981935499014372:=0
def tw910897068177290671:=0
def tw8699929408276568366:=0
def tw17205831626854425654:=0
def tw41604609700857567:=0
def tw14391820929601014734:=0
def tw2270870097499606964:=0
def tw2326035071885476511:=0
def tw11981719355501441079:=0
def tw11034277925680471831:=0
def tw10344834222658250654:=0
def tw13080206039574107590:=0
def tw11021035748106414226:=0
def tw14945362426017860186:=0
def tw8927406032336529689:=0
def tw2523557517587004300:=0
def tw15031692298404565745:=0
def tw3944207203417887974:=0
def tw13800502838479566633:=0
def tw7169287451478381302:=0
def tw16759537828789301712:=0
def tw9823114543601995942:=0
def tw10137280742997711853:=0
def tw3865427788219134817:=0
def tw146598282087333791:=0
def tw2485483753737140217:=0
def tw5363551221224984833:=0
def tw10486097071836203272:=0
def tw12244598571471815759:=0
def tw11137199053848957669:=0
def tw5832997505207814986:=0
def tw3908328592752205741:=0
def tw16906957415611680535:=0
def tw15196903203432948224:=0
def tw3502447465922827980:=0
def tw17400927376797337726:=0
def tw901018550401222186:=0
def tw16701898535435941725:=0
def tw13045099877099132486:=0
def tw3965701373228700566:=0
def tw1455379642956821979:=0
def tw5004313975613253467:=0
def tw5304436600884339314:=0
def tw9611411775833693182:=0
def tw12929113842485226688:=0
def tw9986746062684591837:=0
def tw8571197966558684621:=0
def tw10920834054314873945:=0
def tw8280516273440041685:=0
def tw4026395365523445930:=0
def tw17935627741427217705:=0
def tw18425113718867097499:=0
def tw15306882943401905434:=0
def tw14481668546974719028:=0
def tw2629306531650859250:=0
def tw325044631247887326:=0
def tw6611136597837953377:=0
def tw9845489066820876349:=0
def tw2464867741770339565:=0
def tw12951893079298863588:=0
def tw2997759202936092362:=0
def tw7216422205585349433:=0
def tw17830336252137866276:=0
def tw11834887736725210154:=0
def tw16931766950715842930:=0
def tw16172932341369021649:=0
def tw18181687220921718930:=0
def tw14875502056817295254:=0
def tw17837720056706585688:=0
def tw9004851154701593963:=0
def tw5988482513157694920:=0
def tw6651391024487097891:=0
def tw12367324646428618496:=0
def tw7097280233957591974:=0
def tw9280143362027138411:=0
def tw11890689663497014197:=0
def tw18340685834036130869:=0
def tw3665420070769082826:=0
def tw2298263063727752442:=0
def tw1127085842926854950:=0
def tw2756029910348287812:=0
def tw6863250228624388509:=0
def tw10362148823220146259:=0
def tw8785617962946517232:=0
def tw5647917453537429222:=0
def tw17112943753301893157:=0
def tw4526847210448969887:=0
def tw8195978456443020775:=0
def tw14405791551220176193:=0
def tw3234518562931139566:=0
def tw2548504941558388979:=0
def tw13815646992837635001:=0
def tw13830996189372478617:=0
def tw10115301112148575514:=0
def tw15496691614434666168:=0
def tw8959158059927612255:=0
def tw5485308300137694101:=0
def tw6067535004621362899:=0
def tw9068732303469203193:=0
def tw1126737527859337680:=0
def tw17551262294298667695:=0
def tw12035534390183509564:=0
def tw12658880455694625764:=0
def tw9639043477605001750:=0
def tw1626405475069166904:=0
def tw11328151108290234530:=0
def tw10967420822072531470:=0
def tw15724221915883856148:=0
def tw13804601118724267600:=0
def tw5517635591249952383:=0
def tw16522535288213837265:=0
def tw6071548300588409972:=0
def tw4541439628507584039:=0
def tw16891754787664207496:=0
def tw3202264535298113822:=0
def tw2970812855533779776:=0
def tw1578370518285265896:=0
def tw459161265828261974:=0
def tw6774389546924435768:=0
def tw11960874340999148819:=0
def tw3184792431630660159:=0
def tw3636811680850698716:=0
def tw16900293578885798303:=0
def tw5790623136688292542:=0
def tw13281775172758879679:=0
def tw17349952139348544960:=0
def tw4409893160086445631:=0
def tw12790093751622354085:=0
def tw17839365579184361287:=0
def tw18280525304385833069:=0
def tw18115271047404983956:=0
def tw9867773721743424929:=0
def tw8312403621652250985:=0
def tw2203293643694319666:=0
def tw10240860411479048547:=0
def tw1563832551181590393:=0
def tw18017505653850545107:=0
def tw14813752233814418684:=0
def tw2367355604145707891:=0
def tw10146341671426776646:=0
def tw14536842661261003519:=0
def tw15449581520361527735:=0
def tw14979729827649378384:=0
def tw17376450431875542928:=0
def tw6232415014463269453:=0
def tw2092253187426933524:=0
def tw18172586697281027263:=0
def tw13460638393910165420:=0
def tw9036634214986722702:=0
def tw7636432772876256478:=0
def tw11183296992284441320:=0
def tw108322749294819304:=0
def tw14664093744526576149:=0
def tw15941368779356119907:=0
def tw7224499315944303460:=0
def tw4505696004663288864:=0
def tw18089651533165298418:=0
def tw8618143160182202000:=0
def tw9433139221283977885:=0
def tw10468624539903859530:=0
def tw4936756945598530767:=0
def tw12764626565444510380:=0
def tw3788190658029137016:=0
def tw8405684902581407926:=0
def tw13856718203706448715:=0
def tw6750895138920018861:=0
def tw17549052836997531248:=0
def tw2663709052258768216:=0
def tw12167601146452906399:=0
def tw11546401999718331800:=0
def tw12491971642993290302:=0
def tw7611045305196031075:=0
def tw7607759051414404250:=0
def tw12359462208500355034:=0
def tw16644351761143951393:=0
def tw18088681489377525642:=0
def tw12775053232406787087:=0
def tw17259178883551142839:=0
def tw2261278153697481977:=0
def tw16745222898340985103:=0
def tw17508328122067403828:=0
def tw292649790036830189:=0
def tw7254905433504504396:=0
def tw3831768733154842273:=0
def tw7816366587604426724:=0
def tw15031480589901394842:=0
def tw11220133789340480440:=0
def tw13947824479536172798:=0
def tw4132835645459174219:=0
def tw604306543427124117:=0
def tw321515844203972426:=0
def tw2318451216049455130:=0
def tw5967702174167328084:=0
def tw11342682714108026373:=0
def tw3310199128867984974:=0
def tw15771038822795630076:=0
def tw5498801693864241132:=0
def tw5472564699921855755:=0
def tw5257347287144384297:=0
def tw2075798184110708795:=0
def tw5346527433683368972:=0
def tw13528620800464818327:=0
def tw7634972345661792651:=0
def tw17186085653053255244:=0
def tw17026092296481575326:=0
def tw1495214474211599050:=0
def tw17980585649835498123:=0
def tw1565579824376339273:=0
def tw10662948280293581376:=0
def tw9761840654603810636:=0
def tw8689718180578314361:=0
def tw1422798611113335231:=0
def tw14904013939682465614:=0
def tw5818964393491645346:=0
def tw398644742681266118:=0
def tw13223549830422955496:=0
def tw14349080903231260729:=0
def tw17367829356014734511:=0
def tw3358020716494939717:=0
def tw16101262803340973680:=0
def tw14241279074577562846:=0
def tw14981154980359212397:=0
def tw6259800990271072648:=0
def tw12747322980475427718:=0
def tw11230030208574995502:=0
def tw13757221904604970288:=0
def tw10200896628565993590:=0
def tw2785522783907786230:=0
def tw1398029518443596862:=0
def tw2864353689140638394:=0
def tw5055519905243204461:=0
def tw12296733927547023547:=0
def tw2708415183418532716:=0
def tw14583770818803256204:=0
def tw3336280896452972779:=0
def tw12046775184593584443:=0
def tw6357979690167648551:=0
def tw16384982716166282864:=0
def tw262929898824513767:=0
def tw6901085207569583539:=0
def tw3463828691525090466:=0
def tw6297163994729784847:=0
def tw2833224588253287818:=0
def tw13343263325048873839:=0
def tw11634946693907614540:=0
def tw5339189344387291241:=0
def tw11437471121763208764:=0
def tw4881672940722776066:=0
def tw9680234749784394374:=0
def tw13244168876879900570:=0
def tw11242289425707221875:=0
def tw2101998855152908079:=0
def tw10073404606264996193:=0
def tw12351390197489238085:=0
def tw10693818364384134702:=0
def tw9781941102192321778:=0
def tw12727974881727899347:=0
def tw11591849131736382423:=0
def tw4606969584228640831:=0
def tw16256044356892337567:=0
def tw11005413938915193695:=0
def tw17423386371193944871:=0
def tw11626047097578309802:=0
def tw18279583895971843519:=0
def tw7923475602199536013:=0
def tw17428424194982182824:=0
def tw1562852729794613896:=0
def tw9068901335053230763:=0
def tw14594127164696202415:=0
def tw13252229496213426491:=0
def tw14454402660049130892:=0
def tw4898138348532772115:=0
def tw18269647018844554138:=0
def tw2103551770404702683:=0
def tw12576802251913344721:=0
def tw12022833989395604632:=0
def tw14841175858654370051:=0
def tw6487797664187149481:=0
def tw881665902369220669:=0
def tw6264304905133902468:=0
end PySem.W.Fast
def PySem.W.Fast.tw5528127104199057334:Unit:=()
def PySem.W.Fast.tw5542304573119118968:Unit:=()
def PySem.W.Fast.tw7889676181479765187:Unit:=()
def PySem.W.Fast.tw3981057103983134870:Unit:=()
def PySem.W.Fast.tw5640031801172201824:Unit:=()
def PySem.W.Fast.tw11332808690570283760:Unit:=()
def PySem.W.Fast.tw13821633834096545115:Unit:=()
def PySem.W.Fast.tw16669013863574391099:Unit:=()
def PySem.W.Fast.tw15050148079320706035:Unit:=()
def PySem.W.Fast.tw14165693839174184021:Unit:=()
def PySem.W.Fast.tw301075807138872532:Unit:=()
def PySem.W.Fast.tw2714794249879413989:Unit:=()
def PySem.W.Fast.tw7359612017613509508:Unit:=()
def PySem.W.Fast.tw17109010873511476375:Unit:=()
def PySem.W.Fast.tw609270882331120979:Unit:=()
def PySem.W.Fast.tw7117385936534762931:Unit:=()
def PySem.W.Fast.tw2231652600942317210:Unit:=()
def PySem.W.Fast.tw5998002116212626707:Unit:=()
def PySem.W.Fast.tw17879034309864022854:Unit:=()
def PySem.W.Fast.tw17092494278291040048:Unit:=()
def PySem.W.Fast.tw849382230570280490:Unit:=()
def PySem.W.Fast.tw14479665867438643737:Unit:=()
def PySem.W.Fast.tw8467141555078184098:Unit:=()
def PySem.W.Fast.tw11468306059232271120:Unit:=()
def PySem.W.Fast.tw12633271413161515874:Unit:=()
def PySem.W.Fast.tw7412500382166085718:Unit:=()
def PySem.W.Fast.tw8751825115080691751:Unit:=()
def PySem.W.Fast.tw7169713313652567385:Unit:=()
def PySem.W.Fast.tw679838050816722937:Unit:=()
open PySem PySem.W PyProof.Rows
set_option maxRecDepth 100000 in
set_option maxHeartbeats 0 in
theorem PySem.Challenge.cw_spanmap_k56_whole_line_holds : PySem.Challenge.rw_spanmap_k56_whole_line.Holds := by
 w_on; o_law; k_head; (case hw=>w_witness2)
 k_fill
 refine' FL.walkB (l:=PySem.Challenge.rw_spanmap_k56_whole_line) (k:=8) rfl rfl ⟨rfl,by decide,by decide⟩ (fun w h Y=>PySem.W.kIn_of Y) (fun w=>by kernel_rfl) ?T ?F
 case T =>
  intro w;dsimp only [L2.makers]
  repeat (first
   | exact FL.TabL.nil
   | (apply FL.tabL_no; k_is)
   | (apply FL.tabL_yes; k_is; k_is; exact rfl; k_is; exact rfl; kernel_rfl))
  all_goals decide
 case F =>
  intro w mg fa h KX G hmg;refine' K56.all_mk KX G hmg ..
  all_goals first | ((first | unfold FL.DefM | unfold FL.DefC); iterate 9 (apply Exists.intro); repeat' (first | (unfold FL.LkF; k_is) | k_is | apply And.intro)) | ((first | unfold FL.CN | unfold FL.XN | unfold FL.XI); repeat' (first | k_is | apply And.intro | decide)) | (unfold L2.NoAttr; k_is) | (unfold FL.LkF; k_is) | k_is | k_exc | decide | exact rfl | skip
#print axioms PySem.Challenge.cw_spanmap_k56_whole_line_holds
