import PyProof.Rows.All
import Wide.All
import OpenK.AllK
import Wide.FinOn
import Lean
import PyProof.EqAt
import PyProof.DictItems
import PyProof.DictWalks
import PyProof.Rows.SortStr
import PyProof.Rows.SortShellK
import PyProof.Rows.SortWalk
import KE.KRevIter
import KE.KDictList
import PyProof.CollectIter
import PyProof.DictValues
import KE.KDictSum
import PyProof.EqKinds
import PyProof.TupleCall
import PyProof.ListRange
import PyProof.P3In
import PyProof.NeData
import PyProof.NsDelKeeps
import PyProof.SliceList
import KE.KLam
import KE.KIntText
import PySem.Challenge.RW_spanmap_k53_back_and_again
set_option compiler.extract_closed false
set_option bootstrap.genMatcherCode false
set_option Elab.async false
set_option linter.all false
set_option maxRecDepth 100000
open PySem renaming Addr→aA,Shared→aC,starEach→aF,FuncData→aH,mainGlobals→aM,Program→aZ,wpAny_bind→bB,wpAny→bD,model→bH,World→bK,eval→bM,Around→bO,wpAny_pure→cF,backTo→cN,swapsWith→cV,attributeBase→cW,keywordEach→dC,wpAny_mono→dI,behindInMarks→dQ,foldedSetIterable→dR,holding→dW,wpAny_truthy_bool→eP,compareOp→eQ,backToKw→fC,getMethod→fM,mem_of_lookup→fN,standAt→fP,bootBuiltins→fQ,assignEach→fT,wpAny_Call_Name_kw→gG,sysModules→gU,callWith→iO,NameKind→iP,binaryOp→lG,sliceBounds→mX,wpAny_passesOwn→nB,wpAny_execs_nil→nC,Keyword→nQ,wpAny_holding→pA,assign→pB,wpAny_execs_cons→rD,wpAny_Call_method0_late→rE,codeAny_mono→rK,codeAny→rL,evalArgs_none→rM,letOwnedTupleGo→sG,wpAny_pyIter_revIter→tX,sizeLine_eq→tY,bindArgs→tZ,noteFrame→uI,tupleKind_room_in1→BD,revObj→BE,isTrue→BF,builtinsNs→BG,Paired→BL,valueAt→EM,getItem→EN,callerA→EO,tupleKind→GO,wpAny_field→IY,subscripted→IZ,CmpOp→JB,wpAny_specialOf→LL,wpAny_setField→NU,typeLookup→NV,rawInt→NW,atKey→NX,IntMulOk→OC,wpAny_standAt→QO,swapsWithSole→QP,swappedStores→QQ,bindL→TW,bindC→TX,Model→UC,Drawn→UD,truthy→XB,seqIndex_neg→XD,BindsTo→XM
open List renaming getElem?_set_ne→aD,mem_cons→aE,mem_append_right→aG,length_cons→aK,mem_cons_of_mem→aN,mem_singleton→aQ,getElem?_set_self→aS,getElem?_eq_some_iff→aT,getElem?_append_left→aU,mem_cons_self→aV,getElem?_map→aX,mem_append_left→aY,size_toArray→bA,map_cons→bE,mem_append→bG,getElem?_eq_getElem→bJ,pairwise_cons→bL,length_append→bR,getElem?_append_right→bS,nodup_cons→bT,length_map→bU,getElem?_eq_none→bV,lookup_cons→bZ,getElem?_cons_zero→cD,getElem?_cons_succ→cE,mem_map→cO,getElem?_replicate→cX,drop_eq_getElem_cons→dD,nodup_append→dM,map_nil→dO,mem_filter→eD,find?_cons→eE,mem_map_of_mem→eI,length_reverse→eJ,length_nil→fD,append_nil→fE,append_assoc→fG,cons_append→fR,take_of_length_le→fY,set_cons_zero→fZ,set_cons_succ→gA,map_map→gB,pairwise_append→gO,filterMap_cons→gS,map_append→iB,pairwise_singleton→iE,drop_of_length_le→iR,getElem?_reverse→lC,mem_reverse→lF,mem_filterMap→nA,reverse_cons→nN,pairwise_map→nP,length_filterMap_le→nT,not_mem_nil→oM,drop_length→oN,all_eq_true→oO,length_singleton→pJ,length_replicate→pK,eq_nil_or_concat→pL,concat_eq_append→pM,map_congr_left→sH,length_take→AQ,of_mem_zip→CD,nil_append→CF,dropLast_concat_getLast→CG,filterMap_eq_nil_iff→GR,any_cons→JA,pairwise_reverse→OA,length_filter_le→OB,mem_of_mem_take→OI,mem_of_mem_drop→OJ,map_fst_zip→YH,filter_cons→YI
open PySem.Heap renaming get?_push_of_some→aI,get?_push_size→aW,lt_size→bC,get?_update_other→dP,get?_update_self→lD,size_push→EZ,get?_push_ne→XH
open PySem.W renaming Frag→aJ,nsIn→aP,keepIn→bF,findIn→bY,mg_none_of→cB,kia_one→cG,mg_of→cK,fnOf→cT,emptyDict→dJ,makesIn→eA,codeIn→eR,instObj→eV,tabIn→gR,methodCall_KW→iQ,plainGet→iT,isFn→lX,callWith_K→mF,hasDictIn→mZ,typeIn→pC,lookIn→pD,plainGet_of→rF,callWith_K0→rG,kitx_tuple→rN,specialIn→sP,plainOver→sQ,methodObj→sR,kitx_list→sS,takerIn→uZ,isClsIn→AA,tabObj→BH,noTabs→BI,kitOne→BJ,kitCls→BK,subIn→EQ,mroIn→ER,cellsFrom_some→GQ,kitx_dict→OH,handedIn→QS,readsIn→TY,findCls→TZ,OpenLaw→UA,CodeHd→XF
open Option renaming bind_some→aO,map_some→cZ,map_eq_some_iff→eG,isSome_iff_exists→EY,isSome_map→QT,getD_none→UB
open Nat renaming le_refl→aR,lt_of_lt_of_le→bI,ne_of_lt→bN,le_trans→cJ,zero_le→dA,lt_irrefl→dB,lt_of_le_of_lt→dU,le_of_eq→iU,ne_of_gt→pE,lt_succ_self→BM,le_of_lt→NZ,lt_succ_of_lt→YF,le_succ_of_le→YG
open Bool renaming and_eq_true→cA,false_ne_true→iD,eq_iff_iff→mC,false_eq_true→UE,not_eq_true'→XJ
open PyProof.Rows renaming callWith_type1→dX,envOfC→gD,AllBare→iS,subscriptTail→QR,StrsAre→XE,IntsAre→XG
open Array renaming length_toList→fO,getElem?_toList→kY,getElem?_eq_some_iff→mY,getElem?_setIfInBounds_ne→uJ
open PySem.F renaming plainAttrs_list→hO,slot_dict_itemiterator_iter→rH,type_list_append→ES,slot_list_append→ET,slot_dict_values→EU,slot_dict_items→EW,plainAttrs_dict→EX
open Int renaming emod_nonneg→iC,emod_lt_of_pos→uA,cast_ofNat_Int→uB,le_of_lt→AC,natCast_add→EV,fdiv_eq_ediv_of_nonneg→GS,le_trans→OD,neg_mul→QU,le_refl→QV
open List.Perm renaming refl→AB
namespace HT
noncomputable def sIx(n d:Nat):Option Int->Nat
 |none=>d
 |some v=>if v<0 then (v+(n:Int)).toNat else min v.toNat n
end HT
namespace L2
open PySem
abbrev Key:=Sum Int Str
noncomputable def ixN(n:Nat)(i:Int):Option Nat:=if 0<=i then (if i<n then some i.toNat else none) else if -(n:Int)<=i then some (i+n).toNat else none
noncomputable def atI{α : Type}(xs:List α)(i:Int):Option α:=(ixN xs.length i).bind fun j=>xs[j]?
end L2
namespace FL
open PySem PySem.Spec PyProof.Rows L2
theorem bnd{α β : Type}{o:Option α}{f : α->Option β}{b : β}(h:o.bind f=some b):∃a,o=some a/\f a=some b:=Option.bind_eq_some_iff.mp h
theorem mpd{α β : Type}{o:Option α}{f : α->β}{b : β}(h:o.map f=some b):∃a,o=some a/\f a=b:=eG.mp h
noncomputable def cQ:Nat->Str
 |0=>"Put" | 1=>"Widen" | 2=>"Narrow" | 3=>"Move" | 4=>"Stretch" | 5=>"Mirror" | 6=>"Deed" | 7=>"Shut" | 8=>"Open" | 9=>"Endless" | 10=>"End" | 11=>"Line" | 12=>"Bundle" | 13=>"Desk"
 |20=>"Line" | 21=>"Line" | 22=>"Line" | 23=>"Line" | 24=>"Bundle" | 25=>"Desk" | _=>""
noncomputable def cH:Nat->List Str
 |0=>["span","fill"] | 1=>["fill","at","many"] | 2=>["fill","at","many"] | 3=>["fill","far"] | 4=>["fill","top","bottom"] | 5=>["fill"] | 6=>["fill"] | 7=>["place"] | 8=>["place"] | 11=>["pieces","places","earlier","later"] | 12=>["lying"] | 13=>["lines"]
 |21=>["pieces"] | 22=>["pieces","places"] | 23=>["pieces","places","earlier"] | _=>[]
noncomputable def fnName:Nat->Str
 |0=>"either" | 1=>"if_both" | 2=>"if_alone" | 3=>"summed" | 4=>"_law_first" | 5=>"_law_both" | 6=>"_law_left" | 7=>"_law_sum" | 8=>"_law_none" | _=>""
inductive D where
 |non | bl (b:Bool) | int (i:Int) | str (x:Str) | tup (ds:List D) | lst (ds:List D)
 |dct (ks:List Key) (ds:List D) | ins (t:Nat) (ds:List D) | clo (m n:Nat) (ds:List D)
 |dcf (ks:List Key) (ds:List D)
mutual
noncomputable def flat:D->Bool
 | .non | .bl _ | .int _ | .str _=>true
 | .tup ds=>flats ds
 |_=>false
noncomputable def flats:List D->Bool
 |[]=>true
 |d::r=>flat d&&flats r
end
noncomputable def xName:Nat->Str
 |0=>"SpanError" | 1=>"Empty" | 2=>"NoEnd" | 3=>"Clash" | 4=>"NoCount" | 5=>"NoShare" | 6=>"NoName" | 7=>"NoMark" | 8=>"NoDeed" | 9=>"NoRule" | 10=>"TooMuch" | 11=>"NoText" | _=>"NoRow"
inductive OT where
 |val (d:D) | lst (l:List OT) | tup (l:List OT) | dct (ks:List Key) (l:List OT) | ins (t:Nat) (l:List OT)
mutual
noncomputable def otD:OT->D
 | .val d=>d
 | .lst l=>.lst (otDs l)
 | .tup l=>.tup (otDs l)
 | .dct ks l=>.dct ks (otDs l)
 | .ins t l=>.ins t (otDs l)
noncomputable def otDs:List OT->List D
 |[]=>[]
 |t::r=>otD t::otDs r
end
inductive Sl where
 |no | v (d:D) | own (l:List D) | exc (t:Nat) | fr (l:List D) | ob (r:Option Nat) (t:OT)
abbrev FE:=List Sl->Option D
abbrev FT:=List Sl->Option Bool
abbrev FA:=List Sl->Option (List D)
noncomputable def mkL(f:FA):FE:=fun ds=>(f ds).map D.lst
noncomputable def qC(i:Nat):FE:=fun ds=>match ds[i]? with | some (.v d)=>some d | _=>none
noncomputable def zJ(i:Nat):FE:=fun ds=>match ds[i]? with | some (.v d)=>some d | some (.own l)=>some (.lst l) | _=>none
noncomputable def zA(d:D):FE:=fun _=>some d
noncomputable def zI(op:D->D->Option D)(fa fb:FE):FE:=fun ds=>(fa ds).bind fun x=>(fb ds).bind fun y=>op x y
noncomputable def isB:D->Option Bool
 | .bl b=>some b
 |_=>none
noncomputable def zS(f:FE):FT:=fun ds=>(f ds).bind isB
noncomputable def jW:D->D->Option D
 | .int i,.int j=>some (.int (i+j))
 | .str x,.str y=>if x.length+y.length<=sizeLine then some (.str (x++y)) else none
 |_,_=>none
noncomputable def subD:D->D->Option D
 | .int i,.int j=>some (.int (i-j))
 |_,_=>none
def divOk(j:Int):Prop:=0<j/\j.natAbs.log2<9000
noncomputable instance divOkD(j:Int):Decidable (divOk j):=Classical.propDecidable _
noncomputable def qR:D->D->Option D
 | .int i,.int j=>if divOk j then some (.int (i/j)) else none
 |_,_=>none
noncomputable def jA:D->D->Option D
 | .int i,.int j=>if 0<j then some (.int (i%j)) else none
 |_,_=>none
noncomputable def cmpI(p:Int->Int->Bool):D->D->Option D
 | .int i,.int j=>some (.bl (p i j))
 |_,_=>none
noncomputable def andT(c d:FT):FT:=fun ds=>(c ds).bind fun b=>if b=true then d ds else some false
noncomputable def orT(c d:FT):FT:=fun ds=>(c ds).bind fun b=>if b=true then some true else d ds
noncomputable def notT(c:FT):FT:=fun ds=>(c ds).map not
noncomputable def andV(f g:FE):FE:=fun ds=>(f ds).bind fun d=>match d with | .bl true=>g ds | .bl false=>some (.bl false) | _=>none
noncomputable def orV(f g:FE):FE:=fun ds=>(f ds).bind fun d=>match d with | .bl true=>some (.bl true) | .bl false=>g ds | _=>none
noncomputable def notV(f:FE):FE:=fun ds=>(f ds).bind fun d=>match d with | .bl b=>some (.bl (!b)) | _=>none
noncomputable def ifV(c:FT)(f g:FE):FE:=fun ds=>(c ds).bind fun b=>if b=true then f ds else g ds
noncomputable def chain(op op':D->D->Option D)(fa fb fc:FE):FE:=fun ds=>(fa ds).bind fun x=>(fb ds).bind fun y=>(op x y).bind fun z=>match z with
 | .bl true=>(fc ds).bind fun w=>op' y w
 | .bl false=>some (.bl false)
 |_=>none
noncomputable def zB(f:FE)(g:FA):FA:=fun ds=>(f ds).bind fun x=>(g ds).map fun r=>x::r
noncomputable def zV:FA:=fun _=>some []
noncomputable def qD(f:FA):FA:=fun ds=>(f ds).bind fun l=>if l.length<=sizeLine then some l else none
noncomputable def mkT(f:FA):FE:=fun ds=>(f ds).map D.tup
noncomputable def ixD:D->D->Option D
 | .lst l,.int i=>atI l i
 | .tup l,.int i=>atI l i
 | .str x,.int i=>if x.length<=sizeLine then (atI x.cps.toList i).map fun c=>.str ⟨#[c]⟩ else none
 |_,_=>none
inductive Ret where
 |val (d:D) | fresh (l:List D) | any (d:D) | obj (t:OT)
noncomputable def retV:Ret->Option D
 | .val d=>some d
 | .fresh l=>some (.lst l)
 | .any _=>none
 | .obj t=>some (otD t)
noncomputable def retF:Ret->Option (List D)
 | .fresh l=>some l
 |_=>none
noncomputable def qN(n:Nat)(F:List D->Option Ret)(g:FA):FE:=fun ds=>(g ds).bind fun l=>if l.length=n then (F l).bind retV else none
noncomputable def vJ(n:Nat)(F:List D->Option Ret)(g:FA):FA:=fun ds=>(g ds).bind fun l=>if l.length=n then (F l).bind retF else none
noncomputable def callB(F:List D->Option D)(g:FA):FE:=fun ds=>(g ds).bind F
noncomputable def lenD:List D->Option D
 |[.lst l]=>some (.int l.length)
 |[.tup l]=>some (.int l.length)
 |[.str x]=>if x.length<=sizeLine then some (.int x.length) else none
 |_=>none
inductive Out where
 |nx (ds:List Sl) | rt (r:Ret) | bk (ds:List Sl) | ct (ds:List Sl)
abbrev FS:=List Sl->Option Out
noncomputable def qJ:FS:=fun ds=>some (.nx ds)
noncomputable def qG(f g:FS):FS:=fun ds=>(f ds).bind fun o=>match o with | .nx ds'=>g ds' | o=>some o
noncomputable def ifG(c:FT)(f g:FS):FS:=fun ds=>(c ds).bind fun b=>if b=true then f ds else g ds
noncomputable def jL(i:Nat)(f:FE):FS:=fun ds=>(f ds).map fun d=>.nx (ds.set i (.v d))
noncomputable def setOG(i:Nat)(f:FA):FS:=fun ds=>(f ds).map fun l=>.nx (ds.set i (.own l))
noncomputable def flatR(d:D):Option Out:=if flat d=true then some (.rt (.val d)) else none
noncomputable def retG(f:FE):FS:=fun ds=>(f ds).bind flatR
noncomputable def flatF(l:List D):Option Out:=if flats l=true then some (.rt (.fresh l)) else none
noncomputable def retOG(f:FA):FS:=fun ds=>(f ds).bind flatF
noncomputable def retXG(i:Nat):FS:=fun ds=>match ds[i]? with | some (.own l)=>flatF l | _=>none
noncomputable def putG(i:Nat)(fk fe:FE):FS:=fun ds=>match ds[i]? with
 | some (.own l) => (fe ds).bind fun d => (fk ds).bind fun k => match k with
   | .int n=>(ixN l.length n).map fun j=>.nx (ds.set i (.own (l.set j d)))
   |_=>none
 |_=>none
noncomputable def appG(i:Nat)(fe:FE):FS:=fun ds=>match ds[i]? with
 |some (.own l)=>(fe ds).bind fun d=>if l.length<sizeLine then some (.nx (ds.set i (.own (l++[d])))) else none
 |_=>none
noncomputable def args(n:Nat)(ds:List D):List Sl:=ds.map Sl.v++List.replicate (n-ds.length) Sl.no
noncomputable def sgns(x:Str):List D:=x.cps.toList.map fun c=>D.str ⟨#[c]⟩
noncomputable def asS:D->Option (List D)
 | .str x=>some (sgns x)
 |_=>none
noncomputable def viaA(f:FE)(k:D->Option (List D)):FA:=fun ds=>(f ds).bind k
noncomputable def gQ(lo:Int)(n:Nat):List D:=(List.range n).map fun(k:Nat)=>D.int (lo+(k:Int))
def okR(j:Int):Prop:=-(2 ^ 62)<=j/\j<2 ^ 62
noncomputable instance okRD(j:Int):Decidable (okR j):=Classical.propDecidable _
noncomputable def rng1(f:FE):FA:=fun ds=>(f ds).bind fun d=>match d with | .int j=>if okR j then some (gQ 0 j.toNat) else none | _=>none
noncomputable def qA(i:Nat):D->List Sl->Option (List Sl):=fun d ds=>some (ds.set i (.v d))
noncomputable def tgNil:List D->List Sl->Option (List Sl)
 |[],ds=>some ds
 |_,_=>none
noncomputable def zU(g:D->List Sl->Option (List Sl))(h:List D->List Sl->Option (List Sl)):List D->List Sl->Option (List Sl)
 |d::r,ds=>(g d ds).bind fun ds'=>h r ds'
 |_,_=>none
noncomputable def tupG(n:Nat)(h:List D->List Sl->Option (List Sl)):D->List Sl->Option (List Sl)
 | .tup l,ds=>if l.length=n then h l ds else none
 |_,_=>none
noncomputable def jM(ga:D->List Sl->Option (List Sl))(body:FS):List D->List Sl->Option Out
 |[],ds=>some (.nx ds)
 | d :: r, ds => (ga d ds).bind fun ds1 => (body ds1).bind fun o => match o with
   | .nx ds2=>jM ga body r ds2
   | .ct ds2=>jM ga body r ds2
   | .bk ds2=>some (.nx ds2)
   | .rt r=>some (.rt r)
noncomputable def forG(fi:FA)(ga:D->List Sl->Option (List Sl))(body:FS):FS:=fun ds=>(fi ds).bind fun items=>jM ga body items ds
noncomputable def compL(ga:D->List Sl->Option (List Sl))(tt:FT)(fe:FE)(s0:List Sl):List D->Option (List D)
 |[]=>some []
 |d::r=>(ga d s0).bind fun ds1=>(tt ds1).bind fun b=>if b=true then (fe ds1).bind fun y=>(compL ga tt fe s0 r).map fun ys=>y::ys else compL ga tt fe s0 r
noncomputable def qZ(mp:List (Option Nat))(ds:List Sl):List Sl:=mp.map fun o=>match o with
 |some j=>(match ds[j]? with | some (.v d)=>.v d | _=>.no)
 |none=>.no
noncomputable def compG(fi:FA)(mp:List (Option Nat))(ga:D->List Sl->Option (List Sl))(tt:FT)(fe:FE):FA:=fun ds=>(fi ds).bind fun items=>if items.length<=sizeLine then compL ga tt fe (qZ mp ds) items else none
noncomputable def tyD:D->Option String
 | .non=>some "NoneType"
 | .bl _=>some "bool"
 | .int _=>some "int"
 | .str _=>some "str"
 | .tup _=>some "tuple"
 | .lst _=>some "list"
 | .dct _ _=>some "dict"
 | .ins _ _=>none
 | .clo _ _ _=>none
 | .dcf _ _=>none
noncomputable def kitN:List String:=["NoneType","bool","int","str","tuple","list","dict"]
noncomputable def kitT:List String:=["bool","int","str","tuple","list","dict"]
noncomputable def kitF(t T:String):Option Bool:=if t∈kitN/\T∈kitT then some (t==T||(t=="bool"&&T=="int")) else none
noncomputable def isiD(T:String)(d:D):Option D:=(tyD d).bind fun t=>(kitF t T).map D.bl
noncomputable def isiG(T:String)(f:FE):FE:=fun ds=>(f ds).bind (isiD T)
noncomputable def blsD:List D->Option (List Bool)
 |[]=>some []
 | .bl b::r=>(blsD r).map fun bs=>b::bs
 |_=>none
noncomputable def allD:List D->Option D
 |[.lst l]=>(blsD l).map fun bs=>.bl (bs.all id)
 |_=>none
noncomputable def negD:D->Option D
 | .int i=>some (.int (-i))
 |_=>none
noncomputable def un1(op:D->Option D)(f:FE):FE:=fun ds=>(f ds).bind op
noncomputable def inS:D->D->Option D
 | .str i,.str j=>some (.bl (!(Builtin.Str.occurrences j i 0 j.length 1).isEmpty))
 |_,_=>none
noncomputable def retDG(f:FE):FS:=fun ds=>(f ds).map fun d=>.rt (.val d)
noncomputable def runG(g:FS)(n:Nat):List D->Option Ret:=fun ds=>match g (args n ds) with
 |some (.rt r)=>some r
 |some (.nx _)=>some (.val .non)
 |_=>none
def CPowB(i j:Int):Prop:=0<=j/\(Builtin.Int.intBits i:Int)*j<=2 ^ 27
mutual
noncomputable def toPy:D->PyData
 | .non=>.none
 | .bl b=>.bool b
 | .int i=>.int i
 | .str x=>.str x
 | .tup ds=>.tuple (toPys ds)
 | .lst ds=>.list (toPys ds)
 | .dct _ _=>.none
 | .ins _ _=>.none
 | .clo _ _ _=>.none
 | .dcf _ _=>.none
noncomputable def toPys:List D->List PyData
 |[]=>[]
 |d::r=>toPy d::toPys r
end
mutual
noncomputable def shal:Nat->D->Bool
 |_,.non=>true
 |_,.bl _=>true
 |_,.int _=>true
 |_,.str x=>PyData.strOk x
 |n,.tup ds=>shals n ds
 |n,.lst ds=>shals n ds
 |_,.dct _ _=>false
 |_,.ins _ _=>false
 |_,.clo _ _ _=>false
 |_,.dcf _ _=>false
noncomputable def shals:Nat->List D->Bool
 |_,[]=>true
 |0,_::_=>false
 |n+1,d::r=>shal n d&&shals (n+1) r
end
noncomputable def eqvD(x y:D):Bool:=PyData.eqv (toPy x) (toPy y)
noncomputable def eqvs(x y:List D):Bool:=PyData.eqvAll (toPys x) (toPys y)
noncomputable def eqD(x y:D):Option D:=if shal 40 x=true/\shal 40 y=true then some (.bl (eqvD x y)) else none
noncomputable def neD(x y:D):Option D:=if shal 40 x=true/\shal 40 y=true then some (.bl (!eqvD x y)) else none
noncomputable def isD:D->D->Option D
 | .non,.non=>some (.bl true)
 |_,.non=>some (.bl false)
 |_,_=>none
noncomputable def notD:D->D->Option D
 | .non,.non=>some (.bl false)
 |_,.non=>some (.bl true)
 |_,_=>none
noncomputable def asLT:D->Option (List D)
 | .lst l=>some l
 | .tup l=>some l
 |_=>none
noncomputable instance mulOkD(i j:Int):Decidable (OC i j):=Classical.propDecidable _
noncomputable instance powOkD(i j:Int):Decidable (CPowB i j):=Classical.propDecidable _
noncomputable def xV:D->D->Option D
 | .int i,.int j=>if OC i j then some (.int (i*j)) else none
 |_,_=>none
noncomputable def powD:D->D->Option D
 | .int i,.int j=>if CPowB i j then some (.int (i ^ j.toNat)) else none
 |_,_=>none
noncomputable def catA(fa fb:FE):FA:=fun ds=>(fa ds).bind fun x=>(fb ds).bind fun y=>match x,y with
 | .lst a,.lst b=>if a.length+b.length<=sizeLine then some (a++b) else none
 |_,_=>none
noncomputable def noP:List Sl->Option (Option Int):=fun _=>some none
noncomputable def soP(f:FE):List Sl->Option (Option Int):=fun ds=>(f ds).bind fun d=>match d with | .int i=>some (some i) | _=>none
noncomputable def cutD(l:List D)(lo hi:Option Int):List D:=(l.drop (HT.sIx l.length 0 lo)).take (HT.sIx l.length l.length hi-HT.sIx l.length 0 lo)
noncomputable def sliA(f:FE)(lo hi:List Sl->Option (Option Int)):FA:=fun ds=>(f ds).bind fun d=>(lo ds).bind fun a=>(hi ds).bind fun b=>match d with
 | .lst l=>some (cutD l a b)
 |_=>none
noncomputable def lisA(f:FE):FA:=fun ds=>(f ds).bind asLT
noncomputable def mxD:List D->Option D
 |[.int i,.int j]=>some (.int (if j>i then j else i))
 |_=>none
noncomputable def mnD:List D->Option D
 |[.int i,.int j]=>some (.int (if j<i then j else i))
 |_=>none
noncomputable def absD:List D->Option D
 |[.int i]=>some (.int (if i<0 then -i else i))
 |_=>none
noncomputable def truD:D->Option Bool
 | .non=>some false
 | .bl b=>some b
 | .int i=>some (i != 0)
 | .str x=>if x.length<=sizeLine then some ((x.length:Int) != 0) else none
 | .tup l=>some (!l.isEmpty)
 | .lst l=>some (!l.isEmpty)
 |_=>none
noncomputable def testT(f:FE):FT:=fun ds=>(f ds).bind truD
noncomputable def relS(i:Nat)(ds:List Sl):List Sl:=match ds[i]? with | some (.own l)=>ds.set i (.v (.lst l)) | _=>ds
noncomputable def asgG(ga:D->List Sl->Option (List Sl))(f:FE):FS:=fun ds=>(f ds).bind fun d=>(ga d ds).map .nx
noncomputable def extG(i:Nat)(fe:FA):FS:=fun ds=>match ds[i]? with
 |some (.own l)=>(fe ds).bind fun d=>if l.length+d.length<=sizeLine then some (.nx (ds.set i (.own (l++d)))) else none
 |_=>none
noncomputable def clrG(i:Nat):FS:=fun ds=>match ds[i]? with
 |some (.own l)=>some (.nx (ds.set i (.own [])))
 |_=>none
noncomputable def ltD:D->D->Option D:=cmpI fun i j=>decide (i<j)
noncomputable def leD:D->D->Option D:=cmpI fun i j=>decide (i<=j)
noncomputable def gtD:D->D->Option D:=cmpI fun i j=>decide (j<i)
noncomputable def geD:D->D->Option D:=cmpI fun i j=>decide (j<=i)
noncomputable def rng2(fa fb:FE):FA:=fun ds=>(fa ds).bind fun x=>(fb ds).bind fun y=>match x,y with
 | .int i,.int j=>if okR i/\okR j then some (gQ i (j-i).toNat) else none
 |_,_=>none
noncomputable def RC(lo c:Int)(n:Nat):List D:=(List.range n).map fun(k:Nat)=>D.int (lo+(k:Int)*c)
noncomputable def YV(i j c:Int):Nat:=if i<j then ((j-i-1)/c+1).toNat else 0
def okR3(i j c:Int):Prop:=-(2 ^ 61)<=i/\i<2 ^ 61/\-(2 ^ 61)<=j/\j<2 ^ 61/\0<c/\c<1000000
noncomputable instance okR3D(i j c:Int):Decidable (okR3 i j c):=Classical.propDecidable _
noncomputable def rng3(fa fb fc:FE):FA:=fun ds=>(fa ds).bind fun x=>(fb ds).bind fun y=>(fc ds).bind fun z=>match x,y,z with
 | .int i,.int j,.int c=>if okR3 i j c then some (RC i c (YV i j c)) else none
 |_,_,_=>none
noncomputable def revA(f:FE):FA:=fun ds=>(f ds).bind fun d=>match d with
 | .lst l=>some l.reverse
 |_=>none
noncomputable def augA(i:Nat)(f:FE):FS:=fun ds=>(qC i ds).bind fun x=>(f ds).bind fun y=>match x,y with
 | .int a,.int b=>some (.nx (ds.set i (.v (.int (a+b)))))
 |_,_=>none
noncomputable def parG(i j:Nat)(f:FA):FS:=fun ds=>(f ds).bind fun l=>match l with
 |[a,b]=>some (.nx ((ds.set i (.v a)).set j (.v b)))
 |_=>none
noncomputable def int1D:List D->Option D
 |[.int i]=>some (.int i)
 |[.bl b]=>some (.int (if b then 1 else 0))
 |_=>none
abbrev Fun2:=D->List D->Option Ret
end FL
namespace FL
open PySem PyProof.Rows L2
noncomputable def fldD(ix:List (Nat×Nat)):D->Option D
 | .ins t ds=>(ix.lookup t).bind fun i=>ds[i]?
 |_=>none
noncomputable def fldG(ix:List (Nat×Nat))(f:FE):FE:=fun ds=>(f ds).bind (fldD ix)
noncomputable def methR(n:Nat)(cs:List Nat)(F:Nat->List D->Option Ret)(o:D)(l:List D):Option Ret:=match o with
 | .ins t es=>if t∈cs/\l.length=n then F t (.ins t es::l) else none
 |_=>none
noncomputable def methV(n:Nat)(cs:List Nat)(F:Nat->List D->Option Ret)(fo:FE)(g:FA):FE:=fun ds=>(fo ds).bind fun o=>(g ds).bind fun l=>(methR n cs F o l).bind retV
noncomputable def methF(n:Nat)(cs:List Nat)(F:Nat->List D->Option Ret)(fo:FE)(g:FA):FA:=fun ds=>(fo ds).bind fun o=>(g ds).bind fun l=>(methR n cs F o l).bind retF
noncomputable def makeG(t n:Nat)(G:List D->Option (List D))(g:FA):FE:=fun ds=>(g ds).bind fun l=>if l.length=n/\flats l=true then (G l).map (D.ins t) else none
abbrev FN:=List Sl->Option (List D)
noncomputable def seqN(f g:FN):FN:=fun ds=>(f ds).bind fun a=>(g ds).map fun b=>a++b
noncomputable def fldN(f:FE):FN:=fun ds=>(f ds).bind fun d=>if flat d=true then some [d] else none
noncomputable def dropN(f:FE):FN:=fun ds=>(f ds).map fun _=>[]
noncomputable def supN(G:List D->Option (List D)):FN:=fun _=>G []
noncomputable def argsN(n:Nat)(ds:List D):List Sl:=Sl.no::(ds.map Sl.v++List.replicate (n-(ds.length+1)) Sl.no)
noncomputable def runN(g:FN)(n:Nat):List D->Option (List D):=fun ds=>(g (argsN n ds)).bind fun new=>if flats new=true then some new else none
end FL
namespace FL
open PySem
noncomputable def ifX(c:FT)(a b:List Sl->Bool):List Sl->Bool:=fun ds=>match c ds with
 |some true=>a ds
 |some false=>b ds
 |none=>false
noncomputable def DK:List Sl->Bool:=fun _=>false
noncomputable def tW:List Sl->Bool:=fun _=>true
noncomputable def runX(x:List Sl->Bool)(n:Nat):List D->Bool:=fun ds=>x (args n ds)
def okRB(i j:Int):Prop:=-(2 ^ 61)<=i/\i<2 ^ 61/\-(2 ^ 61)<=j/\j<2 ^ 61
noncomputable instance okRBD(i j:Int):Decidable (okRB i j):=Classical.propDecidable _
end FL
namespace FL
noncomputable def sltW(f:FE)(lo hi:List Sl->Option (Option Int)):FE:=fun ds=>(f ds).bind fun d=>(lo ds).bind fun a=>(hi ds).bind fun b=>match d with
 | .tup l=>some (.tup (cutD l a b))
 |_=>none
end FL
namespace FL
open PySem PyProof.Rows L2
noncomputable def rngL(fa fb:FE):FA:=fun ds=>(fa ds).bind fun x=>(fb ds).bind fun y=>match x,y with
 | .int i,.int j=>some (gQ i (j-i).toNat)
 |_,_=>none
@[simp] theorem rngL_eq(fa fb:FE)(ds:List Sl):rngL fa fb ds=(fa ds).bind fun x=>(fb ds).bind fun y=>match x,y with
 | .int i,.int j=>some (gQ i (j-i).toNat)
 |_,_=>none:=rfl
noncomputable def tryNG(g:FS)(x:List Sl->Bool)(h:FS):FS:=fun ds=>if x ds=true then h ds else g ds
noncomputable instance mulOkSD(x:Str)(n:Int):Decidable (MulOk x n):=Classical.propDecidable _
noncomputable def slsS(f:FE)(lo hi:List Sl->Option (Option Int)):FE:=fun ds=>(f ds).bind fun d=>(lo ds).bind fun a=>(hi ds).bind fun b=>match d with
 | .str x=>if x.length<=sizeLine then some (.str (Txt.slice x a b)) else none
 |_=>none
abbrev FO:=List Sl->Option OT
abbrev FOs:=List Sl->Option (List OT)
noncomputable def getN(i:Nat):FE:=fun ds=>match ds[i]? with
 |some (.v d)=>some d
 |some (.own l)=>some (.lst l)
 |some (.ob _ t)=>some (otD t)
 |_=>none
noncomputable def vO(f:FE):FO:=fun ds=>(f ds).map OT.val
noncomputable def lO(f:FA):FO:=fun ds=>(f ds).map fun l=>.lst (l.map OT.val)
noncomputable def nilO:FOs:=fun _=>some []
noncomputable def consO(f:FO)(g:FOs):FOs:=fun ds=>(f ds).bind fun x=>(g ds).map fun r=>x::r
noncomputable def tO(f:FOs):FO:=fun ds=>(f ds).bind fun l=>if l.length<=sizeLine then some (.tup l) else none
noncomputable def sO(f:FOs):FO:=fun ds=>(f ds).bind fun l=>if l.length<=sizeLine then some (.lst l) else none
noncomputable def setB(i:Nat)(f:FO):FS:=fun ds=>(f ds).map fun t=>.nx (ds.set i (.ob none t))
mutual
noncomputable def flatO:OT->Bool
 | .val d=>flat d
 | .lst l=>sN l
 | .tup l=>sN l
 | .dct _ l=>sN l
 | .ins _ l=>sN l
noncomputable def sN:List OT->Bool
 |[]=>true
 |t::r=>flatO t&&sN r
end
noncomputable def subO:List Nat->OT->Option OT
 |[],t=>some t
 |k::p,.tup l=>(l[k]?).bind (subO p)
 |k::p,.lst l=>(l[k]?).bind (subO p)
 |k::p,.dct _ l=>(l[k]?).bind (subO p)
 |k::p,.ins _ l=>(l[k]?).bind (subO p)
 |_::_,.val _=>none
noncomputable def putO(u:OT):List Nat->OT->OT
 |[],_=>u
 |k::p,.tup l=>.tup (l.modify k (putO u p))
 |k::p,.lst l=>.lst (l.modify k (putO u p))
 |k::p,.dct ks l=>.dct ks (l.modify k (putO u p))
 |k::p,.ins t l=>.ins t (l.modify k (putO u p))
 |_::_,.val d=>.val d
abbrev FP:=List Sl->Option (Nat×List Nat×OT)
noncomputable def varP(i:Nat):FP:=fun ds=>match ds[i]? with
 |some (.ob _ t)=>some (i,[],t)
 |_=>none
noncomputable def atP(ix:List (Nat×Nat))(f:FP):FP:=fun ds=>(f ds).bind fun q=>match q.2.2 with
 | .ins t l=>(ix.lookup t).bind fun k=>(l[k]?).map fun u=>(q.1,q.2.1++[k],u)
 |_=>none
noncomputable def putP(q:Nat×List Nat×OT)(u:OT)(ds:List Sl):List Sl:=match ds[q.1]? with
 |some (.ob r t)=>ds.set q.1 (.ob r (putO u q.2.1 t))
 |_=>ds
@[simp] theorem getN_eq(i:Nat)(ds:List Sl):getN i ds=match ds[i]? with
 |some (.v d)=>some d
 |some (.own l)=>some (.lst l)
 |some (.ob _ t)=>some (otD t)
 |_=>none:=rfl
@[simp] theorem vO_eq(f:FE)(ds:List Sl):vO f ds=(f ds).map OT.val:=rfl
@[simp] theorem lO_eq(f:FA)(ds:List Sl):lO f ds=(f ds).map fun l=>.lst (l.map OT.val):=rfl
@[simp] theorem nilO_eq(ds:List Sl):nilO ds=some []:=rfl
@[simp] theorem consO_eq(f:FO)(g:FOs)(ds:List Sl):consO f g ds=(f ds).bind fun x=>(g ds).map fun r=>x::r:=rfl
@[simp] theorem tO_eq(f:FOs)(ds:List Sl):tO f ds=(f ds).bind fun l=>if l.length<=sizeLine then some (.tup l) else none:=rfl
@[simp] theorem setB_eq(i:Nat)(f:FO)(ds:List Sl):setB i f ds=(f ds).map fun t=>.nx (ds.set i (.ob none t)):=rfl
theorem HV:∀l:List D,otDs (l.map OT.val)=l
 |[]=>by simp[otDs]
 |d::r=>by simp[otDs,otD,HV r]
noncomputable def valP(f:FP):FE:=fun ds=>(f ds).bind fun q=>match q.2.2 with
 | .val d=>some d
 |_=>none
noncomputable def seeP(f:FP):FE:=fun ds=>(f ds).map fun q=>otD q.2.2
noncomputable def setAt(ix:List (Nat×Nat))(f:FP)(g:FO):FS:=fun ds=>(g ds).bind fun T=>(f ds).bind fun q=>match q.2.2 with
 | .ins t l=>(ix.lookup t).bind fun k=>if k<l.length/\l.length<900 then some (.nx (putP q (.ins t (l.set k T)) ds)) else none
 |_=>none
noncomputable def appP(f:FP)(g:FE):FS:=fun ds=>(f ds).bind fun q=>(g ds).bind fun d=>match q.2.2 with
 | .lst l=>if l.length<sizeLine then some (.nx (putP q (.lst (l++[.val d])) ds)) else none
 |_=>none
noncomputable def keyD:D->Option Key
 | .int i=>some (.inl i)
 | .str x=>some (.inr x)
 |_=>none
noncomputable def putTs(k:Key)(T:OT):List Key->List OT->List OT
 |k'::ks,t::ts=>(if k'=k then T else t)::putTs k T ks ts
 |_,ts=>ts
noncomputable def hasK(k:Key)(ks:List Key):Bool:=ks.any fun k'=>decide (k'=k)
noncomputable def putKT(k:Key)(T:OT)(ks:List Key)(ts:List OT):OT:=if hasK k ks=true then .dct ks (putTs k T ks ts) else .dct (ks++[k]) (ts++[T])
noncomputable def getKD(k:Key):List Key->List D->Option D
 |k'::ks,d::ds=>if k'=k then some d else getKD k ks ds
 |_,_=>none
noncomputable def kdD:D->Option (List Key×List D)
 | .dct ks l=>some (ks,l)
 | .dcf ks l=>some (ks,l)
 |_=>none
noncomputable def dO0:FO:=fun _=>some (.dct [] [])
noncomputable def dputG(f:FP)(fk fv:FE):FS:=fun ds=>(fv ds).bind fun d=>(f ds).bind fun q=>(fk ds).bind fun y=>(keyD y).bind fun k=>match q.2.2 with
 | .dct ks ts=>if ks.length<sizeLine then some (.nx (putP q (putKT k (.val d) ks ts) ds)) else none
 |_=>none
noncomputable def dgetG(fd fk:FE):FE:=fun ds=>(fd ds).bind fun x=>(fk ds).bind fun y=>(keyD y).bind fun k=>(kdD x).bind fun p=>getKD k p.1 p.2
noncomputable def dinG(fk fd:FE):FT:=fun ds=>(fk ds).bind fun y=>(keyD y).bind fun k=>(fd ds).bind fun x=>(kdD x).map fun p=>hasK k p.1
noncomputable def dnotG(fk fd:FE):FT:=fun ds=>(dinG fk fd ds).map fun b=>!b
noncomputable def uT(fd:FE):FO:=fun ds=>(fd ds).bind fun x=>(kdD x).map fun p=>.dct p.1 (p.2.map OT.val)
noncomputable def valsO:List OT->Option (List D)
 |[]=>some []
 | .val d::r=>(valsO r).map fun l=>d::l
 |_::_=>none
noncomputable def frzDG(i:Nat)(g:FS):FS:=fun ds=>match ds[i]? with
 |some (.ob _ (.dct ks ts))=>(valsO ts).bind fun l=>g (ds.set i (.v (.dcf ks l)))
 |_=>none
noncomputable def keyDD:Key->D
 | .inl i=>.int i
 | .inr x=>.str x
noncomputable def gL(ks:List Key)(l:List D):List D:=(ks.zip l).map fun p=>.tup [keyDD p.1,p.2]
noncomputable def oQ(f:FE):FA:=fun ds=>(f ds).bind fun x=>match x with
 | .dcf ks l=>some (gL ks l)
 |_=>none
noncomputable def argsL(n:Nat)(T:OT)(l:List D):List Sl:=.ob (some 0) T::args (n-1) l
noncomputable def ob0:Option Sl->Option OT
 |some (.ob (some 0) T)=>some T
 |_=>none
noncomputable def lentF(g:FS)(n:Nat)(T:OT)(l:List D):Option OT:=match g (argsL n T l) with
 |some (.nx ds)=>ob0 ds[0]?
 |_=>none
noncomputable def lentG(n:Nat)(cs:List Nat)(F:Nat->OT->List D->Option OT)(f:FP)(g:FA):FS:=fun ds=>(f ds).bind fun q=>(g ds).bind fun l=>match q.2.2 with
 | .ins t ts=>if t∈cs/\l.length=n then (F t (.ins t ts) l).map fun T'=>.nx (putP q T' ds) else none
 |_=>none
noncomputable def setNw(t t':Nat)(f:FP)(g:FO):FS:=fun ds=>(g ds).bind fun T=>(f ds).bind fun q=>match q.2.2 with
 | .ins c l=>if c=t/\l.length<900 then some (.nx (putP q (.ins t' (l++[T])) ds)) else none
 |_=>none
noncomputable def makeO(t n m:Nat)(F:OT->List D->Option OT)(g:FA):FO:=fun ds=>(g ds).bind fun l=>if l.length+m=n then F (.ins t []) (l++List.replicate m .non) else none
abbrev FX:=List Sl->Option (D×List Sl)
noncomputable def popX(f:FP):FX:=fun ds=>(f ds).bind fun q=>match q.2.2 with
 | .lst l => (match l.getLast? with
   |some (.val d)=>some (d,putP q (.lst l.dropLast) ds)
   |_=>none)
 |_=>none
noncomputable def lentX(cs:List Nat)(F:Nat->OT->List D->Option OT)(i:Nat)(g:FX):FS:=fun ds=>(varP i ds).bind fun q0=>match q0.2.2 with
 | .ins t _ => if t ∈ cs then (g ds).bind fun p => (varP i p.2).bind fun q => match q.2.2 with
   | .ins t' ts=>if t'=t then (F t (.ins t ts) [p.1]).map fun T=>.nx (putP q T p.2) else none
   |_=>none
   else none
 |_=>none
def leT(a b:Str):Prop:=¬b.cps.toList<a.cps.toList
theorem IC{a b c:Str}(h1:leT a b)(h2:leT b c):leT a c:=fun h=>by
 rcases strKind.negTrans c.cps.toList b.cps.toList a.cps.toList (decide_eq_true h) with q | q
 . exact h2 (of_decide_eq_true q)
 . exact h1 (of_decide_eq_true q)
theorem VR{a b:Str}(h:a.cps.toList<b.cps.toList):leT a b:=fun q=>List.lt_irrefl _ (List.lt_trans h q)
theorem JY{a b:Str}(h1:leT a b)(h2:leT b a):a=b:=by
 have:a.cps.toList=b.cps.toList:=List.le_antisymm (List.not_lt.mp h1) (List.not_lt.mp h2);cases a;cases b;simp only[Str.mk.injEq];exact Array.toList_inj.mp this
noncomputable def insT(k:Str):List Str->List Str
 |[]=>[k]
 |a::l=>if a.cps.toList<k.cps.toList then a::insT k l else k::a::l
noncomputable def srtT(ns:List Str):List Str:=ns.foldr insT []
theorem kE(k:Str):∀l:List Str,(insT k l).Perm (k::l)
 |[]=>AB _
 | a :: l => by
   unfold insT
   split
   . exact(List.Perm.cons a (kE k l)).trans (List.Perm.swap _ _ _)
   . exact AB _
theorem srtT_perm:∀ns:List Str,(srtT ns).Perm ns
 |[]=>AB _
 |k::ns=>(kE k _).trans (List.Perm.cons k (srtT_perm ns))
theorem SU(k:Str):∀l:List Str,l.Pairwise leT->(insT k l).Pairwise leT
 |[],_=>iE _ _
 | a :: l, h => by
   obtain⟨h1,h2⟩:=bL.mp h;unfold insT
   split
   . rename_i hk;refine bL.mpr ⟨fun b hb=>?_,SU k l h2⟩;rcases aE.mp ((kE k l).mem_iff.mp hb) with e | hb
     . rw[e];exact VR hk
     . exact h1 b hb
   . rename_i hk;refine bL.mpr ⟨fun b hb=>?_,h⟩;rcases aE.mp hb with e | hb
     . rw[e];exact hk
     . exact IC hk (h1 b hb)
theorem srtT_le:∀ns:List Str,(srtT ns).Pairwise leT
 |[]=>List.Pairwise.nil
 |k::ns=>SU k _ (srtT_le ns)
theorem leT_unique:∀(l m:List Str),l.Perm m->l.Pairwise leT->m.Pairwise leT->l=m
 |[],m,hp,_,_=>(List.Perm.nil_eq hp)
 |a::l,[],hp,_,_=>by have:=hp.length_eq;simp at this
 | a :: l, b :: m, hp, h1, h2 => by
   obtain⟨p1,p2⟩:=bL.mp h1;obtain⟨q1,q2⟩:=bL.mp h2
   have e:a=b:=by
    have ha:a∈b::m:=hp.mem_iff.mp (.head _);have hb:b∈a::l:=hp.mem_iff.mpr (.head _);rcases aE.mp ha with e | ha
    . exact e
    . rcases aE.mp hb with e | hb
      . exact e.symm
      . exact JY (p1 b hb) (q1 a ha)
   subst e;rw[leT_unique l m hp.cons_inv p2 q2]
theorem HC:∀(l:List Str) (p:Str),risingS p l=true->(p::l).Pairwise leT
 |[],p,_=>iE _ _
 | x :: r, p, h => by
   simp only[risingS,cA,XJ,ltCps_eq,decide_eq_false_iff_not] at h;have ih:=HC r x h.2;obtain⟨i1,i2⟩:=bL.mp ih;refine bL.mpr ⟨fun b hb=>?_,ih⟩;rcases aE.mp hb with e | hb
   . rw[e];exact h.1
   . exact IC h.1 (i1 b hb)
theorem sortedS_le:∀{l:List Str},sortedS l=true->l.Pairwise leT
 |[],_=>List.Pairwise.nil
 |p::l,h=>HC l p h
noncomputable def keysT:List Key->Option (List Str)
 |[]=>some []
 | .inr x::r=>(keysT r).map fun l=>x::l
 | .inl _::_=>none
theorem DQ:∀{ks:List Key} {l:List Str},keysT ks=some l->ks=l.map Sum.inr
 |[],_,e=>by cases e;rfl
 | .inr x :: r, l, e => by
   unfold keysT at e;cases h:keysT r with
   |none=>rw[h] at e;cases e
   |some m=>rw[h] at e;cases e;rw[DQ h];rfl
 | .inl _::_,_,e=>by cases e
noncomputable def srtDA(f:FE):FA:=fun ds=>(f ds).bind fun d=>(kdD d).bind fun p=>(keysT p.1).bind fun l=>if l.length<64 then some ((srtT l).map D.str) else none
noncomputable def relO(i:Nat)(ds:List Sl):List Sl:=match ds[i]? with | some (.ob _ T)=>ds.set i (.v (otD T)) | _=>ds
noncomputable def flV'(d:D):Option D:=if flat d=true then some d else none
noncomputable def relVO(i:Nat)(f:FE):FE:=fun ds=>(f (relO i ds)).bind flV'
noncomputable def relTO(i:Nat)(c:FT):FT:=fun ds=>c (relO i ds)
noncomputable def relFO(i:Nat)(f:FA):FA:=fun ds=>(f (relO i ds)).bind fun l=>if flats l=true then some l else none
noncomputable def valsA(f:FE):FA:=fun ds=>(f ds).bind fun x=>match x with
 | .dcf _ l=>some l
 |_=>none
noncomputable def seeO(f:FO):FE:=fun ds=>(f ds).map otD
noncomputable def refO:OT->Bool
 | .lst _=>true
 | .dct _ _=>true
 | .ins _ _=>true
 |_=>false
noncomputable def seqR(g:FS)(f:FX):FX:=fun ds=>(g ds).bind fun o=>match o with
 | .nx ds'=>f ds'
 |_=>none
noncomputable def vR(f:FE):FX:=fun ds=>(f ds).map fun d=>(d,ds)
noncomputable def ifR(c:FT)(f g:FX):FX:=fun ds=>(c ds).bind fun b=>if b=true then f ds else g ds
noncomputable def obAt(p:Nat):Option Sl->Option OT
 |some (.ob (some q) T)=>if q=p then some T else none
 |_=>none
noncomputable def lentR(g:FX)(n p:Nat)(T:OT)(l:List D):Option (D×OT):=(g ((args n l).set p (.ob (some p) T))).bind fun q=>(obAt p (q.2[p]?)).map fun T'=>(q.1,T')
noncomputable def hereA(g:FA):FA:=fun ds=>(g ds).map fun l=>D.non::l
noncomputable def callR(n i:Nat)(F:OT->List D->Option (D×OT))(g:FA):FX:=fun ds=>(g ds).bind fun l=>match ds[i]? with
 |some (.ob r T)=>if refO T=true/\l.length=n then (F T l).map fun q=>(q.1,ds.set i (.ob r q.2)) else none
 |_=>none
noncomputable def setR(j:Nat)(f:FX):FS:=fun ds=>(f ds).map fun q=>.nx (q.2.set j (.v q.1))
noncomputable def isT(t:Nat):D->Bool
 | .ins c _=>decide (c=t)
 |_=>false
noncomputable def methX(t n:Nat)(R:List D->Bool)(fo:FE)(g:FA):List Sl->Bool:=fun ds=>match fo ds with
 | some d => match g ds with
   |some l=>isT t d&&(decide (l.length=n)&&R (d::l))
   |none=>false
 |none=>false
noncomputable def relXO(i:Nat)(x:List Sl->Bool):List Sl->Bool:=fun ds=>x (relO i ds)
noncomputable def ifNR(f:FX)(a b:FS):FS:=fun ds=>(f ds).bind fun q=>match q.1 with
 | .bl true=>b q.2
 | .bl false=>a q.2
 |_=>none
end FL
namespace FL
open PySem
noncomputable def lentV(f:FS):FX:=fun ds=>(f ds).bind fun o=>match o with
 | .nx ds'=>some (.non,ds')
 |_=>none
noncomputable def catR(fa:FE)(fe:FX):FX:=fun ds=>(fa ds).bind fun x=>match x with
 | .lst l=>(fe ds).bind fun q=>if l.length+1<=sizeLine then some (.lst (l++[q.1]),q.2) else none
 |_=>none
noncomputable def frzDR(i:Nat)(g:FX):FX:=fun ds=>match ds[i]? with
 |some (.ob _ (.dct ks ts))=>(valsO ts).bind fun l=>g (ds.set i (.v (.dcf ks l)))
 |_=>none
end FL
namespace L2
open PySem PySem.Spec PyProof.Rows
noncomputable def keyIs:Key->Value->Bool
 | .inl k,v=>Value.isInt k v
 | .inr x,v=>Value.isStrOf x v
noncomputable def keyH(w:bK):Key->Int
 | .inl k=>hashInt k
 | .inr x=>hashStr w x
theorem qX:∀{k:Key} {v:Value},keyIs k v=true->(∃i t,k=Sum.inl i/\v=Value.int i t)\/(∃x t,k=Sum.inr x/\v=Value.str x t)
 | .inl i, v, h => by
   obtain⟨t,e⟩:=Value.isInt_shape (k:=i) (v:=v) h;exact .inl ⟨i,t,rfl,e⟩
 | .inr x, v, h => by
   obtain⟨t,e⟩:=Value.isStrOf_shape (x:=x) (v:=v) h;exact .inr ⟨x,t,rfl,e⟩
theorem VX(i:Int)(t:Tok):keyIs (.inl i) (.int i t)=true:=by simp[keyIs,Value.isInt]
theorem VW(x:Str)(t:Tok):keyIs (.inr x) (.str x t)=true:=by simp[keyIs,Value.isStrOf]
theorem key_ll(a b:Int):decide ((Sum.inl a:Key)=Sum.inl b)=(a==b):=by
 by_cases e:a=b
 . subst e;simp
 . have h : ¬(Sum.inl a : Key)=Sum.inl b := fun q => e (Sum.inl.inj q);rw[decide_eq_false h];exact(beq_eq_false_iff_ne.mpr e).symm
theorem key_rr(a b:Str):decide ((Sum.inr a:Key)=Sum.inr b)=decide (a=b):=by
 by_cases e:a=b
 . subst e;simp
 . have h : ¬(Sum.inr a : Key)=Sum.inr b := fun q => e (Sum.inr.inj q);rw[decide_eq_false h,decide_eq_false e]
theorem key_lr(a:Int)(b:Str):decide ((Sum.inl a:Key)=Sum.inr b)=false:=decide_eq_false (fun q=>nomatch q)
theorem key_rl(a:Str)(b:Int):decide ((Sum.inr a:Key)=Sum.inl b)=false:=decide_eq_false (fun q=>nomatch q)
noncomputable def eM(prog:aZ)(w:bK):PySem.KeyKind prog w Key where
 is:=keyIs
 hash:=keyH w
 inj:=fun v a b ha hb=>by
  rcases qX ha with⟨i,t,rfl,rfl⟩ | ⟨x,t,rfl,rfl⟩
  . rcases qX hb with ⟨j, u, rfl, e⟩ | ⟨y, u, rfl, e⟩
    . injection e with e1 _;rw[e1]
    . exact nomatch e
  . rcases qX hb with ⟨j, u, rfl, e⟩ | ⟨y, u, rfl, e⟩
    . exact nomatch e
    . injection e with e1 _;rw[e1]
 byValue:=fun k v h=>by
  rcases qX h with⟨i,t,rfl,rfl⟩ | ⟨x,t,rfl,rfl⟩<;>rfl
 pyHash:=fun hv h=>by
  rcases qX hv with⟨i,t,rfl,rfl⟩ | ⟨x,t,rfl,rfl⟩
  . exact wpAny_pyHash_int h
  . exact wpAny_pyHash_str h
 eqBool:=fun hu hv h=>by
  rcases qX hu with⟨i,t,rfl,rfl⟩ | ⟨x,t,rfl,rfl⟩
  . rcases qX hv with ⟨j, u, rfl, rfl⟩ | ⟨y, u, rfl, rfl⟩
    . rw[key_ll] at h;exact wpAny_eqBool_int h
    . rw[key_lr] at h;exact SeqAt.EqAt.int_str i t y u _ _ _ _ h
  . rcases qX hv with ⟨j, u, rfl, rfl⟩ | ⟨y, u, rfl, rfl⟩
    . rw[key_rl] at h;exact SeqAt.EqAt.str_int x t j u _ _ _ _ h
    . rw[key_rr] at h;exact wpAny_eqBool_str h
 «strs»:=fun k x t v h=>by
  rcases qX h with⟨i,u,rfl,e⟩ | ⟨y,u,rfl,e⟩
  . exact nomatch e
  . injection e with e1 _
    subst e1;cases v<;>rfl
theorem MV(prog:aZ)(w:bK)(i:Int)(t:Tok):(eM prog w).is (.inl i) (.int i t)=true:=VX i t
theorem MU(prog:aZ)(w:bK)(x:Str)(t:Tok):(eM prog w).is (.inr x) (.str x t)=true:=VW x t
inductive V where
 |non | bl (b:Bool) | int (i:Int) | str (x:Str) | byt (b:Array UInt8) | flt (b:UInt64) | ref (a:aA) | ty (n:String)
 deriving DecidableEq
noncomputable def RelV:V->Value->Prop
 | .non,u=>u=Value.none
 | .bl b,u=>u=Value.bool b
 | .int i,u=>∃t,u=Value.int i t
 | .str x,u=>∃t,u=Value.str x t
 | .byt b,u=>∃t,u=Value.bytes b t
 | .flt b,u=>∃t,u=Value.float b t
 | .ref a,u=>u=Value.ref a
 | .ty n,u=>u=Value.type n
abbrev Vals:List V->List Value->Prop:=BL RelV
theorem Vals.length{xs:List V}{us:List Value}(r:Vals xs us):xs.length=us.length:=BL.length r
theorem Vals.get:∀{xs:List V} {us:List Value} {i:Nat} {x:V},Vals xs us->xs[i]?=some x->∃u,us[i]?=some u/\RelV x u
 |_,_,_,_,.nil,e=>by simp at e
 |_,_,0,_,.cons r _,e=>by simp at e;subst e;exact⟨_,rfl,r⟩
 | _, _, i + 1, x, .cons _ t, e => by
   obtain⟨u,h1,h2⟩:=Vals.get (i:=i) (x:=x) t (by simpa using e);exact⟨u,by simpa using h1,h2⟩
theorem Vals.set{x:V}{u:Value}(r:RelV x u):∀{xs:List V} {us:List Value} (i:Nat),Vals xs us->Vals (xs.set i x) (us.set i u)
 |_,_,_,.nil=>.nil
 |_,_,0,.cons _ t=>.cons r t
 |_,_,i+1,.cons q t=>.cons q (Vals.set r i t)
theorem Vals.append:∀{xs ys:List V} {us ws:List Value},Vals xs us->Vals ys ws->Vals (xs++ys) (us++ws)
 |_,_,_,_,.nil,s=>s
 |_,_,_,_,.cons r t,s=>.cons r (Vals.append t s)
theorem Vals.take:∀{xs:List V} {us:List Value} (n:Nat),Vals xs us->Vals (xs.take n) (us.take n)
 |_,_,0,_=>.nil
 |_,_,_+1,.nil=>.nil
 |_,_,n+1,.cons r t=>.cons r (Vals.take n t)
theorem Vals.drop:∀{xs:List V} {us:List Value} (n:Nat),Vals xs us->Vals (xs.drop n) (us.drop n)
 |_,_,0,r=>r
 |_,_,_+1,.nil=>.nil
 |_,_,n+1,.cons _ t=>Vals.drop n t
noncomputable def RelO:Option V->Option Value->Prop
 |some v,some u=>RelV v u
 |none,none=>True
 |_,_=>False
def KV{κ : Type}: List (κ×V)->List (κ×Value)->Prop:=BL fun(p : κ×V) (q : κ×Value)=>p.1=q.1/\RelV p.2 q.2
noncomputable def kV:Key->V
 | .inl i=>.int i
 | .inr x=>.str x
inductive HO where
 |lst (xs:List V)
 |tup (xs:List V)
 |dK (kvs:List (Key×V)) | dT (kvs:List (List Key×V))
 |set (S:Int->Bool) (n:Nat)
 |ins (C dx:aA) (fs:List (Str×V))
 |own (x:aA)
 |xd (fs:List (Str×V))
 |met (f x:aA)
 |rng (lo hi:Int)
 |frz (o:Obj) (u:HO)
 |tbl (q:Nat->Nat->Str)
 |ext (φ : Heap->Prop)
abbrev Hp:=aA->Option HO
noncomputable def upd(H:Hp)(a:aA)(o:HO):Hp:=fun b=>if b=a then some o else H b
theorem zX{H:Hp}{a:aA}{o:HO}: upd H a o a=some o:=by unfold upd;rw[if_pos rfl]
theorem upd_ne{H:Hp}{a b:aA}{o:HO}(h:b≠a):upd H a o b=H b:=by unfold upd;rw[if_neg h]
theorem ne_of{H:Hp}{a b:aA}{o u:HO}(h:H a=some o)(h':H b=some u)(d:o≠u):a≠b:=by
 intro e;subst e;rw[h] at h';exact d (Option.some.inj h')
theorem qV{H:Hp}{a b:aA}{o:HO}(h:H a=some o)(h':H b=none):a≠b:=by
 intro e;subst e;rw[h] at h';cases h'
def TblOk(H:Hp)(q:Nat->Nat->Str)(ps:Array Value):Prop:=TriplesOk ps.toList/\∀pos v,codeAmong pos ps.toList=some v->∃c o u vs t,v=.ref c/\H c=some (.frz o u)/\o.data=.fields vs/\vs[1]?=some (.str (q pos.line pos.col) t)
noncomputable def Fixed:HO->Prop
 | .tup _=>True
 | .frz o _=>∃vs,o.data=.fields vs
 |_=>False
noncomputable def Fx:={ u:HO // Fixed u }
section
variable(P:aZ)(w:bK)
noncomputable def ObjOk(H:Hp)(h:Heap)(a:aA):HO->Prop
 | .lst xs=>xs.length<=sizeLine/\∃(its:List Value) (n:Nat),Vals xs its/\h.get? a=some { cls:=.type "list",data:=.seq its.toArray n }
 | .tup xs=>xs.length<=sizeLine/\∃its:List Value,Vals xs its/\IsTup h a its.toArray
 | .dK kvs=>kvs.length<=sizeLine/\(a==gU)=false/\∃vs,KV kvs vs/\h.DictOf (eM P w) a vs
 | .dT kvs=>kvs.length<=sizeLine/\(a==gU)=false/\∃xs:List (List Key×aA×Value),
    BL (fun(p:List Key×V) (q:List Key×aA×Value)=>p.1=q.1/\H q.2.1=some (.tup (p.1.map kV))/\RelV p.2 q.2.2) kvs xs ∧
    ∃o es ep,h.get? a=some o/\o.ExactDict/\o.data=.dict es ep/\es.toList=xs.map (entryOfKey (GO (eM P w)))/\(xs.map (·.1)).Nodup
 | .set S n=>h.SetOf (intKind P w) a S n
 | .ins C dx fs=>H dx=some (.own a)/\fs.length<=1000/\dx≠a/\h.get? a=some (eV C dx) ∧
    ∃mA,h.Ns1 dx mA/\(∀f,RelO (fs.lookup f) (mA f))/\PySem.Within mA (fs.map (·.1))
 | .own _=>∃o,h.get? a=some o
 | .xd fs=>∃mA,h.Ns1 a mA/\∀f,RelO (fs.lookup f) (mA f)
 | .rng lo hi=>∃t u v,h.get? a=some { cls:=.type "range",data:=.fields #[.int lo t,.int hi u,.int 1 v] }
 | .frz o u=>h.get? a=some o/\ObjOk H h a u
 | .tbl q=>∃ps,h.get? a=some (BH ps)/\TblOk H q ps
 | .met f x=>h.get? a=some (sR (.ref f) (.ref x))
 | .ext φ=>φ h/\(∃o,h.get? a=some o)/\∀h1 h2:Heap,φ h1->(∀o,h1.get? a=some o->h2.get? a=some o)->φ h2
def HOk(H:Hp)(h:Heap):Prop:=∀a o,H a=some o->ObjOk P w H h a o
end
section
variable{P:aZ}{w:bK}{H H':Hp}{h h':Heap}{a:aA}{o:HO}
theorem ObjOk.lt(x:ObjOk P w H h a o):a<h.objs.size:=by
 cases o with
 |lst xs=>obtain⟨_,_,_,_,e⟩:=x;exact bC e
 |tup xs=>obtain⟨_,_,_,p⟩:=x;exact p.lt
 |dK kvs=>obtain⟨_,_,_,_,o,_,_,e,_⟩:=x;exact bC e
 |dT kvs=>obtain⟨_,_,_,_,o,_,_,e,_⟩:=x;exact bC e
 |set S n=>obtain⟨o,_,_,_,e,_⟩:=x;exact bC e
 |ins C dx fs=>obtain⟨_,_,_,e,_⟩:=x;exact bC e
 |own y=>obtain⟨_,e⟩:=x;exact bC e
 |xd fs=>obtain⟨_,⟨_,_,_,e,_⟩,_⟩:=x;exact bC e
 |rng lo hi=>obtain⟨_,_,_,e⟩:=x;exact bC e
 |frz ob u=>obtain⟨e,_⟩:=x;exact bC e
 |tbl q=>obtain⟨_,e,_⟩:=x;exact bC e
 |met f y=>exact bC (show h.get? a=some _ from x)
 |ext φ=>obtain⟨_,⟨_,e⟩,_⟩:=x;exact bC e
theorem BL.mapP{α β : Type}{F G : α->β->Prop}:∀{l₁ : List α} {l₂ : List β},BL F l₁ l₂->(∀a b,F a b->G a b)->BL G l₁ l₂
 |_,_,.nil,_=>.nil
 |_,_,.cons r t,f=>.cons (f _ _ r) (BL.mapP t f)
theorem ObjOk.stay(x:ObjOk P w H h a o)(k:∀b u,(b=a\/H b=some (.own a))->h.get? b=some u->h'.get? b=some u)(ho:∀b,H b=some (.own a)->H' b=some (.own a))(ht:∀b (xs:Fx),H b=some xs.1->H' b=some xs.1):ObjOk P w H' h' a o:=by
 induction o with
 |lst xs=>obtain⟨z,its,n,r,e⟩:=x;exact⟨z,its,n,r,k _ _ (.inl rfl) e⟩
 |tup xs=>obtain⟨z,its,r,ob,e,c⟩:=x;exact⟨z,its,r,ob,k _ _ (.inl rfl) e,c⟩
 |dK kvs=>obtain⟨z,y,vs,r,ob,es,ep,e,c⟩:=x;exact⟨z,y,vs,r,ob,es,ep,k _ _ (.inl rfl) e,c⟩
 | dT kvs =>
   obtain⟨z,y,xs,r,ob,es,ep,e,c⟩:=x;exact⟨z,y,xs,BL.mapP r fun p q z=>⟨z.1,ht _ ⟨.tup _,trivial⟩ z.2.1,z.2.2⟩,ob,es,ep,k _ _ (.inl rfl) e,c⟩
 |set S n=>obtain⟨ob,es,ep,t,e,c⟩:=x;exact⟨ob,es,ep,t,k _ _ (.inl rfl) e,c⟩
 | ins C dx fs =>
   obtain⟨d,z,ne,e,mA,⟨od,es,ep,e2,c⟩,r⟩:=x;exact⟨ho _ d,z,ne,k _ _ (.inl rfl) e,mA,⟨od,es,ep,k _ _ (.inr d) e2,c⟩,r⟩
 |own y=>obtain⟨ob,e⟩:=x;exact⟨ob,k _ _ (.inl rfl) e⟩
 |xd fs=>obtain⟨mA,⟨od,es,ep,e,c⟩,r⟩:=x;exact⟨mA,⟨od,es,ep,k _ _ (.inl rfl) e,c⟩,r⟩
 |rng lo hi=>obtain⟨t,u,v,e⟩:=x;exact⟨t,u,v,k _ _ (.inl rfl) e⟩
 |frz ob u ih=>obtain⟨e,q⟩:=x;exact⟨k _ _ (.inl rfl) e,ih q⟩
 | tbl q =>
   obtain⟨ps,e,t1,t2⟩:=x;refine⟨ps,k a _ (.inl rfl) e,t1,fun pos v z=>?_⟩;obtain⟨c,o,u,vs,t,h1,h2,h3,h4⟩:=t2 pos v z;exact⟨c,o,u,vs,t,h1,ht c ⟨.frz o u,vs,h3⟩ h2,h3,h4⟩
 | met f y =>
   have e:h.get? a=some (sR (.ref f) (.ref y)):=x;show h'.get? a=some (sR (.ref f) (.ref y));exact k a _ (.inl rfl) e
 |ext φ=>obtain⟨p,⟨o,e⟩,st⟩:=x;exact⟨st _ _ p fun o q=>k _ _ (.inl rfl) q,⟨o,k _ _ (.inl rfl) e⟩,st⟩
theorem HOk.lt(x:HOk P w H h)(e:H a=some o):a<h.objs.size:=(x a o e).lt
theorem HOk.fresh(x:HOk P w H h)(e:h.objs.size<=a):H a=none:=by
 cases q:H a with
 |none=>rfl
 |some u=>exact absurd (bI (x.lt q) e) (dB _)
theorem HOk.kept(x:HOk P w H h)(k:∀b u,h.get? b=some u->h'.get? b=some u):HOk P w H h':=fun a o e =>
 (x a o e).stay (fun b u _ q=>k b u q) (fun _ q=>q) fun _ _ q=>q
theorem HOk.laid(x:HOk P w H h)(k:∀b u,h.get? b=some u->h'.get? b=some u)(hp:h.objs.size<=a)(new:ObjOk P w (upd H a o) h' a o):HOk P w (upd H a o) h':=fun b u e=>by
 have hn:=x.fresh hp
 by_cases hb:b=a
 . subst hb;rw[zX] at e;cases e;exact new
 . rw[upd_ne hb] at e;exact(x b u e).stay (fun c v _ q=>k c v q) (fun c q=>by rw[upd_ne (qV q hn)];exact q) fun c xs q=>by rw[upd_ne (qV q hn)];exact q
end
def Rd(H:Hp)(a:aA)(u:HO):Prop:=H a=some u\/∃o,H a=some (.frz o u)
theorem Rd.of{H:Hp}{a:aA}{u:HO}(h:H a=some u):Rd H a u:=.inl h
theorem Rd.ok{P:aZ}{w:bK}{H:Hp}{h:Heap}{a:aA}{u:HO}(r:Rd H a u)(x:HOk P w H h):ObjOk P w H h a u:=by
 rcases r with r | ⟨o,r⟩
 . exact x a u r
 . obtain⟨_, q⟩ := x a _ r;exact q
noncomputable def Mut:Option HO->Prop
 |some (.lst _)=>True
 |some (.dK _)=>True
 |some (.dT _)=>True
 |some (.set _ _)=>True
 |some (.ins _ _ _)=>True
 |some (.ext _)=>True
 |_=>False
section
variable{P:aZ}{w:bK}{H:Hp}{h h':Heap}{x e:aA}{o':HO}
theorem HOk.write(ok:HOk P w H h)(mu:Mut (H x))(he:e=x\/H e=some (.own x))(k:∀b u,b≠e->h.get? b=some u->h'.get? b=some u)(heo:∃u,h'.get? e=some u)(new:ObjOk P w (upd H x o') h' x o'):HOk P w (upd H x o') h':=fun b u q=>by
 have nown:∀c y,H c=some (.own y)->c≠x:=fun c y r z=>by subst z;rw[r] at mu;exact mu
 have ntup:∀c (xs:Fx),H c=some xs.1->c≠x:=fun c xs r z=>by
  subst z;rw[r] at mu;obtain⟨u,hu⟩:=xs;cases u<;>first | exact False.elim mu | exact False.elim hu
 by_cases hb:b=x
 . subst hb;rw[zX] at q;cases q;exact new
 . rw [upd_ne hb] at q
   by_cases hbe:b=e
   . have q':H b=some (.own x):=by
      rcases he with z | z
      . exact absurd (hbe.trans z) hb
      . rw[hbe];exact z
     rw[q] at q';cases q';obtain⟨v,hv⟩:=heo;exact⟨v,by rw[hbe];exact hv⟩
   . refine (ok b u q).stay (fun c v hc r => k c v ?_ r) (fun c r => by rw [upd_ne (nown c b r)]; exact r) fun c xs r => by rw [upd_ne (ntup c xs r)]; exact r
     rcases hc with rfl | hc
     . exact hbe
     . rintro rfl;rcases he with z | z
       . exact nown c b hc z
       . rw[hc] at z;cases z;exact hb rfl
end
structure Un(fs ex:List aA)(H H':Hp)(h h':Heap):Prop where
 keep:∀b o,h.get? b=some o->H b=none->b∉fs->b∉ex->h'.get? b=some o
 slot:∀b o,h.get? b=some o->H b=none->b∈fs->b∉ex->∃sl,h'.get? b=some { o with slots:=sl }
 free:∀b o,h.get? b=some o->H b=none->b∉ex->H' b=none
 there:∀b o,h.get? b=some o->b∉ex->∃o',h'.get? b=some o'
 tups:∀b xs,H b=some (.tup xs)->H' b=some (.tup xs)
 frzs:∀b o u,H b=some (.frz o u)->H' b=some (.frz o u)
 tbls:∀b ps,H b=some (.tbl ps)->H' b=some (.tbl ps)
section
variable{fs fs' ex ex':List aA}{H H1 H2:Hp}{h h1 h2 h':Heap}{a x e:aA}{o:HO}
theorem Un.any(u:Un fs ex H H1 h h1){b:aA}{ob:Obj}(q:h.get? b=some ob)(n:H b=none)(hx:b∉ex):∃sl,h1.get? b=some { ob with slots:=sl }:=by
 by_cases hb:b∈fs
 . exact u.slot b ob q n hb hx
 . exact⟨ob.slots,u.keep b ob q n hb hx⟩
theorem Un.trans(a:Un fs ex H H1 h h1)(b:Un fs ex H1 H2 h1 h2):Un fs ex H H2 h h2 where
 keep:=fun c ob q n hc hx=>b.keep c ob (a.keep c ob q n hc hx) (a.free c ob q n hx) hc hx
 slot:=fun c ob q n hc hx=>by
  obtain⟨sl,e1⟩:=a.slot c ob q n hc hx;obtain⟨sl',e2⟩:=b.slot c _ e1 (a.free c ob q n hx) hc hx;exact⟨sl',e2⟩
 free:=fun c ob q n hx=>by
  obtain⟨o',e1⟩:=a.there c ob q hx;exact b.free c o' e1 (a.free c ob q n hx) hx
 there:=fun c ob q hx=>by
  obtain⟨o',e1⟩:=a.there c ob q hx;exact b.there c o' e1 hx
 tups:=fun c xs q=>b.tups c xs (a.tups c xs q)
 frzs:=fun c ob xs q=>b.frzs c ob xs (a.frzs c ob xs q)
 tbls:=fun c ps q=>b.tbls c ps (a.tbls c ps q)
theorem Un.kept(k:∀b u,h.get? b=some u->h'.get? b=some u):Un fs ex H H h h' :=
 ⟨fun b ob q _ _ _=>k b ob q,fun b ob q _ _ _=>⟨ob.slots,k b ob q⟩,fun _ _ _ n _=>n,fun b ob q _=>⟨ob,k b ob q⟩,fun _ _ q=>q,fun _ _ _ q=>q,fun _ _ q=>q⟩
theorem Un.refl:Un fs ex H H h h:=Un.kept fun _ _ q=>q
theorem Un.laid(k:∀b u,h.get? b=some u->h'.get? b=some u)(hp:h.objs.size<=a)(hn:H a=none):Un fs ex H (upd H a o) h h' where
 keep:=fun b u q _ _ _=>k b u q
 slot:=fun b u q _ _ _=>⟨u.slots,k b u q⟩
 free:=fun b u q n _=>by rw[upd_ne (bN (bI (bC q) hp))];exact n
 there:=fun b u q _=>⟨u,k b u q⟩
 tups:=fun b xs q=>by rw[upd_ne (qV q hn)];exact q
 frzs:=fun b u xs q=>by rw[upd_ne (qV q hn)];exact q
 tbls:=fun b ps q=>by rw[upd_ne (qV q hn)];exact q
theorem Un.write(mu:Mut (H x))(he:e=x\/H e=some (.own x))(k:∀b u,b≠e->h.get? b=some u->h'.get? b=some u)(heo:∃u,h'.get? e=some u):Un fs ex H (upd H x o) h h':=by
 have hx:∀b,H b=none->b≠x:=fun b n z=>by subst z;rw[n] at mu;exact mu
 have hb:∀b,H b=none->b≠e:=fun b n z=>by
  subst z;rcases he with r | r
  . exact hx b n r
  . rw[n] at r;cases r
 have hm:∀b u,H b=some u->¬Mut (some u)->b≠x:=fun b u q nm z=>by subst z;rw[q] at mu;exact nm mu
 refine⟨fun b u q n _ _=>k b u (hb b n) q,fun b u q n _ _=>⟨u.slots,k b u (hb b n) q⟩,fun b u q n _=>by rw[upd_ne (hx b n)];exact n,fun b u q _=>?_,
  fun b xs q=>by rw[upd_ne (hm b _ q fun z=>z)];exact q,fun b u xs q=>by rw[upd_ne (hm b _ q fun z=>z)];exact q,fun b ps q=>by rw[upd_ne (hm b _ q fun z=>z)];exact q⟩
 by_cases hbe:b=e
 . subst hbe;exact heo
 . exact⟨u,k b u hbe q⟩
end
noncomputable def trk(h:Heap)(H:Hp):List aA:=(List.range h.objs.size).filter fun a=>(H a).isSome
noncomputable def hidT(h:Heap)(H:Hp):Heap:=PySem.W.hideAll h (trk h H)
theorem WB(h:Heap)(H:Hp):(hidT h H).objs.size=h.objs.size:=PySem.W.hideAll_size _ _
theorem NE{h:Heap}{H:Hp}{b:aA}{o:Obj}(e:h.get? b=some o)(n:H b=none):(hidT h H).get? b=some o :=
 PySem.W.hideAll_get _ e fun hm=>by
  have q:(H b).isSome=true:=(eD.mp hm).2;rw[n] at q;simp at q
theorem of_hidT{h:Heap}{H:Hp}{b:aA}{o:Obj}(e:(hidT h H).get? b=some o):h.get? b=some o/\H b=none:=by
 have e':h.get? b=some o:=PySem.W.of_hideAll (trk h H) e;refine⟨e',?_⟩;cases q:H b with
 |none=>rfl
 | some x =>
   have hm:b∈trk h H:=eD.mpr ⟨List.mem_range.mpr (bC e'),by simp[q]⟩;have z:(hidT h H).get? b=none:=PySem.W.hideAll_none (trk h H) hm;rw[z] at e;cases e
noncomputable def allNews(g h:Heap)(L:aA):List (aA×Obj):=(List.range h.objs.size).filterMap fun a=>if a=L\/(g.get? a).isSome=true then none else (h.get? a).map fun o=>(a,o)
noncomputable def rest(g h:Heap)(L d:aA):List (aA×Obj):=(allNews g h L).filter fun p=>decide (p.1≠d)
structure Mod(K:aJ)(mg:Str->Option Value)(base:Heap):Prop where
 kin:K.In base
 glob:base.Ns aM mg
 blt:∃mb,base.Ns BG mb/\∀x:Str,x≠"__name__"->mb x=fQ x
 nolimit:base.NoLimit
structure Cx where
 prog:aZ
 w:bK
 K:aJ
 mg:Str->Option Value
 base:Heap
 A:bO
 N:List Str
 s₀ : aC
 H₀ : Hp
 env:Env
 outer:List Env
 stack:List Env
 ex:List aA
 fn:Str->Bool
 calm:Bool
 pn:List (aA×Obj)
 xe:Value->aC->Prop
noncomputable def frs(l:List Env):List aA:=l.filterMap (·.frame)
noncomputable abbrev Cx.fs(X:Cx):List aA:=frs X.outer
def Vis(sc:Scope)(x:Str):Prop:=sc.names.lookup x=some .local\/sc.names.lookup x=some .cell\/sc.names.lookup x=some .free
def Loc(sc:Scope)(x:Str):Prop:=sc.names.lookup x=some .local\/sc.names.lookup x=some .cell
def Look(env:Env)(h:Heap)(m:Str->Option Value)(x:Str)(u:Value):Prop :=
 (env.kindOf x=some .local/\m x=some u)\/((env.kindOf x=some .cell\/env.kindOf x=some .free)/\∃c,env.cells.lookup x=some c/\h.IsCell c (some u))
noncomputable def makers:List Str:=["law","_law_with_itself","_law_ways","_law_way","holding","_law_any_test","_law_test","_law_turned","_law_right","wheel_run","answer_run"]
noncomputable def PY:List Stmt->Nat->Nat->Str
 |[],_,_=>"<lambda>"
 | .FunctionDef n _ _ _ _ _ _ _ _ pos::r,l,c=>if pos.line=l/\pos.col=c then n else PY r l c
 |_::r,l,c=>PY r l c
noncomputable def sK(K:aJ)(x:Str)(l c:Nat):Str:=match aP K aM x with
 | some (some (.ref f)) => (match K.lookup f with
   | some ⟨_, _, .func fd, _⟩ => (match fd.body with
     | .stmts b=>x++".<locals>."++PY b l c
     |_=>x)
   |_=>x)
 |_=>x
structure TabsK(K:aJ)(mg:Str->Option Value)(base:Heap)(H:Hp):Prop where
 bm:∃bm ob,mg "__builtins__" = some (.ref bm)/\bm≠BG/\base.get? bm=some ob/\ob.cls=.type "module"/\ob.dict=some BG/\ob.data=.plain
 tab:∀x c P,x∈makers->gR K x=some (c,P)->XF base c P/\H P=some (.tbl (sK K x))
def Bsz(K:aJ)(mg:Str->Option Value)(base h:Heap)(H:Hp):Prop:=base.objs.size<=h.objs.size/\TabsK K mg base H
def FreeC(X:Cx)(H:Hp)(x:Str)(c:aA):Prop:=H c=none\/(X.fn x=false/\∃o u,H c=some (.frz o u))
theorem FreeC.now{X:Cx}{H:Hp}{x:Str}{c:aA}(h:FreeC X H x c)(hf:X.fn x=true):H c=none:=h.elim id fun z=>by rw[hf] at z;cases z.1
structure Cx.Ok(X:Cx):Prop where
 mod:Mod X.K X.mg X.base
 kind:X.env.scope.kind=.function
 glob:X.env.globals=aM
 blt:X.env.builtins=BG
 above:X.s₀.heap.objs.size<=X.env.locals
 inj:∀x y c,X.env.cells.lookup x=some c->X.env.cells.lookup y=some c->x=y
 has:∀x,(X.env.kindOf x=some .cell\/X.env.kindOf x=some .free)->∃c,X.env.cells.lookup x=some c
 cab:∀x c,X.fn x=true->X.env.cells.lookup x=some c->X.s₀.heap.objs.size<=c
 hd:X.calm=true->X.A.handled=none
 frames:X.A.frames=some X.stack
 stk:X.stack=X.outer\/(X.stack=X.env::X.outer/\X.env.frame=some X.env.locals)
 exf:∀b∈X.ex,b≠X.env.locals/\∀x c,X.env.cells.lookup x=some c->c≠b
 bs:∀b o,X.base.get? b=some o->X.s₀.heap.get? b=some o/\X.H₀ b=none
 bsz:Bsz X.K X.mg X.base X.s₀.heap X.H₀
 noex:∀b o,X.base.get? b=some o->b∉X.ex
 exfs:∀b∈X.ex,b∉X.fs
 funs:X.s₀.heap.FunFrames X.base X.outer
 frf:∀b∈X.fs,X.H₀ b=none
structure Inv(X:Cx)(aB:List (aA×Obj))(σ : List (Option V))(H:Hp)(s:aC):Prop where
 ok:X.Ok
 os:s.os=X.s₀.os
 bare:iS s.gens
 base:Un X.fs X.ex X.H₀ H X.s₀.heap s.heap
 loc:∃m,s.heap.Ns X.env.locals m/\∀(i:Nat) (x:Str) (v:V),X.N[i]?=some x->σ[i]?=some (some v)->Vis X.env.scope x->∃u,RelV v u/\Look X.env s.heap m x u
 cell:∀x c,X.env.cells.lookup x=some c->∃v,s.heap.IsCell c v
 free:H X.env.locals=none
 freeC:∀x c,X.env.cells.lookup x=some c->FreeC X H x c
 pin:∀p∈X.pn++aB,s.heap.get? p.1=some p.2/\H p.1=none/\p.1≠X.env.locals/\p.1∉X.fs/\∀v,p.2.data≠.cell v
 hok:HOk X.prog X.w H s.heap
 len : σ.length=X.N.length
section
variable{X:Cx}{aB:List (aA×Obj)}{σ : List (Option V)}{H H':Hp}{s:aC}{h':Heap}
theorem Cx.Ok.nofr(ok:X.Ok){b:aA}{o:Obj}(e:X.base.get? b=some o):b∉X.fs:=fun hb=>by
 have:=(ok.funs.mem hb).1;rw[e] at this;cases this
theorem Inv.bs(I:Inv X aB σ H s):∀b o,X.base.get? b=some o->s.heap.get? b=some o/\H b=none:=fun b o e =>
 ⟨I.base.keep b o (I.ok.bs b o e).1 (I.ok.bs b o e).2 (I.ok.nofr e) (I.ok.noex b o e),I.base.free b o (I.ok.bs b o e).1 (I.ok.bs b o e).2 (I.ok.noex b o e)⟩
theorem Inv.bk(I:Inv X aB σ H s):∀b o,X.base.get? b=some o->s.heap.get? b=some o:=fun b o e=>(I.bs b o e).1
theorem Inv.mod(I:Inv X aB σ H s):Mod X.K X.mg X.base:=I.ok.mod
theorem Inv.kIn(I:Inv X aB σ H s):X.K.In s.heap:=I.ok.mod.kin.keeps I.bk
theorem Inv.lt(I:Inv X aB σ H s):X.env.locals<s.heap.objs.size:=let ⟨_,hn,_⟩:=I.loc;hn.lt
theorem Inv.sz(I:Inv X aB σ H s):X.s₀.heap.objs.size<=s.heap.objs.size:=cJ I.ok.above (NZ I.lt)
theorem Inv.nofs(I:Inv X aB σ H s){a:aA}(h:s.heap.objs.size<=a):a∉X.fs:=fun hb=>by
 obtain⟨_,o,ho,_⟩:=I.ok.funs.mem hb;exact absurd (bI (bC ho) (cJ I.sz h)) (dB _)
theorem Inv.cne(I:Inv X aB σ H s):∀x c,X.env.cells.lookup x=some c->c≠X.env.locals:=fun x c e z=>by
 obtain⟨v,o,ho,hd⟩:=I.cell x c e;obtain⟨m,⟨o',es,ep,ho',hd',_⟩,_⟩:=I.loc;rw[z,ho'] at ho;cases ho;rw[hd'] at hd;cases hd
theorem Inv.funs(I:Inv X aB σ H s):s.heap.FunFrames X.base X.outer:=by
 have all:∀(l:List Env),(∀b∈frs l,b∈X.fs)->X.s₀.heap.FunFrames X.base l->s.heap.FunFrames X.base l:=by
  intro l
  induction l with
  |nil=>intro _ _;trivial
  | cons env r ih =>
    intro hs hl;obtain⟨hk,⟨L,o,hf,hn,ho,hd⟩,hr⟩:=hl;have hL:L∈X.fs:=hs L (by unfold frs;rw[gS,hf];exact aV);obtain⟨sl,e⟩:=I.base.slot L o ho (I.ok.frf L hL) hL fun z=>I.ok.exfs L z hL;exact⟨hk,⟨L,_,hf,hn,e,hd⟩,ih (fun b hb=>hs b (by unfold frs;rw[gS,hf];exact aN _ hb)) hr⟩
 exact all X.outer (fun _ hb=>hb) I.ok.funs
theorem Inv.stack(I:Inv X aB σ H s):s.heap.FunFrames X.base X.stack:=by
 rcases I.ok.stk with e | ⟨e,hf⟩
 . rw[e];exact I.funs
 . rw[e];obtain⟨m,hn,_⟩:=I.loc;refine .cons (by rw[I.ok.kind];decide) hf hn ?_ I.funs;exact Heap.get?_none_of_le (cJ I.ok.bsz.1 I.ok.above)
theorem Inv.stkSub(I:Inv X aB σ H s):∀b∈frs X.stack,b∈X.env.locals::X.fs:=fun b hb=>by
 rcases I.ok.stk with e | ⟨e,hf⟩
 . rw[e] at hb;exact aN _ hb
 . rw[e] at hb;unfold frs at hb;rw[gS,hf] at hb;exact hb
theorem Inv.stkFree(I:Inv X aB σ H s):∀b∈frs X.stack,H b=none:=fun b hb=>by
 rcases aE.mp (I.stkSub b hb) with e | hb
 . rw[e];exact I.free
 . obtain⟨_, o, ho, _⟩ := I.ok.funs.mem hb;exact I.base.free b o ho (I.ok.frf b hb) fun z=>I.ok.exfs b z hb
theorem Inv.step{g':Array GenState}{t':Nat}{d':UD}{ch:List aA}(I:Inv X aB σ H s)(hch:∀b∈ch,(b∈X.ex\/X.s₀.heap.objs.size<=b)/\b≠X.env.locals/\(∀x c,X.env.cells.lookup x=some c->c≠b)/\∀p∈X.pn++aB,p.1≠b)(keep:∀b o,b≠X.env.locals->b∉X.fs->b∉ch->s.heap.get? b=some o->H b=none->h'.get? b=some o)(slot:∀b o,b≠X.env.locals->b∈X.fs->b∉ch->s.heap.get? b=some o->H b=none->∃sl,h'.get? b=some { o with slots:=sl })(free:∀b o,b∉ch->s.heap.get? b=some o->H b=none->H' b=none)(there:∀b o,b∉ch->s.heap.get? b=some o->∃o',h'.get? b=some o')(tups:∀b xs,H b=some (.tup xs)->H' b=some (.tup xs))(frzs:∀b o u,H b=some (.frz o u)->H' b=some (.frz o u))(tbls:∀b ps,H b=some (.tbl ps)->H' b=some (.tbl ps))(ns:∀m,s.heap.Ns X.env.locals m->h'.Ns X.env.locals m)(hok:HOk X.prog X.w H' h')(hg:iS g') :
  Inv X aB σ H' { s with heap:=h',gens:=g',drawn:=d',toks:=t' }:=by
 have neL:∀b o,X.s₀.heap.get? b=some o->b≠X.env.locals:=fun b o e=>bN (bI (bC e) I.ok.above)
 have neC:∀b o,X.s₀.heap.get? b=some o->b∉X.ex->b∉ch:=fun b o e hx hb=>by
  rcases(hch b hb).1 with z | z
  . exact hx z
  . exact absurd (bI (bC e) z) (dB _)
 have cellK:∀x c,X.env.cells.lookup x=some c->∀v,s.heap.IsCell c v->h'.IsCell c v:=fun x c e v ⟨o,ho,hd⟩=>by
  have nch:c∉ch:=fun z=>(hch c z).2.2.1 x c e rfl;rcases I.freeC x c e with fr | ⟨_,of,uf,fr⟩
  . by_cases hc : c ∈ X.fs
    . obtain⟨sl, q⟩ := slot c o (I.cne x c e) hc nch ho fr;exact⟨_,q,hd⟩
    . exact⟨o,keep c o (I.cne x c e) hc nch ho fr,hd⟩
  . obtain⟨e1, _⟩ := I.hok c _ fr;obtain⟨e2,_⟩:=hok c _ (frzs c of uf fr);rw[ho] at e1;cases e1;exact⟨o,e2,hd⟩
 refine⟨I.ok,I.os,hg,⟨fun b o e n hb hx=>?_,fun b o e n hb hx=>?_,fun b o e n hx=>?_,fun b o e hx=>?_,fun b xs e=>tups b xs (I.base.tups b xs e),fun b o xs e=>frzs b o xs (I.base.frzs b o xs e),fun b ps e=>?_⟩,?_,fun x c e=>?_,?_,fun x c e=>?_,fun p hp=>?_,hok,I.len⟩
 . exact keep b o (neL b o e) hb (neC b o e hx) (I.base.keep b o e n hb hx) (I.base.free b o e n hx)
 . obtain⟨sl, e1⟩ := I.base.slot b o e n hb hx;obtain⟨sl',e2⟩:=slot b _ (neL b o e) hb (neC b o e hx) e1 (I.base.free b o e n hx);exact⟨sl',e2⟩
 . obtain⟨o', e1⟩ := I.base.there b o e hx;exact free b o' (neC b o e hx) e1 (I.base.free b o e n hx)
 . obtain⟨o', e1⟩ := I.base.there b o e hx;exact there b o' (neC b o e hx) e1
 . exact tbls b ps (I.base.tbls b ps e)
 . obtain ⟨m, hn, hl⟩ := I.loc;refine ⟨m,ns m hn,fun i x v e1 e2 e3=>?_⟩;obtain ⟨u,r,l⟩:=hl i x v e1 e2 e3;refine ⟨u,r,?_⟩;rcases l with l | ⟨k,c,e,z⟩
   . exact .inl l
   . exact .inr ⟨k,c,e,cellK x c e _ z⟩
 . obtain⟨v, z⟩ := I.cell x c e;exact⟨v,cellK x c e v z⟩
 . obtain⟨m, ⟨o, _, _, ho, _⟩, _⟩ := I.loc;exact free _ o (fun z=>(hch _ z).2.1 rfl) ho I.free
 . obtain⟨v, o, ho, hd⟩ := I.cell x c e;exact(I.freeC x c e).elim (fun fr=>.inl (free c o (fun z=>(hch c z).2.2.1 x c e rfl) ho fr)) fun⟨h1,of,uf,fr⟩=>.inr ⟨h1,of,uf,frzs c of uf fr⟩
 . obtain⟨e, n, ne, nf, d⟩ := I.pin p hp;have nch:p.1∉ch:=fun z=>(hch p.1 z).2.2.2 p hp rfl;exact⟨keep p.1 p.2 ne nf nch e n,free p.1 p.2 nch e n,ne,nf,d⟩
theorem Inv.un{t':Nat}(I:Inv X aB σ H s)(u:Un X.fs [] H H' s.heap h')(hok:HOk X.prog X.w H' h'):Inv X aB σ H' { s with heap:=h',toks:=t' }:=by
 obtain⟨m,⟨o,es,ep,ho,r⟩,_⟩:=id I.loc;obtain⟨sl,hL⟩:=u.any ho I.free (by simp)
 exact I.step (g':=s.gens) (d':=s.drawn) (ch:=[]) (fun _ z=>nomatch z) (fun b o _ hb _ e n=>u.keep b o e n hb (by simp)) (fun b o _ hb _ e n=>u.slot b o e n hb (by simp)) (fun b o _ e n=>u.free b o e n (by simp)) (fun b o _ e=>u.there b o e (by simp)) u.tups u.frzs u.tbls (fun m' hm=>by
  obtain⟨o',es',ep',ho',r'⟩:=hm;rw[ho] at ho';cases ho'
  exact⟨_,es',ep',hL,r'⟩) hok I.bare
theorem Inv.call{g':Array GenState}{t':Nat}{d':UD}{ch:List aA}(I:Inv X aB σ H s)(u:Un (frs X.stack) ch H H' s.heap h')(hok:HOk X.prog X.w H' h')(hg:iS g')(hch:∀b∈ch,(b∈X.ex\/X.s₀.heap.objs.size<=b)/\b≠X.env.locals/\(∀x c,X.env.cells.lookup x=some c->c≠b)/\∀p∈X.pn++aB,p.1≠b) :
  Inv X aB σ H' { s with heap:=h',gens:=g',drawn:=d',toks:=t' }:=by
 obtain⟨m,⟨o,es,ep,ho,r⟩,_⟩:=id I.loc;obtain⟨sl,hL⟩:=u.any ho I.free fun z=>(hch _ z).2.1 rfl
 exact I.step (ch:=ch) hch (fun b o hL hb hc e n=>u.keep b o e n (fun z=>(aE.mp (I.stkSub b z)).elim hL hb) hc) (fun b o _ _ hc e n=>u.any e n hc) (fun b o hc e n=>u.free b o e n hc) (fun b o hc e=>u.there b o e hc) u.tups u.frzs u.tbls (fun m' hm=>by
  obtain⟨o',es',ep',ho',r'⟩:=hm;rw[ho] at ho';cases ho'
  exact⟨_,es',ep',hL,r'⟩) hok hg
theorem Inv.turned{t':Nat}{it:aA}(I:Inv X aB σ H s)(k:∀b o,b≠it->s.heap.get? b=some o->h'.get? b=some o)(hn:H it=none)(hL:it≠X.env.locals)(h1:it∈X.ex\/X.s₀.heap.objs.size<=it)(h2:∀x c,X.env.cells.lookup x=some c->c≠it)(h3:∀p∈X.pn++aB,p.1≠it):Inv X aB σ H { s with heap:=h',toks:=t' }:=by
 have nit:∀b u,H b=some u->b≠it:=fun b u e z=>by rw[z,hn] at e;cases e
 refine I.step (g':=s.gens) (d':=s.drawn) (ch:=[it]) (fun b hb=>?_) (fun b o _ _ hc e _=>k b o (fun z=>hc (by simp[z])) e) (fun b o _ _ hc e _=>⟨o.slots,k b o (fun z=>hc (by simp[z])) e⟩) (fun _ _ _ _ n=>n)
  (fun b o hc e=>⟨o,k b o (fun z=>hc (by simp[z])) e⟩) (fun _ _ e=>e) (fun _ _ _ e=>e) (fun _ _ e=>e) (fun m hm=>?_) (fun b u e=>?_) I.bare
 . have e : b = it := by simpa using hb
   subst e;exact⟨h1,hL,h2,h3⟩
 . obtain⟨o, es, ep, ho, r⟩ := hm;exact⟨o,es,ep,k _ o (Ne.symm hL) ho,r⟩
 . refine (I.hok b u e).stay (fun c v hc q => k c v ?_ q) (fun _ q => q) fun _ _ q => q;rcases hc with z | z
   . rw[z];exact nit b u e
   . exact nit c _ z
theorem Inv.tok(I:Inv X aB σ H s)(t:Nat):Inv X aB σ H { s with toks:=t }:=I.un (h':=s.heap) (t':=t) Un.refl I.hok
theorem Inv.kept{t':Nat}(I:Inv X aB σ H s)(k:∀b u,s.heap.get? b=some u->h'.get? b=some u):Inv X aB σ H { s with heap:=h',toks:=t' }:=I.un (Un.kept k) (I.hok.kept k)
theorem Inv.laid{a:aA}{o:HO}{t':Nat}(I:Inv X aB σ H s)(k:∀b u,s.heap.get? b=some u->h'.get? b=some u)(hp:s.heap.objs.size<=a)(new:ObjOk X.prog X.w (upd H a o) h' a o) :
  Inv X aB σ (upd H a o) { s with heap:=h',toks:=t' }:=I.un (Un.laid k hp (I.hok.fresh hp)) (I.hok.laid k hp new)
theorem Inv.write{x e:aA}{o:HO}{t':Nat}(I:Inv X aB σ H s)(mu:Mut (H x))(he:e=x\/H e=some (.own x))(k:∀b u,b≠e->s.heap.get? b=some u->h'.get? b=some u)(heo:∃u,h'.get? e=some u)(new:ObjOk X.prog X.w (upd H x o) h' x o):Inv X aB σ (upd H x o) { s with heap:=h',toks:=t' }:=I.un (Un.write mu he k heo) (I.hok.write mu he k heo new)
theorem Inv.pins_of{pins':List (aA×Obj)}(I:Inv X aB σ H s)(h:∀p∈pins',s.heap.get? p.1=some p.2/\H p.1=none/\p.1≠X.env.locals/\p.1∉X.fs/\∀v,p.2.data≠.cell v):Inv X pins' σ H s :=
 ⟨I.ok,I.os,I.bare,I.base,I.loc,I.cell,I.free,I.freeC,fun p hp=>(bG.mp hp).elim (fun z=>I.pin p (aY _ z)) (h p),I.hok,I.len⟩
theorem MR{N:List Str}(hN:N.Nodup){i j:Nat}{x:Str}(a:N[i]?=some x)(b:N[j]?=some x):i=j:=by
 obtain⟨h1,e1⟩:=aT.mp a;obtain⟨h2,e2⟩:=aT.mp b;exact(List.getElem_inj hN).mp (e1.trans e2.symm)
theorem GX{M:UC}{A:bO}{E:Value->aC->Prop}{i:Nat}{x:Str}{v:V}{u:Value}{Q:Unit->aC->Prop}(I:Inv X aB σ H s)(hN:X.N.Nodup)(hi:X.N[i]?=some x)(hx:Loc X.env.scope x)(r:RelV v u)(h:∀s',Inv X aB (σ.set i (some v)) H s'->(∃a,Heap.SameBut a s.heap s'.heap/\(a=X.env.locals\/X.env.cells.lookup x=some a))->Q () s')(hf:X.fn x=true\/X.env.scope.names.lookup x=some .local:=by first | exact .inl rfl | exact .inr rfl | assumption):bD M A (storeName X.env x u) Q E s:=by
 obtain⟨m,hn,hl⟩:=id I.loc;have hcls:(X.env.scope.kind==.class||(X.env.scope.kind==.module&&X.env.locals != X.env.globals))=false:=by rw[I.ok.kind];rfl
 have hiσ : i<σ.length:=by rw[I.len];exact(aT.mp hi).1
 have cne:=I.cne
 have tracked:∀{a:aA} {h':Heap},(∃o,s.heap.get? a=some o/\H a=none)->Heap.SameBut a s.heap h'->HOk X.prog X.w H h':=fun {a h'} ha hs b ob e=>by
  obtain⟨_,_,hfree⟩:=ha;refine(I.hok b ob e).stay (fun c w' hc q=>(hs.2 c ?_).trans q) (fun _ q=>q) fun _ _ q=>q;rintro rfl;rcases hc with rfl | hc
  . rw[hfree] at e;cases e
  . rw[hfree] at hc;cases hc
 rcases hx with hk | hk
 . refine wpAny_storeName_local hk hn (fun h' hn' hs => ?_) hcls;obtain ⟨oL,_,_,hoL,_⟩:=id hn;refine h _ ⟨I.ok,I.os,I.bare,⟨fun b o e n hb hx=>?_,fun b o e n hb hx=>?_,I.base.free,fun b o e hx=>?_,I.base.tups,I.base.frzs,I.base.tbls⟩,⟨_,hn',fun j y v' e1 e2 e3=>?_⟩,fun y c e=>?_,I.free,I.freeC,fun p hp=>?_,tracked ⟨oL,hoL,I.free⟩ hs,by simpa using I.len⟩ ⟨_,hs,.inl rfl⟩
   . exact(hs.2 b (bN (bI (bC e) I.ok.above))).trans (I.base.keep b o e n hb hx)
   . obtain⟨sl, e1⟩ := I.base.slot b o e n hb hx;exact⟨sl,(hs.2 b (bN (bI (bC e) I.ok.above))).trans e1⟩
   . obtain⟨o', e1⟩ := I.base.there b o e hx;exact⟨o',(hs.2 b (bN (bI (bC e) I.ok.above))).trans e1⟩
   . by_cases hj : j = i
     . subst hj;rw[hi] at e1;cases e1;rw[aS hiσ] at e2;cases e2;exact⟨u,r,.inl ⟨hk,by simp⟩⟩
     . rw [aD (Ne.symm hj)] at e2;obtain ⟨u',r',q⟩:=hl j y v' e1 e2 e3;refine ⟨u',r',?_⟩;rcases q with ⟨k,e⟩ | ⟨k,c,e,z⟩
       . refine .inl ⟨k, ?_⟩;have:y≠x:=fun e=>hj (MR hN e1 (e▸hi));simp[this,e]
       . exact .inr ⟨k,c,e,z.sameBut hs (cne y c e)⟩
   . obtain⟨w', z⟩ := I.cell y c e;exact⟨w',z.sameBut hs (cne y c e)⟩
   . obtain⟨e, n, ne, nf, d⟩ := I.pin p hp;exact⟨(hs.2 p.1 ne).trans e,n,ne,nf,d⟩
 . have hfn:X.fn x=true:=by
    rcases hf with z | z
    . exact z
    . rw[z] at hk;cases hk
   obtain⟨c,hc⟩:=I.ok.has x (.inl hk);obtain⟨w',z⟩:=I.cell x c hc;refine wpAny_storeName_cell I.ok.kind hk hc z (fun h' hc' hs=>?_);obtain⟨oc,hoc,hocd⟩:=id z;refine h { s with heap:=h' } ⟨I.ok,I.os,I.bare,⟨fun b o e n hb hx=>?_,fun b o e n hb hx=>?_,I.base.free,fun b o e hx=>?_,I.base.tups,I.base.frzs,I.base.tbls⟩,⟨m,hn.sameBut hs (Ne.symm (cne x c hc)),fun j y v' e1 e2 e3=>?_⟩,fun y c' e=>?_,I.free,I.freeC,fun p hp=>?_,tracked ⟨oc,hoc,(I.freeC x c hc).now hfn⟩ hs,by simpa using I.len⟩ ⟨c,hs,.inr hc⟩
   . exact(hs.2 b (bN (bI (bC e) (I.ok.cab x c hfn hc)))).trans (I.base.keep b o e n hb hx)
   . obtain⟨sl, e1⟩ := I.base.slot b o e n hb hx;exact⟨sl,(hs.2 b (bN (bI (bC e) (I.ok.cab x c hfn hc)))).trans e1⟩
   . obtain⟨o', e1⟩ := I.base.there b o e hx;exact⟨o',(hs.2 b (bN (bI (bC e) (I.ok.cab x c hfn hc)))).trans e1⟩
   . by_cases hj : j = i
     . subst hj;rw[hi] at e1;cases e1;rw[aS hiσ] at e2;cases e2;exact⟨u,r,.inr ⟨.inl hk,c,hc,hc'⟩⟩
     . rw [aD (Ne.symm hj)] at e2;obtain ⟨u',r',q⟩:=hl j y v' e1 e2 e3;refine ⟨u',r',?_⟩;rcases q with q | ⟨k,c',e,z'⟩
       . exact .inl q
       . refine .inr ⟨k, c', e, z'.sameBut hs ?_⟩;rintro rfl;exact hj (MR hN e1 (I.ok.inj _ _ _ e hc▸hi))
   . by_cases hcc : c' = c
     . subst hcc;exact⟨_,hc'⟩
     . obtain⟨w2, z2⟩ := I.cell y c' e;exact⟨w2,z2.sameBut hs hcc⟩
   . obtain⟨e, n, ne, nf, d⟩ := I.pin p hp;refine⟨(hs.2 p.1 ?_).trans e,n,ne,nf,d⟩;intro q;rw[q,hoc] at e;have q':oc=p.2:=Option.some.inj e;exact d w' (by rw[<- q'];exact hocd)
theorem CP{M:UC}{A:bO}{E:Value->aC->Prop}{i:Nat}{x:Str}{v:V}{u:Value}{Q:Unit->aC->Prop}(I:Inv X aB σ H s)(hN:X.N.Nodup)(hi:X.N[i]?=some x)(hx:Loc X.env.scope x)(r:RelV v u)(h:∀s',Inv X aB (σ.set i (some v)) H s'->Q () s')(hf:X.fn x=true\/X.env.scope.names.lookup x=some .local:=by first | exact .inl rfl | exact .inr rfl | assumption):bD M A (storeName X.env x u) Q E s :=
 GX I hN hi hx r (fun s' I' _=>h s' I') hf
theorem Inv.call'{s':aC}{ch:List aA}(I:Inv X aB σ H s)(ho:s'.os=s.os)(u:Un (frs X.stack) ch H H' s.heap s'.heap)(hok:HOk X.prog X.w H' s'.heap)(hg:iS s'.gens)(hch:∀b∈ch,(b∈X.ex\/X.s₀.heap.objs.size<=b)/\b≠X.env.locals/\(∀x c,X.env.cells.lookup x=some c->c≠b)/\∀p∈X.pn++aB,p.1≠b):Inv X aB σ H' s':=by
 obtain⟨h',g',d',t',o'⟩:=s';have e:o'=s.os:=ho;subst e;exact I.call (g':=g') (t':=t') (d':=d') u hok hg hch
end
abbrev XK:=Value->Option aA->Hp->Prop
abbrev St:=List (Option V)
abbrev VK:=V->Hp->Prop
abbrev TE:=St->Hp->VK->Prop
abbrev TT:=St->Hp->(Bool->Hp->Prop)->Prop
abbrev TA:=St->Hp->(List V->Hp->Prop)->Prop
structure Ends where
 nx:St->Hp->Prop
 rt:VK
 bk:St->Hp->Prop:=fun _ _=>False
 ct:St->Hp->Prop:=fun _ _=>False
abbrev TS:=Ends->St->Hp->Prop
def EP(X:Cx)(aB:List (aA×Obj))(σ : St)(Q:VK)(u:Value)(s':aC):Prop:=∃v H',Inv X aB σ H' s'/\RelV v u/\Q v H'
def TP(X:Cx)(aB:List (aA×Obj))(σ : St)(Q:Bool->Hp->Prop)(b:Bool)(s':aC):Prop:=∃H',Inv X aB σ H' s'/\Q b H'
def AP(X:Cx)(aB:List (aA×Obj))(σ : St)(Q:List V->Hp->Prop)(us:List Value)(s':aC):Prop:=∃vs H',Inv X aB σ H' s'/\Vals vs us/\Q vs H'
def SP(X:Cx)(aB:List (aA×Obj))(D:Ends)(f:Flow)(s':aC):Prop :=
 match f with
 | .next=>∃σ' H',Inv X aB σ' H' s'/\D.nx σ' H'
 | .brk=>∃σ' H',Inv X aB σ' H' s'/\D.bk σ' H'
 | .cont=>∃σ' H',Inv X aB σ' H' s'/\D.ct σ' H'
 | .ret u=>∃v σ' H',Inv X aB σ' H' s'/\RelV v u/\D.rt v H'
def PE(X:Cx)(e:Expr)(t:TE):Prop :=
 ∀(aB:List (aA×Obj)) (s:aC) (σ : St) (H:Hp) (Q:VK),Inv X aB σ H s->t σ H Q->bD (bH X.prog X.w) X.A (bM e X.env) (EP X aB σ Q) X.xe s
def PT(X:Cx)(e:Expr)(t:TT):Prop :=
 ∀(aB:List (aA×Obj)) (s:aC) (σ : St) (H:Hp) (Q:Bool->Hp->Prop),Inv X aB σ H s->t σ H Q->bD (bH X.prog X.w) X.A (BF e X.env (bM e X.env)) (TP X aB σ Q) X.xe s
def PW(X:Cx)(e:Expr)(t:TT):Prop :=
 ∀(whole:Sem Value) (aB:List (aA×Obj)) (s:aC) (σ : St) (H:Hp) (Q:Bool->Hp->Prop),Inv X aB σ H s->t σ H Q->bD (bH X.prog X.w) X.A (BF e X.env whole) (TP X aB σ Q) X.xe s
theorem PW.pt{X:Cx}{e:Expr}{t:TT}(h:PW X e t):PT X e t:=h _
def PA(X:Cx)(es:List Expr)(t:TA):Prop :=
 ∀(pos:Pos) (aB:List (aA×Obj)) (s:aC) (σ : St) (H:Hp) (Q:List V->Hp->Prop),Inv X aB σ H s->t σ H Q->bD (bH X.prog X.w) X.A (spliced (cN pos (aF es X.env))) (AP X aB σ Q) X.xe s
def PS(X:Cx)(st:Stmt)(t:TS):Prop :=
 ∀(aB:List (aA×Obj)) (s:aC) (σ : St) (H:Hp) (D:Ends),Inv X aB σ H s->t D σ H->bD (bH X.prog X.w) X.A (exec st X.env) (SP X aB D) X.xe s
def PSs(X:Cx)(st:List Stmt)(t:TS):Prop :=
 ∀(aB:List (aA×Obj)) (s:aC) (σ : St) (H:Hp) (D:Ends),Inv X aB σ H s->t D σ H->bD (bH X.prog X.w) X.A (execs st X.env) (SP X aB D) X.xe s
theorem thn{α : Type}{t:Sem α}{Q Q' : α->aC->Prop}{M:UC}{A:bO}{E:Value->aC->Prop}{s:aC}(h:bD M A t Q E s)(hQ:∀a s,Q a s->Q' a s):bD M A t Q' E s:=dI h hQ fun _ _ x=>x
section
variable{X:Cx}
def tVar(i:Nat):TE:=fun σ H Q=>∃v,σ[i]?=some (some v)/\Q v H
def tC(v:V):TE:=fun _ H Q=>Q v H
theorem xI{i:Nat}{x:Str}{pos:Pos}(hN:X.N[i]?=some x)(hv:Vis X.env.scope x)(hd:(x==("__debug__" : Str))=false:=by decide)(hcd:(x==("__classdict__" : Str))=false:=by decide):PE X (.Name x pos) (tVar i):=by
 intro aB s σ H Q I h;obtain⟨v,e,h⟩:=h;obtain⟨m,hn,hl⟩:=I.loc;obtain⟨u,r,l⟩:=hl i x v hN e hv;have fin:EP X aB σ Q u s:=⟨v,H,I,r,h⟩
 rcases l with⟨hk,hm⟩ | ⟨hk,c,hc,hcell⟩
 . exact wpAny_Name (wpAny_loadName_local I.ok.kind hk hn hm fin) hd
 . rcases hk with hk | hk
   . exact wpAny_Name (wpAny_loadName_cell I.ok.kind hk hc hcell fin) hd
   . exact wpAny_Name (wpAny_loadName_free I.ok.kind hk hc hcell fin hcd) hd
theorem pe_int{i j pos}: PE X (.Constant (.int i) j pos) (tC (.int i)):=fun _ _ _ H _ I h=>wpAny_Constant_int ⟨.int i,H,I.tok _,⟨_,rfl⟩,h⟩
theorem pe_bl{b j pos}: PE X (.Constant (.bool b) j pos) (tC (.bl b)):=fun _ _ _ H _ I h=>Constant_bool ⟨.bl b,H,I,rfl,h⟩
theorem pe_non{j pos}: PE X (.Constant .none j pos) (tC .non):=fun _ _ _ H _ I h=>Constant_none ⟨.non,H,I,rfl,h⟩
theorem pe_str{x j pos}: PE X (.Constant (.str x) j pos) (tC (.str x)):=fun _ _ _ H _ I h=>Calls.Constant_str ⟨.str x,H,I.tok _,⟨_,rfl⟩,h⟩
def Gl(X:Cx)(x:Str):Prop:=X.env.kindOf x=some .globalImplicit
theorem xY{E:Value->aC->Prop}{aB:List (aA×Obj)}{s:aC}{σ : St}{H:Hp}{x:Str}{u:Value}{pos:Pos}{Q:Value->aC->Prop}(I:Inv X aB σ H s)(hg:Gl X x)(hm:X.mg x=some u)(h:Q u s)(hd:(x==("__debug__" : Str))=false:=by decide):bD (bH X.prog X.w) X.A (bM (.Name x pos) X.env) Q E s :=
 Calls.Name_function_global I.ok.kind hg (Calls.loadGlobal_global (by rw[I.ok.glob];exact I.mod.glob.keeps I.bk) hm h) hd
theorem kB{E:Value->aC->Prop}{aB:List (aA×Obj)}{s:aC}{σ : St}{H:Hp}{x:Str}{u:Value}{pos:Pos}{Q:Value->aC->Prop}(I:Inv X aB σ H s)(hg:Gl X x)(hm:X.mg x=none)(hv:fQ x=some u)(h:Q u s)(hn:x≠"__name__":=by decide)(hd:(x==("__debug__" : Str))=false:=by decide):bD (bH X.prog X.w) X.A (bM (.Name x pos) X.env) Q E s:=by
 obtain⟨mb,h1,h2⟩:=I.mod.blt;exact Calls.Name_function_global I.ok.kind hg (Calls.loadGlobal_builtin (by rw[I.ok.glob];exact I.mod.glob.keeps I.bk) hm (by rw[I.ok.blt];exact h1.keeps I.bk) ((h2 x hn).trans hv) h) hd
theorem pe_glob{x:Str}{v:V}{u:Value}{pos:Pos}(hg:Gl X x)(hm:X.mg x=some u)(r:RelV v u)(hd:(x==("__debug__" : Str))=false:=by decide):PE X (.Name x pos) (tC v):=
 fun _ _ _ H _ I h=>xY I hg hm ⟨v,H,I,r,h⟩ hd
theorem pe_bltn{x:Str}{v:V}{u:Value}{pos:Pos}(hg:Gl X x)(hm:X.mg x=none)(hv:fQ x=some u)(r:RelV v u)(hn:x≠"__name__":=by decide)(hd:(x==("__debug__" : Str))=false:=by decide):PE X (.Name x pos) (tC v):=
 fun _ _ _ H _ I h=>kB I hg hm hv ⟨v,H,I,r,h⟩ hn hd
variable{a b:Expr}{ta tb:TE}{pos:Pos}
def PC(X:Cx)(op:JB)(a b:Expr)(t:TE):Prop :=
 ∀(aB:List (aA×Obj)) (s:aC) (σ : St) (H:Hp) (Q:VK),Inv X aB σ H s->t σ H Q →
  bD (bH X.prog X.w) X.A (bM a X.env) (fun v s₁=>bD (bH X.prog X.w) X.A (bM b X.env) (fun u s₂=>bD (bH X.prog X.w) X.A (eQ op v u) (EP X aB σ Q) X.xe s₂) X.xe s₁) X.xe s
theorem aAy(b:Expr){op:JB}(h:op≠.In)(h2:op≠.NotIn):dQ op b=false:=by
 have e1:(op==JB.In)=false:=by cases op<;>first | rfl | exact absurd rfl h
 have e2:(op==JB.NotIn)=false:=by cases op<;>first | rfl | exact absurd rfl h2
 cases b<;>simp[dQ,e1,e2]
def tB(t:TE):TT:=fun σ H Q=>t σ H fun x H1=>∃c,x=.bl c/\Q c H1
theorem pt_cmp{op:JB}{t:TE}(h:PC X op a b t)(h1:dQ op b=false:=by first | exact aAy _ (by decide) (by decide) | rfl):PT X (.Compare a [op] [b] pos) (tB t):=by
 intro aB s σ H Q I hw;refine wpAny_isTrue_Compare1 (thn (h aB s σ H _ I hw) fun v s1 h1=>thn h1 fun u s2 h2=>thn h2 fun c s3 zq=>?_) h1;obtain⟨x,H1,I1,r1,q1⟩:=zq;obtain⟨d,rfl,q⟩:=q1;cases r1;exact eP ⟨H1,I1,q⟩
theorem ZW{e:Expr}{t:TE}(h:PE X e t)(he:∀whole,BF e X.env whole=(do let v <- whole;fP e.pos;dW [v] (XB v)):=by intro _;rfl):PT X e (tB t):=by
 intro aB s σ H Q I hw;refine isTrue_plain (thn (h aB s σ H _ I hw) fun v s1 zq=>?_) (he _);obtain⟨x,H1,I1,r1,q1⟩:=zq;obtain⟨d,rfl,q⟩:=q1;cases r1;exact eP ⟨H1,I1,q⟩
variable{tA tB':TT}{rest:List Expr}
def tAnd(t u:TT):TT:=fun σ H Q=>t σ H fun c H1=>if c=true then u σ H1 Q else Q false H1
def tOr(t u:TT):TT:=fun σ H Q=>t σ H fun c H1=>if c=true then Q true H1 else u σ H1 Q
def tNot(t:TT):TT:=fun σ H Q=>t σ H fun c H1=>Q (!c) H1
theorem pw_and1(ha:PT X a tA):PW X (.BoolOp .And [a] pos) tA:=by
 intro wh aB s σ H Q I h;refine isTrue_and (thn (ha aB s σ H Q I h) fun c s1 e=>?_);cases c with
 |true=>exact isTrue_and_nil e
 |false=>exact e
theorem pw_or1(ha:PT X a tA):PW X (.BoolOp .Or [a] pos) tA:=by
 intro wh aB s σ H Q I h;refine isTrue_or (thn (ha aB s σ H Q I h) fun c s1 e=>?_);cases c with
 |false=>exact isTrue_or_nil e
 |true=>exact e
theorem pw_and(ha:PT X a tA)(hb:PW X (.BoolOp .And (b::rest) pos) tB'):PW X (.BoolOp .And (a::b::rest) pos) (tAnd tA tB'):=by
 intro wh aB s σ H Q I h;refine isTrue_and (thn (ha aB s σ H _ I h) fun c s1 zq=>?_);obtain⟨H1,I1,q1⟩:=zq;cases c with
 |true=>exact hb wh aB s1 σ H1 Q I1 q1
 |false=>exact⟨H1,I1,q1⟩
theorem pw_or(ha:PT X a tA)(hb:PW X (.BoolOp .Or (b::rest) pos) tB'):PW X (.BoolOp .Or (a::b::rest) pos) (tOr tA tB'):=by
 intro wh aB s σ H Q I h;refine isTrue_or (thn (ha aB s σ H _ I h) fun c s1 zq=>?_);obtain⟨H1,I1,q1⟩:=zq;cases c with
 |true=>exact⟨H1,I1,q1⟩
 |false=>exact hb wh aB s1 σ H1 Q I1 q1
theorem ZY(ha:PT X a tA):PT X (.UnaryOp .Not a pos) (tNot tA):=by
 intro aB s σ H Q I h;exact isTrue_not (ha aB s σ H (fun c H1=>Q (!c) H1) I h)
def tAndV(ta tb:TE):TE:=fun σ H Q=>ta σ H fun x H1=>∃c,x=.bl c/\if c=true then tb σ H1 Q else Q (.bl false) H1
def tOrV(ta tb:TE):TE:=fun σ H Q=>ta σ H fun x H1=>∃c,x=.bl c/\if c=true then Q (.bl true) H1 else tb σ H1 Q
def tNotV(ta:TE):TE:=fun σ H Q=>ta σ H fun x H1=>∃c,x=.bl c/\Q (.bl (!c)) H1
theorem pe_one{op}{t:TE}(h:PE X a t):PE X (.BoolOp op [a] pos) t:=fun aB s σ H Q I hw=>BoolOp_one (h aB s σ H Q I hw)
theorem pe_and(ha:PE X a ta)(hb:PE X (.BoolOp .And (b::rest) pos) tb):PE X (.BoolOp .And (a::b::rest) pos) (tAndV ta tb):=by
 intro aB s σ H Q I h;refine BoolOp_and (thn (ha aB s σ H _ I h) fun v s1 zq=>?_);obtain⟨x,H1,I1,r1,q1⟩:=zq;obtain⟨c,rfl,q1⟩:=q1;cases r1;refine eP ?_;cases c with
 |true=>exact hb aB s1 σ H1 Q I1 q1
 |false=>exact⟨.bl false,H1,I1,rfl,q1⟩
theorem pe_or(ha:PE X a ta)(hb:PE X (.BoolOp .Or (b::rest) pos) tb):PE X (.BoolOp .Or (a::b::rest) pos) (tOrV ta tb):=by
 intro aB s σ H Q I h;refine BoolOp_or (thn (ha aB s σ H _ I h) fun v s1 zq=>?_);obtain⟨x,H1,I1,r1,q1⟩:=zq;obtain⟨c,rfl,q1⟩:=q1;cases r1;refine eP ?_;cases c with
 |false=>exact hb aB s1 σ H1 Q I1 q1
 |true=>exact⟨.bl true,H1,I1,rfl,q1⟩
theorem pe_not(ha:PE X a ta):PE X (.UnaryOp .Not a pos) (tNotV ta):=by
 intro aB s σ H Q I h;refine UnaryOp_ (thn (ha aB s σ H _ I h) fun v s1 zq=>?_);obtain⟨x,H1,I1,r1,q1⟩:=zq;obtain⟨c,rfl,q1⟩:=q1;cases r1;exact not_of (eP ⟨.bl (!c),H1,I1,rfl,q1⟩)
def tIf(t:TT)(ta tb:TE):TE:=fun σ H Q=>t σ H fun c H1=>if c=true then ta σ H1 Q else tb σ H1 Q
theorem aAn{c:Expr}(hc:PT X c tA)(ha:PE X a ta)(hb:PE X b tb):PE X (.IfExp c a b pos) (tIf tA ta tb):=by
 intro aB s σ H Q I h;refine wpAny_IfExp (thn (hc aB s σ H _ I h) fun d s1 zq=>?_);obtain⟨H1,I1,q1⟩:=zq;cases d with
 |true=>exact ha aB s1 σ H1 Q I1 q1
 |false=>exact hb aB s1 σ H1 Q I1 q1
end
def SqL(K:aJ)(H:Hp)(a:aA)(xs:List V):Prop :=
 Rd H a (.lst xs) ∨
  ∃(o:Obj) (its:Array Value) (n:Nat),K.lookup a=some o/\o.cls=.type "list"/\o.dict=none/\o.data=.seq its n/\its.size<=sizeLine/\Vals xs its.toList
def SqT(K:aJ)(H:Hp)(a:aA)(xs:List V):Prop :=
 Rd H a (.tup xs) ∨
  ∃(o:Obj) (its:Array Value) (n:Nat),K.lookup a=some o/\o.cls=.type "tuple"/\o.data=.seq its n/\its.size<=sizeLine/\Vals xs its.toList
noncomputable def absV:Value->Option V
 | .none=>some .non
 | .bool b=>some (.bl b)
 | .int i _=>some (.int i)
 | .str x _=>some (.str x)
 | .bytes b _=>some (.byt b)
 | .float b _=>some (.flt b)
 | .ref a=>some (.ref a)
 | .type n=>some (.ty n)
 |_=>none
theorem RelV.abs{x:V}{u:Value}(r:RelV x u):absV u=some x:=by
 cases x with
 |non=>cases r;rfl
 |bl _=>cases r;rfl
 |int _=>obtain⟨t,rfl⟩:=r;rfl
 |str _=>obtain⟨t,rfl⟩:=r;rfl
 |byt _=>obtain⟨t,rfl⟩:=r;rfl
 |flt _=>obtain⟨t,rfl⟩:=r;rfl
 |ref _=>cases r;rfl
 |ty _=>cases r;rfl
theorem RelV.inj{x y:V}{u:Value}(r:RelV x u)(q:RelV y u):x=y:=Option.some.inj (r.abs.symm.trans q.abs)
theorem Vals.inj:∀{xs ys:List V} {us:List Value},Vals xs us->Vals ys us->xs=ys
 |_,_,_,.nil,.nil=>rfl
 |_,_,_,.cons r t,.cons r' t'=>by rw[r.inj r',Vals.inj t t']
section
variable{X:Cx}{aB:List (aA×Obj)}{σ : St}{H:Hp}{s:aC}{a:aA}{xs ys:List V}
theorem SqL.of{K:aJ}(h:H a=some (.lst xs)):SqL K H a xs:=.inl (.inl h)
theorem SqT.of{K:aJ}(h:H a=some (.tup xs)):SqT K H a xs:=.inl (.inl h)
theorem Inv.list(I:Inv X aB σ H s)(h:SqL X.K H a xs):∃its:List Value,Vals xs its/\PlainL s.heap a its.toArray/\xs.length<=sizeLine:=by
 rcases h with h | ⟨o,its,n,hk,hc,hd,hs,hz,r⟩
 . obtain⟨z, its, n, r, e⟩ := h.ok I.hok;exact⟨its,r,⟨_,n,e,rfl,rfl,rfl⟩,z⟩
 . refine⟨its.toList, r, ⟨o, n, I.kIn a o hk, hc, hd, by simpa using hs⟩, ?_⟩;have e:=r.length;simp only[fO] at e;omega
theorem Inv.tuple(I:Inv X aB σ H s)(h:SqT X.K H a xs):∃its:List Value,Vals xs its/\IsTup s.heap a its.toArray/\xs.length<=sizeLine:=by
 rcases h with h | ⟨o,its,n,hk,hc,hs,hz,r⟩
 . obtain⟨z, its, r, p⟩ := h.ok I.hok;exact⟨its,r,p,z⟩
 . refine⟨its.toList, r, ⟨o, I.kIn a o hk, hc, n, by simpa using hs⟩, ?_⟩;have e:=r.length;simp only[fO] at e;omega
theorem Inv.list_inj(I:Inv X aB σ H s)(h:SqL X.K H a xs)(h':SqL X.K H a ys):xs=ys:=by
 obtain⟨its,r,⟨o,n,e,_,_,d⟩,_⟩:=I.list h;obtain⟨its',r',⟨o',n',e',_,_,d'⟩,_⟩:=I.list h';rw[e] at e';cases e';rw[d] at d';injection d' with d1 _
 have:its=its':=by simpa using congrArg Array.toList d1
 subst this;exact r.inj r'
theorem Inv.tuple_inj(I:Inv X aB σ H s)(h:SqT X.K H a xs)(h':SqT X.K H a ys):xs=ys:=by
 obtain⟨its,r,⟨o,e,_,n,d⟩,_⟩:=I.tuple h;obtain⟨its',r',⟨o',e',_,n',d'⟩,_⟩:=I.tuple h';rw[e] at e';cases e';rw[d] at d';injection d' with d1 _
 have:its=its':=by simpa using congrArg Array.toList d1
 subst this;exact r.inj r'
end
noncomputable abbrev Cx.wish(X:Cx)(E:Value->aC->Prop):Cx:={ X with xe:=E }
noncomputable abbrev Cx.nox(X:Cx):Cx:=X.wish fun _ _=>False
theorem Cx.Ok.wish{X:Cx}(ok:X.Ok)(E:Value->aC->Prop):(X.wish E).Ok :=
 ⟨ok.mod,ok.kind,ok.glob,ok.blt,ok.above,ok.inj,ok.has,ok.cab,ok.hd,ok.frames,ok.stk,ok.exf,ok.bs,ok.bsz,ok.noex,ok.exfs,ok.funs,ok.frf⟩
theorem Cx.Ok.unwish{X:Cx}{E:Value->aC->Prop}(ok:(X.wish E).Ok):X.Ok :=
 ⟨ok.mod,ok.kind,ok.glob,ok.blt,ok.above,ok.inj,ok.has,ok.cab,ok.hd,ok.frames,ok.stk,ok.exf,ok.bs,ok.bsz,ok.noex,ok.exfs,ok.funs,ok.frf⟩
section
variable{X:Cx}{aB:List (aA×Obj)}{σ : St}{H:Hp}{s:aC}{E:Value->aC->Prop}
theorem Inv.wish(I:Inv X aB σ H s)(E:Value->aC->Prop):Inv (X.wish E) aB σ H s:=⟨I.ok.wish E,I.os,I.bare,I.base,I.loc,I.cell,I.free,I.freeC,I.pin,I.hok,I.len⟩
theorem Inv.unwish(I:Inv (X.wish E) aB σ H s):Inv X aB σ H s:=⟨I.ok.unwish,I.os,I.bare,I.base,I.loc,I.cell,I.free,I.freeC,I.pin,I.hok,I.len⟩
theorem SP.unwish{D:Ends}{f:Flow}{s':aC}(h:SP (X.wish E) aB D f s'):SP X aB D f s':=by
 cases f with
 |next=>obtain⟨σ',H',I,q⟩:=h;exact⟨σ',H',I.unwish,q⟩
 |brk=>obtain⟨σ',H',I,q⟩:=h;exact⟨σ',H',I.unwish,q⟩
 |cont=>obtain⟨σ',H',I,q⟩:=h;exact⟨σ',H',I.unwish,q⟩
 |ret u=>obtain⟨v,σ',H',I,r,q⟩:=h;exact⟨v,σ',H',I.unwish,r,q⟩
theorem PSs.nox{st:List Stmt}{t:TS}(h:PSs X.nox st t):PSs X st t:=fun aB s σ H D I hw =>
 dI (h aB s σ H D (I.wish _) hw) (fun _ _ q=>q.unwish) fun _ _ z=>False.elim z
end
section
variable{X:Cx}{st:Stmt}{rest:List Stmt}{t u:TS}{e:Expr}{te:TE}{pos:Pos}
def tNext:TS:=fun D σ H=>D.nx σ H
def tSeq(t u:TS):TS:=fun D σ H=>t { D with nx:=u D } σ H
theorem RM:PSs X [] tNext:=fun _ _ σ H _ I h=>nC ⟨σ,H,I,h⟩
theorem wR(h1:PS X st t)(h2:PSs X rest u):PSs X (st::rest) (tSeq t u):=by
 intro aB s σ H D I h;refine rD (thn (h1 aB s σ H { D with nx:=u D } I h) fun f s1 q=>?_);cases f with
 | next =>
   obtain⟨σ',H',I',q⟩:=q;exact h2 aB s1 σ' H' D I' q
 |ret v=>exact q
 |brk=>exact q
 |cont=>exact q
theorem BR(h1:PS X st t):PSs X [st] t:=by
 intro aB s σ H D I h;refine rD (thn (h1 aB s σ H D I h) fun f s1 q=>?_);cases f with
 |next=>exact nC q
 |ret v=>exact q
 |brk=>exact q
 |cont=>exact q
def tCont:TS:=fun D σ H=>D.ct σ H
theorem MI:PS X (.Continue pos) tCont:=fun _ _ σ H _ I h=>wpAny_Continue ⟨σ,H,I,h⟩
theorem Inv.quiet{aB:List (aA×Obj)}{σ : St}{H:Hp}{s:aC}(I:Inv X aB σ H s):interactive X.env=false:=by simp[interactive,I.ok.kind]
def tDrop(te:TE):TS:=fun D σ H=>te σ H fun _ H1=>D.nx σ H1
theorem xX(he:PE X e te)(hs:cV e none pos.line X.env=pure false:=by rfl):PS X (.Expr e pos) (tDrop te):=by
 intro aB s σ H D I h;exact wpAny_Expr_any (thn (he aB s σ H _ I h) fun v s1 ⟨x,H1,I1,r1,q1⟩=>⟨σ,H1,I1,q1⟩) I.quiet hs
def tRet(te:TE):TS:=fun D σ H=>te σ H D.rt
theorem uM(he:PE X e te):PS X (.Return (some e) pos) (tRet te):=by
 intro aB s σ H D I h;exact wpAny_Return_some (thn (he aB s σ H _ I h) fun v s1 ⟨x,H1,I1,r1,q1⟩=>⟨x,σ,H1,I1,r1,q1⟩)
def tIfS(c:TT)(t u:TS):TS:=fun D σ H=>c σ H fun b H1=>if b=true then t D σ H1 else u D σ H1
theorem RN{c:Expr}{a b:List Stmt}{tc:TT}(hc:PT X c tc)(ha:PSs X a t)(hb:PSs X b u):PS X (.If c a b pos) (tIfS tc t u):=by
 intro aB s σ H D I h;refine wpAny_If (thn (hc aB s σ H _ I h) fun d s1 zq=>?_);obtain⟨H1,I1,q1⟩:=zq;cases d with
 |true=>exact ha aB s1 σ H1 D I1 q1
 |false=>exact hb aB s1 σ H1 D I1 q1
def tNever:TS:=fun _ _ _=>False
theorem aAe:PS X st tNever:=fun _ _ _ _ _ _ h=>h.elim
end
abbrev TG:=V->St->Hp->(St->Hp->Prop)->Prop
abbrev TGs:=List V->St->Hp->(St->Hp->Prop)->Prop
def PG(X:Cx)(target:Expr)(t:TG):Prop :=
 ∀(aB:List (aA×Obj)) (s:aC) (σ : St) (H:Hp) (v:V) (u:Value) (Q:St->Hp->Prop),Inv X aB σ H s->RelV v u->t v σ H Q →
  bD (bH X.prog X.w) X.A (pB target X.env u) (fun _ s'=>∃σ' H',Inv X aB σ' H' s'/\Q σ' H') X.xe s
def PGs(X:Cx)(ts:List Expr)(t:TGs):Prop :=
 ∀(aB:List (aA×Obj)) (s:aC) (σ : St) (H:Hp) (vs:List V) (us:List Value) (Q:St->Hp->Prop),Inv X aB σ H s->Vals vs us->t vs σ H Q →
  bD (bH X.prog X.w) X.A (assignInOrder ((fT ts X.env).map (·.2)) us) (fun _ s'=>∃σ' H',Inv X aB σ' H' s'/\Q σ' H') X.xe s
abbrev TSet:=V->V->V->Hp->(Hp->Prop)->Prop
def PSet(X:Cx)(t:TSet):Prop :=
 ∀(aB:List (aA×Obj)) (s:aC) (σ : St) (H:Hp) (o i v:V) (ov iv u:Value) (Q:Hp->Prop),Inv X aB σ H s->RelV o ov->RelV i iv->RelV v u->t o i v H Q →
  bD (bH X.prog X.w) X.A (setItem ov iv u) (fun _ s'=>∃H',Inv X aB σ H' s'/\Q H') X.xe s
abbrev TIp:=V->V->Hp->VK->Prop
def PIp(X:Cx)(op:Operator)(t:TIp):Prop :=
 ∀(aB:List (aA×Obj)) (s:aC) (σ : St) (H:Hp) (x y:V) (v u:Value) (Q:VK),Inv X aB σ H s->RelV x v->RelV y u->t x y H Q →
  bD (bH X.prog X.w) X.A (inplaceOp op v u) (EP X aB σ Q) X.xe s
section
variable{X:Cx}{pos:Pos}
def gName(i:Nat):TG:=fun v σ H Q=>Q (σ.set i (some v)) H
theorem pg_name{i:Nat}{x:Str}(hN:X.N.Nodup)(hi:X.N[i]?=some x)(hx:Loc X.env.scope x)(hf:X.fn x=true\/X.env.scope.names.lookup x=some .local:=by first | exact .inl rfl | exact .inr rfl | assumption):PG X (.Name x pos) (gName i):=by
 intro aB s σ H v u Q I r h;exact wpAny_assign_Name (CP I hN hi hx r (fun s' I'=>⟨_,H,I',h⟩) hf)
def gNil:TGs:=fun vs σ H Q=>vs=[]/\Q σ H
def gCons(t:TG)(u:TGs):TGs:=fun vs σ H Q=>∃v r,vs=v::r/\t v σ H fun σ' H'=>u r σ' H' Q
theorem pgs_nil:PGs X [] gNil:=by
 intro aB s σ H vs us Q I r h;obtain⟨e,h⟩:=h;subst e;cases r;exact assignInOrder_nil ⟨σ,H,I,h⟩
theorem aAk{e:Expr}{es:List Expr}{t:TG}{u:TGs}(h1:PG X e t)(h2:PGs X es u)(hs:(fT (e::es) X.env).map (·.2)=pB e X.env::(fT es X.env).map (·.2):=by rfl):PGs X (e::es) (gCons t u):=by
 intro aB s σ H vs us Q I r h;obtain⟨v,vr,e1,h⟩:=h;subst e1;cases r with
 | cons r rr =>
   rw[hs];refine assignInOrder_cons (thn (h1 aB s σ H _ _ _ I r h) fun _ s1 zq=>?_);obtain⟨σ1,H1,I1,q1⟩:=zq;exact h2 aB s1 σ1 H1 _ _ Q I1 rr q1
def gTup(K:aJ)(n:Nat)(t:TGs):TG:=fun v σ H Q=>∃a xs,v=.ref a/\SqT K H a xs/\xs.length=n/\t xs σ H Q
theorem pg_tup{es:List Expr}{k:Nat}{t:TGs}{n:Nat}(hc:X.calm=true)(h:PGs X es t)(hn:(fT es X.env).length=n:=by rfl)(hst:(fT es X.env).findIdx? (·.1)=none:=by rfl):PG X (.Tuple es k pos) (gTup X.K n t):=by
 intro aB s σ H v u Q I r hw;obtain⟨a,xs,e1,hq,hl,hw⟩:=hw;subst e1;cases r;obtain⟨its,rv,ht,hz⟩:=I.tuple hq;refine assign_Tuple_tuple (I.ok.hd hc) ht (by simp[hn,<- hl,rv.length]) hst fun h' hx=>?_;have I1:Inv X aB σ H { s with heap:=h' }:=I.kept (t':=s.toks) fun b o e=>hx b o (bN (bC e)) e;exact h aB _ σ H xs _ Q I1 (by simpa using rv) hw
def gSub(to ti:TE)(t:TSet):TG:=fun v σ H Q=>to σ H fun o H1=>ti σ H1 fun i H2=>t o i v H2 fun H3=>Q σ H3
theorem pg_sub{o i:Expr}{to ti:TE}{t:TSet}(ho:PE X o to)(hi:PE X i ti)(hs:PSet X t)(ha:∀v,pB (.Subscript o i pos) X.env v=(do
    let ov <- dW [v] (bM o X.env)
    let iv <- dW [v,ov] (bM i X.env)
    fP pos
    dW [v,ov,iv] (setItem ov iv v)
    release [v,ov,iv] []):=by intro _;rfl):PG X (.Subscript o i pos) (gSub to ti t):=by
 intro aB s σ H v u Q I r h;rw[ha];refine bB (pA (thn (ho aB s σ H _ I h) fun ov s1 zq=>?_));obtain⟨x,H1,I1,r1,q1⟩:=zq;refine bB (pA (thn (hi aB s1 σ H1 _ I1 q1) fun iv s2 zq=>?_));obtain⟨y,H2,I2,r2,q2⟩:=zq;refine bB (QO (bB (pA (thn (hs aB s2 σ H2 x y v ov iv u _ I2 r1 r2 r q2) fun _ s3 zq=>?_))));obtain⟨H3,I3,q3⟩:=zq;exact wpAny_release ⟨σ,H3,I3,q3⟩
def tAsg(te:TE)(g:TG):TS:=fun D σ H=>te σ H fun x H1=>g x σ H1 D.nx
theorem aAh{tg e:Expr}{te:TE}{g:TG}(he:PE X e te)(hg:PG X tg g)(hs:QP [tg] e pos.line X.env=pure false:=by rfl)(hw:QQ [tg] e X.env=pure none:=by rfl)(h1:(fT [tg] X.env).map (·.2)=[pB tg X.env]:=by rfl):PS X (.Assign [tg] e pos) (tAsg te g):=by
 intro aB s σ H D I h;refine wpAny_Assign_stores (thn (he aB s σ H _ I h) fun v s1 zq=>?_) hs hw;obtain⟨x,H1,I1,r1,q1⟩:=zq;rw[h1];exact thn (hg aB s1 σ H1 x v _ I1 r1 q1) fun _ s2 q=>q
theorem JP{i:Nat}{x:Str}{e:Expr}{te:TE}{pos':Pos}(hN:X.N.Nodup)(hi:X.N[i]?=some x)(hx:Loc X.env.scope x)(he:PE X e te)(hs:cV e (some (.Name x pos')) pos.line X.env=pure false:=by rfl)(hf:X.fn x=true\/X.env.scope.names.lookup x=some .local:=by first | exact .inl rfl | exact .inr rfl | assumption) :
  PS X (.Assign [.Name x pos'] e pos) (tAsg te (gName i)):=by
 intro aB s σ H D I h;refine wpAny_Assign_Name (thn (he aB s σ H _ I h) fun v s1 zq=>?_) hs;obtain⟨y,H1,I1,r1,q1⟩:=zq;exact CP I1 hN hi hx r1 (fun s2 I2=>⟨_,H1,I2,q1⟩) hf
def tAug(i:Nat)(te:TE)(ti:TIp):TS:=fun D σ H=>∃x,σ[i]?=some (some x)/\te σ H fun y H1=>ti x y H1 fun z H2=>D.nx (σ.set i (some z)) H2
theorem ps_aug{i:Nat}{x:Str}{e:Expr}{te:TE}{op:Operator}{ti:TIp}{pos':Pos}(hN:X.N.Nodup)(hi:X.N[i]?=some x)(hx:Loc X.env.scope x)(he:PE X e te)(ho:PIp X op ti)(hf:X.fn x=true\/X.env.scope.names.lookup x=some .local:=by first | exact .inl rfl | exact .inr rfl | assumption) :
  PS X (.AugAssign (.Name x pos') op e pos) (tAug i te ti):=by
 intro aB s σ H D I h;obtain⟨v,e1,h⟩:=h;obtain⟨m,hn,hl⟩:=I.loc;have vis:Vis X.env.scope x:=by rcases hx with k | k;exact .inl k;exact .inr (.inl k)
 obtain⟨u,r,l⟩:=hl i x v hi e1 vis;refine wpAny_AugAssign_Name ?_
 have go:bD (bH X.prog X.w) X.A (bM e X.env) (fun w s₂=>bD (bH X.prog X.w) X.A (inplaceOp op u w) (fun r s₃=>bD (bH X.prog X.w) X.A (storeName X.env x r) (fun _=>SP X aB D .next) X.xe s₃) X.xe s₂) X.xe s:=by
  refine thn (he aB s σ H _ I h) fun w s1 zq=>?_;obtain⟨y,H1,I1,r1,q1⟩:=zq;refine thn (ho aB s1 σ H1 v y u w _ I1 r r1 q1) fun z s2 zq=>?_;obtain⟨zv,H2,I2,r2,q2⟩:=zq;exact CP I2 hN hi hx r2 (fun s3 I3=>⟨_,H2,I3,q2⟩) hf
 rcases l with⟨hk,hm⟩ | ⟨hk,c,hc,hcell⟩
 . exact wpAny_loadName_local I.ok.kind hk hn hm go
 . rcases hk with hk | hk
   . exact wpAny_loadName_cell I.ok.kind hk hc hcell go
   . rcases hx with k | k
     . have : X.env.scope.names.lookup x=some .free := hk;rw[k] at this;cases this
     . have : X.env.scope.names.lookup x=some .free := hk;rw[k] at this;cases this
def ipI(f:Int->Int->Int):TIp:=fun x y H Q=>∃i j,x=.int i/\y=.int j/\Q (.int (f i j)) H
theorem ip_add:PIp X .Add (ipI fun i j=>i+j):=by
 intro aB s σ H x y v u Q I r1 r2 h;obtain⟨i,j,e1,e2,q⟩:=h;subst e1;subst e2;obtain⟨t,rfl⟩:=r1;obtain⟨t',rfl⟩:=r2;exact iadd_int ⟨.int _,H,I.tok _,⟨_,rfl⟩,q⟩
end
section
variable{X:Cx}{pos:Pos}
end
structure It where
 go:Nat->Hp->Prop
 yld:Nat->Hp->V->Hp->Prop
 stop:Nat->Hp->Prop
def FpOk(X:Cx)(aB:List (aA×Obj))(H:Hp)(b:aA):Prop :=
 H b=none/\b≠X.env.locals/\b∉X.fs/\(b∈X.ex\/X.s₀.heap.objs.size<=b)/\(∀x c,X.env.cells.lookup x=some c->c≠b)/\∀p∈X.pn++aB,p.1≠b
theorem Inv.fpOk{X:Cx}{aB:List (aA×Obj)}{σ : St}{H H':Hp}{s:aC}{b:aA}(I:Inv X aB σ H s)(hb:s.heap.objs.size<=b)(hn:H' b=none):FpOk X aB H' b:=by
 refine⟨hn,pE (bI I.lt hb),I.nofs hb,.inr (cJ I.sz hb),fun x c e z=>?_,fun p hp z=>?_⟩
 . obtain⟨v, q⟩ := I.cell x c e;exact absurd (bI q.lt (by rw[z];exact hb)) (dB _)
 . exact absurd (bI (bC (I.pin p hp).1) (by rw[z];exact hb)) (dB _)
structure Turn(P:aZ)(w:bK)(K:aJ)(tg:Expr)(J:It)(fp:List aA)(it:aA)(tn:Nat->Heap->Prop)(cm:Cx->Prop:=fun X=>X.calm=true):Prop where
 mem:it∈fp
 obj:∀i h,tn i h->∀b∈fp,∃o,h.get? b=some o/\∀v,o.data≠.cell v
 keep:∀i h h',tn i h->(∀b∈fp,∀o,h.get? b=some o->h'.get? b=some o)->tn i h'
 item:∀(X:Cx),X.prog=P->X.w=w->X.K=K->cm X->∀(i:Nat) (aB:List (aA×Obj)) (s:aC) (σ : St) (H:Hp) (E:Value->aC->Prop),Inv X aB σ H s->(∀b∈fp,FpOk X aB H b)->tn i s.heap->J.go i H →
  bD (bH P w) X.A (pyNext (.ref it)) (fun r s1=>∃u,r=some u ∧
   bD (bH P w) X.A (sG tg (.ref it) u) (fun _ s2=>∃x H',Inv X aB σ H' s2/\RelV x u/\J.yld i H x H'/\tn (i+1) s2.heap/\∀b∈fp,H' b=none) E s1) E s
 done:∀(X:Cx),X.prog=P->X.w=w->X.K=K->cm X->∀(i:Nat) (aB:List (aA×Obj)) (s:aC) (σ : St) (H:Hp) (E:Value->aC->Prop),Inv X aB σ H s->(∀b∈fp,FpOk X aB H b)->tn i s.heap->J.stop i H →
  bD (bH P w) X.A (pyNext (.ref it)) (fun r s1=>r=none/\Inv X aB σ H s1) E s
 self:∀(A:bO) (i:Nat) (s:aC) (Q:Value->aC->Prop) (E:Value->aC->Prop),tn i s.heap->Q (.ref it) s->bD (bH P w) A (pyIter (.ref it)) Q E s
abbrev TI:=St->Hp->(It->Hp->Prop)->Prop
def PIE(X:Cx)(aB:List (aA×Obj))(σ : St)(tg:Expr)(R:It->Hp->Prop)(cm:Cx->Prop:=fun X=>X.calm=true)(itv:Value)(s2:aC):Prop :=
 ∃(it:aA) (fp:List aA) (tn:Nat->Heap->Prop) (J:It) (H':Hp),itv=.ref it/\Inv X aB σ H' s2/\Turn X.prog X.w X.K tg J fp it tn cm/\tn 0 s2.heap/\(∀b∈fp,FpOk X aB H' b)/\R J H'
def PI(X:Cx)(tg iter:Expr)(wi:TI)(cm:Cx->Prop:=fun X=>X.calm=true):Prop :=
 ∀(aB:List (aA×Obj)) (s:aC) (σ : St) (H:Hp) (R:It->Hp->Prop),Inv X aB σ H s->wi σ H R →
  bD (bH X.prog X.w) X.A (bM iter X.env) (fun v s1=>bD (bH X.prog X.w) X.A (pyIter v) (PIE X aB σ tg R cm) X.xe s1) X.xe s
theorem IJ{M:UC}{A:bO}{E:Value->aC->Prop}{s:aC}{tg:Expr}{it:aA}{u:Value}{o:Obj}{n:String}{vs:Array Value}{Q:Unit->aC->Prop}(ho:s.heap.get? it=some o)(hc:o.cls=.type n)(hd:o.data=.fields vs)(hn:["enumerate","zip","dict_itemiterator","dict_reverseitemiterator","odict_iterator","itertools.zip_longest","itertools.pairwise"].contains n=false)(hQ:Q () s):bD M A (sG tg (.ref it) u) Q E s:=by
 unfold sG
 cases tg<;>first
  |exact cF hQ
  |(cases u<;>first
      |exact cF hQ
      | (refine bB (wpAny_load ho ?_)
         rw[hc,hd];show bD M A (if (["enumerate","zip","dict_itemiterator","dict_reverseitemiterator","odict_iterator","itertools.zip_longest","itertools.pairwise"].contains n&&vs[0]?==some (NW _))=true then _ else _) Q E s;rw[if_neg (by intro h;rw[hn,Bool.false_and] at h;cases h)]
         exact cF hQ))
noncomputable def Itl(K:aJ)(a:aA):It :=
 ⟨fun i H=>∃xs x,SqL K H a xs/\xs[i]?=some x,fun i H x H'=>H'=H/\∀xs,SqL K H a xs->xs[i]?=some x,fun i H=>∃xs,SqL K H a xs/\xs.length<=i⟩
noncomputable def Itt(K:aJ)(a:aA):It :=
 ⟨fun i H=>∃xs x,SqT K H a xs/\xs[i]?=some x,fun i H x H'=>H'=H/\∀xs,SqT K H a xs->xs[i]?=some x,fun i H=>∃xs,SqT K H a xs/\xs.length<=i⟩
noncomputable def Itr(lo:Int)(n:Nat):It:=⟨fun i _=>i<n,fun i H x H'=>H'=H/\x=.int (lo+i),fun i _=>n<=i⟩
theorem UK{P:aZ}{w:bK}{K:aJ}{tg:Expr}(a it:aA):Turn P w K tg (Itl K a) [it] it (fun i h=>h.IsListIter it a i) where
 mem:=by simp
 obj:=fun i h st b hb=>by
  have e:b=it:=by simpa using hb
  subst e;obtain⟨o,e,c,d⟩:=st;exact⟨o,e,fun v z=>by rw[d] at z;cases z⟩
 keep:=fun i h h' st k=>st.at fun o e=>k it (by simp) o e
 item:=by
  intro X hP hw hK hc i aB s σ H E I hf st hg;subst hP hw hK;obtain⟨xs,x,hq,hx⟩:=hg;obtain⟨its,rv,p,hz⟩:=I.list hq;obtain⟨u,hu,ru⟩:=rv.get hx;obtain⟨f0,f1,f2,f3,f4,f5⟩:=hf it (by simp);refine wpAny_pyNext_list_item st p.isList (x:=u) (by simpa using hu) fun h' st' sb=>?_;have I1:Inv X aB σ H { s with heap:=h' }:=I.turned (t':=s.toks) (fun b o hb e=>(sb.2 b hb).trans e) f0 f1 f3 f4 f5;obtain⟨o,e,c,d⟩:=id st';exact⟨u,rfl,IJ (s:={ s with heap:=h' }) e c d (by decide) ⟨x,H,I1,ru,⟨rfl,fun ys hy=>by rw[I.list_inj hy hq];exact hx⟩,st',fun b hb=>(hf b hb).1⟩⟩
 done:=by
  intro X hP hw hK hc i aB s σ H E I hf st hg;subst hP hw hK;obtain⟨xs,hq,hx⟩:=hg;obtain⟨its,rv,p,hz⟩:=I.list hq;obtain⟨f0,f1,f2,f3,f4,f5⟩:=hf it (by simp);have hl:=rv.length;exact wpAny_pyNext_list_end (I.ok.hd hc) st p.isList (by simp;omega) fun h' eb=>⟨rfl,I.turned (t':=s.toks) (fun b o hb e=>eb b o hb e) f0 f1 f3 f4 f5⟩
 self:=fun _ _ _ _ _ st h=>wpAny_pyIter_listiter st h
theorem OM{P:aZ}{w:bK}{K:aJ}{tg:Expr}(a it:aA):Turn P w K tg (Itt K a) [it] it (fun i h=>h.IsTupleIter it a i) where
 mem:=by simp
 obj:=fun i h st b hb=>by
  have e:b=it:=by simpa using hb
  subst e;obtain⟨o,e,c,d⟩:=st;exact⟨o,e,fun v z=>by rw[d] at z;cases z⟩
 keep:=fun i h h' st k=>st.at fun o e=>k it (by simp) o e
 item:=by
  intro X hP hw hK hc i aB s σ H E I hf st hg;subst hP hw hK;obtain⟨xs,x,hq,hx⟩:=hg;obtain⟨its,rv,p,hz⟩:=I.tuple hq;obtain⟨u,hu,ru⟩:=rv.get hx;obtain⟨f0,f1,f2,f3,f4,f5⟩:=hf it (by simp);refine wpAny_pyNext_tuple_item st (show s.heap.IsTuple a its.toArray from p) (x:=u) (by simpa using hu) fun h' st' sb=>?_;have I1:Inv X aB σ H { s with heap:=h' }:=I.turned (t':=s.toks) (fun b o hb e=>(sb.2 b hb).trans e) f0 f1 f3 f4 f5;obtain⟨o,e,c,d⟩:=id st';exact⟨u,rfl,IJ (s:={ s with heap:=h' }) e c d (by decide) ⟨x,H,I1,ru,⟨rfl,fun ys hy=>by rw[I.tuple_inj hy hq];exact hx⟩,st',fun b hb=>(hf b hb).1⟩⟩
 done:=by
  intro X hP hw hK hc i aB s σ H E I hf st hg;subst hP hw hK;obtain⟨xs,hq,hx⟩:=hg;obtain⟨its,rv,p,hz⟩:=I.tuple hq;obtain⟨f0,f1,f2,f3,f4,f5⟩:=hf it (by simp);have hl:=rv.length;exact wpAny_pyNext_tuple_end (I.ok.hd hc) st (show s.heap.IsTuple a its.toArray from p) (by simp;omega) fun h' eb=>⟨rfl,I.turned (t':=s.toks) (fun b o hb e=>eb b o hb e) f0 f1 f3 f4 f5⟩
 self:=fun _ _ _ _ _ st h=>wpAny_pyIter_tupleiter st h
theorem ON{P:aZ}{w:bK}{K:aJ}{tg:Expr}(it:aA)(lo:Int)(n:Nat):Turn P w K tg (Itr lo n) [it] it (fun i h=>IsRangeIter h it (lo+(i:Nat)*1) ((n:Int)-(i:Nat)) 1) where
 mem:=by simp
 obj:=fun i h st b hb=>by
  have e:b=it:=by simpa using hb
  subst e
  exact⟨_,st,fun v z=>by
   have z':Data.fields _=Data.cell v:=z
   cases z'⟩
 keep:=fun i h h' st k=>k it (by simp) _ st
 item:=by
  intro X hP hw hK hc i aB s σ H E I hf st hg;subst hP hw hK;obtain⟨f0,f1,f2,f3,f4,f5⟩:=hf it (by simp);have W:=Walks.range (prog:=X.prog) (w:=X.w) (I.ok.hd hc) it lo 1 n;refine W.item i s _ _ hg st fun v h' tk hv st' kk=>?_;obtain⟨t,rfl⟩:=hv;have I1:Inv X aB σ H { s with heap:=h',toks:=tk }:=I.turned (fun b o hb e=>kk b o (by simpa using hb) e) f0 f1 f3 f4 f5;refine⟨_,rfl,IJ (s:={ s with heap:=h',toks:=tk }) (n:="range_iterator") st' rfl rfl (by decide) ⟨.int (lo+i),H,I1,⟨t,?_⟩,⟨rfl,rfl⟩,st',fun b hb=>(hf b hb).1⟩⟩;rw[Int.mul_one]
 done:=by
  intro X hP hw hK hc i aB s σ H E I hf st hg;subst hP hw hK;obtain⟨f0,f1,f2,f3,f4,f5⟩:=hf it (by simp);exact wpAny_pyNext_range_end (I.ok.hd hc) st (by have:n<=i:=hg;omega) fun h' eb=>⟨rfl,I.turned (t':=s.toks) (fun b o hb e=>eb b o hb e) f0 f1 f3 f4 f5⟩
 self:=fun _ _ _ _ _ st h=>wpAny_pyIter_rangeiter st h
section
variable{X:Cx}{tg:Expr}
def iList(K:aJ)(tl:TE):TI:=fun σ H R=>tl σ H fun x H1=>∃a,x=.ref a/\(∃xs,SqL K H1 a xs)/\R (Itl K a) H1
def iTup(K:aJ)(tl:TE):TI:=fun σ H R=>tl σ H fun x H1=>∃a,x=.ref a/\(∃xs,SqT K H1 a xs)/\R (Itt K a) H1
theorem pi_list{l:Expr}{tl:TE}(hl:PE X l tl):PI X tg l (iList X.K tl):=by
 intro aB s σ H R I h;refine thn (hl aB s σ H _ I h) fun v s1 zq=>?_;obtain⟨x,H1,I1,r1,q1⟩:=zq;obtain⟨a,e,⟨xs,hq⟩,q⟩:=q1;subst e;cases r1;obtain⟨its,rv,p,hz⟩:=I1.list hq;refine wpAny_pyIter_list p.isList ?_;refine⟨s1.heap.objs.size,[s1.heap.objs.size],_,_,H1,rfl,I1.kept (t':=s1.toks) fun b o e=>aI _ e,UK a _,⟨_,aW _ rfl,rfl,rfl⟩,fun b hb=>?_,q⟩;have e:b=s1.heap.objs.size:=by simpa using hb
 subst e;exact I1.fpOk (aR _) (I1.hok.fresh (aR _))
theorem pi_tup{l:Expr}{tl:TE}(hl:PE X l tl):PI X tg l (iTup X.K tl):=by
 intro aB s σ H R I h;refine thn (hl aB s σ H _ I h) fun v s1 zq=>?_;obtain⟨x,H1,I1,r1,q1⟩:=zq;obtain⟨a,e,⟨xs,hq⟩,q⟩:=q1;subst e;cases r1;obtain⟨its,rv,p,hz⟩:=I1.tuple hq;refine wpAny_pyIter_tuple (show s1.heap.IsTuple a its.toArray from p) ?_;refine⟨s1.heap.objs.size,[s1.heap.objs.size],_,_,H1,rfl,I1.kept (t':=s1.toks) fun b o e=>aI _ e,OM a _,⟨_,aW _ rfl,rfl,rfl⟩,fun b hb=>?_,q⟩;have e:b=s1.heap.objs.size:=by simpa using hb
 subst e;exact I1.fpOk (aR _) (I1.hok.fresh (aR _))
theorem ZF{aB:List (aA×Obj)}{σ : St}{H:Hp}{s:aC}{R:It->Hp->Prop}{E:Value->aC->Prop}{lo hi:Int}{t u v:Tok}{tk:Nat}(I:Inv X aB σ H s)(h1 : -(2 ^ 62)<=lo)(h2:lo<2 ^ 62)(h3 : -(2 ^ 62)<=hi)(h4:hi<2 ^ 62)(q:R (Itr lo (hi-lo).toNat) H):bD (bH X.prog X.w) X.A (pyIter (.ref s.heap.objs.size)) (PIE X aB σ tg R) E { s with heap:=s.heap.push { cls:=.type "range",data:=.fields #[.int lo t,.int hi u,.int 1 v] },toks:=tk }:=by
 refine wpAny_pyIter_range (IsRange.new ..) (small_one h1 h2 h3 h4) ?_;have I1:Inv X aB σ H { s with heap:=s.heap.push { cls:=.type "range",data:=.fields #[.int lo t,.int hi u,.int 1 v] },toks:=tk }:=I.kept fun b o e=>aI _ e
 refine⟨(s.heap.push { cls:=.type "range",data:=.fields #[.int lo t,.int hi u,.int 1 v] }).objs.size,[(s.heap.push { cls:=.type "range",data:=.fields #[.int lo t,.int hi u,.int 1 v] }).objs.size],_,_,H,rfl,
  I1.kept (t':=tk) fun b o e=>aI _ e,ON _ lo (hi-lo).toNat,?_,fun b hb=>?_,q⟩
 . have e1 : lo + ((0 : Nat) : Int) * 1 = lo := by simp
   have e2:(((hi-lo).toNat:Nat):Int)-((0:Nat):Int)=Builtin.Range.rangeSize lo hi 1:=by rw[rangeSize_one];split<;>omega
   show IsRangeIter _ _ (lo+((0:Nat):Int)*1) ((((hi-lo).toNat:Nat):Int)-((0:Nat):Int)) 1;rw[e1,e2];exact aW _ rfl
 . have e : b = (s.heap.push { cls := .type "range", data := .fields #[.int lo t, .int hi u, .int 1 v] }).objs.size := by simpa using hb
   subst e;exact I1.fpOk (aR _) (I1.hok.fresh (aR _))
def iRng1(ta:TA):TI:=fun σ H R=>ta σ H fun vs H1=>∃j:Int,vs=[.int j]/\-(2 ^ 62)<=j/\j<2 ^ 62/\R (Itr 0 j.toNat) H1
theorem UU{a:Expr}{ta:TA}{p pos:Pos}(hg:Gl X "range")(hm:X.mg "range" = none)(ha:PA X [a] ta)(hs:aF [a] X.env=[(false,bM a X.env)]:=by rfl):PI X tg (.Call (.Name "range" p) [a] [] pos) (iRng1 ta):=by
 intro aB s σ H R I h;refine Call_ (kB I hg hm boot_range (dX (thn (ha pos aB s σ H _ I h) fun us s1 zq=>?_) hs rfl));obtain⟨vs,H1,I1,r1,q1⟩:=zq;obtain⟨j,e,q1,q2,q⟩:=q1;subst e;cases r1 with
 | cons r rr =>
   cases rr;obtain⟨t,rfl⟩:=r;exact call_range_1 (ZF I1 (by omega) (by omega) q1 q2 (by simpa using q))
def tFor(wi:TI)(g:TG)(tb:TS):TS:=fun D σ H=>wi σ H fun J H1=>∃W:Nat->Nat->St->Hp->Prop,(∃m,W 0 m σ H1)/\∀i m σ H,W i m σ H →
 (J.stop i H/\D.nx σ H)\/(J.go i H/\∃N:St->Hp->Prop,(∀σ' H',N σ' H'->∃m',m'<m/\W (i+1) m' σ' H')/\∀x H',J.yld i H x H'->g x σ H' fun σ2 H2=>tb { D with nx:=N,ct:=N,bk:=D.nx } σ2 H2)
noncomputable def DG(fp:List aA)(h:Heap):List (aA×Obj):=fp.filterMap fun b=>(h.get? b).map fun o=>(b,o)
theorem xL{fp:List aA}{h:Heap}{b:aA}{o:Obj}(hb:b∈fp)(e:h.get? b=some o):(b,o)∈DG fp h:=nA.mpr ⟨b,hb,by rw[e];rfl⟩
theorem VA{fp:List aA}{h:Heap}{p:aA×Obj}(hp:p∈DG fp h):p.1∈fp/\h.get? p.1=some p.2:=by
 obtain⟨b,hb,e⟩:=nA.mp hp;cases q:h.get? b with
 |none=>rw[q] at e;cases e
 | some o =>
   rw[q] at e;have e':(b,o)=p:=Option.some.inj e;subst e';exact⟨hb,q⟩
theorem Inv.pinned{aB:List (aA×Obj)}{σ : St}{H:Hp}{s:aC}{fp:List aA}(I:Inv X aB σ H s)(hf:∀b∈fp,FpOk X aB H b)(ho:∀b∈fp,∃o,s.heap.get? b=some o/\∀v,o.data≠.cell v):Inv X (aB++DG fp s.heap) σ H s :=
 I.pins_of fun p hp=>(bG.mp hp).elim (fun z=>I.pin p (aG _ z)) fun z=>by
  obtain⟨hb,e⟩:=VA z;obtain⟨f0,f1,f2,_⟩:=hf p.1 hb;obtain⟨o,e',d⟩:=ho p.1 hb;rw[e] at e';cases e';exact⟨e,f0,f1,f2,d⟩
theorem Inv.unpinned{aB pl:List (aA×Obj)}{σ : St}{H:Hp}{s:aC}(I:Inv X (aB++pl) σ H s):Inv X aB σ H s:=I.pins_of fun p hp=>I.pin p (aG _ (aY _ hp))
theorem aAg{iter:Expr}{body:List Stmt}{wi:TI}{g:TG}{tb:TS}{pos:Pos}(hp:PassesOwn (bH X.prog X.w) X.A X.env X.xe)(hc:X.calm=true)(hi:PI X tg iter wi)(hg:PG X tg g)(hb:PSs X body tb)(hs:∀x,dR iter X.env x=pure x:=by intro _;rfl):PS X (.For tg iter body [] pos) (tFor wi g tb):=by
 intro aB s σ H D I h;refine wpAny_For (thn (hi aB s σ H _ I h) fun v s1 h1=>thn h1 fun itv s2 h2=>?_) hs;obtain⟨it,fp,tn,J,H2,e,I2,T,st2,f2,W,⟨m0,w0⟩,turn⟩:=h2;subst e;have stat:∀{H':Hp},(∀b∈fp,H' b=none)->∀b∈fp,FpOk X aB H' b:=fun hn b hb=>⟨hn b hb,(f2 b hb).2⟩
 refine codeAny_forLoop_any (fun n s'=>∃i σ' H',Inv X aB σ' H' s'/\tn i s'.heap/\(∀b∈fp,H' b=none)/\W i n σ' H') ?_ m0 ⟨0,σ,H2,I2,st2,fun b hb=>(f2 b hb).1,w0⟩;rintro n s3 ⟨i,σ3,H3,I3,st3,fr3,w3⟩;rcases turn i n σ3 H3 w3 with⟨stop,qn⟩ | ⟨go,N,hN,step⟩
 . refine nB hp (thn (T.done X rfl rfl rfl hc i aB s3 σ3 H3 X.xe I3 (stat fr3) st3 stop) fun r s4 zq => ?_);obtain⟨hr,I4⟩:=zq;subst hr;exact nC ⟨σ3,H3,I4,qn⟩
 . refine nB hp (thn (T.item X rfl rfl rfl hc i aB s3 σ3 H3 X.xe I3 (stat fr3) st3 go) fun r s4 zq => ?_);obtain ⟨u,hr,h4⟩:=zq;subst hr;refine nB hp (thn h4 fun _ s5 zq=>?_);obtain ⟨x,H5,I5,r5,y5,st5,fr5⟩:=zq;have I5':=I5.pinned (stat fr5) (T.obj _ _ st5);refine nB hp (thn (hg _ s5 σ3 H5 x u _ I5' r5 (step x H5 y5)) fun _ s6 zq=>?_);obtain ⟨σ6,H6,I6,q6⟩:=zq;refine nB hp (thn (hb _ s6 σ6 H6 _ I6 q6) fun f s7 q7=>?_)
   have again:∀{σ7:St} {H7:Hp},Inv X (aB++DG fp s5.heap) σ7 H7 s7->N σ7 H7->∃m,m<n/\∃i σ' H',Inv X aB σ' H' s7/\tn i s7.heap/\(∀b∈fp,H' b=none)/\W i m σ' H':=fun {σ7 H7} I7 n7=>by
    obtain⟨m',hm,w7⟩:=hN σ7 H7 n7;refine⟨m',hm,i+1,σ7,H7,I7.unpinned,T.keep _ _ _ st5 fun b hb o e=>(I7.pin (b,o) (aG _ (aG _ (xL hb e)))).1,fun b hb=>?_,w7⟩;obtain⟨o,e,d⟩:=T.obj _ _ st5 b hb;exact(I7.pin (b,o) (aG _ (aG _ (xL hb e)))).2.1
   cases f with
   |next=>obtain⟨σ7,H7,I7,n7⟩:=q7;exact again I7 n7
   |cont=>obtain⟨σ7,H7,I7,n7⟩:=q7;exact again I7 n7
   |brk=>obtain⟨σ7,H7,I7,q7⟩:=q7;exact⟨σ7,H7,I7.unpinned,q7⟩
   |ret v=>obtain⟨x7,σ7,H7,I7,r7,q7⟩:=q7;exact⟨x7,σ7,H7,I7.unpinned,r7,q7⟩
end
abbrev R2:=V->V->Hp->VK->Prop
def OpR(X:Cx)(f:Value->Value->Sem Value)(r:R2):Prop :=
 ∀(aB:List (aA×Obj)) (s:aC) (σ : St) (H:Hp) (x y:V) (v u:Value) (Q:VK),Inv X aB σ H s->RelV x v->RelV y u->r x y H Q →
  bD (bH X.prog X.w) X.A (f v u) (EP X aB σ Q) X.xe s
def UnR(X:Cx)(f:Value->Sem Value)(r:V->Hp->VK->Prop):Prop :=
 ∀(aB:List (aA×Obj)) (s:aC) (σ : St) (H:Hp) (x:V) (v:Value) (Q:VK),Inv X aB σ H s->RelV x v->r x H Q →
  bD (bH X.prog X.w) X.A (f v) (EP X aB σ Q) X.xe s
def CallR(X:Cx)(f:Value)(r:List V->Hp->VK->Prop):Prop :=
 ∀(aB:List (aA×Obj)) (s:aC) (σ : St) (H:Hp) (xs:List V) (us:List Value) (Q:VK),Inv X aB σ H s->Vals xs us->r xs H Q →
  bD (bH X.prog X.w) X.A (call f us) (EP X aB σ Q) X.xe s
def TruR(X:Cx)(r:V->Hp->(Bool->Hp->Prop)->Prop):Prop :=
 ∀(aB:List (aA×Obj)) (s:aC) (σ : St) (H:Hp) (x:V) (v:Value) (Q:Bool->Hp->Prop),Inv X aB σ H s->RelV x v->r x H Q →
  bD (bH X.prog X.w) X.A (XB v) (TP X aB σ Q) X.xe s
def tOp(r:R2)(ta tb:TE):TE:=fun σ H Q=>ta σ H fun x H1=>tb σ H1 fun y H2=>r x y H2 Q
def tUn(r:V->Hp->VK->Prop)(ta:TE):TE:=fun σ H Q=>ta σ H fun x H1=>r x H1 Q
noncomputable def rI(C:Int->Int->Prop)(g:Int->Int->V):R2:=fun x y H Q=>∃i j,x=.int i/\y=.int j/\C i j/\Q (g i j) H
noncomputable def rI0(g:Int->Int->V):R2:=fun x y H Q=>∃i j,x=.int i/\y=.int j/\Q (g i j) H
def rU(g:Int->V):V->Hp->VK->Prop:=fun x H Q=>∃i,x=.int i/\Q (g i) H
section
variable{X:Cx}{a b c:Expr}{ta tb tc:TE}{pos:Pos}
theorem binT(ha:PE X a ta)(hb:PE X b tb){aB:List (aA×Obj)}{s:aC}{σ : St}{H:Hp}{R:V->V->Hp->Prop}(I:Inv X aB σ H s)(h:ta σ H fun x H1=>tb σ H1 fun y H2=>R x y H2){Q:Value->aC->Prop}{f:Value->Value->Sem Value}(hf:∀v u s2 x y H2,Inv X aB σ H2 s2->RelV x v->RelV y u->R x y H2->bD (bH X.prog X.w) X.A (f v u) Q X.xe s2) :
  bD (bH X.prog X.w) X.A (bM a X.env) (fun v s₁=>bD (bH X.prog X.w) X.A (bM b X.env) (fun u s₂=>bD (bH X.prog X.w) X.A (f v u) Q X.xe s₂) X.xe s₁) X.xe s:=by
 refine thn (ha aB s σ H _ I h) fun v s1 zq=>?_;obtain⟨x,H1,I1,r1,q1⟩:=zq;refine thn (hb aB s1 σ H1 _ I1 q1) fun u s2 zq=>?_;obtain⟨y,H2,I2,r2,q2⟩:=zq;exact hf v u s2 x y H2 I2 r1 r2 q2
theorem aAl{op:Operator}{r:R2}(ho:OpR X (lG op) r)(ha:PE X a ta)(hb:PE X b tb):PE X (.BinOp a op b pos) (tOp r ta tb):=by
 intro aB s σ H Q I h;exact wpAny_BinOp (binT ha hb I h fun v u s2 x y H2 I2 rx ry q=>ho aB s2 σ H2 x y v u Q I2 rx ry q)
theorem pe_un{op:UnaryOp}{r:V->Hp->VK->Prop}(ho:UnR X (unaryOp op) r)(ha:PE X a ta):PE X (.UnaryOp op a pos) (tUn r ta):=by
 intro aB s σ H Q I h;exact UnaryOp_ (thn (ha aB s σ H _ I h) fun v s1 ⟨x,H1,I1,r1,q1⟩=>ho aB s1 σ H1 x v Q I1 r1 q1)
theorem opI{f:Value->Value->Sem Value}{C:Int->Int->Prop}{g:Int->Int->Int}(rule:∀(i j:Int) (t u:Tok) (s:aC) (Q:Value->aC->Prop) (E:Value->aC->Prop),C i j->Q (.int (g i j) s.toks) { s with toks:=s.toks+1 }->bD (bH X.prog X.w) X.A (f (.int i t) (.int j u)) Q E s) :
  OpR X f (rI C fun i j=>.int (g i j)):=by
 intro aB s σ H x y v u Q I rx ry h;obtain⟨i,j,rfl,rfl,hc,q⟩:=h;obtain⟨t,rfl⟩:=rx;obtain⟨t',rfl⟩:=ry;exact rule i j t t' s _ _ hc ⟨.int (g i j),H,I.tok _,⟨_,rfl⟩,q⟩
theorem opI0{f:Value->Value->Sem Value}{g:Int->Int->Int}(rule:∀(i j:Int) (t u:Tok) (s:aC) (Q:Value->aC->Prop) (E:Value->aC->Prop),Q (.int (g i j) s.toks) { s with toks:=s.toks+1 }->bD (bH X.prog X.w) X.A (f (.int i t) (.int j u)) Q E s) :
  OpR X f (rI0 fun i j=>.int (g i j)):=by
 intro aB s σ H x y v u Q I rx ry h;obtain⟨i,j,rfl,rfl,q⟩:=h;obtain⟨t,rfl⟩:=rx;obtain⟨t',rfl⟩:=ry;exact rule i j t t' s _ _ ⟨.int (g i j),H,I.tok _,⟨_,rfl⟩,q⟩
theorem opB0{f:Value->Value->Sem Value}{g:Int->Int->Bool}(rule:∀(i j:Int) (t u:Tok) (s:aC) (Q:Value->aC->Prop) (E:Value->aC->Prop),Q (.bool (g i j)) s->bD (bH X.prog X.w) X.A (f (.int i t) (.int j u)) Q E s) :
  OpR X f (rI0 fun i j=>.bl (g i j)):=by
 intro aB s σ H x y v u Q I rx ry h;obtain⟨i,j,rfl,rfl,q⟩:=h;obtain⟨t,rfl⟩:=rx;obtain⟨t',rfl⟩:=ry;exact rule i j t t' s _ _ ⟨.bl (g i j),H,I,rfl,q⟩
theorem op_add:OpR X (lG .Add) (rI0 fun i j=>.int (i+j)):=opI0 fun _ _ _ _ _ _ _ q=>add_int q
theorem op_sub:OpR X (lG .Sub) (rI0 fun i j=>.int (i-j)):=opI0 fun _ _ _ _ _ _ _ q=>sub_int q
theorem op_mod:OpR X (lG .Mod) (rI (fun _ j=>0<j) fun i j=>.int (i%j)):=opI fun i j _ _ _ _ _ hc q=>by
 have h1:(0:Int)<j:=hc;exact mod_int' (by omega) (by rw[Int.fmod_eq_emod_of_nonneg i (by omega)];exact q)
theorem unI{f:Value->Sem Value}{g:Int->Int}(rule:∀(i:Int) (t:Tok) (s:aC) (Q:Value->aC->Prop) (E:Value->aC->Prop),Q (.int (g i) s.toks) { s with toks:=s.toks+1 }->bD (bH X.prog X.w) X.A (f (.int i t)) Q E s) :
  UnR X f (rU fun i=>.int (g i)):=by
 intro aB s σ H x v Q I rx h;obtain⟨i,rfl,q⟩:=h;obtain⟨t,rfl⟩:=rx;exact rule i t s _ _ ⟨.int (g i),H,I.tok _,⟨_,rfl⟩,q⟩
theorem un_neg:UnR X (unaryOp .USub) (rU fun i=>.int (-i)):=unI fun _ _ _ _ _ q=>neg_int q
end
section
variable{X:Cx}{a b c:Expr}{ta tb tc:TE}{pos:Pos}
theorem QE{aB:List (aA×Obj)}{σ : St}{H:Hp}{s:aC}{Q:VK}{k k':Bool}(I:Inv X aB σ H s)(q:Q (.bl k) H)(e:k=k'):EP X aB σ Q (.bool k') s:=by
 subst e;exact⟨.bl k,H,I,rfl,q⟩
theorem op_lt:OpR X (eQ .Lt) (rI0 fun i j=>.bl (decide (i<j))):=opB0 fun _ _ _ _ _ _ _ q=>lt_int q
theorem op_le:OpR X (eQ .LtE) (rI0 fun i j=>.bl (decide (i<=j))):=opB0 fun _ _ _ _ _ _ _ q=>le_int q
theorem op_gt:OpR X (eQ .Gt) (rI0 fun i j=>.bl (decide (j<i))):=opB0 fun _ _ _ _ _ _ _ q=>gt_int q
theorem UY:OpR X (eQ .In) (fun x y H Q=>∃i j,x=.str i/\y=.str j/\Q (.bl (!(Builtin.Str.occurrences j i 0 j.length 1).isEmpty)) H):=by
 intro aB s σ H x y v u Q I rx ry h;obtain⟨i,j,rfl,rfl,q⟩:=h;obtain⟨t,rfl⟩:=rx;obtain⟨t',rfl⟩:=ry;exact in_str (QE I q rfl)
theorem aAs:OpR X (eQ .Is) (fun x y H Q=>y=.non/\Q (.bl (decide (x=.non))) H):=by
 intro aB s σ H x y v u Q I rx ry h;obtain⟨rfl,q⟩:=h;cases ry;refine is_none_gen (QE I q ?_)
 cases x<;>first
  |(cases rx;rfl)
  |(obtain⟨t,rfl⟩:=rx;rfl)
theorem RW:OpR X (eQ .IsNot) (fun x y H Q=>y=.non/\Q (.bl (!decide (x=.non))) H):=by
 intro aB s σ H x y v u Q I rx ry h;obtain⟨rfl,q⟩:=h;cases ry;refine isnot_none_gen (QE I q ?_)
 cases x<;>first
  |(cases rx;rfl)
  |(obtain⟨t,rfl⟩:=rx;rfl)
theorem OpR.or{f:Value->Value->Sem Value}{r r':R2}(h:OpR X f r)(h':OpR X f r'):OpR X f (fun x y H Q=>r x y H Q\/r' x y H Q):=by
 intro aB s σ H x y v u Q I rx ry q;rcases q with q | q
 . exact h aB s σ H x y v u Q I rx ry q
 . exact h' aB s σ H x y v u Q I rx ry q
theorem mW(b:Expr){op:JB}(h:op≠.In:=by decide)(h2:op≠.NotIn:=by decide):dQ op b=false:=by
 have e1:(op==JB.In)=false:=by cases op<;>first | rfl | exact absurd rfl h
 have e2:(op==JB.NotIn)=false:=by cases op<;>first | rfl | exact absurd rfl h2
 cases b<;>simp[dQ,e1,e2]
theorem RS{op:JB}{r:R2}(ho:OpR X (eQ op) r)(ha:PE X a ta)(hb:PE X b tb)(hm:dQ op b=false):PE X (.Compare a [op] [b] pos) (tOp r ta tb):=by
 intro aB s σ H Q I h;exact wpAny_Compare1 (binT ha hb I h fun v u s2 x y H2 I2 rx ry q=>ho aB s2 σ H2 x y v u Q I2 rx ry q) hm
def tTest(t:TE):TT:=fun σ H Q=>t σ H fun x H'=>∃k,x=.bl k/\Q k H'
theorem RK{op:JB}{r:R2}(ho:OpR X (eQ op) r)(ha:PE X a ta)(hb:PE X b tb)(hm:dQ op b=false):PT X (.Compare a [op] [b] pos) (tTest (tOp r ta tb)):=by
 intro aB s σ H Q I h
 refine wpAny_isTrue_Compare1 (thn (ha aB s σ H _ I h) fun v s1 ⟨x,H1,I1,r1,q1⟩=>thn (hb aB s1 σ H1 _ I1 q1) fun u s2 ⟨y,H2,I2,r2,q2⟩ =>
  thn (ho aB s2 σ H2 x y v u _ I2 r1 r2 q2) fun c s3 ⟨z,H3,I3,r3,k,e,q3⟩=>?_) hm
 subst e;cases r3;exact eP ⟨H3,I3,q3⟩
def TruV(K:aJ)(x:V)(H:Hp)(k:Bool):Prop :=
 match x with
 | .non=>k=false
 | .bl b=>k=b
 | .int i=>k=(i != 0)
 | .str y=>y.length<=sizeLine/\k=((y.length:Int) != 0)
 | .byt y=>y.size<=sizeLine/\k=((y.size:Int) != 0)
 | .ref p=>(∃xs,SqL K H p xs/\k=!xs.isEmpty)\/(∃xs,SqT K H p xs/\k=!xs.isEmpty)\/∃kvs,H p=some (.dK kvs)/\k=!kvs.isEmpty
 |_=>False
theorem PX{κ : Type}{kvs:List (κ×V)}{vs:List (κ×Value)}(r:KV kvs vs):(!vs.isEmpty)=!kvs.isEmpty:=by
 cases r<;>rfl
theorem DT{xs:List V}{its:List Value}(r:Vals xs its):(!its.toArray.isEmpty)=!xs.isEmpty:=by
 cases r<;>simp
theorem sJ:(sizeLine:Nat)<2 ^ 63:=by rw[tY];decide
theorem tru_ok:TruR X (fun x H Q=>∃k,TruV X.K x H k/\Q k H):=by
 intro aB s σ H x v Q I rx h;obtain⟨k,e,q⟩:=h;have hl:=sJ;have hs:sizeLine=16777216:=tY;cases x with
 | non =>
   cases rx;have e':k=false:=e;subst e';exact truthy_none ⟨H,I,q⟩
 | bl b =>
   cases rx;have e':k=b:=e;subst e';exact eP ⟨H,I,q⟩
 | int i =>
   obtain⟨t,rfl⟩:=rx;have e':k=(i != 0):=e;subst e';exact PySem.P.truthy_int ⟨H,I,q⟩
 | str y =>
   obtain⟨t,rfl⟩:=rx;obtain⟨hy,e'⟩:y.length<=sizeLine/\k=((y.length:Int) != 0):=e;subst e';exact PySem.P.truthy_str (by omega) ⟨H,I.tok _,q⟩
 | byt y =>
   obtain⟨t,rfl⟩:=rx;obtain⟨hy,e'⟩:y.size<=sizeLine/\k=((y.size:Int) != 0):=e;subst e';exact PySem.W.truthy_bytes (by omega) ⟨H,I.tok _,q⟩
 | ref p =>
   cases rx;have e':(∃xs,SqL X.K H p xs/\k=!xs.isEmpty)\/(∃xs,SqT X.K H p xs/\k=!xs.isEmpty)\/∃kvs,H p=some (.dK kvs)/\k=!kvs.isEmpty:=e;rcases e' with⟨xs,hx,e'⟩ | ⟨xs,hx,e'⟩ | ⟨kvs,hx,e'⟩
   . subst e';obtain⟨its,r,pl,hz⟩:=I.list hx;have hlen:=r.length;exact wpAny_truthy_list pl.isList (by simp only[bA];omega) ⟨H,I.tok _,by rw[DT r];exact q⟩
   . subst e';obtain⟨its,r,pl,hz⟩:=I.tuple hx;have hlen:=r.length;exact truthy_tuple pl (by simp only[bA];omega) ⟨H,I.tok _,by rw[DT r];exact q⟩
   . subst e';obtain⟨hz,hS,vs,r,m⟩:kvs.length<=sizeLine/\(p==gU)=false/\∃vs,KV kvs vs/\s.heap.DictOf (eM X.prog X.w) p vs:=I.hok p _ hx;have hlen:kvs.length=vs.length:=BL.length r;exact wpAny_truthy_dict hS m (by omega) ⟨H,I.tok _,by rw[PX r];exact q⟩
 |_=>exact(show False from e).elim
theorem ZX(ha:PE X a ta)(he:∀whole,BF a X.env whole=(do let v <- whole;fP a.pos;dW [v] (XB v))) :
  PT X a (fun σ H Q=>ta σ H fun x H'=>∃k,TruV X.K x H' k/\Q k H'):=by
 intro aB s σ H Q I h;exact isTrue_plain (thn (ha aB s σ H _ I h) fun v s1 ⟨x,H1,I1,r1,q1⟩=>tru_ok aB s1 σ H1 x v Q I1 r1 q1) (he _)
theorem PD:OpR X (lG .Add) (fun x y H Q=>∃i j,x=.str i/\y=.str j/\i.length+j.length<=sizeLine/\Q (.str (i++j)) H):=by
 intro aB s σ H x y v u Q I rx ry h;obtain⟨i,j,rfl,rfl,hz,q⟩:=h;obtain⟨t,rfl⟩:=rx;obtain⟨t',rfl⟩:=ry;exact add_str (fun t' tk=>⟨.str (i++j),H,I.tok _,⟨_,rfl⟩,q⟩) hz
theorem vals1{x:V}{us:List Value}(r:Vals [x] us):∃u,us=[u]/\RelV x u:=by
 cases r with
 |cons r1 r2=>cases r2;exact⟨_,rfl,r1⟩
theorem vals2{x y:V}{us:List Value}(r:Vals [x,y] us):∃u w',us=[u,w']/\RelV x u/\RelV y w':=by
 cases r with
 | cons r1 r2 =>
   cases r2 with
   |cons r3 r4=>cases r4;exact⟨_,_,rfl,r1,r3⟩
theorem WS(hc:X.calm=true):CallR X (.builtin "max") (fun xs H Q=>∃i j,xs=[.int i,.int j]/\Q (.int (if j>i then j else i)) H):=by
 intro aB s σ H xs us Q I r h;obtain⟨i,j,rfl,q⟩:=h;obtain⟨u,w',rfl,⟨t,rfl⟩,⟨t',rfl⟩⟩:=vals2 r;refine max_two_ints (I.ok.hd hc) fun h' tk k=>⟨_,H,I.kept k,?_,q⟩
 by_cases hj:j>i
 . rw[if_pos hj,if_pos hj];exact⟨_,rfl⟩
 . rw[if_neg hj,if_neg hj];exact⟨_,rfl⟩
theorem WR(hc:X.calm=true):CallR X (.builtin "min") (fun xs H Q=>∃i j,xs=[.int i,.int j]/\Q (.int (if j<i then j else i)) H):=by
 intro aB s σ H xs us Q I r h;obtain⟨i,j,rfl,q⟩:=h;obtain⟨u,w',rfl,⟨t,rfl⟩,⟨t',rfl⟩⟩:=vals2 r;refine min_two_ints (I.ok.hd hc) fun h' tk k=>⟨_,H,I.kept k,?_,q⟩
 by_cases hj:j<i
 . rw[if_pos hj,if_pos hj];exact⟨_,rfl⟩
 . rw[if_neg hj,if_neg hj];exact⟨_,rfl⟩
end
structure ObjM(h:Heap)(x dx C:aA)(mA:Str->Option Value):Prop where
 obj:h.get? x=some (eV C dx)
 ns:h.Ns1 dx mA
 ne:dx≠x
theorem VP{h:Heap}{dx:aA}{mA:Str->Option Value}(n:h.Ns1 dx mA):∃od,h.get? dx=some od/\∀name,pD name od=some (mA name):=by
 obtain⟨o,es,ep,ho,hd,hk,_,hm⟩:=n;refine⟨o,ho,fun name=>?_⟩;have e:=hm name;unfold nsFind findBy at e;rw[<- Array.find?_toList] at e;unfold pD;rw[hd];dsimp only
 split
 . rename_i y q;rw[q] at e;exact congrArg some e
 . rename_i q;rw [q] at e
   have a:es.toList.any (·.refKey)=false:=by
    rw[List.any_eq_false];intro y hy;obtain⟨z,t,hkey⟩:=hk y (Array.mem_toList_iff.mp hy);simp[DictEntry.refKey,hkey]
   have a' : ¬es.toList.any (·.refKey)=true:=by rw[a];exact iD
   rw[if_neg a'];exact congrArg some e
theorem ObjM.look{h:Heap}{x dx C:aA}{mA:Str->Option Value}(I:ObjM h x dx C mA):∃od,PySem.W.InstAt h x (eV C dx) C (some od)/\∀name,pD name od=some (mA name):=
 let ⟨od,ho,hl⟩:=VP I.ns
 ⟨od,⟨I.obj,rfl,rfl,ho⟩,hl⟩
section
variable{prog:aZ}{w:bK}{A:bO}{E:Value->aC->Prop}{s:aC}{K:aJ}{x dx C f:aA}{mA:Str->Option Value}{name:Str}{v:Value}
theorem get_map{expr:Bool}{Q:Value->aC->Prop}(X:K.In s.heap)(I:ObjM s.heap x dx C mA)(hg:iT K C name=true)(hh:mZ K C=true)(ha:bY K (.ref C) name=some none)(hv:mA name=some v)(hv':QS v=true)(h:Q v { s with toks:=s.toks+1 }) :
  bD (bH prog w) A (getAttr (.ref x) name expr) Q E s:=by
 obtain⟨od,J,hl⟩:=I.look;exact PySem.W.get_value X J (rF hg).1 (PySem.W.findObj_own hh ha rfl (by rw[hl,hv])) hv' h
theorem aBs{pl:Sem Bool}{Q:Value×List Value->aC->Prop}(X:K.In s.heap)(I:ObjM s.heap x dx C mA)(hg:iT K C name=true)(hf:bY K (.ref C) name=some (some (.ref f)))(ht:lX K (.ref f)=true)(hv:mA name=none)(h:Q (.ref f,[.ref x]) s) :
  bD (bH prog w) A (fM (.ref x) name pl) Q E s:=by
 obtain⟨od,J,hl⟩:=I.look;exact PySem.W.method_fn X J (rF hg).1 (rF hg).2 hf (beq_iff_eq.mp ht) (by show(pD name od).map (·.isSome)=some false;rw[hl,hv];rfl) h
theorem set_map{ns:List Str}{Q:Unit->aC->Prop}(X:K.In s.heap)(I:ObjM s.heap x dx C mA)(hs:bY K (.ref C) "__setattr__" = some (some (.builtin "object.__setattr__")))(hp:sQ K C=true)(ht:uZ K C name=some none)(hh:mZ K C=true)(hw:PySem.Within mA ns)(hsz:ns.length<=sizeLine)(h:∀h',ObjM h' x dx C (fun y=>if y=name then some v else mA y)->Heap.SameBut dx s.heap h'->Q () { s with heap:=h',toks:=s.toks+2 }) :
  bD (bH prog w) A (setAttr (.ref x) name v) Q E s:=by
 obtain⟨od,J,hl⟩:=I.look;refine PySem.W.set_plain X J hs (PySem.W.osa_open (s:={ s with toks:=s.toks+1 }) (r:=none) X J hp ht fun b=>?_);obtain⟨cd,hc,hd'⟩:=PySem.W.any_some hh;have hx:s.heap.get? x=some ⟨.ref C,some dx,.plain,#[]⟩:=I.obj;refine bB (cF (bB (bB (wpAny_loadPart hx (bB (PySem.W.Looks.here (s:={ s with toks:=s.toks+1 }) (PySem.W.looks_clsIn X hc) ?_))))));rw[hd'];refine cF (a:=some dx) (bB (cF (bB ?_)));refine wpAny_nsSet1 (s:={ s with toks:=s.toks+1 }) I.ns fun h' hn2 hs2=>?_;obtain⟨oD,esD,epD,hoD,hdD,hcD⟩:=hn2.count (PySem.Within.cons name v hw);refine bB (wpAny_lookBehind hoD (by rw[hdD];exact pastItsLine_dict (cJ hcD (by rw[aK];omega))) ?_);exact cF (h _ ⟨(hs2.2 _ (Ne.symm I.ne)).trans I.obj,hn2,I.ne⟩ hs2)
theorem aBj{R:Result->aC->Prop}{vs:List Value}{kw:List (Str×Value)}(X:K.In s.heap)(hm:eA K C=true)(hi:bY K (.ref C) "__init__" = some (some (.ref f)))(hf:pC K (.ref f)=some (.type "function"))(h:rL (bH prog w) (A.under (.builtin "type.__call__" ⟨.ref C::vs,kw⟩)) (.call (.ref f) ⟨.ref (s.heap.objs.size+1)::vs,kw⟩) (PySem.W.InitBack (s.heap.objs.size+1) R)
    { s with heap:=(s.heap.push dJ).push (eV C s.heap.objs.size) }) :
  rL (bH prog w) A (.call (.ref C) ⟨vs,kw⟩) R s:=by
 obtain⟨hh,g,d,t,os⟩:=s;exact PySem.W.make_core (PySem.W.makes_of X hm) (PySem.W.looks_findIn X hi) (fun self=>PySem.W.bind_fn X self hf) (.inl rfl) h
end
noncomputable def putF(f:Str)(v:V):List (Str×V)->List (Str×V)
 |[]=>[(f,v)]
 |(g,x)::r=>if g=f then (g,v)::r else (g,x)::putF f v r
theorem AL(f g:Str)(v:V):∀fs:List (Str×V),(putF f v fs).lookup g=if g=f then some v else fs.lookup g
 | [] => by
   show List.lookup g [(f,v)]=_
   by_cases h:g=f
   . have hb : (g==f)=true := beq_iff_eq.mpr h;simp only[List.lookup,hb,if_pos h]
   . have hb : (g==f)=false := beq_eq_false_iff_ne.mpr h;simp only[List.lookup,hb,if_neg h]
 | (k, x) :: r => by
   have ih:=AL f g v r;rw[show putF f v ((k,x)::r)=(if k=f then (k,v)::r else (k,x)::putF f v r) from rfl]
   by_cases hk:k=f
   . rw [if_pos hk]
     by_cases h:g=k
     . have hb : (g==k)=true := beq_iff_eq.mpr h;simp only[List.lookup,hb,if_pos (h.trans hk)]
     . have hb : (g==k)=false := beq_eq_false_iff_ne.mpr h;simp only[List.lookup,hb,if_neg (fun e:g=f=>h (e.trans hk.symm))]
   . rw [if_neg hk]
     by_cases h:g=k
     . have hb : (g==k)=true := beq_iff_eq.mpr h;simp only[List.lookup,hb,if_neg (fun e:g=f=>hk (h.symm.trans e))]
     . have hb : (g==k)=false := beq_eq_false_iff_ne.mpr h;simp only[List.lookup,hb];exact ih
theorem kI(f:Str)(v:V):∀fs:List (Str×V),f∈(putF f v fs).map (·.1)/\∀g,g∈fs.map (·.1)->g∈(putF f v fs).map (·.1)
 |[]=>⟨by simp[putF],fun g h=>by simp at h⟩
 | (k, x) :: r => by
   obtain⟨i1,i2⟩:=kI f v r;rw[show putF f v ((k,x)::r)=(if k=f then (k,v)::r else (k,x)::putF f v r) from rfl]
   by_cases hk:k=f
   . rw[if_pos hk];subst hk;exact⟨by simp,fun g h=>by simpa using h⟩
   . rw [if_neg hk];refine ⟨?_,fun g h=>?_⟩
     . rw[bE];exact aN _ i1
     . rw [bE] at h ⊢;rcases aE.mp h with e | e
       . exact aE.mpr (.inl e)
       . exact aN _ (i2 g e)
theorem wC(f:Str)(v:V):∀fs:List (Str×V),(putF f v fs).length<=fs.length+1
 |[]=>by simp[putF]
 | (k, x) :: r => by
   have ih:=wC f v r;rw[show putF f v ((k,x)::r)=(if k=f then (k,v)::r else (k,x)::putF f v r) from rfl]
   by_cases hk:k=f
   . rw[if_pos hk,aK,aK];omega
   . rw[if_neg hk,aK,aK];omega
theorem RelO.some_of{v:V}{o:Option Value}(r:RelO (some v) o):∃u,o=some u/\RelV v u:=by
 cases o with
 |none=>exact(show False from r).elim
 |some u=>exact⟨u,rfl,r⟩
theorem RelO.none_of{o:Option Value}(r:RelO none o):o=none:=by
 cases o with
 |none=>rfl
 |some u=>exact(show False from r).elim
theorem WD{v:V}{u:Value}(r:RelV v u):QS u=true:=by
 cases v with
 |non=>cases(show u=Value.none from r);rfl
 |bl b=>cases(show u=Value.bool b from r);rfl
 |int i=>obtain⟨t,e⟩:=(show ∃t,u=Value.int i t from r);cases e;rfl
 |str x=>obtain⟨t,e⟩:=(show ∃t,u=Value.str x t from r);cases e;rfl
 |byt b=>obtain⟨t,e⟩:=(show ∃t,u=Value.bytes b t from r);cases e;rfl
 |flt b=>obtain⟨t,e⟩:=(show ∃t,u=Value.float b t from r);cases e;rfl
 |ref a=>cases(show u=Value.ref a from r);rfl
 |ty n=>cases(show u=Value.type n from r);rfl
section
variable{P:aZ}{w:bK}{H H':Hp}{h h':Heap}{a C dx:aA}{fs fs':List (Str×V)}
theorem BZ(hok:HOk P w H h)(e:H a=some (.ins C dx fs)):∃mA,ObjM h a dx C mA/\(∀f,RelO (fs.lookup f) (mA f))/\PySem.Within mA (fs.map (·.1))/\fs.length<=1000/\H dx=some (.own a):=by
 obtain⟨d,z,ne,ob,mA,n,r,q⟩:=(show ObjOk P w H h a (.ins C dx fs) from hok a _ e)
 exact⟨mA,⟨ob,n,ne⟩,r,q,z,d⟩
end
structure Cls(K:aJ)(C:aA):Prop where
 pg:iT K C Str.empty=true
 hd:mZ K C=true
 po:sQ K C=true
 sa:bY K (.ref C) "__setattr__" = some (some (.builtin "object.__setattr__"))
theorem Cls.get{K:aJ}{C:aA}(c:Cls K C)(f:Str):iT K C f=true:=c.pg
def NoAttr(K:aJ)(C:aA)(f:Str):Prop:=bY K (.ref C) f=some none
theorem NoAttr.taker{K:aJ}{C:aA}{f:Str}(n:NoAttr K C f):uZ K C f=some none:=by
 unfold uZ;rw[show bY K (.ref C) f=some none from n];rfl
structure Meth(K:aJ)(C:aA)(m:Str)(f:aA):Prop where
 at_:bY K (.ref C) m=some (some (.ref f))
 fn:lX K (.ref f)=true
 kp:bF K (.ref f)=true
section
variable{X:Cx}{aB:List (aA×Obj)}{σ : St}{H:Hp}{s:aC}{a C dx:aA}{fs:List (Str×V)}{f:Str}{v:V}{A:bO}{E:Value->aC->Prop}
theorem QA{b:Bool}{Q:Value->aC->Prop}(I:Inv X aB σ H s)(e:H a=some (.ins C dx fs))(c:Cls X.K C)(n:NoAttr X.K C f)(l:fs.lookup f=some v)(h:∀u s',Inv X aB σ H s'->RelV v u->Q u s'):bD (bH X.prog X.w) A (getAttr (.ref a) f b) Q E s:=by
 obtain⟨mA,O,r,_,_,_⟩:=BZ I.hok e;obtain⟨u,hu,ru⟩:=RelO.some_of (v:=v) (o:=mA f) (by rw[<- l];exact r f);exact get_map I.kIn O (c.get f) c.hd n hu (WD ru) (h u _ (I.tok _) ru)
theorem wZ{m:Str}{g:aA}{pl:Sem Bool}{Q:Value×List Value->aC->Prop}(I:Inv X aB σ H s)(e:H a=some (.ins C dx fs))(c:Cls X.K C)(k:Meth X.K C m g)(l:fs.lookup m=none)(h:Q (.ref g,[.ref a]) s):bD (bH X.prog X.w) A (fM (.ref a) m pl) Q E s:=by
 obtain⟨mA,O,r,_,_,_⟩:=BZ I.hok e;have hn:mA m=none:=RelO.none_of (by rw[<- l];exact r m);exact aBs I.kIn O (c.get m) k.at_ k.fn hn h
theorem OV{y:V}{u:Value}{Q:Unit->aC->Prop}(I:Inv X aB σ H s)(e:H a=some (.ins C dx fs))(c:Cls X.K C)(n:NoAttr X.K C f)(hl:fs.length<1000)(ry:RelV y u)(h:∀s',Inv X aB σ (upd H a (.ins C dx (putF f y fs))) s'->Q () s'):bD (bH X.prog X.w) A (setAttr (.ref a) f u) Q E s:=by
 obtain⟨mA,O,r,wi,_,ho⟩:=BZ I.hok e;have hz:(fs.map (·.1)).length<=sizeLine:=by rw[bU,tY];omega
 refine set_map I.kIn O c.sa c.po n.taker c.hd wi hz fun h' O' sb=>h _ ?_;have hd:∃o,h'.get? dx=some o:=let ⟨o,_,_,e',_⟩:=O'.ns;⟨o,e'⟩;refine I.write (x:=a) (e:=dx) (by rw[e];exact True.intro) (.inr ho) (fun b q hb z=>(sb.2 b hb).trans z) hd ?_;refine⟨by rw[upd_ne O.ne];exact ho,?_,O.ne,O'.obj,_,O'.ns,fun g=>?_,fun g hg=>?_⟩
 . have:=wC f y fs;omega
 . show RelO ((putF f y fs).lookup g) (if g = f then some u else mA g);rw [AL]
   by_cases q:g=f
   . rw[if_pos q,if_pos q];exact ry
   . rw[if_neg q,if_neg q];exact r g
 . by_cases q : g = f
   . rw[q];exact(kI f y fs).1
   . refine(kI f y fs).2 g (wi g fun z => hg ?_);show(if g=f then some u else mA g)=none;rw[if_neg q];exact z
theorem Inv.made(I:Inv X aB σ H s):Inv X aB σ (upd (upd H s.heap.objs.size (.own (s.heap.objs.size+1))) (s.heap.objs.size+1) (.ins C s.heap.objs.size []))
  { s with heap:=(s.heap.push dJ).push (eV C s.heap.objs.size) }:=by
 have e1:(s.heap.push dJ).get? s.heap.objs.size=some dJ:=aW s.heap rfl
 have e2:((s.heap.push dJ).push (eV C s.heap.objs.size)).get? (s.heap.objs.size+1)=some (eV C s.heap.objs.size):=by
  have:=aW (s.heap.push dJ) (o:=eV C s.heap.objs.size) rfl
  rwa [EZ] at this
 have e3:(s.heap.push dJ).Ns s.heap.objs.size (fun _=>none):=⟨dJ,#[],_,e1,rfl,(fun e he=>absurd he (by simp)),fun _=>rfl⟩
 have I1:=I.laid (a:=s.heap.objs.size) (o:=.own (s.heap.objs.size+1)) (h':=s.heap.push dJ) (t':=s.toks) (fun b u q=>aI _ q) (aR _) ⟨_,e1⟩;refine I1.laid (a:=s.heap.objs.size+1) (o:=.ins C s.heap.objs.size []) (t':=s.toks) (fun b u q=>aI _ q) (iU (EZ _ _)) ?_;have ne:s.heap.objs.size≠s.heap.objs.size+1:=bN (BM _);refine⟨by rw[upd_ne ne,zX],dA _,ne,e2,fun _=>none,(Heap.Ns1.of_empty e3).at fun o q=>aI _ q,fun _=>True.intro,fun y hy=>absurd rfl hy⟩
theorem attr_of{prog:aZ}{w:bK}{env:Env}{e:Expr}{f:Str}{pos:Pos}{s:aC}{Q:Value->aC->Prop}(hb:cW e f env (bM e env)=bM e env)(h:bD (bH prog w) A (bM e env) (fun o s₁=>bD (bH prog w) A (getAttr o f true) Q E s₁) E s):bD (bH prog w) A (bM (.Attribute e f pos) env) Q E s :=
 Attribute_any_ h (by rw[arm_eval_Attribute,hb])
end
def tFld(K:aJ)(ta:TE)(f:Str):TE:=fun σ H Q=>ta σ H fun x H1=>∃a C dx fs v,x=.ref a/\H1 a=some (.ins C dx fs)/\Cls K C/\NoAttr K C f/\fs.lookup f=some v/\Q v H1
def sFld(K:aJ)(ta tv:TE)(f:Str):TS:=fun D σ H=>tv σ H fun y H1=>ta σ H1 fun x H2=>∃a C dx fs,x=.ref a/\H2 a=some (.ins C dx fs)/\Cls K C/\NoAttr K C f/\fs.length<1000 ∧
 D.nx σ (upd H2 a (.ins C dx (putF f y fs)))
section
variable{X:Cx}{o e value:Expr}{f:Str}{pos pos' tpos:Pos}{ta tv:TE}
theorem aAo(he:PE X e ta)(hb:cW e f X.env (bM e X.env)=bM e X.env):PE X (.Attribute e f pos) (tFld X.K ta f):=by
 intro aB s σ H Q I h;refine attr_of hb (thn (he aB s σ H _ I h) fun u s1 zq=>?_);obtain⟨x,H1,I1,rx,a,C,dx,fs,v,ex,ea,c,n,l,q⟩:=zq;subst ex;obtain rfl:u=Value.ref a:=rx;exact QA I1 ea c n l fun u' s2 I2 ru=>⟨v,H1,I2,ru,q⟩
theorem OZ(ha:PE X o ta)(hv:PE X value tv)(hs:cV value (some (.Attribute o f pos')) pos.line X.env=pure false):PS X (.Assign [.Attribute o f pos'] value pos) (sFld X.K ta tv f):=by
 intro aB s σ H D I h;refine plainObj_wpAny_Assign_Attribute (thn (hv aB s σ H _ I h) fun u s1 ⟨y,H1,I1,ry,q⟩=>thn (ha aB s1 σ H1 _ I1 q) fun ov s2 zq=>?_) hs;obtain⟨x,H2,I2,rx,a,C,dx,fs,ex,ea,c,n,l,q2⟩:=zq;subst ex;obtain rfl:ov=Value.ref a:=rx;exact OV I2 ea c n l ry fun s3 I3=>⟨σ,_,I3,q2⟩
end
section
variable{X:Cx}{aB:List (aA×Obj)}{σ : St}{H:Hp}{s:aC}{A:bO}{E:Value->aC->Prop}{Q:Value->aC->Prop}{c:Value}{b:Bool}
inductive TyOf(K:aJ)(H:Hp):V->Value->Prop where
 |non:TyOf K H .non (.type "NoneType")
 |bl (x:Bool):TyOf K H (.bl x) (.type "bool")
 |int (i:Int):TyOf K H (.int i) (.type "int")
 |str (x:Str):TyOf K H (.str x) (.type "str")
 |flt (x:UInt64):TyOf K H (.flt x) (.type "float")
 |lst {a:aA} {xs:List V} (e:H a=some (.lst xs)):TyOf K H (.ref a) (.type "list")
 |frz {a:aA} {o:Obj} {xs:List V} (e:H a=some (.frz o (.lst xs))):TyOf K H (.ref a) (.type "list")
 |tup {a:aA} {xs:List V} (e:H a=some (.tup xs)):TyOf K H (.ref a) (.type "tuple")
 |dK {a:aA} {kvs:List (Key×V)} (e:H a=some (.dK kvs)):TyOf K H (.ref a) (.type "dict")
 |dT {a:aA} {kvs:List (List Key×V)} (e:H a=some (.dT kvs)):TyOf K H (.ref a) (.type "dict")
 |ins {a C dx:aA} {fs:List (Str×V)} (e:H a=some (.ins C dx fs)) (cl:Cls K C) (ha:bY K (.ref C) "__class__" = some (some (.builtin "object.__class__")))
    (hn:sP K (.builtin "object.__class__") "__get__" = some (some (.builtin "getset_descriptor.__get__"))) (htk:PySem.W.takesIn K (.builtin "object.__class__")=some true)
    (hm:ER K C (.type "object")=some true):TyOf K H (.ref a) (.ref C)
theorem VY{x:V}{u t:Value}(I:Inv X aB σ H s)(rx:RelV x u)(ty:TyOf X.K H x t)(e:BJ X.K t c=some b)(h:∀tk,Q (.bool b) { s with toks:=tk }) :
  bD (bH X.prog X.w) A (call (.builtin "isinstance") [u,c]) Q E s:=by
 cases ty with
 |non=>cases(show u=Value.none from rx);exact cG PySem.W.kitx_none I.kIn True.intro e (fun z=>nomatch z) h
 |bl y=>cases(show u=Value.bool y from rx);exact cG PySem.W.kitx_bool I.kIn True.intro e (fun z=>nomatch z) h
 |int i=>obtain⟨t,q⟩:=(show ∃t,u=Value.int i t from rx);cases q;exact cG PySem.W.kitx_int I.kIn True.intro e (fun z=>nomatch z) h
 |str y=>obtain⟨t,q⟩:=(show ∃t,u=Value.str y t from rx);cases q;exact cG PySem.W.kitx_str I.kIn True.intro e (fun z=>nomatch z) h
 |flt y=>obtain⟨t,q⟩:=(show ∃t,u=Value.float y t from rx);cases q;exact cG PySem.W.kitx_float I.kIn True.intro e (fun z=>nomatch z) h
 | @lst a xs ea =>
   cases(show u=Value.ref a from rx);obtain⟨_,_,n,_,h1⟩:=(show ObjOk X.prog X.w H s.heap a (.lst xs) from I.hok a _ ea)
   exact cG sS I.kIn ⟨_,h1,rfl⟩ e (fun z=>nomatch z) h
 | @frz a ob xs ea =>
   cases(show u=Value.ref a from rx);obtain⟨_,_,_,n,_,h1⟩:=(show ObjOk X.prog X.w H s.heap a (.frz ob (.lst xs)) from I.hok a _ ea)
   exact cG sS I.kIn ⟨_,h1,rfl⟩ e (fun z=>nomatch z) h
 | @tup a xs ea =>
   cases(show u=Value.ref a from rx);obtain⟨_,_,_,p⟩:=(show ObjOk X.prog X.w H s.heap a (.tup xs) from I.hok a _ ea)
   obtain⟨o,h1,h2,_⟩:=p;exact cG rN I.kIn ⟨o,h1,h2⟩ e (fun z=>nomatch z) h
 | @dK a kvs ea =>
   cases(show u=Value.ref a from rx);obtain⟨_,_,vs,_,p⟩:=(show ObjOk X.prog X.w H s.heap a (.dK kvs) from I.hok a _ ea)
   obtain⟨o,es,ep,h1,h2,_⟩:=p;exact cG OH I.kIn ⟨o,h1,h2.1⟩ e (fun z=>nomatch z) h
 | @dT a kvs ea =>
   cases(show u=Value.ref a from rx);obtain⟨_,_,xs,_,o,es,ep,h1,h2,_⟩:=(show ObjOk X.prog X.w H s.heap a (.dT kvs) from I.hok a _ ea)
   exact cG OH I.kIn ⟨o,h1,h2.1⟩ e (fun z=>nomatch z) h
 | @ins a C dx fs ea cl ha hn htk hm =>
   cases(show u=Value.ref a from rx);obtain⟨mA,O,_⟩:=BZ I.hok ea;obtain⟨od,J,_⟩:=O.look;exact cG (PySem.W.kitx_own (cl.get _) cl.hd ha hn htk hm) I.kIn J e (fun z=>nomatch z) h
end
structure Room(k:Nat)(A:bO):Prop where
 hd:A.handled=none
 dp:A.depth+3*k+5<recursionLimit
 un:A.units+16*k+200<cLine
theorem Room.mono{j k:Nat}{A:bO}(r:Room k A)(h:j<=k):Room j A:=⟨r.hd,by have:=r.dp;omega,by have:=r.un;omega⟩
theorem Room.deeper{k:Nat}{A:bO}(r:Room (k+1) A)(env:Env):Room k (A.deeper env):=
 ⟨r.hd,by have:=r.dp;show A.depth+1+3*k+5<_;omega,by have:=r.un;show A.units+3+16*k+200<_;omega⟩
theorem PQ{A:bO}{C:aA}{us:List Value}{kw:List (Str×Value)}:(A.under (.builtin "type.__call__" ⟨.ref C::us,kw⟩)).depth=A.depth+1:=by
 first | rfl | simp[bO.under,Code.weight,Code.isCreation,Code.isGuard,Code.isCaller,Code.frames,Code.isFrame,guardIds]
theorem PP{A:bO}{C:aA}{us:List Value}{kw:List (Str×Value)}:(A.under (.builtin "type.__call__" ⟨.ref C::us,kw⟩)).units=A.units+1:=by
 first | rfl | simp[bO.under,Code.cUnits,Code.frames,Code.isFrame]
theorem Room.make{k:Nat}{A:bO}(r:Room (k+1) A)(C:aA)(us:List Value)(kw:List (Str×Value)):Room k (A.under (.builtin "type.__call__" ⟨.ref C::us,kw⟩)):=
 ⟨r.hd,by have:=r.dp;rw[PQ];omega,by have:=r.un;rw[PP];omega⟩
theorem Room.depth{k:Nat}{A:bO}(r:Room k A):A.depth<recursionLimit:=by have:=r.dp;omega
theorem Room.units{k:Nat}{A:bO}(r:Room k A):A.units+64<cLine:=by have:=r.un;omega
def tNil:TA:=fun _ H Q=>Q [] H
def tCons(ta:TE)(tr:TA):TA:=fun σ H Q=>ta σ H fun x H1=>tr σ H1 fun xs H2=>Q (x::xs) H2
section
variable{X:Cx}{e:Expr}{es:List Expr}{te:TE}{t:TA}{pos:Pos}
theorem yK:PA X [] tNil:=fun _ _ _ _ H Q I h=>Calls.spliced_nil ⟨[],H,I,.nil,h⟩
theorem jN(ha:PE X e te)(hr:PA X es t)(hs:aF (e::es) X.env=(false,bM e X.env)::aF es X.env:=by rfl):PA X (e::es) (tCons te t):=by
 intro pos aB s σ H Q I h;rw[hs];show bD _ _ (spliced ((false,bM e X.env)::cN pos (aF es X.env))) _ _ s;refine Calls.spliced_cons (thn (ha aB s σ H _ I h) fun u s1 zq=>?_);obtain⟨x,H1,I1,r1,q1⟩:=zq;exact thn (hr pos aB s1 σ H1 _ I1 q1) fun us s2 ⟨xs,H2,I2,r2,q2⟩=>⟨x::xs,H2,I2,.cons r1 r2,q2⟩
def tTup(t:TA):TE:=fun σ H Q=>t σ H fun xs H1=>xs.length<=sizeLine/\∀p,H1 p=none->Q (.ref p) (upd H1 p (.tup xs))
def tLst(t:TA):TE:=fun σ H Q=>t σ H fun xs H1=>xs.length<=sizeLine/\∀p,H1 p=none->Q (.ref p) (upd H1 p (.lst xs))
theorem pe_tup{x1}(h:PA X es t):PE X (.Tuple es x1 pos) (tTup t):=by
 intro aB s σ H Q I hq;refine wpAny_Tuple_spliced (thn (h pos aB s σ H _ I hq) fun us s1 ⟨xs,H1,I1,r,z,q⟩=>⟨by rw[<- r.length];exact z,?_⟩);have hf:H1 s1.heap.objs.size=none:=I1.hok.fresh (aR _);refine⟨.ref s1.heap.objs.size,upd H1 s1.heap.objs.size (.tup xs),I1.laid (t':=s1.toks) (fun b u e=>aI _ e) (aR _) ?_,rfl,q _ hf⟩;exact⟨z,us,r,⟨_,aW _ rfl,rfl,_,rfl⟩⟩
theorem PB(h:PA X es t):PE X (.List es pos) (tLst t):=by
 intro aB s σ H Q I hq;refine wpAny_List_spliced (thn (h pos aB s σ H _ I hq) fun us s1 ⟨xs,H1,I1,r,z,q⟩=>⟨by rw[<- r.length];exact z,?_⟩);have hf:H1 s1.heap.objs.size=none:=I1.hok.fresh (aR _);refine⟨.ref s1.heap.objs.size,upd H1 s1.heap.objs.size (.lst xs),I1.laid (t':=s1.toks) (fun b u e=>aI _ e) (aR _) ?_,rfl,q _ hf⟩;exact⟨z,us,0,r,aW _ rfl⟩
end
abbrev Sp:=List V->Hp->VK->XK->Prop
abbrev CXT:=List Env->Hp->aC->XK->Value->aC->Prop
structure Env0(P:aZ)(w:bK)(K:aJ)(mg:Str->Option Value)(base:Heap)(A:bO)(outer:List Env)(s:aC)(H:Hp):Prop where
 frames:A.frames=some outer
 mod:Mod K mg base
 bs:∀b o,base.get? b=some o->s.heap.get? b=some o/\H b=none
 bsz:Bsz K mg base s.heap H
 funs:s.heap.FunFrames base outer
 frf:∀b∈frs outer,H b=none
 hok:HOk P w H s.heap
 bare:iS s.gens
def CE(outer:List Env)(P:aZ)(w:bK)(H:Hp)(s:aC)(Q:VK)(u:Value)(s':aC):Prop :=
 ∃v H',s'.os=s.os/\iS s'.gens/\Un (frs outer) [] H H' s.heap s'.heap/\HOk P w H' s'.heap/\RelV v u/\Q v H'
def CR(CX:CXT)(outer:List Env)(P:aZ)(w:bK)(H:Hp)(s:aC)(Q:VK)(E:XK)(r:Result)(s':aC):Prop :=
 match r with
 | .ok (.ret u)=>CE outer P w H s Q u s'
 | .ok _=>False
 | .error e=>CX outer H s E e s'
structure FnOk(P:aZ)(w:bK)(K:aJ)(mg:Str->Option Value)(base:Heap)(CX:CXT)(k:Nat)(f:aA)(fd:aH)(ps:List Str)(sp:Sp):Prop where
 len:∀vs H Q E,sp vs H Q E->vs.length=ps.length
 run:∀(A:bO) (outer:List Env) (s:aC) (H:Hp) (args:Args) (us:List Value) (vs:List V) (Q:VK) (E:XK),Room k A->Env0 P w K mg base A outer s H->XM s fd args (ps.zip us)->Vals vs us->sp vs H Q E →
  rL (bH P w) A (.call (.ref f) args) (CR CX outer P w H s Q E) s
theorem FnOk.mono{P:aZ}{w:bK}{K:aJ}{mg:Str->Option Value}{base:Heap}{CX:CXT}{j k:Nat}{f:aA}{fd:aH}{ps:List Str}{sp:Sp}(F:FnOk P w K mg base CX j f fd ps sp)(h:j<=k) :
  FnOk P w K mg base CX k f fd ps sp:=⟨F.len,fun A outer s H args us vs Q E hr=>F.run A outer s H args us vs Q E (hr.mono h)⟩
theorem FnOk.imp{P:aZ}{w:bK}{K:aJ}{mg:Str->Option Value}{base:Heap}{CX:CXT}{k:Nat}{f:aA}{fd:aH}{ps:List Str}{sp sp':Sp}(F:FnOk P w K mg base CX k f fd ps sp)(h:∀vs H Q E,sp' vs H Q E->sp vs H Q E):FnOk P w K mg base CX k f fd ps sp' :=
 ⟨fun vs H Q E q=>F.len vs H Q E (h _ _ _ _ q),fun A outer s H args us vs Q E hr he hb hv hs=>F.run A outer s H args us vs Q E hr he hb hv (h _ _ _ _ hs)⟩
theorem Env0.make{P:aZ}{w:bK}{K:aJ}{mg:Str->Option Value}{base:Heap}{A:bO}{outer:List Env}{s:aC}{H:Hp}(e:Env0 P w K mg base A outer s H)(C:aA)(us:List Value)(kw:List (Str×Value)) :
  Env0 P w K mg base (A.under (.builtin "type.__call__" ⟨.ref C::us,kw⟩)) outer s H:=⟨by first | exact e.frames | (simpa[bO.under,Code.envs,Code.isFrame,pushEnvs] using e.frames),e.mod,e.bs,e.bsz,e.funs,e.frf,e.hok,e.bare⟩
section
variable{X:Cx}{aB:List (aA×Obj)}{σ : St}{H:Hp}{s s':aC}
theorem Inv.tabsH(I:Inv X aB σ H s):TabsK X.K X.mg X.base H:=⟨I.ok.bsz.2.bm,fun x c P hx ht=>⟨(I.ok.bsz.2.tab x c P hx ht).1,I.base.tbls _ _ (I.ok.bsz.2.tab x c P hx ht).2⟩⟩
theorem Inv.env0(I:Inv X aB σ H s):Env0 X.prog X.w X.K X.mg X.base X.A X.stack s H :=
 ⟨I.ok.frames,I.ok.mod,I.bs,⟨cJ I.ok.bsz.1 I.sz,I.tabsH⟩,I.stack,I.stkFree,I.hok,I.bare⟩
theorem Inv.after{Q:VK}{u:Value}(I:Inv X aB σ H s)(h:CE X.stack X.prog X.w H s Q u s'):EP X aB σ Q u s':=by
 obtain⟨v,H',os,bare,un,hok,r,q⟩:=h;obtain⟨hh,g,d,t,os'⟩:=s';obtain rfl:os'=s.os:=os;exact⟨v,H',I.call (h':=hh) (g':=g) (d':=d) (t':=t) (ch:=[]) un hok bare (fun b z=>absurd z (by simp)),r,q⟩
end
def tCall(sp:Sp)(dvs:List V)(E:XK)(t:TA):TE:=fun σ H Q=>t σ H fun vs H1=>sp (vs++dvs) H1 Q E
def tMake(C:aA)(sp:Sp)(dvs:List V)(E:XK)(t:TA):TE:=fun σ H Q=>t σ H fun vs H1=>∀x dx,H1 x=none->H1 dx=none->dx≠x →
 sp (.ref x::(vs++dvs)) (upd (upd H1 dx (.own x)) x (.ins C dx [])) (fun v H2=>v=.non/\Q (.ref x) H2) E
def Binds(K:aJ)(fd:aH)(ps:List Str)(ds:List Value):Prop :=
 ∀(s:aC) (us:List Value),K.In s.heap->(us++ds).length=ps.length->XM s fd ⟨us,[]⟩ (ps.zip (us++ds))
theorem Binds.all{K:aJ}{fd:aH}{ps:List Str}(h:∀us:List Value,us.length=ps.length->tZ fd ⟨us,[]⟩=pure (ps.zip us)):Binds K fd ps []:=fun s us _ hl=>by
 rw[fE] at hl ⊢;exact .of_eq (h us hl)
def uW(CX:CXT)(X:Cx)(E:XK):Prop:=∀(aB:List (aA×Obj)) (σ : St) (H:Hp) (s:aC) (e:Value) (s':aC),Inv X aB σ H s->CX X.stack H s E e s'->X.xe e s'
section
variable{X:Cx}{CX:CXT}{k:Nat}{f C:aA}{fd:aH}{ps:List Str}{sp:Sp}{dvs:List V}{ds:List Value}{E:XK}{x m:Str}{p pos apos:Pos}{e o:Expr}{es:List Expr}{ta:TE}{t:TA}
theorem JG{aB:List (aA×Obj)}{σ : St}{H:Hp}{s:aC}{Q:VK}{us:List Value}{vs:List V}(F:FnOk X.prog X.w X.K X.mg X.base CX k f fd ps sp)(hr:Room k X.A)(hb:Binds X.K fd ps ds)(hd:Vals dvs ds)(hx:uW CX X E)(I:Inv X aB σ H s)(r:Vals vs us)(h:sp (vs++dvs) H Q E):bD (bH X.prog X.w) X.A (call (.ref f) us) (EP X aB σ Q) X.xe s:=by
 have r2:Vals (vs++dvs) (us++ds):=r.append hd;have hl:(us++ds).length=ps.length:=by rw[<- r2.length];exact F.len _ _ _ _ h
 refine wpAny_call (rK (F.run X.A X.stack s H ⟨us,[]⟩ (us++ds) (vs++dvs) Q E hr I.env0 (hb s us I.kIn hl) r2 h) fun r s' hq=>?_);cases r with
 |error e=>exact hx aB σ H s e s' I hq
 | ok fl =>
   cases fl with
   |ret u=>exact I.after hq
   |next=>exact False.elim hq
   |brk=>exact False.elim hq
   |cont=>exact False.elim hq
theorem JS(F:FnOk X.prog X.w X.K X.mg X.base CX k f fd ps sp)(hr:Room k X.A)(hg:Gl X x)(hm:X.mg x=some (.ref f))(hk:bF X.K (.ref f)=true)(hb:Binds X.K fd ps ds)(hd:Vals dvs ds)(hx:uW CX X E)(ha:PA X (e::es) t)(hdb:(x==("__debug__" : Str))=false:=by decide)(he:aF (e::es) X.env=(false,bM e X.env)::aF es X.env:=by rfl)(hpl:(cN pos (aF es X.env)).any (·.1)=false:=by rfl) :
  PE X (.Call (.Name x p) (e::es) [] pos) (tCall sp dvs E t):=by
 intro aB s σ H Q I h;refine gG (xY I hg hm ?_ hdb);refine mF (h₀:=X.base) I.ok.mod.kin hk (thn (ha pos aB s σ H _ I h) fun us s1 ⟨vs,H1,I1,r,q⟩=>⟨I1.kIn,?_⟩) he hpl;exact JG F hr hb hd hx I1 r q
structure Mk(K:aJ)(C f:aA):Prop where
 makes:eA K C=true
 init:bY K (.ref C) "__init__" = some (some (.ref f))
 fn:lX K (.ref f)=true
 kp:bF K (.ref C)=true
theorem LU{aB:List (aA×Obj)}{σ : St}{H:Hp}{s:aC}{Q:VK}{us:List Value}{vs:List V}(M:Mk X.K C f)(F:FnOk X.prog X.w X.K X.mg X.base CX k f fd ps sp)(hr:Room (k+1) X.A)(hb:Binds X.K fd ps ds)(hd:Vals dvs ds)(hx:uW CX X E)(I:Inv X aB σ H s)(r:Vals vs us)(h:∀x dx,H x=none->H dx=none->dx≠x->sp (.ref x::(vs++dvs)) (upd (upd H dx (.own x)) x (.ins C dx [])) (fun v H2=>v=.non/\Q (.ref x) H2) E) :
  bD (bH X.prog X.w) X.A (call (.ref C) us) (EP X aB σ Q) X.xe s:=by
 have hq:=h (s.heap.objs.size+1) s.heap.objs.size (I.hok.fresh (Nat.le_succ _)) (I.hok.fresh (aR _)) (bN (BM _));have I2:=Inv.made (C:=C) I;have r2:Vals (V.ref (s.heap.objs.size+1)::(vs++dvs)) (Value.ref (s.heap.objs.size+1)::(us++ds)):=.cons rfl (r.append hd)
 have hl:(Value.ref (s.heap.objs.size+1)::us++ds).length=ps.length:=by
  have e:=r2.length;rw[F.len _ _ _ _ hq] at e;exact e.symm
 refine wpAny_call (aBj (f:=f) I.kIn M.makes M.init (beq_iff_eq.mp M.fn) (rK (F.run _ X.stack _ _ ⟨Value.ref (s.heap.objs.size+1)::us,[]⟩ (Value.ref (s.heap.objs.size+1)::(us++ds)) _ _ E (hr.make C us [])
  (I2.env0.make C us []) (hb _ (Value.ref (s.heap.objs.size+1)::us) I2.kIn hl) r2 hq) fun r s' hq'=>?_))
 cases r with
 |error e=>exact hx aB σ _ _ e s' I2 hq'
 | ok fl =>
   cases fl with
   | ret u =>
     obtain⟨v,H',I3,rv,ev,q3⟩:=I2.after hq';subst ev;exact⟨rv,⟨V.ref (s.heap.objs.size+1),H',I3,rfl,q3⟩⟩
   |next=>exact False.elim hq'
   |brk=>exact False.elim hq'
   |cont=>exact False.elim hq'
theorem RQ(M:Mk X.K C f)(F:FnOk X.prog X.w X.K X.mg X.base CX k f fd ps sp)(hr:Room (k+1) X.A)(hg:Gl X x)(hm:X.mg x=some (.ref C))(hb:Binds X.K fd ps ds)(hd:Vals dvs ds)(hx:uW CX X E)(ha:PA X (e::es) t)(hdb:(x==("__debug__" : Str))=false:=by decide)(he:aF (e::es) X.env=(false,bM e X.env)::aF es X.env:=by rfl)(hpl:(cN pos (aF es X.env)).any (·.1)=false:=by rfl) :
  PE X (.Call (.Name x p) (e::es) [] pos) (tMake C sp dvs E t):=by
 intro aB s σ H Q I h;refine gG (xY I hg hm ?_ hdb);refine mF (h₀:=X.base) I.ok.mod.kin M.kp (thn (ha pos aB s σ H _ I h) fun us s1 ⟨vs,H1,I1,r,q⟩=>⟨I1.kIn,?_⟩) he hpl;exact LU M F hr hb hd hx I1 r q
theorem aAm(M:Mk X.K C f)(F:FnOk X.prog X.w X.K X.mg X.base CX k f fd ps sp)(hr:Room (k+1) X.A)(hg:Gl X x)(hm:X.mg x=some (.ref C))(hb:Binds X.K fd ps ds)(hd:Vals dvs ds)(hx:uW CX X E)(hdb:(x==("__debug__" : Str))=false:=by decide):PE X (.Call (.Name x p) [] [] pos) (tMake C sp dvs E tNil):=by
 intro aB s σ H Q I h;refine gG (xY I hg hm ?_ hdb);exact rG I.kIn M.kp (LU (us:=[]) M F hr hb hd hx I .nil h)
end
section
variable{X:Cx}{CX:CXT}{k:Nat}{f C:aA}{fd:aH}{ps ks:List Str}{sp:Sp}{E:XK}{x m:Str}{p pos apos kpos:Pos}{e o:Expr}{es:List Expr}{kws:List nQ}{te ta:TE}{t tk:TA}{nm:Option Str}
variable{g:List Value->List Value->List Value}{gV:List V->List V->List V}
end
structure FnScope(N P:List Str)(sc:Scope):Prop where
 kind:sc.kind=.function:=by rfl
 co:sc.isCoroutine=false:=by rfl
 gen:sc.isGenerator=false:=by rfl
 nd:N.Nodup:=by decide +kernel
 pre:N.take P.length=P:=by rfl
 par:∀x∈P,sc.names.lookup x=some .local\/sc.names.lookup x=some .cell:=by decide +kernel
 nofree:∀y∈sc.names,y.2≠.free:=by decide +kernel
theorem IS{kindOf:Str->Option iP}{x:Str}:∀{binds:List (Str×Value)} {m:Str->Option Value},(∀v,(x,v)∉binds)->TW kindOf binds m x=m x
 |[],_,_=>rfl
 | (n, v) :: r, m, h => by
   unfold TW;rw[IS fun w hw=>h w (aN _ hw)]
   split
   . have : x ≠ n := by rintro rfl; exact h v aV
     simp[this]
   . rfl
theorem IU{kindOf:Str->Option iP}{x:Str}:∀{binds:List (Str×Value)} {m:Str->Option Value},(∀v,(x,v)∉binds)->TX kindOf binds m x=m x
 |[],_,_=>rfl
 | (n, v) :: r, m, h => by
   unfold TX;rw[IU fun w hw=>h w (aN _ hw)]
   split
   . rfl
   . have : x ≠ n := by rintro rfl; exact h v aV
     simp[this]
theorem IT{kindOf:Str->Option iP}{x:Str}{v:Value}:∀{P:List Str} {vs:List Value} {i:Nat} {m:Str->Option Value},P.Nodup->P[i]?=some x->vs[i]?=some v->kindOf x=some .local →
  TW kindOf (P.zip vs) m x=some v
 |[],_,_,_,_,h,_,_=>by simp at h
 |_::_,[],_,_,_,_,h,_=>by simp at h
 | p :: P, w :: vs, 0, m, nd, h1, h2, hk => by
   simp at h1 h2;subst h1;subst h2;show TW kindOf ((p,w)::P.zip vs) m p=_;unfold TW;rw[IS fun v hv=>(bT.mp nd).1 (CD hv).1,if_pos hk];simp
 | p :: P, w :: vs, i + 1, m, nd, h1, h2, hk => by
   show TW kindOf ((p,w)::P.zip vs) m x=_;unfold TW;exact IT (i:=i) (bT.mp nd).2 (by simpa using h1) (by simpa using h2) hk
theorem IV{kindOf:Str->Option iP}{x:Str}{v:Value}:∀{P:List Str} {vs:List Value} {i:Nat} {m:Str->Option Value},P.Nodup->P[i]?=some x->vs[i]?=some v->kindOf x≠some .local →
  TX kindOf (P.zip vs) m x=some v
 |[],_,_,_,_,h,_,_=>by simp at h
 |_::_,[],_,_,_,_,h,_=>by simp at h
 | p :: P, w :: vs, 0, m, nd, h1, h2, hk => by
   simp at h1 h2;subst h1;subst h2;show TX kindOf ((p,w)::P.zip vs) m p=_;unfold TX;rw[IU fun v hv=>(bT.mp nd).1 (CD hv).1,if_neg hk];simp
 | p :: P, w :: vs, i + 1, m, nd, h1, h2, hk => by
   show TX kindOf ((p,w)::P.zip vs) m x=_;unfold TX;exact IV (i:=i) (bT.mp nd).2 (by simpa using h1) (by simpa using h2) hk
noncomputable def start(N:List Str)(vs:List V):St:=vs.map some++List.replicate (N.length-vs.length) none
noncomputable def cxOf(CX:CXT)(P:aZ)(w:bK)(K:aJ)(mg:Str->Option Value)(base:Heap)(N:List Str)(qual:Str)(scope:Scope)(f:aA)(cd:Value)(A:bO)(outer:List Env)(s:aC)(H:Hp)(E:XK):Cx where
 prog:=P
 w:=w
 K:=K
 mg:=mg
 base:=base
 A:=A.deeper (gD qual scope s.heap.objs.size f cd)
 N:=N
 s₀:=s
 H₀:=H
 env:=gD qual scope s.heap.objs.size f cd
 outer:=outer
 stack:=gD qual scope s.heap.objs.size f cd::outer
 ex:=[]
 calm:=true
 fn:=fun _=>true
 pn:=[]
 xe:=fun e s'=>bD (bH P w) (A.deeper (gD qual scope s.heap.objs.size f cd)) (leaving (gD qual scope s.heap.objs.size f cd) e) (fun _ s''=>CX outer H s E e s'') (fun e' s''=>CX outer H s E e' s'') s'
theorem NR{sc:Scope}{n:Nat}{x:Str}(h:sc.names.lookup x=some .cell):∃c,(cellsFrom n sc.names []).lookup x=some c:=by
 have q:=GQ sc.names n [] (.inl h);exact EY.mp q
theorem VZ{CX:CXT}{P:aZ}{w:bK}{K:aJ}{mg:Str->Option Value}{base:Heap}{N ps:List Str}{qual:Str}{scope:Scope}{f:aA}{cd:Value}{A:bO}{outer:List Env}{s s1:aC}{H:Hp}{E:XK}{us:List Value}{vs:List V}(S:FnScope N ps scope)(hd:A.handled=none)(e0:Env0 P w K mg base A outer s H)(hl:vs.length=ps.length)(r:Vals vs us)(x:InCallC s s.heap.objs.size (TW (gD qual scope s.heap.objs.size f cd).kindOf (ps.zip us) fun _=>none) (cellsFrom (s.heap.objs.size+1) scope.names []) (TX (gD qual scope s.heap.objs.size f cd).kindOf (ps.zip us) fun _=>none) s1) :
  Inv (cxOf CX P w K mg base N qual scope f cd A outer s H E) [] (start N vs) H s1:=by
 have hpl:ps.length<=N.length:=by have:=congrArg List.length S.pre;rw[AQ] at this;omega
 obtain⟨h1,tk,rfl,hk⟩:=x.done;have noA:∀b:aA,b∉(cxOf CX P w K mg base N qual scope f cd A outer s H E).ex:=fun b z=>absurd (show b∈([]:List aA) from z) (by simp)
 refine⟨⟨e0.mod,S.kind,rfl,rfl,aR _,fun y z c h1 h2=>?_,fun y hy=>?_,fun y c _ h=>?_,fun _=>hd,bO.frames_deeper e0.frames,.inr ⟨rfl,rfl⟩,fun b z=>absurd z (noA b),e0.bs,e0.bsz,fun b _ _=>noA b,fun b z=>absurd z (noA b),e0.funs,e0.frf⟩,
  rfl,e0.bare,Un.kept hk,⟨_,x.toInCall.ns,fun i y v h1 h2 h3=>?_⟩,fun y c h=>⟨_,x.cell y c h⟩,e0.hok.fresh (aR _),fun y c h=>?_,fun p hp=>absurd (show p∈([]:List (aA×Obj)) from hp) (by simp),e0.hok.kept hk,?_⟩
 . exact name_of_addr x.apart (fN h1) (fN h2)
 . have hy : scope.names.lookup y = some .cell \/ scope.names.lookup y = some .free := hy;rcases hy with hy | hy
   . exact NR hy
   . exact absurd rfl (S.nofree _ (fN hy))
 . exact NZ (x.above y c (fN h))
 . have hi:i<vs.length:=by
    unfold start at h2
    by_cases hi:i<vs.length
    . exact hi
    . rw [bS (by simpa using hi)] at h2;rw [cX] at h2
      split at h2<;>cases h2
   have ha:vs[i]?=some v:=by
    unfold start at h2;rw[aU (by simpa using hi),aX] at h2;cases e:vs[i]? with
    |none=>rw[e] at h2;cases h2
    |some a=>rw[e] at h2;cases h2;rfl
   obtain⟨u,hu,rv⟩:=r.get ha
   have hp:ps[i]?=some y:=by
    rw[<- S.pre,List.getElem?_take_of_lt (by omega)];exact h1
   have ndP:ps.Nodup:=by rw[<- S.pre];exact S.nd.sublist (List.take_sublist _ _)
   refine⟨u,rv,?_⟩;rcases S.par y (List.mem_of_getElem? hp) with k | k
   . exact .inl ⟨k,IT ndP hp hu k⟩
   . obtain⟨c, e⟩ := NR (n := s.heap.objs.size + 1) k;refine .inr ⟨.inl k,c,e,?_⟩;have q:=x.cell y c e;rw[IV ndP hp hu (by show scope.names.lookup y≠_;rw[k];decide)] at q;exact q
 . exact .inl (e0.hok.fresh (NZ (x.above y c (fN h))))
 . unfold start;show _=N.length;rw[bR,bU,pK];omega
theorem aBw{CX:CXT}{P:aZ}{w:bK}{K:aJ}{mg:Str->Option Value}{base:Heap}{k:Nat}{f:aA}{name qual:Str}{params:Arguments}{body:List Stmt}{scope:Scope}{dV kV doc pm cdv ct oc:Value}{an od:Option aA}{osl:Array (Option Value)}{N ps:List Str}{sp:Sp}(lk:K.lookup f=some ⟨oc,od,.func (cT name qual params body scope dV kV doc pm an cdv ct),osl⟩)(hcd:eR K cdv qual=true)(S:FnScope N ps scope)(len:∀vs H Q E,sp vs H Q E->vs.length=ps.length)(hbody:∀(A:bO) (outer:List Env) (s:aC) (H:Hp) (vs:List V) (Q:VK) (E:XK),Room k (A.deeper (gD qual scope s.heap.objs.size f cdv))->sp vs H Q E →
    ∃t,PSs (cxOf CX P w K mg base N qual scope f cdv A outer s H E) body t/\t { nx:=fun _ H'=>Q .non H',rt:=Q } (start N vs) H) :
  FnOk P w K mg base CX (k+1) f (cT name qual params body scope dV kV doc pm an cdv ct) ps sp:=by
 refine⟨len,fun A outer s H args us vs Q E hr e0 hb r hsp=>?_⟩;have hl:=len _ _ _ _ hsp;have KX:K.In s.heap:=e0.mod.kin.keeps fun b o e=>(e0.bs b o e).1;have lim:s.heap.NoLimit:=e0.mod.nolimit.keeps fun b o e=>(e0.bs b o e).1
 have hkind:∀y∈ps.zip us,scope.names.lookup y.1=some .local\/(scope.names.lookup y.1=some .cell/\((cellsFrom (s.heap.objs.size+1) scope.names []).lookup y.1).isSome=true):=fun⟨n,v⟩ hy=>by
  rcases S.par n (CD hy).1 with q | q
  . exact .inl q
  . exact .inr ⟨q,GQ _ _ _ (.inl q)⟩
 refine codeAny_call_function hr.depth (KX _ _ lk) rfl S.co S.gen rfl (PySem.W.codeRec_of KX hcd) (hb _ _ _ _ ?_);refine wpAny_newFunctionEnv_cells S.kind hkind fun env he s1 x=>?_;subst he;refine⟨lim.keeps x.toInCall.keep,codeAny_func ?_⟩;obtain⟨t,ht,hq⟩:=hbody A outer s H vs Q E (hr.deeper _) hsp;have I:Inv (cxOf CX P w K mg base N qual scope f cdv A outer s H E) [] (start N vs) H s1:=VZ S hr.hd e0 hl r x;refine dI (ht [] s1 (start N vs) H _ I hq) (fun fl s' hs=>?_) fun e s' hs=>hs
 have fin:∀{σ':St} {H':Hp} {v:V} {u:Value},Inv (cxOf CX P w K mg base N qual scope f cdv A outer s H E) [] σ' H' s'->RelV v u->Q v H'->CE outer P w H s Q u s' :=
  fun {σ' H' v u} J rv q=>⟨v,H',J.os,J.bare,J.base,J.hok,rv,q⟩
 cases fl with
 | ret u =>
   obtain⟨v,σ',H',J,rv,q⟩:=hs;exact fin J rv q
 | next =>
   obtain⟨σ',H',J,q⟩:=hs;exact fin (v:=V.non) (u:=Value.none) J rfl q
 | brk =>
   obtain⟨_,_,_,q⟩:=hs;exact False.elim q
 | cont =>
   obtain⟨_,_,_,q⟩:=hs;exact False.elim q
section
variable{X:Cx}{x:Str}{p pos:Pos}{e:Expr}{es:List Expr}{t:TA}{id T:String}{r:List V->Hp->VK->Prop}
def tCB(r:List V->Hp->VK->Prop)(t:TA):TE:=fun σ H Q=>t σ H fun vs H1=>r vs H1 Q
theorem DI(hc:CallR X (.builtin id) r)(hg:Gl X x)(hm:X.mg x=none)(hv:fQ x=some (.builtin id))(ha:PA X (e::es) t)(hn:x≠"__name__":=by decide)(hdb:(x==("__debug__" : Str))=false:=by decide)(he:aF (e::es) X.env=(false,bM e X.env)::aF es X.env:=by rfl)(hpl:(cN pos (aF es X.env)).any (·.1)=false:=by rfl):PE X (.Call (.Name x p) (e::es) [] pos) (tCB r t):=by
 intro aB s σ H Q I h;refine gG (kB I hg hm hv ?_ hn hdb);exact PyProof.Rows.callWith_builtin1 (thn (ha pos aB s σ H _ I h) fun us s1 ⟨vs,H1,I1,r1,q1⟩=>hc aB s1 σ H1 vs us Q I1 r1 q1) he hpl
theorem HS(hc:CallR X (.type T) r)(hg:Gl X x)(hm:X.mg x=none)(hv:fQ x=some (.type T))(ha:PA X (e::es) t)(hn:x≠"__name__":=by decide)(hdb:(x==("__debug__" : Str))=false:=by decide)(he:aF (e::es) X.env=(false,bM e X.env)::aF es X.env:=by rfl)(hpl:(cN pos (aF es X.env)).any (·.1)=false:=by rfl):PE X (.Call (.Name x p) (e::es) [] pos) (tCB r t):=by
 intro aB s σ H Q I h;refine gG (kB I hg hm hv ?_ hn hdb);exact dX (thn (ha pos aB s σ H _ I h) fun us s1 ⟨vs,H1,I1,r1,q1⟩=>hc aB s1 σ H1 vs us Q I1 r1 q1) he hpl
end
end L2
namespace HT
open PySem PyProof.Rows
section
open PySem.SeqAt
open PySem.AutoSeq1 (wpAny_loadPart')
open PySem.MeetsSeq PySem.MeetsSeq2 PySem.MeetsSeq3
end
section
variable{prog:aZ}{w:bK}{A:bO}{E:Value->aC->Prop}{s:aC}
end
end HT
namespace L2
open PySem PySem.Spec PyProof.Rows
abbrev TO:=St->Hp->(Option Int->Hp->Prop)->Prop
def PO(X:Cx)(e:Option Expr)(t:TO):Prop :=
 ∀(aB:List (aA×Obj)) (s:aC) (σ : St) (H:Hp) (Q:Option Int->Hp->Prop),Inv X aB σ H s->t σ H Q →
  bD (bH X.prog X.w) X.A (evalPart e X.env) (fun u s'=>∃o H',Inv X aB σ H' s'/\IsPart u o/\Q o H') X.xe s
def tNoPart:TO:=fun _ H Q=>Q none H
def tPart(t:TE):TO:=fun σ H Q=>t σ H fun x H1=>∃i,x=.int i/\Q (some i) H1
section
variable{X:Cx}{e:Expr}{te:TE}{lo hi:Option Expr}{tl th:TO}{pos p2:Pos}
theorem po_none:PO X none tNoPart:=by
 intro aB s σ H Q I h;rw[evalPart_none];exact cF ⟨none,H,I,.none,h⟩
theorem po_some(h:PE X e te):PO X (some e) (tPart te):=by
 intro aB s σ H Q I hw;rw[evalPart_some];refine thn (h aB s σ H _ I hw) fun u s1 zq=>?_;obtain⟨x,H1,I1,r1,q1⟩:=zq;obtain⟨i,rfl,q⟩:=q1;obtain⟨t,rfl⟩:=r1;exact⟨some i,H1,I1,.int i t,q⟩
def SlR(X:Cx)(r:V->Option Int->Option Int->Hp->VK->Prop):Prop :=
 ∀(aB:List (aA×Obj)) (s:aC) (σ : St) (H:Hp) (x:V) (v vl vu:Value) (lo hi:Option Int) (sl:aA) (Q:VK),Inv X aB σ H s->RelV x v->s.heap.IsSliceOf sl vl vu .none->IsPart vl lo->IsPart vu hi->r x lo hi H Q →
  ∃T id,NV (.type T) "__getitem__" = pure (some (.builtin id))/\s.TypeIs v T/\bD (bH X.prog X.w) X.A (EN v (.ref sl)) (EP X aB σ Q) X.xe s
def tSl(r:V->Option Int->Option Int->Hp->VK->Prop)(te:TE)(tl th:TO):TE:=fun σ H Q=>te σ H fun x H1=>tl σ H1 fun l H2=>th σ H2 fun u H3=>r x l u H3 Q
theorem MK{r:V->Option Int->Option Int->Hp->VK->Prop}(hr:SlR X r)(he:PE X e te)(hl:PO X lo tl)(hu:PO X hi th):PE X (.Subscript e (.Slice lo hi none p2) pos) (tSl r te tl th):=by
 intro aB s σ H Q I h;refine Subscript_ (thn (he aB s σ H _ I h) fun v s1 zq=>?_);obtain⟨x,H1,I1,r1,q1⟩:=zq;refine wpAny_Slice (thn (hl aB s1 σ H1 _ I1 q1) fun vl s2 ⟨l,H2,I2,pl,q2⟩=>thn (hu aB s2 σ H2 _ I2 q2) fun vu s3 zq=>?_);obtain⟨u,H3,I3,pu,q3⟩:=zq;rw[evalPart_none];refine cF ?_;have I4:Inv X aB σ H3 { s3 with heap:=s3.heap.push { cls:=.type "slice",data:=.fields #[vl,vu,.none] } }:=I3.kept (t':=s3.toks) fun b ob q=>aI _ q;obtain⟨T,id,hT,ht,hg⟩:=hr aB { s3 with heap:=s3.heap.push { cls:=.type "slice",data:=.fields #[vl,vu,.none] } } σ H3 x v vl vu l u s3.heap.objs.size Q I4 r1 (Heap.IsSliceOf.new ..) pl pu q3;show bD (bH X.prog X.w) X.A (QR e (.Slice lo hi none p2) v (.ref s3.heap.objs.size)) (EP X aB σ Q) X.xe { s3 with heap:=s3.heap.push { cls:=.type "slice",data:=.fields #[vl,vu,.none] } };exact tail_any (ops:=[.ref s3.heap.objs.size,v]) ht hT hg (by with_unfolding_all rfl)
noncomputable def cutV(xs:List V)(lo hi:Option Int):List V:=(xs.drop (HT.sIx xs.length 0 lo)).take (HT.sIx xs.length xs.length hi-HT.sIx xs.length 0 lo)
theorem NP(xs:List V)(lo hi:Option Int):(cutV xs lo hi).length<=xs.length:=by
 unfold cutV;rw[AQ,List.length_drop];omega
end
theorem SQ{n:Nat}{i:Int}{j:Nat}(h:ixN n i=some j):seqIndex? i n=some j/\j<n/\-(n:Int)<=i/\i<n:=by
 unfold ixN at h
 by_cases h0:0<=i
 . rw [if_pos h0] at h
   by_cases h1:i<n
   . rw[if_pos h1] at h;have e:i.toNat=j:=Option.some.inj h;exact⟨by rw[seqIndex_of h0 h1,e],by omega,by omega,h1⟩
   . rw[if_neg h1] at h;cases h
 . rw [if_neg h0] at h
   by_cases h1 : -(n:Int)<=i
   . rw[if_pos h1] at h;have e:(i+n).toNat=j:=Option.some.inj h;exact⟨by rw[XD (by omega) h1,e],by omega,h1,by omega⟩
   . rw[if_neg h1] at h;cases h
theorem LH{α : Type}{xs:List α}{i:Int}{v : α}(h:atI xs i=some v):∃j,seqIndex? i xs.length=some j/\xs[j]?=some v/\j<xs.length/\-(xs.length:Int)<=i/\i<xs.length:=by
 unfold atI at h;cases e:ixN xs.length i with
 |none=>rw[e] at h;cases h
 | some j =>
   rw[e] at h;obtain⟨h1,h2,h3,h4⟩:=SQ e;exact⟨j,h1,h,h2,h3,h4⟩
def TV(b:Expr):Prop:=∀o i,IZ b false o i=operate [o,i] (EN o i)
def IxR(X:Cx)(r:R2):Prop :=
 ∀(value slice:Expr) (aB:List (aA×Obj)) (s:aC) (σ : St) (H:Hp) (x y:V) (v u:Value) (Q:VK),Inv X aB σ H s->RelV x v->RelV y u->r x y H Q →
  IZ slice false v u=operate [v,u] (EN v u)->bD (bH X.prog X.w) X.A (QR value slice v u) (EP X aB σ Q) X.xe s
def MtR(X:Cx)(id:String)(r:V->List V->Hp->VK->Prop):Prop :=
 ∀(aB:List (aA×Obj)) (s:aC) (σ : St) (H:Hp) (x:V) (xs:List V) (v:Value) (us:List Value) (Q:VK),Inv X aB σ H s->RelV x v->Vals xs us->r x xs H Q →
  bD (bH X.prog X.w) X.A (call (.builtin id) (v::us)) (EP X aB σ Q) X.xe s
section
variable{X:Cx}{a b:Expr}{ta tb:TE}{pos:Pos}
theorem IxR.or{r r':R2}(h:IxR X r)(h':IxR X r'):IxR X (fun x y H Q=>r x y H Q\/r' x y H Q):=by
 intro value slice aB s σ H x y v u Q I rx ry q hs;rcases q with q | q
 . exact h value slice aB s σ H x y v u Q I rx ry q hs
 . exact h' value slice aB s σ H x y v u Q I rx ry q hs
theorem pe_ix{r:R2}(hr:IxR X r)(ha:PE X a ta)(hb:PE X b tb)(hs:TV b):PE X (.Subscript a b pos) (tOp r ta tb):=by
 intro aB s σ H Q I h;exact Subscript_ (binT ha hb I h fun v u s2 x y H2 I2 rx ry q=>hr a b aB s2 σ H2 x y v u Q I2 rx ry q (hs _ _))
noncomputable def rIxL(K:aJ):R2:=fun x y H Q=>∃p xs i v,x=.ref p/\y=.int i/\SqL K H p xs/\atI xs i=some v/\Q v H
noncomputable def rIxT(K:aJ):R2:=fun x y H Q=>∃p xs i v,x=.ref p/\y=.int i/\SqT K H p xs/\atI xs i=some v/\Q v H
noncomputable def rIxS:R2:=fun x y H Q=>∃z i c,x=.str z/\y=.int i/\z.length<=sizeLine/\atI z.cps.toList i=some c/\Q (.str ⟨#[c]⟩) H
theorem ix_list:IxR X (rIxL X.K):=by
 intro value slice aB s σ H x y v u Q I rx ry h hs;obtain⟨p,xs,i,z,rfl,rfl,hq,he,q⟩:=h;cases rx;obtain⟨t,rfl⟩:=ry;obtain⟨its,r,pl,hz⟩:=I.list hq;obtain⟨j,h1,h2,h3,h4,h5⟩:=LH he;obtain⟨w,ew,rw'⟩:=r.get h2;have hl:=r.length;have hn:=sJ;have fin:EP X aB σ Q w s:=⟨z,H,I,rw',q⟩
 by_cases h0:0<=i
 . have hj:i.toNat=j:=by
    rw[seqIndex_of h0 h5] at h1;exact Option.some.inj h1
   exact item_listR pl.isList h0 (by omega) (by rw[hj];simpa using ew) fin hs
 . have hj:(i+(its.toArray.size:Int)).toNat=j:=by
    rw[XD (by omega) h4] at h1;rw[bA,<- hl];exact Option.some.inj h1
   exact subscriptTail_builtinR (x:=w) pl.isList.typeIs slot_list_getitem.lookup
    (wpAny_getItem_list_neg (Q:=fun r s'=>r=w/\EP X aB σ Q r s') pl.isList (by omega) (by rw[bA]<;>omega) (by omega) (by rw[hj];simpa using ew) ⟨rfl,fin⟩) hs
theorem ix_tup:IxR X (rIxT X.K):=by
 intro value slice aB s σ H x y v u Q I rx ry h hs;obtain⟨p,xs,i,z,rfl,rfl,hq,he,q⟩:=h;cases rx;obtain⟨t,rfl⟩:=ry;obtain⟨its,r,pl,hz⟩:=I.tuple hq;obtain⟨j,h1,h2,h3,h4,h5⟩:=LH he;obtain⟨w,ew,rw'⟩:=r.get h2;have hl:=r.length;have hn:=sJ;have fin:EP X aB σ Q w s:=⟨z,H,I,rw',q⟩
 exact subscriptTail_builtinR (x:=w) pl.typeIs slot_tuple_getitem.lookup
  (getItem_tuple (j:=j) (Q:=fun r s'=>r=w/\EP X aB σ Q r s') pl (by omega) (by omega) (by rw[bA,<- hl];exact h1) (by simpa using ew) ⟨rfl,fin⟩) hs
theorem ix_str:IxR X rIxS:=by
 intro value slice aB s σ H x y v u Q I rx ry h hs;obtain⟨z,i,c,rfl,rfl,hz,he,q⟩:=h;obtain⟨t,rfl⟩:=rx;obtain⟨t',rfl⟩:=ry;obtain⟨j,h1,h2,h3,h4,h5⟩:=LH he;have hl:z.cps.toList.length=z.length:=by simp[Str.length]
 rw[hl] at h1 h4 h5;have hn:=sJ
 exact tail_any (typeIs_str s z t) slot_str_getitem.lookup (getItem_str (c:=c) (by
  have e1:decide (i < -(2 ^ 63:Int))=false:=decide_eq_false (by omega);have e2:decide (i≥2 ^ 63)=false:=decide_eq_false (by omega)
  rw[e1,e2,Bool.or_false]) (by rw[h1];simpa using h2) ⟨.str ⟨#[c]⟩,H,I.tok _,⟨_,rfl⟩,q⟩) hs
noncomputable def rIx(K:aJ):R2:=fun x y H Q=>rIxL K x y H Q\/rIxT K x y H Q\/rIxS x y H Q
theorem ix_seq:IxR X (rIx X.K):=ix_list.or (ix_tup.or ix_str)
theorem PN(its:List Value)(n j:Nat)(u:Value):Obj.mapSeq (·.setIfInBounds j u) { cls:=.type "list",data:=.seq its.toArray n }={ cls:=.type "list",data:=.seq (its.set j u).toArray n }:=by
 simp[Obj.mapSeq]
theorem Inv.lst{aB:List (aA×Obj)}{σ : St}{H:Hp}{s:aC}{p:aA}{xs:List V}(I:Inv X aB σ H s)(h:H p=some (.lst xs)) :
  ∃(its:List Value) (n:Nat),Vals xs its/\s.heap.get? p=some { cls:=.type "list",data:=.seq its.toArray n }/\xs.length<=sizeLine:=by
 obtain⟨z,its,n,r,e⟩:=I.hok p _ h;exact⟨its,n,r,e,z⟩
theorem Inv.lstUpd{aB:List (aA×Obj)}{σ : St}{H:Hp}{s:aC}{p:aA}{xs ys:List V}{its its':List Value}{n n':Nat}{f:Obj->Obj}(I:Inv X aB σ H s)(h:H p=some (.lst xs))(ho:s.heap.get? p=some { cls:=.type "list",data:=.seq its.toArray n })(hf:f { cls:=.type "list",data:=.seq its.toArray n }={ cls:=.type "list",data:=.seq its'.toArray n' })(r:Vals ys its')(hz:ys.length<=sizeLine)(t:Nat) :
  Inv X aB σ (upd H p (.lst ys)) { s with heap:=s.heap.update p f,toks:=t }:=by
 have e:(s.heap.update p f).get? p=some { cls:=.type "list",data:=.seq its'.toArray n' }:=by
  rw[lD f ho (by rw[hf]<;>rfl),hf]
 refine I.write (x:=p) (e:=p) (by rw[h];trivial) (.inl rfl) (fun b u hb q=>(dP _ _ (Ne.symm hb)).trans q) ⟨_,e⟩ ?_;exact⟨hz,its',n',r,e⟩
def rSetL:V->V->V->Hp->(Hp->Prop)->Prop:=fun o i v H Q=>∃p xs k j,o=.ref p/\i=.int k/\H p=some (.lst xs)/\ixN xs.length k=some j/\Q (upd H p (.lst (xs.set j v)))
theorem YZ:PSet X rSetL:=by
 intro aB s σ H o i v ov iv u Q I ro ri rv h;obtain⟨p,xs,k,j,rfl,rfl,hp,hj,q⟩:=h;cases ro;obtain⟨t,rfl⟩:=ri;obtain⟨its,n,r,ho,hz⟩:=I.lst hp;obtain⟨h1,h2,h3,h4⟩:=SQ hj;have hl:=r.length;have hn:=sJ
 have I':Inv X aB σ (upd H p (.lst (xs.set j v))) { s with heap:=s.heap.update p (Obj.mapSeq (·.setIfInBounds j u)) }:=
  I.lstUpd hp ho (PN its n j u) (r.set rv j) (by rw[List.length_set];exact hz) s.toks
 by_cases h0:0<=k
 . have hk:k.toNat=j:=by
    rw[seqIndex_of h0 h4] at h1;exact Option.some.inj h1
   exact PySem.W.ki_setAt ho h0 (by omega) (by rw[bA,<- hl];exact h4) (by rw[hk];exact⟨_,I',q⟩)
 . have hk:(k+(its.toArray.size:Int)).toNat=j:=by
    rw[XD (by omega) h3] at h1;rw[bA,<- hl];exact Option.some.inj h1
   exact PySem.W.ki_setBack ho (by omega) (by rw[bA,<- hl];exact h3) (by omega) (by rw[hk];exact⟨_,I',q⟩)
theorem JF(lo hi:Option Int)(n:Nat):(mX lo hi none n).1=((HT.sIx n 0 lo:Nat):Int)/\(mX lo hi none n).2.1=((HT.sIx n n hi:Nat):Int)/\(mX lo hi none n).2.2=1:=by
 refine⟨?_,?_,rfl⟩
 . cases lo with
   |none=>simp[mX,HT.sIx]
   | some i =>
     simp only[mX,HT.sIx,UB,show(1:Int)>0 by decide,if_true]
     by_cases h:i<0
     . simp only[h,if_true]<;>omega
     . simp only[h,if_false]<;>omega
 . cases hi with
   |none=>simp[mX,HT.sIx]
   | some i =>
     simp only[mX,HT.sIx,UB,show(1:Int)>0 by decide,if_true]
     by_cases h:i<0
     . simp only[h,if_true]<;>omega
     . simp only[h,if_false]<;>omega
theorem FC(its:List Value)(lo hi:Option Int):slicePick its.toArray lo hi none=((its.drop (HT.sIx its.length 0 lo)).take (HT.sIx its.length its.length hi-HT.sIx its.length 0 lo)).toArray:=by
 obtain⟨h1,h2,h3⟩:=JF lo hi its.toArray.size;unfold slicePick;rw[h1,h2,h3];simp only[sliceRange_one,pick_run,bA]<;>rfl
def rSlL(K:aJ):V->Option Int->Option Int->Hp->VK->Prop:=fun x lo hi H Q=>∃a xs,x=.ref a/\SqL K H a xs/\∀p,H p=none->Q (.ref p) (upd H p (.lst (cutV xs lo hi)))
theorem sl_list:SlR X (rSlL X.K):=by
 intro aB s σ H x v vl vu lo hi sl Q I rx hs pl pu h;obtain⟨a,xs,rfl,hx,q⟩:=h;cases rx;obtain⟨its,r,ht,hz⟩:=I.list hx;have hlen:=r.length;refine⟨"list",_,slot_list_getitem.lookup,ht.isList.typeIs,?_⟩;refine wpAny_getItem_list_slice ht.isList hs pl pu .none (by simp) ?_ (by rw[bA]<;>omega);rw[FC,<- hlen];refine⟨.ref s.heap.objs.size,_,I.laid (t':=s.toks) (o:=.lst (cutV xs lo hi)) (fun b ob q=>aI _ q) (aR _) ?_,rfl,q _ (I.hok.fresh (aR _))⟩;exact⟨cJ (NP xs lo hi) hz,_,0,(r.drop (HT.sIx xs.length 0 lo)).take (HT.sIx xs.length xs.length hi-HT.sIx xs.length 0 lo),aW _ rfl⟩
theorem LG:CallR X (.builtin "len") (fun xs H Q=>∃p ys,xs=[.ref p]/\(SqL X.K H p ys\/SqT X.K H p ys)/\Q (.int ys.length) H):=by
 intro aB s σ H xs us Q I r h;obtain⟨p,ys,rfl,hq,q⟩:=h;obtain⟨u,rfl,rx⟩:=vals1 r;cases rx;have hn:=sJ;rcases hq with hq | hq
 . obtain⟨its, r', pl, hz⟩ := I.list hq;have hlen:=r'.length;exact Calls.call_len_list pl.isList (by simp only[bA]<;>omega) ⟨.int ys.length,H,I.tok _,⟨s.toks+1,by rw[bA,hlen]⟩,q⟩
 . obtain⟨its, r', pl, hz⟩ := I.tuple hq;have hlen:=r'.length;exact len_tuple pl (by simp only[bA]<;>omega) ⟨.int ys.length,H,I.tok _,⟨s.toks+1,by rw[bA,hlen]⟩,q⟩
theorem LF:CallR X (.builtin "len") (fun xs H Q=>∃z,xs=[.str z]/\z.length<=sizeLine/\Q (.int z.length) H):=by
 intro aB s σ H xs us Q I r h;obtain⟨z,rfl,hz,q⟩:=h;obtain⟨u,rfl,t,rfl⟩:=vals1 r;have hn:=sJ;exact len_str (by omega) ⟨.int z.length,H,I.tok _,⟨_,rfl⟩,q⟩
theorem CallR.or{f:Value}{r r':List V->Hp->VK->Prop}(h:CallR X f r)(h':CallR X f r'):CallR X f (fun xs H Q=>r xs H Q\/r' xs H Q):=by
 intro aB s σ H xs us Q I rs q;rcases q with q | q
 . exact h aB s σ H xs us Q I rs q
 . exact h' aB s σ H xs us Q I rs q
theorem LD:CallR X (.type "list") (fun xs H Q=>∃p ys,xs=[.ref p]/\(SqL X.K H p ys\/SqT X.K H p ys)/\∀l,H l=none->Q (.ref l) (upd H l (.lst ys))):=by
 intro aB s σ H xs us Q I r h;obtain⟨p,ys,rfl,hq,q⟩:=h;obtain⟨u,rfl,rx⟩:=vals1 r;cases rx
 have fin:∀(its:List Value),Vals ys its->ys.length<=sizeLine->∀(h':Heap) (c':Nat),(∀b o',s.heap.get? b=some o'->h'.get? b=some o') →
   h'.get? s.heap.objs.size=some { cls:=.type "list",dict:=none,data:=.seq its.toArray c',slots:=#[] }->EP X aB σ Q (.ref s.heap.objs.size) { s with heap:=h' }:=fun its r' hz h' c' kp e =>
  ⟨.ref s.heap.objs.size,_,I.laid (t':=s.toks) kp (aR _) (show ObjOk X.prog X.w _ h' _ (.lst ys) from ⟨hz,its,c',r',e⟩),rfl,q _ (I.hok.fresh (aR _))⟩
 rcases hq with hq | hq
 . obtain⟨its, r', pl, hz⟩ := I.list hq;have hlen:=r'.length;obtain⟨o,ho,hc,n,hd⟩:=pl.isList;exact call_list_seq p (.inl rfl) ho hc hd (fun h' c' kp e=>fin its r' hz h' c' kp e) (by simp only[bA]<;>omega)
 . obtain⟨its, r', pl, hz⟩ := I.tuple hq;have hlen:=r'.length;obtain⟨o,ho,hc,n,hd⟩:=pl;exact call_list_seq p (.inr rfl) ho hc hd (fun h' c' kp e=>fin its r' hz h' c' kp e) (by simp only[bA]<;>omega)
def tyV(K:aJ)(T:String)(x:V)(H:Hp):Prop:=match x with
 | .str _=>T = "str"
 | .int _=>T = "int"
 | .ref p=>(T = "list"/\∃xs,SqL K H p xs)\/(T = "tuple"/\∃o,K.lookup p=some o/\o.cls=.type "tuple"/\o.dict=none) ∨
    (T = "dict"/\((∃kvs,H p=some (.dK kvs))\/∃kvs,H p=some (.dT kvs)))\/(T = "set"/\∃S n,H p=some (.set S n))
 |_=>False
theorem YN{aB:List (aA×Obj)}{σ : St}{H:Hp}{s:aC}{T:String}{x:V}{v:Value}(I:Inv X aB σ H s)(r:RelV x v)(ty:tyV X.K T x H) :
  s.TypeIs v T/\∀a,v=.ref a->∃ob,s.heap.get? a=some ob/\ob.dict=none:=by
 cases x with
 | str z =>
   obtain⟨t,rfl⟩:=r;cases(show T = "str" from ty);exact⟨typeIs_str s z t,fun _ e=>nomatch e⟩
 | int i =>
   obtain⟨t,rfl⟩:=r;cases(show T = "int" from ty);exact⟨typeIs_int s i t,fun _ e=>nomatch e⟩
 | ref p =>
   cases r;rcases ty with⟨rfl,xs,hq⟩ | ⟨rfl,o,hk,hc,hd⟩ | ⟨rfl,hk⟩ | ⟨rfl,S,n,hk⟩
   . obtain⟨its, _, pl, _⟩ := I.list hq;refine⟨pl.isList.typeIs,fun a e=>?_⟩;cases e;obtain⟨o,n,e,c,hd,_⟩:=pl;exact⟨o,e,hd⟩
   . refine⟨⟨o, I.kIn p o hk, hc⟩, fun a e => ?_⟩;cases e;exact⟨o,I.kIn _ o hk,hd⟩
   . have z:∃o,s.heap.get? p=some o/\o.ExactDict:=by
      rcases hk with⟨kvs,hk⟩ | ⟨kvs,hk⟩
      . obtain⟨_, _, _, _, o, _, _, e, ex, _⟩ := I.hok p _ hk;exact⟨o,e,ex⟩
      . obtain⟨_, _, _, _, o, _, _, e, ex, _⟩ := I.hok p _ hk;exact⟨o,e,ex⟩
     obtain⟨o,e,ex⟩:=z;refine⟨⟨o,e,ex.1⟩,fun a e2=>?_⟩;cases e2;exact⟨o,e,ex.2.1⟩
   . obtain⟨o, _, _, _, e, ex, _⟩ := I.hok p _ hk;refine⟨⟨o,e,ex.1⟩,fun a e2=>?_⟩;cases e2;exact⟨o,e,ex.2.1⟩
 |_=>exact False.elim ty
def tBM0(K:aJ)(T:String)(r:V->List V->Hp->VK->Prop)(to:TE):TE:=fun σ H Q=>to σ H fun x H1=>tyV K T x H1/\r x [] H1 Q
def tBM(K:aJ)(T:String)(r:V->List V->Hp->VK->Prop)(to:TE)(t:TA):TE:=fun σ H Q=>to σ H fun x H1=>tyV K T x H1/\t σ H1 fun xs H2=>r x xs H2 Q
variable{o e:Expr}{es:List Expr}{to:TE}{t:TA}{name:Str}{apos cpos:Pos}{T id:String}{r:V->List V->Hp->VK->Prop}
theorem pe_bm0(pa:PlainAttrs T)(slot:Slot T name id)(hty:typeOf (.builtin id)=pure (.type "method_descriptor"))(hm:MtR X id r)(ho:PE X o to)(hbase:cW o name X.env (bM o X.env)=bM o X.env:=by rfl)(hline:(apos.endLine==cpos.line)=true:=by rfl):PE X (.Call (.Attribute o name apos) [] [] cpos) (tBM0 X.K T r to):=by
 intro aB s σ H Q I h;refine rE hbase hline (thn (ho aB s σ H _ I h) fun v s1 zq=>?_);obtain⟨x,H1,I1,r1,ty,q1⟩:=zq;obtain⟨h1,h2⟩:=YN I1 r1 ty;exact⟨T,id,pa,slot,hty,h1,h2,Calls.callWith_builtin rfl (rM (hm aB s1 σ H1 x [] v [] Q I1 r1 .nil q1))⟩
theorem aAq(pa:PlainAttrs T)(slot:Slot T name id)(hty:typeOf (.builtin id)=pure (.type "method_descriptor"))(hm:MtR X id r)(ho:PE X o to)(ha:PA X (e::es) t)(hbase:cW o name X.env (bM o X.env)=bM o X.env:=by rfl)(hfew:((cN cpos (aF (e::es) X.env)).all (fun x=>!x.1)&&(fC cpos (dC [] X.env)).all (fun x=>x.1.isSome)
    && decide ((e::es).length+([]:List nQ).length+(if ([]:List nQ).isEmpty then 0 else 1)<30))=true:=by rfl)(hline:(apos.endLine==cpos.line)=true:=by rfl)(hs:aF (e::es) X.env=(false,bM e X.env)::aF es X.env:=by rfl)(hplain:(cN cpos (aF es X.env)).any (·.1)=false:=by rfl) :
  PE X (.Call (.Attribute o name apos) (e::es) [] cpos) (tBM X.K T r to t):=by
 intro aB s σ H Q I h;refine wpAny_Call_method_late hbase hfew hline rfl (thn (ho aB s σ H _ I h) fun v s1 zq=>?_);obtain⟨x,H1,I1,r1,ty,q1⟩:=zq;obtain⟨h1,h2⟩:=YN I1 r1 ty;refine⟨T,id,pa,slot,hty,h1,h2,?_⟩;have hA:=ha cpos aB s1 σ H1 _ I1 q1;rw[hs] at hA ⊢;refine Calls.callWith_builtin (by show(false||(cN cpos (aF es X.env)).any (·.1))=false;rw[hplain]<;>rfl) (Calls.evalArgs_plain ?_);exact thn hA fun us s2 ⟨vs,H2,I2,r2,q2⟩=>hm aB s2 σ H2 x vs v us Q I2 r1 r2 q2
/- xs.append(e),list.index on a module's tuple .. are MtR facts of 06m -/
end
def MtM(X:Cx)(id:String)(r:V->List V->Hp->VK->Prop):Prop :=
 ∀(aB:List (aA×Obj)) (s:aC) (σ : St) (H:Hp) (x:V) (xs:List V) (v:Value) (us:List Value) (Q:VK),Inv X aB σ H s->RelV x v->Vals xs us->r x xs H Q →
  bD (bH X.prog X.w) X.A (call (.builtin id) (v::us)) (EP X aB σ Q) X.xe s
theorem Vals.one:∀{x:V} {us:List Value},Vals [x] us->∃u,us=[u]/\RelV x u
 |_,_,.cons r .nil=>⟨_,rfl,r⟩
theorem Vals.zero:∀{us:List Value},Vals [] us->us=[]
 |_,.nil=>rfl
theorem Vals.dropLast{xs:List V}{us:List Value}(h:Vals xs us):Vals xs.dropLast us.dropLast:=by
 induction h with
 |nil=>exact .nil
 | cons r t ih =>
   cases t with
   |nil=>exact .nil
   |cons q t'=>exact .cons r ih
theorem Vals.reverse{xs:List V}{us:List Value}(h:Vals xs us):Vals xs.reverse us.reverse:=by
 induction h with
 |nil=>exact .nil
 |cons r t ih=>rw[nN,nN];exact Vals.append ih (.cons r .nil)
theorem QG{α : Type}(l:List α):l.eraseIdx (l.length-1)=l.dropLast:=by
 induction l with
 |nil=>rfl
 | cons a r ih =>
   cases r with
   |nil=>rfl
   | cons b r =>
     have e:(a::b::r).length-1=((b::r).length-1)+1:=by
      have h1:(a::b::r).length=r.length+2:=rfl;have h2:(b::r).length=r.length+1:=rfl;omega
     rw[e,List.eraseIdx_cons_succ,ih]
     all_goals rfl
section
variable{X:Cx}{aB:List (aA×Obj)}{σ : St}{H:Hp}{s:aC}{l b:aA}{xs ys zs:List V}
theorem Inv.lset{its its':List Value}{n:Nat}{f:Array Value->Array Value}{t':Nat}(I:Inv X aB σ H s)(hH:H l=some (.lst xs))(e:s.heap.get? l=some { cls:=.type "list",data:=.seq its.toArray n })(hf:f its.toArray=its'.toArray)(hv:Vals ys its')(hz:ys.length<=sizeLine) :
  Inv X aB σ (upd H l (.lst ys)) { s with heap:=s.heap.update l (Obj.mapSeq f),toks:=t' }:=by
 have q:=PySem.IsL.update e f;rw[hf] at q;refine I.write (x:=l) (e:=l) (by rw[hH];exact trivial) (.inl rfl) (fun b' u hb hu=>(dP s.heap (Obj.mapSeq f) (Ne.symm hb)).trans hu) ⟨_,q⟩ ?_;exact⟨hz,its',_,hv,q⟩
theorem Inv.lnew{its:List Value}{t':Nat}(I:Inv X aB σ H s)(hv:Vals ys its)(hz:ys.length<=sizeLine) :
  Inv X aB σ (upd H s.heap.objs.size (.lst ys)) { s with heap:=s.heap.push { cls:=.type "list",data:=.seq its.toArray },toks:=t' }:=
 I.laid (fun _ _ q=>aI _ q) (aR _) ⟨hz,its,0,hv,aW _ rfl⟩
theorem Inv.fresh(I:Inv X aB σ H s):H s.heap.objs.size=none:=I.hok.fresh (aR _)
theorem Inv.lstM(I:Inv X aB σ H s)(hH:H l=some (.lst xs)):xs.length<=sizeLine/\∃(its:List Value) (n:Nat),Vals xs its/\xs.length=its.length/\s.heap.get? l=some { cls:=.type "list",data:=.seq its.toArray n }:=by
 obtain⟨z,its,n,r,e⟩:=I.hok l _ hH;exact⟨z,its,n,r,r.length,e⟩
theorem aAx{n:Nat}(h:n<=sizeLine):Builtin.List.listTooLong n=false:=by
 unfold Builtin.List.listTooLong;exact decide_eq_false (by omega)
end
section
variable{X:Cx}
def rAppend:V->List V->Hp->VK->Prop:=fun x vs H Q=>∃l xs y,x=.ref l/\vs=[y]/\H l=some (.lst xs)/\xs.length<sizeLine/\Q .non (upd H l (.lst (xs++[y])))
theorem IA:MtM X "list.append" rAppend:=by
 intro aB s σ H x vs v us Q I rx rv h;obtain⟨l,xs,y,rfl,rfl,hH,hz,q⟩:=h;cases rx;obtain⟨u,rfl,ru⟩:=rv.one;obtain⟨z,its,n,r,hl,e⟩:=I.lstM hH;refine call_meets F.slot_list_append ⟨_,e,rfl⟩ F.entry_list_append (F.args_list_append_2 _ _) (PySem.list_append l its.toArray n u (by rw[bA];omega)) ⟨e,?_⟩;refine⟨.non,_,I.lset (its':=its++[u]) hH e (by simp) (r.append (.cons ru .nil)) ?_,rfl,q⟩;rw[bR,pJ];omega
def rExtend:V->List V->Hp->VK->Prop:=fun x vs H Q=>∃l b xs zs,x=.ref l/\vs=[.ref b]/\H l=some (.lst xs)/\H b=some (.lst zs)/\xs.length+zs.length<=sizeLine/\Q .non (upd H l (.lst (xs++zs)))
theorem VH:MtM X "list.extend" rExtend:=by
 intro aB s σ H x vs v us Q I rx rv h;obtain⟨l,b,xs,zs,rfl,rfl,hH,hB,hz,q⟩:=h;cases rx;obtain⟨u,rfl,ru⟩:=rv.one;cases ru;obtain⟨z,its,n,r,hl,e⟩:=I.lstM hH;obtain⟨z2,its2,n2,r2,hl2,e2⟩:=I.lstM hB;have hsz:its.toArray.size+its2.toArray.size<=sizeLine:=by rw[bA,bA];omega
 have hlong : ¬(!its.toArray.isEmpty&&Builtin.List.listTooLong (its.toArray.size+its2.toArray.size))=true:=by
  rw[aAx hsz,Bool.and_false];exact iD
 refine call_meets F.slot_list_extend ⟨_,e,rfl⟩ F.entry_list_extend (F.args_list_extend_2 _ _)
  (AutoSeq1.list_extend_list_list_0 l its.toArray n b its2.toArray n2 hlong (by rw[bA];omega) (by omega)) ⟨e,e2,?_⟩
 refine⟨.non,_,I.lset (its':=its++its2) hH e (by simp) (r.append r2) ?_,rfl,q⟩;rw[bR];omega
def rPop:V->List V->Hp->VK->Prop:=fun x vs H Q=>∃l xs y,x=.ref l/\vs=[]/\H l=some (.lst xs)/\xs[xs.length-1]?=some y/\Q y (upd H l (.lst xs.dropLast))
theorem mt_pop:MtM X "list.pop" rPop:=by
 intro aB s σ H x vs v us Q I rx rv h;obtain⟨l,xs,y,rfl,rfl,hH,hy,q⟩:=h;cases rx;have hus:=rv.zero;subst hus;obtain⟨z,its,n,r,hl,e⟩:=I.lstM hH;obtain⟨u,hu,ru⟩:=r.get hy
 have hy':its.toArray[its.toArray.size-1]?=some u:=by
  show its.toArray[its.length-1]?=some u;rw[<- kY,<- hl];exact hu
 refine call_meets F.slot_list_pop ⟨_,e,rfl⟩ F.entry_list_pop (F.args_list_pop_1 _) (MeetsSeq.list_pop_last l its.toArray n u hy' (by rw[bA];omega)) ⟨e,?_⟩;refine⟨y,_,I.lset (its':=its.dropLast) hH e ?_ r.dropLast ?_,ru,q⟩
 . show its.toArray.eraseIdxIfInBounds (its.toArray.size-1)=its.dropLast.toArray;rw[bA,List.eraseIdxIfInBounds_toArray,QG]
 . rw[List.length_dropLast];omega
end
section
variable{prog:aZ}{w:bK}{A:bO}{E:Value->aC->Prop}{s:aC}
end
section
variable{X:Cx}
end
section
variable{κ : Type}[DecidableEq κ]
noncomputable def valV(kvs:List (κ×V))(k : κ):Option V:=(kvs.find? fun kv=>decide (kv.1=k)).map (·.2)
noncomputable def putK(kvs:List (κ×V))(k : κ)(v:V):List (κ×V):=
 if (kvs.any fun kv=>decide (kv.1=k))=true then kvs.map (fun kv=>if kv.1=k then (kv.1,v) else kv) else kvs++[(k,v)]
noncomputable def dropK(kvs:List (κ×V))(k : κ):List (κ×V):=kvs.filter fun kv=>decide (kv.1≠k)
theorem vU{p : κ×V}{r:List (κ×V)}{k : κ}(e:p.1=k):valV (p::r) k=some p.2:=by simp[valV,eE,e]
theorem CJ{p : κ×V}{r:List (κ×V)}{k : κ}(e : ¬p.1=k):valV (p::r) k=valV r k:=by simp[valV,eE,e]
theorem CK(k : κ):∀kvs:List (κ×V),(kvs.any fun kv=>decide (kv.1=k))=(valV kvs k).isSome
 |[]=>rfl
 | p :: r => by
   rw[JA]
   by_cases e:p.1=k
   . simp only[vU e,decide_eq_true e,Bool.true_or,Option.isSome_some]
   . rw[CJ e,decide_eq_false e,Bool.false_or];exact CK k r
theorem AM(kvs:List (κ×V))(k : κ)(v:V):(putK kvs k v).length<=kvs.length+1:=by
 unfold putK
 split
 . rw[bU];omega
 . rw[bR,aK,fD];omega
theorem putK_new{kvs:List (κ×V)}{k : κ}(v:V)(h:valV kvs k=none):putK kvs k v=kvs++[(k,v)]:=by
 unfold putK;rw[CK,h];exact if_neg (by decide)
theorem RelO.isSome_eq{o:Option V}{u:Option Value}(r:RelO o u):o.isSome=u.isSome:=by
 cases o with
 | none => cases u with
   |none=>rfl
   |some _=>exact(show False from r).elim
 | some _ => cases u with
   |none=>exact(show False from r).elim
   |some _=>rfl
theorem RelO.getD{o:Option V}{u:Option Value}{d:V}{d':Value}(r:RelO o u)(rd:RelV d d'):RelV (o.getD d) (u.getD d'):=by
 cases o with
 | none => cases u with
   |none=>exact rd
   |some _=>exact(show False from r).elim
 | some _ => cases u with
   |none=>exact(show False from r).elim
   |some _=>exact r
theorem KV.val{kvs:List (κ×V)}{vs:List (κ×Value)}(r:KV kvs vs)(k : κ):RelO (valV kvs k) (EM vs k):=by
 unfold KV at r
 induction r with
 |nil=>exact True.intro
 | @cons p q ps qs h t ih =>
   obtain⟨h1,h2⟩:=h
   by_cases e:p.1=k
   . have e' : q.1 = k := h1.symm.trans e;have b:EM (q::qs) k=some q.2:=by simp [EM,eE,e']
     rw[vU e,b];exact h2
   . have e' : ¬ q.1 = k := fun z => e (h1.trans z);have b:EM (q::qs) k=EM qs k:=by simp [EM,eE,e']
     rw[CJ e,b];exact ih
theorem KV.any{kvs:List (κ×V)}{vs:List (κ×Value)}(r:KV kvs vs)(k : κ):(kvs.any fun kv=>decide (kv.1=k))=vs.any fun kv=>decide (kv.1=k):=by
 unfold KV at r
 induction r with
 |nil=>rfl
 |cons h t ih=>rw[JA,JA,ih,h.1]
theorem KV.repl{kvs:List (κ×V)}{vs:List (κ×Value)}(r:KV kvs vs)(k : κ){y:V}{u:Value}(ry:RelV y u) :
  KV (kvs.map fun kv=>if kv.1=k then (kv.1,y) else kv) (vs.map fun kv=>if kv.1=k then (kv.1,u) else kv):=by
 unfold KV at r ⊢
 induction r with
 |nil=>exact .nil
 | @cons p q ps qs h t ih =>
   rw[bE,bE];refine .cons ?_ ih;obtain⟨h1,h2⟩:=h
   by_cases e:p.1=k
   . rw[if_pos e,if_pos (h1.symm.trans e)];exact⟨h1,ry⟩
   . rw[if_neg e,if_neg (fun z=>e (h1.trans z))];exact⟨h1,h2⟩
theorem KV.put{kvs:List (κ×V)}{vs:List (κ×Value)}(r:KV kvs vs)(k : κ){y:V}{u:Value}(ry:RelV y u):KV (putK kvs k y) (stored vs k u):=by
 unfold putK stored;rw[r.any k]
 by_cases e:(vs.any fun kv=>decide (kv.1=k))=true
 . rw[if_pos e,if_pos e];exact r.repl k ry
 . rw[if_neg e,if_neg e];exact BL.snoc r ⟨rfl,ry⟩
theorem KV.drop{kvs:List (κ×V)}{vs:List (κ×Value)}(r:KV kvs vs)(k : κ):KV (dropK kvs k) (without vs k):=by
 unfold KV at r ⊢;unfold dropK without
 induction r with
 |nil=>exact .nil
 | @cons p q ps qs h t ih =>
   obtain⟨h1,h2⟩:=h;rw[YI,YI]
   by_cases e:p.1=k
   . have a : ¬ decide (p.1 ≠ k) = true := by simp [e]
     have b : ¬decide (q.1≠k)=true:=by simp[h1.symm.trans e]
     rw[if_neg a,if_neg b];exact ih
   . have e' : ¬ q.1 = k := fun z => e (h1.trans z);have a:decide (p.1≠k)=true:=by simp [e]
     have b:decide (q.1≠k)=true:=by simp[e']
     rw[if_pos a,if_pos b];exact .cons ⟨h1,h2⟩ ih
theorem KV.length{kvs:List (κ×V)}{vs:List (κ×Value)}(r:KV kvs vs):kvs.length=vs.length:=BL.length r
end
theorem SO{P:aZ}{w:bK}{k:Key}{u:Value}(r:RelV (kV k) u):(eM P w).is k u=true:=by
 cases k with
 |inl i=>obtain⟨t,e⟩:=(show ∃t,u=Value.int i t from r);subst e;exact MV P w i t
 |inr x=>obtain⟨t,e⟩:=(show ∃t,u=Value.str x t from r);subst e;exact MU P w x t
theorem IH{P:aZ}{w:bK}:∀{ks:List Key} {us:List Value},Vals (ks.map kV) us->ItemsAre (eM P w) ks us
 |[],_,r=>by rw[dO] at r;cases r;exact .nil
 | k :: ks, _, r => by
   rw[bE] at r;cases r with
   |cons h t=>exact .cons (SO h) (IH t)
abbrev KT(H:Hp):List (List Key×V)->List (List Key×aA×Value)->Prop:=BL fun p q=>p.1=q.1/\H q.2.1=some (.tup (p.1.map kV))/\RelV p.2 q.2.2
theorem KT.val{H:Hp}{kvs:List (List Key×V)}{xs:List (List Key×aA×Value)}(r:KT H kvs xs)(k:List Key):RelO (valV kvs k) ((NX xs k).map (·.2)):=by
 induction r with
 |nil=>exact True.intro
 | @cons p q ps qs h t ih =>
   obtain⟨h1,_,h2⟩:=h
   by_cases e:p.1=k
   . have e' : q.1 = k := h1.symm.trans e;have b:NX (q::qs) k=some q.2:=by simp [NX,eE,e']
     rw[vU e,b];exact h2
   . have e' : ¬ q.1 = k := fun z => e (h1.trans z);have b:NX (q::qs) k=NX qs k:=by simp [NX,eE,e']
     rw[CJ e,b];exact ih
theorem KT.repl{H:Hp}{kvs:List (List Key×V)}{xs:List (List Key×aA×Value)}(r:KT H kvs xs)(k:List Key){y:V}{u:Value}(ry:RelV y u) :
  KT H (kvs.map fun kv=>if kv.1=k then (kv.1,y) else kv) (xs.map (putAt k u)):=by
 induction r with
 |nil=>exact .nil
 | @cons p q ps qs h t ih =>
   rw[bE,bE];refine .cons ?_ ih;obtain⟨h1,h2,h3⟩:=h;unfold putAt
   by_cases e:p.1=k
   . rw[if_pos e,if_pos (h1.symm.trans e)];exact⟨h1,h2,ry⟩
   . rw[if_neg e,if_neg (fun z=>e (h1.trans z))];exact⟨h1,h2,h3⟩
theorem KT.put{H:Hp}{kvs:List (List Key×V)}{xs:List (List Key×aA×Value)}(r:KT H kvs xs)(k:List Key){b:aA}{y:V}{u:Value}(hb:H b=some (.tup (k.map kV)))(ry:RelV y u) :
  KT H (putK kvs k y) (storedH xs k b u):=by
 have e:(kvs.any fun kv=>decide (kv.1=k))=(NX xs k).isSome:=by
  rw[CK,(r.val k).isSome_eq,QT]
 unfold putK storedH;rw[e]
 by_cases q:(NX xs k).isSome=true
 . rw[if_pos q,if_pos q];exact r.repl k ry
 . rw[if_neg q,if_neg q];exact BL.snoc r ⟨rfl,hb,ry⟩
theorem KT.keeps{H H':Hp}{kvs:List (List Key×V)}{xs:List (List Key×aA×Value)}(r:KT H kvs xs)(ht:∀b ys,H b=some (.tup ys)->H' b=some (.tup ys)):KT H' kvs xs :=
 BL.mapP r fun _ _ z=>⟨z.1,ht _ _ z.2.1,z.2.2⟩
section
variable{P:aZ}{w:bK}{H:Hp}{h:Heap}{a:aA}
theorem rd_of{u:HO}(ok:HOk P w H h)(e:Rd H a u):ObjOk P w H h a u:=e.ok ok
theorem IN{kvs:List (Key×V)}(ok:HOk P w H h)(e:Rd H a (.dK kvs)):kvs.length<=sizeLine/\(a==gU)=false/\∃vs,KV kvs vs/\h.DictOf (eM P w) a vs :=
 show ObjOk P w H h a (.dK kvs) from rd_of ok e
theorem dk_of{kvs:List (Key×V)}(ok:HOk P w H h)(e:H a=some (.dK kvs)):kvs.length<=sizeLine/\(a==gU)=false/\∃vs,KV kvs vs/\h.DictOf (eM P w) a vs:=IN ok (.inl e)
theorem JZ{ks:List Key}(ok:HOk P w H h)(e:H a=some (.tup (ks.map kV))):(GO (eM P w)).is h ks a:=by
 obtain⟨_,its,r,o,h1,h2,n,h3⟩:=(show ObjOk P w H h a (.tup (ks.map kV)) from ok a _ e)
 exact⟨o,its.toArray,n,h1,h2,h3,by simpa using IH r⟩
theorem TJ{kvs:List (List Key×V)}(ok:HOk P w H h)(e:Rd H a (.dT kvs)):kvs.length<=sizeLine/\(a==gU)=false ∧
  ∃xs,KT H kvs xs/\h.DictOfH (GO (eM P w)) a xs:=by
 obtain⟨z,y,xs,r,o,es,ep,h1,h2,h3,h4,h5⟩:=(show ObjOk P w H h a (.dT kvs) from rd_of ok e)
 refine⟨z,y,xs,r,o,es,ep,h1,h2,h3,h4,fun x hx=>?_,h5⟩
 have all:∀{l:List (List Key×V)} {m:List (List Key×aA×Value)},KT H l m->∀x∈m,(GO (eM P w)).is h x.1 x.2.1:=by
  intro l m q
  induction q with
  |nil=>intro x hx;exact nomatch hx
  | @cons p q ps qs hq t ih =>
    intro x hx;rcases aE.mp hx with e | hx
    . subst e;exact JZ ok (by rw[<- hq.1];exact hq.2.1)
    . exact ih x hx
 exact all r x hx
theorem dt_of{kvs:List (List Key×V)}(ok:HOk P w H h)(e:H a=some (.dT kvs)):kvs.length<=sizeLine/\(a==gU)=false ∧
  ∃xs,KT H kvs xs/\h.DictOfH (GO (eM P w)) a xs:=TJ ok (.inl e)
end
def DGet(H:Hp)(a:aA)(y:V)(r:Option V):Prop :=
 (∃kvs k,Rd H a (.dK kvs)/\y=kV k/\r=valV kvs k)\/∃kvs k b,Rd H a (.dT kvs)/\y=.ref b/\H b=some (.tup (k.map kV))/\r=valV kvs k
def DPut(H:Hp)(a:aA)(y v:V)(H':Hp):Prop :=
 (∃kvs k,H a=some (.dK kvs)/\y=kV k/\kvs.length<sizeLine/\H'=upd H a (.dK (putK kvs k v))) ∨
 ∃kvs k b,H a=some (.dT kvs)/\y=.ref b/\H b=some (.tup (k.map kV))/\kvs.length<sizeLine/\H'=upd H a (.dT (putK kvs k v))
theorem DGet.t{H:Hp}{a b:aA}{kvs:List (List Key×V)}{k:List Key}(e:H a=some (.dT kvs))(eb:H b=some (.tup (k.map kV))):DGet H a (.ref b) (valV kvs k):=.inr ⟨kvs,k,b,.inl e,rfl,eb,rfl⟩
theorem DPut.k{H:Hp}{a:aA}{kvs:List (Key×V)}{k:Key}{v:V}(e:H a=some (.dK kvs))(hl:kvs.length<sizeLine):DPut H a (kV k) v (upd H a (.dK (putK kvs k v))):=.inl ⟨kvs,k,e,rfl,hl,rfl⟩
theorem DPut.t{H:Hp}{a b:aA}{kvs:List (List Key×V)}{k:List Key}{v:V}(e:H a=some (.dT kvs))(eb:H b=some (.tup (k.map kV)))(hl:kvs.length<sizeLine) :
  DPut H a (.ref b) v (upd H a (.dT (putK kvs k v))):=.inr ⟨kvs,k,b,e,rfl,eb,hl,rfl⟩
section
variable{X:Cx}{aB:List (aA×Obj)}{σ : St}{H:Hp}{s:aC}{a:aA}{y v:V}{u r:Value}{o:Option V}{A:bO}{E:Value->aC->Prop}
theorem Inv.big(I:Inv X aB σ H s):gU<s.heap.objs.size:=by
 have h:aM<s.heap.objs.size:=(I.mod.glob.keeps I.bk).lt;exact Nat.lt_trans (by decide) h
theorem WP{Q:Value->aC->Prop}(hu:A.units+1<cLine)(I:Inv X aB σ H s)(g:DGet H a y (some v))(ry:RelV y u)(h:∀w' s',Inv X aB σ H s'->RelV v w'->Q w' s') :
  bD (bH X.prog X.w) A (EN (.ref a) u) Q E s:=by
 rcases g with⟨kvs,k,e,ey,l⟩ | ⟨kvs,k,b,e,ey,eb,l⟩
 . subst ey;obtain⟨z,hd,vs,rel,dd⟩:=IN I.hok e;obtain⟨w',hw,rw'⟩:=RelO.some_of (v:=v) (o:=EM vs k) (by rw[l];exact rel.val k);exact wpAny_getItem_of (SO ry) dd.mapOf hw (h w' _ (I.tok _) rw')
 . subst ey;cases(show u=Value.ref b from ry);obtain⟨z,hd,xs,rel,dd⟩:=TJ I.hok e;obtain⟨w',hw,rw'⟩:=RelO.some_of (v:=v) (o:=(NX xs k).map (·.2)) (by rw[l];exact rel.val k);obtain⟨p,hp,hp2⟩:=eG.mp hw;refine wpAny_getItem_heap (BD hu) (JZ I.hok eb) dd hp ?_;rw[hp2];exact h w' _ (I.tok _) rw'
theorem d_notIn{Q:Value->aC->Prop}(hu:A.units+1<cLine)(I:Inv X aB σ H s)(g:DGet H a y o)(ry:RelV y u)(h:∀s',Inv X aB σ H s'->Q (.bool (!o.isSome)) s') :
  bD (bH X.prog X.w) A (eQ .NotIn u (.ref a)) Q E s:=by
 rcases g with⟨kvs,k,e,ey,l⟩ | ⟨kvs,k,b,e,ey,eb,l⟩
 . subst ey;obtain⟨z,hd,vs,rel,dd⟩:=IN I.hok e;refine wpAny_notIn_of (SO ry) hd dd.mapOf ?_;rw[<- (rel.val k).isSome_eq,<- l];exact h _ (I.tok _)
 . subst ey;cases(show u=Value.ref b from ry);obtain⟨z,hd,xs,rel,dd⟩:=TJ I.hok e;refine wpAny_notIn_heap (BD hu) (JZ I.hok eb) hd dd ?_;have q:=(rel.val k).isSome_eq;rw[QT] at q;rw[<- q,<- l];exact h _ (I.tok _)
theorem KZ{h':Heap}{t':Nat}{ob:HO}(I:Inv X aB σ H s)(mu:Mut (H a))(hs:Heap.SameBut a s.heap h')(he:∃q,h'.get? a=some q)(new:ObjOk X.prog X.w (upd H a ob) h' a ob) :
  Inv X aB σ (upd H a ob) { s with heap:=h',toks:=t' }:=
 I.write (x:=a) (e:=a) mu (.inl rfl) (fun b q hb z=>(hs.2 b hb).trans z) he new
theorem aCh{P:aZ}{w:bK}{H':Hp}{h':Heap}{kvs:List (Key×V)}{vs:List (Key×Value)}(z:kvs.length<=sizeLine)(hd:(a==gU)=false)(rel:KV kvs vs)(dd:h'.DictOf (eM P w) a vs) :
  ObjOk P w H' h' a (.dK kvs):=⟨z,hd,vs,rel,dd⟩
theorem WO{H':Hp}{Q:Unit->aC->Prop}(hu:A.units+1<cLine)(I:Inv X aB σ H s)(g:DPut H a y v H')(ry:RelV y u)(rv:RelV v r)(h:∀s',Inv X aB σ H' s'->Q () s') :
  bD (bH X.prog X.w) A (setItem (.ref a) u r) Q E s:=by
 rcases g with⟨kvs,k,e,ey,l,eH⟩ | ⟨kvs,k,b,e,ey,eb,l,eH⟩
 . subst ey eH;obtain ⟨z,hd,vs,rel,dd⟩:=dk_of I.hok e;have hz:vs.length<=sizeLine:=by rw [<- rel.length]; exact z
   have hl:(putK kvs k v).length<=sizeLine:=by have:=AM kvs k v;omega
   refine wpAny_setItem_pairs (hsz:=hz) (SO ry) dd fun h' dd' hs=>h _ ?_;have he:∃q,h'.get? a=some q:=let ⟨q,_,_,hq,_⟩:=dd';⟨q,hq⟩;exact KZ I (by rw[e];exact True.intro) hs he (aCh hl hd (rel.put k rv) dd')
 . subst ey eH;cases (show u=Value.ref b from ry);obtain ⟨z,hd,xs,rel,dd⟩:=dt_of I.hok e;have hz:xs.length<=sizeLine:=by rw [<- BL.length rel]; exact z
   have hl:(putK kvs k v).length<=sizeLine:=by have:=AM kvs k v;omega
   refine wpAny_setItem_heap (hsz:=hz) (BD hu) (JZ I.hok eb) dd fun h' dd' hs=>h _ ?_;obtain⟨q,es,ep,hq,h2,h3,h4,_,h5⟩:=dd';refine KZ I (by rw[e];exact True.intro) hs ⟨q,hq⟩ ⟨hl,hd,_,(rel.put k eb rv).keeps fun c ys ec=>?_,q,es,ep,hq,h2,h3,h4,h5⟩;rw[upd_ne (ne_of ec e (fun z=>nomatch z))];exact ec
end
section
variable{X:Cx}{aB:List (aA×Obj)}{σ : St}{H:Hp}{s:aC}{a:aA}{kvs:List (Key×V)}{k:Key}{u:Value}{A:bO}{E:Value->aC->Prop}
end
def NoSl(i:Expr):Prop:=∀ov iv,IZ i false ov iv=operate [ov,iv] (EN ov iv)
theorem subD_of{prog:aZ}{w:bK}{A:bO}{E:Value->aC->Prop}{s:aC}{env:Env}{value slice:Expr}{pos:Pos}{T id:String}{Q:Value->aC->Prop}(hl:NV (.type T) "__getitem__" = pure (some (.builtin id)))(hs:NoSl slice)(h:bD (bH prog w) A (bM value env) (fun o s₁=>bD (bH prog w) A (bM slice env) (fun i s₂=>s₂.TypeIs o T/\bD (bH prog w) A (EN o i) Q E s₂) E s₁) E s) :
  bD (bH prog w) A (bM (.Subscript value slice pos) env) Q E s:=by
 refine Subscript_ (dI h (fun o s₁ h₁=>dI h₁ (fun i s₂ h₂=>?_) fun _ _ x=>x) fun _ _ x=>x);obtain⟨hT,h₂⟩:=h₂;unfold QR;refine bB ?_;rw[getitemInPython_of_ne hT.not_modules];refine bB (LL hT hl ?_)
 have fin:bD (bH prog w) A (IZ slice false o i) (fun r s₃=>bD (bH prog w) A (letTemporaryGo value o r >>= fun _=>pure r) Q E s₃) E s₂:=by
  rw[hs o i];exact wpAny_operating (dI h₂ (fun r s₃ h₃=>bB (wpAny_letTemporaryGo (cF h₃))) fun _ _ x=>x)
 first
  |exact cF (bB fin)
  |exact bB (cF (bB fin))
  |exact bB fin
theorem NO{X:Cx}{aB:List (aA×Obj)}{σ : St}{H:Hp}{s:aC}{a:aA}{y:V}{o:Option V}(I:Inv X aB σ H s)(g:DGet H a y o):s.TypeIs (.ref a) "dict":=by
 rcases g with⟨kvs,k,e,_,_⟩ | ⟨kvs,k,b,e,_,_,_⟩
 . obtain⟨_, _, vs, _, dd⟩ := IN I.hok e;exact dd.typeIs
 . obtain⟨_, _, xs, _, dd⟩ := TJ I.hok e;exact dd.typeIs
def tDGet(td ty:TE):TE:=fun σ H Q=>td σ H fun x H1=>ty σ H1 fun y H2=>∃a v,x=.ref a/\DGet H2 a y (some v)/\Q v H2
def tDNotIn(ty td:TE):TE:=fun σ H Q=>ty σ H fun y H1=>td σ H1 fun x H2=>∃a o,x=.ref a/\DGet H2 a y o/\Q (.bl (!o.isSome)) H2
def sDPut(td ty tv:TE):TS:=fun D σ H=>tv σ H fun v H1=>td σ H1 fun x H2=>ty σ H2 fun y H3=>∃a H4,x=.ref a/\DPut H3 a y v H4/\D.nx σ H4
section
variable{X:Cx}{o i e value:Expr}{pos pos' tpos:Pos}{td ty tv:TE}
theorem pe_dget(hu:X.A.units+1<cLine)(ho:PE X o td)(hi:PE X i ty)(hs:NoSl i):PE X (.Subscript o i pos) (tDGet td ty):=by
 intro aB s σ H Q I h;refine subD_of PySem.F.slot_dict_getitem.lookup hs (thn (ho aB s σ H _ I h) fun u s1 ⟨x,H1,I1,rx,q1⟩=>thn (hi aB s1 σ H1 _ I1 q1) fun iv s2 zq=>?_);obtain⟨y,H2,I2,ry,a,v,ex,g,q2⟩:=zq;subst ex;obtain rfl:u=Value.ref a:=rx;exact⟨NO I2 g,WP hu I2 g ry fun w' s3 I3 rw'=>⟨v,H2,I3,rw',q2⟩⟩
theorem UW(hu:X.A.units+1<cLine)(hi:PE X i ty)(ho:PE X o td):PC X .NotIn i o (tDNotIn ty td):=by
 intro aB s σ H Q I h;refine thn (hi aB s σ H _ I h) fun iv s1 ⟨y,H1,I1,ry,q1⟩=>thn (ho aB s1 σ H1 _ I1 q1) fun u s2 zq=>?_;obtain⟨x,H2,I2,rx,a,ov,ex,g,q2⟩:=zq;subst ex;obtain rfl:u=Value.ref a:=rx;exact d_notIn hu I2 g ry fun s3 I3=>⟨.bl (!ov.isSome),H2,I3,rfl,q2⟩
theorem ps_dput(hu:X.A.units+1<cLine)(ho:PE X o td)(hi:PE X i ty)(hv:PE X value tv)(hs:cV value (some (.Subscript o i pos')) pos.line X.env=pure false) :
  PS X (.Assign [.Subscript o i pos'] value pos) (sDPut td ty tv):=by
 intro aB s σ H D I h;refine wpAny_Assign_Subscript (thn (hv aB s σ H _ I h) fun r s1 ⟨v,H1,I1,rv,q1⟩=>thn (ho aB s1 σ H1 _ I1 q1) fun u s2 ⟨x,H2,I2,rx,q2⟩=>thn (hi aB s2 σ H2 _ I2 q2) fun iv s3 zq=>?_) hs;obtain⟨y,H3,I3,ry,a,H4,ex,g,q3⟩:=zq;subst ex;obtain rfl:u=Value.ref a:=rx;exact WO hu I3 g ry rv fun s4 I4=>⟨σ,H4,I4,q3⟩
end
theorem aCi{P:aZ}{w:bK}{H:Hp}(h:Heap)(hb:gU<h.objs.size):ObjOk P w H (h.push { cls:=.type "dict",data:=.dict #[] }) h.objs.size (.dK []):=
 ⟨dA _,beq_eq_false_iff_ne.mpr (Ne.symm (bN hb)),[],.nil,Heap.DictOf.new h⟩
def tDNewK:TE:=fun _ H Q=>∀p,H p=none->Q (.ref p) (upd H p (.dK []))
section
variable{X:Cx}{pos:Pos}
theorem ML:PE X (.Dict [] [] pos) tDNewK:=fun aB s σ H Q I h =>
 wpAny_Dict_empty ⟨.ref s.heap.objs.size,_,I.laid (a:=s.heap.objs.size) (o:=.dK []) (t':=s.toks) (fun _ _ q=>aI _ q) (aR _) (aCi s.heap I.big),rfl,h _ (I.hok.fresh (aR _))⟩
end
abbrev VV:List (V×V)->List (Value×Value)->Prop:=BL fun p q=>RelV p.1 q.1/\RelV p.2 q.2
structure M2(X:Cx)(o:Expr)(m:Str)(apos:Pos)(e f:Expr)(cpos:Pos):Prop where
 base:cW o m X.env (bM o X.env)=bM o X.env
 few:((cN cpos (aF [e,f] X.env)).all (fun x=>!x.1)&&(fC cpos (dC [] X.env)).all (fun x=>x.1.isSome)
  && decide (([e,f]:List Expr).length+([]:List nQ).length+(if ([]:List nQ).isEmpty then 0 else 1)<30))=true
 line:(apos.endLine==cpos.line)=true
 trees:cN cpos (aF [e,f] X.env)=[(false,bM e X.env),(false,bM f X.env)]
section
variable{X:Cx}{aB:List (aA×Obj)}{σ : St}{H:Hp}{s:aC}{a:aA}{y d:V}{u r:Value}{o:Option V}{A:bO}{E:Value->aC->Prop}
end
section
variable{X:Cx}{o e f:Expr}{apos cpos:Pos}{td ty tx:TE}
end
section
variable{X:Cx}{aB:List (aA×Obj)}{σ : St}{H:Hp}{s:aC}{a:aA}{kvs:List (Key×V)}{A:bO}{E:Value->aC->Prop}
theorem aCj{Q:Value->aC->Prop}(I:Inv X aB σ H s)(e:Rd H a (.dK kvs))(h:∀p s',H p=none->Inv X aB σ (upd H p (.dK kvs)) s'->Q (.ref p) s'):bD (bH X.prog X.w) A (call (.type "dict") [.ref a]) Q E s:=by
 obtain⟨z,hd,vs,rel,dd⟩:=IN I.hok e;refine kt_call_dict hd dd (by rw[<- rel.length];exact z) fun h' dd' hs=>?_;refine h _ _ (I.hok.fresh (aR _)) (I.laid (a:=s.heap.objs.size) (o:=.dK kvs) (t':=s.toks) (fun b q hq=>?_) (aR _) (aCh z (beq_eq_false_iff_ne.mpr (Ne.symm (bN I.big))) rel dd'));exact(hs.2 b (bN (bC hq))).trans (aI _ hq)
end
section
variable{X:Cx}{aB:List (aA×Obj)}{σ : St}{H:Hp}{s:aC}{a:aA}{y:V}{u:Value}{A:bO}{E:Value->aC->Prop}
end
end L2
namespace Att
open PySem PySem.W PySem.Calls PyProof.Rows
theorem AR{P:Params}{h:Heap}:∀(ns:List Int) (vs:List Value),WellAll P h vs (ns.map WData.int)->XG vs ns:=by
 intro ns
 induction ns with
 | nil =>
   intro vs w;rw[dO] at w;cases w;exact .nil
 | cons n ns ih =>
   intro vs w;rw[bE] at w;cases w with
   | cons a b =>
     cases a;exact .cons _ _ (ih _ b)
theorem UM{l:OpenLaw}{n:Nat}(hn:l.most=some n){P:Params}{h:Heap}{args:List WData}{vals:List Value}(hpre:l.row.toRowW.claim.pre args=true)(hwl:WellAll P h vals args) :
  ∃a vs ns,vals=[Value.ref a]/\args=[WData.list (ns.map WData.int)]/\h.get? a=some { cls:=.type "list",data:=.seq vs.toArray }/\XG vs ns/\ns.length<=n:=by
 have hsh:WShape.hasAll [] args [.list .int]=true:=(pre_splitW hpre).1;have hc:l.pre.holds [] { args:=args }=true:=(pre_splitW hpre).2;obtain⟨d,r,rfl,h1,h2⟩:=hasAllW_cons hsh;obtain rfl:=hasAllW_nil h2;obtain⟨xs,rfl,h3⟩:=hasW_list h1;obtain⟨ns,rfl⟩:=items_int h3
 have hlen:ns.length<=n:=by
  unfold OpenLaw.pre at hc
  have h4:(WTm.not (.lt (.lit (.int (n:Int))) (.len (.arg 0)))).holds [] { args:=[.list (ns.map .int)] }=true:=by
   have h4:=(holds_andW hc).1;rw[hn] at h4;exact h4
  have h5:=condW_of h4 (w_not (w_lt w_lit (w_len_list (w_arg rfl))));rw[bU] at h5;refine Nat.le_of_not_lt fun q=>?_;have q':(n:Int)<((ns.length:Nat):Int):=by omega
  first
   |(rw[decide_eq_true q'] at h5;exact absurd h5 (by decide))
   |(simp at h5;omega)
 cases hwl with
 | cons w1 w2 =>
   cases w2;cases w1 with
   |list ho hall=>exact⟨_,_,ns,rfl,rfl,ho,AR ns _ hall,hlen⟩
theorem UT(l:OpenLaw)(args:List WData):l.row.toRowW.claim.post args (.bool true) args=true :=
 postW_of (r:=l.row.toRowW) (X:=(true==true))
  (show WShape.has [] (.bool true) .bool=true by first | rfl | decide | simp[WShape.has,WShape.arms,WShape.armsAll])
  (show(WTm.eq .res (.lit (.bool true))).value [] { args:=args,res:=some (.bool true),after:=args }=some (.bool (true==true)) from w_eq_bool (w_res rfl) w_lit) rfl
section
variable{prog:aZ}{w:bK}{A:bO}{E:Value->aC->Prop}{s:aC}{K:Frag}
end
end Att
namespace L2
open PySem PySem.Spec PyProof.Rows
theorem GV:∀{vs:List Value} {ns:List Int},XG vs ns->Vals (ns.map V.int) vs
 |_,_,.nil=>.nil
 |_,_,.cons n t h=>.cons ⟨t,rfl⟩ (GV h)
noncomputable def aL(s:Stmt)(j:Nat):Stmt:=match s with
 | .ClassDef _ _ _ body _ _ _ _ _ _ _=>body.getD j (.Pass ⟨0,0,0,0⟩)
 |_=>.Pass ⟨0,0,0,0⟩
noncomputable def jU(s:Stmt):Arguments:=match s with
 | .FunctionDef _ a _ _ _ _ _ _ _ _=>a
 |_=>{ posonlyargs:=[],args:=[],vararg:=none,kwonlyargs:=[],kw_defaults:=[],kwarg:=none,defaults:=[] }
noncomputable def qT(s:Stmt):List Stmt:=match s with
 | .FunctionDef _ _ b _ _ _ _ _ _ _=>b
 |_=>[]
noncomputable def zH(s:Stmt):Scope:=match s with
 | .FunctionDef _ _ _ _ _ _ sc _ _ _=>sc
 |_=>{ kind:=.function,names:=[],isGenerator:=false,isCoroutine:=false }
abbrev CX0:CXT:=fun _ _ _ _ _ _=>False
abbrev E0:XK:=fun _ _ _=>False
theorem pass0{X:Cx}: uW CX0 X E0:=fun _ _ _ _ _ _ _ h=>h.elim
structure Fun(K:aJ)(x qual:Str)(st:Stmt)(f:aA)(fd:aH):Prop where
 ex:∃(oc:Value) (od:Option aA) (kV doc pm:Value) (an:Option aA) (cdv ct:Value) (osl:Array (Option Value)),
  fd=cT x qual (jU st) (qT st) (zH st) .none kV doc pm an cdv ct/\K.lookup f=some ⟨oc,od,.func fd,osl⟩/\eR K cdv qual=true
 kp:bF K (.ref f)=true
section
variable{P:aZ}{w:bK}{K:aJ}{mg:Str->Option Value}{base:Heap}
theorem Fun.ok{x qual:Str}{st:Stmt}{f:aA}{fd:aH}{N ps:List Str}{k:Nat}{sp:Sp}(F:Fun K x qual st f fd)(S:FnScope N ps (zH st))(len:∀vs H Q E,sp vs H Q E->vs.length=ps.length)(hbody:∀(cdv:Value) (A:bO) (outer:List Env) (s:aC) (H:Hp) (vs:List V) (Q:VK) (E:XK),Room k (A.deeper (gD qual (zH st) s.heap.objs.size f cdv))->sp vs H Q E →
    ∃t,PSs (cxOf CX0 P w K mg base N qual (zH st) f cdv A outer s H E).nox (qT st) t/\t { nx:=fun _ H'=>Q .non H',rt:=Q } (start N vs) H):FnOk P w K mg base CX0 (k+1) f fd ps sp:=by
 obtain⟨oc,od,kV,doc,pm,an,cdv,ct,osl,rfl,lk,hcd⟩:=F.ex;refine aBw lk hcd S len fun A outer s H vs Q E hr hsp=>?_;obtain⟨t,h,q⟩:=hbody cdv A outer s H vs Q E hr hsp;exact⟨t,h.nox,q⟩
theorem Fun.binds{x qual:Str}{st:Stmt}{f:aA}{fd:aH}{ps:List Str}(F:Fun K x qual st f fd)(h:∀(kV doc pm:Value) (an:Option aA) (cdv ct:Value) (us:List Value),us.length=ps.length->tZ (cT x qual (jU st) (qT st) (zH st) .none kV doc pm an cdv ct) ⟨us,[]⟩=pure (ps.zip us)):Binds K fd ps []:=by
 obtain⟨oc,od,kV,doc,pm,an,cdv,ct,osl,rfl,lk,hcd⟩:=F.ex;exact .all (h kV doc pm an cdv ct)
theorem QB{x qual:Str}{st:Stmt}{f:aA}{oc:Value}{od an:Option aA}{osl:Array (Option Value)}{kV doc pm cdv ct:Value}(l:K.lookup f=some ⟨oc,od,.func (cT x qual (jU st) (qT st) (zH st) .none kV doc pm an cdv ct),osl⟩)(c:eR K cdv qual=true)(k:bF K (.ref f)=true):Fun K x qual st f (cT x qual (jU st) (qT st) (zH st) .none kV doc pm an cdv ct):=⟨⟨oc,od,kV,doc,pm,an,cdv,ct,osl,rfl,l,c⟩,k⟩
end
section
variable{X:Cx}
end
theorem iteF{A B:Prop}(h:B):if false=true then A else B:=by
 rw[if_neg iD];exact h
theorem iteT{A B:Prop}(h:A):if true=true then A else B:=by
 rw[if_pos rfl];exact h
def Same(H H':Hp):Prop:=∀b o,H b=some o->H' b=some o
theorem Same.refl(H:Hp):Same H H:=fun _ _ h=>h
theorem Same.trans{H H1 H2:Hp}(a:Same H H1)(b:Same H1 H2):Same H H2:=fun c o h=>b c o (a c o h)
theorem Same.free{H H':Hp}(e:Same H H'){l:aA}(h:H' l=Option.none):H l=Option.none:=by
 cases q:H l with
 |none=>rfl
 | some o =>
   rw[e l o q] at h;cases h
theorem Same.seq{K:aJ}{H H':Hp}{a:aA}{xs:List V}(e:Same H H')(h:SqL K H a xs):SqL K H' a xs:=by
 rcases h with(h | ⟨o,h⟩) | h
 . exact .inl (.inl (e _ _ h))
 . exact .inl (.inr ⟨o,e _ _ h⟩)
 . exact .inr h
section
variable{X:Cx}
end
section
variable{κ : Type}[DecidableEq κ]
end
noncomputable def vI(env:Env):List (Str×iP)->List (Str×aA)->List (Str×aA)
 |[],cs=>cs
 |(n,k)::r,cs=>vI env r (if k==iP.free then (match env.cells.lookup n with | some c=>(n,c)::cs | none=>cs) else cs)
theorem sC{scope:Scope}{env:Env}(h:∀y∈scope.names,y.2=iP.free->∃c,env.cells.lookup y.1=some c):closureFor scope env=pure (vI env scope.names []):=by
 simp only[closureFor];generalize ([]:List (Str×aA))=cs
 revert h cs
 generalize scope.names=l;intro h
 induction l with
 |nil=>intro cs;rfl
 | cons y r ih =>
   intro cs;obtain⟨n,k⟩:=y;have ihr:=ih fun z hz=>h z (aN _ hz);simp only[List.forIn_cons,vI]
   by_cases hk:k=iP.free
   . obtain ⟨c, hc⟩ := h (n, k) aV hk;have hc':env.cells.lookup n=some c:=hc;have hcell:cellOf env n=pure c:=by unfold cellOf; rw [hc']
     subst hk;simp only[hcell,hc',beq_self_eq_true,if_true,pure_bind,bind_pure_comp,map_pure,bind_assoc]
     first
      |exact ihr _
      |simpa using ihr _
   . have hb : (k == iP.free) = false := by simpa using hk
     simp only[hb,UE,if_false,pure_bind]
     first
      |exact ihr _
      |simpa using ihr _
theorem EL{env:Env}:∀(l:List (Str×iP)) (cs:List (Str×aA)),(∀x c,cs.lookup x=some c->env.cells.lookup x=some c)->∀x c,(vI env l cs).lookup x=some c->env.cells.lookup x=some c
 |[],_,h=>h
 | (n, k) :: r, cs, h => by
   unfold vI;refine EL r _ fun x c e=>?_
   split at e
   . cases hc : env.cells.lookup n with
     |none=>rw[hc] at e;exact h x c e
     | some c' =>
       rw[hc] at e;simp only[bZ] at e
       by_cases hx:x==n
       . rw[hx] at e;cases e;rw[beq_iff_eq] at hx;rw[hx];exact hc
       . have hx' : (x == n) = false := by simpa using hx
         rw[hx'] at e;exact h x c e
   . exact h x c e
theorem EK{env:Env}:∀(l:List (Str×iP)) (cs:List (Str×aA)) (x:Str),(∃c,cs.lookup x=some c)->∃c,(vI env l cs).lookup x=some c
 |[],_,_,h=>h
 | (n, k) :: r, cs, x, h => by
   unfold vI;refine EK r _ x ?_
   split
   . cases hc : env.cells.lookup n with
     |none=>exact h
     | some c' =>
       simp only[bZ]
       by_cases hx:x==n
       . rw[hx];exact⟨_,rfl⟩
       . have hx' : (x == n) = false := by simpa using hx
         rw[hx'];exact h
   . exact h
theorem kC{env:Env}:∀(l:List (Str×iP)) (cs:List (Str×aA)) (x:Str) (c:aA),(x,iP.free)∈l->env.cells.lookup x=some c->∃c,(vI env l cs).lookup x=some c
 |[],_,_,_,h,_=>nomatch h
 | (n, k) :: r, cs, x, c, h, hc => by
   unfold vI;rcases aE.mp h with e | e
   . cases e;refine EK r _ _ ?_;simp only[beq_self_eq_true,if_true,hc,bZ];exact⟨_,rfl⟩
   . exact kC r _ x c e hc
theorem lZ{env:Env}:∀{names:List (Str×iP)} {x:Str},names.lookup x=some iP.free →
  (names.map fun(n,k)=>if (k==iP.free&&env.scope.kind==.function&&env.kindOf n==some .cell) then (n,iP.cell) else (n,k)).lookup x=some iP.cell ∨
  (names.map fun(n,k)=>if (k==iP.free&&env.scope.kind==.function&&env.kindOf n==some .cell) then (n,iP.cell) else (n,k)).lookup x=some iP.free
 |[],_,h=>by simp at h
 | (n, k) :: r, x, h => by
   have ih:=@lZ env r x;simp only[bE];cases hx:x==n with
   | true =>
     simp only[bZ,hx] at h;cases h
     by_cases hc:(iP.free==iP.free&&env.scope.kind==.function&&env.kindOf n==some .cell)=true
     . rw[if_pos hc];left;simp only[bZ,hx]
     . rw[if_neg hc];right;simp only[bZ,hx]
   | false =>
     simp only[bZ,hx] at h
     by_cases hc:(k==iP.free&&env.scope.kind==.function&&env.kindOf n==some .cell)=true
     . rw[if_pos hc];simp only[bZ,hx];exact ih h
     . rw[if_neg hc];simp only[bZ,hx];exact ih h
theorem wV{env:Env}:∀{names:List (Str×iP)} {x:Str} {k':iP},(∀y∈names,y.2≠iP.cell) →
  (names.map fun(n,k)=>if (k==iP.free&&env.scope.kind==.function&&env.kindOf n==some .cell) then (n,iP.cell) else (n,k)).lookup x=some k'->(k'=iP.cell\/k'=iP.free)->(x,iP.free)∈names
 |[],_,_,_,h,_=>by simp at h
 | (n, k) :: r, x, k', hn, h, hk => by
   have ih:=@wV env r x k' fun y hy=>hn y (aN _ hy);simp only[bE] at h;cases hx:x==n with
   | true =>
     have ex:x=n:=by simpa using hx
     by_cases hc:(k==iP.free&&env.scope.kind==.function&&env.kindOf n==some .cell)=true
     . have:k=iP.free:=by
        simp only[cA,beq_iff_eq] at hc;exact hc.1.1
       subst this;subst ex;exact aV
     . rw [if_neg hc] at h;simp only [bZ,hx] at h;cases h;rcases hk with hk | hk
       . exact absurd hk (hn (n,k) aV)
       . subst hk;subst ex;exact aV
   | false =>
     by_cases hc:(k==iP.free&&env.scope.kind==.function&&env.kindOf n==some .cell)=true
     . rw[if_pos hc] at h;simp only[bZ,hx] at h;exact aN _ (ih h hk)
     . rw[if_neg hc] at h;simp only[bZ,hx] at h;exact aN _ (ih h hk)
section
variable{X:Cx}
structure CI where
 C:aA
 s:aC
 H:Hp
 ex:List aA
noncomputable def jE(X:Cx)(scope:Scope)(NY:List Str)(c:CI):Cx where
 prog:=X.prog
 w:=X.w
 K:=X.K
 mg:=X.mg
 base:=X.base
 A:=X.A
 N:=NY
 s₀:=c.s
 H₀:=c.H
 env:=compEnvC scope (vI X.env scope.names []) c.C X.env
 outer:=X.stack
 stack:=X.stack
 ex:=c.ex
 fn:=fun _=>false
 calm:=X.calm
 pn:=[]
 xe:=fun _ _=>False
theorem Inv.adopt{aB:List (aA×Obj)}{σ : St}{H:Hp}{s:aC}{a:aA}{o:HO}(I:Inv X aB σ H s)(hn:H a=none)(young:X.s₀.heap.objs.size<=a)(hL:a≠X.env.locals)(hc:∀x c,X.env.cells.lookup x=some c->c≠a)(hp:∀p∈X.pn++aB,p.1≠a)(new:ObjOk X.prog X.w (upd H a o) s.heap a o):Inv X aB σ (upd H a o) s:=by
 have ne:∀{b:aA} {u:HO},H b=some u->b≠a:=fun e z=>by rw[z,hn] at e;cases e
 refine⟨I.ok,I.os,I.bare,⟨I.base.keep,I.base.slot,fun b ob q n hx=>?_,I.base.there,fun b xs q=>?_,fun b ob u q=>?_,fun b ps q=>?_⟩,I.loc,I.cell,?_,fun x c e=>?_,fun p hpm=>?_,fun b u e=>?_,I.len⟩
 . rw[upd_ne (bN (bI (bC q) young))];exact I.base.free b ob q n hx
 . have := I.base.tups b xs q;rw[upd_ne (ne this)];exact this
 . have := I.base.frzs b ob u q;rw[upd_ne (ne this)];exact this
 . have := I.base.tbls b ps q;rw[upd_ne (ne this)];exact this
 . rw[upd_ne (Ne.symm hL)];exact I.free
 . have := I.freeC x c e;unfold FreeC at this ⊢;rw[upd_ne (hc x c e)];exact this
 . obtain⟨h1, h2, h3⟩ := I.pin p hpm;exact⟨h1,by rw[upd_ne (hp p hpm)];exact h2,h3⟩
 . by_cases hb : b = a
   . subst hb;rw[zX] at e;cases e;exact new
   . rw[upd_ne hb] at e;exact(I.hok b u e).stay (fun c v _ q=>q) (fun c q=>by rw[upd_ne (ne q)];exact q) fun c xs q=>by rw[upd_ne (ne q)];exact q
def PF(X:Cx)(ifs:List Expr)(t:TT):Prop :=
 ∀(aB:List (aA×Obj)) (s:aC) (σ : St) (H:Hp) (Q:Bool->Hp->Prop),Inv X aB σ H s->t σ H Q →
  bD (bH X.prog X.w) X.A (forIn ifs true fun c r=>if r=true then do let ok <- BF c X.env (bM c X.env);pure (ForInStep.yield ok) else pure (ForInStep.yield r)) (TP X aB σ Q) X.xe s
def tNoIf:TT:=fun _ H Q=>Q true H
theorem pf_nil:PF X [] tNoIf:=fun _ _ _ H _ I h=>wpAny_tests_nil ⟨H,I,h⟩
theorem pf_one{c:Expr}{t:TT}(h:PT X c t):PF X [c] t:=fun aB s σ H Q I q=>wpAny_tests_one (h aB s σ H Q I q)
noncomputable def hW(mp:List (Option Nat))(σ : St):St:=mp.map fun o=>o.bind fun j=>σ[j]?.join
def YR(J:It)(mp:List (Option Nat))(g:CI->TG)(tt:CI->TT)(te:CI->TE)(σ : St)(H1:Hp)(R:List V->Hp->Prop):Prop :=
 ∀c:CI,∃W:Nat->Nat->List V->Hp->Prop,(∃m,W 0 m [] H1)/\∀i m ys H,W i m ys H →
  (J.stop i H/\R ys H) ∨
  (J.go i H/\ys.length<sizeLine/\∀x H',J.yld i H x H'->g c x (hW mp σ) H' fun σ2 H2=>tt c σ2 H2 fun b H3 =>
    if b=true then te c σ2 H3 fun y H4=>∃m',m'<m/\W (i+1) m' (ys++[y]) H4 else ∃m',m'<m/\W (i+1) m' ys H3)
def tComp(wi:TI)(mp:List (Option Nat))(g:CI->TG)(tt:CI->TT)(te:CI->TE):TE:=fun σ H Q=>wi σ H fun J H1 =>
 YR J mp g tt te σ H1 fun ys H'=>ys.length<=sizeLine/\∀p,H' p=none->Q (.ref p) (upd H' p (.lst ys))
structure CompScope(X:Cx)(scope:Scope)(NY:List Str)(mp:List (Option Nat)):Prop where
 kind:scope.kind=.function
 nocell:∀y∈scope.names,y.2≠.cell
 names:∀y∈scope.names,y.2=.local->scope.names.lookup y.1=some .local
 free:∀y∈scope.names,y.2=.free->(X.env.kindOf y.1=some .cell\/X.env.kindOf y.1=some .free)
 len:mp.length=NY.length
 map:∀(i:Nat) (x:Str) (j:Nat),NY[i]?=some x->mp[i]?=some (some j)->X.N[j]?=some x/\scope.names.lookup x=some .free
theorem LB{prog:aZ}{w:bK}{A:bO}{R:Result->aC->Prop}{s:aC}{elt target iter:Expr}{ifs:List Expr}{scope:Scope}{pos:Pos}{it acc:Value}{env:Env}{Z:Value->aC->Prop}(hZ:∀e s,Z e s->notedBy (bH prog w) A env (fun x s'=>R (.error x) s') e s)(I:Nat->aC->Prop)(turn:∀n s,I n s->bD (bH prog w) A (pyNext it) (fun r s₁=>match r with
    |none=>R (.ok .next) s₁
    |some v=>bD (bH prog w) A (sG target it v) (fun _ s₁'=>bD (bH prog w) A (pB target env v) (fun _ s₂ =>
       bD (bH prog w) A (forIn ifs true fun c r=>if r=true then do let ok <- BF c env (bM c env);pure (ForInStep.yield ok) else pure (ForInStep.yield r)) (fun ok s₃ =>
        if ok=true then bD (bH prog w) A (bM elt env) (fun x s₄ =>
         bD (bH prog w) A (call (.builtin "list.append") [acc,x]) (fun _ s₅=>∃m,m<n/\I m s₅) (fun _ _=>False) s₄) Z s₃
        else ∃m,m<n/\I m s₃) (fun _ _=>False) s₂) (fun _ _=>False) s₁') (fun _ _=>False) s₁) (fun _ _=>False) s)(n:Nat)(h:I n s) :
  rL (bH prog w) A (.compLoop (.ListComp elt [⟨target,iter,ifs,0⟩] scope pos) 0 it acc env) R s:=by
 refine codeAny_loop rfl I (fun n s hI=>?_) n h;show bD _ A ((compTurn (.ListComp elt [⟨target,iter,ifs,0⟩] scope pos) 0 it acc env).onRaise (fun x=>do uI x env;theTreesLotGoes x)) _ _ s;refine wpAny_noted ?_;rw[compTurn_list];refine bB (QO (bB (dI (turn n s hI) (fun r s₁ h₁=>?_) fun _ _ h'=>h'.elim)));cases r with
 |none=>exact cF h₁
 | some v =>
   refine bB (dI h₁ (fun _ s₁' h₁'=>?_) fun _ _ h'=>h'.elim);refine bB (dI h₁' (fun _ s₂ h₂=>bB (dI h₂ (fun ok s₃ h₃=>?_) fun _ _ h'=>h'.elim)) fun _ _ h'=>h'.elim);cases ok with
   |false=>exact cF ⟨rfl,h₃⟩
   | true =>
     exact bB (bB (dI h₃ (fun x s₄ h₄=>bB (dI h₄ (fun _ s₅ h₅=>cF (cF ⟨rfl,h₅⟩)) fun _ _ h'=>h'.elim)) fun e s' h'=>hZ e s' h'))
theorem EJ{E:Value->aC->Prop}{scope:Scope}{NY:List Str}{mp:List (Option Nat)}{tg iter elt:Expr}{ifs:List Expr}{pos:Pos}{g:CI->TG}{tt:CI->TT}{te:CI->TE}{aB:List (aA×Obj)}{σ : St}{H:Hp}{s₂ : aC}{J:It}{fp:List aA}{it:aA}{tn:Nat->Heap->Prop}{R:List V->Hp->Prop}{RR:Value->aA->Result->aC->Prop}{WW:CI->Value->aC->Prop}{cm:Cx->Prop}(S:CompScope X scope NY mp)(hc:∀c:CI,c.H=H->cm (jE X scope NY c))(I:Inv X aB σ H s₂)(T:Turn X.prog X.w X.K tg J fp it tn cm)(st:tn 0 s₂.heap)(hf:∀b∈fp,FpOk X aB H b)(hg:∀c,PG (jE X scope NY c) tg (g c))(ht:∀c,PF (jE X scope NY c) ifs (tt c))(he:∀c,PE ((jE X scope NY c).wish (WW c)) elt (te c))(err:∀c:CI,X.s₀.heap.objs.size<=c.C->c.C∉frs X.stack->(∀pl σ' H' s1,Inv (jE X scope NY c) pl σ' H' s1->Inv X aB σ H' s1)->∀e s',WW c e s'->notedBy (bH X.prog X.w) X.A (jE X scope NY c).env (fun x s''=>RR (.ref s₂.heap.objs.size) c.C (.error x) s'') e s')(h:YR J mp g tt te σ H R)(fin:∀(s':aC) (C:aA) (m:Str->Option Value) (ys:List V) (H':Hp),R ys H'->H' s₂.heap.objs.size=none->H' C=none->C≠s₂.heap.objs.size->s'.heap.Ns C m →
    (ys.length<=sizeLine->Inv X aB σ (upd H' s₂.heap.objs.size (.lst ys)) s') →
    (C≠X.env.locals/\X.s₀.heap.objs.size<=C/\(∀x c,X.env.cells.lookup x=some c->c≠C)/\∀p∈X.pn++aB,p.1≠C)->RR (.ref s₂.heap.objs.size) C (.ok .next) s') :
  bD (bH X.prog X.w) X.A (newList []) (fun acc s₃=>bD (bH X.prog X.w) X.A (newFunctionEnv scope X.env.globals (vI X.env scope.names []) [] X.env.qual none .none (some X.env)) (fun cenv s₄ =>
   rL (bH X.prog X.w) X.A (.compStart (.ListComp elt [⟨tg,iter,ifs,0⟩] scope pos) 0 (.ref it) acc { cenv with scope:=relabel scope X.env }) (RR acc cenv.locals) s₄) E s₃) E s₂:=by
 refine wpAny_newObj_type (wpAny_newFunctionEnv S.nocell (by intro y hy;simp at hy) (fun h₁ hns₁ hsb₁=>?_) S.kind);dsimp only at hns₁ hsb₁ ⊢;generalize hH2:s₂.heap.push { cls:=.type "list",dict:=none,data:=.seq ([]:List Value).toArray }=H2 at hns₁ hsb₁ ⊢;have hC:(H2.objs.size:Nat)=s₂.heap.objs.size+1:=by rw[<- hH2,EZ]
 generalize hDd:s₂.heap.objs.size=D at fin err hC ⊢;generalize hCC:H2.objs.size=C at hns₁ hsb₁ hC ⊢;have hC:(C:Nat)=(D:Nat)+1:=hC;have hDC:D≠C:=fun z=>absurd (z.trans hC) (bN (BM _));have ltC:∀{b:aA},b<D->b≠C:=fun {b} h=>bN (Nat.lt_of_lt_of_eq (YF h) hC.symm);have ltD:∀{b:aA},b<D->b≠D:=fun {b} h=>bN h;have hlt:∀{b:aA} {o:Obj},s₂.heap.get? b=some o->(b:Nat)<D:=fun e=>hDd▸bC e;have k2:∀b o,s₂.heap.get? b=some o->H2.get? b=some o:=fun b o e=>hH2▸aI _ e
 have k1:∀b o,H2.get? b=some o->h₁.get? b=some o:=fun b o e=>by
  have hb:b<C:=hCC▸bC e;exact hsb₁.extBut b o (bN hb) (aI _ e)
 have fr:∀a,D<=a->H a=none:=fun a ha=>I.hok.fresh (hDd▸ha);have accP:h₁.PlainList D #[]:=⟨_,k1 _ _ (by rw[<- hH2,<- hDd];exact aW _ rfl)⟩
 have fpo:∀b∈fp,(b:Nat)<D:=fun b hb=>let ⟨o,e,_⟩:=T.obj 0 _ st b hb;hlt e;have clF:∀x c,(vI X.env scope.names []).lookup x=some c->X.env.cells.lookup x=some c:=EL _ _ fun x c e=>nomatch e
 have cellLt:∀x c,X.env.cells.lookup x=some c->(c:Nat)<D:=fun x c e=>by
  obtain⟨v,o,ho,_⟩:=I.cell x c e;exact hlt ho
 have locLt:(X.env.locals:Nat)<D:=hDd▸I.lt
 have stkLt:∀b∈frs X.stack,(b:Nat)<D:=fun b hb=>by
  obtain⟨_,o,ho,_⟩:=I.stack.mem hb;exact hlt ho
 have fpStk:∀b∈fp,b∉frs X.stack:=fun b hb z=>by
  obtain⟨_,f1,f2,_⟩:=hf b hb;rcases aE.mp (I.stkSub b z) with q | q
  . exact f1 q
  . exact f2 q
 have pinLt:∀p∈X.pn++aB,(p.1:Nat)<D:=fun p hp=>hlt (I.pin p hp).1
 have pinStk:∀p∈X.pn++aB,p.1∉frs X.stack:=fun p hp z=>by
  obtain⟨_,_,f1,f2,_⟩:=I.pin p hp;rcases aE.mp (I.stkSub _ z) with q | q
  . exact f1 q
  . exact f2 q
 let Y:Cx:=jE X scope NY ⟨C,{ s₂ with heap:=H2 },H,D::fp⟩
 obtain⟨W,⟨m0,w0⟩,turn⟩:=h ⟨C,{ s₂ with heap:=H2 },H,D::fp⟩
 have okY:Y.Ok:=by
  refine⟨I.ok.mod,S.kind,I.ok.glob,I.ok.blt,iU hCC,fun x y c h1 h2=>I.ok.inj x y c (clF _ _ h1) (clF _ _ h2),fun x hx=>?_,fun x c hfn=>absurd hfn (by intro z;cases z),I.ok.hd,I.ok.frames,.inl rfl,fun b hb=>?_,fun b o e=>?_,?_,fun b o e=>?_,fun b hb=>?_,?_,I.stkFree⟩
  . have hx':(x,iP.free)∈scope.names:=by
     rcases hx with hx | hx
     . exact wV S.nocell hx (.inl rfl)
     . exact wV S.nocell hx (.inr rfl)
    obtain⟨c,e⟩:=I.ok.has x (S.free _ hx' rfl);exact kC _ _ x c hx' e
  . rcases aE.mp hb with z | z
    . subst z;exact⟨hDC,fun x c e q=>absurd (cellLt x c (clF x c e)) (by rw[q];exact dB _)⟩
    . have := fpo b z;exact⟨ltC this,fun x c e q=>(hf b z).2.2.2.2.1 x c (clF x c e) q⟩
  . have := I.bs b o e;exact⟨k2 b o this.1,this.2⟩
  . refine⟨?_, I.tabsH⟩;show(X.base.objs.size:Nat)<=H2.objs.size;have h1:(X.base.objs.size:Nat)<=s₂.heap.objs.size:=cJ I.ok.bsz.1 I.sz;have h2:(H2.objs.size:Nat)=C:=hCC;have h3:(s₂.heap.objs.size:Nat)=D:=hDd;omega
  . have hb := I.bs b o e;have hb':=hlt hb.1;intro z;rcases aE.mp z with z | z
    . rw[z] at hb';exact dB _ hb'
    . rcases (hf b z).2.2.2.1 with q | q
      . exact I.ok.noex b o e q
      . exact absurd (bI (bC (I.ok.bs b o e).1) q) (dB _)
  . rcases aE.mp hb with z | z
    . subst z;exact fun q=>absurd (stkLt _ q) (dB _)
    . exact fpStk b z
  . exact I.stack.of_keeps fun b o e _=>⟨o,k2 b o e,rfl⟩
 have capt:∀(i:Nat) (x:Str) (v:V),NY[i]?=some x->(hW mp σ)[i]?=some (some v)->∃u c,RelV v u/\(Y.env.kindOf x=some .cell\/Y.env.kindOf x=some .free)/\Y.env.cells.lookup x=some c/\H2.IsCell c (some u)/\(H c=none\/∃o u,H c=some (.frz o u))/\c∉D::fp:=by
  intro i x v e1 e2
  have e2':(mp[i]?.map fun o=>o.bind fun j=>σ[j]?.join)=some (some v):=by
   unfold hW at e2
   rwa [aX] at e2
  cases hm:mp[i]? with
  |none=>rw[hm] at e2';cases e2'
  | some o =>
    rw[hm] at e2';cases o with
    |none=>simp at e2'
    | some j =>
      simp only[cZ,aO,Option.some.injEq] at e2'
      have e4 : σ[j]?=some (some v):=by
       cases hs : σ[j]? with
       |none=>rw[hs] at e2';cases e2'
       |some q=>rw[hs] at e2';simp at e2';rw[e2']
      obtain⟨hXj,hfr⟩:=S.map i x j e1 hm;have hmem:(x,iP.free)∈scope.names:=fN hfr;have hk:=S.free _ hmem rfl;obtain⟨m,hn,hl⟩:=I.loc;obtain⟨u,ru,l⟩:=hl j x v hXj e4 (hk.elim (fun z=>.inr (.inl z)) fun z=>.inr (.inr z))
      have hlook:∃c,X.env.cells.lookup x=some c/\s₂.heap.IsCell c (some u):=by
       rcases l with⟨kl,_⟩ | ⟨_,c,ec,hcell⟩
       . rcases hk with q | q
         . exact absurd (kl.symm.trans q) (by intro z;cases z)
         . exact absurd (kl.symm.trans q) (by intro z;cases z)
       . exact⟨c,ec,hcell⟩
      obtain⟨c,ec,oc,hoc,hocd⟩:=hlook;obtain⟨c',ec'⟩:=kC (env:=X.env) scope.names [] x c hmem ec;have:c'=c:=Option.some.inj ((clF x c' ec').symm.trans ec);subst this;refine⟨u,c',ru,lZ hfr,ec',⟨oc,k2 _ _ hoc,hocd⟩,(I.freeC x c' ec).imp id And.right,fun z=>?_⟩;rcases aE.mp z with z | z
      . have:=cellLt x c' ec;rw[z] at this;exact dB _ this
      . exact(hf c' z).2.2.2.2.1 x c' ec rfl
 have lenY:(hW mp σ).length=NY.length:=by
  unfold hW;rw[bU];exact S.len
 have I0:∀tk,Inv Y [] (hW mp σ) H { s₂ with heap:=h₁,toks:=tk }:=by
  intro tk;refine⟨okY,rfl,I.bare,Un.kept k1,⟨_,hns₁,fun i x v e1 e2 e3=>?_⟩,fun x c e=>?_,fr C (by show(D:Nat)<=C;omega),fun x c e=>(I.freeC x c (clF x c e)).imp id fun z=>⟨rfl,z.2⟩,fun p hp=>absurd (show p∈([]:List (aA×Obj)) from hp) (by simp),I.hok.kept fun b o e=>k1 b o (k2 b o e),lenY⟩
  . obtain⟨u, c, ru, hk, ec, ⟨oc, hoc, hocd⟩, _⟩ := capt i x v e1 e2;exact⟨u,ru,.inr ⟨hk,c,ec,oc,k1 _ _ hoc,hocd⟩⟩
  . obtain⟨v, o, ho, hd⟩ := I.cell x c (clF x c e);exact⟨v,o,k1 _ _ (k2 _ _ ho),hd⟩
 have stat:∀{H':Hp} {pl:List (aA×Obj)},(∀p∈pl,p.1∉fp)->(∀b∈fp,H' b=none)->∀b∈fp,FpOk Y pl H' b:=fun hpl hn b hb=>by
  have hbD:=fpo b hb;refine⟨hn b hb,ltC hbD,fpStk b hb,.inl (aN _ hb),fun x c e=>(hf b hb).2.2.2.2.1 x c (clF x c e),fun p hp z=>hpl p (show p∈_ from hp) (z▸hb)⟩
 have dN:D∉Y.fs:=fun q=>absurd (stkLt _ q) (dB _);have dFp:D∉fp:=fun q=>absurd (fpo _ q) (dB _)
 have plD:∀(o:Obj),∀p∈[(D,o)],p.1∉fp:=fun o p hp=>by
  have e:p=(D,o):=by simpa using hp
  rw[e];exact dFp
 have toX:∀pl σ' H3 s4,Inv Y pl σ' H3 s4->Inv X aB σ H3 s4:=fun pl σ' H3 s4 I4=>by
  have u:Un (frs X.stack) fp H H3 s₂.heap s4.heap:=by
   have B:Un (frs X.stack) (D::fp) H H3 H2 s4.heap:=I4.base
   have nx:∀{b:aA} {o:Obj},s₂.heap.get? b=some o->b∉fp->b∉D::fp:=fun e hb z=>by
    rcases aE.mp z with z | z
    . have:=hlt e;rw[z] at this;exact dB _ this
    . exact hb z
   exact⟨fun b o q n hb hx=>B.keep b o (k2 b o q) n hb (nx q hx),fun b o q n hb hx=>B.slot b o (k2 b o q) n hb (nx q hx),fun b o q n hx=>B.free b o (k2 b o q) n (nx q hx),fun b o q hx=>B.there b o (k2 b o q) (nx q hx),B.tups,B.frzs,B.tbls⟩
  exact I.call' I4.os u I4.hok I4.bare fun b hb=>⟨(hf b hb).2.2.2.1,(hf b hb).2.1,(hf b hb).2.2.2.2.1,(hf b hb).2.2.2.2.2⟩
 have keyC:∀(tk:Nat) (it':Value),it'=.ref it->rL (bH X.prog X.w) X.A (.compLoop (.ListComp elt [⟨tg,iter,ifs,0⟩] scope pos) 0 it' (.ref D) Y.env) (RR (.ref D) C) { s₂ with heap:=h₁,toks:=tk }:=by
  rintro tk _ rfl
  refine LB (Z:=WW ⟨C,{ s₂ with heap:=H2 },H,D::fp⟩) (fun e s' z=>err ⟨C,{ s₂ with heap:=H2 },H,D::fp⟩ (by have:(X.s₀.heap.objs.size:Nat)<=D:=hDd▸I.sz;show(X.s₀.heap.objs.size:Nat)<=C;omega) (fun q=>absurd (stkLt _ q) (by show ¬(C:Nat)<D;omega)) toX e s' z) (fun n s'=>∃i ys H' its,Inv Y [] (hW mp σ) H' s'/\tn i s'.heap/\(∀b∈fp,H' b=none)/\H' D=none/\s'.heap.PlainList D its/\Vals ys its.toList/\W i n ys H') ?_ m0
   ⟨0,[],H,#[],I0 tk,T.keep 0 _ _ st fun b _ o e=>k1 b o (k2 b o e),fun b hb=>(hf b hb).1,fr D (aR _),accP,.nil,w0⟩
  rintro n s3 ⟨i,ys,H3,its,I3,st3,fr3,d3,⟨kk,pl3⟩,rv3,w3⟩
  have I3':Inv Y [(D,{ cls:=.type "list",data:=.seq its kk })] (hW mp σ) H3 s3:=I3.pins_of fun p hp=>by
   have e:p=(D,{ cls:=.type "list",data:=.seq its kk }):=by simpa using hp
   subst e;exact⟨pl3,d3,hDC,dN,fun v z=>nomatch (show Data.seq its kk=Data.cell v from z)⟩
  rcases turn i n ys H3 w3 with⟨stop,qn⟩ | ⟨go,hsz,step⟩
  . refine thn (T.done Y rfl rfl rfl (hc ⟨C, { s₂ with heap := H2 }, H, D :: fp⟩ rfl) i _ s3 _ H3 _ I3' (stat (plD _) fr3) st3 stop) fun r s4 zq => ?_;obtain ⟨hr,I4⟩:=zq;subst hr;have hD4:s4.heap.get? D=some { cls:=.type "list",data:=.seq its kk }:=(I4.pin (D,_) (by simp)).1;have J4:Inv X aB σ H3 s4:=toX _ _ _ _ I4;obtain ⟨m4,hn4,_⟩:=I4.loc;refine fin s4 C m4 ys H3 qn d3 I4.free (Ne.symm hDC) hn4 (fun hz=>?_) ⟨(ltC locLt).symm,?_,fun x c e=>?_,fun p hp=>?_⟩
    . refine J4.adopt d3 ?_ (ltD locLt).symm (fun x c e => ?_) (fun p hp => ?_) ⟨hz, its.toList, kk, rv3, hD4⟩
      . exact hDd▸I.sz
      . exact ltD (cellLt x c e)
      . exact ltD (pinLt p hp)
    . have : (X.s₀.heap.objs.size : Nat)<=D := hDd▸I.sz;show(X.s₀.heap.objs.size:Nat)<=C;omega
    . exact ltC (cellLt x c e)
    . exact ltC (pinLt p hp)
  . refine thn (T.item Y rfl rfl rfl (hc ⟨C, { s₂ with heap := H2 }, H, D :: fp⟩ rfl) i _ s3 _ H3 _ I3' (stat (plD _) fr3) st3 go) fun r s4 zq => ?_;obtain ⟨u,hr,h4⟩:=zq;subst hr;refine thn h4 fun _ s5 zq=>?_;obtain ⟨x,H5,I5,r5,y5,st5,fr5⟩:=zq;have I5':=I5.pinned (stat (plD _) fr5) (T.obj _ _ st5);refine thn (hg _ _ s5 _ H5 x u _ I5' r5 (step x H5 y5)) fun _ s6 zq=>?_;obtain ⟨σ6,H6,I6,q6⟩:=zq;refine thn (ht _ _ s6 σ6 H6 _ I6 q6) fun ok s7 zq=>?_;obtain ⟨H7,I7,q7⟩:=zq
    have back:∀{s8:aC} {σ8:St} {H8:Hp},Inv Y ([(D,{ cls:=.type "list",data:=.seq its kk })]++DG fp s5.heap) σ8 H8 s8 →
      tn (i+1) s8.heap/\(∀b∈fp,H8 b=none)/\H8 D=none/\s8.heap.get? D=some { cls:=.type "list",data:=.seq its kk }:=fun {s8 σ8 H8} I8=>by
     refine⟨T.keep _ _ _ st5 fun b hb o e=>(I8.pin (b,o) (aG _ (aG _ (xL hb e)))).1,fun b hb=>?_,?_,?_⟩
     . obtain⟨o, e, d⟩ := T.obj _ _ st5 b hb;exact(I8.pin (b,o) (aG _ (aG _ (xL hb e)))).2.1
     . exact(I8.pin (D,_) (aG _ (aY _ (aQ.mpr rfl)))).2.1
     . exact(I8.pin (D,_) (aG _ (aY _ (aQ.mpr rfl)))).1
    have drop:∀{s8:aC} {σ8:St} {H8:Hp} {pl:List (aA×Obj)},Inv Y pl σ8 H8 s8->Inv Y [] (hW mp σ) H8 s8:=fun {s8 σ8 H8 pl} I8=>by
     obtain⟨m8,hn8,_⟩:=I8.loc;refine⟨I8.ok,I8.os,I8.bare,I8.base,⟨m8,hn8,fun i x v e1 e2 e3=>?_⟩,I8.cell,I8.free,I8.freeC,fun p hp=>absurd (show p∈([]:List (aA×Obj)) from hp) (by simp),I8.hok,lenY⟩;obtain⟨u,c,ru,hk,ec,⟨oc,hoc,hocd⟩,hn,hx⟩:=capt i x v e1 e2;rcases hn with hn | ⟨ob,ub,hn⟩
     . obtain⟨sl, e⟩ := I8.base.any hoc hn hx;exact⟨u,ru,.inr ⟨hk,c,ec,_,e,hocd⟩⟩
     . obtain⟨e1, _⟩ := I.hok c _ hn;obtain⟨e2,_⟩:=I8.hok c _ (I8.base.frzs c ob ub hn);have e3:=k2 _ _ e1;rw[hoc] at e3;cases e3;exact⟨u,ru,.inr ⟨hk,c,ec,oc,e2,hocd⟩⟩
    cases ok with
    | false =>
      obtain⟨m',hm',w'⟩:=q7;obtain⟨b1,b2,b3,b4⟩:=back I7;exact⟨m',hm',i+1,ys,H7,its,drop I7,b1,b2,b3,⟨kk,b4⟩,rv3,w'⟩
    | true =>
      refine thn (he _ _ s7 σ6 H7 _ (I7.wish _) q7) fun y s8 zq=>?_;obtain⟨yv,H8,I8w,r8,q8⟩:=zq;have I8:=I8w.unwish;obtain⟨b1,b2,b3,b4⟩:=back I8;have hl:ys.length=its.size:=by simpa using rv3.length
      refine wpAny_list_append_plain (items:=its) ⟨kk,b4⟩ (fun h' pl' sb=>?_) (by omega);obtain⟨m',hm',w'⟩:=q8;have I9:Inv Y [] (hW mp σ) H8 { s8 with heap:=h' }:=(drop I8).turned (it:=D) (t':=s8.toks) (fun b o hb e=>(sb.2 b hb).trans e) b3 hDC (.inl aV) (fun x c e=>ltD (cellLt x c (clF x c e))) fun p hp=>absurd (show p∈([]:List (aA×Obj)) from hp) (by simp);refine⟨m',hm',i+1,ys++[yv],H8,its.push y,I9,?_,b2,b3,pl',?_,w'⟩
      . exact T.keep _ _ _ b1 fun b hb o e=>(sb.2 b (fun z=>dFp (z▸hb))).trans e
      . rw[Array.toList_push];exact rv3.append (.cons r8 .nil)
 exact codeAny_compStart_list (keyC _ _ rfl) (T.self _ 0 _ _ _ (T.keep 0 _ _ st fun b _ o e=>k1 b o (k2 b o e)) (keyC _ _ rfl))
theorem aAp{scope:Scope}{NY:List Str}{mp:List (Option Nat)}{tg iter elt:Expr}{ifs:List Expr}{pos:Pos}{wi:TI}{g:CI->TG}{tt:CI->TT}{te:CI->TE}{cm:Cx->Prop}(S:CompScope X scope NY mp)(hc:∀aB σ H s,Inv X aB σ H s->∀c:CI,c.H=H->cm (jE X scope NY c))(hi:PI X tg iter wi cm)(hg:∀c,PG (jE X scope NY c) tg (g c))(ht:∀c,PF (jE X scope NY c) ifs (tt c))(he:∀c,PE (jE X scope NY c) elt (te c))(hs:∀x,dR iter X.env x=pure x:=by intro _;rfl):PE X (.ListComp elt [⟨tg,iter,ifs,0⟩] scope pos) (tComp wi mp g tt te):=by
 intro aB s σ H Q I h;rw[eval_ListComp];refine wpAny_comprehension_free (use:=none) rfl hs (sC fun y hy hk=>I.ok.has y.1 (S.free y hy hk)) S.kind S.names (thn (hi aB s σ H _ I h) fun v s1 h1=>thn h1 fun itv s2 h2=>?_);obtain⟨it,fp,tn,J,H2,e,I2,T,st2,f2,hk⟩:=h2;subst e;refine EJ (RR:=fun acc C=>compPost (bH X.prog X.w) X.A X.xe none (EP X aB σ Q) acc C) (WW:=fun _ _ _=>False) S (hc _ _ _ _ I2) I2 T st2 f2 hg ht he (fun _ _ _ _ _ _ z=>z.elim) hk ?_;intro s' C m ys H' q hD hC hCD hn hI hct;refine⟨m,hn,fun h' sb=>?_⟩;have J':=hI q.1;refine⟨.ref s2.heap.objs.size,_,J'.turned (it:=C) (t':=s'.toks) (fun b o hb e=>(sb.2 b hb).trans e) (by rw[upd_ne hCD];exact hC) hct.1 (.inr hct.2.1) hct.2.2.1 hct.2.2.2,rfl,q.2 _ hD⟩
theorem pe_comp{scope:Scope}{NY:List Str}{mp:List (Option Nat)}{tg iter elt:Expr}{ifs:List Expr}{pos:Pos}{wi:TI}{g:CI->TG}{tt:CI->TT}{te:CI->TE}(S:CompScope X scope NY mp)(hc:X.calm=true)(hi:PI X tg iter wi)(hg:∀c,PG (jE X scope NY c) tg (g c))(ht:∀c,PF (jE X scope NY c) ifs (tt c))(he:∀c,PE (jE X scope NY c) elt (te c))(hs:∀x,dR iter X.env x=pure x:=by intro _;rfl):PE X (.ListComp elt [⟨tg,iter,ifs,0⟩] scope pos) (tComp wi mp g tt te):=aAp S (fun _ _ _ _ _ _ _=>hc) hi hg ht he hs
def tCompS(wi:TI)(mp:List (Option Nat))(g:CI->TG)(tt:CI->TT)(te:CI->TE)(i:Nat):TS:=fun D σ H=>tComp wi mp g tt te σ H fun v H1=>D.nx (σ.set i (some v)) H1
theorem RO{i:Nat}{y:Str}{py:Pos}{scope:Scope}{NY:List Str}{mp:List (Option Nat)}{tg iter elt:Expr}{ifs:List Expr}{pos spos:Pos}{wi:TI}{g:CI->TG}{tt:CI->TT}{te:CI->TE}(hN:X.N.Nodup)(hy:X.N[i]?=some y)(hl:X.env.scope.names.lookup y=some .local)(hsw:cV (.ListComp elt [⟨tg,iter,ifs,0⟩] scope pos) (some (.Name y py)) spos.line X.env=pure true)(S:CompScope X scope NY mp)(hc:X.calm=true)(hi:PI X tg iter wi)(hg:∀c,PG (jE X scope NY c) tg (g c))(ht:∀c,PF (jE X scope NY c) ifs (tt c))(he:∀c,PE (jE X scope NY c) elt (te c))(hs:∀x,dR iter X.env x=pure x:=by intro _;rfl):PS X (.Assign [.Name y py] (.ListComp elt [⟨tg,iter,ifs,0⟩] scope pos) spos) (tCompS wi mp g tt te i):=by
 intro aB s σ H D I h;rw[exec_Assign_Name_used _ _ _ _ hsw];refine bB (QO (bB ?_));show bD _ X.A (do let _ <- comprehension (.ListComp elt [⟨tg,iter,ifs,0⟩] scope pos) scope X.env _ (newList []) false (bM iter X.env) (some (pB (.Name y py) X.env))) _ _ s
 refine bB (dI (wpAny_comprehension_free (use:=some (pB (.Name y py) X.env)) (Q:=fun _ s'=>SP X aB D .next s') rfl hs (sC fun y hy hk=>I.ok.has y.1 (S.free y hy hk)) S.kind S.names
  (thn (hi aB s σ H _ I h) fun v s1 h1=>thn h1 fun itv s2 h2=>?_)) (fun _ s' hq=>cF (cF hq)) fun _ _ e=>e)
 obtain⟨it,fp,tn,J,H2,e,I2,T,st2,f2,hk⟩:=h2;subst e;refine EJ (RR:=fun acc C=>compPost (bH X.prog X.w) X.A X.xe (some (pB (.Name y py) X.env)) (fun _ s'=>SP X aB D .next s') acc C) (WW:=fun _ _ _=>False) S (fun _ _=>hc) I2 T st2 f2 hg ht he (fun _ _ _ _ _ _ z=>z.elim) hk ?_;intro s' C m ys H' q hD hC hCD hn hI hct;have J':=hI q.1;refine wpAny_assign_Name (GX J' hN hy (.inl hl) (v:=.ref s2.heap.objs.size) rfl (fun s'' I'' sb=>?_) (.inr hl));obtain⟨a,sba,ha⟩:=sb
 have haC:C≠a:=by
  rcases ha with rfl | ha
  . exact hct.1
  . exact fun z=>hct.2.2.1 _ _ ha z.symm
 refine⟨m,hn.sameBut sba haC,fun h' sb'=>?_⟩;exact⟨_,_,I''.turned (it:=C) (t':=s''.toks) (fun b o hb e=>(sb'.2 b hb).trans e) (by rw[upd_ne hCD];exact hC) hct.1 (.inr hct.2.1) hct.2.2.1 hct.2.2.2,q.2 _ hD⟩
end
end L2
namespace TU
open PySem PyProof.Rows
set_option autoImplicit false
variable{prog:aZ}{w:bK}{A:bO}{E:Value->aC->Prop}{s:aC}
theorem sorted_endS{vs:List Value}{ss:List Str}{Q:Value->aC->Prop}(hI:XE vs ss)(h64:vs.length<64)(h:∀(h2:Heap) (vs':List Value) (ns':List Str) (e:Nat),(∀b o,s.heap.get? b=some o->h2.get? b=some o)->h2.get? s.heap.objs.size=some (seqObj "list" vs'.toArray e)->XE vs' ns'->ns'.Perm ss->sortedS ns'=true →
    Q (.ref s.heap.objs.size) { s with heap:=h2 }) :
  bD (bH prog w) A.in1 (do
   let l <- newList vs
   let _ <- dW [l] (call (.builtin "list.sort") [l] [])
   ret l) (fun r z=>∃v,r=.done (.ret v)/\Q v z) E s:=by
 refine bB (wpAny_newList ?_ (hsz:=by rw[tY];omega));have hoL:(s.heap.push (seqObj "list" vs.toArray 0)).get? s.heap.objs.size=some (seqObj "list" vs.toArray 0):=aW _ rfl;refine bB (pA (wpAny_call_entry slot_list_sort ⟨_,hoL,rfl⟩ entry_list_sort (list_sort_treeK strKind_oneLt hoL hI.keysOf (fun v₁ v₂ rest e=>keyKind_strs (by rw[<- e];exact hI)) h64 fun st' hp hs=>⟨_,rfl,?_⟩) (args_list_sort _)));obtain⟨ns',a1,a2,a3⟩:=sorted_out_str hI hp hs;generalize (arrOf st').map (·.2)=out at *;obtain⟨e,he⟩:=sortedHeap_at (out:=out) hoL;refine cF ⟨_,rfl,h _ out.toList ns' e (fun b o q=>?_) (by simpa using he) a1 a2 a3⟩;have hb:=bC q;have q1:=aI (seqObj "list" vs.toArray 0) q;show(sortedHeap (s.heap.push (seqObj "list" vs.toArray 0)) s.heap.objs.size vs out).get? b=some o;rw[sortedHeap_old (bN hb) (by rw[size_push'];exact YF hb)];exact q1
end TU
namespace FL
open PySem PySem.Spec PyProof.Rows L2
abbrev Frag:=aJ
def KLst(K:Frag)(a:aA)(xs:List V):Prop:=∃(o:Obj) (its:Array Value) (n:Nat),K.lookup a=some o/\o.cls=.type "list"/\o.dict=none/\o.data=.seq its n/\its.size<=sizeLine/\Vals xs its.toList
def KTup(K:Frag)(a:aA)(xs:List V):Prop:=∃(o:Obj) (its:Array Value) (n:Nat),K.lookup a=some o/\o.cls=.type "tuple"/\o.data=.seq its n/\its.size<=sizeLine/\Vals xs its.toList
structure LamT where
 qual:Str
 params:Arguments
 body:FuncBody
 scope:Scope
noncomputable def lamsE(q:Str):Nat->Expr->List LamT
 |0,_=>[]
 | n + 1, e => match e with
   | .Lambda a b sc _=>[⟨q++"<lambda>",a,.expr b,sc⟩]
   | .Call _ as _ _=>as.flatMap (lamsE q n)
   | .Compare l _ cs _=>lamsE q n l++cs.flatMap (lamsE q n)
   | .BoolOp _ vs _=>vs.flatMap (lamsE q n)
   | .UnaryOp _ o _=>lamsE q n o
   | .BinOp l _ r _=>lamsE q n l++lamsE q n r
   | .IfExp t b o _=>lamsE q n t++(lamsE q n b++lamsE q n o)
   | .List es _=>es.flatMap (lamsE q n)
   | .Tuple es _ _=>es.flatMap (lamsE q n)
   | .Subscript v i _=>lamsE q n v++lamsE q n i
   |_=>[]
noncomputable def lamsS(q:Str):Nat->Stmt->List LamT
 |0,_=>[]
 | n + 1, s => match s with
   | .FunctionDef x a b _ _ _ sc _ _ _=>[⟨q++x,a,.stmts b,sc⟩]
   | .Assign _ e _=>lamsE q 12 e
   | .Return (some e) _=>lamsE q 12 e
   | .Expr e _=>lamsE q 12 e
   | .If t a b _=>lamsE q 12 t++(a.flatMap (lamsS q n)++b.flatMap (lamsS q n))
   | .For _ _ a _ _=>a.flatMap (lamsS q n)
   | .While _ a _ _=>a.flatMap (lamsS q n)
   |_=>[]
noncomputable def lamsOf(x:Str)(b:List Stmt):List LamT:=b.flatMap (lamsS (x++".<locals>.") 8)
noncomputable def textIn(K:aJ)(m n:Nat):Option LamT:=(makers[m]?).bind fun x=>match aP K aM x with
 | some (some (.ref f)) => (match K.lookup f with
   | some ⟨_, _, .func fd, _⟩ => (match fd.body with
     | .stmts b=>(lamsOf x b)[n]?
     |_=>none)
   |_=>none)
 |_=>none
noncomputable def freeR(l:List (Str×iP)):List Str:=((l.filter fun y=>y.2==iP.free).map (·.1)).reverse
inductive ClosOk(H:Hp)(O:aA->Prop):List (Str×aA)->List V->Prop
 |nil:ClosOk H O [] []
 |cons {n:Str} {c:aA} {o:Obj} {u:HO} {w:Value} {x:V} {cl:List (Str×aA)} {xs:List V} (no : ¬O c) (h:H c=some (.frz o u)) (d:o.data=.cell (some w)) (r:RelV x w) (t:ClosOk H O cl xs):ClosOk H O ((n,c)::cl) (x::xs)
def LamAt(H:Hp)(O:aA->Prop)(f:aA)(t:LamT)(cl:List (Str×aA)):Prop:=¬O f/\∃(o oc:Obj) (u uc:HO) (fd:aH) (c:aA) (vs:Array Value) (tq:Tok),
 H f=some (.frz o u)/\o.cls=.type "function"/\o.data=.func fd/\fd.qualname=t.qual/\fd.params=t.params/\fd.body=t.body/\fd.scope=t.scope/\fd.globals=aM/\fd.closure=cl/\fd.defaults=.none/\fd.kwdefaults=.none/\fd.code=.ref c/\fd.builtins=BG ∧
 ¬O c/\H c=some (.frz oc uc)/\oc.data=.fields vs/\vs[1]?=some (.str t.qual tq)
mutual
inductive Rep(K:Frag)(H:Hp)(O:aA->Prop):V->D->Prop
 |non:Rep K H O .non .non
 |bl (b:Bool):Rep K H O (.bl b) (.bl b)
 |int (i:Int):Rep K H O (.int i) (.int i)
 |str (x:Str):Rep K H O (.str x) (.str x)
 |tup {a:aA} {xs:List V} {ds:List D} (n : ¬O a) (h:Rd H a (.tup xs)) (r:Reps K H O xs ds):Rep K H O (.ref a) (.tup ds)
 |tupK {a:aA} {xs:List V} {ds:List D} (h:KTup K a xs) (r:Reps K H O xs ds):Rep K H O (.ref a) (.tup ds)
 |lst {a:aA} {xs:List V} {ds:List D} (n : ¬O a) (h:Rd H a (.lst xs)) (r:Reps K H O xs ds):Rep K H O (.ref a) (.lst ds)
 |lstK {a:aA} {xs:List V} {ds:List D} (h:KLst K a xs) (r:Reps K H O xs ds):Rep K H O (.ref a) (.lst ds)
 |dct {a:aA} {kvs:List (Key×V)} {ks:List Key} {ds:List D} (n : ¬O a) (h:H a=some (.dK kvs)) (e:kvs.map (·.1)=ks) (r:Reps K H O (kvs.map (·.2)) ds):Rep K H O (.ref a) (.dct ks ds)
 |dcf {a:aA} {o:Obj} {kvs:List (Key×V)} {ks:List Key} {ds:List D} (n : ¬O a) (h:H a=some (.frz o (.dK kvs))) (e:kvs.map (·.1)=ks) (r:Reps K H O (kvs.map (·.2)) ds):Rep K H O (.ref a) (.dcf ks ds)
 |ins {a C dx:aA} {t:Nat} {kvs:List (Str×V)} {ds:List D} (c:aP K aM (cQ t)=some (some (.ref C))) (n : ¬O a) (h:H a=some (.ins C dx kvs)) (e:kvs.map (·.1)=cH t) (r:Reps K H O (kvs.map (·.2)) ds):Rep K H O (.ref a) (.ins t ds)
 |clo {f:aA} {m n:Nat} {t:LamT} {cl:List (Str×aA)} {xs:List V} {ds:List D} (tx:textIn K m n=some t) (h:LamAt H O f t cl) (e:cl.map (·.1)=freeR t.scope.names) (nd:(cl.map (·.2)).Nodup) (c:ClosOk H O cl xs) (r:Reps K H O xs ds):Rep K H O (.ref f) (.clo m n ds)
 |fnK {f:aA} {k:Nat} (h:aP K aM (fnName k)=some (some (.ref f))):Rep K H O (.ref f) (.clo 1000 k [])
inductive Reps(K:Frag)(H:Hp)(O:aA->Prop):List V->List D->Prop
 |nil:Reps K H O [] []
 |cons {x:V} {d:D} {xs:List V} {ds:List D} (h:Rep K H O x d) (t:Reps K H O xs ds):Reps K H O (x::xs) (d::ds)
end
section
variable{K:Frag}{H H':Hp}{O O':aA->Prop}
def Keep(O:aA->Prop)(H H':Hp):Prop:=∀b o,¬O b->H b=some o->H' b=some o
theorem Keep.of_same(h:Same H H'):Keep O H H':=fun b o _ e=>h b o e
theorem Keep.rd{a:aA}{u:HO}(k:Keep O H H')(n : ¬O a)(h:Rd H a u):Rd H' a u:=by
 rcases h with h | ⟨o,h⟩
 . exact .inl (k _ _ n h)
 . exact .inr ⟨o,k _ _ n h⟩
def Kp(O O':aA->Prop)(H H':Hp):Prop:=∀b o,¬O b->H b=some o->¬O' b/\H' b=some o
theorem Kp.rd{a:aA}{u:HO}(k:Kp O O' H H')(n : ¬O a)(h:Rd H a u):¬O' a/\Rd H' a u:=by
 rcases h with h | ⟨o,h⟩
 . exact⟨(k _ _ n h).1,.inl (k _ _ n h).2⟩
 . exact⟨(k _ _ n h).1,.inr ⟨o,(k _ _ n h).2⟩⟩
theorem ClosOk.gen(k:Kp O O' H H'){cl:List (Str×aA)}{xs:List V}(h:ClosOk H O cl xs):ClosOk H' O' cl xs:=by
 induction h with
 |nil=>exact .nil
 |cons no h d r _ ih=>exact .cons (k _ _ no h).1 (k _ _ no h).2 d r ih
theorem LamAt.gen{f:aA}{t:LamT}{cl:List (Str×aA)}(k:Kp O O' H H')(h:LamAt H O f t cl):LamAt H' O' f t cl:=by
 obtain⟨n,o,oc,u,uc,fd,c,vs,tq,h1,h2,h3,h4,h5,h6,h7,h8,h9,h10,h11,h12,h13,h14,h15,h16,h17⟩:=h;exact⟨(k _ _ n h1).1,o,oc,u,uc,fd,c,vs,tq,(k _ _ n h1).2,h2,h3,h4,h5,h6,h7,h8,h9,h10,h11,h12,h13,(k _ _ h14 h15).1,(k _ _ h14 h15).2,h16,h17⟩
theorem Kp.of(k:Keep O H H'):Kp O O H H':=fun b o n e=>⟨n,k b o n e⟩
theorem Kp.less(k:∀a,O' a->O a):Kp O O' H H:=fun b o n e=>⟨fun z=>n (k _ z),e⟩
theorem ClosOk.keep(k:Keep O H H'){cl:List (Str×aA)}{xs:List V}(h:ClosOk H O cl xs):ClosOk H' O cl xs:=h.gen (.of k)
theorem LamAt.keep{f:aA}{t:LamT}{cl:List (Str×aA)}(k:Keep O H H')(h:LamAt H O f t cl):LamAt H' O f t cl:=h.gen (.of k)
theorem ClosOk.of(k:∀a o u,H a=some (.frz o u)->¬O' a):∀{cl:List (Str×aA)} {xs:List V},ClosOk H O cl xs->ClosOk H O' cl xs
 |_,_,.nil=>.nil
 |_,_,.cons no h d r t=>.cons (k _ _ _ h) h d r (ClosOk.of k t)
theorem LamAt.of{f:aA}{t:LamT}{cl:List (Str×aA)}(k:∀a o u,H a=some (.frz o u)->¬O' a)(h:LamAt H O f t cl):LamAt H O' f t cl:=by
 obtain⟨n,o,oc,u,uc,fd,c,vs,tq,h1,h2,h3,h4,h5,h6,h7,h8,h9,h10,h11,h12,h13,h14,h15,h16,h17⟩:=h;exact⟨k _ _ _ h1,o,oc,u,uc,fd,c,vs,tq,h1,h2,h3,h4,h5,h6,h7,h8,h9,h10,h11,h12,h13,k _ _ _ h15,h15,h16,h17⟩
def ins1(p:aA)(O:aA->Prop):aA->Prop:=fun b=>b=p\/O b
theorem Kp.ins{p:aA}(hp:H p=none):Kp O (ins1 p O) H H:=fun b o n e=>⟨fun z=>z.elim (fun q=>by rw[q,hp] at e;cases e) n,e⟩
mutual
theorem Rep.gen(k:Kp O O' H H'):∀{v:V} {d:D},Rep K H O v d->Rep K H' O' v d
 |_,_,.non=>.non
 |_,_,.bl b=>.bl b
 |_,_,.int i=>.int i
 |_,_,.str x=>.str x
 |_,_,.tup n h r=>.tup (k.rd n h).1 (k.rd n h).2 (Reps.gen k r)
 |_,_,.tupK h r=>.tupK h (Reps.gen k r)
 |_,_,.lst n h r=>.lst (k.rd n h).1 (k.rd n h).2 (Reps.gen k r)
 |_,_,.lstK h r=>.lstK h (Reps.gen k r)
 |_,_,.dct n h e r=>.dct (k _ _ n h).1 (k _ _ n h).2 e (Reps.gen k r)
 |_,_,.dcf n h e r=>.dcf (k _ _ n h).1 (k _ _ n h).2 e (Reps.gen k r)
 |_,_,.ins c n h e r=>.ins c (k _ _ n h).1 (k _ _ n h).2 e (Reps.gen k r)
 |_,_,.clo tx h e nd c r=>.clo tx (h.gen k) e nd (c.gen k) (Reps.gen k r)
 |_,_,.fnK h=>.fnK h
theorem Reps.gen(k:Kp O O' H H'):∀{vs:List V} {ds:List D},Reps K H O vs ds->Reps K H' O' vs ds
 |_,_,.nil=>.nil
 |_,_,.cons h t=>.cons (Rep.gen k h) (Reps.gen k t)
end
theorem Rep.keep(k:Keep O H H'){v:V}{d:D}(h:Rep K H O v d):Rep K H' O v d:=h.gen (.of k)
theorem Reps.keep(k:Keep O H H'){v:List V}{d:List D}(h:Reps K H O v d):Reps K H' O v d:=h.gen (.of k)
theorem Rep.mono(k:Same H H'){v:V}{d:D}(h:Rep K H O v d):Rep K H' O v d:=h.keep (.of_same k)
theorem Reps.mono(k:Same H H'){v:List V}{d:List D}(h:Reps K H O v d):Reps K H' O v d:=h.keep (.of_same k)
theorem Rep.less(k:∀a,O' a->O a){v:V}{d:D}(h:Rep K H O v d):Rep K H O' v d:=h.gen (.less k)
theorem Reps.less(k:∀a,O' a->O a){v:List V}{d:List D}(h:Reps K H O v d):Reps K H O' v d:=h.gen (.less k)
theorem Rd.some{a:aA}{u:HO}(h:Rd H a u):H a≠none:=by
 rcases h with h | ⟨o,h⟩<;>(rw[h];simp)
theorem Rep.more{p:aA}(hp:H p=none){v:V}{d:D}(h:Rep K H O v d):Rep K H (ins1 p O) v d:=h.gen (.ins hp)
theorem Reps.more{p:aA}(hp:H p=none){v:List V}{d:List D}(h:Reps K H O v d):Reps K H (ins1 p O) v d:=h.gen (.ins hp)
noncomputable def mutO:HO->Bool
 | .lst _ | .dK _ | .dT _ | .set _ _ | .ins _ _ _=>true
 |_=>false
noncomputable def MutHO:={ u:HO // mutO u=true }
def Old(H:Hp):aA->Prop:=fun a=>∃o,H a=some o/\mutO o=true
theorem Old.mono(k:Same H H'){a:aA}(h:Old H a):Old H' a:=let ⟨o,e,m⟩:=h;⟨o,k _ _ e,m⟩
def jJ:aA->Prop:=fun _=>False
mutual
theorem Rep.flattn(ho:∀a,O a->Old H a):∀{v:V} {d:D},Rep K H O' v d->flat d=true->Rep K H O v d
 |_,_,.non=>fun _=>.non
 |_,_,.bl b=>fun _=>.bl b
 |_,_,.int i=>fun _=>.int i
 |_,_,.str x=>fun _=>.str x
 |_,_,.tup n h r=>fun f=>.tup (fun z=>by
    obtain⟨u,e,m⟩:=ho _ z;rcases h with h | ⟨o,h⟩
    . rw[e] at h;cases h;cases m
    . rw[e] at h;cases h;cases m) h (Reps.flattn ho r (by simpa[flat] using f))
 |_,_,.tupK h r=>fun f=>.tupK h (Reps.flattn ho r (by simpa[flat] using f))
 |_,_,.lst _ _ _=>fun f=>by simp[flat] at f
 |_,_,.lstK _ _=>fun f=>by simp[flat] at f
 |_,_,.dct _ _ _ _=>fun f=>by simp[flat] at f
 |_,_,.dcf _ _ _ _=>fun f=>by simp[flat] at f
 |_,_,.ins _ _ _ _ _=>fun f=>by simp[flat] at f
 |_,_,.clo _ _ _ _ _ _=>fun f=>by simp[flat] at f
 |_,_,.fnK _=>fun f=>by simp[flat] at f
theorem Reps.flattn(ho:∀a,O a->Old H a):∀{vs:List V} {ds:List D},Reps K H O' vs ds->flats ds=true->Reps K H O vs ds
 |_,_,.nil=>fun _=>.nil
 | _, _, .cons h t => fun f => by
   simp only[flats,cA] at f;exact .cons (Rep.flattn ho h f.1) (Reps.flattn ho t f.2)
end
theorem Rep.flatten(ho:∀a,O a->Old H a){v:V}{d:D}(f:flat d=true)(r:Rep K H O' v d):Rep K H O v d:=r.flattn ho f
theorem Reps.flatten(ho:∀a,O a->Old H a){v:List V}{d:List D}(f:flats d=true)(r:Reps K H O' v d):Reps K H O v d:=r.flattn ho f
theorem Reps.length:∀{vs:List V} {ds:List D},Reps K H O vs ds->vs.length=ds.length
 |_,_,.nil=>rfl
 |_,_,.cons _ t=>by simp[Reps.length t]
theorem Reps.get:∀{vs:List V} {ds:List D} {i:Nat} {d:D},Reps K H O vs ds->ds[i]?=some d->∃v,vs[i]?=some v/\Rep K H O v d
 |_,_,_,_,.nil,e=>by simp at e
 |_,_,0,_,.cons h _,e=>by simp at e;subst e;exact⟨_,rfl,h⟩
 | _, _, i + 1, d, .cons _ t, e => by
   obtain⟨v,h1,h2⟩:=Reps.get (i:=i) (d:=d) t (by simpa using e);exact⟨v,by simpa using h1,h2⟩
theorem Reps.append:∀{xs ys:List V} {ds es:List D},Reps K H O xs ds->Reps K H O ys es->Reps K H O (xs++ys) (ds++es)
 |_,_,_,_,.nil,s=>s
 |_,_,_,_,.cons r t,s=>.cons r (Reps.append t s)
theorem Reps.set{x:V}{d:D}(r:Rep K H O x d):∀{xs:List V} {ds:List D} (i:Nat),Reps K H O xs ds->Reps K H O (xs.set i x) (ds.set i d)
 |_,_,_,.nil=>.nil
 |_,_,0,.cons _ t=>.cons r t
 |_,_,i+1,.cons q t=>.cons q (Reps.set r i t)
theorem Reps.drop:∀{xs:List V} {ds:List D} (n:Nat),Reps K H O xs ds->Reps K H O (xs.drop n) (ds.drop n)
 |_,_,0,r=>r
 |_,_,_+1,.nil=>.nil
 |_,_,n+1,.cons _ t=>Reps.drop n t
theorem Reps.take:∀{xs:List V} {ds:List D} (n:Nat),Reps K H O xs ds->Reps K H O (xs.take n) (ds.take n)
 |_,_,0,_=>.nil
 |_,_,_+1,.nil=>.nil
 |_,_,n+1,.cons r t=>.cons r (Reps.take n t)
theorem Reps.ints:∀(ns:List Int),Reps K H O (ns.map V.int) (ns.map D.int)
 |[]=>.nil
 |n::r=>.cons (.int n) (Reps.ints r)
def WRep(K:Frag)(H:Hp)(O:aA->Prop)(v:V)(d:D):Prop:=Rep K H O v d\/∃a xs l,v=.ref a/\d=.lst l/\O a/\H a=some (.lst xs)/\Reps K H O xs l
theorem WRep.mono(k:Same H H'){v:V}{d:D}(h:WRep K H O v d):WRep K H' O v d:=by
 rcases h with h | ⟨a,xs,l,e1,e2,ho,h,r⟩
 . exact .inl (h.mono k)
 . exact .inr ⟨a,xs,l,e1,e2,ho,k _ _ h,r.mono k⟩
theorem WRep.any{v:V}{d:D}(h:WRep K H O v d):Rep K H jJ v d:=by
 rcases h with h | ⟨a,xs,l,rfl,rfl,ho,h,r⟩
 . exact h.less (fun _ z=>z.elim)
 . exact .lst (fun z=>z.elim) (.inl h) (r.less fun _ z=>z.elim)
theorem WRep.seqL{v:V}{l:List D}(h:WRep K H O v (.lst l)):∃a xs,v=.ref a/\SqL K H a xs/\Reps K H O xs l:=by
 rcases h with h | ⟨a,xs,l',rfl,e,ho,h,r⟩
 . cases h with
   |lst n h r=>exact⟨_,_,rfl,.inl h,r⟩
   |lstK h r=>exact⟨_,_,rfl,.inr h,r⟩
 . cases e;exact⟨a,xs,rfl,.inl (.inl h),r⟩
theorem WRep.seqT{v:V}{l:List D}(h:WRep K H O v (.tup l)):∃a xs,v=.ref a/\SqT K H a xs/\Reps K H O xs l:=by
 rcases h with h | ⟨a,xs,l',rfl,e,ho,h,r⟩
 . cases h with
   |tup n h r=>exact⟨_,_,rfl,.inl h,r⟩
   |tupK h r=>exact⟨_,_,rfl,.inr h,r⟩
 . cases e
theorem WRep.int'{v:V}{i:Int}(h:WRep K H O v (.int i)):v=.int i:=by
 rcases h with h | ⟨a,xs,l',rfl,e,_⟩
 . cases h;rfl
 . cases e
theorem WRep.str'{v:V}{i:Str}(h:WRep K H O v (.str i)):v=.str i:=by
 rcases h with h | ⟨a,xs,l',rfl,e,_⟩
 . cases h;rfl
 . cases e
end
mutual
inductive RepO(K:Frag)(H:Hp)(O:aA->Prop):V->OT->List aA->Prop
 |val {v:V} {d:D} (r:Rep K H O v d):RepO K H O v (.val d) []
 |lst {a:aA} {xs:List V} {ts:List OT} {fs:List aA} (n:O a) (h:H a=some (.lst xs)) (r:RepsO K H O xs ts fs):RepO K H O (.ref a) (.lst ts) (a::fs)
 |tup {a:aA} {xs:List V} {ts:List OT} {fs:List aA} (n : ¬O a) (h:Rd H a (.tup xs)) (r:RepsO K H O xs ts fs):RepO K H O (.ref a) (.tup ts) fs
 |dct {a:aA} {kvs:List (Key×V)} {ks:List Key} {ts:List OT} {fs:List aA} (n:O a) (h:H a=some (.dK kvs)) (e:kvs.map (·.1)=ks) (r:RepsO K H O (kvs.map (·.2)) ts fs):RepO K H O (.ref a) (.dct ks ts) (a::fs)
 |ins {a C dx:aA} {t:Nat} {kvs:List (Str×V)} {ts:List OT} {fs:List aA} (c:aP K aM (cQ t)=some (some (.ref C))) (n:O a) (h:H a=some (.ins C dx kvs)) (e:kvs.map (·.1)=cH t) (r:RepsO K H O (kvs.map (·.2)) ts fs):RepO K H O (.ref a) (.ins t ts) (a::fs)
inductive RepsO(K:Frag)(H:Hp)(O:aA->Prop):List V->List OT->List aA->Prop
 |nil:RepsO K H O [] [] []
 |cons {x:V} {t:OT} {xs:List V} {ts:List OT} {fs gs:List aA} (h:RepO K H O x t fs) (r:RepsO K H O xs ts gs):RepsO K H O (x::xs) (t::ts) (fs++gs)
end
section
variable{K:Frag}{H H':Hp}{O O':aA->Prop}
mutual
theorem RepO.gen(k:Kp O O' H H'):∀{v:V} {t:OT} {fs:List aA},RepO K H O v t fs->(∀b∈fs,∀u,O b->H b=some u->O' b/\H' b=some u)->RepO K H' O' v t fs
 |_,_,_,.val r=>fun _=>.val (r.gen k)
 |_,_,_,.lst n h r=>fun hb=>.lst (hb _ (.head _) _ n h).1 (hb _ (.head _) _ n h).2 (RepsO.gen k r fun b z=>hb b (.tail _ z))
 |_,_,_,.tup n h r=>fun hb=>.tup (k.rd n h).1 (k.rd n h).2 (RepsO.gen k r hb)
 |_,_,_,.dct n h e r=>fun hb=>.dct (hb _ (.head _) _ n h).1 (hb _ (.head _) _ n h).2 e (RepsO.gen k r fun b z=>hb b (.tail _ z))
 |_,_,_,.ins c n h e r=>fun hb=>.ins c (hb _ (.head _) _ n h).1 (hb _ (.head _) _ n h).2 e (RepsO.gen k r fun b z=>hb b (.tail _ z))
theorem RepsO.gen(k:Kp O O' H H'):∀{v:List V} {t:List OT} {fs:List aA},RepsO K H O v t fs->(∀b∈fs,∀u,O b->H b=some u->O' b/\H' b=some u)->RepsO K H' O' v t fs
 |_,_,_,.nil=>fun _=>.nil
 |_,_,_,.cons h r=>fun hb=>.cons (RepO.gen k h fun b z=>hb b (aY _ z)) (RepsO.gen k r fun b z=>hb b (aG _ z))
end
theorem RepO.keep(k:Keep O H H'){v:V}{t:OT}{fs:List aA}(h:RepO K H O v t fs)(hb:∀b∈fs,∀u,H b=some u->H' b=some u):RepO K H' O v t fs:=h.gen (.of k) fun b z u o e=>⟨o,hb b z u e⟩
theorem RepsO.keep(k:Keep O H H'){v:List V}{t:List OT}{fs:List aA}(h:RepsO K H O v t fs)(hb:∀b∈fs,∀u,H b=some u->H' b=some u):RepsO K H' O v t fs:=h.gen (.of k) fun b z u o e=>⟨o,hb b z u e⟩
theorem RepO.mono(k:Same H H'){v:V}{t:OT}{fs:List aA}(h:RepO K H O v t fs):RepO K H' O v t fs:=h.keep (.of_same k) fun b _ u e=>k b u e
theorem RepsO.mono(k:Same H H'){v:List V}{t:List OT}{fs:List aA}(h:RepsO K H O v t fs):RepsO K H' O v t fs:=h.keep (.of_same k) fun b _ u e=>k b u e
theorem RepO.less(k:∀a,O' a->O a){v:V}{t:OT}{fs:List aA}(h:RepO K H O v t fs)(hb:∀b∈fs,O' b):RepO K H O' v t fs:=h.gen (.less k) fun b z _ _ e=>⟨hb b z,e⟩
theorem RepsO.less(k:∀a,O' a->O a){v:List V}{t:List OT}{fs:List aA}(h:RepsO K H O v t fs)(hb:∀b∈fs,O' b):RepsO K H O' v t fs:=h.gen (.less k) fun b z _ _ e=>⟨hb b z,e⟩
theorem RepO.more{p:aA}(hp:H p=none){v:V}{t:OT}{fs:List aA}(h:RepO K H O v t fs):RepO K H (ins1 p O) v t fs:=h.gen (.ins hp) fun _ _ _ o e=>⟨.inr o,e⟩
theorem RepsO.more{p:aA}(hp:H p=none){v:List V}{t:List OT}{fs:List aA}(h:RepsO K H O v t fs):RepsO K H (ins1 p O) v t fs:=h.gen (.ins hp) fun _ _ _ o e=>⟨.inr o,e⟩
mutual
theorem RepO.owns:∀{v:V} {t:OT} {fs:List aA},RepO K H O v t fs->∀b∈fs,O b/\∃u:MutHO,H b=some u.1
 |_,_,_,.val r=>fun b z=>nomatch z
 |_,_,_,.lst n h r=>fun b z=>(aE.mp z).elim (fun q=>q▸⟨n,⟨_,rfl⟩,h⟩) (RepsO.owns r b)
 |_,_,_,.tup n h r=>RepsO.owns r
 |_,_,_,.dct n h e r=>fun b z=>(aE.mp z).elim (fun q=>q▸⟨n,⟨_,rfl⟩,h⟩) (RepsO.owns r b)
 |_,_,_,.ins c n h e r=>fun b z=>(aE.mp z).elim (fun q=>q▸⟨n,⟨_,rfl⟩,h⟩) (RepsO.owns r b)
theorem RepsO.owns:∀{v:List V} {t:List OT} {fs:List aA},RepsO K H O v t fs->∀b∈fs,O b/\∃u:MutHO,H b=some u.1
 |_,_,_,.nil=>fun b z=>nomatch z
 |_,_,_,.cons h r=>fun b z=>(bG.mp z).elim (RepO.owns h b) (RepsO.owns r b)
end
mutual
theorem RepO.val':∀{v:V} {t:OT} {fs:List aA},RepO K H O v t fs->(∀a,O' a->O a/\a∉fs)->Rep K H O' v (otD t)
 |_,_,_,.val r=>fun k=>r.less fun a z=>(k a z).1
 |_,_,_,.lst n h r=>fun k=>by unfold otD;exact .lst (fun z=>(k _ z).2 (.head _)) (.inl h) (RepsO.val' r fun a z=>⟨(k a z).1,fun q=>(k a z).2 (.tail _ q)⟩)
 |_,_,_,.tup n h r=>fun k=>by unfold otD;exact .tup (fun z=>n (k _ z).1) h (RepsO.val' r k)
 |_,_,_,.dct n h e r=>fun k=>by unfold otD;exact .dct (fun z=>(k _ z).2 (.head _)) h e (RepsO.val' r fun a z=>⟨(k a z).1,fun q=>(k a z).2 (.tail _ q)⟩)
 |_,_,_,.ins c n h e r=>fun k=>by unfold otD;exact .ins c (fun z=>(k _ z).2 (.head _)) h e (RepsO.val' r fun a z=>⟨(k a z).1,fun q=>(k a z).2 (.tail _ q)⟩)
theorem RepsO.val':∀{v:List V} {t:List OT} {fs:List aA},RepsO K H O v t fs->(∀a,O' a->O a/\a∉fs)->Reps K H O' v (otDs t)
 |_,_,_,.nil=>fun _=>by unfold otDs;exact .nil
 |_,_,_,.cons h r=>fun k=>by unfold otDs;exact .cons (RepO.val' h fun a z=>⟨(k a z).1,fun q=>(k a z).2 (aY _ q)⟩) (RepsO.val' r fun a z=>⟨(k a z).1,fun q=>(k a z).2 (aG _ q)⟩)
end
theorem RepO.any{v:V}{t:OT}{fs:List aA}(h:RepO K H O v t fs):Rep K H jJ v (otD t):=h.val' fun _ z=>z.elim
end
noncomputable def SlOk(K:Frag)(H₀ H:Hp)(O:aA->Prop):Option V->Sl->Prop
 |_,.no=>True
 |some x,.v d=>Rep K H O x d
 |some (.ref a),.own l=>O a/\∃xs,H a=some (.lst xs)/\Reps K H O xs l
 |some (.ref a),.fr l=>¬O a/\H₀ a=none/\∃xs,H a=some (.lst xs)/\Reps K H O xs l
 |_,.ob _ _=>True
 |some (.ref a),.exc t=>∃C o u,aP K aM (xName t)=some (some (.ref C))/\H a=some (.frz o u)/\o.cls=.ref C
 |_,_=>False
def IsOwn(ds:List Sl)(i:Nat):Prop:=∃l,ds[i]?=some (.own l)
inductive HI where
 |rep (v:V) (d:D) | base (B:aA->Prop) | root (k a:Nat) | fz (a:aA) (o:Obj) (kvs:List (Key×V)) (l:List D)
abbrev Hold:=List HI
noncomputable def HOk(K:Frag)(H₀ H:Hp)(O:aA->Prop):HI->Prop
 | .rep v d=>Rep K H O v d
 | .base B=>∀a,B a->O a/\H₀ a≠none
 | .root _ _=>True
 | .fz a o kvs l=>¬O a/\H a=some (.frz o (.dK kvs))/\Reps K H O (kvs.map (·.2)) l
def Obs(K:Frag)(H₀ H:Hp)(O:aA->Prop)(σ : L2.St)(ds:List Sl)(hd:Hold):Prop:=∃F:Nat->List aA,∀(i:Nat) (r:Option Nat) (t:OT),ds[i]?=some (.ob r t)->∃v,σ[i]?=some (some v)/\RepO K H O v t (F i)/\(∀k a,r=some k->HI.root k a∈hd->v=.ref a)/\(F i).Nodup ∧
 ∀b∈F i,H₀ b=none/\(∀j r' t',j≠i->ds[j]?=some (.ob r' t')->b∉F j)/\∀j,IsOwn ds j->σ[j]?≠some (some (.ref b))
structure Ok(K:Frag)(H₀ H:Hp)(O:aA->Prop)(σ : L2.St)(ds:List Sl)(hd:Hold):Prop where
 same:Same H₀ H
 fresh:∀(i:Nat) (l:List D) (a:aA),ds[i]?=some (.own l)->σ[i]?=some (some (.ref a))->H₀ a=none
 dom:∀a,O a->∃u:MutHO,H a=some u.1
 len : σ.length=ds.length
 sl:∀(i:Nat) (s:Sl),ds[i]?=some s->SlOk K H₀ H O (σ[i]?.join) s
 apart:∀(i j:Nat) (a:aA),i≠j->IsOwn ds i->IsOwn ds j->σ[i]?=some (some (.ref a))->σ[j]?=some (some (.ref a))->False
 hold:∀p∈hd,HOk K H₀ H O p
 obs:Obs K H₀ H O σ ds hd
section
variable{K:Frag}{H₀ H H':Hp}{O O':aA->Prop}{σ : L2.St}{ds:List Sl}{hd:Hold}
theorem HOk.mono(k:Same H H'):∀{p:HI},HOk K H₀ H O p->HOk K H₀ H' O p
 | .rep _ _,h=>Rep.mono k h
 | .base _,h=>h
 | .root _ _,h=>h
 | .fz _ _ _ _,h=>⟨h.1,k _ _ h.2.1,Reps.mono k h.2.2⟩
theorem HOk.keep(k:Keep O H H'):∀{p:HI},HOk K H₀ H O p->HOk K H₀ H' O p
 | .rep _ _,h=>Rep.keep k h
 | .base _,h=>h
 | .root _ _,h=>h
 | .fz _ _ _ _,h=>⟨h.1,k _ _ h.1 h.2.1,Reps.keep k h.2.2⟩
theorem Obs.tr{σ':L2.St}{ds':List Sl}(h:Obs K H₀ H O σ ds hd)(tr:∀v t fs,RepO K H O v t fs->(∀b∈fs,H₀ b=none/\∀j,IsOwn ds j->σ[j]?≠some (some (.ref b)))->RepO K H' O' v t fs)(hob:∀(i:Nat) (r:Option Nat) (t:OT),ds'[i]?=some (.ob r t)->ds[i]?=some (.ob r t)/\σ'[i]?=σ[i]?)(hown:∀(j:Nat) (b:aA),IsOwn ds' j->σ'[j]?=some (some (.ref b))->(IsOwn ds j/\σ[j]?=some (some (.ref b)))\/H b=none):Obs K H₀ H' O' σ' ds' hd:=by
 obtain⟨F,hF⟩:=h;refine⟨F,fun i r t e=>?_⟩;obtain⟨e1,e2⟩:=hob i r t e;obtain⟨v,h1,h2,h3,h4,h5⟩:=hF i r t e1;refine⟨v,e2.trans h1,tr v t _ h2 fun b hb=>⟨(h5 b hb).1,(h5 b hb).2.2⟩,h3,h4,fun b hb=>⟨(h5 b hb).1,fun j r' t' hj ej=>(h5 b hb).2.1 j r' t' hj (hob j r' t' ej).1,fun j oj ej=>?_⟩⟩;rcases hown j b oj ej with⟨o1,o2⟩ | hn
 . exact(h5 b hb).2.2 j o1 o2
 . obtain⟨_, xs, z⟩ := h2.owns b hb;rw[hn] at z;cases z
theorem Obs.no(h:∀(i:Nat) (r:Option Nat) (t:OT),ds[i]?≠some (.ob r t)):Obs K H₀ H O σ ds hd:=⟨fun _=>[],fun i r t e=>(h i r t e).elim⟩
theorem Obs.mono(k:Same H H')(h:Obs K H₀ H O σ ds hd):Obs K H₀ H' O σ ds hd:=h.tr (fun _ _ _ r _=>r.mono k) (fun _ _ _ e=>⟨e,rfl⟩) fun _ _ o e=>.inl ⟨o,e⟩
theorem vH{i:Nat}{s:Sl}(hs:∀r t,s≠.ob r t){j:Nat}{r:Option Nat}{t:OT}(e:(ds.set i s)[j]?=some (.ob r t)):ds[j]?=some (.ob r t)/\j≠i:=by
 by_cases hj:j=i
 . subst hj
   by_cases hl:j<ds.length
   . rw[aS hl] at e;cases e;exact(hs r t rfl).elim
   . rw[bV (by simpa using hl)] at e;cases e
 . rw[aD (Ne.symm hj)] at e;exact⟨e,hj⟩
theorem wW{i:Nat}{s:Sl}(hs:∀l,s≠.own l){j:Nat}(e:IsOwn (ds.set i s) j):IsOwn ds j/\j≠i:=by
 obtain⟨l,e⟩:=e
 by_cases hj:j=i
 . subst hj
   by_cases hl:j<ds.length
   . rw[aS hl] at e;cases e;exact(hs l rfl).elim
   . rw[bV (by simpa using hl)] at e;cases e
 . rw[aD (Ne.symm hj)] at e;exact⟨⟨l,e⟩,hj⟩
theorem SlOk.mono(k:Same H H'):∀{x:Option V} {s:Sl},SlOk K H₀ H O x s->SlOk K H₀ H' O x s
 |none,.no,_=>trivial
 |some (.ref _),.no,_=>trivial
 |some _,.no,_=>by simp[SlOk]
 | x, .ob _ _, _ => by cases x with
   |none=>trivial
   |some x=>cases x<;>trivial
 | some x, .v d, h => by
   have h:Rep K H O x d:=by cases x<;>exact h
   show SlOk K H₀ H' O (some x) (.v d);have:=h.mono k;cases x<;>exact this
 |some (.ref a),.own l,⟨ho,xs,h,r⟩=>⟨ho,xs,k _ _ h,r.mono k⟩
 |some (.ref a),.fr l,⟨ho,h0,xs,h,r⟩=>⟨ho,h0,xs,k _ _ h,r.mono k⟩
 |some (.ref a),.exc t,⟨C,o,u,h1,h2,h3⟩=>⟨C,o,u,h1,k _ _ h2,h3⟩
theorem Ok.old(o:Ok K H₀ H O σ ds hd){a:aA}(h:O a):Old H a:=let ⟨xs,e⟩:=o.dom a h;⟨_,e,xs.2⟩
theorem Ok.mono(k:Same H H')(o:Ok K H₀ H O σ ds hd):Ok K H₀ H' O σ ds hd :=
 ⟨o.same.trans k,o.fresh,fun a h=>let ⟨xs,e⟩:=o.dom a h;⟨xs,k _ _ e⟩,o.len,fun i s e=>(o.sl i s e).mono k,o.apart,fun p hp=>(o.hold p hp).mono k,o.obs.mono k⟩
theorem Ok.free{p:aA}(o:Ok K H₀ H O σ ds hd)(h:H p=none):¬O p:=fun z=>by
 obtain⟨xs,e⟩:=o.dom p z;rw[h] at e;cases e
theorem Ok.read{i:Nat}{d:D}(o:Ok K H₀ H O σ ds hd)(e:ds[i]?=some (.v d)):∃v,σ[i]?=some (some v)/\Rep K H O v d:=by
 have h:=o.sl i _ e;cases q : σ[i]? with
 |none=>rw[q] at h;exact h.elim
 | some x =>
   rw[q] at h;cases x with
   |none=>exact h.elim
   |some x=>exact⟨x,rfl,by cases x<;>exact h⟩
theorem Ok.readO{i:Nat}{l:List D}(o:Ok K H₀ H O σ ds hd)(e:ds[i]?=some (.own l)):∃a xs,σ[i]?=some (some (.ref a))/\O a/\H a=some (.lst xs)/\Reps K H O xs l:=by
 have h:=o.sl i _ e;cases q : σ[i]? with
 |none=>rw[q] at h;exact h.elim
 | some x =>
   rw[q] at h;cases x with
   |none=>exact h.elim
   | some x =>
     cases x with
     |ref a=>obtain⟨ho,xs,h1,h2⟩:=h;exact⟨a,xs,rfl,ho,h1,h2⟩
     |_=>exact h.elim
theorem Ok.readX{i t:Nat}(o:Ok K H₀ H O σ ds hd)(e:ds[i]?=some (.exc t)):∃a C ob u,σ[i]?=some (some (.ref a))/\aP K aM (xName t)=some (some (.ref C))/\H a=some (.frz ob u)/\ob.cls=.ref C:=by
 have h:=o.sl i _ e;cases q : σ[i]? with
 |none=>rw[q] at h;exact h.elim
 | some x =>
   rw[q] at h;cases x with
   |none=>exact h.elim
   | some x =>
     cases x with
     |ref a=>obtain⟨C,ob,u,h1,h2,h3⟩:=h;exact⟨a,C,ob,u,rfl,h1,h2,h3⟩
     |_=>exact h.elim
theorem Ok.readF{i:Nat}{l:List D}(o:Ok K H₀ H O σ ds hd)(e:ds[i]?=some (.fr l)):∃a xs,σ[i]?=some (some (.ref a))/\¬O a/\H₀ a=none/\H a=some (.lst xs)/\Reps K H O xs l:=by
 have h:=o.sl i _ e;cases q : σ[i]? with
 |none=>rw[q] at h;exact h.elim
 | some x =>
   rw[q] at h;cases x with
   |none=>exact h.elim
   | some x =>
     cases x with
     |ref a=>obtain⟨ho,h0,xs,h1,h2⟩:=h;exact⟨a,xs,rfl,ho,h0,h1,h2⟩
     |_=>exact h.elim
theorem jF{x:Option V}: SlOk K H₀ H O x .no:=by
 cases x with
 |none=>trivial
 |some x=>cases x<;>trivial
theorem yM{x:Option V}{r:Option Nat}{t:OT}: SlOk K H₀ H O x (.ob r t):=by
 cases x with
 |none=>trivial
 |some x=>cases x<;>trivial
theorem yE{x:V}{d:D}(h:Rep K H O x d):SlOk K H₀ H O (some x) (.v d):=by
 cases x<;>exact h
theorem Ok.set{i:Nat}{v:V}{d:D}(o:Ok K H₀ H O σ ds hd)(r:Rep K H O v d):Ok K H₀ H O (σ.set i (some v)) (ds.set i (.v d)) hd:=by
 have own':∀{j:Nat},IsOwn (ds.set i (.v d)) j->j≠i/\IsOwn ds j:=fun {j} ⟨l,e⟩=>by
  by_cases hj:j=i
  . subst hj
    by_cases hl:j<ds.length
    . rw[aS hl] at e;cases e
    . rw[bV (by simpa using hl)] at e;cases e
  . rw[aD (Ne.symm hj)] at e;exact⟨hj,l,e⟩
 refine⟨o.same,fun j l a e1 e2=>?_,o.dom,by simpa using o.len,fun j s e=>?_,fun j k a hjk hj hk e1 e2=>?_,o.hold,o.obs.tr (fun _ _ _ r _=>r) (fun j r t e=>by
  obtain⟨e1,hj⟩:=vH (fun r t=>by intro z;cases z) e
  exact⟨e1,by rw[aD (Ne.symm hj)]⟩) (fun j b oj ej=>by
  obtain⟨o1,hj⟩:=wW (fun l=>by intro z;cases z) oj;rw[aD (Ne.symm hj)] at ej
  exact .inl ⟨o1,ej⟩)⟩
 . obtain⟨n1, h1⟩ := own' ⟨l, e1⟩;rw[aD (Ne.symm n1)] at e1 e2;exact o.fresh j l a e1 e2
 . by_cases hj : j = i
   . subst hj
     by_cases hl:j<ds.length
     . rw[aS hl] at e;cases e;rw[aS (by rw[o.len];exact hl)];exact yE r
     . rw[bV (by simpa using hl)] at e;cases e
   . rw[aD (Ne.symm hj)] at e;rw[aD (Ne.symm hj)];exact o.sl j s e
 . obtain⟨n1, h1⟩ := own' hj;obtain⟨n2,h2⟩:=own' hk;rw[aD (Ne.symm n1)] at e1;rw[aD (Ne.symm n2)] at e2;exact o.apart j k a hjk h1 h2 e1 e2
theorem Ok.setO{i:Nat}{a:aA}{xs:List V}{l:List D}(o:Ok K H₀ H O σ ds hd)(k:Same H H')(hn:H a=none)(e:H' a=some (.lst xs))(r:Reps K H' (ins1 a O) xs l) :
  Ok K H₀ H' (ins1 a O) (σ.set i (some (.ref a))) (ds.set i (.own l)) hd:=by
 have up:∀{v:V} {d:D},Rep K H O v d->Rep K H' (ins1 a O) v d:=fun h=>(h.more hn).mono k;have ups:∀{v:List V} {d:List D},Reps K H O v d->Reps K H' (ins1 a O) v d:=fun h=>(h.more hn).mono k
 have other:∀j:Nat,IsOwn ds j->σ[j]?=some (some (.ref a))->False:=fun j ⟨l',e'⟩ q=>by
  obtain⟨b,ys,h1,h2,h3,_⟩:=o.readO e';rw[q] at h1;cases h1;rw[hn] at h3;cases h3
 have own':∀{j:Nat},j≠i->IsOwn (ds.set i (.own l)) j->IsOwn ds j:=fun {j} hj ⟨l',e'⟩=>⟨l',by rwa [aD (Ne.symm hj)] at e'⟩
 refine⟨o.same.trans k,fun j l' b e1 e2=>?_,fun b hb=>?_,by simpa using o.len,fun j s es=>?_,fun j m b hjm hj hm e1 e2=>?_,fun p hp=>?_,o.obs.tr (fun _ _ _ r _=>(r.more hn).mono k) (fun j r t e=>by
  obtain⟨e1,hj⟩:=vH (fun r t=>by intro z;cases z) e
  exact⟨e1,by rw[aD (Ne.symm hj)]⟩) (fun j b oj ej=>by
  by_cases hj:j=i
  . subst hj
    by_cases hl:j<σ.length
    . rw[aS hl] at ej;cases ej;exact .inr hn
    . rw[bV (by simpa using hl)] at ej;cases ej
  . rw [aD (Ne.symm hj)] at ej;obtain ⟨l',e'⟩:=oj;rw [aD (Ne.symm hj)] at e'
    exact .inl ⟨⟨l',e'⟩,ej⟩)⟩
 rotate_left 4
 . have := o.hold p hp;cases p with
   |rep v d=>exact up this
   |base B=>exact fun b hb=>⟨.inr (this b hb).1,(this b hb).2⟩
   |root k a=>exact True.intro
   |fz a' o' kvs' l'=>exact⟨fun z=>z.elim (fun z=>by have:=this.2.1;rw[z,hn] at this;cases this) this.1,k _ _ this.2.1,(Reps.more hn this.2.2).mono k⟩
 . by_cases hj : j = i
   . subst hj
     by_cases hl:j<σ.length
     . rw[aS hl] at e2;cases e2;exact o.same.free hn
     . rw[bV (by simpa using hl)] at e2;cases e2
   . rw[aD (Ne.symm hj)] at e1 e2;exact o.fresh j l' b e1 e2
 . rcases hb with rfl | hb
   . exact⟨⟨.lst xs,rfl⟩,e⟩
   . obtain⟨ys, q⟩ := o.dom b hb;exact⟨ys,k _ _ q⟩
 . by_cases hj : j = i
   . subst hj
     by_cases hl:j<ds.length
     . rw[aS hl] at es;cases es;rw[aS (by rw[o.len];exact hl)];exact⟨.inl rfl,xs,e,r⟩
     . rw[bV (by simpa using hl)] at es;cases es
   . rw [aD (Ne.symm hj)] at es;rw [aD (Ne.symm hj)];cases s with
     |no=>exact jF
     |ob r t=>exact yM
     | exc t =>
       obtain⟨a',C',ob',u',q1,q2,q3,q4⟩:=o.readX es;rw[q1];exact⟨C',ob',u',q2,k _ _ q3,q4⟩
     | fr l' =>
       obtain⟨a',xs',q1,q2,q0,q3,q4⟩:=o.readF es;rw[q1];exact⟨fun z=>z.elim (fun e'=>by rw[e',hn] at q3;cases q3) q2,q0,xs',k _ _ q3,ups q4⟩
     | v d =>
       obtain⟨v,h1,h2⟩:=o.read es;rw[h1];exact yE (up h2)
     | own l' =>
       obtain⟨b,ys,h1,h2,h3,h4⟩:=o.readO es;rw[h1];exact⟨.inr h2,ys,k _ _ h3,ups h4⟩
 . have hs:∀{q:Nat},q=i->(σ.set i (some (V.ref a)))[q]?=some (some (.ref b))->b=a:=fun {q} hq eq=>by
    subst hq
    by_cases hl:q<σ.length
    . rw[aS hl] at eq;cases eq;rfl
    . rw[bV (by simpa using hl)] at eq;cases eq
   by_cases h1:j=i
   . have hb := hs h1 e1;have h2:m≠i:=fun z=>hjm (h1.trans z.symm);rw[aD (Ne.symm h2),hb] at e2;exact other m (own' h2 hm) e2
   . by_cases h2 : m = i
     . have hb := hs h2 e2;rw[aD (Ne.symm h1),hb] at e1;exact other j (own' h1 hj) e1
     . rw[aD (Ne.symm h1)] at e1;rw[aD (Ne.symm h2)] at e2;exact o.apart j m b hjm (own' h1 hj) (own' h2 hm) e1 e2
theorem Ok.release{i:Nat}{l:List D}(o:Ok K H₀ H O σ ds hd)(e:ds[i]?=some (.own l)):∃O',Ok K H₀ H O' σ (ds.set i (.v (.lst l))) hd:=by
 obtain⟨a,xs,h1,h2,h3,h4⟩:=o.readO e;have hl:i<ds.length:=(aT.mp e).1
 let O':aA->Prop:=fun b=>O b/\b≠a
 have sub:∀b,O' b->O b:=fun b hb=>hb.1;have na : ¬O' a:=fun hb=>hb.2 rfl
 have own0:∀{j:Nat} {l':List D},(ds.set i (.v (.lst l)))[j]?=some (.own l')->ds[j]?=some (.own l'):=fun {j l'} e'=>by
  by_cases hj:j=i
  . subst hj;rw[aS hl] at e';cases e'
  . rwa [aD (Ne.symm hj)] at e'
 refine⟨O',o.same,fun j l' b e1 e2=>o.fresh j l' b (own0 e1) e2,fun b hb=>o.dom b (sub b hb),by simpa using o.len,fun j s es=>?_,fun j m b hjm hj hm e1 e2=>?_,fun p hp=>?_,o.obs.tr (fun _ _ _ r hb=>r.less sub fun b z=>⟨(r.owns b z).1,fun q=>(hb b z).2 i ⟨l,e⟩ (by rw[q];exact h1)⟩) (fun j r t ej=>by
  obtain⟨e1,hj⟩:=vH (fun r t=>by intro z;cases z) ej
  exact⟨e1,rfl⟩) (fun j b oj ej=>.inl ⟨(wW (fun l=>by intro z;cases z) oj).1,ej⟩)⟩
 rotate_left 2
 . have := o.hold p hp;cases p with
   |rep v d=>exact Rep.less sub this
   |base B=>exact fun b hb=>⟨⟨(this b hb).1,fun z=>(this b hb).2 (z▸o.fresh i l a e h1)⟩,(this b hb).2⟩
   |root k a=>exact True.intro
   |fz a' o' kvs' l'=>exact⟨fun z=>this.1 (sub _ z),this.2.1,Reps.less sub this.2.2⟩
 . by_cases hj : j = i
   . subst hj;rw[aS hl] at es;cases es;rw[h1];exact yE (.lst na (.inl h3) (h4.less sub))
   . rw [aD (Ne.symm hj)] at es;cases s with
     |no=>exact jF
     |ob r t=>exact yM
     | exc t =>
       obtain⟨a',C',ob',u',q1,q2,q3,q4⟩:=o.readX es;rw[q1];exact⟨C',ob',u',q2,q3,q4⟩
     | fr l' =>
       obtain⟨a',xs',q1,q2,q0,q3,q4⟩:=o.readF es;rw[q1];exact⟨fun z=>q2 (sub _ z),q0,xs',q3,q4.less sub⟩
     | v d =>
       obtain⟨v,q1,q2⟩:=o.read es;rw[q1];exact yE (q2.less sub)
     | own l' =>
       obtain⟨b,ys,q1,q2,q3,q4⟩:=o.readO es;rw[q1];refine⟨⟨q2,fun z=>?_⟩,ys,q3,q4.less sub⟩;subst z;exact o.apart j i b hj ⟨l',es⟩ ⟨l,e⟩ q1 h1
 . have own':∀{j:Nat},IsOwn (ds.set i (.v (.lst l))) j->IsOwn ds j:=fun {j} ⟨l',e'⟩=>by
    by_cases hj:j=i
    . subst hj;rw[aS hl] at e';cases e'
    . rw[aD (Ne.symm hj)] at e';exact⟨l',e'⟩
   exact o.apart j m b hjm (own' hj) (own' hm) e1 e2
theorem Ok.modify{i:Nat}{l l':List D}{a:aA}{xs':List V}(o:Ok K H₀ H O σ ds hd)(e:ds[i]?=some (.own l))(ea : σ[i]?=some (some (.ref a)))(r:Reps K H O xs' l') :
  Ok K H₀ (upd H a (.lst xs')) O σ (ds.set i (.own l')) hd:=by
 obtain⟨a',xs,h1,h2,h3,h4⟩:=o.readO e;rw[ea] at h1;cases h1;have hl:i<ds.length:=(aT.mp e).1
 have k:Keep O H (upd H a (.lst xs')):=fun b u hb eb=>by
  rw[upd_ne (fun(z:b=a)=>hb (z.symm▸h2))];exact eb
 refine⟨fun b u eb=>?_,fun j l2 b e1 e2=>?_,fun b hb=>?_,by simpa using o.len,fun j s es=>?_,fun j m b hjm hj hm e1 e2=>?_,fun p hp=>(o.hold p hp).keep k,o.obs.tr (fun _ _ _ r hb=>r.keep k fun b z u eu=>by rw[upd_ne (fun q=>(hb b z).2 i ⟨l,e⟩ (by rw[q];exact ea))];exact eu) (fun j r t ej=>by
  obtain⟨e1,hj⟩:=vH (fun r t=>by intro z;cases z) ej
  exact⟨e1,rfl⟩) (fun j b oj ej=>by
  by_cases hj:j=i
  . subst hj;exact .inl ⟨⟨l,e⟩,ej⟩
  . obtain ⟨l', e'⟩ := oj;rw [aD (Ne.symm hj)] at e'
    exact .inl ⟨⟨l',e'⟩,ej⟩)⟩
 rotate_left 1
 . by_cases hj : j = i
   . subst hj;exact o.fresh j l b e e2
   . rw[aD (Ne.symm hj)] at e1;exact o.fresh j l2 b e1 e2
 rotate_right 1
 . rw[upd_ne (fun z => by rw[z, o.fresh i l a e ea] at eb;cases eb)];exact o.same b u eb
 . by_cases hba : b = a
   . subst hba;exact⟨⟨.lst xs',rfl⟩,zX⟩
   . rw[upd_ne hba];exact o.dom b hb
 . by_cases hj : j = i
   . subst hj;rw[aS hl] at es;cases es;rw[ea];exact⟨h2,xs',zX,r.keep k⟩
   . rw [aD (Ne.symm hj)] at es;cases s with
     |no=>exact jF
     |ob r t=>exact yM
     | exc t =>
       obtain⟨a',C',ob',u',q1,q2,q3,q4⟩:=o.readX es;rw[q1];exact⟨C',ob',u',q2,by rw[upd_ne (fun z=>by rw[z,h3] at q3;cases q3)];exact q3,q4⟩
     | fr l' =>
       obtain⟨a',xs'',q1,q2,q0,q3,q4⟩:=o.readF es;rw[q1];exact⟨q2,q0,xs'',by rw[upd_ne (fun z=>q2 (by rw[z];exact h2))];exact q3,q4.keep k⟩
     | v d =>
       obtain⟨v,q1,q2⟩:=o.read es;rw[q1];exact yE (q2.keep k)
     | own l'' =>
       obtain⟨b,ys,q1,q2,q3,q4⟩:=o.readO es;rw[q1];refine⟨q2,ys,?_,q4.keep k⟩;rw[upd_ne (fun z=>?_)]
       . exact q3
       . subst z;exact o.apart j i b hj ⟨_,es⟩ ⟨l,e⟩ q1 ea
 . have own':∀{j:Nat},IsOwn (ds.set i (.own l')) j->IsOwn ds j:=fun {j} ⟨l'',e'⟩=>by
    by_cases hj:j=i
    . subst hj;exact⟨l,e⟩
    . rw[aD (Ne.symm hj)] at e';exact⟨l'',e'⟩
   exact o.apart j m b hjm (own' hj) (own' hm) e1 e2
theorem Ok.holdMore{p:HI}(o:Ok K H₀ H O σ ds hd)(r:HOk K H₀ H O p)(hp:∀k a,HI.root k a≠p:=by intro _ _ z;cases z):Ok K H₀ H O σ ds (p::hd):=
 ⟨o.same,o.fresh,o.dom,o.len,o.sl,o.apart,fun q hq=>(aE.mp hq).elim (fun e=>e▸r) (o.hold q),let ⟨F,hF⟩:=o.obs;⟨F,fun i r t e=>let ⟨v,h1,h2,h3,h4⟩:=hF i r t e;⟨v,h1,h2,fun k a z y=>(aE.mp y).elim (fun y=>(hp k a y).elim) (h3 k a z),h4⟩⟩⟩
theorem Ok.holdLess{p:HI}(o:Ok K H₀ H O σ ds (p::hd)):Ok K H₀ H O σ ds hd :=
 ⟨o.same,o.fresh,o.dom,o.len,o.sl,o.apart,fun q hq=>o.hold q (aN _ hq),let ⟨F,hF⟩:=o.obs;⟨F,fun i r t e=>let ⟨v,h1,h2,h3,h4⟩:=hF i r t e;⟨v,h1,h2,fun k a z y=>h3 k a z (aN _ y),h4⟩⟩⟩
end
section
variable(X:Cx)
def PV(e:Expr)(f:FE):Prop:=∃t,PE X e t/\∀H₀ H O σ ds hd d Q,Ok X.K H₀ H O σ ds hd->f ds=some d->(∀v H',Same H H'->Rep X.K H' O v d->Q v H')->t σ H Q
def PVw(e:Expr)(f:FE):Prop:=∃t,PE X e t/\∀H₀ H O σ ds hd d Q,Ok X.K H₀ H O σ ds hd->f ds=some d->(∀v H',Same H H'->WRep X.K H' O v d->Q v H')->t σ H Q
def PVf(e:Expr)(f:FA):Prop:=∃t,PE X e t/\∀H₀ H O σ ds hd l Q,Ok X.K H₀ H O σ ds hd->f ds=some l →
 (∀a xs H',Same H H'->H a=none->H' a=some (.lst xs)->Reps X.K H' (ins1 a O) xs l->Q (.ref a) H')->t σ H Q
def PTv(e:Expr)(c:FT):Prop:=∃t,PT X e t/\∀H₀ H O σ ds hd b Q,Ok X.K H₀ H O σ ds hd->c ds=some b->(∀H',Same H H'->Q b H')->t σ H Q
def PWv(e:Expr)(c:FT):Prop:=∃t,PW X e t/\∀H₀ H O σ ds hd b Q,Ok X.K H₀ H O σ ds hd->c ds=some b->(∀H',Same H H'->Q b H')->t σ H Q
def PAv(es:List Expr)(f:FA):Prop:=∃t,PA X es t/\∀H₀ H O σ ds hd l Q,Ok X.K H₀ H O σ ds hd->f ds=some l->(∀vs H',Same H H'->BL (WRep X.K H' O) vs l->Q vs H')->t σ H Q
def PAs(es:List Expr)(f:FA):Prop:=∃t,PA X es t/\∀H₀ H O σ ds hd l Q,Ok X.K H₀ H O σ ds hd->f ds=some l->(∀vs H',Same H H'->Reps X.K H' O vs l->Q vs H')->t σ H Q
end
section
variable{X:Cx}
theorem PV.w{e:Expr}{f:FE}(h:PV X e f):PVw X e f:=by
 obtain⟨t,ht,hf⟩:=h;exact⟨t,ht,fun H₀ H O σ ds hd d Q o e q=>hf H₀ H O σ ds hd d Q o e fun v H' s r=>q v H' s (.inl r)⟩
theorem PVf.s{e:Expr}{f:FA}(h:PVf X e f):PV X e (mkL f):=by
 obtain⟨t,ht,hf⟩:=h;refine⟨t,ht,fun H₀ H O σ ds hd d Q o e q=>?_⟩;unfold mkL at e;obtain⟨l,hl,rfl⟩:=mpd e;rw[hl] at e;cases e;refine hf H₀ H O σ ds hd l Q o hl fun a xs H' s hn he r=>q _ _ s ?_;exact .lst (o.free hn) (.inl he) (r.less fun _ z=>.inr z)
theorem zK(i:Nat){x:Str}{pos:Pos}(hN:X.N[i]?=some x:=by rfl)(hv:Vis X.env.scope x:=by first | exact Or.inl rfl | exact Or.inr (Or.inl rfl) | exact Or.inr (Or.inr rfl))(hd:(x==("__debug__" : Str))=false:=by decide)(hcd:(x==("__classdict__" : Str))=false:=by decide):PV X (.Name x pos) (qC i):=by
 refine⟨_,xI hN hv hd hcd,fun H₀ H O σ ds hd d Q o e q=>?_⟩;unfold qC at e;cases hs:ds[i]? with
 |none=>rw[hs] at e;cases e
 | some s =>
   rw[hs] at e;cases s with
   | v d' =>
     cases e;obtain⟨v,h1,h2⟩:=o.read hs;exact⟨v,h1,q v H (Same.refl _) h2⟩
   |no=>cases e
   |exc _=>cases e
   |fr _=>cases e
   |ob _ _=>cases e
   |own l=>cases e
theorem zF(i:Nat){x:Str}{pos:Pos}(hN:X.N[i]?=some x:=by rfl)(hv:Vis X.env.scope x:=by first | exact Or.inl rfl | exact Or.inr (Or.inl rfl) | exact Or.inr (Or.inr rfl))(hd:(x==("__debug__" : Str))=false:=by decide)(hcd:(x==("__classdict__" : Str))=false:=by decide):PVw X (.Name x pos) (zJ i):=by
 refine⟨_,xI hN hv hd hcd,fun H₀ H O σ ds hd d Q o e q=>?_⟩;unfold zJ at e;cases hs:ds[i]? with
 |none=>rw[hs] at e;cases e
 | some s =>
   rw[hs] at e;cases s with
   | v d' =>
     cases e;obtain⟨v,h1,h2⟩:=o.read hs;exact⟨v,h1,q v H (Same.refl _) (.inl h2)⟩
   |no=>cases e
   |exc _=>cases e
   |fr _=>cases e
   |ob _ _=>cases e
   | own l =>
     cases e;obtain⟨a,xs,h1,h2,h3,h4⟩:=o.readO hs;exact⟨.ref a,h1,q _ H (Same.refl _) (.inr ⟨a,xs,l,rfl,rfl,h2,h3,h4⟩)⟩
theorem qU{i:Int}{j pos}: PV X (.Constant (.int i) j pos) (zA (.int i)):=⟨_,pe_int,fun _ H _ _ _ _ _ _ _ e q=>by cases e;exact q _ H (Same.refl _) (.int i)⟩
theorem wM{b:Bool}{j pos}: PV X (.Constant (.bool b) j pos) (zA (.bl b)):=⟨_,pe_bl,fun _ H _ _ _ _ _ _ _ e q=>by cases e;exact q _ H (Same.refl _) (.bl b)⟩
theorem qK{j pos}: PV X (.Constant .none j pos) (zA .non):=⟨_,pe_non,fun _ H _ _ _ _ _ _ _ e q=>by cases e;exact q _ H (Same.refl _) .non⟩
theorem jX{x:Str}{j pos}: PV X (.Constant (.str x) j pos) (zA (.str x)):=⟨_,pe_str,fun _ H _ _ _ _ _ _ _ e q=>by cases e;exact q _ H (Same.refl _) (.str x)⟩
theorem RG{x:Str}{v:V}{u:Value}{d:D}{pos:Pos}(hg:Gl X x)(hm:X.mg x=some u)(r:RelV v u)(hr:∀H O,Rep X.K H O v d)(hd:(x==("__debug__" : Str))=false:=by decide):PV X (.Name x pos) (zA d):=
 ⟨_,pe_glob hg hm r hd,fun _ H O _ _ _ _ _ _ e q=>by cases e;exact q _ H (Same.refl _) (hr H O)⟩
def OpS(X:Cx)(r:R2)(op:D->D->Option D):Prop:=∀H O x y dx dy d Q,(∀a,O a->∃u:MutHO,H a=some u.1)->WRep X.K H O x dx->WRep X.K H O y dy->op dx dy=some d->(∀v H',Same H H'->Rep X.K H' O v d->Q v H')->r x y H Q
theorem JJ{r:R2}{op:D->D->Option D}(hs:OpS X r op){a b:Expr}{fa fb:FE}{ta tb:TE}(ha:∀H₀ H O σ ds hd d Q,Ok X.K H₀ H O σ ds hd->fa ds=some d->(∀v H',Same H H'->WRep X.K H' O v d->Q v H')->ta σ H Q)(hb:∀H₀ H O σ ds hd d Q,Ok X.K H₀ H O σ ds hd->fb ds=some d->(∀v H',Same H H'->WRep X.K H' O v d->Q v H')->tb σ H Q) :
  ∀H₀ H O σ ds hd d Q,Ok X.K H₀ H O σ ds hd->zI op fa fb ds=some d->(∀v H',Same H H'->Rep X.K H' O v d->Q v H')->tOp r ta tb σ H Q:=by
 intro H₀ H O σ ds hd d Q o e q;unfold zI at e;obtain⟨dx,h1,e⟩:=bnd e;obtain⟨dy,h2,e⟩:=bnd e;refine ha H₀ H O σ ds hd dx _ o h1 fun x H1 s1 r1=>?_;refine hb H₀ H1 O σ ds hd dy _ (o.mono s1) h2 fun y H2 s2 r2=>?_;exact hs H2 O x y dx dy d Q ((o.mono s1).mono s2).dom (r1.mono s2) r2 e fun v H' s r=>q v H' ((s1.trans s2).trans s) r
theorem uL{op:Operator}{r:R2}{opD:D->D->Option D}{a b:Expr}{fa fb:FE}{pos:Pos}(ho:OpR X (lG op) r)(hs:OpS X r opD)(ha:PVw X a fa)(hb:PVw X b fb):PV X (.BinOp a op b pos) (zI opD fa fb):=by
 obtain⟨ta,pa,ha⟩:=ha;obtain⟨tb,pb,hb⟩:=hb;exact⟨_,aAl ho pa pb,JJ hs (a:=a) (b:=b) ha hb⟩
theorem OX{op:JB}{r:R2}{opD:D->D->Option D}{a b:Expr}{fa fb:FE}{pos:Pos}(ho:OpR X (eQ op) r)(hs:OpS X r opD)(ha:PVw X a fa)(hb:PVw X b fb)(hm:dQ op b=false):PV X (.Compare a [op] [b] pos) (zI opD fa fb):=by
 obtain⟨ta,pa,ha⟩:=ha;obtain⟨tb,pb,hb⟩:=hb;exact⟨_,RS ho pa pb hm,JJ hs (a:=a) (b:=b) ha hb⟩
theorem RJ{op:JB}{r:R2}{opD:D->D->Option D}{a b:Expr}{fa fb:FE}{pos:Pos}(ho:OpR X (eQ op) r)(hs:OpS X r opD)(ha:PVw X a fa)(hb:PVw X b fb)(hm:dQ op b=false):PTv X (.Compare a [op] [b] pos) (zS (zI opD fa fb)):=by
 obtain⟨ta,pa,ha⟩:=ha;obtain⟨tb,pb,hb⟩:=hb;refine⟨_,RK ho pa pb hm,fun H₀ H O σ ds hd k Q o e q=>?_⟩;unfold zS at e;obtain⟨d,h,e⟩:=bnd e;refine JJ hs (a:=a) (b:=b) ha hb H₀ H O σ ds hd d _ o h fun v H' s r=>?_;cases d with
 |bl c=>cases e;cases r;exact⟨_,rfl,q H' s⟩
 |_=>cases e
theorem os_add:OpS X (fun x y H Q=>rI0 (fun i j=>.int (i+j)) x y H Q\/∃i j,x=.str i/\y=.str j/\i.length+j.length<=sizeLine/\Q (.str (i++j)) H) jW:=by
 intro H O x y dx dy d Q ho rx ry e q;cases dx<;>cases dy<;>first | (simp[jW] at e;done) | skip
 . cases e;rw[rx.int',ry.int'];exact .inl ⟨_,_,rfl,rfl,q _ H (Same.refl _) (.int _)⟩
 . rename_i x y;simp only [jW] at e
   split at e
   . rename_i hl;cases e;rw[rx.str',ry.str'];exact .inr ⟨_,_,rfl,rfl,hl,q _ H (Same.refl _) (.str _)⟩
   . cases e
theorem op_addU:OpR X (lG .Add) (fun x y H Q=>rI0 (fun i j=>.int (i+j)) x y H Q\/∃i j,x=.str i/\y=.str j/\i.length+j.length<=sizeLine/\Q (.str (i++j)) H):=op_add.or PD
theorem os_sub:OpS X (rI0 fun i j=>.int (i-j)) subD:=by
 intro H O x y dx dy d Q ho rx ry e q;cases dx<;>cases dy<;>first | (simp[subD] at e;done) | skip
 cases e;rw[rx.int',ry.int'];exact⟨_,_,rfl,rfl,q _ H (Same.refl _) (.int _)⟩
def CDivB(i j:Int):Prop:=divOk j
theorem aAt:OpR X (lG .FloorDiv) (rI CDivB fun i j=>.int (i/j)):=opI fun i j _ _ _ _ _ hc q=>by
 have e:i.fdiv j=i/j:=GS _ (AC hc.1);refine floordiv_int (by have:=hc.1;omega) ?_ (.inl (PyProof.noPylong_of_log2 hc.2));rw[e];exact q
theorem os_fdiv:OpS X (rI CDivB fun i j=>.int (i/j)) qR:=by
 intro H O x y dx dy d Q ho rx ry e q;cases dx<;>cases dy<;>first | (simp[qR] at e;done) | skip
 simp only[qR] at e
 split at e
 . rename_i hc;cases e;rw[rx.int',ry.int'];exact⟨_,_,rfl,rfl,hc,q _ H (Same.refl _) (.int _)⟩
 . cases e
theorem os_mod:OpS X (rI (fun _ j=>0<j) fun i j=>.int (i%j)) jA:=by
 intro H O x y dx dy d Q ho rx ry e q;cases dx<;>cases dy<;>first | (simp[jA] at e;done) | skip
 simp only[jA] at e
 split at e
 . rename_i hc;cases e;rw[rx.int',ry.int'];exact⟨_,_,rfl,rfl,hc,q _ H (Same.refl _) (.int _)⟩
 . cases e
theorem BV{p:Int->Int->Bool}: OpS X (rI0 fun i j=>.bl (p i j)) (cmpI p):=by
 intro H O x y dx dy d Q ho rx ry e q;cases dx<;>cases dy<;>first | (simp[cmpI] at e;done) | skip
 cases e;rw[rx.int',ry.int'];exact⟨_,_,rfl,rfl,q _ H (Same.refl _) (.bl _)⟩
end
section
variable{X:Cx}
theorem PV.t{e:Expr}{f:FE}(h:PV X e f)(he:∀whole,BF e X.env whole=(do let v <- whole;fP e.pos;dW [v] (XB v)):=by intro _;rfl):PTv X e (zS f):=by
 obtain⟨t,ht,hf⟩:=h;refine⟨_,ZW ht he,fun H₀ H O σ ds hd k Q o e q=>?_⟩;unfold zS at e;obtain⟨d,h,e⟩:=bnd e;refine hf H₀ H O σ ds hd d _ o h fun v H' s r=>?_;cases d with
 |bl c=>cases e;cases r;exact⟨_,rfl,q H' s⟩
 |_=>cases e
theorem xU{a:Expr}{pos:Pos}{c:FT}(ha:PTv X a c):PWv X (.BoolOp .And [a] pos) c:=by
 obtain⟨t,ht,hf⟩:=ha;exact⟨_,pw_and1 ht,hf⟩
theorem yV{a:Expr}{pos:Pos}{c:FT}(ha:PTv X a c):PWv X (.BoolOp .Or [a] pos) c:=by
 obtain⟨t,ht,hf⟩:=ha;exact⟨_,pw_or1 ht,hf⟩
theorem xG{a b:Expr}{rest:List Expr}{pos:Pos}{c d:FT}(ha:PTv X a c)(hb:PWv X (.BoolOp .And (b::rest) pos) d):PWv X (.BoolOp .And (a::b::rest) pos) (andT c d):=by
 obtain⟨t,ht,hf⟩:=ha;obtain⟨u,hu,hg⟩:=hb;refine⟨_,pw_and ht hu,fun H₀ H O σ ds hd k Q o e q=>?_⟩;unfold andT at e;obtain⟨b,h,e⟩:=bnd e;refine hf H₀ H O σ ds hd b _ o h fun H' s=>?_;cases b with
 |true=>exact iteT (hg H₀ H' O σ ds hd k Q (o.mono s) (by simpa using e) fun H'' s'=>q H'' (s.trans s'))
 | false =>
   have:false=k:=by simpa using e
   subst this;exact iteF (q H' s)
theorem wN{a b:Expr}{rest:List Expr}{pos:Pos}{c d:FT}(ha:PTv X a c)(hb:PWv X (.BoolOp .Or (b::rest) pos) d):PWv X (.BoolOp .Or (a::b::rest) pos) (orT c d):=by
 obtain⟨t,ht,hf⟩:=ha;obtain⟨u,hu,hg⟩:=hb;refine⟨_,pw_or ht hu,fun H₀ H O σ ds hd k Q o e q=>?_⟩;unfold orT at e;obtain⟨b,h,e⟩:=bnd e;refine hf H₀ H O σ ds hd b _ o h fun H' s=>?_;cases b with
 |false=>exact iteF (hg H₀ H' O σ ds hd k Q (o.mono s) (by simpa using e) fun H'' s'=>q H'' (s.trans s'))
 | true =>
   have:true=k:=by simpa using e
   subst this;exact iteT (q H' s)
theorem PWv.t{e:Expr}{c:FT}(h:PWv X e c):PTv X e c:=by
 obtain⟨t,ht,hf⟩:=h;exact⟨t,ht.pt,hf⟩
theorem yB{a:Expr}{pos:Pos}{c:FT}(ha:PTv X a c):PTv X (.UnaryOp .Not a pos) (notT c):=by
 obtain⟨t,ht,hf⟩:=ha;refine⟨_,ZY ht,fun H₀ H O σ ds hd k Q o e q=>?_⟩;unfold notT at e;obtain⟨b,h,rfl⟩:=mpd e;exact hf H₀ H O σ ds hd b _ o h fun H' s=>q H' s
theorem vG{a:Expr}{op}{pos:Pos}{f:FE}(ha:PV X a f):PV X (.BoolOp op [a] pos) f:=by
 obtain⟨t,ht,hf⟩:=ha;exact⟨_,pe_one ht,hf⟩
theorem CY{a b:Expr}{rest:List Expr}{pos:Pos}{f g:FE}(ha:PV X a f)(hb:PV X (.BoolOp .And (b::rest) pos) g):PV X (.BoolOp .And (a::b::rest) pos) (andV f g):=by
 obtain⟨t,ht,hf⟩:=ha;obtain⟨u,hu,hg⟩:=hb;refine⟨_,pe_and ht hu,fun H₀ H O σ ds hd d Q o e q=>?_⟩;unfold andV at e;obtain⟨dd,h,e⟩:=bnd e;refine hf H₀ H O σ ds hd dd _ o h fun v H' s r=>?_;cases dd with
 | bl c =>
   cases r;cases c with
   |true=>exact⟨true,rfl,iteT (hg H₀ H' O σ ds hd d Q (o.mono s) e fun v H'' s'=>q v H'' (s.trans s'))⟩
   | false =>
     have:D.bl false=d:=Option.some.inj e;subst this;exact⟨false,rfl,iteF (q _ H' s (.bl false))⟩
 |_=>cases e
theorem RF{a b:Expr}{rest:List Expr}{pos:Pos}{f g:FE}(ha:PV X a f)(hb:PV X (.BoolOp .Or (b::rest) pos) g):PV X (.BoolOp .Or (a::b::rest) pos) (orV f g):=by
 obtain⟨t,ht,hf⟩:=ha;obtain⟨u,hu,hg⟩:=hb;refine⟨_,pe_or ht hu,fun H₀ H O σ ds hd d Q o e q=>?_⟩;unfold orV at e;obtain⟨dd,h,e⟩:=bnd e;refine hf H₀ H O σ ds hd dd _ o h fun v H' s r=>?_;cases dd with
 | bl c =>
   cases r;cases c with
   |false=>exact⟨false,rfl,iteF (hg H₀ H' O σ ds hd d Q (o.mono s) e fun v H'' s'=>q v H'' (s.trans s'))⟩
   | true =>
     have:D.bl true=d:=Option.some.inj e;subst this;exact⟨true,rfl,iteT (q _ H' s (.bl true))⟩
 |_=>cases e
theorem pv_not{a:Expr}{pos:Pos}{f:FE}(ha:PV X a f):PV X (.UnaryOp .Not a pos) (notV f):=by
 obtain⟨t,ht,hf⟩:=ha;refine⟨_,pe_not ht,fun H₀ H O σ ds hd d Q o e q=>?_⟩;unfold notV at e;obtain⟨dd,h,e⟩:=bnd e;refine hf H₀ H O σ ds hd dd _ o h fun v H' s r=>?_;cases dd with
 |bl c=>cases r;cases e;exact⟨c,rfl,q _ H' s (.bl _)⟩
 |_=>cases e
theorem tM{c a b:Expr}{pos:Pos}{fc:FT}{f g:FE}(hc:PTv X c fc)(ha:PV X a f)(hb:PV X b g):PV X (.IfExp c a b pos) (ifV fc f g):=by
 obtain⟨tc,pc,hc⟩:=hc;obtain⟨t,ht,hf⟩:=ha;obtain⟨u,hu,hg⟩:=hb;refine⟨_,aAn pc ht hu,fun H₀ H O σ ds hd d Q o e q=>?_⟩;unfold ifV at e;obtain⟨k,h,e⟩:=bnd e;refine hc H₀ H O σ ds hd k _ o h fun H' s=>?_;cases k with
 |true=>exact iteT (hf H₀ H' O σ ds hd d Q (o.mono s) (by simpa using e) fun v H'' s'=>q v H'' (s.trans s'))
 |false=>exact iteF (hg H₀ H' O σ ds hd d Q (o.mono s) (by simpa using e) fun v H'' s'=>q v H'' (s.trans s'))
theorem yQ:PAv X [] zV:=⟨_,yK,fun _ H _ _ _ _ _ _ _ e q=>by cases e;exact q _ H (Same.refl _) .nil⟩
theorem zQ:PAs X [] zV:=⟨_,yK,fun _ H _ _ _ _ _ _ _ e q=>by cases e;exact q _ H (Same.refl _) .nil⟩
theorem jP{e:Expr}{es:List Expr}{f:FE}{g:FA}(ha:PVw X e f)(hr:PAv X es g)(hs:aF (e::es) X.env=(false,bM e X.env)::aF es X.env:=by rfl):PAv X (e::es) (zB f g):=by
 obtain⟨t,ht,hf⟩:=ha;obtain⟨u,hu,hg⟩:=hr;refine⟨_,jN ht hu hs,fun H₀ H O σ ds hd l Q o e q=>?_⟩;unfold zB at e;obtain⟨x,h,e⟩:=bnd e;obtain⟨r,h2,rfl⟩:=mpd e;refine hf H₀ H O σ ds hd x _ o h fun v H1 s1 r1=>?_;refine hg H₀ H1 O σ ds hd r _ (o.mono s1) h2 fun vs H2 s2 r2=>?_;exact q _ H2 (s1.trans s2) (.cons (r1.mono s2) r2)
theorem zE{e:Expr}{es:List Expr}{f:FE}{g:FA}(ha:PV X e f)(hr:PAs X es g)(hs:aF (e::es) X.env=(false,bM e X.env)::aF es X.env:=by rfl):PAs X (e::es) (zB f g):=by
 obtain⟨t,ht,hf⟩:=ha;obtain⟨u,hu,hg⟩:=hr;refine⟨_,jN ht hu hs,fun H₀ H O σ ds hd l Q o e q=>?_⟩;unfold zB at e;obtain⟨x,h,e⟩:=bnd e;obtain⟨r,h2,rfl⟩:=mpd e;refine hf H₀ H O σ ds hd x _ o h fun v H1 s1 r1=>?_;refine hg H₀ H1 O σ ds hd r _ (o.mono s1) h2 fun vs H2 s2 r2=>?_;exact q _ H2 (s1.trans s2) (.cons (r1.mono s2) r2)
theorem qH{H:Hp}{p:aA}(h:H p=none)(o:HO):Same H (upd H p o):=fun b u q=>by rw[upd_ne (qV q h)];exact q
theorem jB{es:List Expr}{pos:Pos}{g:FA}(h:PAs X es g):PVf X (.List es pos) (qD g):=by
 obtain⟨t,ht,hf⟩:=h;refine⟨_,PB ht,fun H₀ H O σ ds hd l Q o e q=>?_⟩;unfold qD at e;cases h:g ds with
 |none=>rw[h] at e;cases e
 | some l' =>
   rw[h] at e;simp only[aO] at e
   split at e
   . rename_i hl;cases e;refine hf H₀ H O σ ds hd l _ o h fun vs H1 s1 r1=>⟨by rw [r1.length]; exact hl,fun p hp=>?_⟩
     refine q p vs _ (s1.trans (qH hp _)) (s1.free hp) zX ?_;exact(r1.more hp).mono (qH hp _)
   . cases e
theorem qQ{es:List Expr}{x1}{pos:Pos}{g:FA}(h:PAs X es g):PV X (.Tuple es x1 pos) (mkT (qD g)):=by
 obtain⟨t,ht,hf⟩:=h;refine⟨_,pe_tup ht,fun H₀ H O σ ds hd d Q o e q=>?_⟩;unfold mkT qD at e;cases h:g ds with
 |none=>rw[h] at e;cases e
 | some l' =>
   rw[h] at e;simp only[aO] at e
   split at e
   . rename_i hl;cases e;refine hf H₀ H O σ ds hd l' _ o h fun vs H1 s1 r1=>⟨by rw [r1.length]; exact hl,fun p hp=>?_⟩
     refine q _ _ (s1.trans (qH hp _)) ?_;exact .tup ((o.mono s1).free hp) (.inl zX) (r1.mono (qH hp _))
   . cases e
theorem TQ{K:Frag}{H:Hp}{O:aA->Prop}{xs:List V}{l:List D}{i:Int}{d:D}(r:Reps K H O xs l)(e:atI l i=some d):∃v,atI xs i=some v/\Rep K H O v d:=by
 unfold atI at e ⊢;rw[r.length];cases h:ixN l.length i with
 |none=>rw[h] at e;cases e
 | some j =>
   rw[h] at e;exact r.get e
theorem ix_sem{K:Frag}{H:Hp}{O:aA->Prop}{x y:V}{dx dy d:D}{Q:VK}(rx:WRep K H O x dx)(ry:WRep K H O y dy)(e:ixD dx dy=some d)(q:∀v H',Same H H'->Rep K H' O v d->Q v H'):rIx K x y H Q:=by
 cases dx<;>cases dy<;>first | (simp[ixD] at e;done) | skip
 . simp only [ixD] at e
   split at e
   . rename_i hl;rw[rx.str',ry.int'];rename_i z i;obtain⟨c,hc,rfl⟩:=mpd e;exact .inr (.inr ⟨_,_,c,rfl,rfl,hl,hc,q _ H (Same.refl _) (.str _)⟩)
   . cases e
 . obtain⟨a, xs, rfl, hs, r⟩ := rx.seqT;rw[ry.int'];obtain⟨v,h1,h2⟩:=TQ r e;exact .inr (.inl ⟨a,xs,_,v,rfl,rfl,hs,h1,q _ H (Same.refl _) h2⟩)
 . obtain⟨a, xs, rfl, hs, r⟩ := rx.seqL;rw[ry.int'];obtain⟨v,h1,h2⟩:=TQ r e;exact .inl ⟨a,xs,_,v,rfl,rfl,hs,h1,q _ H (Same.refl _) h2⟩
theorem os_ix:OpS X (rIx X.K) ixD:=fun H O x y dx dy d Q ho rx ry e q=>ix_sem rx ry e q
theorem qM{a b:Expr}{fa fb:FE}{pos:Pos}(ha:PVw X a fa)(hb:PVw X b fb)(hs:TV b:=by exact fun _ _=>rfl):PV X (.Subscript a b pos) (zI ixD fa fb):=by
 obtain⟨ta,pa,ha⟩:=ha;obtain⟨tb,pb,hb⟩:=hb;exact⟨_,pe_ix ix_seq pa pb hs,JJ os_ix (a:=a) (b:=b) ha hb⟩
end
noncomputable def RetOk(K:Frag)(H H':Hp)(v:V):Ret->Prop
 | .val d=>Rep K H' (Old H) v d
 | .fresh l=>∃a xs,v=.ref a/\H a=none/\H' a=some (.lst xs)/\Reps K H' (ins1 a (Old H)) xs l
 | .any d=>Rep K H' jJ v d
 | .obj t=>∃fs,RepO K H' (fun b=>b∈fs\/Old H b) v t fs/\fs.Nodup/\∀b∈fs,H b=none
noncomputable def RetB(K:Frag)(H:Hp)(hd:Hold)(v:V):Ret->Prop
 | .any d=>∀B,HI.base B∈hd->Rep K H B v d
 |_=>True
noncomputable def spF(K:Frag)(n:Nat)(F:List D->Option Ret):Sp:=fun vs H Q _=>vs.length=n/\∃ds r,Reps K H jJ vs ds/\F ds=some r/\∀v H',Same H H'->RetOk K H H' v r->Q v H'
section
variable{X:Cx}
theorem JH{K:Frag}{H H':Hp}{O:aA->Prop}{v:V}{r:Ret}{d:D}(h:RetOk K H H' v r)(e:retV r=some d)(ho:∀a,O a->Old H a):Rep K H' O v d:=by
 cases r with
 |any d'=>cases e
 |val d'=>cases e;exact h.less ho
 | obj t =>
   cases e;obtain⟨fs,h1,h2,h3⟩:=h;refine h1.val' fun a z=>⟨.inr (ho a z),fun q=>?_⟩
   obtain⟨o,e,_⟩:=ho a z;rw[h3 a q] at e;cases e
 | fresh l =>
   cases e;obtain⟨a,xs,rfl,h1,h2,h3⟩:=h;refine .lst (fun z=>?_) (.inl h2) (h3.less fun b z=>.inr (ho b z));obtain⟨o,e,_⟩:=ho a z;rw[h1] at e;cases e
theorem RB{K:Frag}{H H':Hp}{O:aA->Prop}{v:V}{r:Ret}{l:List D}(h:RetOk K H H' v r)(e:retF r=some l)(ho:∀a,O a->Old H a):∃a xs,v=.ref a/\H a=none/\H' a=some (.lst xs)/\Reps K H' (ins1 a O) xs l:=by
 cases r with
 |any d'=>cases e
 |val d'=>cases e
 |obj t=>cases e
 | fresh l' =>
   cases e;obtain⟨a,xs,rfl,h1,h2,h3⟩:=h;exact⟨a,xs,rfl,h1,h2,h3.less fun b z=>z.elim .inl fun z=>.inr (ho b z)⟩
section
variable{k:Nat}{f:aA}{fd:aH}{ps:List Str}{n:Nat}{F:List D->Option Ret}{x:Str}{p pos:Pos}{e:Expr}{es:List Expr}{g:FA}
end
def CallS(X:Cx)(r:List V->Hp->VK->Prop)(F:List D->Option D):Prop:=∀H O vs l d Q,(∀a,O a->∃u:MutHO,H a=some u.1)->BL (WRep X.K H O) vs l->F l=some d->(∀v H',Same H H'->Rep X.K H' O v d->Q v H')->r vs H Q
theorem vM{x:Str}{p pos:Pos}{e:Expr}{es:List Expr}{id:String}{r:List V->Hp->VK->Prop}{F:List D->Option D}{g:FA}(hc:CallR X (.builtin id) r)(hs:CallS X r F)(hm:X.mg x=none)(hv:fQ x=some (.builtin id))(ha:PAv X (e::es) g)(hg:Gl X x)(hn:x≠"__name__":=by decide)(hdb:(x==("__debug__" : Str))=false:=by decide)(he:aF (e::es) X.env=(false,bM e X.env)::aF es X.env:=by rfl)(hpl:(cN pos (aF es X.env)).any (·.1)=false:=by rfl) :
  PV X (.Call (.Name x p) (e::es) [] pos) (callB F g):=by
 obtain⟨t,ht,hf⟩:=ha;refine⟨_,DI hc hg hm hv ht hn hdb he hpl,fun H₀ H O σ ds hd d Q o e q=>?_⟩;unfold callB at e;obtain⟨l,h,e⟩:=bnd e;refine hf H₀ H O σ ds hd l _ o h fun vs H1 s1 r1=>?_;exact hs H1 O vs l d Q (o.mono s1).dom r1 e fun v H' s' r=>q v H' (s1.trans s') r
theorem WT:CallR X (.builtin "len") (fun xs H Q=>(∃p ys,xs=[.ref p]/\(SqL X.K H p ys\/SqT X.K H p ys)/\Q (.int ys.length) H)\/∃z,xs=[.str z]/\z.length<=sizeLine/\Q (.int z.length) H):=LG.or LF
theorem cs_len:CallS X (fun xs H Q=>(∃p ys,xs=[.ref p]/\(SqL X.K H p ys\/SqT X.K H p ys)/\Q (.int ys.length) H)\/∃z,xs=[.str z]/\z.length<=sizeLine/\Q (.int z.length) H) lenD:=by
 intro H O vs l d Q ho r e q;unfold lenD at e
 split at e
 . cases e;cases r with
   | cons r rn =>
     cases rn;obtain⟨a,xs,rfl,hs,rs⟩:=r.seqL;refine .inl ⟨a,xs,rfl,.inl hs,?_⟩;rw[rs.length];exact q _ H (Same.refl _) (.int _)
 . cases e;cases r with
   | cons r rn =>
     cases rn;obtain⟨a,xs,rfl,hs,rs⟩:=r.seqT;refine .inl ⟨a,xs,rfl,.inr hs,?_⟩;rw[rs.length];exact q _ H (Same.refl _) (.int _)
 . split at e
   . rename_i hl;cases e;cases r with
     | cons r rn =>
       cases rn;rw[r.str'];exact .inr ⟨_,rfl,hl,q _ H (Same.refl _) (.int _)⟩
   . cases e
 . cases e
theorem kG{p pos:Pos}{e:Expr}{g:FA}(hm:X.mg "len" = none)(ha:PAv X [e] g)(hg:Gl X "len":=by rfl)(he:aF [e] X.env=[(false,bM e X.env)]:=by rfl) :
  PV X (.Call (.Name "len" p) [e] [] pos) (callB lenD g):=vM WT cs_len hm PySem.boot_len ha hg (by decide) (by decide) he rfl
noncomputable def After(X:Cx)(H₀ : Hp)(hd:Hold)(E:Ends):Out->Prop
 | .nx ds=>∀σ H O,Ok X.K H₀ H O σ ds hd->E.nx σ H
 | .bk ds=>∀σ H O,Ok X.K H₀ H O σ ds hd->E.bk σ H
 | .ct ds=>∀σ H O,Ok X.K H₀ H O σ ds hd->E.ct σ H
 | .rt r=>∀v H,Same H₀ H->RetOk X.K H₀ H v r->RetB X.K H hd v r->E.rt v H
variable(X) in
def PSv(st:Stmt)(g:FS):Prop:=∃t,PS X st t/\∀H₀ H O σ ds hd out E,Ok X.K H₀ H O σ ds hd->g ds=some out->After X H₀ hd E out->t E σ H
variable(X) in
def PSsv(st:List Stmt)(g:FS):Prop:=∃t,PSs X st t/\∀H₀ H O σ ds hd out E,Ok X.K H₀ H O σ ds hd->g ds=some out->After X H₀ hd E out->t E σ H
theorem zN:PSsv X [] qJ:=⟨_,RM,fun _ H O σ ds hd out E o e h=>by cases e;exact h σ H O o⟩
theorem zC{st:Stmt}{rest:List Stmt}{f g:FS}(h1:PSv X st f)(h2:PSsv X rest g):PSsv X (st::rest) (qG f g):=by
 obtain⟨t,ht,hf⟩:=h1;obtain⟨u,hu,hg⟩:=h2;refine⟨_,wR ht hu,fun H₀ H O σ ds hd out E o e h=>?_⟩;unfold qG at e;obtain⟨o1,h1,e⟩:=bnd e;refine hf H₀ H O σ ds hd o1 _ o h1 ?_;cases o1 with
 |nx ds'=>exact fun σ' H' O' o'=>hg H₀ H' O' σ' ds' hd out E o' e h
 |rt r=>cases e;exact h
 |bk ds'=>cases e;exact h
 |ct ds'=>cases e;exact h
theorem zD{st:Stmt}{f:FS}(h1:PSv X st f):PSsv X [st] f:=by
 obtain⟨t,ht,hf⟩:=h1;exact⟨_,BR ht,hf⟩
theorem JN{pos:Pos}: PSv X (.Continue pos) (fun ds=>some (.ct ds)):=⟨_,MI,fun _ H O σ ds hd out E o e h=>by cases e;exact h σ H O o⟩
theorem qE{c:Expr}{a b:List Stmt}{pos:Pos}{fc:FT}{f g:FS}(hc:PTv X c fc)(ha:PSsv X a f)(hb:PSsv X b g):PSv X (.If c a b pos) (ifG fc f g):=by
 obtain⟨tc,pc,hc⟩:=hc;obtain⟨t,ht,hf⟩:=ha;obtain⟨u,hu,hg⟩:=hb;refine⟨_,RN pc ht hu,fun H₀ H O σ ds hd out E o e h=>?_⟩;unfold ifG at e;obtain⟨k,h1,e⟩:=bnd e;refine hc H₀ H O σ ds hd k _ o h1 fun H' s=>?_;cases k with
 |true=>exact iteT (hf H₀ H' O σ ds hd out E (o.mono s) (by simpa using e) h)
 |false=>exact iteF (hg H₀ H' O σ ds hd out E (o.mono s) (by simpa using e) h)
theorem qB{i:Nat}{x:Str}{e:Expr}{pos pos':Pos}{f:FE}(hN:X.N.Nodup)(he:PV X e f)(hi:X.N[i]?=some x:=by rfl)(hx:Loc X.env.scope x:=by first | exact Or.inl rfl | exact Or.inr rfl)(hs:cV e (some (.Name x pos')) pos.line X.env=pure false:=by rfl)(hf:X.fn x=true\/X.env.scope.names.lookup x=some .local:=by first | exact .inl rfl | exact .inr rfl):PSv X (.Assign [.Name x pos'] e pos) (jL i f):=by
 obtain⟨t,ht,hg⟩:=he;refine⟨_,JP hN hi hx ht hs hf,fun H₀ H O σ ds hd out E o e h=>?_⟩;unfold jL at e;obtain⟨d,h1,rfl⟩:=mpd e;exact hg H₀ H O σ ds hd d _ o h1 fun v H' s r=>h _ _ _ ((o.mono s).set r)
theorem wF{i:Nat}{x:Str}{e:Expr}{pos pos':Pos}{f:FA}(hN:X.N.Nodup)(he:PVf X e f)(hi:X.N[i]?=some x:=by rfl)(hx:Loc X.env.scope x:=by first | exact Or.inl rfl | exact Or.inr rfl)(hs:cV e (some (.Name x pos')) pos.line X.env=pure false:=by rfl)(hf:X.fn x=true\/X.env.scope.names.lookup x=some .local:=by first | exact .inl rfl | exact .inr rfl):PSv X (.Assign [.Name x pos'] e pos) (setOG i f):=by
 obtain⟨t,ht,hg⟩:=he;refine⟨_,JP hN hi hx ht hs hf,fun H₀ H O σ ds hd out E o e h=>?_⟩;unfold setOG at e;obtain⟨l,h1,rfl⟩:=mpd e;exact hg H₀ H O σ ds hd l _ o h1 fun a xs H' s hn he r=>h _ _ _ (o.setO s hn he r)
theorem zM{e:Expr}{pos:Pos}{f:FE}(he:PVw X e f):PSv X (.Return (some e) pos) (retG f):=by
 obtain⟨t,ht,hg⟩:=he;refine⟨_,uM ht,fun H₀ H O σ ds hd out E o e h=>?_⟩;unfold retG at e;obtain⟨d,h1,e⟩:=bnd e;simp only[aO,flatR] at e
 split at e
 . rename_i hf;cases e;exact hg H₀ H O σ ds hd d _ o h1 fun v H' s r=>h _ _ (o.same.trans s) (Rep.flatten (fun a z=>Old.mono (o.same.trans s) z) hf r.any) True.intro
 . cases e
theorem yC{e:Expr}{pos:Pos}{f:FA}(he:PVf X e f):PSv X (.Return (some e) pos) (retOG f):=by
 obtain⟨t,ht,hg⟩:=he;refine⟨_,uM ht,fun H₀ H O σ ds hd out E o e h=>?_⟩;unfold retOG at e;obtain⟨l,h1,e⟩:=bnd e;simp only[aO,flatF] at e
 split at e
 . rename_i hf;cases e;refine hg H₀ H O σ ds hd l _ o h1 fun a xs H' s hn he r=>h _ _ (o.same.trans s) ⟨a,xs,rfl,o.same.free hn,he,Reps.flatten (fun b z=>?_) hf r⟩ True.intro;rcases z with rfl | z
   . exact⟨_,he,rfl⟩
   . exact Old.mono (o.same.trans s) z
 . cases e
theorem vL(i:Nat){x:Str}{pos pos':Pos}(hN:X.N[i]?=some x:=by rfl)(hv:Vis X.env.scope x:=by first | exact Or.inl rfl | exact Or.inr (Or.inl rfl) | exact Or.inr (Or.inr rfl))(hd:(x==("__debug__" : Str))=false:=by decide)(hcd:(x==("__classdict__" : Str))=false:=by decide):PSv X (.Return (some (.Name x pos')) pos) (retXG i):=by
 refine⟨_,uM (xI hN hv hd hcd),fun H₀ H O σ ds hd out E o e h=>?_⟩;unfold retXG at e;cases hs:ds[i]? with
 |none=>rw[hs] at e;cases e
 | some s =>
   rw[hs] at e;cases s with
   |v d'=>cases e
   |no=>cases e
   |exc _=>cases e
   |fr _=>cases e
   |ob _ _=>cases e
   | own l =>
     simp only[flatF] at e
     split at e
     . rename_i hf;cases e;obtain ⟨a,xs,h1,h2,h3,h4⟩:=o.readO hs;refine ⟨.ref a,h1,h _ _ o.same ⟨a,xs,rfl,o.fresh i l a hs h1,h3,Reps.flatten (fun b z=>?_) hf h4⟩ True.intro⟩;rcases z with rfl | z
       . exact⟨_,h3,rfl⟩
       . exact Old.mono o.same z
     . cases e
theorem JM{i:Nat}{x:Str}{e ek:Expr}{pos p1 p2:Pos}{fk fe:FE}(he:PV X e fe)(hk:PV X ek fk)(hN:X.N[i]?=some x:=by rfl)(hv:Vis X.env.scope x:=by first | exact Or.inl rfl | exact Or.inr (Or.inl rfl) | exact Or.inr (Or.inr rfl))(hd:(x==("__debug__" : Str))=false:=by decide)(hcd:(x==("__classdict__" : Str))=false:=by decide)(ha:∀v,pB (.Subscript (.Name x p1) ek p2) X.env v=(do
    let ov <- dW [v] (bM (.Name x p1) X.env)
    let iv <- dW [v,ov] (bM ek X.env)
    fP p2
    dW [v,ov,iv] (setItem ov iv v)
    release [v,ov,iv] []):=by intro _;rfl)(hs:QP [.Subscript (.Name x p1) ek p2] e pos.line X.env=pure false:=by rfl)(hw:QQ [.Subscript (.Name x p1) ek p2] e X.env=pure none:=by rfl)(h1:(fT [.Subscript (.Name x p1) ek p2] X.env).map (·.2)=[pB (.Subscript (.Name x p1) ek p2) X.env]:=by rfl):PSv X (.Assign [.Subscript (.Name x p1) ek p2] e pos) (putG i fk fe):=by
 obtain⟨te,pe,he⟩:=he;obtain⟨tk,pk,hk⟩:=hk;refine⟨_,aAh pe (pg_sub (xI hN hv hd hcd) pk YZ ha) hs hw h1,fun H₀ H O σ ds hd out E o e h=>?_⟩;unfold putG at e;cases hsl:ds[i]? with
 |none=>rw[hsl] at e;cases e
 | some s =>
   rw[hsl] at e;cases s with
   |v d'=>cases e
   |no=>cases e
   |exc _=>cases e
   |fr _=>cases e
   |ob _ _=>cases e
   | own l =>
     simp only at e;obtain⟨d,h1,e⟩:=bnd e;obtain⟨kd,h2,e⟩:=bnd e;cases kd with
     | int n =>
       simp only at e;obtain⟨j,h3,rfl⟩:=mpd e;refine he H₀ H O σ ds hd d _ o h1 fun v H1 s1 r1=>?_;obtain⟨a,xs,q1,q2,q3,q4⟩:=(o.mono s1).readO hsl;refine⟨.ref a,q1,?_⟩;refine hk H₀ H1 O σ ds hd _ _ (o.mono s1) h2 fun kv H2 s2 r2=>?_;cases r2;refine⟨a,xs,n,j,rfl,rfl,s2 _ _ q3,by rw[q4.length];exact h3,?_⟩;exact h _ _ _ (((o.mono s1).mono s2).modify hsl q1 ((q4.mono s2).set (r1.mono s2) j))
     |_=>cases e
theorem vZ{i:Nat}{x:Str}{e:Expr}{pos p1 p2 p3:Pos}{fe:FE}(he:PV X e fe)(hN:X.N[i]?=some x:=by rfl)(hv:Vis X.env.scope x:=by first | exact Or.inl rfl | exact Or.inr (Or.inl rfl) | exact Or.inr (Or.inr rfl))(hd:(x==("__debug__" : Str))=false:=by decide)(hcd:(x==("__classdict__" : Str))=false:=by decide)(hfew:((cN p3 (aF [e] X.env)).all (fun x=>!x.1)&&(fC p3 (dC [] X.env)).all (fun x=>x.1.isSome)
    && decide ([e].length+([]:List nQ).length+(if ([]:List nQ).isEmpty then 0 else 1)<30))=true:=by rfl)(hline:(p2.endLine==p3.line)=true:=by rfl)(hs:aF [e] X.env=(false,bM e X.env)::aF [] X.env:=by rfl)(hbase:cW (.Name x p1) "append" X.env (bM (.Name x p1) X.env)=bM (.Name x p1) X.env:=by rfl)(hsw:cV (.Call (.Attribute (.Name x p1) "append" p2) [e] [] p3) none pos.line X.env=pure false:=by rfl) :
  PSv X (.Expr (.Call (.Attribute (.Name x p1) "append" p2) [e] [] p3) pos) (appG i fe):=by
 obtain⟨te,pe,he⟩:=he;refine⟨_,xX (aAq hO ET ES IA (xI hN hv hd hcd) (jN pe yK hs) hbase hfew hline hs rfl) hsw,fun H₀ H O σ ds hd out E o e h=>?_⟩;unfold appG at e;cases hsl:ds[i]? with
 |none=>rw[hsl] at e;cases e
 | some s =>
   rw[hsl] at e;cases s with
   |v d'=>cases e
   |no=>cases e
   |exc _=>cases e
   |fr _=>cases e
   |ob _ _=>cases e
   | own l =>
     simp only at e;obtain⟨d,h1,e⟩:=bnd e
     split at e
     . rename_i hl;cases e;obtain⟨a,xs,q1,q2,q3,q4⟩:=o.readO hsl;refine⟨.ref a,q1,.inl ⟨rfl,xs,SqL.of q3⟩,?_⟩;refine he H₀ H O σ ds hd d _ o h1 fun v H1 s1 r1=>?_;refine⟨a,xs,v,rfl,rfl,s1 _ _ q3,by rw[q4.length];exact hl,?_⟩;exact h _ _ _ ((o.mono s1).modify hsl q1 ((q4.mono s1).append (.cons r1 .nil)))
     . cases e
theorem TR(n:Nat)(ds:List D)(i:Nat)(r:Option Nat)(t:OT):(args n ds)[i]?≠some (.ob r t):=fun e=>by
 unfold args at e
 by_cases hi:i<ds.length
 . rw [aU (by simpa using hi), aX] at e;cases h:ds[i]? with
   |none=>rw[h] at e;cases e
   |some d=>rw[h] at e;cases e
 . rw [bS (by simpa using hi), cX] at e
   split at e<;>cases e
theorem MQ{K:Frag}{H:Hp}{N:List Str}{vs:List V}{ds:List D}(r:Reps K H jJ vs ds):Ok K H H jJ (L2.start N vs) (args N.length ds) []:=by
 have hl:=r.length
 have no:∀i,IsOwn (args N.length ds) i->False:=fun i ⟨l,e⟩=>by
  unfold args at e
  by_cases hi:i<ds.length
  . rw [aU (by simpa using hi), aX] at e;cases h:ds[i]? with
    |none=>rw[h] at e;cases e
    |some d=>rw[h] at e;cases e
  . rw [bS (by simpa using hi), cX] at e
    split at e<;>cases e
 refine⟨Same.refl _,fun i l a e _=>(no i ⟨l,e⟩).elim,fun _ z=>z.elim,by simp[L2.start,args,hl],fun i s e=>?_,fun i j a _ hi _ _ _=>no i hi,(fun p hp=>nomatch hp),.no (TR _ _)⟩;unfold args at e;unfold L2.start
 by_cases hi:i<ds.length
 . rw[aU (by simpa using hi), aX] at e;rw[aU (by simpa[hl] using hi),aX];obtain⟨d,h,rfl⟩:=mpd e;obtain⟨v,h1,h2⟩:=r.get h;rw[h1];exact yE h2
 . rw [bS (by simpa using hi), cX] at e
   split at e
   . cases e;exact jF
   . cases e
def Does(g:FS)(n:Nat)(ds:List D)(r:Ret):Prop:=g (args n ds)=some (.rt r)\/(r=.val .non/\∃ds',g (args n ds)=some (.nx ds'))
theorem qF{P:aZ}{w:bK}{K:Frag}{mg:Str->Option Value}{base:Heap}{x qual:Str}{st:Stmt}{f:aA}{fd:aH}{N ps:List Str}{k:Nat}{F:List D->Option Ret}(Fn:Fun K x qual st f fd)(S:FnScope N ps (zH st)){g:FS}(hbody:∀(cdv:Value) (A:bO) (outer:List Env) (s:aC) (H:Hp) (E:XK),Room k (A.deeper (gD qual (zH st) s.heap.objs.size f cdv))->PSsv (cxOf CX0 P w K mg base N qual (zH st) f cdv A outer s H E).nox (qT st) g)(hg:∀ds r,ds.length=ps.length->F ds=some r->Does g N.length ds r):FnOk P w K mg base CX0 (k+1) f fd ps (spF K ps.length F):=by
 refine Fn.ok S (fun vs H Q E h=>h.1) (fun cdv A outer s H vs Q E hr h=>?_);obtain⟨hl,ds,r,rv,e,q⟩:=h;obtain⟨t,ht,hf⟩:=hbody cdv A outer s H E hr;refine⟨t,ht,?_⟩;have o:=MQ (N:=N) rv;rcases hg ds r (by rw[<- rv.length];exact hl) e with e' | ⟨rfl,ds',e'⟩
 . exact hf H H jJ _ _ [] _ _ o e' (fun v H' s r _=>q v H' s r)
 . exact hf H H jJ _ _ [] _ _ o e' (fun σ H' O o'=>q .non H' o'.same .non)
end
end FL
namespace L2
open PySem PySem.Spec PyProof.Rows
noncomputable def Its(x:Str):It:=⟨fun i _=>i<x.cps.size,fun i H v H'=>H'=H/\∃c,x.cps[i]?=some c/\v=.str ⟨#[c]⟩,fun i _=>i=x.cps.size⟩
theorem LO{P:aZ}{w:bK}{K:aJ}{tg:Expr}(x:Str)(t:Tok)(it:aA)(ty:String)(hn:["enumerate","zip","dict_itemiterator","dict_reverseitemiterator","odict_iterator","itertools.zip_longest","itertools.pairwise"].contains ty=false)(Wk:∀A:bO,A.handled=none->Walks P w A it [it] [it] x.cps.size (SignAt x) (fun i h=>h.IsStrIter it ty x t i))(hself:∀(A:bO) (i:Nat) (s:aC) (Q:Value->aC->Prop) (E:Value->aC->Prop),s.heap.IsStrIter it ty x t i->Q (.ref it) s->bD (bH P w) A (pyIter (.ref it)) Q E s):Turn P w K tg (Its x) [it] it (fun i h=>h.IsStrIter it ty x t i) where
 mem:=by simp
 obj:=fun i h st b hb=>by
  have e:b=it:=by simpa using hb
  subst e;obtain⟨o,e,c,d⟩:=st;exact⟨o,e,fun v z=>by rw[d] at z;cases z⟩
 keep:=fun i h h' st k=>by
  obtain⟨o,e,r⟩:=st;exact⟨o,k it (by simp) o e,r⟩
 item:=by
  intro X hP hw hK hc i aB s σ H E I hf st hg;subst hP hw hK;obtain⟨f0,f1,f2,f3,f4,f5⟩:=hf it (by simp);refine(Wk X.A (I.ok.hd hc)).item i s _ _ hg st fun v h' tk hv st' kk=>?_;obtain⟨c,u,hc',rfl⟩:=hv;have I1:Inv X aB σ H { s with heap:=h',toks:=tk }:=I.turned (fun b o hb e=>kk b o (by simpa using hb) e) f0 f1 f3 f4 f5;obtain⟨o,e,c1,d⟩:=id st';exact⟨_,rfl,IJ (s:={ s with heap:=h',toks:=tk }) e c1 d hn ⟨.str ⟨#[c]⟩,H,I1,⟨u,rfl⟩,⟨rfl,c,hc',rfl⟩,st',fun b hb=>(hf b hb).1⟩⟩
 done:=by
  intro X hP hw hK hc i aB s σ H E I hf st hg;subst hP hw hK;obtain⟨f0,f1,f2,f3,f4,f5⟩:=hf it (by simp);have hg':i=x.cps.size:=hg;subst hg';exact(Wk X.A (I.ok.hd hc)).done s _ _ st fun h' tk eb=>⟨rfl,I.turned (fun b o hb e=>eb b o (by simpa using hb) e) f0 f1 f3 f4 f5⟩
 self:=hself
section
variable{X:Cx}{tg:Expr}
def iStr(tl:TE):TI:=fun σ H R=>tl σ H fun x H1=>∃z,x=.str z/\R (Its z) H1
theorem pi_str{l:Expr}{tl:TE}(hl:PE X l tl):PI X tg l (iStr tl):=by
 intro aB s σ H R I h;refine thn (hl aB s σ H _ I h) fun v s1 zq=>?_;obtain⟨x,H1,I1,r1,q1⟩:=zq;obtain⟨z,e,q⟩:=q1;subst e;obtain⟨t,rfl⟩:=r1;cases ha:z.cps.all (· < 128)
 . refine wpAny_pyIter_wide ha ⟨s1.heap.objs.size, [s1.heap.objs.size], _, _, H1, rfl, I1.kept (t' := s1.toks) fun b o e => aI _ e, LO z t _ "str_iterator" (by decide) (fun A hA => Walks.strWide hA _ z t) (fun _ _ _ _ _ st h => wpAny_pyIter_striter_wide st h), ⟨_, aW _ rfl, rfl, rfl⟩, fun b hb => ?_, q⟩;have e:b=s1.heap.objs.size:=by simpa using hb
   subst e;exact I1.fpOk (aR _) (I1.hok.fresh (aR _))
 . refine wpAny_pyIter_ascii ha ⟨s1.heap.objs.size, [s1.heap.objs.size], _, _, H1, rfl, I1.kept (t' := s1.toks) fun b o e => aI _ e, LO z t _ "str_ascii_iterator" (by decide) (fun A hA => Walks.strAscii hA _ z t) (fun _ _ _ _ _ st h => wpAny_pyIter_striter_ascii st h), ⟨_, aW _ rfl, rfl, rfl⟩, fun b hb => ?_, q⟩;have e:b=s1.heap.objs.size:=by simpa using hb
   subst e;exact I1.fpOk (aR _) (I1.hok.fresh (aR _))
end
end L2
namespace FL
open PySem PySem.Spec PyProof.Rows L2
def Wlk(K:Frag)(J:It)(p:V×D)(items:List D):Prop:=∀H O,(∀a,O a->∃u:MutHO,H a=some u.1)->Rep K H O p.1 p.2 →
 (∀i d,items[i]?=some d->J.go i H/\∀x H',J.yld i H x H'->Same H H'/\Rep K H' O x d)/\J.stop items.length H
section
variable{X:Cx}
variable(X) in
def PIv(tg iter:Expr)(fi:FA):Prop:=∃wi,PI X tg iter wi/\∀H₀ H O σ ds hd items R,Ok X.K H₀ H O σ ds hd->fi ds=some items →
 (∀J p H',Same H H'->Rep X.K H' O p.1 p.2->Wlk X.K J p items->R J H')->wi σ H R
theorem YK{K:Frag}{a:aA}{l:List D}: Wlk K (Itl K a) (.ref a,.lst l) l:=by
 intro H O _ r;obtain⟨b,xs,e,hs,rs⟩:=WRep.seqL (.inl r);cases e;refine⟨fun i d hd=>?_,⟨xs,hs,by rw[rs.length];exact aR _⟩⟩;obtain⟨v,h1,h2⟩:=rs.get hd;refine⟨⟨xs,v,hs,h1⟩,fun x H' y=>?_⟩;obtain⟨rfl,y⟩:=y;have:=y xs hs;rw[h1] at this;cases this;exact⟨Same.refl _,h2⟩
theorem wlk_tup{K:Frag}{a:aA}{l:List D}: Wlk K (Itt K a) (.ref a,.tup l) l:=by
 intro H O _ r;obtain⟨b,xs,e,hs,rs⟩:=WRep.seqT (.inl r);cases e;refine⟨fun i d hd=>?_,⟨xs,hs,by rw[rs.length];exact aR _⟩⟩;obtain⟨v,h1,h2⟩:=rs.get hd;refine⟨⟨xs,v,hs,h1⟩,fun x H' y=>?_⟩;obtain⟨rfl,y⟩:=y;have:=y xs hs;rw[h1] at this;cases this;exact⟨Same.refl _,h2⟩
theorem UH{K:Frag}{lo:Int}{n:Nat}: Wlk K (Itr lo n) (.non,.non) (gQ lo n):=by
 intro H O _ r;have hl:(gQ lo n).length=n:=by simp[gQ]
 refine⟨fun i d hd=>?_,show n<=_ by rw[hl];exact aR _⟩
 have hi:i<n:=by
  have:=(aT.mp hd).1
  rwa [hl] at this
 refine⟨hi,fun x H' y=>?_⟩;obtain⟨rfl,rfl⟩:=y
 have:d=D.int (lo+(i:Int)):=by
  simp only[gQ,aX,List.getElem?_range hi,cZ] at hd;exact(Option.some.inj hd).symm
 subst this;exact⟨Same.refl _,.int _⟩
theorem wlk_str{K:Frag}{x:Str}: Wlk K (Its x) (.non,.non) (sgns x):=by
 intro H O _ r;have hl:(sgns x).length=x.cps.size:=by simp[sgns]
 refine⟨fun i d hd=>?_,show _=x.cps.size from hl⟩
 have hi:i<x.cps.size:=by
  have:=(aT.mp hd).1
  rwa [hl] at this
 refine⟨hi,fun v H' y=>?_⟩;obtain⟨rfl,c,hc,rfl⟩:=y
 have:d=D.str ⟨#[c]⟩:=by
  simp only[sgns,aX,kY,hc,cZ] at hd;exact(Option.some.inj hd).symm
 subst this;exact⟨Same.refl _,.str _⟩
theorem piv_str{tg e:Expr}{f:FE}(h:PV X e f):PIv X tg e (viaA f asS):=by
 obtain⟨t,ht,hf⟩:=h;refine⟨_,pi_str ht,fun H₀ H O σ ds hd items R o e q=>?_⟩;unfold viaA at e;obtain⟨d,h1,e⟩:=bnd e;cases d with
 | str x =>
   cases e;refine hf H₀ H O σ ds hd _ _ o h1 fun v H' s r=>?_;cases r;exact⟨x,rfl,q _ (.non,.non) H' s .non wlk_str⟩
 |_=>cases e
theorem DF{tg e:Expr}{p pos:Pos}{f:FE}(hm:X.mg "range" = none)(h:PV X e f)(hg:Gl X "range":=by rfl)(hs:aF [e] X.env=[(false,bM e X.env)]:=by rfl):PIv X tg (.Call (.Name "range" p) [e] [] pos) (rng1 f):=by
 obtain⟨t,ht,hf⟩:=h;refine⟨_,UU hg hm (jN ht yK hs) hs,fun H₀ H O σ ds hd items R o e q=>?_⟩;unfold rng1 at e;obtain⟨d,h1,e⟩:=bnd e;cases d with
 | int j =>
   simp only at e
   split at e
   . rename_i hj;cases e;refine hf H₀ H O σ ds hd _ _ o h1 fun v H' s r=>?_;cases r;exact⟨j,rfl,hj.1,hj.2,q _ (.non,.non) H' s .non UH⟩
   . cases e
 |_=>cases e
variable(X) in
def PGv(tg:Expr)(ga:D->List Sl->Option (List Sl)):Prop:=∃g,PG X tg g/\∀H₀ H O σ ds hd v d ds' Q,Ok X.K H₀ H O σ ds hd->Rep X.K H O v d->ga d ds=some ds'->(∀σ',Ok X.K H₀ H O σ' ds' hd->Q σ' H)->g v σ H Q
variable(X) in
def PGsv(tgs:List Expr)(ga:List D->List Sl->Option (List Sl)):Prop:=∃g,PGs X tgs g/\∀H₀ H O σ ds hd vs l ds' Q,Ok X.K H₀ H O σ ds hd->Reps X.K H O vs l->ga l ds=some ds'->(∀σ',Ok X.K H₀ H O σ' ds' hd->Q σ' H)->g vs σ H Q
theorem zY{i:Nat}{x:Str}{pos:Pos}(hN:X.N.Nodup)(hi:X.N[i]?=some x:=by rfl)(hx:Loc X.env.scope x:=by first | exact Or.inl rfl | exact Or.inr rfl)(hf:X.fn x=true\/X.env.scope.names.lookup x=some .local:=by first | exact .inl rfl | exact .inr rfl):PGv X (.Name x pos) (qA i):=
 ⟨_,pg_name hN hi hx hf,fun H₀ H O σ ds hd v d ds' Q o r e q=>by cases e;exact q _ (o.set r)⟩
theorem jQ:PGsv X [] tgNil:=⟨_,pgs_nil,fun H₀ H O σ ds hd vs l ds' Q o r e q=>by
 cases r with
 |nil=>cases e;exact⟨rfl,q _ o⟩
 |cons _ _=>cases e⟩
theorem zZ{e:Expr}{es:List Expr}{g:D->List Sl->Option (List Sl)}{h:List D->List Sl->Option (List Sl)}(h1:PGv X e g)(h2:PGsv X es h)(hs:(fT (e::es) X.env).map (·.2)=pB e X.env::(fT es X.env).map (·.2):=by rfl):PGsv X (e::es) (zU g h):=by
 obtain⟨t,ht,hf⟩:=h1;obtain⟨u,hu,hg⟩:=h2;refine⟨_,aAk ht hu hs,fun H₀ H O σ ds hd vs l ds' Q o r e q=>?_⟩;cases r with
 |nil=>cases e
 | cons r1 rr =>
   rename_i v d vr dr;simp only[zU] at e;obtain⟨ds1,h1,e⟩:=bnd e;exact⟨v,vr,rfl,hf H₀ H O σ ds hd v d ds1 _ o r1 h1 fun σ' o'=>hg H₀ H O σ' ds1 hd vr dr ds' Q o' rr e q⟩
theorem yG{es:List Expr}{k:Nat}{pos:Pos}{h:List D->List Sl->Option (List Sl)}{n:Nat}(hc:X.calm=true)(hh:PGsv X es h)(hn:(fT es X.env).length=n:=by rfl)(hst:(fT es X.env).findIdx? (·.1)=none:=by rfl):PGv X (.Tuple es k pos) (tupG n h):=by
 obtain⟨t,ht,hf⟩:=hh;refine⟨_,pg_tup hc ht hn hst,fun H₀ H O σ ds hd v d ds' Q o r e q=>?_⟩;cases d with
 | tup l =>
   simp only[tupG] at e
   split at e
   . rename_i hl;obtain⟨a,xs,rfl,hs,rs⟩:=WRep.seqT (.inl r);exact⟨a,xs,rfl,hs,by rw[rs.length];exact hl,hf H₀ H O σ ds hd xs l ds' Q o rs e q⟩
   . cases e
 |_=>cases e
theorem HD{K:Frag}{H:Hp}{hd:Hold}{q:HI}{v:V}{r:Ret}(h:RetB K H (q::hd) v r):RetB K H hd v r:=by
 cases r with
 |any d=>exact fun B hB=>h B (aN _ hB)
 |_=>exact True.intro
theorem wB{tg iter:Expr}{body:List Stmt}{pos:Pos}{fi:FA}{ga:D->List Sl->Option (List Sl)}{g:FS}(hp:PassesOwn (bH X.prog X.w) X.A X.env X.xe)(hc:X.calm=true)(hi:PIv X tg iter fi)(hg:PGv X tg ga)(hb:PSsv X body g)(hs:∀x,dR iter X.env x=pure x:=by intro _;rfl):PSv X (.For tg iter body [] pos) (forG fi ga g):=by
 obtain⟨wi,pi,hi⟩:=hi;obtain⟨tg',pg,hg⟩:=hg;obtain⟨tb,pb,hb⟩:=hb;refine⟨_,aAg hp hc pi pg pb hs,fun H₀ H O σ ds hd out E o e h=>?_⟩;unfold forG at e;obtain⟨items,h1,e⟩:=bnd e;refine hi H₀ H O σ ds hd items _ o h1 fun J p H' s r wk=>?_;refine⟨fun i m σ' H'=>i<=items.length/\m=items.length-i/\∃O' ds',Ok X.K H₀ H' O' σ' ds' (HI.rep p.1 p.2::hd)/\jM ga g (items.drop i) ds'=some out,⟨items.length,dA _,rfl,O,ds,(o.mono s).holdMore (p:=HI.rep p.1 p.2) r,by simpa using e⟩,?_⟩;rintro i m σ1 H1 ⟨hi1,rfl,O1,ds1,o1,e1⟩;obtain⟨go,stop⟩:=wk H1 O1 o1.dom (o1.hold (HI.rep p.1 p.2) aV)
 by_cases hlt:i<items.length
 . right;have hd0:items[i]? = some items[i]:=bJ hlt;obtain ⟨hgo,hy⟩:=go i _ hd0;rw [dD hlt,jM] at e1;refine ⟨hgo,fun σ' H'=>i+1<=items.length/\∃ O' ds',Ok X.K H₀ H' O' σ' ds' (HI.rep p.1 p.2::hd)/\jM ga g (items.drop (i+1)) ds'=some out,fun σ' H' ⟨q1,q2⟩=>⟨items.length - (i+1),by omega,q1,rfl,q2⟩,fun x H2 y=>?_⟩;obtain ⟨s2,r2⟩:=hy x H2 y;obtain ⟨ds2,h2,e1⟩:=bnd e1;obtain ⟨o3,h3,e1⟩:=bnd e1;refine hg H₀ H2 O1 σ1 ds1 (HI.rep p.1 p.2::hd) x _ ds2 _ (o1.mono s2) r2 h2 fun σ' o'=>?_;refine hb H₀ H2 O1 σ' ds2 (HI.rep p.1 p.2::hd) o3 _ o' h3 ?_;cases o3 with
   |nx ds3=>exact fun σ3 H3 O3 ok3=>⟨hlt,O3,ds3,ok3,e1⟩
   |ct ds3=>exact fun σ3 H3 O3 ok3=>⟨hlt,O3,ds3,ok3,e1⟩
   |bk ds3=>cases e1;exact fun σ3 H3 O3 ok3=>h σ3 H3 O3 ok3.holdLess
   |rt rr=>cases e1;exact fun v H s r b=>h v H s r (HD b)
 . left;have ei:i=items.length:=by omega
   subst ei;rw[oN,jM] at e1;cases e1;exact⟨stop,h σ1 H1 O1 o1.holdLess⟩
variable(X) in
def PFv(ifs:List Expr)(c:FT):Prop:=∃t,PF X ifs t/\∀H₀ H O σ ds hd b Q,Ok X.K H₀ H O σ ds hd->c ds=some b->(∀H',Same H H'->Q b H')->t σ H Q
theorem BU:PFv X [] (fun _=>some true):=⟨_,pf_nil,fun _ H _ _ _ _ _ _ _ e q=>by cases e;exact q H (Same.refl _)⟩
theorem JR{c:Expr}{fc:FT}(h:PTv X c fc):PFv X [c] fc:=by
 obtain⟨t,ht,hf⟩:=h;exact⟨_,pf_one ht,hf⟩
theorem Ok.inner{K:Frag}{H₀ H:Hp}{O:aA->Prop}{σ : L2.St}{ds:List Sl}{hd:Hold}(o:Ok K H₀ H O σ ds hd)(mp:List (Option Nat)):Ok K H₀ H O (hW mp σ) (qZ mp ds) hd:=by
 have no:∀{i:Nat} {l:List D},(qZ mp ds)[i]?=some (.own l)->False:=fun {i l} e=>by
  unfold qZ at e;rw[aX] at e;cases hm:mp[i]? with
  |none=>rw[hm] at e;cases e
  | some m =>
    rw[hm] at e;simp only[cZ,Option.some.injEq] at e;cases m with
    |none=>cases e
    | some j =>
      simp only at e
      split at e<;>cases e
 refine⟨o.same,fun i l a e _=>(no e).elim,o.dom,by simp[hW,qZ],fun i s e=>?_,fun i j a hij hi hj e1 e2=>?_,o.hold,.no fun i r t e=>by
  unfold qZ at e;rw[aX] at e;cases hm:mp[i]? with
  |none=>rw[hm] at e;cases e
  | some m =>
    rw[hm] at e;simp only[cZ,Option.some.injEq] at e;cases m with
    |none=>cases e
    | some j =>
      simp only at e
      split at e<;>cases e⟩
 . unfold qZ at e;unfold hW;rw [aX] at e ⊢;cases hm:mp[i]? with
   |none=>rw[hm] at e;cases e
   | some m =>
     rw[hm] at e;simp only[cZ,Option.some.injEq] at e;cases m with
     | none =>
       simp only at e;subst e;exact jF
     | some j =>
       simp only at e;cases hj:ds[j]? with
       |none=>rw[hj] at e;subst e;exact jF
       | some s' =>
         rw[hj] at e;cases s' with
         |no=>subst e;exact jF
         |exc _=>subst e;exact jF
         |fr _=>subst e;exact jF
         |ob _ _=>subst e;exact jF
         |own l=>subst e;exact jF
         | v d =>
           simp only at e;subst e;obtain⟨v,h1,h2⟩:=o.read hj;simp only[cZ,aO,h1,Option.join_some];exact yE h2
 . obtain ⟨l, e⟩ := hi;unfold qZ at e;rw [aX] at e;cases hm:mp[i]? with
   |none=>rw[hm] at e;cases e
   | some m =>
     rw[hm] at e;simp only[cZ,Option.some.injEq] at e;cases m with
     |none=>cases e
     | some j =>
       simp only at e;cases hj:ds[j]? with
       |none=>rw[hj] at e;cases e
       |some s'=>rw[hj] at e;cases s'<;>cases e
section
variable{scope:Scope}{NY:List Str}{mp:List (Option Nat)}{tg iter elt:Expr}{ifs:List Expr}{pos:Pos}{fi:FA}{ga:D->List Sl->Option (List Sl)}{tt:FT}{fe:FE}
theorem NQ{wi:TI}{g:CI->TG}{t1:CI->TT}{t2:CI->TE}(hi:∀H₀ H O σ ds hd items R,Ok X.K H₀ H O σ ds hd->fi ds=some items->(∀J p H',Same H H'->Rep X.K H' O p.1 p.2->Wlk X.K J p items->R J H')->wi σ H R)(hg:∀c H₀ H O σ ds hd v d ds' Q,Ok X.K H₀ H O σ ds hd->Rep X.K H O v d->ga d ds=some ds'->(∀σ',Ok X.K H₀ H O σ' ds' hd->Q σ' H)->g c v σ H Q)(ht:∀c H₀ H O σ ds hd b Q,Ok X.K H₀ H O σ ds hd->tt ds=some b->(∀H',Same H H'->Q b H')->t1 c σ H Q)(he:∀c H₀ H O σ ds hd d Q,Ok X.K H₀ H O σ ds hd->fe ds=some d->(∀v H',Same H H'->Rep X.K H' O v d->Q v H')->t2 c σ H Q) :
  ∀H₀ H O σ ds hd l Q,Ok X.K H₀ H O σ ds hd->compG fi mp ga tt fe ds=some l →
   (∀a xs H',Same H H'->H a=none->H' a=some (.lst xs)->Reps X.K H' (ins1 a O) xs l->Q (.ref a) H')->tComp wi mp g t1 t2 σ H Q:=by
 intro H₀ H O σ ds hd l Q o e q;unfold compG at e;obtain⟨items,h1,e⟩:=bnd e
 split at e
 . rename_i hsz;refine hi H₀ H O σ ds hd items _ o h1 fun J p H1 s1 r1 wk=>fun c=>?_;have oI:Ok X.K H₀ H1 O (hW mp σ) (qZ mp ds) (HI.rep p.1 p.2::hd):=((o.mono s1).holdMore (p:=HI.rep p.1 p.2) r1).inner mp
   refine⟨fun i m ys H2=>i<=items.length/\m=items.length-i/\Same H1 H2/\ys.length<=i/\∃l' rest,Reps X.K H2 O ys l'/\compL ga tt fe (qZ mp ds) (items.drop i)=some rest/\l=l'++rest,
    ⟨items.length,dA _,rfl,Same.refl _,aR _,[],l,.nil,by simpa using e,rfl⟩,?_⟩
   rintro i m ys H2 ⟨hi1,rfl,s2,hy,l',rest,ry,er,el⟩;have o2:=oI.mono s2;obtain⟨go,stop⟩:=wk H2 O o2.dom (o2.hold (HI.rep p.1 p.2) aV)
   by_cases hlt:i<items.length
   . right;have hd0:items[i]? = some items[i]:=bJ hlt;obtain ⟨hgo,hyl⟩:=go i _ hd0;refine ⟨hgo,by omega,fun x H3 y=>?_⟩;obtain ⟨s3,r3⟩:=hyl x H3 y;rw [dD hlt,compL] at er;obtain ⟨ds1,h2,er⟩:=bnd er;refine hg c H₀ H3 O _ _ (HI.rep p.1 p.2::hd) x _ ds1 _ (o2.mono s3) r3 h2 fun σ' o3=>?_;obtain ⟨b,h3,er⟩:=bnd er;refine ht c H₀ H3 O σ' ds1 (HI.rep p.1 p.2::hd) b _ o3 h3 fun H4 s4=>?_;cases b with
     | false =>
       refine iteF ⟨items.length-(i+1),by omega,hlt,rfl,(s2.trans s3).trans s4,YG hy,l',rest,(ry.mono s3).mono s4,by simpa using er,el⟩
     | true =>
       refine iteT ?_;simp only[if_true] at er;obtain⟨yd,h4,er⟩:=bnd er;cases h5:compL ga tt fe (qZ mp ds) (items.drop (i+1)) with
       |none=>rw[h5] at er;cases er
       | some rest' =>
         rw[h5] at er;cases er;refine he c H₀ H4 O σ' ds1 (HI.rep p.1 p.2::hd) yd _ (o3.mono s4) h4 fun v H5 s5 r5=>?_;refine⟨items.length-(i+1),by omega,hlt,rfl,((s2.trans s3).trans s4).trans s5,by simp;omega,l'++[yd],rest',(((ry.mono s3).mono s4).mono s5).append (.cons r5 .nil),h5,?_⟩;rw[el];simp
   . left;have ei:i=items.length:=by omega
     subst ei;rw[oN,compL] at er;cases er;rw[fE] at el;subst el;refine⟨stop,by omega,fun a ha=>?_⟩;refine q a ys _ ((s1.trans s2).trans (qH ha _)) ((s1.trans s2).free ha) zX ?_;exact(ry.more ha).mono (qH ha _)
 . cases e
theorem wJ(S:CompScope X scope NY mp)(hc:X.calm=true)(hi:PIv X tg iter fi)(hg:∀c,PGv (jE X scope NY c) tg ga)(ht:∀c,PFv (jE X scope NY c) ifs tt)(he:∀c,PV (jE X scope NY c) elt fe)(hs:∀x,dR iter X.env x=pure x:=by intro _;rfl):PVf X (.ListComp elt [⟨tg,iter,ifs,0⟩] scope pos) (compG fi mp ga tt fe):=by
 obtain⟨wi,pi,hi⟩:=hi;refine⟨_,pe_comp S hc pi (fun c=>(Classical.choose_spec (hg c)).1) (fun c=>(Classical.choose_spec (ht c)).1) (fun c=>(Classical.choose_spec (he c)).1) hs,?_⟩;exact NQ hi (fun c=>(Classical.choose_spec (hg c)).2) (fun c=>(Classical.choose_spec (ht c)).2) (fun c=>(Classical.choose_spec (he c)).2)
end
end
end FL
namespace L2
open PySem PySem.Spec PyProof.Rows
section
variable{X:Cx}
inductive TyV(K:aJ)(H:Hp):V->Value->Prop where
 |of {x:V} {t:Value} (h:TyOf K H x t):TyV K H x t
 |lstK {a:aA} {o:Obj} (h:K.lookup a=some o) (c:o.cls=.type "list"):TyV K H (.ref a) (.type "list")
 |tupK {a:aA} {o:Obj} (h:K.lookup a=some o) (c:o.cls=.type "tuple"):TyV K H (.ref a) (.type "tuple")
 |tupF {a:aA} {o:Obj} {xs:List V} (h:H a=some (.frz o (.tup xs))):TyV K H (.ref a) (.type "tuple")
noncomputable def clsV:V->Value->Prop
 | .ty n,u=>u=.type n
 | .ref a,u=>u=.ref a
 |_,_=>False
theorem aCq:CallR X (.builtin "isinstance") (fun xs H Q=>∃x c cv t b,xs=[x,c]/\clsV c cv/\TyV X.K H x t/\BJ X.K t cv=some b/\Q (.bl b) H):=by
 intro aB s σ H xs us Q I r h;obtain⟨x,c,cv,t,b,rfl,hc,ty,e,q⟩:=h;obtain⟨u,u2,rfl,ru,ru2⟩:=vals2 r
 have e2:u2=cv:=by
  cases c with
  |ty n=>cases(show cv=.type n from hc);cases(show u2=.type n from ru2);rfl
  |ref a=>cases(show cv=.ref a from hc);cases(show u2=.ref a from ru2);rfl
  |_=>exact(show False from hc).elim
 subst e2;have fin:∀tk,EP X aB σ Q (.bool b) { s with toks:=tk }:=fun tk=>⟨.bl b,H,I.tok tk,rfl,q⟩
 cases ty with
 |of h=>exact VY I ru h e fin
 | @lstK a o h c =>
   cases(show u=Value.ref a from ru);exact cG sS I.kIn ⟨o,I.kIn _ _ h,c⟩ e (fun z=>nomatch z) fin
 | @tupK a o h c =>
   cases(show u=Value.ref a from ru);exact cG rN I.kIn ⟨o,I.kIn _ _ h,c⟩ e (fun z=>nomatch z) fin
 | @tupF a o xs ea =>
   cases(show u=Value.ref a from ru);obtain⟨e0,_,_,_,p⟩:=(show ObjOk X.prog X.w H s.heap a (.frz o (.tup xs)) from I.hok a _ ea)
   obtain⟨o',h1,h2,_⟩:=p;exact cG rN I.kIn ⟨o',h1,h2⟩ e (fun z=>nomatch z) fin
theorem NS:∀{bs:List Bool} {us:List Value},Vals (bs.map V.bl) us->LSm.BoolsAre us bs
 |[],_,.nil=>.nil
 | b :: r, _, .cons h t => by
   cases(show _=Value.bool b from h);exact .cons b (NS t)
theorem WV(hc:X.calm=true):CallR X (.builtin "all") (fun xs H Q=>∃(p:aA) (bs:List Bool),xs=[.ref p]/\SqL X.K H p (bs.map V.bl)/\Q (.bl (bs.all id)) H):=by
 intro aB s σ H xs us Q I r h;obtain⟨p,bs,rfl,hq,q⟩:=h;obtain⟨u,rfl,ru⟩:=vals1 r;cases ru;obtain⟨its,rv,pl,hz⟩:=I.list hq;have hlt:p<s.heap.objs.size:=by obtain⟨_,e,_⟩:=pl.isList;exact bC e
 have hb:=NS rv;refine call_all_walk (wpAny_pyIter_list pl.isList ?_)
 refine⟨s.heap.objs.size,[s.heap.objs.size,p],[s.heap.objs.size],its.toArray.size,_,_,fun i=>(bs[i]?).getD true,rfl,Walks.list (A:=X.A.in1) (I.ok.hd hc) _ p (bN hlt) its.toArray,
  ⟨⟨_,aW _ rfl,rfl,rfl⟩,pl.isList.push _⟩,fun i v s' Q' E' hP hQ=>?_,fun h' tk hk=>?_⟩
 . obtain⟨b, e, rfl⟩ := hb.get i v (by simpa using hP);simp only[e,Option.getD_some] at hQ;exact eP hQ
 . have e:((List.range its.toArray.size).all fun i=>(bs[i]?).getD true)=bs.all id:=by
    rw[bA,hb.length];exact LSm.range_all bs
   rw[e];exact⟨.bl _,H,I.kept (LSm.kept_iter hk),rfl,q⟩
end
end L2
namespace FL
open PySem PySem.Spec PyProof.Rows L2
section
variable{X:Cx}
noncomputable def kitO(t T:String):Option Bool:=if ((Value.type t)==(Value.type T))=true then some true else if PySem.W.kitMeta T=true then (fastBuiltinMro t).map (·.contains (.type T)) else none
theorem kit_all:∀t∈kitN,∀T∈kitT,kitO t T=some (t==T||(t=="bool"&&T=="int")):=by decide +kernel
theorem kit_of{K:Frag}{t T:String}{b:Bool}(h:kitF t T=some b):BJ K (.type t) (.type T)=some b:=by
 unfold kitF at h
 split at h
 . rename_i hm;cases h;exact kit_all t hm.1 T hm.2
 . cases h
theorem ty_of{K:Frag}{H:Hp}{O:aA->Prop}{v:V}{d:D}{t:String}(r:WRep K H O v d)(e:tyD d=some t):TyV K H v (.type t):=by
 rcases r with r | ⟨a,xs,l,rfl,rfl,ho,h,rs⟩
 . cases r with
   |non=>cases e;exact .of .non
   |bl b=>cases e;exact .of (.bl b)
   |int i=>cases e;exact .of (.int i)
   |str x=>cases e;exact .of (.str x)
   | tup n h r =>
     cases e;rcases h with h | ⟨o,h⟩
     . exact .of (.tup h)
     . exact .tupF h
   |tupK h r=>cases e;obtain⟨o,its,m,hk,hc,_⟩:=h;exact .tupK hk hc
   | lst n h r =>
     cases e;rcases h with h | ⟨o,h⟩
     . exact .of (.lst h)
     . exact .of (.frz h)
   |lstK h r=>cases e;obtain⟨o,its,m,hk,hc,_⟩:=h;exact .lstK hk hc
   |dct n h e' r=>cases e;exact .of (.dK h)
   |dcf n h e' r=>cases e
   |ins c n h e' r=>cases e
   |clo tx h e' nd c r=>cases e
   |fnK h=>cases e
 . cases e;exact .of (.lst h)
theorem CW{p pT pos:Pos}{e:Expr}{f:FE}{x:Str}{T:String}(hm:X.mg "isinstance" = none)(hT:X.mg x=none)(hv:fQ x=some (.type T))(he:PVw X e f)(hg:Gl X "isinstance":=by rfl)(hgT:Gl X x:=by rfl)(h1:aF [e,.Name x pT] X.env=(false,bM e X.env)::aF [.Name x pT] X.env:=by rfl)(h2:aF [.Name x pT] X.env=(false,bM (.Name x pT) X.env)::aF [] X.env:=by rfl)(h3:(cN pos (aF [.Name x pT] X.env)).any (·.1)=false:=by rfl)(hn:x≠"__name__":=by decide)(hd:(x==("__debug__" : Str))=false:=by decide):PV X (.Call (.Name "isinstance" p) [e,.Name x pT] [] pos) (isiG T f):=by
 obtain⟨t,ht,hf⟩:=he;refine⟨_,DI aCq hg hm (by decide +kernel) (jN ht (jN (pe_bltn (v:=.ty T) hgT hT hv rfl hn hd) yK h2) h1) (by decide) (by decide) h1 h3,fun H₀ H O σ ds hd d Q o e q=>?_⟩;unfold isiG at e;obtain⟨dx,hh,e⟩:=bnd e;simp only[aO,isiD] at e;obtain⟨t,ht,e⟩:=bnd e;obtain⟨b,hk,rfl⟩:=mpd e;refine hf H₀ H O σ ds hd dx _ o hh fun v H' s r=>?_;exact⟨v,.ty T,.type T,.type t,b,rfl,rfl,ty_of r ht,kit_of hk,q _ H' s (.bl b)⟩
theorem TN{K:Frag}{H:Hp}{O:aA->Prop}:∀{xs:List V} {l:List D} {bs:List Bool},Reps K H O xs l->blsD l=some bs->xs=bs.map V.bl
 |_,_,_,.nil,e=>by cases e;rfl
 | _, _, bs, .cons (d := d) h t, e => by
   cases d with
   | bl b =>
     rename_i ds;simp only[blsD] at e;obtain⟨r,hr,rfl⟩:=mpd e;cases h;rw[TN t hr];rfl
   |_=>cases e
theorem cs_all:CallS X (fun xs H Q=>∃(p:aA) (bs:List Bool),xs=[.ref p]/\SqL X.K H p (bs.map V.bl)/\Q (.bl (bs.all id)) H) allD:=by
 intro H O vs l d Q ho r e q;unfold allD at e
 split at e
 . obtain ⟨bs, hb, rfl⟩ := mpd e;cases r with
   | cons r rn =>
     cases rn;obtain⟨a,xs,rfl,hs,rs⟩:=r.seqL;refine⟨a,bs,rfl,?_,q _ H (Same.refl _) (.bl _)⟩;rw[<- TN rs hb];exact hs
 . cases e
theorem pv_all{p pos:Pos}{e:Expr}{g:FA}(hc:X.calm=true)(hm:X.mg "all" = none)(ha:PAv X [e] g)(hg:Gl X "all":=by rfl)(he:aF [e] X.env=[(false,bM e X.env)]:=by rfl) :
  PV X (.Call (.Name "all" p) [e] [] pos) (callB allD g):=vM (WV hc) cs_all hm (by decide +kernel) ha hg (by decide) (by decide) he rfl
theorem jV{a:Expr}{pos:Pos}{f:FE}(ha:PV X a f):PV X (.UnaryOp .USub a pos) (un1 negD f):=by
 obtain⟨ta,pa,ha⟩:=ha;refine⟨_,pe_un un_neg pa,fun H₀ H O σ ds hd d Q o e q=>?_⟩;unfold un1 at e;obtain⟨dx,h1,e⟩:=bnd e;cases dx with
 | int i =>
   cases e;refine ha H₀ H O σ ds hd _ _ o h1 fun x H1 s1 r1=>?_;cases r1;exact⟨i,rfl,q _ H1 s1 (.int _)⟩
 |_=>cases e
theorem os_inS:OpS X (fun x y H Q=>∃i j,x=.str i/\y=.str j/\Q (.bl (!(Builtin.Str.occurrences j i 0 j.length 1).isEmpty)) H) inS:=by
 intro H O x y dx dy d Q ho rx ry e q;cases dx<;>cases dy<;>first | (simp[inS] at e;done) | skip
 cases e;rw[rx.str',ry.str'];exact⟨_,_,rfl,rfl,q _ H (Same.refl _) (.bl _)⟩
variable(X) in
def PVd(e:Expr)(f:FE):Prop:=∃t,PE X e t/\∀H₀ H O σ ds hd d Q,Ok X.K H₀ H O σ ds hd->f ds=some d->(∀v H',Same H H'->Rep X.K H' (Old H) v d->Q v H')->t σ H Q
theorem not_old{H:Hp}{p:aA}(h:H p=none):¬Old H p:=fun⟨o,e,_⟩=>by rw[h] at e;cases e
theorem xM{e:Expr}{pos:Pos}{f:FE}(he:PVd X e f):PSv X (.Return (some e) pos) (retDG f):=by
 obtain⟨t,ht,hg⟩:=he;refine⟨_,uM ht,fun H₀ H O σ ds hd out E o e h=>?_⟩;unfold retDG at e;obtain⟨d,h1,rfl⟩:=mpd e;exact hg H₀ H O σ ds hd d _ o h1 fun v H' s r=>h _ _ (o.same.trans s) (r.less fun a z=>Old.mono o.same z) True.intro
end
section
variable{X:Cx}
noncomputable def aCm(sc scope:Scope)(N NY:List Str)(mp:List (Option Nat)):Bool :=
 scope.kind==.function&&scope.names.all (fun y=>y.2 != .cell)&&scope.names.all (fun y=>y.2 != .local||scope.names.lookup y.1==some .local)
 && scope.names.all (fun y=>y.2 != .free||(sc.names.lookup y.1==some .cell||sc.names.lookup y.1==some .free))&&mp.length==NY.length
 && (List.range NY.length).all (fun i=>match NY[i]?,mp[i]? with | some x,some (some j)=>N[j]?==some x&&scope.names.lookup x==some .free | _,_=>true)
theorem jZ{scope:Scope}{NY:List Str}{mp:List (Option Nat)}(h:aCm X.env.scope scope X.N NY mp=true):CompScope X scope NY mp:=by
 unfold aCm at h;simp only[cA,oO,beq_iff_eq] at h;obtain⟨⟨⟨⟨⟨h1,h2⟩,h3⟩,h4⟩,h5⟩,h6⟩:=h;refine⟨h1,fun y hy=>by simpa using h2 y hy,fun y hy hk=>?_,fun y hy hk=>?_,h5,fun i x j e1 e2=>?_⟩
 . have := h3 y hy;simpa[hk] using this
 . have := h4 y hy;simp only[hk,bne_self_eq_false,Bool.false_or,Bool.or_eq_true,beq_iff_eq] at this;exact this
 . have hi : i ∈ List.range NY.length := List.mem_range.mpr (aT.mp e1).1;have:=h6 i hi;rw[e1,e2] at this;simpa using this
end
theorem zP{g:FS}{n:Nat}{ds:List D}{r:Ret}(e:runG g n ds=some r):Does g n ds r:=by
 unfold runG at e;cases h:g (args n ds) with
 |none=>rw[h] at e;cases e
 | some o =>
   rw[h] at e;cases o with
   |rt r'=>cases e;exact .inl h
   |nx ds'=>cases e;exact .inr ⟨rfl,ds',h⟩
   |bk ds'=>cases e
   |ct ds'=>cases e
end FL
namespace L2
open PySem PySem.Spec PyProof.Rows
section
variable{X:Cx}
theorem op_mulB:OpR X (lG .Mult) (rI OC fun i j=>.int (i*j)):=opI fun _ _ _ _ _ _ _ hc q=>mul_int q hc
theorem op_powB:OpR X (lG .Pow) (rI FL.CPowB fun i j=>.int (i ^ j.toNat)):=opI fun _ _ _ _ _ _ _ hc q=>pow_int hc.1 hc.2 q
noncomputable def rCatS(K:aJ):R2:=fun x y H Q=>∃l b xs zs,x=.ref l/\y=.ref b/\SqL K H l xs/\SqL K H b zs/\xs.length+zs.length<=sizeLine/\∀p,H p=none->Q (.ref p) (upd H p (.lst (xs++zs)))
theorem RX:OpR X (lG .Add) (rCatS X.K):=by
 intro aB s σ H x y v u Q I rx ry h;obtain⟨l,b,xs,zs,rfl,rfl,hH,hB,hz,q⟩:=h;cases rx;cases ry;obtain⟨its,r,pl,z⟩:=I.list hH;obtain⟨its2,r2,pl2,z2⟩:=I.list hB;obtain⟨⟨cls,dd,data,sl⟩,ho,hc,n,hd⟩:=pl.isList;obtain⟨⟨cls2,dd2,data2,sl2⟩,ho2,hc2,n2,hd2⟩:=pl2.isList;simp only at hc hd hc2 hd2;subst hc hd hc2 hd2;have hl:=r.length;have hl2:=r2.length;refine concat_meets ⟨_,ho,rfl⟩ ⟨_,ho2,rfl⟩ noFill_list_add seq_list_add PySem.F.slot_list_add PySem.F.entry_list_add (PySem.F.args_list_add_2 _ _) (list_addW l b its.toArray its2.toArray n n2 dd dd2 sl sl2 (by simp only[bA];omega)) ⟨ho,ho2,?_⟩;have ea:its.toArray++its2.toArray=(its++its2).toArray:=by simp
 rw[ea];exact⟨.ref _,_,I.lnew (t':=s.toks) (r.append r2) (by rw[bR];omega),rfl,q _ I.fresh⟩
end
end L2
namespace FL
open PySem PySem.Spec PyProof.Rows L2
section
variable{X:Cx}
variable(X) in
def PVn(e:Expr)(f:FE):Prop:=∃t,PE X e t/\∀H₀ H O σ ds hd d Q,Ok X.K H₀ H O σ ds hd->f ds=some d->(∀v H',Same H H'->Rep X.K H' jJ v d->Q v H')->t σ H Q
variable(X) in
def PAn(es:List Expr)(f:FA):Prop:=∃t,PA X es t/\∀H₀ H O σ ds hd l Q,Ok X.K H₀ H O σ ds hd->f ds=some l->(∀vs H',Same H H'->Reps X.K H' jJ vs l->Q vs H')->t σ H Q
theorem PVw.n{e:Expr}{f:FE}(h:PVw X e f):PVn X e f:=by
 obtain⟨t,ht,hf⟩:=h;exact⟨t,ht,fun H₀ H O σ ds hd d Q o e q=>hf H₀ H O σ ds hd d Q o e fun v H' s r=>q v H' s r.any⟩
theorem PV.n{e:Expr}{f:FE}(h:PV X e f):PVn X e f:=h.w.n
theorem zO:PAn X [] zV:=⟨_,yK,fun _ H _ _ _ _ _ _ _ e q=>by cases e;exact q _ H (Same.refl _) .nil⟩
theorem zG{e:Expr}{es:List Expr}{f:FE}{g:FA}(ha:PVn X e f)(hr:PAn X es g)(hs:aF (e::es) X.env=(false,bM e X.env)::aF es X.env:=by rfl):PAn X (e::es) (zB f g):=by
 obtain⟨t,ht,hf⟩:=ha;obtain⟨u,hu,hg⟩:=hr;refine⟨_,jN ht hu hs,fun H₀ H O σ ds hd l Q o e q=>?_⟩;unfold zB at e;obtain⟨x,h,e⟩:=bnd e;obtain⟨r,h2,rfl⟩:=mpd e;refine hf H₀ H O σ ds hd x _ o h fun v H1 s1 r1=>?_;refine hg H₀ H1 O σ ds hd r _ (o.mono s1) h2 fun vs H2 s2 r2=>?_;exact q _ H2 (s1.trans s2) (.cons (r1.mono s2) r2)
section
variable{k:Nat}{f:aA}{fd:aH}{ps:List Str}{n:Nat}{F:List D->Option Ret}{x:Str}{p pos:Pos}{e:Expr}{es:List Expr}{g:FA}
theorem ZO(Fn:FnOk X.prog X.w X.K X.mg X.base CX0 k f fd ps (spF X.K n F))(hr:Room k X.A)(hm:X.mg x=some (.ref f))(hk:bF X.K (.ref f)=true)(hb:Binds X.K fd ps [])(ha:PAn X (e::es) g)(hg:Gl X x:=by rfl)(hdb:(x==("__debug__" : Str))=false:=by decide)(he:aF (e::es) X.env=(false,bM e X.env)::aF es X.env:=by rfl)(hpl:(cN pos (aF es X.env)).any (·.1)=false:=by rfl) :
  PV X (.Call (.Name x p) (e::es) [] pos) (qN n F g):=by
 obtain⟨t,ht,hf⟩:=ha;refine⟨_,JS (CX:=CX0) (E:=E0) Fn hr hg hm hk hb .nil pass0 ht hdb he hpl,fun H₀ H O σ ds hd d Q o e q=>?_⟩;unfold qN at e;obtain⟨l,h,e⟩:=bnd e
 split at e
 . rename_i hln;obtain⟨r,h2,e⟩:=bnd e;refine hf H₀ H O σ ds hd l _ o h fun vs H1 s1 r1=>?_;have hl:=r1.length;refine⟨by simp only[fE];omega,l,r,by simpa using r1,h2,fun v H' s' ro=>q v H' (s1.trans s') ?_⟩;exact JH ro e fun a ha=>(o.mono s1).old ha
 . cases e
theorem UP(Fn:FnOk X.prog X.w X.K X.mg X.base CX0 k f fd ps (spF X.K n F))(hr:Room k X.A)(hm:X.mg x=some (.ref f))(hk:bF X.K (.ref f)=true)(hb:Binds X.K fd ps [])(ha:PAn X (e::es) g)(hg:Gl X x:=by rfl)(hdb:(x==("__debug__" : Str))=false:=by decide)(he:aF (e::es) X.env=(false,bM e X.env)::aF es X.env:=by rfl)(hpl:(cN pos (aF es X.env)).any (·.1)=false:=by rfl) :
  PVf X (.Call (.Name x p) (e::es) [] pos) (vJ n F g):=by
 obtain⟨t,ht,hf⟩:=ha;refine⟨_,JS (CX:=CX0) (E:=E0) Fn hr hg hm hk hb .nil pass0 ht hdb he hpl,fun H₀ H O σ ds hd d Q o e q=>?_⟩;unfold vJ at e;obtain⟨l,h,e⟩:=bnd e
 split at e
 . rename_i hln;obtain⟨r,h2,e⟩:=bnd e;refine hf H₀ H O σ ds hd l _ o h fun vs H1 s1 r1=>?_;have hl:=r1.length;refine⟨by simp only[fE];omega,l,r,by simpa using r1,h2,fun v H' s' ro=>?_⟩;obtain⟨a,xs,rfl,h3,h4,h5⟩:=RB ro e fun a ha=>(o.mono s1).old ha;exact q a xs H' (s1.trans s') (s1.free h3) h4 h5
 . cases e
end
def OpN(X:Cx)(r:R2)(op:D->D->Option D):Prop:=∀H O x y dx dy d Q,Rep X.K H jJ x dx->Rep X.K H jJ y dy->op dx dy=some d->(∀v H',Same H H'->Rep X.K H' O v d->Q v H')->r x y H Q
theorem RE{r:R2}{op:D->D->Option D}(hs:OpN X r op){fa fb:FE}{ta tb:TE}(ha:∀H₀ H O σ ds hd d Q,Ok X.K H₀ H O σ ds hd->fa ds=some d->(∀v H',Same H H'->Rep X.K H' jJ v d->Q v H')->ta σ H Q)(hb:∀H₀ H O σ ds hd d Q,Ok X.K H₀ H O σ ds hd->fb ds=some d->(∀v H',Same H H'->Rep X.K H' jJ v d->Q v H')->tb σ H Q) :
  ∀H₀ H O σ ds hd d Q,Ok X.K H₀ H O σ ds hd->zI op fa fb ds=some d->(∀v H',Same H H'->Rep X.K H' O v d->Q v H')->tOp r ta tb σ H Q:=by
 intro H₀ H O σ ds hd d Q o e q;unfold zI at e;obtain⟨dx,h1,e⟩:=bnd e;obtain⟨dy,h2,e⟩:=bnd e;refine ha H₀ H O σ ds hd dx _ o h1 fun x H1 s1 r1=>?_;refine hb H₀ H1 O σ ds hd dy _ (o.mono s1) h2 fun y H2 s2 r2=>?_;exact hs H2 O x y dx dy d Q (r1.mono s2) r2 e fun v H' s r=>q v H' ((s1.trans s2).trans s) r
theorem JL{op:JB}{r:R2}{opD:D->D->Option D}{a b:Expr}{fa fb:FE}{pos:Pos}(ho:OpR X (eQ op) r)(hs:OpN X r opD)(ha:PVn X a fa)(hb:PVn X b fb)(hm:dQ op b=false):PV X (.Compare a [op] [b] pos) (zI opD fa fb):=by
 obtain⟨ta,pa,ha⟩:=ha;obtain⟨tb,pb,hb⟩:=hb;exact⟨_,RS ho pa pb hm,RE hs ha hb⟩
theorem BQ{op:JB}{r:R2}{opD:D->D->Option D}{a b:Expr}{fa fb:FE}{pos:Pos}(ho:OpR X (eQ op) r)(hs:OpN X r opD)(ha:PVn X a fa)(hb:PVn X b fb)(hm:dQ op b=false):PTv X (.Compare a [op] [b] pos) (zS (zI opD fa fb)):=by
 obtain⟨ta,pa,ha⟩:=ha;obtain⟨tb,pb,hb⟩:=hb;refine⟨_,RK ho pa pb hm,fun H₀ H O σ ds hd k Q o e q=>?_⟩;unfold zS at e;obtain⟨d,h,e⟩:=bnd e;refine RE hs ha hb H₀ H O σ ds hd d _ o h fun v H' s r=>?_;cases d with
 |bl c=>cases e;cases r;exact⟨_,rfl,q H' s⟩
 |_=>cases e
mutual
theorem Rep.reads{aB:List (aA×Obj)}{σ : L2.St}{H:Hp}{s:aC}{O:aA->Prop}(I:Inv X aB σ H s):∀{v:V} {d:D},Rep X.K H O v d->∀{u:Value} {n:Nat},RelV v u->shal n d=true->∃as,Reads s.heap u (toPy d) as/\(toPy d).canLay0=true/\(toPy d).depth<=n+1
 |_,_,.non=>fun r _=>by cases r;exact⟨[],.none,rfl,dA _⟩
 |_,_,.bl b=>fun r _=>by cases r;exact⟨[],.bool b,rfl,dA _⟩
 |_,_,.int i=>fun r _=>by obtain⟨t,rfl⟩:=r;exact⟨[],.int i t,rfl,dA _⟩
 |_,_,.str x=>fun r h=>by obtain⟨t,rfl⟩:=r;exact⟨[],.str x t,by simpa[toPy,PyData.canLay0,shal] using h,dA _⟩
 | _, _, .tup m h q => fun r hs => by
   cases r;obtain⟨its,rv,⟨o,ho,hc,k,hd⟩,hz⟩:=I.tuple (.inl h);obtain⟨as,h1,h2,h3⟩:=Reps.reads I q rv (by simpa[shal] using hs);exact⟨as,.tuple ho hc hd (by simpa using h1),by simpa[toPy,PyData.canLay0] using h2,by simpa[toPy,PyData.depth] using h3⟩
 | _, _, .tupK h q => fun r hs => by
   cases r;obtain⟨its,rv,⟨o,ho,hc,k,hd⟩,hz⟩:=I.tuple (.inr h);obtain⟨as,h1,h2,h3⟩:=Reps.reads I q rv (by simpa[shal] using hs);exact⟨as,.tuple ho hc hd (by simpa using h1),by simpa[toPy,PyData.canLay0] using h2,by simpa[toPy,PyData.depth] using h3⟩
 | _, _, .lst m h q => fun r hs => by
   cases r;obtain⟨its,rv,pl,hz⟩:=I.list (.inl h);obtain⟨o,ho,hc,k,hd⟩:=pl.isList;obtain⟨as,h1,h2,h3⟩:=Reps.reads I q rv (by simpa[shal] using hs);exact⟨_,.list ho hc hd (by simpa using h1),by simpa[toPy,PyData.canLay0] using h2,by simpa[toPy,PyData.depth] using h3⟩
 | _, _, .lstK h q => fun r hs => by
   cases r;obtain⟨its,rv,pl,hz⟩:=I.list (.inr h);obtain⟨o,ho,hc,k,hd⟩:=pl.isList;obtain⟨as,h1,h2,h3⟩:=Reps.reads I q rv (by simpa[shal] using hs);exact⟨_,.list ho hc hd (by simpa using h1),by simpa[toPy,PyData.canLay0] using h2,by simpa[toPy,PyData.depth] using h3⟩
 |_,_,.dct _ _ _ _=>fun _ hs=>by simp[shal] at hs
 |_,_,.dcf _ _ _ _=>fun _ hs=>by simp[shal] at hs
 |_,_,.ins _ _ _ _ _=>fun _ hs=>by simp[shal] at hs
 |_,_,.clo _ _ _ _ _ _=>fun _ hs=>by simp[shal] at hs
 |_,_,.fnK _=>fun _ hs=>by simp[shal] at hs
theorem Reps.reads{aB:List (aA×Obj)}{σ : L2.St}{H:Hp}{s:aC}{O:aA->Prop}(I:Inv X aB σ H s):∀{vs:List V} {ds:List D},Reps X.K H O vs ds->∀{us:List Value} {n:Nat},Vals vs us->shals n ds=true->∃as,ReadsAll s.heap us (toPys ds) as/\PyData.canLayAll0 (toPys ds)=true/\PyData.depthAll (toPys ds)<=n
 |_,_,.nil=>fun r _=>by cases r;exact⟨[],.nil,rfl,dA _⟩
 | _, _, .cons h t => fun r hs => by
   rename Nat=>n
   cases n with
   |zero=>simp[shals] at hs
   |succ n =>
    cases r with
    |cons r1 r2 =>
     simp only[shals,cA] at hs;obtain⟨as,h1,h2,h3⟩:=Rep.reads I h r1 hs.1;obtain⟨bs,k1,k2,k3⟩:=Reps.reads I t r2 hs.2;exact⟨_,.cons h1 k1,by simp[toPys,PyData.canLayAll0,h2,k2],by simp only[toPys,PyData.depthAll];omega⟩
end
noncomputable def rEqD(X:Cx)(neg:Bool):R2:=fun x y H Q=>∃dx dy,Rep X.K H jJ x dx/\Rep X.K H jJ y dy/\shal 40 dx=true/\shal 40 dy=true/\Q (.bl (if neg then !eqvD dx dy else eqvD dx dy)) H
theorem aAu(hu:X.A.units+100<cLine):OpR X (eQ .Eq) (rEqD X false):=by
 intro aB s σ H x y v u Q I rx ry h;obtain⟨dx,dy,r1,r2,s1,s2,q⟩:=h;obtain⟨as,a1,a2,a3⟩:=r1.reads I rx s1;obtain⟨bs,b1,b2,b3⟩:=r2.reads I ry s2;exact SeqAt.compareEq_reads a1 b1 a2 b2 (by omega) ⟨.bl _,H,I,rfl,q⟩
theorem op_neD(hu:X.A.units+100<cLine):OpR X (eQ .NotEq) (rEqD X true):=by
 intro aB s σ H x y v u Q I rx ry h;obtain⟨dx,dy,r1,r2,s1,s2,q⟩:=h;obtain⟨as,a1,a2,a3⟩:=r1.reads I rx s1;obtain⟨bs,b1,b2,b3⟩:=r2.reads I ry s2;exact SeqAt.compareNe_reads a1 b1 a2 b2 (by omega) ⟨.bl _,H,I,rfl,q⟩
theorem aAw:OpN X (rEqD X false) eqD:=by
 intro H O x y dx dy d Q rx ry e q;unfold eqD at e
 split at e
 . rename_i hs;cases e;exact⟨dx,dy,rx,ry,hs.1,hs.2,q _ H (Same.refl _) (.bl _)⟩
 . cases e
theorem on_neD:OpN X (rEqD X true) neD:=by
 intro H O x y dx dy d Q rx ry e q;unfold neD at e
 split at e
 . rename_i hs;cases e;exact⟨dx,dy,rx,ry,hs.1,hs.2,q _ H (Same.refl _) (.bl _)⟩
 . cases e
theorem hu100{k:Nat}{A:bO}(hr:Room k A):A.units+100<cLine:=by have:=hr.un;omega
theorem ZN{a b:Expr}{fa fb:FE}{pos:Pos}{k:Nat}(hr:Room k X.A)(ha:PVn X a fa)(hb:PVn X b fb):PV X (.Compare a [.Eq] [b] pos) (zI eqD fa fb):=JL (aAu (hu100 hr)) aAw ha hb (mW _)
theorem jK{a b:Expr}{fa fb:FE}{pos:Pos}{k:Nat}(hr:Room k X.A)(ha:PVn X a fa)(hb:PVn X b fb):PTv X (.Compare a [.Eq] [b] pos) (zS (zI eqD fa fb)):=BQ (aAu (hu100 hr)) aAw ha hb (mW _)
theorem sA{a b:Expr}{fa fb:FE}{pos:Pos}{k:Nat}(hr:Room k X.A)(ha:PVn X a fa)(hb:PVn X b fb):PTv X (.Compare a [.NotEq] [b] pos) (zS (zI neD fa fb)):=BQ (op_neD (hu100 hr)) on_neD ha hb (mW _)
theorem SA{K:Frag}{H:Hp}{O:aA->Prop}{v:V}{d:D}(r:Rep K H O v d):decide (v=.non)=(match d with | .non=>true | _=>false):=by
 cases r<;>rfl
theorem on_is:OpN X (fun x y H Q=>y=.non/\Q (.bl (decide (x=.non))) H) isD:=by
 intro H O x y dx dy d Q rx ry e q;cases dy<;>first | (cases dx<;>simp[isD] at e;done) | skip
 cases ry;refine⟨rfl,?_⟩;rw[SA rx];cases dx<;>(simp only[isD,Option.some.injEq] at e;subst e;exact q _ H (Same.refl _) (.bl _))
theorem aAv:OpN X (fun x y H Q=>y=.non/\Q (.bl (!decide (x=.non))) H) notD:=by
 intro H O x y dx dy d Q rx ry e q;cases dy<;>first | (cases dx<;>simp[notD] at e;done) | skip
 cases ry;refine⟨rfl,?_⟩;rw[SA rx];cases dx<;>(simp only[notD,Option.some.injEq] at e;subst e;exact q _ H (Same.refl _) (.bl _))
theorem ZL{a b:Expr}{fa fb:FE}{pos:Pos}(ha:PVn X a fa)(hb:PVn X b fb):PV X (.Compare a [.Is] [b] pos) (zI isD fa fb):=JL aAs on_is ha hb (mW _)
theorem MA{a b:Expr}{fa fb:FE}{pos:Pos}(ha:PVn X a fa)(hb:PVn X b fb):PV X (.Compare a [.IsNot] [b] pos) (zI notD fa fb):=JL RW aAv ha hb (mW _)
theorem vD{a b:Expr}{fa fb:FE}{pos:Pos}(ha:PVn X a fa)(hb:PVn X b fb):PTv X (.Compare a [.Is] [b] pos) (zS (zI isD fa fb)):=BQ aAs on_is ha hb (mW _)
theorem xS{a b:Expr}{fa fb:FE}{pos:Pos}(ha:PVn X a fa)(hb:PVn X b fb):PTv X (.Compare a [.IsNot] [b] pos) (zS (zI notD fa fb)):=BQ RW aAv ha hb (mW _)
theorem os_mul:OpS X (rI OC fun i j=>.int (i*j)) xV:=by
 intro H O x y dx dy d Q ho rx ry e q;cases dx<;>cases dy<;>first | (simp[xV] at e;done) | skip
 simp only[xV] at e
 split at e
 . rename_i hc;cases e;rw[rx.int',ry.int'];exact⟨_,_,rfl,rfl,hc,q _ H (Same.refl _) (.int _)⟩
 . cases e
theorem os_pow:OpS X (rI CPowB fun i j=>.int (i ^ j.toNat)) powD:=by
 intro H O x y dx dy d Q ho rx ry e q;cases dx<;>cases dy<;>first | (simp[powD] at e;done) | skip
 simp only[powD] at e
 split at e
 . rename_i hc;cases e;rw[rx.int',ry.int'];exact⟨_,_,rfl,rfl,hc,q _ H (Same.refl _) (.int _)⟩
 . cases e
theorem JI{a b:Expr}{fa fb:FE}{pos:Pos}(ha:PVw X a fa)(hb:PVw X b fb):PVf X (.BinOp a .Add b pos) (catA fa fb):=by
 obtain⟨ta,pa,ha⟩:=ha;obtain⟨tb,pb,hb⟩:=hb;refine⟨_,aAl RX pa pb,fun H₀ H O σ ds hd l Q o e q=>?_⟩;unfold catA at e;obtain⟨dx,h1,e⟩:=bnd e;obtain⟨dy,h2,e⟩:=bnd e;cases dx<;>cases dy<;>first | (simp at e;done) | skip
 simp only at e
 split at e
 . rename_i hz;cases e;refine ha H₀ H O σ ds hd _ _ o h1 fun x H1 s1 r1=>?_;refine hb H₀ H1 O σ ds hd _ _ (o.mono s1) h2 fun y H2 s2 r2=>?_;obtain⟨a1,xs,rfl,hq1,rs1⟩:=(r1.mono s2).seqL;obtain⟨a2,ys,rfl,hq2,rs2⟩:=r2.seqL;refine⟨a1,a2,xs,ys,rfl,rfl,hq1,hq2,by rw[rs1.length,rs2.length];exact hz,fun p hp=>?_⟩;refine q p _ _ ((s1.trans s2).trans (qH hp _)) ((s1.trans s2).free hp) zX ?_;exact((rs1.append rs2).more hp).mono (qH hp _)
 . cases e
variable(X) in
def POv(e:Option Expr)(f:List Sl->Option (Option Int)):Prop:=∃t,PO X e t/\∀H₀ H O σ ds hd i Q,Ok X.K H₀ H O σ ds hd->f ds=some i->(∀H',Same H H'->Q i H')->t σ H Q
theorem DE:POv X none noP:=⟨_,po_none,fun _ H _ _ _ _ _ _ _ e q=>by cases e;exact q H (Same.refl _)⟩
theorem xJ{e:Expr}{f:FE}(h:PVw X e f):POv X (some e) (soP f):=by
 obtain⟨t,ht,hf⟩:=h;refine⟨_,po_some ht,fun H₀ H O σ ds hd i Q o e q=>?_⟩;unfold soP at e;obtain⟨d,h1,e⟩:=bnd e;cases d<;>first | (cases e;done) | skip
 cases e;refine hf H₀ H O σ ds hd _ _ o h1 fun v H' s r=>?_;rw[r.int'];exact⟨_,rfl,q H' s⟩
theorem aCk{K:Frag}{H:Hp}{O:aA->Prop}{xs:List V}{l:List D}{a b:Option Int}(rs:Reps K H O xs l):Reps K H O (cutV xs a b) (cutD l a b):=by
 unfold cutV cutD;rw[rs.length];exact(rs.drop _).take _
theorem wK{e:Expr}{lo hi:Option Expr}{f:FE}{gl gh:List Sl->Option (Option Int)}{p2 pos:Pos}(he:PVw X e f)(hl:POv X lo gl)(hh:POv X hi gh):PVf X (.Subscript e (.Slice lo hi none p2) pos) (sliA f gl gh):=by
 obtain⟨te,pe,he⟩:=he;obtain⟨tl,pl,hl⟩:=hl;obtain⟨th,ph,hh⟩:=hh;refine⟨_,MK sl_list pe pl ph,fun H₀ H O σ ds hd l Q o e q=>?_⟩;unfold sliA at e;obtain⟨d,h1,e⟩:=bnd e;obtain⟨a,h2,e⟩:=bnd e;obtain⟨b,h3,e⟩:=bnd e;cases d<;>first | (cases e;done) | skip
 cases e;refine he H₀ H O σ ds hd _ _ o h1 fun v H1 s1 r1=>?_;refine hl H₀ H1 O σ ds hd _ _ (o.mono s1) h2 fun H2 s2=>?_;refine hh H₀ H2 O σ ds hd _ _ ((o.mono s1).mono s2) h3 fun H3 s3=>?_;obtain⟨a1,xs,rfl,hq,rs⟩:=((r1.mono s2).mono s3).seqL;refine⟨a1,xs,rfl,hq,fun p hp=>?_⟩;have ss:=(s1.trans s2).trans s3;refine q p _ _ (ss.trans (qH hp _)) (ss.free hp) zX ?_;exact((aCk rs).more hp).mono (qH hp _)
theorem vT{e:Expr}{f:FE}{p pos:Pos}(hm:X.mg "list" = none)(he:PVw X e f)(hg:Gl X "list":=by rfl)(hs:aF [e] X.env=[(false,bM e X.env)]:=by rfl):PVf X (.Call (.Name "list" p) [e] [] pos) (lisA f):=by
 obtain⟨te,pe,he⟩:=he;refine⟨_,HS LD hg hm (by decide +kernel) (jN pe yK hs) (by decide) (by decide) hs rfl,fun H₀ H O σ ds hd l Q o e q=>?_⟩;unfold lisA at e;obtain⟨d,h1,e⟩:=bnd e;refine he H₀ H O σ ds hd _ _ o h1 fun v H1 s1 r1=>?_;cases d<;>first | (cases e;done) | skip
 . cases e;obtain⟨a1,xs,rfl,hq,rs⟩:=r1.seqT;refine⟨a1,xs,rfl,.inr hq,fun p hp=>?_⟩;exact q p _ _ (s1.trans (qH hp _)) (s1.free hp) zX ((rs.more hp).mono (qH hp _))
 . cases e;obtain⟨a1,xs,rfl,hq,rs⟩:=r1.seqL;refine⟨a1,xs,rfl,.inl hq,fun p hp=>?_⟩;exact q p _ _ (s1.trans (qH hp _)) (s1.free hp) zX ((rs.more hp).mono (qH hp _))
theorem cs_max:CallS X (fun xs H Q=>∃i j,xs=[.int i,.int j]/\Q (.int (if j>i then j else i)) H) mxD:=by
 intro H O vs l d Q ho r e q;unfold mxD at e
 split at e
 . cases e;cases r with
   | cons r1 rn =>
     cases rn with
     | cons r2 rm =>
       cases rm;exact⟨_,_,by rw[r1.int',r2.int'],q _ H (Same.refl _) (.int _)⟩
 . cases e
theorem cs_min:CallS X (fun xs H Q=>∃i j,xs=[.int i,.int j]/\Q (.int (if j<i then j else i)) H) mnD:=by
 intro H O vs l d Q ho r e q;unfold mnD at e
 split at e
 . cases e;cases r with
   | cons r1 rn =>
     cases rn with
     | cons r2 rm =>
       cases rm;exact⟨_,_,by rw[r1.int',r2.int'],q _ H (Same.refl _) (.int _)⟩
 . cases e
theorem pv_max2{p pos:Pos}{a b:Expr}{g:FA}(hc:X.calm=true)(hm:X.mg "max" = none)(ha:PAv X [a,b] g)(hg:Gl X "max":=by rfl)(he:aF [a,b] X.env=(false,bM a X.env)::aF [b] X.env:=by rfl)(hpl:(cN pos (aF [b] X.env)).any (·.1)=false:=by rfl) :
  PV X (.Call (.Name "max" p) [a,b] [] pos) (callB mxD g):=vM (WS hc) cs_max hm (by decide +kernel) ha hg (by decide) (by decide) he hpl
theorem pv_min2{p pos:Pos}{a b:Expr}{g:FA}(hc:X.calm=true)(hm:X.mg "min" = none)(ha:PAv X [a,b] g)(hg:Gl X "min":=by rfl)(he:aF [a,b] X.env=(false,bM a X.env)::aF [b] X.env:=by rfl)(hpl:(cN pos (aF [b] X.env)).any (·.1)=false:=by rfl) :
  PV X (.Call (.Name "min" p) [a,b] [] pos) (callB mnD g):=vM (WR hc) cs_min hm (by decide +kernel) ha hg (by decide) (by decide) he hpl
theorem AN{α β : Type}{xs:List α}{ys:List β}(h:xs.length=ys.length):xs.isEmpty=ys.isEmpty:=by
 cases xs<;>cases ys<;>simp_all
theorem PVn.t{e:Expr}{f:FE}(h:PVn X e f)(he:∀whole,BF e X.env whole=(do let v <- whole;fP e.pos;dW [v] (XB v)):=by intro _;rfl):PTv X e (testT f):=by
 obtain⟨t,ht,hf⟩:=h;refine⟨_,ZX ht he,fun H₀ H O σ ds hd k Q o e q=>?_⟩;unfold testT at e;obtain⟨d,h,e⟩:=bnd e;refine hf H₀ H O σ ds hd d _ o h fun v H' s r=>⟨k,?_,q H' s⟩
 cases d with
 |non=>cases e;cases r;exact rfl
 |bl b=>cases e;cases r;exact rfl
 |int i=>cases e;cases r;exact rfl
 | str x =>
   simp only[truD] at e
   split at e
   . rename_i hz;cases e;cases r;exact⟨hz,rfl⟩
   . cases e
 | tup l =>
   cases e;obtain⟨a,xs,rfl,hq,rs⟩:=WRep.seqT (.inl r);exact .inr (.inl ⟨xs,hq,by rw[AN rs.length]⟩)
 | lst l =>
   cases e;obtain⟨a,xs,rfl,hq,rs⟩:=WRep.seqL (.inl r);exact .inl ⟨xs,hq,by rw[AN rs.length]⟩
 |_=>cases e
theorem yT{st:Stmt}: PSv X st (fun _=>none):=⟨_,aAe,fun _ _ _ _ _ _ _ _ _ e _=>by cases e⟩
theorem psv_rel(i:Nat){st:Stmt}{g:FS}(h:PSv X st g):PSv X st (fun ds=>g (relS i ds)):=by
 obtain⟨t,ht,hf⟩:=h;refine⟨t,ht,fun H₀ H O σ ds hd out E o e q=>?_⟩;have e:g (relS i ds)=some out:=e
 by_cases hs:∃l,ds[i]?=some (.own l)
 . obtain ⟨l, hl⟩ := hs;have e':relS i ds=ds.set i (.v (.lst l)):=by unfold relS; rw [hl]
   rw[e'] at e;obtain⟨O',o'⟩:=o.release hl;exact hf H₀ H O' σ _ hd out E o' e q
 . have e':relS i ds=ds:=by
    unfold relS
    split
    . rename_i l hl;exact(hs ⟨l,hl⟩).elim
    . rfl
   rw[e'] at e;exact hf H₀ H O σ ds hd out E o e q
theorem JO{tg e:Expr}{pos:Pos}{f:FE}{ga:D->List Sl->Option (List Sl)}(he:PV X e f)(hg:PGv X tg ga)(hs:QP [tg] e pos.line X.env=pure false:=by rfl)(hw:QQ [tg] e X.env=pure none:=by rfl)(h1:(fT [tg] X.env).map (·.2)=[pB tg X.env]:=by rfl):PSv X (.Assign [tg] e pos) (asgG ga f):=by
 obtain⟨te,pe,he⟩:=he;obtain⟨tg',pg,hg⟩:=hg;refine⟨_,aAh pe pg hs hw h1,fun H₀ H O σ ds hd out E o e h=>?_⟩;unfold asgG at e;obtain⟨d,h2,e⟩:=bnd e;cases h3:ga d ds with
 |none=>rw[h3] at e;cases e
 | some ds' =>
   rw[h3] at e;cases e;refine he H₀ H O σ ds hd d _ o h2 fun v H1 s1 r1=>?_;exact hg H₀ H1 O σ ds hd v d ds' _ (o.mono s1) r1 h3 fun σ' o'=>h σ' H1 O o'
theorem RL{i:Nat}{x:Str}{e:Expr}{pos p1 p2 p3:Pos}{fe:FA}(he:PVf X e fe)(hN:X.N[i]?=some x:=by rfl)(hv:Vis X.env.scope x:=by first | exact Or.inl rfl | exact Or.inr (Or.inl rfl) | exact Or.inr (Or.inr rfl))(hd:(x==("__debug__" : Str))=false:=by decide)(hcd:(x==("__classdict__" : Str))=false:=by decide)(hfew:((cN p3 (aF [e] X.env)).all (fun x=>!x.1)&&(fC p3 (dC [] X.env)).all (fun x=>x.1.isSome)
    && decide ([e].length+([]:List nQ).length+(if ([]:List nQ).isEmpty then 0 else 1)<30))=true:=by rfl)(hline:(p2.endLine==p3.line)=true:=by rfl)(hs:aF [e] X.env=(false,bM e X.env)::aF [] X.env:=by rfl)(hbase:cW (.Name x p1) "extend" X.env (bM (.Name x p1) X.env)=bM (.Name x p1) X.env:=by rfl)(hsw:cV (.Call (.Attribute (.Name x p1) "extend" p2) [e] [] p3) none pos.line X.env=pure false:=by rfl) :
  PSv X (.Expr (.Call (.Attribute (.Name x p1) "extend" p2) [e] [] p3) pos) (extG i fe):=by
 obtain⟨te,pe,he⟩:=he;refine⟨_,xX (aAq hO PySem.F.slot_list_extend PySem.F.type_list_extend VH (xI hN hv hd hcd) (jN pe yK hs) hbase hfew hline hs rfl) hsw,fun H₀ H O σ ds hd out E o e h=>?_⟩;unfold extG at e;cases hsl:ds[i]? with
 |none=>rw[hsl] at e;cases e
 | some s =>
   rw[hsl] at e;cases s with
   |v d'=>cases e
   |no=>cases e
   |exc _=>cases e
   |fr _=>cases e
   |ob _ _=>cases e
   | own l =>
     simp only at e;obtain⟨d,h1,e⟩:=bnd e
     split at e
     . rename_i hl;cases e;obtain⟨a,xs,q1,q2,q3,q4⟩:=o.readO hsl;refine⟨.ref a,q1,.inl ⟨rfl,xs,SqL.of q3⟩,?_⟩;refine he H₀ H O σ ds hd d _ o h1 fun b ys H1 s1 hn hb r1=>?_;refine⟨a,b,xs,ys,rfl,rfl,s1 _ _ q3,hb,by rw[q4.length,r1.length];exact hl,?_⟩;exact h _ _ _ ((o.mono s1).modify hsl q1 ((q4.mono s1).append (r1.less fun a z=>.inr z)))
     . cases e
theorem US{i:Nat}{y:Str}{py spos:Pos}{scope:Scope}{NY:List Str}{mp:List (Option Nat)}{tg iter elt:Expr}{ifs:List Expr}{pos:Pos}{fi:FA}{ga:D->List Sl->Option (List Sl)}{tt:FT}{fe:FE}(hN:X.N.Nodup)(S:CompScope X scope NY mp)(hc:X.calm=true)(hi:PIv X tg iter fi)(hg:∀c,PGv (jE X scope NY c) tg ga)(ht:∀c,PFv (jE X scope NY c) ifs tt)(he:∀c,PV (jE X scope NY c) elt fe)(hy:X.N[i]?=some y:=by rfl)(hl:X.env.scope.names.lookup y=some .local:=by rfl)(hsw:cV (.ListComp elt [⟨tg,iter,ifs,0⟩] scope pos) (some (.Name y py)) spos.line X.env=pure true:=by rfl)(hs:∀x,dR iter X.env x=pure x:=by intro _;rfl):PSv X (.Assign [.Name y py] (.ListComp elt [⟨tg,iter,ifs,0⟩] scope pos) spos) (jL i (mkL (compG fi mp ga tt fe))):=by
 obtain⟨wi,pi,hi⟩:=hi;refine⟨_,RO hN hy hl hsw S hc pi (fun c=>(Classical.choose_spec (hg c)).1) (fun c=>(Classical.choose_spec (ht c)).1) (fun c=>(Classical.choose_spec (he c)).1) hs,fun H₀ H O σ ds hd out E o e h=>?_⟩;unfold jL mkL at e;cases h1:compG fi mp ga tt fe ds with
 |none=>rw[h1] at e;cases e
 | some l =>
   rw[h1] at e;cases e
   exact NQ hi (fun c=>(Classical.choose_spec (hg c)).2) (fun c=>(Classical.choose_spec (ht c)).2) (fun c=>(Classical.choose_spec (he c)).2) H₀ H O σ ds hd l _ o h1 fun a xs H' s hn he r =>
    h _ _ _ ((o.mono s).set (.lst (o.free hn) (.inl he) (r.less fun _ z=>.inr z)))
end
end FL
namespace L2
open PySem PySem.Spec PyProof.Rows
section
variable{X:Cx}
end
end L2
namespace Att
open PySem PySem.W PySem.Calls PyProof.Rows
theorem AO:∀{ns:List Int} {b:Nat},WData.weightAll (ns.map WData.int)<=b->∀c∈ns,Builtin.Int.intBits c<=b
 |[],_,_=>fun c hc=>by cases hc
 | n :: r, b, h => fun c hc => by
   simp only[bE,WData.weightAll,WData.weight] at h;rcases aE.mp hc with rfl | hc
   . unfold Builtin.Int.intBits;omega
   . exact AO (ns:=r) (b:=b) (by omega) c hc
theorem attach_callB{l:OpenLaw}{n:Nat}{q:aZ}{loose:List Str}{XP:(Str->Option Value)->Heap->Prop}{YP:bK->Heap->Prop}{d:DefRec}(hn:l.most=some n)(hdf:d.params.defaults=[])(call:∀(w:bK) (s₀ s₁ : aC) (mg mb:Str->Option Value) (fa:aA) (o:Obj) (pm cd doc:Value) (a:aA) (vs:List Value) (ns:List Int),
    Ground q loose [] XP w s₀ mg mb s₁.heap->YP w s₁.heap →
    s₁.heap.get? fa=some o->o.data=.func (docDef d.name d.params d.body d.scope pm cd doc)->s₁.heap.CodeRec cd d.name->mg d.name=some (.ref fa) →
    s₁.heap.get? a=some { cls:=.type "list",data:=.seq vs.toArray }->XG vs ns->ns.length<=n->(∀c∈ns,Builtin.Int.intBits c<=1048576)->s₁.gens=#[] →
    rL (bH l.prog w) EO (.call (.ref fa) ⟨[.ref a],[]⟩) (fun r s'=>r=.ok (.ret (.bool true))/\OldK s₁.heap s'.heap/\s'.os=s₁.os/\iS s'.gens) s₁) :
  WalkO q loose XP YP l.row.toRowW d [] (fun f vs=>PySem.call f vs):=by
 intro w s₀ s₁ mg mb G Y fa o pm cd doc dV kV ho hd hcd hD hmg hg args vals as hpre hlay hrd hwl hlo;obtain rfl:dV=.none:=Dflts.none hD hdf;obtain rfl:kV=.none:=Dflts.noKw hD;obtain⟨a,vs,ns,rfl,rfl,hobj,hints,hlen⟩:=UM hn hpre hwl
 have hb:∀c∈ns,Builtin.Int.intBits c<=1048576:=by
  have h1:=(layableW_iff.mp (layW_cons hlay).1).2.2;simp only[WData.weight] at h1;exact AO (cJ h1 (by decide))
 refine enter_call (rK (call w s₀ s₁ mg mb fa o pm cd doc a vs ns G Y ho (fd_plain hd) hcd hmg hobj hints hlen hb hg) fun r s' hq=>?_);obtain⟨rfl,h2,h3,h4⟩:=hq;exact⟨.inl ⟨.bool true,.bool true,[],rfl,fun _=>rfl,.bool true,UT l _,fun _=>⟨List.Pairwise.nil,fun _ hm=>(nomatch hm)⟩⟩,h2,h3,h4⟩
end Att
namespace FL
open PySem PySem.Spec PyProof.Rows L2
noncomputable def OP(K:Frag)(n:Nat):Sp:=fun vs H Q _=>∃(a:aA) (ns:List Int),vs=[.ref a]/\SqL K H a (ns.map V.int)/\ns.length<=n/\(∀c∈ns,Builtin.Int.intBits c<=1048576)/\∀H',Q (.bl true) H'
theorem law_ofB{P:aZ}{w:bK}{K:Frag}{mg:Str->Option Value}{base:Heap}{k:Nat}{f:aA}{fd:aH}{x:Str}{n:Nat}{F:List D->Option Ret}(Fn:FnOk P w K mg base CX0 k f fd [x] (spF K 1 F))(h:∀ns:List Int,ns.length<=n->(∀c∈ns,Builtin.Int.intBits c<=1048576)->F [.lst (ns.map D.int)]=some (.val (.bl true))):FnOk P w K mg base CX0 k f fd [x] (OP K n):=by
 refine Fn.imp fun vs H Q E hq=>?_;obtain⟨a,ns,rfl,hS,hl,hb,q⟩:=hq;refine⟨rfl,[.lst (ns.map D.int)],.val (.bl true),.cons ?_ .nil,h ns hl hb,fun v H' s r=>?_⟩
 . rcases hS with hS | hS
   . exact .lst (fun z=>z.elim) hS (Reps.ints ns)
   . exact .lstK hS (Reps.ints ns)
 . cases r;exact q H'
open PySem.W (tabIn CodeHd tabObj noTabs tab_of) in
inductive TabL(K:Frag)(q:aZ):List Str->List (Str×aA×aA)->Prop
 |nil:TabL K q [] []
 |yes {x:Str} {xs:List Str} {c P:aA} {tl:List (Str×aA×aA)} (h:gR K x=some (c,P)) (r:((recsOf q).find? (fun e=>e.name==x)).isSome=true) (ap:(tl.all fun p=>p.2.2 != P)=true) (t:TabL K q xs tl):TabL K q (x::xs) ((x,c,P)::tl)
 |no {x:Str} {xs:List Str} {tl:List (Str×aA×aA)} (h:gR K x=none) (t:TabL K q xs tl):TabL K q (x::xs) tl
theorem tabL_no{K:Frag}{q:aZ}{x:Str}{xs:List Str}{tl:List (Str×aA×aA)}(h:aP K aM x=some none)(t:TabL K q xs tl):TabL K q (x::xs) tl:=.no (by unfold gR;rw[h]) t
theorem tabL_yes{K:Frag}{q:aZ}{x:Str}{xs:List Str}{c P f:aA}{fd:aH}{oc oc':Value}{od od':Option aA}{sl sl':Array (Option Value)}{vs:Array Value}{tl:List (Str×aA×aA)}(h1:aP K aM x=some (some (.ref f)))(h2:K.lookup f=some ⟨oc,od,.func fd,sl⟩)(h3:fd.code=.ref c)(h4:K.lookup c=some ⟨oc',od',.fields vs,sl'⟩)(h5:(vs[11]? : Option Value)=some (.ref P))(r:((recsOf q).find? (fun e=>e.name==x)).isSome=true)(t:TabL K q xs tl)(ap:(tl.all fun p=>p.2.2 != P)=true):TabL K q (x::xs) ((x,c,P)::tl):=
 .yes (by unfold gR;simp only[h1,h2,h3,h4,h5]) r ap t
section
variable{K:Frag}{q:aZ}{xs:List Str}{tl:List (Str×aA×aA)}
theorem TabL.get(h:TabL K q xs tl):∀{x:Str} {c P:aA},x∈xs->gR K x=some (c,P)->(x,c,P)∈tl:=by
 induction h with
 |nil=>intro x c P hx;cases hx
 | yes h r ap t ih =>
   intro x c P hx ht;rcases aE.mp hx with e | e
   . subst e;rw[h] at ht;cases ht;exact aV
   . exact aN _ (ih e ht)
 | no h t ih =>
   intro x c P hx ht;rcases aE.mp hx with e | e
   . subst e;rw[h] at ht;cases ht
   . exact ih e ht
theorem TabL.fact(h:TabL K q xs tl):∀p∈tl,gR K p.1=some (p.2.1,p.2.2)/\((recsOf q).find? (fun e=>e.name==p.1)).isSome=true:=by
 induction h with
 |nil=>intro p hp;cases hp
 | yes h r ap t ih =>
   intro p hp;rcases aE.mp hp with e | e
   . subst e;exact⟨h,r⟩
   . exact ih p e
 |no h t ih=>exact ih
noncomputable def tabH(K:Frag)(tl:List (Str×aA×aA)):Hp:=fun b=>(tl.find? fun p=>p.2.2==b).map fun p=>.tbl (sK K p.1)
theorem BO{b:aA}{u:HO}(e:tabH K tl b=some u):∃p∈tl,b=p.2.2/\u=.tbl (sK K p.1):=by
 unfold tabH at e;obtain⟨p,h,rfl⟩:=mpd e;exact⟨p,List.mem_of_find?_eq_some h,(beq_iff_eq.mp (List.find?_some (p:=fun p:Str×aA×aA=>p.2.2==b) h)).symm,rfl⟩
theorem TabL.at(h:TabL K q xs tl):∀p∈tl,tabH K tl p.2.2=some (.tbl (sK K p.1)):=by
 induction h with
 |nil=>intro p hp;cases hp
 | yes h r ap t ih =>
   intro p hp;rename_i x xs c P tl;unfold tabH;rcases aE.mp hp with e | e
   . subst e;simp
   . have:(P==p.2.2)=false:=by
      have:=oO.mp ap p e;simp only[bne_iff_ne,ne_eq] at this;exact beq_eq_false_iff_ne.mpr (Ne.symm this)
     rw[eE,this];exact ih p e
 |no h t ih=>exact ih
end
theorem no_cls{K:Frag}{h:Heap}{b:aA}{o:Obj}{ps:Array Value}(X:K.In h)(hK:BI K=true)(e:K.lookup b=some o)(hb:h.get? b=some (BH ps)):False:=by
 have q:=X b o e;rw[hb] at q;cases q;have h2:=oO.mp hK (b,_) (PySem.W.mem_of_lookupK e);exact absurd (show false=true from h2) iD
theorem VT{P:aZ}{w:bK}{K:Frag}{q:aZ}{loose:List Str}{mean:ExcName->Option Value}{mg mb:Str->Option Value}{k:Nat}{fa a:aA}{fd:aH}{x:Str}{sp:Sp}{s₁ : aC}{vs:List Value}{ns:List Int}{tl:List (Str×aA×aA)}(KX:K.In s₁.heap)(T:Top q loose mean mg mb s₁.heap)(hT:TabL K q makers tl)(hK:BI K=true)(hg:s₁.gens=#[])(ha:s₁.heap.get? a=some { cls:=.type "list",data:=.seq vs.toArray })(hi:XG vs ns)(hl:ns.length<=sizeLine)(hr:Room k EO)(F:∀base:Heap,K.In base->base.Ns aM mg->FnOk P w K mg base CX0 k fa fd [x] sp)(hbind:∀(s:aC) (u:Value),XM s fd ⟨[u],[]⟩ [(x,u)])(hsp:∀H:Hp,SqL K H a (ns.map V.int)->sp [.ref a] H (fun v _=>v=.bl true) fun _ _ _=>False) :
  rL (bH P w) EO (.call (.ref fa) ⟨[.ref a],[]⟩) (fun r s'=>r=.ok (.ret (.bool true))/\OldK s₁.heap s'.heap/\s'.os=s₁.os/\iS s'.gens) s₁:=by
 have rv:=GV hi
 have tf:∀p∈tl,XF s₁.heap p.2.1 p.2.2/\s₁.heap.get? p.2.2=some (BH #[]):=fun p hp=>by
  obtain⟨h1,h2⟩:=hT.fact p hp;obtain⟨d,hd⟩:=EY.mp h2;exact PySem.W.tab_of T KX hd h1
 have core:∀H:Hp,SqL K H a (ns.map V.int)->L2.HOk P w H s₁.heap->(∀b u,H b=some u->(b=a/\K.lookup a=none/\∃o xs,u=.frz o (.lst xs))\/∃p∈tl,b=p.2.2/\u=.tbl (sK K p.1))->(∀p∈tl,H p.2.2=some (.tbl (sK K p.1))) →
   rL (bH P w) EO (.call (.ref fa) ⟨[.ref a],[]⟩) (fun r s'=>r=.ok (.ret (.bool true))/\OldK s₁.heap s'.heap/\s'.os=s₁.os/\iS s'.gens) s₁:=by
  intro H hS hok hA hP
  have free_of:∀{b:aA} {o:Obj},s₁.heap.get? b=some o->(∀its n,o.data≠.seq its n)->o.data≠.fields #[]->H b=none:=fun {b o} e n1 n2=>by
   cases qb:H b with
   |none=>rfl
   | some u =>
     rcases hA b u qb with⟨rfl,_,_⟩ | ⟨p,hp,rfl,_⟩
     . rw[ha] at e;cases e;exact(n1 _ _ rfl).elim
     . rw[(tf p hp).2] at e;cases e;exact(n2 rfl).elim
  have base_of:∀{b:aA} {o:Obj},s₁.heap.get? b=some o->(∀its n,o.data≠.seq its n)->o.data≠.fields #[]->(hidT s₁.heap H).get? b=some o:=fun e n1 n2=>NE e (free_of e n1 n2);have nsK:∀{b:aA} {m:Str->Option Value},s₁.heap.Ns b m->(hidT s₁.heap H).Ns b m:=fun {b m} ⟨o,es,ep,e,d,r⟩=>⟨o,es,ep,base_of e (fun _ _ z=>by rw[d] at z;cases z) (fun z=>by rw[d] at z;cases z),d,r⟩
  have hKb:K.In (hidT s₁.heap H):=fun b o e=>NE (KX b o e) (by
   cases qb:H b with
   |none=>rfl
   | some u =>
     rcases hA b u qb with⟨rfl,z,_⟩ | ⟨p,hp,rfl,_⟩
     . rw[z] at e;cases e
     . exact(no_cls KX hK e (tf p hp).2).elim)
  have hM:Mod K mg (hidT s₁.heap H):=⟨hKb,nsK T.g,⟨mb,nsK T.b,T.builtins⟩,let ⟨mc,h1,h2⟩:=T.nolimit;⟨mc,nsK h1,h2⟩⟩
  have hTab:TabsK K mg (hidT s₁.heap H) H:=by
   refine⟨?_,fun y c P' hy ht=>?_⟩
   . obtain⟨bm, ob, b1, b2, b3, b4, b5, b6⟩ := T.bmain;exact⟨bm,ob,b1,b2,base_of b3 (fun _ _ z=>by rw[b6] at z;cases z) (fun z=>by rw[b6] at z;cases z),b4,b5,b6⟩
   . have hm := hT.get hy ht;refine⟨?_,hP _ hm⟩;obtain⟨o,ws,file,tf',flags,tg,inF,text,tt,e1,r1,r2,r3,rest⟩:=(tf _ hm).1;refine⟨o,ws,file,tf',flags,tg,inF,text,tt,base_of e1 (fun _ _ z=>by rw[r2] at z;cases z) (fun z=>?_),r1,r2,r3,rest⟩;rw[r2] at z;cases z;cases r3
  have e0:Env0 P w K mg (hidT s₁.heap H) EO [] s₁ H:=⟨rfl,hM,fun b o e=>of_hidT e,⟨iU (WB _ _),hTab⟩,trivial,fun b hb=>absurd (show b∈([]:List aA) from hb) (by simp),hok,.of_eq hg⟩
  refine rK ((F _ hKb (nsK T.g)).run EO [] s₁ H ⟨[.ref a],[]⟩ [.ref a] [.ref a] _ _ hr e0 (hbind s₁ (.ref a)) (.cons rfl .nil) (hsp H hS)) fun r s' h=>?_;cases r with
  |error e=>exact False.elim h
  | ok fl =>
    cases fl with
    |next=>exact False.elim h
    |brk=>exact False.elim h
    |cont=>exact False.elim h
    | ret u =>
      obtain⟨v,H',os,bare,un,hok',r',hv⟩:=h;have hv':v=.bl true:=hv;subst hv';obtain rfl:u=Value.bool true:=r';refine⟨rfl,⟨fun b o e=>?_,fun b o e=>un.there b o e (by simp)⟩,os,bare⟩;cases qb:H b with
      |none=>exact .inl (un.keep b o e qb (by intro z;exact absurd (show b∈([]:List aA) from z) (by simp)) (by simp))
      | some u =>
        rcases hA b u qb with⟨_,_,ob,xs,rfl⟩ | ⟨p,hp,rfl,rfl⟩
        . obtain⟨e1, _⟩ := hok b _ qb;obtain⟨e2,_⟩:=hok' b _ (un.frzs b ob _ qb);rw[e] at e1;cases e1;exact .inl e2
        . have t2 := (tf p hp).2;rw[e] at t2;cases t2;obtain⟨ps,e2,_⟩:=hok' _ _ (un.tbls _ _ qb);exact .inr (.inl ⟨((tf p hp).1.tab (tf p hp).2).isCodeTable,rfl,#[],ps,rfl,by rw[Array.empty_append];exact e2⟩)
 have tabOk:∀(H:Hp) (p:Str×aA×aA),p∈tl->ObjOk P w H s₁.heap p.2.2 (.tbl (sK K p.1)):=fun H p hp=>⟨#[],(tf p hp).2,trivial,fun pos v z=>by cases z⟩
 cases hk:K.lookup a with
 | some o =>
   have e:=KX a o hk;rw[ha] at e;cases e;refine core (tabH K tl) (.inr ⟨_,vs.toArray,_,hk,rfl,rfl,rfl,by rw[bA,hi.length];exact hl,by simpa using rv⟩) (fun b u z=>?_) (fun b u z=>.inr (BO z)) fun p hp=>hT.at p hp;obtain⟨p,hp,rfl,rfl⟩:=BO z;exact tabOk _ p hp
 | none =>
   have na:∀p∈tl,p.2.2≠a:=fun p hp z=>by
    have:=(tf p hp).2;rw[z,ha] at this;cases this
   refine core (upd (tabH K tl) a (.frz { cls:=.type "list",data:=.seq vs.toArray } (.lst (ns.map V.int)))) (.inl (.inr ⟨_,zX⟩)) (fun b u z=>?_) (fun b u z=>?_) fun p hp=>by rw[upd_ne (na p hp)];exact hT.at p hp
   . by_cases hb : b = a
     . subst hb;rw[zX] at z;cases z;exact⟨ha,by rw[bU];exact hl,vs,_,rv,ha⟩
     . rw[upd_ne hb] at z;obtain⟨p,hp,rfl,rfl⟩:=BO z;exact tabOk _ p hp
   . by_cases hb : b = a
     . subst hb;rw[zX] at z;cases z;exact .inl ⟨rfl,hk,_,_,rfl⟩
     . rw[upd_ne hb] at z;exact .inr (BO z)
theorem walkB{l:UA}{q:aZ}{loose:List Str}{XP:(Str->Option Value)->Heap->Prop}{YP:bK->Heap->Prop}{d:DefRec}{K:Params->aJ}{k:Nat}{tl:List (Str×aA×aA)}(hn:l.most=some 63)(hdf:d.params.defaults=[])(hr:Room k EO)(hY:∀(w:bK) (h:Heap),YP w h->(K w.params).In h)(hK:∀w:bK,BI (K w.params)=true)(hT:∀w:bK,TabL (K w.params) q makers tl)(F:∀(w:bK) (mg:Str->Option Value) (fa:aA) (h:Heap),(K w.params).In h->h.Ns aM mg->mg d.name=some (.ref fa) →
    ∃fd:aH,(∀(s:aC) (u:Value),XM s fd ⟨[u],[]⟩ [("_law_script",u)])/\∀base:Heap,(K w.params).In base->base.Ns aM mg->FnOk l.prog w (K w.params) mg base CX0 k fa fd ["_law_script"] (OP (K w.params) 63)) :
  PySem.W.WalkO q loose XP YP l.row.toRowW d [] (fun f vs=>PySem.call f vs):=by
 refine Att.attach_callB hn hdf fun w s₀ s₁ mg mb fa o pm cd doc a vs ns G Y ho hd hcd hmg hobj hints hlen hb hg=>?_;have KX:=hY w _ Y;obtain⟨fd,hbd,hF⟩:=F w mg fa _ KX G.T.g hmg;exact VT KX G.T (hT w) (hK w) hg hobj hints (cJ hlen (by decide)) hr hF hbd fun H hS=>⟨a,ns,rfl,hS,hlen,hb,fun _=>rfl⟩
structure Cal(P:aZ)(w:bK)(K:Frag)(mg:Str->Option Value)(base:Heap)(x:Str)(k n:Nat)(F:List D->Option Ret):Prop where
 ex:∃(f:aA) (fd:aH) (ps:List Str),FnOk P w K mg base CX0 k f fd ps (spF K n F)/\Binds K fd ps []/\bF K (.ref f)=true/\mg x=some (.ref f)
section
variable{X:Cx}
section
variable{k j:Nat}{n:Nat}{F:List D->Option Ret}{x:Str}{p pos:Pos}{e:Expr}{es:List Expr}{g:FA}
theorem zR(C:Cal X.prog X.w X.K X.mg X.base x k n F)(hr:Room j X.A)(ha:PAn X (e::es) g)(hj:k<=j:=by decide)(hg:Gl X x:=by rfl)(hdb:(x==("__debug__" : Str))=false:=by decide)(he:aF (e::es) X.env=(false,bM e X.env)::aF es X.env:=by rfl)(hpl:(cN pos (aF es X.env)).any (·.1)=false:=by rfl) :
  PV X (.Call (.Name x p) (e::es) [] pos) (qN n F g):=by
 obtain⟨f,fd,ps,Fn,hb,hk,hm⟩:=C.ex;exact ZO Fn (hr.mono hj) hm hk hb ha hg hdb he hpl
theorem yD(C:Cal X.prog X.w X.K X.mg X.base x k n F)(hr:Room j X.A)(ha:PAn X (e::es) g)(hj:k<=j:=by decide)(hg:Gl X x:=by rfl)(hdb:(x==("__debug__" : Str))=false:=by decide)(he:aF (e::es) X.env=(false,bM e X.env)::aF es X.env:=by rfl)(hpl:(cN pos (aF es X.env)).any (·.1)=false:=by rfl) :
  PVf X (.Call (.Name x p) (e::es) [] pos) (vJ n F g):=by
 obtain⟨f,fd,ps,Fn,hb,hk,hm⟩:=C.ex;exact UP Fn (hr.mono hj) hm hk hb ha hg hdb he hpl
end
end
section
variable{X:Cx}{a b:Expr}{fa fb:FE}{pos:Pos}
theorem pv_lt(ha:PVw X a fa)(hb:PVw X b fb):PV X (.Compare a [.Lt] [b] pos) (zI ltD fa fb):=OX op_lt BV ha hb (mW _)
theorem pv_le(ha:PVw X a fa)(hb:PVw X b fb):PV X (.Compare a [.LtE] [b] pos) (zI leD fa fb):=OX op_le BV ha hb (mW _)
theorem tN(ha:PVw X a fa)(hb:PVw X b fb):PTv X (.Compare a [.Lt] [b] pos) (zS (zI ltD fa fb)):=RJ op_lt BV ha hb (mW _)
theorem RI(ha:PVw X a fa)(hb:PVw X b fb):PTv X (.Compare a [.Gt] [b] pos) (zS (zI gtD fa fb)):=RJ op_gt BV ha hb (mW _)
theorem qI(ha:PVw X a fa)(hb:PVw X b fb):PV X (.BinOp a .Add b pos) (zI jW fa fb):=uL op_addU os_add ha hb
theorem jT(ha:PVw X a fa)(hb:PVw X b fb):PV X (.BinOp a .Sub b pos) (zI subD fa fb):=uL op_sub os_sub ha hb
theorem yA(ha:PVw X a fa)(hb:PVw X b fb):PV X (.BinOp a .Mult b pos) (zI xV fa fb):=uL op_mulB os_mul ha hb
theorem jY(ha:PVw X a fa)(hb:PVw X b fb):PV X (.BinOp a .Pow b pos) (zI powD fa fb):=uL op_powB os_pow ha hb
theorem zW(ha:PVw X a fa)(hb:PVw X b fb):PV X (.BinOp a .Mod b pos) (zI jA fa fb):=uL op_mod os_mod ha hb
theorem qO(ha:PVw X a fa)(hb:PVw X b fb):PV X (.BinOp a .FloorDiv b pos) (zI qR fa fb):=uL aAt os_fdiv ha hb
end
end FL
namespace L2
open PySem PySem.Spec PyProof.Rows
section
variable{X:Cx}{tg:Expr}
theorem pi_seq{l:Expr}{tl:TE}(hl:PE X l tl):PI X tg l (fun σ H R=>iList X.K tl σ H R\/iTup X.K tl σ H R):=by
 intro aB s σ H R I h;rcases h with h | h
 . exact pi_list hl aB s σ H R I h
 . exact pi_tup hl aB s σ H R I h
end
end L2
namespace FL
open PySem PySem.Spec PyProof.Rows L2
section
variable{X:Cx}
theorem yW{tg e:Expr}{f:FE}(h:PV X e f):PIv X tg e (viaA f asLT):=by
 obtain⟨t,ht,hf⟩:=h;refine⟨_,pi_seq ht,fun H₀ H O σ ds hd items R o e q=>?_⟩;unfold viaA at e;obtain⟨d,h1,e⟩:=bnd e;cases d with
 | lst l =>
   cases e;refine .inl (hf H₀ H O σ ds hd _ _ o h1 fun v H' s r=>?_);obtain⟨a,xs,rfl,hs,rs⟩:=WRep.seqL (.inl r);exact⟨a,rfl,⟨xs,hs⟩,q _ (.ref a,.lst items) H' s r YK⟩
 | tup l =>
   cases e;refine .inr (hf H₀ H O σ ds hd _ _ o h1 fun v H' s r=>?_);obtain⟨a,xs,rfl,hs,rs⟩:=WRep.seqT (.inl r);exact⟨a,rfl,⟨xs,hs⟩,q _ (.ref a,.tup items) H' s r wlk_tup⟩
 |_=>cases e
end
end FL
namespace L2
open PySem PySem.Spec PyProof.Rows
section
variable{X:Cx}{tg:Expr}
noncomputable def Itv(K:aJ)(a:aA)(n:Nat):It :=
 ⟨fun i H=>∃xs x,SqL K H a xs/\xs.length=n/\i<n/\xs[n-1-i]?=some x,fun i H x H'=>H'=H/\∀xs,SqL K H a xs->xs[n-1-i]?=some x,fun i _=>i=n⟩
theorem YO{P:aZ}{w:bK}{K:aJ}{tg:Expr}(a it:aA)(n:Nat):Turn P w K tg (Itv K a n) [it] it (fun i h=>i<=n/\h.IsRevIter it a ((n:Int)-1-(i:Int))) where
 mem:=by simp
 obj:=fun i h st b hb=>by
  have e:b=it:=by simpa using hb
  subst e;obtain⟨_,o,e,c,d⟩:=st;exact⟨o,e,fun v z=>by rw[d] at z;cases z⟩
 keep:=fun i h h' st k=>⟨st.1,st.2.at fun o e=>k it (by simp) o e⟩
 item:=by
  intro X hP hw hK hc i aB s σ H E I hf st hg;subst hP hw hK;obtain⟨xs,x,hq,hn,hi,hx⟩:=hg;obtain⟨its,rv,p,hz⟩:=I.list hq;obtain⟨u,hu,ru⟩:=rv.get hx;obtain⟨f0,f1,f2,f3,f4,f5⟩:=hf it (by simp);have e:(n:Int)-1-(i:Int)=((n-1-i:Nat):Int):=by omega
  have hit:=st.2;rw[e] at hit;refine wpAny_pyNext_rev_item hit p.isList (x:=u) (by simpa using hu) fun h' st' sb=>?_;have I1:Inv X aB σ H { s with heap:=h' }:=I.turned (t':=s.toks) (fun b o hb e=>(sb.2 b hb).trans e) f0 f1 f3 f4 f5;have e2:((n-1-i:Nat):Int)-1=(n:Int)-1-((i+1:Nat):Int):=by omega
  rw[e2] at st';obtain⟨o,eo,co,d⟩:=id st';exact⟨u,rfl,IJ (s:={ s with heap:=h' }) eo co d (by decide) ⟨x,H,I1,ru,⟨rfl,fun ys hy=>by rw[I.list_inj hy hq];exact hx⟩,⟨hi,st'⟩,fun b hb=>(hf b hb).1⟩⟩
 done:=by
  intro X hP hw hK hc i aB s σ H E I hf st hg;subst hP hw hK;have hg':i=n:=hg;subst hg';obtain⟨f0,f1,f2,f3,f4,f5⟩:=hf it (by simp);have e:(i:Int)-1-(i:Int)=-1:=by omega
  have hit:=st.2;rw[e] at hit;exact wpAny_pyNext_rev_end (I.ok.hd hc) hit fun h' eb=>⟨rfl,I.turned (t':=s.toks) (fun b o hb e=>eb b o hb e) f0 f1 f3 f4 f5⟩
 self:=fun _ _ _ _ _ st h=>tX st.2 h
def iRev(K:aJ)(ta:TA):TI:=fun σ H R=>ta σ H fun vs H1=>∃a xs,vs=[.ref a]/\SqL K H1 a xs/\R (Itv K a xs.length) H1
theorem pi_rev{l:Expr}{ta:TA}{p pos:Pos}(hg:Gl X "reversed")(hm:X.mg "reversed" = none)(ha:PA X [l] ta)(hs:aF [l] X.env=[(false,bM l X.env)]:=by rfl):PI X tg (.Call (.Name "reversed" p) [l] [] pos) (iRev X.K ta):=by
 intro aB s σ H R I h;refine Call_ (kB I hg hm (show fQ "reversed" = some (.type "reversed") by decide +kernel) (dX (thn (ha pos aB s σ H _ I h) fun us s1 zq=>?_) hs rfl));obtain⟨vs,H1,I1,r1,q1⟩:=zq;obtain⟨a,xs,e,hq,q⟩:=q1;subst e;obtain⟨u,rfl,ru⟩:=vals1 r1;cases ru;obtain⟨its,rv,pl,hz⟩:=I1.list hq;have hlen:=rv.length;refine call_reversed_list pl.isList ?_;have hst:Heap.IsRevIter (s1.heap.push (BE a ((its.toArray.size:Int)-1))) s1.heap.objs.size a ((its.toArray.size:Int)-1):=⟨_,aW _ rfl,rfl,rfl⟩
 refine tX hst ?_;refine⟨s1.heap.objs.size,[s1.heap.objs.size],_,_,H1,rfl,I1.kept (t':=s1.toks) fun b o e=>aI _ e,YO a _ xs.length,⟨dA _,?_⟩,fun b hb=>?_,q⟩
 . have e1 : ((its.toArray.size : Nat) : Int) - 1 = (xs.length : Int) - 1 - ((0 : Nat) : Int) := by simp only [bA]; omega
   show Heap.IsRevIter _ _ a ((xs.length:Int)-1-((0:Nat):Int));rw[<- e1];exact hst
 . have e : b = s1.heap.objs.size := by simpa using hb
   subst e;exact I1.fpOk (aR _) (I1.hok.fresh (aR _))
end
end L2
namespace FL
open PySem PySem.Spec PyProof.Rows L2
section
variable{X:Cx}
theorem wlk_rev{K:Frag}{a:aA}{l:List D}: Wlk K (Itv K a l.length) (.ref a,.lst l) l.reverse:=by
 intro H O _ r;obtain⟨b,xs,e,hs,rs⟩:=WRep.seqL (.inl r);cases e;have hlen:=rs.length;refine⟨fun i d hd=>?_,show _=l.length from eJ⟩
 have hi:i<l.length:=by
  have:=(aT.mp hd).1
  rwa [eJ] at this
 rw[lC hi] at hd;obtain⟨v,h1,h2⟩:=rs.get hd;refine⟨⟨xs,v,hs,hlen,hi,h1⟩,fun x H' y=>?_⟩;obtain⟨rfl,y⟩:=y;have:=y xs hs;rw[h1] at this;cases this;exact⟨Same.refl _,h2⟩
theorem piv_rev{tg e:Expr}{p pos:Pos}{f:FE}(hc:True)(hm:X.mg "reversed" = none)(h:PV X e f)(hg:Gl X "reversed":=by rfl)(hs:aF [e] X.env=[(false,bM e X.env)]:=by rfl):PIv X tg (.Call (.Name "reversed" p) [e] [] pos) (revA f):=by
 obtain⟨t,ht,hf⟩:=zE h zQ hs;refine⟨_,pi_rev hg hm ht hs,fun H₀ H O σ ds hd items R o e q=>?_⟩;unfold revA at e;obtain⟨d,h1,e⟩:=bnd e;cases d<;>first | (cases e;done) | skip
 rename_i l;cases e;refine hf H₀ H O σ ds hd [.lst l] _ o (by simp[zB,h1,zV]) fun vs H' s r=>?_;cases r with
 | cons r1 rr =>
   cases rr;obtain⟨a,xs,rfl,hq,rs⟩:=WRep.seqL (.inl r1);refine⟨a,xs,rfl,hq,?_⟩;rw[rs.length];exact q _ (.ref a,.lst l) H' s r1 wlk_rev
theorem aAc{i:Nat}{x:Str}{e:Expr}{pos pos':Pos}{f:FE}(hN:X.N.Nodup)(he:PV X e f)(hi:X.N[i]?=some x:=by rfl)(hx:Loc X.env.scope x:=by first | exact Or.inl rfl | exact Or.inr rfl)(hf:X.fn x=true\/X.env.scope.names.lookup x=some .local:=by first | exact .inl rfl | exact .inr rfl):PSv X (.AugAssign (.Name x pos') .Add e pos) (augA i f):=by
 obtain⟨t,ht,hg⟩:=he;refine⟨_,ps_aug hN hi hx ht ip_add hf,fun H₀ H O σ ds hd out E o e h=>?_⟩;unfold augA qC at e;cases hs:ds[i]? with
 |none=>rw[hs] at e;cases e
 | some sl =>
   rw[hs] at e;cases sl with
   |no=>cases e
   |exc _=>cases e
   |fr _=>cases e
   |ob _ _=>cases e
   |own l=>cases e
   | v dx =>
     simp only[aO] at e;obtain⟨dy,h1,e⟩:=bnd e;cases dx<;>first | (cases e;done) | skip
     cases dy<;>first | (cases e;done) | skip
     cases e;obtain⟨v,q1,q2⟩:=o.read hs;cases q2;refine⟨_,q1,hg H₀ H O σ ds hd _ _ o h1 fun v H' s r=>?_⟩;cases r;exact⟨_,_,rfl,rfl,h _ _ _ ((o.mono s).set (.int _))⟩
end
end FL
namespace L2
open PySem PySem.Spec PyProof.Rows
section
variable{X:Cx}{aB:List (aA×Obj)}{σ : St}{H:Hp}{s:aC}{h':Heap}
theorem Inv.turnedS{t':Nat}{ch:List aA}(I:Inv X aB σ H s)(k:∀b o,b∉ch->s.heap.get? b=some o->h'.get? b=some o)(hf:∀b∈ch,FpOk X aB H b):Inv X aB σ H { s with heap:=h',toks:=t' }:=by
 have nit:∀b u,H b=some u->b∉ch:=fun b u e z=>by rw[(hf b z).1] at e;cases e
 refine I.step (g':=s.gens) (d':=s.drawn) (ch:=ch) (fun b hb=>?_) (fun b o _ _ hc e _=>k b o hc e) (fun b o _ _ hc e _=>⟨o.slots,k b o hc e⟩) (fun _ _ _ _ n=>n)
  (fun b o hc e=>⟨o,k b o hc e⟩) (fun _ _ e=>e) (fun _ _ _ e=>e) (fun _ _ e=>e) (fun m hm=>?_) (fun b u e=>?_) I.bare
 . obtain⟨f0, f1, f2, f3, f4, f5⟩ := hf b hb;exact⟨f3,f1,f4,f5⟩
 . obtain⟨o, es, ep, ho, r⟩ := hm;exact⟨o,es,ep,k _ o (fun z=>(hf _ z).2.1 rfl) ho,r⟩
 . refine (I.hok b u e).stay (fun c v hc q => k c v ?_ q) (fun _ q => q) fun _ _ q => q;rcases hc with z | z
   . rw[z];exact nit b u e
   . exact nit c _ z
end
section
variable{X:Cx}
end
end L2
namespace FL
open PySem PySem.Spec PyProof.Rows L2
section
variable{X:Cx}
section
variable{scope:Scope}{NY:List Str}{mp:List (Option Nat)}{tg iter elt:Expr}{ifs:List Expr}{pos:Pos}{fi:FA}{ga:D->List Sl->Option (List Sl)}{tt:FT}{fe:FE}
end
end
end FL
namespace L2
open PySem PySem.Spec PyProof.Rows
section
variable{X:Cx}
end
end L2
namespace FL
open PySem PySem.Spec PyProof.Rows L2
section
variable{X:Cx}
end
section
variable{X:Cx}
end
section
variable{X:Cx}
end
end FL
namespace L2
open PySem PySem.Spec PyProof.Rows
section
variable{X:Cx}
end
end L2
namespace FL
open PySem PySem.Spec PyProof.Rows L2
section
variable{X:Cx}
end
end FL
namespace L2
open PySem PySem.Spec PyProof.Rows
section
variable{X:Cx}
def JD(X:Cx)(m:Str)(k:Nat)(ta:TE)(t:TA):TE:=fun σ H Q=>ta σ H fun x H1=>∃(a C dx:aA) (fs:List (Str×V)) (f:aA) (fd:aH) (ps:List Str) (sp:Sp),x=.ref a/\H1 a=some (.ins C dx fs)/\fs.lookup m=none ∧
 Cls X.K C/\Meth X.K C m f/\FnOk X.prog X.w X.K X.mg X.base CX0 k f fd ps sp/\Binds X.K fd ps []/\t σ H1 fun vs H2=>sp (x::vs) H2 Q E0
theorem DH{k:Nat}{m:Str}{e o:Expr}{es:List Expr}{apos pos:Pos}{ta:TE}{t:TA}{pl:Sem Bool}(he:PE X o ta)(hr:Room k X.A)(ha:PA X (e::es) t)(hst:aF (e::es) X.env=(false,bM e X.env)::aF es X.env:=by rfl)(hpl:(cN pos (aF es X.env)).any (·.1)=false:=by rfl)(ht:bM (.Call (.Attribute o m apos) (e::es) [] pos) X.env=(do
    let ov <- bM o X.env
    fP apos.atName
    let (f,first) <- dW [ov] (fM ov m pl)
    iO pos f first (cN pos (aF (e::es) X.env)) (fC pos (dC [] X.env))):=by rfl) :
  PE X (.Call (.Attribute o m apos) (e::es) [] pos) (JD X m k ta t):=by
 intro aB s σ H Q I h;refine iQ (pl:=pl) (thn (he aB s σ H _ I h) fun u s1 zq=>?_) ht;obtain⟨x,H1,I1,rx,a,C,dx,fs,f,fd,ps,sp,ex,ea,l,c,hm,F,hb,q⟩:=zq;subst ex;obtain rfl:u=Value.ref a:=rx;refine wZ I1 ea c hm l ?_;refine mF (first:=[.ref a]) (h₀:=X.base) I.ok.mod.kin hm.kp (thn (ha pos aB s1 σ H1 _ I1 q) fun us s2 ⟨vs,H2,I2,r,q2⟩=>⟨I2.kIn,?_⟩) hst hpl;exact JG (us:=.ref a::us) (vs:=.ref a::vs) F hr hb .nil pass0 I2 (.cons rfl r) (by simpa using q2)
theorem kA{k:Nat}{m:Str}{o:Expr}{apos pos:Pos}{ta:TE}{pl:Sem Bool}(he:PE X o ta)(hr:Room k X.A)(ht:bM (.Call (.Attribute o m apos) [] [] pos) X.env=(do
    let ov <- bM o X.env
    fP apos.atName
    let (f,first) <- dW [ov] (fM ov m pl)
    iO pos f first (cN pos (aF [] X.env)) (fC pos (dC [] X.env))):=by rfl) :
  PE X (.Call (.Attribute o m apos) [] [] pos) (JD X m k ta tNil):=by
 intro aB s σ H Q I h;refine iQ (pl:=pl) (thn (he aB s σ H _ I h) fun u s1 zq=>?_) ht;obtain⟨x,H1,I1,rx,a,C,dx,fs,f,fd,ps,sp,ex,ea,l,c,hm,F,hb,q⟩:=zq;subst ex;obtain rfl:u=Value.ref a:=rx;refine wZ I1 ea c hm l ?_;exact rG (first:=[.ref a]) I1.kIn hm.kp (JG (us:=[.ref a]) (vs:=[.ref a]) F hr hb .nil pass0 I1 (.cons rfl .nil) q)
structure Sup(K:aJ)(C:aA)(m:Str)(f:aA):Prop where
 ex:∃mc,sP K (.ref C) "__getattribute__" = some (some (.builtin "type.__getattribute__"))/\TY K C mc=true/\TZ K (.ref C) mc m=some (.val (.ref f))/\bF K (.ref f)=true
theorem pe_sup{k:Nat}{x m:Str}{C f:aA}{fd:aH}{ps:List Str}{sp:Sp}{e:Expr}{es:List Expr}{p apos pos:Pos}{t:TA}{pl:Sem Bool}(hg:Gl X x)(hmg:X.mg x=some (.ref C))(hs:Sup X.K C m f)(F:FnOk X.prog X.w X.K X.mg X.base CX0 k f fd ps sp)(hr:Room k X.A)(hb:Binds X.K fd ps [])(ha:PA X (e::es) t)(hdb:(x==("__debug__" : Str))=false:=by decide)(hst:aF (e::es) X.env=(false,bM e X.env)::aF es X.env:=by rfl)(hpl:(cN pos (aF es X.env)).any (·.1)=false:=by rfl)(ht:bM (.Call (.Attribute (.Name x p) m apos) (e::es) [] pos) X.env=(do
    let ov <- bM (.Name x p) X.env
    fP apos.atName
    let (f,first) <- dW [ov] (fM ov m pl)
    iO pos f first (cN pos (aF (e::es) X.env)) (fC pos (dC [] X.env))):=by rfl) :
  PE X (.Call (.Attribute (.Name x p) m apos) (e::es) [] pos) (fun σ H Q=>t σ H fun vs H2=>sp vs H2 Q E0):=by
 intro aB s σ H Q I h;obtain⟨mc,h1,h2,h3,h4⟩:=hs.ex;refine iQ (pl:=pl) (xY I hg hmg ?_ hdb) ht;refine PySem.W.method_cls I.kIn h1 (PySem.W.cls_value I.kIn h2 h3 rfl ?_);have I':=I.tok (s.toks+1);refine mF (first:=[]) (h₀:=X.base) I.ok.mod.kin h4 (thn (ha pos aB _ σ H _ I' h) fun us s2 ⟨vs,H2,I2,r,q2⟩=>⟨I2.kIn,?_⟩) hst hpl;exact JG (us:=us) (vs:=vs) F hr hb .nil pass0 I2 r (by simpa using q2)
end
end L2
namespace FL
open PySem PySem.Spec PyProof.Rows L2
section
variable{X:Cx}
theorem PVd.v{e:Expr}{f:FE}(h:PVd X e f):PV X e f:=by
 obtain⟨t,ht,hf⟩:=h;exact⟨t,ht,fun H₀ H O σ ds hd d Q o e q=>hf H₀ H O σ ds hd d Q o e fun v H' s r=>q v H' s (r.less fun a z=>o.old z)⟩
def FldOk(K:Frag)(f:Str)(ix:List (Nat×Nat)):Prop:=∀t i,ix.lookup t=some i->(cH t)[i]?=some f/\(∀j,j<i->(cH t)[j]?≠some f)/\∀C,aP K aM (cQ t)=some (some (.ref C))->Cls K C/\NoAttr K C f
theorem jI{K:Frag}{f:Str}: FldOk K f []:=fun t i h=>by simp at h
theorem QD{K:Frag}{f:Str}{t i:Nat}{C:aA}{ix:List (Nat×Nat)}(a:aP K aM (cQ t)=some (some (.ref C)))(c:Cls K C)(n:NoAttr K C f)(h1:(cH t)[i]?=some f)(h2:∀j,j<i->(cH t)[j]?≠some f)(h:FldOk K f ix):FldOk K f ((t,i)::ix):=by
 intro t' i' e
 by_cases q:t'=t
 . subst q;simp at e;subst e;refine⟨h1,h2,fun C' e'=>?_⟩;rw[a] at e';cases e';exact⟨c,n⟩
 . have : (t' == t) = false := by simpa using q
   rw[bZ,this] at e;exact h t' i' e
theorem vB{f:Str}:∀{kvs:List (Str×V)} {i:Nat} {v:V},(kvs.map (·.1))[i]?=some f->(∀j,j<i->(kvs.map (·.1))[j]?≠some f)->(kvs.map (·.2))[i]?=some v->kvs.lookup f=some v
 |[],_,_,h,_,_=>by simp at h
 | (g, x) :: r, 0, v, h1, _, h3 => by
   simp at h1 h3;subst h1 h3;simp[List.lookup]
 | (g, x) :: r, i + 1, v, h1, h2, h3 => by
   have hg:g≠f:=fun z=>h2 0 (by omega) (by simp[z]);have:(f==g)=false:=by simpa using fun z=>hg z.symm
   rw[bZ,this];exact vB (i:=i) (by simpa using h1) (fun j hj=>by have:=h2 (j+1) (by omega);simpa using this) (by simpa using h3)
theorem qY{e:Expr}{f:Str}{pos:Pos}{fe:FE}{ix:List (Nat×Nat)}(hF:FldOk X.K f ix)(he:PV X e fe)(hb:cW e f X.env (bM e X.env)=bM e X.env:=by rfl):PV X (.Attribute e f pos) (fldG ix fe):=by
 obtain⟨t,ht,hf⟩:=he;refine⟨_,aAo ht hb,fun H₀ H O σ ds hd d Q o e q=>?_⟩;unfold fldG at e;obtain⟨x,h,e⟩:=bnd e;refine hf H₀ H O σ ds hd x _ o h fun v H1 s1 r1=>?_;cases x with
 | ins t es =>
   simp only[fldD] at e;obtain⟨i,hl,e⟩:=bnd e;obtain⟨h1,h2,h3⟩:=hF t i hl;cases r1 with
   | @ins a C dx _ kvs _ c n ha ek rr =>
     obtain⟨cl,na⟩:=h3 C c;obtain⟨w,hw,rw'⟩:=rr.get e;refine⟨a,C,dx,kvs,w,rfl,ha,cl,na,vB (i:=i) (by rw[ek];exact h1) (by rw[ek];exact h2) hw,?_⟩;exact q w H1 s1 rw'
 |_=>simp[fldD] at e
structure MCal(P:aZ)(w:bK)(K:Frag)(mg:Str->Option Value)(base:Heap)(m:Str)(k n:Nat)(cs:List Nat)(F:Nat->List D->Option Ret):Prop where
 no:∀t∈cs,m∉cH t
 of:∀t∈cs,∀C,aP K aM (cQ t)=some (some (.ref C))->∃(f:aA) (fd:aH) (ps:List Str),Cls K C/\Meth K C m f/\FnOk P w K mg base CX0 k f fd ps (spF K (n+1) (F t))/\Binds K fd ps []
theorem yX{P:aZ}{w:bK}{K:Frag}{mg:Str->Option Value}{base:Heap}{m:Str}{k n:Nat}{F:Nat->List D->Option Ret}: MCal P w K mg base m k n [] F:=⟨fun _ h=>(nomatch h),fun _ h=>(nomatch h)⟩
theorem VL{P:aZ}{w:bK}{K:Frag}{mg:Str->Option Value}{base:Heap}{m:Str}{j k n t:Nat}{cs:List Nat}{F:Nat->List D->Option Ret}{C f:aA}{fd:aH}{ps:List Str}(a:aP K aM (cQ t)=some (some (.ref C)))(c:Cls K C)(hm:Meth K C m f)(G:FnOk P w K mg base CX0 j f fd ps (spF K (n+1) (F t)))(hj:j<=k)(b:Binds K fd ps [])(hn:m∉cH t)(h:MCal P w K mg base m k n cs F):MCal P w K mg base m k n (t::cs) F:=by
 refine⟨fun t' ht=>(aE.mp ht).elim (fun e=>e▸hn) (h.no t'),fun t' ht C' e=>?_⟩;rcases aE.mp ht with rfl | ht
 . rw[a] at e;cases e;exact⟨f,fd,ps,c,hm,G.mono hj,b⟩
 . exact h.of t' ht C' e
theorem jO{m:Str}:∀{kvs:List (Str×V)},m∉kvs.map (·.1)->kvs.lookup m=none
 |[],_=>rfl
 | (g, x) :: r, h => by
   have hg:(m==g)=false:=by simpa using fun z=>h (by simp[z])
   rw[bZ,hg];exact jO fun z=>h (by simp at z ⊢;exact .inr z)
theorem DM{m:Str}{k n:Nat}{cs:List Nat}{F:Nat->List D->Option Ret}(M:MCal X.prog X.w X.K X.mg X.base m k n cs F){ta:TE}{t:TA}{fo:FE}{g:FA}(hfo:∀H₀ H O σ ds hd d Q,Ok X.K H₀ H O σ ds hd->fo ds=some d->(∀v H',Same H H'->Rep X.K H' O v d->Q v H')->ta σ H Q)(hfg:∀H₀ H O σ ds hd l Q,Ok X.K H₀ H O σ ds hd->g ds=some l->(∀vs H',Same H H'->Reps X.K H' jJ vs l->Q vs H')->t σ H Q){H₀ H:Hp}{O:aA->Prop}{σ : L2.St}{ds:List Sl}{hd:Hold}{x:D}{l:List D}{r:Ret}{Q:VK}(o:Ok X.K H₀ H O σ ds hd)(h1:fo ds=some x)(h2:g ds=some l)(h3:methR n cs F x l=some r)(q:∀v H1 H',Same H H1->Same H1 H'->RetOk X.K H1 H' v r->Q v H'):JD X m k ta t σ H Q:=by
 refine hfo H₀ H O σ ds hd x _ o h1 fun v H1 s1 r1=>?_;cases x with
 | ins c es =>
   simp only[methR] at h3
   split at h3
   . rename_i hc;cases r1 with
     | @ins a C dx _ kvs _ cc nn ha ek rr =>
       obtain⟨f,fd,ps,cl,hm,Fn,hb⟩:=M.of c hc.1 C cc;refine⟨a,C,dx,kvs,f,fd,ps,_,rfl,ha,jO (by rw[ek];exact M.no c hc.1),cl,hm,Fn,hb,?_⟩;refine hfg H₀ H1 O σ ds hd l _ (o.mono s1) h2 fun vs H2 s2 r2=>?_;have hl:=r2.length;have r1':Rep X.K H2 jJ (.ref a) (.ins c es):=(Rep.ins cc (fun z=>z.elim) (s2 _ _ ha) ek ((rr.mono s2).less fun _ z=>z.elim))
       exact⟨by simp only[aK];omega,_,r,.cons r1' r2,h3,fun v H' s' ro=>q v H2 H' (s1.trans s2) s' ro⟩
   . cases h3
 |_=>simp[methR] at h3
section
variable{m:Str}{k j n:Nat}{cs:List Nat}{F:Nat->List D->Option Ret}{o e:Expr}{es:List Expr}{apos pos:Pos}{fo:FE}{g:FA}
theorem xH{pl:Sem Bool}(M:MCal X.prog X.w X.K X.mg X.base m k n cs F)(hr:Room j X.A)(ho:PV X o fo)(ha:PAn X (e::es) g)(hj:k<=j:=by decide)(hst:aF (e::es) X.env=(false,bM e X.env)::aF es X.env:=by rfl)(hpl:(cN pos (aF es X.env)).any (·.1)=false:=by rfl)(ht:bM (.Call (.Attribute o m apos) (e::es) [] pos) X.env=(do
    let ov <- bM o X.env
    fP apos.atName
    let (f,first) <- dW [ov] (fM ov m pl)
    iO pos f first (cN pos (aF (e::es) X.env)) (fC pos (dC [] X.env))):=by rfl):PV X (.Call (.Attribute o m apos) (e::es) [] pos) (methV n cs F fo g):=by
 obtain⟨ta,pa,hfo⟩:=ho;obtain⟨t,pt,hfg⟩:=ha;refine⟨_,DH (pl:=pl) (k:=k) pa (hr.mono hj) pt hst hpl ht,fun H₀ H O σ ds hd d Q o e q=>?_⟩;unfold methV at e;obtain⟨x,h1,e⟩:=bnd e;obtain⟨l,h2,e⟩:=bnd e;obtain⟨r,h3,e⟩:=bnd e;refine DM M hfo hfg o h1 h2 h3 fun v H1 H' s1 s' ro=>q v H' (s1.trans s') ?_;exact JH ro e fun a ha=>(o.mono s1).old ha
end
end
noncomputable def eH:Hp:=fun _=>none
def Keepx(x:aA)(H H':Hp):Prop:=∀b o,b≠x->H b=some o->H' b=some o
theorem Keepx.trans{x:aA}{H H1 H2:Hp}(a:Keepx x H H1)(b:Keepx x H1 H2):Keepx x H H2:=fun c o n e=>b c o n (a c o n e)
theorem Keepx.of_same{x:aA}{H H1:Hp}(s:Same H H1):Keepx x H H1:=fun c o _ e=>s c o e
section
variable{K:Frag}{H H':Hp}{O:aA->Prop}{x:aA}
theorem Keepx.rd{a C dx:aA}{kvs:List (Str×V)}{xs:List V}(k:Keepx x H H')(hx:H x=some (.ins C dx kvs))(h:Rd H a (.tup xs)):Rd H' a (.tup xs):=by
 rcases h with h | ⟨o,h⟩
 . exact .inl (k _ _ (fun z=>by rw[z,hx] at h;cases h) h)
 . exact .inr ⟨o,k _ _ (fun z=>by rw[z,hx] at h;cases h) h⟩
mutual
theorem Rep.flatKeep{C dx:aA}{kvs:List (Str×V)}(k:Keepx x H H')(hx:H x=some (.ins C dx kvs)):∀{v:V} {d:D},flat d=true->Rep K H O v d->Rep K H' O v d
 |_,_,_,.non=>.non
 |_,_,_,.bl b=>.bl b
 |_,_,_,.int i=>.int i
 |_,_,_,.str y=>.str y
 |_,_,f,.tup n h r=>.tup n (k.rd hx h) (Reps.flatKeep k hx (by simpa[flat] using f) r)
 |_,_,f,.tupK h r=>.tupK h (Reps.flatKeep k hx (by simpa[flat] using f) r)
 |_,_,f,.lst _ _ _=>by simp[flat] at f
 |_,_,f,.lstK _ _=>by simp[flat] at f
 |_,_,f,.dct _ _ _ _=>by simp[flat] at f
 |_,_,f,.dcf _ _ _ _=>by simp[flat] at f
 |_,_,f,.ins _ _ _ _ _=>by simp[flat] at f
 |_,_,f,.clo _ _ _ _ _ _=>by simp[flat] at f
 |_,_,f,.fnK _=>by simp[flat] at f
theorem Reps.flatKeep{C dx:aA}{kvs:List (Str×V)}(k:Keepx x H H')(hx:H x=some (.ins C dx kvs)):∀{vs:List V} {ds:List D},flats ds=true->Reps K H O vs ds->Reps K H' O vs ds
 |_,_,_,.nil=>.nil
 | _, _, f, .cons h t => by
   simp only[flats,cA] at f;exact .cons (Rep.flatKeep k hx f.1 h) (Reps.flatKeep k hx f.2 t)
end
end
def FlatS(ds:List Sl):Prop:=∀i:Nat,ds[i]?=none\/ds[i]?=some Sl.no\/∃d,ds[i]?=some (Sl.v d)/\flat d=true
noncomputable def hX(kvs:List (Str×V))(l:List (Str×V)):List (Str×V):=l.foldl (fun k p=>putF p.1 p.2 k) kvs
theorem FF(kvs l m:List (Str×V)):hX kvs (l++m)=hX (hX kvs l) m:=by simp[hX]
theorem sB:∀(l kvs:List (Str×V)),(hX kvs l).length<=kvs.length+l.length
 |[],kvs=>by simp[hX]
 | p :: r, kvs => by
   have h1:=sB r (putF p.1 p.2 kvs);have h2:=wC p.1 p.2 kvs;simp only[hX,List.foldl_cons,aK] at h1 ⊢;omega
theorem CZ{f:Str}{v:V}:∀{kvs:List (Str×V)},f∉kvs.map (·.1)->putF f v kvs=kvs++[(f,v)]
 |[],_=>rfl
 | (g, x) :: r, h => by
   have hg : ¬g=f:=fun z=>h (by simp[z]);rw[show putF f v ((g,x)::r)=(if g=f then (g,v)::r else (g,x)::putF f v r) from rfl,if_neg hg,CZ fun z=>h (by simp at z ⊢;exact .inr z)];rfl
theorem DA:∀{l kvs:List (Str×V)},(kvs.map (·.1)++l.map (·.1)).Nodup->hX kvs l=kvs++l
 |[],kvs,_=>by simp[hX]
 | p :: r, kvs, h => by
   have hp:p.1∉kvs.map (·.1):=fun z=>by
    rw[dM] at h;exact h.2.2 _ z _ (by simp) rfl
   have:hX kvs (p::r)=hX (putF p.1 p.2 kvs) r:=rfl;rw[this,CZ hp,DA (by simpa[fG] using h)];simp
theorem ok_flat{K:Frag}{H H':Hp}{σ : L2.St}{ds:List Sl}{x C dx:aA}{kvs:List (Str×V)}(o:Ok K eH H jJ σ ds [])(f:FlatS ds)(k:Keepx x H H')(hx:H x=some (.ins C dx kvs)):Ok K eH H' jJ σ ds []:=by
 refine⟨(fun b u e=>by cases e),(fun i l a hi _=>by rcases f i with h | h | ⟨d,h,hf⟩<;>rw[h] at hi<;>cases hi),fun _ z=>z.elim,o.len,fun i s e=>?_,fun i j a _ ⟨l,hi⟩ _ _ _=>?_,(fun p hp=>by cases hp),.no fun i r t e=>by rcases f i with h | h | ⟨d,h,hf⟩<;>rw[h] at e<;>cases e⟩
 . rcases f i with h | h | ⟨d, h, hf⟩
   . rw[h] at e;cases e
   . rw[h] at e;cases e;exact jF
   . rw[h] at e;cases e;obtain⟨v,h1,h2⟩:=o.read h;rw[h1];exact yE (h2.flatKeep k hx hf)
 . rcases f i with h | h | ⟨d,h,hf⟩<;>rw[h] at hi<;>cases hi
noncomputable def spN(K:Frag)(n:Nat)(ns:List Str)(G:List D->Option (List D)):Sp:=fun vs H Q _=>∃(x C dx:aA) (kvs:List (Str×V)) (vs':List V) (ds new:List D),vs=.ref x::vs'/\vs'.length=n/\H x=some (.ins C dx kvs)/\Cls K C ∧
 Reps K H jJ vs' ds/\flats ds=true/\G ds=some new/\(∀f∈ns,NoAttr K C f)/\kvs.length+ns.length<1000 ∧
 ∀ws H',Keepx x H H'->H' x=some (.ins C dx (hX kvs (ns.zip ws)))->Reps K H' jJ ws new->new.length=ns.length->flats new=true->Q .non H'
section
variable{X:Cx}
variable(X) in
def PIs(st:List Stmt)(ns:List Str)(g:FN):Prop:=∃t,PSs X st t/\∀H σ ds x C dx kvs new E,Ok X.K eH H jJ σ ds []->FlatS ds->σ[0]?=some (some (.ref x))->H x=some (.ins C dx kvs)->Cls X.K C->g ds=some new->flats new=true →
 (∀f∈ns,NoAttr X.K C f)->kvs.length+ns.length<1000->(∀ws H',Keepx x H H'->H' x=some (.ins C dx (hX kvs (ns.zip ws)))->Reps X.K H' jJ ws new->new.length=ns.length->E.nx σ H')->t E σ H
variable(X) in
def PI1(st:Stmt)(ns:List Str)(g:FN):Prop:=∃t,PS X st t/\∀H σ ds x C dx kvs new E,Ok X.K eH H jJ σ ds []->FlatS ds->σ[0]?=some (some (.ref x))->H x=some (.ins C dx kvs)->Cls X.K C->g ds=some new->flats new=true →
 (∀f∈ns,NoAttr X.K C f)->kvs.length+ns.length<1000->(∀ws H',Keepx x H H'->H' x=some (.ins C dx (hX kvs (ns.zip ws)))->Reps X.K H' jJ ws new->new.length=ns.length->E.nx σ H')->t E σ H
theorem wU{st:Stmt}{ns:List Str}{g:FN}(h:PI1 X st ns g):PIs X [st] ns g:=by
 obtain⟨t,ht,hf⟩:=h;exact⟨_,BR ht,hf⟩
theorem tU:∀{a b:List D},flats (a++b)=true->flats a=true/\flats b=true
 |[],b,h=>⟨rfl,h⟩
 | d :: r, b, h => by
   simp only[fR,flats,cA] at h ⊢;have:=tU h.2;exact⟨⟨h.1,this.1⟩,this.2⟩
theorem jR{st:Stmt}{rest:List Stmt}{ns ms l:List Str}{f g:FN}(h1:PI1 X st ns f)(h2:PIs X rest ms g)(el:l=ns++ms:=by rfl):PIs X (st::rest) l (seqN f g):=by
 subst el;obtain⟨t,ht,hf⟩:=h1;obtain⟨u,hu,hg⟩:=h2;refine⟨_,wR ht hu,fun H σ ds x C dx kvs new E o fl h0 hx cl e hfl hn hk q=>?_⟩;unfold seqN at e;obtain⟨a,e1,e⟩:=bnd e;obtain⟨b,e2,rfl⟩:=mpd e;obtain⟨fa,fb⟩:=tU hfl;simp only[bR] at hk;refine hf H σ ds x C dx kvs a _ o fl h0 hx cl e1 fa (fun f hf=>hn f (by simp[hf])) (by omega) fun ws1 H1 k1 x1 r1 l1=>?_;have hz:(ns.zip ws1).length<=ns.length:=by rw[List.length_zip];omega
 have hkl:=sB (ns.zip ws1) kvs;refine hg H1 σ ds x C dx _ b _ (ok_flat o fl k1 hx) fl h0 x1 cl e2 fb (fun f hf=>hn f (by simp[hf])) (by omega) fun ws2 H2 k2 x2 r2 l2=>?_;refine q (ws1++ws2) H2 (k1.trans k2) ?_ ((r1.flatKeep k2 x1 fa).append r2) (by simp;omega);have hl:ns.length=ws1.length:=by rw[r1.length];exact l1.symm
 rw[List.zip_append hl,FF];exact x2
theorem xW{y f:Str}{e:Expr}{p pos pos':Pos}{fe:FE}(he:PV X e fe)(hN:X.N[0]?=some y:=by rfl)(hv:Vis X.env.scope y:=by first | exact Or.inl rfl | exact Or.inr (Or.inl rfl) | exact Or.inr (Or.inr rfl))(hd:(y==("__debug__" : Str))=false:=by decide)(hcd:(y==("__classdict__" : Str))=false:=by decide)(hs:cV e (some (.Attribute (.Name y p) f pos')) pos.line X.env=pure false:=by rfl):PI1 X (.Assign [.Attribute (.Name y p) f pos'] e pos) [f] (fldN fe):=by
 obtain⟨t,ht,hf⟩:=he;refine⟨_,OZ (xI hN hv hd hcd) ht hs,fun H σ ds x C dx kvs new E o fl h0 hx cl e hfl hn hk q=>?_⟩;unfold fldN at e;obtain⟨d,e1,e⟩:=bnd e
 split at e
 . rename_i hd1;cases e;simp only [aK,fD] at hk;refine hf eH H jJ σ ds [] d _ o e1 fun v H1 s1 r1=>?_;refine ⟨.ref x,h0,x,C,dx,kvs,rfl,s1 _ _ hx,cl,hn f (by simp),by omega,?_⟩;have k2:Keepx x H1 (upd H1 x (.ins C dx (putF f v kvs))):=fun b u hb e=>by rw [upd_ne hb]; exact e
   exact q [v] _ ((Keepx.of_same s1).trans k2) zX (.cons (r1.flatKeep k2 (s1 _ _ hx) hd1) .nil) rfl
 . cases e
theorem BS{e:Expr}{pos:Pos}{fe:FE}(he:PV X e fe)(hs:cV e none pos.line X.env=pure false:=by rfl):PI1 X (.Expr e pos) [] (dropN fe):=by
 obtain⟨t,ht,hf⟩:=he;refine⟨_,xX ht hs,fun H σ ds x C dx kvs new E o fl h0 hx cl e hfl hn hk q=>?_⟩;unfold dropN at e;obtain⟨d,e1,rfl⟩:=mpd e;exact hf eH H jJ σ ds [] d _ o e1 fun v H1 s1 r1=>q [] H1 (.of_same s1) (s1 _ _ hx) .nil rfl
structure SCal(P:aZ)(w:bK)(K:Frag)(mg:Str->Option Value)(base:Heap)(x:Str)(k:Nat)(ns:List Str)(G:List D->Option (List D)):Prop where
 ex:∃(C f:aA) (fd:aH) (ps:List Str),mg x=some (.ref C)/\Sup K C "__init__" f/\FnOk P w K mg base CX0 k f fd ps (spN K 0 ns G)/\Binds K fd ps []
theorem JQ{x y:Str}{k j:Nat}{ns:List Str}{G:List D->Option (List D)}{p p1 apos pos pos':Pos}(S:SCal X.prog X.w X.K X.mg X.base x k ns G)(hr:Room j X.A)(hj:k<=j:=by decide)(hg:Gl X x:=by rfl)(hN:X.N[0]?=some y:=by rfl)(hv:Vis X.env.scope y:=by first | exact Or.inl rfl | exact Or.inr (Or.inl rfl) | exact Or.inr (Or.inr rfl))(hd:(y==("__debug__" : Str))=false:=by decide)(hcd:(y==("__classdict__" : Str))=false:=by decide)(hdb:(x==("__debug__" : Str))=false:=by decide)(h1:aF [.Name y p1] X.env=(false,bM (.Name y p1) X.env)::aF [] X.env:=by rfl)(hpl:(cN pos (aF [] X.env)).any (·.1)=false:=by rfl)(hs:cV (.Call (.Attribute (.Name x p) "__init__" apos) [.Name y p1] [] pos) none pos'.line X.env=pure false:=by rfl){pl:Sem Bool}(ht:bM (.Call (.Attribute (.Name x p) "__init__" apos) [.Name y p1] [] pos) X.env=(do
    let ov <- bM (.Name x p) X.env
    fP apos.atName
    let (f,first) <- dW [ov] (fM ov "__init__" pl)
    iO pos f first (cN pos (aF [.Name y p1] X.env)) (fC pos (dC [] X.env))):=by rfl) :
  PI1 X (.Expr (.Call (.Attribute (.Name x p) "__init__" apos) [.Name y p1] [] pos) pos') ns (supN G):=by
 obtain⟨C0,f0,fd,ps,hmg,hsu,Fn,hb⟩:=S.ex;refine⟨_,xX (pe_sup (pl:=pl) hg hmg hsu Fn (hr.mono hj) hb (jN (xI hN hv hd hcd) yK h1) hdb h1 hpl ht) hs,fun H σ ds x C dx kvs new E o fl h0 hx cl e hfl hn hk q=>?_⟩;refine⟨.ref x,h0,x,C,dx,kvs,[],[],new,rfl,rfl,hx,cl,.nil,rfl,e,hn,hk,fun ws H' k' x' r' l' _=>q ws H' k' x' r' l'⟩
end
theorem IL:∀{ds:List D} {i:Nat} {d:D},flats ds=true->ds[i]?=some d->flat d=true
 |[],_,_,_,e=>by simp at e
 | c :: r, 0, d, h, e => by
   simp only[flats,cA] at h;simp at e;subst e;exact h.1
 | c :: r, i + 1, d, h, e => by
   simp only[flats,cA] at h;exact IL h.2 (by simpa using e)
theorem xC{n:Nat}{ds:List D}{i:Nat}{s:Sl}(e:(argsN n ds)[i]?=some s):s=.no\/∃j d,i=j+1/\ds[j]?=some d/\s=.v d:=by
 unfold argsN at e;cases i with
 |zero=>simp at e;exact .inl e.symm
 | succ j =>
   rw[cE] at e
   by_cases hj:j<ds.length
   . rw [aU (by simpa using hj), aX] at e;cases h:ds[j]? with
     |none=>rw[h] at e;cases e
     |some d=>rw[h] at e;cases e;exact .inr ⟨j,d,rfl,h,rfl⟩
   . rw [bS (by simpa using hj), cX] at e
     split at e
     . cases e;exact .inl rfl
     . cases e
theorem vC{P:aZ}{w:bK}{K:Frag}{mg:Str->Option Value}{base:Heap}{x qual:Str}{st:Stmt}{f:aA}{fd:aH}{N ps:List Str}{k n m:Nat}{ns:List Str}{g:FN}(Fn:Fun K x qual st f fd)(S:FnScope N ps (zH st))(hbody:∀(cdv:Value) (A:bO) (outer:List Env) (s:aC) (H:Hp) (E:XK),Room k (A.deeper (gD qual (zH st) s.heap.objs.size f cdv))->PIs (cxOf CX0 P w K mg base N qual (zH st) f cdv A outer s H E).nox (qT st) ns g)(hn:ps.length=n+1)(hN:n+1<=m)(hm:N.length=m):FnOk P w K mg base CX0 (k+1) f fd ps (spN K n ns (runN g m)):=by
 subst hm;refine Fn.ok S (fun vs H Q E h=>?_) (fun cdv A outer s H vs Q E hr h=>?_)
 . obtain⟨x, C, dx, kvs, vs', ds, new, rfl, hl, _⟩ := h;simp[hl,hn]
 . obtain ⟨x, C, dx, kvs, vs', ds, new, rfl, hl, hx, cl, rv, hfl, e, hna, hk, q⟩ := h;obtain ⟨t,ht,hf⟩:=hbody cdv A outer s H E hr;refine ⟨t,ht,?_⟩;have hld:ds.length=n:=by rw [<- rv.length]; exact hl
   unfold runN at e;cases e1:g (argsN N.length ds) with
   |none=>rw[e1] at e;cases e
   | some new' =>
     rw[e1] at e;simp only[aO] at e
     split at e
     . rename_i hfn;cases e
       have o:Ok K eH H jJ (L2.start N (.ref x::vs')) (argsN N.length ds) []:=by
        refine⟨(fun b u e=>by cases e),(fun i l a hi _=>by rcases xC hi with h | ⟨j,d,_,_,h⟩<;>cases h),fun _ z=>z.elim,by simp[L2.start,argsN,hl,hld],fun i s e=>?_,fun i j a _ ⟨l,hi⟩ _ _ _=>?_,(fun p hp=>by cases hp),.no fun i r t e=>by rcases xC e with h | ⟨j,d,_,_,h⟩<;>cases h⟩
        . rcases xC e with rfl | ⟨j, d, rfl, hj, rfl⟩
          . exact jF
          . obtain ⟨v, h1, h2⟩ := rv.get hj;have hjl:j < vs'.length:=(aT.mp h1).1
            have:(L2.start N (.ref x::vs'))[j+1]?=some (some v):=by
             unfold L2.start;rw[aU (by simpa using hjl)];simp[h1]
            rw[this];exact yE h2
        . rcases xC hi with h | ⟨j,d,_,_,h⟩<;>cases h
       have fl:FlatS (argsN N.length ds):=fun i=>by
        cases e:(argsN N.length ds)[i]? with
        |none=>exact .inl rfl
        | some s =>
          rcases xC e with rfl | ⟨j,d,rfl,hj,rfl⟩
          . exact .inr (.inl rfl)
          . exact .inr (.inr ⟨d,rfl,IL hfl hj⟩)
       exact hf H _ _ x C dx kvs new _ o fl (by simp[L2.start]) hx cl e1 hfn hna hk fun ws H' k' x' r' l'=>q ws H' k' x' r' l' hfn
     . cases e
structure MkC(P:aZ)(w:bK)(K:Frag)(mg:Str->Option Value)(base:Heap)(t k n:Nat)(G:List D->Option (List D)):Prop where
 ex:∃(C f:aA) (fd:aH) (ps:List Str),aP K aM (cQ t)=some (some (.ref C))/\mg (cQ t)=some (.ref C)/\Mk K C f/\Cls K C/\FnOk P w K mg base CX0 k f fd ps (spN K n (cH t) G)/\Binds K fd ps []/\(∀f∈cH t,NoAttr K C f)
section
variable{X:Cx}{t k j n:Nat}{G:List D->Option (List D)}{x:Str}{p pos:Pos}{e:Expr}{es:List Expr}{g:FA}
theorem MY{C:aA}{ta:TA}{l:List D}{new:List D}{H₀ H:Hp}{O:aA->Prop}{σ : L2.St}{ds:List Sl}{hd:Hold}{Q:VK}(hc:aP X.K aM (cQ t)=some (some (.ref C)))(hcl:Cls X.K C)(hna:∀f∈cH t,NoAttr X.K C f)(hnd:(cH t).Nodup)(hln:(cH t).length<900)(hfa:∀H₀ H O σ ds hd l Q,Ok X.K H₀ H O σ ds hd->g ds=some l->(∀vs H',Same H H'->Reps X.K H' jJ vs l->Q vs H')->ta σ H Q)(o:Ok X.K H₀ H O σ ds hd)(h1:g ds=some l)(hl:l.length=n/\flats l=true)(h2:G l=some new)(q:∀v H',Same H H'->Rep X.K H' (Old H) v (.ins t new)->Q v H'):tMake C (spN X.K n (cH t) G) [] E0 ta σ H Q:=by
 refine hfa H₀ H O σ ds hd l _ o h1 fun vs H1 s1 r1=>?_;intro x dx nx ndx nex
 have s2:Same H1 (upd (upd H1 dx (.own x)) x (.ins C dx [])):=fun b o e=>by
  rw[upd_ne (qV e nx),upd_ne (qV e ndx)];exact e
 refine⟨x,C,dx,[],vs,l,new,by simp,by rw[r1.length];exact hl.1,zX,hcl,r1.mono s2,hl.2,h2,hna,by simp;omega,fun ws H' k' x' r' l' f'=>⟨rfl,?_⟩⟩;have s3:Same H1 H':=fun b o e=>k' b o (qV e nx) (s2 b o e);have hlw:(cH t).length=ws.length:=by rw[r'.length];exact l'.symm
 have ek:hX [] ((cH t).zip ws)=(cH t).zip ws:=by
  rw[DA (by simpa[YH (iU hlw)] using hnd)];simp
 rw[ek] at x';have nx0:H x=none:=s1.free nx;refine q (.ref x) H' (s1.trans s3) (.ins hc (not_old nx0) x' (YH (iU hlw)) ?_);rw[List.map_snd_zip (iU hlw.symm)];exact Reps.flatten (fun a z=>Old.mono (s1.trans s3) z) f' r'
theorem wE(M:MkC X.prog X.w X.K X.mg X.base t k n G)(hr:Room j X.A)(ha:PAn X (e::es) g)(hj:k+1<=j:=by decide)(hx:cQ t=x:=by rfl)(hnd:(cH t).Nodup:=by decide +kernel)(hln:(cH t).length<900:=by decide)(hg:Gl X x:=by rfl)(hdb:(x==("__debug__" : Str))=false:=by decide)(he:aF (e::es) X.env=(false,bM e X.env)::aF es X.env:=by rfl)(hpl:(cN pos (aF es X.env)).any (·.1)=false:=by rfl) :
  PVd X (.Call (.Name x p) (e::es) [] pos) (makeG t n G g):=by
 obtain⟨C,f,fd,ps,hc,hm,mk,cl,Fn,hb,hna⟩:=M.ex;obtain⟨ta,pa,hfa⟩:=ha;subst hx;refine⟨_,RQ (CX:=CX0) (E:=E0) mk Fn (hr.mono hj) hg hm hb .nil pass0 pa hdb he hpl,fun H₀ H O σ ds hd d Q o e q=>?_⟩;unfold makeG at e;obtain⟨l,h1,e⟩:=bnd e
 split at e
 . rename_i hl;obtain⟨new,h2,rfl⟩:=mpd e;exact MY hc cl hna hnd hln hfa o h1 hl h2 q
 . cases e
theorem UQ(M:MkC X.prog X.w X.K X.mg X.base t k 0 G)(hr:Room j X.A)(hj:k+1<=j:=by decide)(hx:cQ t=x:=by rfl)(hnd:(cH t).Nodup:=by decide +kernel)(hln:(cH t).length<900:=by decide)(hg:Gl X x:=by rfl)(hdb:(x==("__debug__" : Str))=false:=by decide) :
  PVd X (.Call (.Name x p) [] [] pos) (makeG t 0 G zV):=by
 obtain⟨C,f,fd,ps,hc,hm,mk,cl,Fn,hb,hna⟩:=M.ex;subst hx;refine⟨_,aAm (CX:=CX0) (E:=E0) mk Fn (hr.mono hj) hg hm hb .nil pass0 hdb,fun H₀ H O σ ds hd d Q o e q=>?_⟩;simp only[makeG,zV,aO,fD,flats,and_self,if_true] at e;obtain⟨new,h2,rfl⟩:=mpd e;exact MY (g:=zV) hc cl hna hnd hln (fun _ H _ _ _ _ _ _ _ e q=>by cases e;exact q _ H (Same.refl _) .nil) o rfl ⟨rfl,rfl⟩ h2 q
end
section
variable{X:Cx}
end
section
variable{X:Cx}
theorem MB{x:Str}{i:Int}{pos:Pos}(hm:∃t,X.mg x=some (.int i t))(hg:Gl X x:=by rfl)(hd:(x==("__debug__" : Str))=false:=by decide):PV X (.Name x pos) (zA (.int i)):=
 let ⟨t,h⟩:=hm
 RG (v:=.int i) hg h ⟨t,rfl⟩ (fun _ _=>.int i) hd
theorem ZM{x:Str}{i:Str}{pos:Pos}(hm:∃t,X.mg x=some (.str i t))(hg:Gl X x:=by rfl)(hd:(x==("__debug__" : Str))=false:=by decide):PV X (.Name x pos) (zA (.str i)):=
 let ⟨t,h⟩:=hm
 RG (v:=.str i) hg h ⟨t,rfl⟩ (fun _ _=>.str i) hd
end
inductive NoAll(K:Frag)(C:aA):List Str->Prop
 |nil:NoAll K C []
 |cons {f:Str} {l:List Str} (h:NoAttr K C f) (t:NoAll K C l):NoAll K C (f::l)
theorem yS{K:Frag}{C:aA}: NoAll K C []:=.nil
theorem qS{K:Frag}{C:aA}{f:Str}{l:List Str}(h:NoAttr K C f)(t:NoAll K C l):NoAll K C (f::l):=.cons h t
theorem yJ{K:Frag}{C:aA}:∀{l:List Str},NoAll K C l->∀f∈l,NoAttr K C f
 |_,.nil,f,h=>(nomatch h)
 |_,.cons q t,f,h=>(aE.mp h).elim (fun e=>e▸q) (yJ t f)
section
variable{X:Cx}
end
section
variable{X:Cx}{k j n:Nat}{F:List D->Option Ret}{x:Str}{p pos:Pos}{e:Expr}{es:List Expr}{g:FA}
end
end FL
namespace PySem
open Sem (wp)
section
variable{prog:aZ}{w:bK}{A:bO}{R:Result->aC->Prop}{I:aA}{fp wr:List aA}{n:Nat}{P:Nat->Value->Prop}{St:Nat->Heap->Prop}{kw:List (Str×Value)}
end
section
variable{prog:aZ}{w:bK}{A:bO}{E:Value->aC->Prop}{s:aC}
end
end PySem
namespace FL
open PySem PySem.Spec PyProof.Rows L2
section
variable{X:Cx}
end
open PySem.Calls PySem.Builtin PySem.Builtin.ObjectAttr PySem.Builtin.Getset_descriptor
open PySem.W (Looks looks_findIn looks_mroIn findIn mroIn specialIn takesIn KitX)
structure XIn(K:Frag)(C:aA):Prop where
 ga:findIn K (.ref C) "__getattribute__" = some (some (.builtin "BaseException.__getattribute__"))
 gt:findIn K (.ref C) "__getattr__" = some none
 cl:findIn K (.ref C) "__class__" = some (some (.builtin "object.__class__"))
 ob:mroIn K C (.type "object")=some true
 be:mroIn K C (.type "BaseException")=some true
section
variable{prog:aZ}{w:bK}{A:bO}{E:Value->aC->Prop}{h:Heap}{g:Array GenState}{d:UD}{t:Nat}{os:OsState}{a C:aA}{o:Obj}{K:Frag}
theorem x_type{M:UC}(hx:h.get? a=some o)(hc:o.cls=.ref C):Looks M h (typeOf (.ref a)) (.ref C):=hc▸(PySem.W.Looks.ld hx).andThen .now
end
end FL
namespace FL
open PySem PySem.Spec PyProof.Rows L2
def Fl2(B:Heap)(l:List Env)(e:aA)(cls a0 fl:Value)(h:Heap):Prop:=B.StaysIn h/\B.get? e=none/\h.FunFrames B l ∧
 ∃oe vs T oT ts,h.get? e=some oe/\(oe.cls=cls/\vs[0]?=some a0/\vs[2]?=some .none)/\oe.data=.fields vs/\vs[1]?=some (.ref T)/\B.get? T=none/\T≠e/\h.get? T=some oT/\oT.data=.fields ts/\ts[3]?=some fl
section
variable{M:UC}{A:bO}{E:Value->aC->Prop}{s:aC}{B:Heap}{l outer:List Env}{env:Env}{e L:aA}{cls a0 fl:Value}{oe:Obj}{vs:Array Value}{Q:Unit->aC->Prop}
theorem set2{v:Option aA}(R:Fl2 B l e cls a0 fl s.heap)(h:∀h',Fl2 B l e cls a0 (v.elim .none fun f=>NW f) h'->s.heap.UpToSlots h'->Q () { s with heap:=h' }):bD M A (setFlight (.ref e) v) Q E s:=by
 obtain⟨r1,r2,r3,oe,vs,T,oT,ts,q1,q2,q3,q4,q5,q6,q7,q8,q9⟩:=R;have hz:3<ts.size:=(mY.mp q9).1;have ot:∀b,b≠T->(s.heap.update T (Obj.mapFields (·.setIfInBounds 3 (v.elim .none fun f=>NW f)))).get? b=s.heap.get? b:=fun b hb=>dP _ _ (Ne.symm hb)
 have nr:∀b o,s.heap.get? b=some o->(∀vs,o.data≠.fields vs)->b≠T:=fun b o hb hn z=>by
  rw[z,q7] at hb;cases hb;exact hn _ q8
 unfold setFlight;refine bB (IY q1 q3 q4 ?_);rw[if_pos (by simp)];refine NU q7 q8 hz (h _ ⟨fun b o hb=>(ot b fun z=>?_).trans (r1 b o hb),r2,r3.of_keeps fun b o hb hn=>⟨o,(ot b (nr b o hb hn)).trans hb,rfl⟩,?_⟩ fun b o hb hn=>⟨o.slots,(ot b (nr b o hb hn)).trans hb⟩)
 . rw[z,q5] at hb;cases hb
 . exact⟨oe,vs,T,_,_,(ot e (Ne.symm q6)).trans q1,q2,q3,q4,q5,q6,lD _ q7 (Obj.isFreed_of_fields (Obj.data_mapFields q8 _)),Obj.data_mapFields q8 _,by simp[hz]⟩
theorem aCe{head:Value}{had:Bool}(hfr:A.frames=some (env::outer))(hl:s.heap.FunFrames B (env::outer))(hf:env.frame=some L)(he:s.heap.get? e=some oe)(hk:B.StaysIn s.heap)(hn:B.get? e=none)(hd:oe.data=.fields vs)(hc:oe.cls=cls/\vs[0]?=some a0/\vs[2]?=some .none)(h:∀h',Fl2 B (env::outer) e cls a0 (NW L) h'->s.heap.UpToSlots h'->Q () { s with heap:=h' }) :
  bD M A (do let a <- frameOf env;let pl <- entryPlaceOf L had;let b <- EntryCells.newEntry head a .none (NW L) .none pl;setField (.ref e) 1 b) Q E s:=by
 have ne:e∉(env::outer).filterMap (·.frame):=fun hm=>by
  obtain⟨_,o,ho,hx⟩:=hl.mem hm;rw[he] at ho;cases ho;exact hx vs hd
 have hsz:1<vs.size:=by have:=(mY.mp hc.2.2).1;omega
 refine bB (wpAny_frameOf_fun hfr hl hf fun h1 s1=>bB (wpAny_entryPlaceOf fun pl hpl=>?_));unfold EntryCells.newEntry newFields;refine bB (wpAny_newObj_type ?_ (hpl.sizeOk5 _ _ _ _ _));have e1:h1.get? e=some oe:=(s1.2.1 e ne).trans he;have k1:B.StaysIn h1:=fun b o q=>(s1.2.1 b fun hm=>by rw[(hl.mem hm).1] at q;cases q).trans (hk b o q);have te:h1.objs.size≠e:=pE (bC e1);have ot:∀(O:Obj) b o,b≠e->h1.get? b=some o->((h1.push O).update e (Obj.mapFields (·.setIfInBounds 1 (Value.ref h1.objs.size)))).get? b=some o:=fun O b o hb q=>(dP _ _ (Ne.symm hb)).trans (aI _ q)
 have nr:∀b o,s.heap.get? b=some o->(∀vs,o.data≠.fields vs)->b≠e:=fun b o q hx z=>by
  rw[z,he] at q;cases q;exact hx vs hd
 have d3:=Obj.data_mapFields hd (·.setIfInBounds 1 (Value.ref h1.objs.size));refine NU (aI _ e1) hd hsz (h _ ⟨fun b o q=>ot _ b o (fun z=>by rw[z,hn] at q;cases q) (k1 b o q),hn,hl.of_keeps fun b o q hx=>?_,?_⟩ fun b o q hx=>?_)
 . obtain⟨sl, z⟩ := s1.2.2 b o q;exact⟨_,ot _ b _ (nr b o q hx) z,rfl⟩
 . refine ⟨_, _, h1.objs.size, _, _, lD _ (aI _ e1) (Obj.isFreed_of_fields d3), ⟨(Obj.cls_mapFields _ _).trans hc.1, ?_, ?_⟩, d3, by simp [hsz], k1.fresh, te, (dP _ _ (Ne.symm te)).trans (aW _ rfl), rfl, by first | (simp; done) | (rcases hpl with rfl | ⟨_, _, _, _, _, _, _, rfl⟩ <;> simp)⟩
   . rw[uJ (by decide)];exact hc.2.1
   . rw[uJ (by decide)];exact hc.2.2
 . obtain⟨sl, z⟩ := s1.2.2 b o q;exact⟨sl,ot _ b _ (nr b o q hx) z⟩
theorem note2(hfr:A.frames=some (env::outer))(hf:env.frame=some L)(R:Fl2 B (env::outer) e cls a0 .none s.heap)(h:∀h',Fl2 B (env::outer) e cls a0 (NW L) h'->s.heap.UpToSlots h'->Q () { s with heap:=h' }):bD M A (uI (.ref e) env) Q E s:=by
 obtain⟨r1,r2,r3,oe,vs,T,oT,ts,q1,q2,q3,q4,q5,q6,q7,q8,q9⟩:=R;have ot:∀b,b≠T->(s.heap.update T (Obj.mapFields (·.setIfInBounds 3 Value.none))).get? b=s.heap.get? b:=fun b hb=>dP _ _ (Ne.symm hb)
 have nr:∀b o,s.heap.get? b=some o->(∀vs,o.data≠.fields vs)->b≠T:=fun b o hb hn z=>by
  rw[z,q7] at hb;cases hb;exact hn _ q8
 unfold uI;simp only[hf];refine bB (IY q1 q3 q4 ?_);rw[if_pos (by simp)];refine bB (IY q7 q8 q9 ?_);rw[if_neg (by simp[NW])];refine bB (NU q7 q8 (mY.mp q9).1 ?_);exact aCe hfr (r3.of_keeps fun b o hb hn=>⟨o,(ot b (nr b o hb hn)).trans hb,rfl⟩) hf ((ot e (Ne.symm q6)).trans q1) (fun b o hb=>(ot b fun z=>by rw[z,q5] at hb;cases hb).trans (r1 b o hb)) r2 q3 q2 fun h' f u=>h h' f fun b o hb hn=>u b o ((ot b (nr b o hb hn)).trans hb) hn
theorem Fl2.tail(R:Fl2 B (env::outer) e cls a0 fl s.heap):Fl2 B outer e cls a0 fl s.heap:=let ⟨k1,k2,⟨_,_,k3⟩,k4⟩:=R;⟨k1,k2,k3,k4⟩
theorem made2{h:Heap}{args:List Value}(hfr:A.frames=some (env::outer))(hf:env.frame=some L)(hk:B.StaysIn h)(hl:h.FunFrames B (env::outer))(hx:Heap.MadeExcOf h s.heap e cls args)(hQ:∀h' t,Fl2 B outer e cls (.ref t) .none h'->s.heap.UpToSlots h'->Q () { s with heap:=h' }):bD M A (leaving env (.ref e)) Q E s:=by
 obtain⟨t,he,_,_⟩:=hx.there
 have hn:B.get? e=none:=by
  cases q:B.get? e with
  |none=>rfl
  |some o=>have:=hk e o q;rw[hx.new] at this;cases this
 unfold leaving uI;simp only[hf];refine bB (bB (IY he rfl (x:=Value.none) rfl ?_));rw[if_neg (by decide)];refine aCe (a0:=.ref t) hfr (hl.of_keeps fun b o hb _=>⟨o,hx.keeps b o hb,rfl⟩) hf he (fun b o hb=>hx.keeps b o (hk b o hb)) hn rfl ⟨rfl,rfl,rfl⟩ fun h1 f1 u1=>set2 (s:={ s with heap:=h1 }) f1 fun h2 f2 u2=>hQ h2 t ?_ (u1.trans u2);obtain⟨k1,k2,⟨_,_,k3⟩,k4⟩:=f2;exact⟨k1,k2,k3,k4⟩
end
open PySem.W (hideAll hideAll_get of_hideAll hideAll_none funFrames_hide excIn tail_of_in nsMap_none_of_in isNs_of_in)
theorem obj_get{P:aZ}{w:bK}{H:Hp}{h:Heap}{a:aA}{o:HO}(x:ObjOk P w H h a o):∃u,h.get? a=some u:=by
 cases o with
 |lst xs=>obtain⟨_,_,_,_,e⟩:=x;exact⟨_,e⟩
 |tup xs=>obtain⟨_,_,_,_,e,_⟩:=x;exact⟨_,e⟩
 |dK kvs=>obtain⟨_,_,_,_,o,_,_,e,_⟩:=x;exact⟨_,e⟩
 |dT kvs=>obtain⟨_,_,_,_,o,_,_,e,_⟩:=x;exact⟨_,e⟩
 |set S n=>obtain⟨o,_,_,_,e,_⟩:=x;exact⟨_,e⟩
 |ins C dx fs=>obtain⟨_,_,_,e,_⟩:=x;exact⟨_,e⟩
 |own y=>obtain⟨_,e⟩:=x;exact⟨_,e⟩
 |xd fs=>obtain⟨_,⟨_,_,_,e,_⟩,_⟩:=x;exact⟨_,e⟩
 |rng lo hi=>obtain⟨_,_,_,e⟩:=x;exact⟨_,e⟩
 |frz ob u=>obtain⟨e,_⟩:=x;exact⟨_,e⟩
 |tbl ps=>obtain⟨_,e,_⟩:=x;exact⟨_,e⟩
 |met f y=>exact⟨_,(show h.get? a=some _ from x)⟩
 |ext φ=>obtain⟨_,⟨_,e⟩,_⟩:=x;exact⟨_,e⟩
structure Thrown(P:aZ)(w:bK)(outer:List Env)(H:Hp)(s:aC)(cls:Value)(ea:aA)(a0:Value)(B:Heap)(H':Hp)(h:Heap):Prop where
 fly:Fl2 B outer ea cls a0 .none h
 keep:∀b o,s.heap.get? b=some o->H b=none->b∉frs outer->B.get? b=some o
 there:∀b o,s.heap.get? b=some o->b∉frs outer->∃o',B.get? b=some o'
 slot:∀b o,s.heap.get? b=some o->b∈frs outer->∃sl,h.get? b=some { o with slots:=sl }
 free:∀b o,s.heap.get? b=some o->H b=none->H' b=none
 tups:∀b xs,H b=some (.tup xs)->H' b=some (.tup xs)
 frzs:∀b o u,H b=some (.frz o u)->H' b=some (.frz o u)
 tbls:∀b ps,H b=some (.tbl ps)->H' b=some (.tbl ps)
 hok:L2.HOk P w H' B
section
variable{P:aZ}{w:bK}{outer:List Env}{H H':Hp}{s:aC}{cls a0:Value}{ea:aA}{B h h':Heap}
theorem Thrown.un(t:Thrown P w outer H s cls ea a0 B H' h):Un (frs outer) [] H H' s.heap h where
 keep:=fun b o e n hb _=>t.fly.1 b o (t.keep b o e n hb)
 slot:=fun b o e n hb _=>t.slot b o e hb
 free:=fun b o e n _=>t.free b o e n
 there:=fun b o e _=>by
  by_cases hb:b∈frs outer
  . obtain⟨sl,q⟩:=t.slot b o e hb;exact⟨_,q⟩
  . obtain⟨o',q⟩:=t.there b o e hb;exact⟨o',t.fly.1 b o' q⟩
 tups:=t.tups
 frzs:=t.frzs
 tbls:=t.tbls
theorem Thrown.hokh(t:Thrown P w outer H s cls ea a0 B H' h):L2.HOk P w H' h:=t.hok.kept t.fly.1
theorem Thrown.on(t:Thrown P w outer H s cls ea a0 B H' h)(f:Fl2 B outer ea cls a0 .none h')(u:h.UpToSlots h'):Thrown P w outer H s cls ea a0 B H' h' where
 fly:=f
 keep:=t.keep
 there:=t.there
 slot:=fun b o e hb=>by
  obtain⟨sl,q⟩:=t.slot b o e hb;obtain⟨_,ob,ho,hd⟩:=t.fly.2.2.1.mem hb;rw[q] at ho;cases ho;obtain⟨sl',q'⟩:=u b _ q hd;exact⟨sl',q'⟩
 free:=t.free
 tups:=t.tups
 frzs:=t.frzs
 tbls:=t.tbls
 hok:=t.hok
theorem Thrown.no(t:Thrown P w outer H s cls ea a0 B H' h):H' ea=none:=by
 cases q:H' ea with
 |none=>rfl
 | some u =>
   obtain⟨o,e⟩:=obj_get (t.hok _ _ q);rw[t.fly.2.1] at e;cases e
end
theorem PZ{P:aZ}{w:bK}{H:Hp}{h:Heap}(x:L2.HOk P w H h)(l:List aA)(hl:∀b∈l,H b=none):L2.HOk P w H (hideAll h l):=fun a o e =>
 (x a o e).stay (fun b u hb q=>hideAll_get _ q fun z=>by
   rcases hb with rfl | hb
   . rw[hl _ z] at e;cases e
   . rw[hl _ z] at hb;cases hb) (fun _ q=>q) fun _ _ q=>q
noncomputable def CXM(P:aZ)(w:bK):CXT:=fun outer H s E e s'=>∃ea cls a0 B H',e=.ref ea/\s'.os=s.os/\iS s'.gens/\Thrown P w outer H s cls ea a0 B H' s'.heap/\E cls none H'
def XeOk(X:Cx)(C:aA)(σ : L2.St)(H:Hp):Prop:=∀(aB:List (aA×Obj)) (s:aC) (h':Heap) (e:aA) (as:List Value),Inv X aB σ H s->Heap.MadeExcOf s.heap h' e (.ref C) as->X.xe (.ref e) { s with heap:=h' }
theorem YJ{P:aZ}{w:bK}{K:Frag}{mg:Str->Option Value}{base:Heap}{N:List Str}{qual:Str}{scope:Scope}{f C:aA}{cd:Value}{A:bO}{outer:List Env}{s:aC}{H H':Hp}{E:XK}{σ : L2.St}(hE:E (.ref C) none H'):XeOk (cxOf (CXM P w) P w K mg base N qual scope f cd A outer s H E) C σ H':=by
 intro aB s1 h1 e as I hx;have hfr:frs (gD qual scope s.heap.objs.size f cd::outer)=s.heap.objs.size::frs outer:=rfl
 have nm:∀b o,s.heap.get? b=some o->b∉frs outer->b∉frs (gD qual scope s.heap.objs.size f cd::outer):=fun b o q n z=>by
  rw[hfr] at z;rcases aE.mp z with z | z
  . exact absurd (bC q) (by rw[z];exact dB _)
  . exact n z
 show bD _ _ (leaving _ _) _ _ _;refine made2 (B:=hideAll s1.heap (frs (gD qual scope s.heap.objs.size f cd::outer))) (h:=s1.heap) I.ok.frames rfl (fun b o q=>of_hideAll _ q) (funFrames_hide I.stack fun env he b hb=>nA.mpr ⟨env,he,hb⟩) hx fun h' t x1 x4=>?_;refine⟨e,.ref C,.ref t,_,H',rfl,I.os,I.bare,⟨x1,fun b o q n hb=>?_,fun b o q hb=>?_,fun b o q hb=>?_,fun b o q n=>I.base.free b o q n (by intro z;cases z),I.base.tups,I.base.frzs,I.base.tbls,?_⟩,hE⟩
 . exact hideAll_get _ (I.base.keep b o q n hb (by intro z;cases z)) (nm b o q hb)
 . obtain⟨o', q'⟩ := I.base.there b o q (by intro z;cases z);exact⟨o',hideAll_get _ q' (nm b o q hb)⟩
 . obtain⟨sl, q'⟩ := I.base.slot b o q (I.ok.frf b hb) hb (by intro z;cases z);obtain⟨_,ob,ho,hd⟩:=I.ok.funs.mem hb;have ho':s.heap.get? b=some ob:=ho;rw[q] at ho';cases ho';obtain⟨sl',q''⟩:=x4 b _ (hx.keeps _ _ q') hd;exact⟨sl',q''⟩
 . exact PZ I.hok _ I.stkFree
abbrev bmVE:List Value:=[.type "ValueError",.type "Exception",.type "BaseException",.type "object"]
structure XCls(K:Frag)(C:aA):Prop where
 exc:excIn K C bmVE "ValueError.__new__" = true
 xin:XIn K C
theorem xcls_at{K:Frag}{h:Heap}{C:aA}{bmB:List Value}{newId:String}(X:K.In h)(q:excIn K C bmB newId=true):∃bm N nm qn bs hdct sn sub ab col dd k0 k1 k2 k3 k5 mN,h.get? C=some (excClassObj nm qn C N bs bm hdct sn sub ab col dd k0 k1 k2 k3 k5 newId)/\h.Ns N mN/\mN "__init__" = none/\OwnTail h bmB bm:=by
 unfold excIn at q
 split at q
 . rename_i dd cd sl ho
   split at q
   . rename_i C' bm k0 k1 k2 k3 n k5 hm hs;simp only [cA,beq_iff_eq,XJ] at q;obtain ⟨⟨⟨⟨⟨rfl,rfl⟩,hdel⟩,ht⟩,hok⟩,hni⟩:=q;obtain ⟨nm,bs,mro,ns,qn,hd,sn,sub,ab,col,del⟩:=cd;dsimp only at hm hdel hok hni;subst hm hdel
     have hsl:sl=#[k0,k1,k2,k3,some (.builtin n),k5]:=by
      obtain⟨l⟩:=sl;simp only at hs;rw[hs]
     subst hsl;exact⟨bm,ns,nm,qn,bs,hd,sn,sub,ab,col,dd,k0,k1,k2,k3,k5,_,X _ _ ho,.of_isNs (isNs_of_in X hok),nsMap_none_of_in X hok hni,tail_of_in X ht⟩
   . cases q
 . cases q
def tRaise(X:Cx)(C:aA):TS:=fun _ σ H=>XeOk X C σ H
theorem aAd{X:Cx}{C:aA}{x txt:Str}{j:Nat}{np cp cpos pos:Pos}(hC:XCls X.K C)(hm:X.mg x=some (.ref C))(hcalm:X.calm=true)(hg:Gl X x:=by rfl)(hdb:(x==("__debug__" : Str))=false:=by decide)(he:aF [.Constant (.str txt) j cp] X.env=[(false,bM (.Constant (.str txt) j cp) X.env)]:=by rfl):PS X (.Raise (some (.Call (.Name x np) [.Constant (.str txt) j cp] [] cpos)) none pos) (tRaise X C):=by
 intro aB s σ H D I h;obtain⟨bm,N,nm,qn,bs,hdct,sn,sub,ab,col,dd,k0,k1,k2,k3,k5,mN,h1,h2,h3,h4⟩:=xcls_at I.kIn hC.exc;have hbase:bm.contains (.type "BaseException")=true:=h4.hasType (by decide +kernel);refine wpAny_Raise_call_subU (C:=C) (mN:=mN) (N:=N) (nm:=nm) (q:=qn) (bs:=bs) (bm:=bm) (hdct:=hdct) (sn:=sn) (sub:=sub) (ab:=ab) (col:=col) (dd:=dd) (k0:=k0) (k1:=k1) (k2:=k2) (k3:=k3) (k5:=k5) F.excBase_ValueError (by decide +kernel) F.excBase_ValueError hbase (I.ok.hd hcalm) (by rw[he];rfl) h3 (xY I hg hm ⟨rfl,?_⟩ hdb);rw[he];show bD _ _ (evalArgs _ true ((false,bM (.Constant (.str txt) j cp) X.env)::[]) []) _ _ s;refine Calls.evalArgs_plain (Calls.spliced_cons ?_);refine Calls.Constant_str (k:=j) (pos:=cp) (Calls.spliced_nil ?_);have I2:=I.tok (s.toks+1);refine⟨rfl,by show 1<=sizeLine;decide,h1,h2,h4,fun h' e hx=>?_⟩;exact h aB _ h' e _ I2 hx
section
variable(X:Cx)(C:aA)
def PSx(st:Stmt)(x:List Sl->Bool):Prop:=∃t,PS X st t/\∀H₀ H O σ ds hd E,Ok X.K H₀ H O σ ds hd->x ds=true->(∀σ' H',Same H₀ H'->XeOk X C σ' H')->t E σ H
end
section
variable{X:Cx}{C:aA}
theorem HN{x txt:Str}{j:Nat}{np cp cpos pos:Pos}(hC:XCls X.K C)(hm:X.mg x=some (.ref C))(hcalm:X.calm=true:=by rfl)(hg:Gl X x:=by rfl)(hdb:(x==("__debug__" : Str))=false:=by decide)(he:aF [.Constant (.str txt) j cp] X.env=[(false,bM (.Constant (.str txt) j cp) X.env)]:=by rfl):PSx X C (.Raise (some (.Call (.Name x np) [.Constant (.str txt) j cp] [] cpos)) none pos) tW :=
 ⟨_,aAd hC hm hcalm hg hdb he,fun H₀ H O σ ds hd E o _ h=>h σ H o.same⟩
end
noncomputable def spX(K:Frag)(n:Nat)(R:List D->Bool)(C:aA):Sp:=fun vs H _ E=>vs.length=n/\∃ds,Reps K H jJ vs ds/\R ds=true/\∀H',Same H H'->E (.ref C) none H'
end FL
namespace FL
open PySem PySem.Spec PyProof.Rows L2
open PySem.W (Looks looks_mroIn mroIn)
abbrev oP(X:Cx)(ea:aA)(xe:Value->aC->Prop)(H0:Hp:=X.H₀):Cx:={ X with A:=X.A.mark (some (.ref ea)),calm:=false,H₀:=H0,xe:=xe }
section
variable{X:Cx}{aB:List (aA×Obj)}{σ : L2.St}{H:Hp}{s:aC}{ea:aA}{oe:Obj}{xe:Value->aC->Prop}
theorem II(I:Inv X aB σ H s):Inv (oP X ea xe) aB σ H s:=by
 have ok:=I.ok;exact⟨⟨ok.mod,ok.kind,ok.glob,ok.blt,ok.above,ok.inj,ok.has,ok.cab,(fun z=>by cases z),ok.frames,ok.stk,ok.exf,ok.bs,ok.bsz,ok.noex,ok.exfs,ok.funs,ok.frf⟩,I.os,I.bare,I.base,I.loc,I.cell,I.free,I.freeC,I.pin,I.hok,I.len⟩
theorem yZ(I:Inv (oP X ea xe) aB σ H s)(hd:X.calm=true->X.A.handled=none):Inv X aB σ H s:=by
 have ok:=I.ok;exact⟨⟨ok.mod,ok.kind,ok.glob,ok.blt,ok.above,ok.inj,ok.has,ok.cab,hd,ok.frames,ok.stk,ok.exf,ok.bs,ok.bsz,ok.noex,ok.exfs,ok.funs,ok.frf⟩,I.os,I.bare,I.base,I.loc,I.cell,I.free,I.freeC,I.pin,I.hok,I.len⟩
end
def uV(X:Cx)(C:aA)(st:Stmt)(x:List Sl->Bool):Prop:=∀(aB:List (aA×Obj)) (s:aC) (σ : L2.St) (H H₀ : Hp) (O:aA->Prop) (ds:List Sl) (hd:Hold),Inv X aB σ H s->Ok X.K H₀ H O σ ds hd->x ds=true →
 (∀ea a0 B H1 H' s1 s',Inv X aB σ H1 s1->Same H H1->Same H1 H'->Thrown X.prog X.w X.stack H1 s1 (.ref C) ea a0 B H' s'.heap->s'.os=s1.os->iS s'.gens->X.xe (.ref ea) s')->bD (bH X.prog X.w) X.A (exec st X.env) (fun _ _=>False) X.xe s
section
variable{X:Cx}{k j n:Nat}{R:List D->Bool}{C:aA}{x:Str}{p pos:Pos}{e:Expr}{es:List Expr}{g:FA}
end
end FL
namespace FL
open PySem PySem.Spec PyProof.Rows L2
open PySem.W (Looks looks_mroIn mroIn clsIn)
structure XCatch(K:Frag)(C S:aA):Prop where
 kit:BK K (.ref C) (.ref S)=some true
 be:mroIn K S (.type "BaseException")=some true
section
variable{prog:aZ}{w:bK}{A:bO}{E:Value->aC->Prop}{h:Heap}{g:Array GenState}{d:UD}{t:Nat}{os:OsState}{a C S:aA}{o:Obj}{K:Frag}
theorem UF{M:UC}{Q:Bool->aC->Prop}(X:K.In h)(hx:h.get? a=some o)(hc:o.cls=.ref C)(hS:XCatch K C S)(hq:Q true ⟨h,g,d,t,os⟩) :
  bD M A (excMatches (.ref a) (.ref S)) Q E ⟨h,g,d,t,os⟩:=by
 have L0:=x_type (M:=M) hx hc;have L1:=looks_mroIn (M:=M) X hS.be;obtain⟨L3,L4,L2⟩:=PySem.W.kit_cls (M:=M) X hS.kit;have f:=tc_notTuple;unfold excMatches
 repeat (first | with_reducible refine L0.at ?_ | with_reducible refine L1.at ?_ | with_reducible refine L2.at ?_ | with_reducible refine L3.at ?_ | with_reducible refine L4.at ?_ | with_reducible refine wpAny_loadPart_at hx ?_ | wp_step)
 exact hq
end
section
variable{X:Cx}
theorem UO{ea:aA}{H0:Hp}{xe0:Value->aC->Prop}{sts:List Stmt}{h:FS}{aB:List (aA×Obj)}{σ : L2.St}{H H₀ : Hp}{O:aA->Prop}{ds:List Sl}{hd:Hold}{out:Out}{D:Ends}{s:aC}(hs:∀xe,PSsv (oP X ea xe H0) sts h)(I:Inv (oP X ea xe0 H0) aB σ H s)(o:Ok X.K H₀ H O σ ds hd)(e:h ds=some out)(af:After X H₀ hd D out){EXC:Value->aC->Prop}{POST:Flow->aC->Prop}(hp:∀f s',SP (oP X ea EXC H0) aB D f s'->POST f s'):bD (bH X.prog X.w) (X.A.mark (some (.ref ea))) (execs sts X.env) POST EXC s:=by
 obtain⟨t,ht,hf⟩:=hs EXC;exact dI (ht aB s σ H D (I.wish EXC) (hf H₀ H O σ ds hd out D o e af)) hp (fun _ _ z=>z)
theorem WE{B h:Heap}{l:List Env}{e:aA}{cls a0:Value}(f:Fl2 B l e cls a0 .none h):e∉frs l/\∃oe,h.get? e=some oe/\oe.cls=cls/\(∀v,oe.data≠.cell v)/\∃vs,oe.data=.fields vs/\vs[2]?=some .none:=by
 obtain⟨_,_,f3,oe,vs,T,oT,ts,he,hc,hd,_⟩:=f;refine⟨fun z=>?_,oe,he,hc.1,(fun v q=>by rw[hd] at q;cases q),vs,hd,hc.2.2⟩;obtain⟨_,o,ho,hn⟩:=f3.mem z;rw[he] at ho;cases ho;exact hn vs hd
def tryE(X:Cx)(aB:List (aA×Obj))(D:Ends)(hs:List ExceptHandler):Value->aC->Prop:=fun e s₁=>bD (bH X.prog X.w) X.A (uI e X.env) (fun _ s₂=>bD (bH X.prog X.w) X.A (setFlight e none) (fun _ s₃=>bD (bH X.prog X.w) X.A (handleBy e X.env hs) (SP X aB D) X.xe s₃) X.xe s₂) X.xe s₁
end
end FL
namespace FL
open PySem PySem.Spec PyProof.Rows L2
section
variable{X:Cx}
section
variable{en:Str}{i:Nat}{p pe pT pos:Pos}{tb:List (Nat×Bool)}
end
end
structure XR(K:Frag)(mg:Str->Option Value)(t:Nat)(C:aA):Prop where
 nm:aP K aM (xName t)=some (some (.ref C))
 gl:mg (xName t)=some (.ref C)
 cls:XCls K C
structure XT(K:Frag)(mg:Str->Option Value)(t:Nat)(x:Str)(C S:aA):Prop where
 nm:aP K aM (xName t)=some (some (.ref C))
 gl:mg x=some (.ref S)
 cat:XCatch K C S
section
variable{X:Cx}{m:Str}{k j:Nat}{cs:List Nat}{F:Nat->List D->Option Ret}{o:Expr}{apos pos:Pos}{fo:FE}
theorem LZ{pl:Sem Bool}(M:MCal X.prog X.w X.K X.mg X.base m k 0 cs F)(hr:Room j X.A)(ho:PV X o fo)(hj:k<=j:=by decide)(ht:bM (.Call (.Attribute o m apos) [] [] pos) X.env=(do
    let ov <- bM o X.env
    fP apos.atName
    let (f,first) <- dW [ov] (fM ov m pl)
    iO pos f first (cN pos (aF [] X.env)) (fC pos (dC [] X.env))):=by rfl):PV X (.Call (.Attribute o m apos) [] [] pos) (methV 0 cs F fo zV):=by
 obtain⟨ta,pa,hfo⟩:=ho;refine⟨_,kA (pl:=pl) (k:=k) pa (hr.mono hj) ht,fun H₀ H O σ ds hd d Q o e q=>?_⟩;unfold methV at e;obtain⟨x,h1,e⟩:=bnd e;simp only[zV,aO] at e;obtain⟨r,h3,e⟩:=bnd e;refine DM (g:=zV) M hfo (fun _ H _ _ _ _ _ _ _ e q=>by cases e;exact q _ H (Same.refl _) .nil) o h1 rfl h3 fun v H1 H' s1 s' ro=>q v H' (s1.trans s') ?_;exact JH ro e fun a ha=>(o.mono s1).old ha
end
section
variable{X:Cx}{C:aA}{x:Str}{p pos:Pos}
end
theorem PU{K:Frag}{C C':aA}(u:AA K C=true)(y:pC K (.ref C)=some (.type "type"))(s:EQ K (.ref C') (.ref C)=some true):BK K (.ref C') (.ref C)=some true:=by
 unfold BK;simp only;rw[show(PySem.W.clsIn K C).isSome=true from u,y,if_pos (by simp),s]
section
variable{K:Frag}{H:Hp}{O:aA->Prop}{a:aA}{xs ys:List V}
end
section
variable{X:Cx}
end
section
variable(X:Cx)(E:XK)(C:aA)
def PSy(st:Stmt)(x:List Sl->Bool):Prop:=∃t,PS X st t/\∀H₀ H O σ ds hd D,Ok X.K H₀ H O σ ds hd->x ds=true->(∀σ' H',Same H₀ H'->XeOk X C σ' H')->(∀H',Same H₀ H'->E (.ref C) none H')->t D σ H
def PSsy(st:List Stmt)(x:List Sl->Bool):Prop:=∃t,PSs X st t/\∀H₀ H O σ ds hd D,Ok X.K H₀ H O σ ds hd->x ds=true->(∀σ' H',Same H₀ H'->XeOk X C σ' H')->(∀H',Same H₀ H'->E (.ref C) none H')->t D σ H
def QN(st:List Stmt):Prop:=∃t,PSs X st t
end
section
variable{X:Cx}{E:XK}{C:aA}
theorem PSx.y{st:Stmt}{x:List Sl->Bool}(h:PSx X C st x):PSy X E C st x:=by
 obtain⟨t,ht,hf⟩:=h;exact⟨t,ht,fun H₀ H O σ ds hd D o e q _=>hf H₀ H O σ ds hd D o e q⟩
theorem DD{st:List Stmt}(h:QN X st):PSsy X E C st DK:=by
 obtain⟨t,ht⟩:=h;exact⟨t,ht,fun _ _ _ _ _ _ _ _ e _ _=>by cases e⟩
theorem wL{st:Stmt}{rest:List Stmt}{x:List Sl->Bool}(h1:PSy X E C st x)(h2:QN X rest):PSsy X E C (st::rest) x:=by
 obtain⟨t,ht,hf⟩:=h1;obtain⟨u,hu⟩:=h2;exact⟨_,wR ht hu,fun H₀ H O σ ds hd D o e q p=>hf H₀ H O σ ds hd _ o e q p⟩
theorem ZZ{c:Expr}{a b:List Stmt}{pos:Pos}{fc:FT}{xa xb:List Sl->Bool}(hc:PTv X c fc)(ha:PSsy X E C a xa)(hb:PSsy X E C b xb):PSy X E C (.If c a b pos) (ifX fc xa xb):=by
 obtain⟨tc,hc,hcf⟩:=hc;obtain⟨ta,ha,haf⟩:=ha;obtain⟨tb,hb,hbf⟩:=hb;refine⟨_,RN hc ha hb,fun H₀ H O σ ds hd D o e q p=>?_⟩;unfold ifX at e;cases hh:fc ds with
 |none=>rw[hh] at e;cases e
 | some k =>
   rw[hh] at e;refine hcf H₀ H O σ ds hd k _ o hh fun H' s=>?_;cases k with
   |true=>exact haf H₀ H' O σ ds hd D (o.mono s) e q p
   |false=>exact hbf H₀ H' O σ ds hd D (o.mono s) e q p
section
variable{k j n:Nat}{R:List D->Bool}{x:Str}{p pos:Pos}{e:Expr}{es:List Expr}{g:FA}
end
end
theorem SV{P:aZ}{w:bK}{K:Frag}{mg:Str->Option Value}{base:Heap}{x qual:Str}{st:Stmt}{f C:aA}{fd:aH}{N ps:List Str}{k:Nat}{R:List D->Bool}(Fn:Fun K x qual st f fd)(S:FnScope N ps (zH st)){g:List Sl->Bool}(hbody:∀(cdv:Value) (A:bO) (outer:List Env) (s:aC) (H:Hp) (E:XK),Room k (A.deeper (gD qual (zH st) s.heap.objs.size f cdv))->PSsy (cxOf (CXM P w) P w K mg base N qual (zH st) f cdv A outer s H E) E C (qT st) g)(hg:∀ds,ds.length=ps.length->R ds=true->g (args N.length ds)=true):FnOk P w K mg base (CXM P w) (k+1) f fd ps (spX K ps.length R C):=by
 obtain⟨oc,od,kV,doc,pm,an,cdv,ct,osl,rfl,lk,hcd⟩:=Fn.ex;refine aBw lk hcd S (fun vs H Q E h=>h.1) fun A outer s H vs Q E hr h=>?_;obtain⟨hl,ds,rv,e,q⟩:=h;obtain⟨t,ht,hf⟩:=hbody cdv A outer s H E hr;exact⟨t,ht,hf H H jJ _ _ [] _ (MQ (N:=N) rv) (hg ds (by rw[<- rv.length];exact hl) e) (fun σ' H' s'=>YJ (q H' s')) q⟩
section
variable{X:Cx}{E:XK}{C:aA}{t k j n:Nat}{R:List D->Bool}{x:Str}{p pos:Pos}{e:Expr}{es:List Expr}{g:FA}
end
section
variable{X:Cx}
end
structure RoomH(k:Nat)(A:bO):Prop where
 dp:A.depth+3*k+5<recursionLimit
 un:A.units+16*k+200<cLine
theorem RoomH.of{k:Nat}{A:bO}{v:Option Value}(r:Room k A):RoomH k (A.mark v):=⟨r.dp,r.un⟩
theorem RoomH.depth{k:Nat}{A:bO}(r:RoomH k A):A.depth<recursionLimit:=by have:=r.dp;omega
section
variable{X:Cx}{k j i:Nat}{F:Nat->Option Ret}{x en:Str}{p pe pos:Pos}
end
end FL
namespace L2
open PySem PySem.Spec PyProof.Rows
section
variable{X:Cx}
end
end L2
namespace FL
open PySem PySem.Spec PyProof.Rows L2
section
variable{X:Cx}
end
section
variable{X:Cx}
end
end FL
namespace L2
open PySem PySem.Spec PyProof.Rows
section
variable{X:Cx}
end
end L2
namespace FL
open PySem PySem.Spec PyProof.Rows L2
section
variable{X:Cx}
end
end FL
namespace L2
open PySem PySem.Spec PyProof.Rows
section
variable{prog:aZ}{w:bK}{A:bO}{E:Value->aC->Prop}{s:aC}
end
section
variable{X:Cx}
end
end L2
namespace FL
open PySem PySem.Spec PyProof.Rows L2
section
variable{X:Cx}
end
open PySem.W (tabIn CodeHd tabObj kla_eval kla_makeFunction kla_makeFunctionHit kla_obj kla_fn kla_callFunE kla_codeExpr FnAt callWith_F envX)
section
variable{X:Cx}
end
section
variable{X:Cx}{aB:List (aA×Obj)}{σ : L2.St}{H H':Hp}{s s':aC}{cs:List aA}
end
section
variable{K:Frag}{H:Hp}{O:aA->Prop}{cs:List aA}
end
section
variable{X:Cx}
end
end FL
namespace FL
open PySem PySem.Spec PyProof.Rows L2
open PySem.W (tabIn CodeHd tabObj kla_callFunE kla_codeExpr FnAt callWith_F envX)
section
variable{X:Cx}
section
variable{k j' n m j:Nat}{F:List D->Option Ret}{x y:Str}{p pos:Pos}{e:Expr}{es:List Expr}{g:FA}{is:List Nat}{t:LamT}{st:Stmt}{f c P:aA}
end
end
theorem ClosOk.get{H:Hp}{O:aA->Prop}:∀{cl:List (Str×aA)} {xs:List V},ClosOk H O cl xs->∀{i:Nat} {v:V},xs[i]?=some v->∃p o u w,cl[i]?=some p/\H p.2=some (.frz o u)/\o.data=.cell (some w)/\RelV v w
 |_,_,.nil,_,_,h=>by cases h
 |_,_,.cons no h d r t,0,v,hv=>by cases hv;exact⟨_,_,_,_,rfl,h,d,r⟩
 |_,_,.cons no h d r t,i+1,v,hv=>t.get hv
theorem ClosOk.length{H:Hp}{O:aA->Prop}:∀{cl:List (Str×aA)} {xs:List V},ClosOk H O cl xs->cl.length=xs.length
 |_,_,.nil=>rfl
 |_,_,.cons no h d r t=>by simp[t.length]
section
variable{X:Cx}{k j i:Nat}{Φ : Fun2}{x:Str}{p pos:Pos}{e:Expr}{es:List Expr}{g:FA}
end
end FL
namespace FL
open PySem PySem.Spec PyProof.Rows L2
section
variable{X:Cx}
end
open PySem.W (tabIn CodeHd tabObj makeFunction_K makeFunction_hit fnMade fnX nestDef_K kla_callFunE envX)
section
variable{X:Cx}{aB:List (aA×Obj)}{σ : L2.St}{H:Hp}{s:aC}
end
section
variable{X:Cx}
end
section
variable{X:Cx}{aB:List (aA×Obj)}{σ : L2.St}{H:Hp}{s:aC}{cs:List aA}
end
section
variable{X:Cx}
end
end FL
namespace FL
open PySem PySem.Spec PyProof.Rows L2
section
variable{X:Cx}{tg:Expr}
end
section
variable{X:Cx}
end
open PySem.W (tabIn CodeHd)
section
variable{X:Cx}
theorem aAa{st b₀ : Stmt}{suite:List Stmt}{sx:Str}{hp hpos pos:Pos}{t:Nat}{C S:aA}{g h:FS}{x:List Sl->Bool}(hm:X.mg sx=some (.ref S))(hS:XCatch X.K C S)(hg:∀W,PSv (X.wish W) st g)(hx:∀W,uV (X.wish W) C st x)(hs:∀ea xe,PSsv (oP X ea xe) (b₀::suite) h)(hst:X.stack=X.env::X.outer:=by rfl)(hfr:X.env.frame=some X.env.locals:=by rfl)(hgS:Gl X sx:=by rfl)(hdb:(sx==("__debug__" : Str))=false:=by decide) :
  PSv X (.Try [st] [.ExceptHandler (some (.Name sx hp)) none (b₀::suite) hpos] [] [] pos) (tryNG g x h):=by
 refine⟨fun D σ H=>∀aB s,Inv X aB σ H s->bD (bH X.prog X.w) X.A (exec (.Try [st] [.ExceptHandler (some (.Name sx hp)) none (b₀::suite) hpos] [] [] pos) X.env) (SP X aB D) X.xe s,
  fun aB s σ H D I h=>h aB s I,fun H₀ H O σ ds hd out D o e af aB s I=>?_⟩
 refine wpAny_Try_except (rD ?_);show bD _ _ _ _ (tryE X aB D [.ExceptHandler (some (.Name sx hp)) none (b₀::suite) hpos]) s;unfold tryNG at e
 by_cases hxd:x ds=true
 . rw [if_pos hxd] at e;refine dI (hx (tryE X aB D [.ExceptHandler (some (.Name sx hp)) none (b₀::suite) hpos]) aB s σ H H₀ O ds hd (I.wish _) o hxd ?_) (fun _ _ z=>z.elim) (fun _ _ z=>z);intro ea a0 B H1 H' s1 s' I1 m1 m2 T os bare;have I1':Inv X aB σ H1 s1:=I1.unwish;have T:Thrown X.prog X.w X.stack H1 s1 (.ref C) ea a0 B H' s'.heap:=T;show bD _ _ (uI _ _) _ _ _;have hA:X.A.frames=some (X.env::X.outer):=by rw [<- hst]; exact I.ok.frames
   refine note2 hA hfr (by rw[<- hst];exact T.fly) fun h₄ held₄ sm₄=>?_;refine set2 (s:={ s' with heap:=h₄ }) held₄ fun h₅ fly₅ sm₅=>?_;have T5:=T.on (h':=h₅) (by rw[hst];exact fly₅) (sm₄.trans sm₅);have I5:Inv X aB σ H' { s' with heap:=h₅ }:=I1'.call' (ch:=[]) os T5.un T5.hokh bare (fun b z=>by cases z);obtain⟨ap5,ob,hob,hobc,hobd,_⟩:=WE T5.fly;refine wpAny_handleBy_cons (codeAny_handlers_test ?_) (by intro q;cases q);refine xY (X:=oP X ea X.xe) (II I5) hgS hm ?_ hdb;refine UF (K:=X.K) I5.kIn hob hobc hS ?_;refine codeAny_handlers_suite ?_;refine set2 (s:={ s' with heap:=h₅ }) fly₅ fun h₆ fly₆ sm₆=>?_;have T6:=T5.on (h':=h₆) (by rw[hst];exact fly₆) sm₆;have I6:Inv X aB σ H' { s' with heap:=h₆ }:=I1'.call' (ch:=[]) os T6.un T6.hokh bare (fun b z=>by cases z);refine UO (fun xe=>hs ea xe) (II (xe:=X.xe) I6) (o.mono (m1.trans m2)) e af fun f s8 h8=>?_;cases f with
   |next=>obtain⟨σ',H8,I8,q⟩:=h8;exact⟨σ',H8,yZ I8 I.ok.hd,q⟩
   |brk=>obtain⟨σ',H8,I8,q⟩:=h8;exact⟨σ',H8,yZ I8 I.ok.hd,q⟩
   |cont=>obtain⟨σ',H8,I8,q⟩:=h8;exact⟨σ',H8,yZ I8 I.ok.hd,q⟩
   |ret u=>obtain⟨v,σ',H8,I8,r,q⟩:=h8;exact⟨v,σ',H8,yZ I8 I.ok.hd,r,q⟩
 . rw [if_neg hxd] at e;obtain ⟨t,ht,hf⟩:=hg (tryE X aB D [.ExceptHandler (some (.Name sx hp)) none (b₀::suite) hpos]);refine dI (ht aB s σ H D (I.wish _) (hf H₀ H O σ ds hd out D o e af)) (fun f s1 q=>?_) (fun _ _ z=>z);have q':=q.unwish;cases f with
   |next=>exact nC (nC q')
   |brk=>exact q'
   |cont=>exact q'
   |ret u=>exact q'
end
section
variable{X:Cx}{E:XK}{C:aA}
end
section
variable{X:Cx}{k j:Nat}{n:Nat}{F:List D->Option Ret}{x:Str}{p pos:Pos}{e:Expr}{es:List Expr}{g:FA}
end
end FL
namespace FL
open PySem PySem.Spec PyProof.Rows L2
section
variable{X:Cx}{E:XK}{C:aA}
end
section
variable{X:Cx}{E:XK}{C:aA}
end
end FL
namespace L2
open PySem PySem.Spec PyProof.Rows
section
variable{X:Cx}
end
end L2
namespace FL
open PySem PySem.Spec PyProof.Rows L2
section
variable{X:Cx}{E:XK}{C:aA}
end
section
variable{X:Cx}
end
end FL
namespace L2
open PySem PySem.Spec PyProof.Rows
open Builtin Builtin.Str
section
variable{X:Cx}
theorem kJ(x y:Str):(Txt.split x y).length<=x.length+2:=by
 unfold Txt.split;have e1:=StrLaws.occ_length_le x y 0 x.length (x.length+1)
 split
 . simp
 . split
   . simp
   . rw[length_partsBetween];omega
def rSlS:V->Option Int->Option Int->Hp->VK->Prop:=fun x lo hi H Q=>∃a,x=.str a/\a.length<=sizeLine/\Q (.str (Txt.slice a lo hi)) H
theorem sl_str:SlR X rSlS:=by
 intro aB s σ H x v vl vu lo hi sl Q I rx hs pl pu h;obtain⟨a,rfl,hz,q⟩:=h;obtain⟨tk,rfl⟩:=(show ∃tk,v=Value.str a tk from rx)
 obtain⟨o,ho,hc,hd⟩:=hs
 have fin:∀(l u:Option (Int×Tok)),partValue l=vl->partValue u=vu->l.map (·.1)=lo->u.map (·.1)=hi->bD (bH X.prog X.w) X.A (EN (.str a tk) (.ref sl)) (EP X aB σ Q) X.xe s:=by
  intro l u e1 e2 e3 e4;refine wpAny_getItem_str_slice (l:=l) (u:=u) (st:=none) ⟨o,ho,hc,by rw[hd,e1,e2];rfl⟩ rfl ?_;subst e3 e4;exact post_val_or_str ⟨cJ (Txt.slice_le a _ _) hz,fun t' k=>⟨.str _,H,I.tok _,⟨_,rfl⟩,q⟩⟩
 refine⟨"str",_,F.slot_str_getitem.lookup,typeIs_str _ _ _,?_⟩;cases pl with
 | none =>
   cases pu with
   |none=>exact fin none none rfl rfl rfl rfl
   |int j t2=>exact fin none (some (j,t2)) rfl rfl rfl rfl
 | int i t1 =>
   cases pu with
   |none=>exact fin (some (i,t1)) none rfl rfl rfl rfl
   |int j t2=>exact fin (some (i,t1)) (some (j,t2)) rfl rfl rfl rfl
end
end L2
namespace FL
open PySem PySem.Spec PyProof.Rows L2
section
variable{X:Cx}
section
variable{o e:Expr}{apos cpos:Pos}{f g:FE}{name:Str}{id:String}
theorem HE{K:Frag}{H:Hp}{O:aA->Prop}:∀(l:List Str),Reps K H O (l.map V.str) (l.map D.str)
 |[]=>.nil
 |a::l=>.cons (.str a) (HE l)
end
theorem JK{e:Expr}{lo hi:Option Expr}{f:FE}{gl gh:List Sl->Option (Option Int)}{p2 pos:Pos}(he:PVw X e f)(hl:POv X lo gl)(hh:POv X hi gh):PV X (.Subscript e (.Slice lo hi none p2) pos) (slsS f gl gh):=by
 obtain⟨te,pe,he⟩:=he;obtain⟨tl,pl,hl⟩:=hl;obtain⟨th,ph,hh⟩:=hh;refine⟨_,MK sl_str pe pl ph,fun H₀ H O σ ds hd d' Q o e q=>?_⟩;unfold slsS at e;obtain⟨d,h1,e⟩:=bnd e;obtain⟨a,h2,e⟩:=bnd e;obtain⟨b,h3,e⟩:=bnd e;cases d<;>first | (cases e;done) | skip
 simp only at e
 split at e
 . rename_i hc;cases e;refine he H₀ H O σ ds hd _ _ o h1 fun v H1 s1 r1=>?_;refine hl H₀ H1 O σ ds hd _ _ (o.mono s1) h2 fun H2 s2=>?_;refine hh H₀ H2 O σ ds hd _ _ ((o.mono s1).mono s2) h3 fun H3 s3=>?_;rw[r1.str'];exact⟨_,rfl,hc,q _ H3 ((s1.trans s2).trans s3) (.str _)⟩
 . cases e
def LK(X:Cx)(C:aA)(sts:List Stmt)(x:List Sl->Bool):Prop:=∀(aB:List (aA×Obj)) (s:aC) (σ : L2.St) (H H₀ : Hp) (O:aA->Prop) (ds:List Sl) (hd:Hold),Inv X aB σ H s->Ok X.K H₀ H O σ ds hd->x ds=true →
 (∀ea a0 B H1 H' s1 s',Inv X aB σ H1 s1->Same H H1->Same H1 H'->Thrown X.prog X.w X.stack H1 s1 (.ref C) ea a0 B H' s'.heap->s'.os=s1.os->iS s'.gens->X.xe (.ref ea) s')->bD (bH X.prog X.w) X.A (execs sts X.env) (fun _ _=>False) X.xe s
theorem AD{C:aA}{st:Stmt}{x:List Sl->Bool}(h:uV X C st x):LK X C [st] x:=by
 intro aB s σ H H₀ O ds hd I o ex W;exact rD (dI (h aB s σ H H₀ O ds hd I o ex W) (fun _ _ z=>False.elim z) fun _ _ z=>z)
theorem thr_if{C:aA}{c:Expr}{a b:List Stmt}{pos:Pos}{fc:FT}{xa xb:List Sl->Bool}(hc:PTv X c fc)(ha:LK X C a xa)(hb:LK X C b xb):uV X C (.If c a b pos) (ifX fc xa xb):=by
 obtain⟨tc,pc,hf⟩:=hc;intro aB s σ H H₀ O ds hd I o ex W;unfold ifX at ex;cases h:fc ds with
 |none=>rw[h] at ex;cases ex
 | some k =>
   rw[h] at ex;refine wpAny_If (thn (pc aB s σ H (fun d H1=>d=k/\Same H H1) I (hf H₀ H O σ ds hd k _ o h fun H' sm=>⟨rfl,sm⟩)) fun d s1 zq=>?_);obtain⟨H1,I1,e1,sm⟩:=zq;subst e1;cases d with
   |true=>exact ha aB s1 σ H1 H₀ O ds hd I1 (o.mono sm) ex fun ea a0 B H2 H' s2 s' i2 s2'=>W ea a0 B H2 H' s2 s' i2 (sm.trans s2')
   |false=>exact hb aB s1 σ H1 H₀ O ds hd I1 (o.mono sm) ex fun ea a0 B H2 H' s2 s' i2 s2'=>W ea a0 B H2 H' s2 s' i2 (sm.trans s2')
end
section
variable{X:Cx}{E:XK}{C:aA}
theorem pe_or{e:Expr}{t u:TE}(h1:PE X e t)(h2:PE X e u):PE X e (fun σ H Q=>t σ H Q\/u σ H Q):=fun aB s σ H Q I h=>h.elim (h1 aB s σ H Q I) (h2 aB s σ H Q I)
section
variable{x:Str}{p pos:Pos}{e:Expr}{t k j:Nat}{G:List D->Option (List D)}{y:List Sl->Bool}
end
end
end FL
namespace L2
open PySem PySem.Spec PyProof.Rows
section
variable{prog:aZ}{w:bK}{A:bO}{E:Value->aC->Prop}{s:aC}
end
section
variable{X:Cx}{pos:Pos}
end
end L2
namespace FL
open PySem PySem.Spec PyProof.Rows L2
section
variable{X:Cx}
end
section
variable{K:Frag}{H H' H₀ : Hp}{O O':aA->Prop}
abbrev orL(fs:List aA)(O:aA->Prop):aA->Prop:=fun b=>b∈fs\/O b
theorem Rep.moreL{v:V}{d:D}:∀{ps:List aA},(∀p∈ps,H p=none)->Rep K H O v d->Rep K H (orL ps O) v d
 |[],_,h=>h.less fun a z=>z.elim (fun q=>nomatch q) id
 |p::ps,hp,h=>((Rep.moreL (ps:=ps) (fun q hq=>hp q (.tail _ hq)) h).more (p:=p) (hp p (.head _))).less fun a z=>z.elim (fun q=>(aE.mp q).elim .inl fun q=>.inr (.inl q)) fun q=>.inr (.inr q)
theorem Reps.moreL{v:List V}{d:List D}:∀{ps:List aA},(∀p∈ps,H p=none)->Reps K H O v d->Reps K H (orL ps O) v d
 |[],_,h=>h.less fun a z=>z.elim (fun q=>nomatch q) id
 |p::ps,hp,h=>((Reps.moreL (ps:=ps) (fun q hq=>hp q (.tail _ hq)) h).more (p:=p) (hp p (.head _))).less fun a z=>z.elim (fun q=>(aE.mp q).elim .inl fun q=>.inr (.inl q)) fun q=>.inr (.inr q)
theorem RepO.moreL{v:V}{t:OT}{fs:List aA}:∀{ps:List aA},(∀p∈ps,H p=none)->RepO K H O v t fs->RepO K H (orL ps O) v t fs
 |[],_,h=>h.less (fun a z=>z.elim (fun q=>nomatch q) id) fun b hb=>.inr (h.owns b hb).1
 |p::ps,hp,h=>((RepO.moreL (ps:=ps) (fun q hq=>hp q (.tail _ hq)) h).more (p:=p) (hp p (.head _))).less (fun a z=>z.elim (fun q=>(aE.mp q).elim .inl fun q=>.inr (.inl q)) fun q=>.inr (.inr q)) fun b hb=>.inr (h.owns b hb).1
theorem Ok.moreL{σ : L2.St}{ds:List Sl}{hd:Hold}{fs:List aA}(o:Ok K H₀ H O σ ds hd)(s:Same H H')(hn:∀b∈fs,H b=none)(hl:∀b∈fs,∃u:MutHO,H' b=some u.1):Ok K H₀ H' (orL fs O) σ ds hd:=by
 refine⟨o.same.trans s,o.fresh,fun b hb=>hb.elim (hl b) fun z=>let ⟨xs,e⟩:=o.dom b z;⟨xs,s _ _ e⟩,o.len,fun i sl e=>?_,o.apart,fun p hp=>?_,o.obs.tr (fun _ _ _ r _=>(r.moreL hn).mono s) (fun _ _ _ e=>⟨e,rfl⟩) fun _ _ oj ej=>.inl ⟨oj,ej⟩⟩
 . cases sl with
   |no=>exact jF
   |ob r t=>exact yM
   | exc t =>
     obtain⟨a',C',ob',u',q1,q2,q3,q4⟩:=o.readX e;rw[q1];exact⟨C',ob',u',q2,s _ _ q3,q4⟩
   | fr l' =>
     obtain⟨a',xs',q1,q2,q0,q3,q4⟩:=o.readF e;rw[q1];exact⟨fun z=>z.elim (fun z=>by rw[hn _ z] at q3;cases q3) q2,q0,xs',s _ _ q3,(q4.moreL hn).mono s⟩
   | v d =>
     obtain⟨v,h1,h2⟩:=o.read e;rw[h1];exact yE ((h2.moreL hn).mono s)
   | own l' =>
     obtain⟨b,ys,h1,h2,h3,h4⟩:=o.readO e;rw[h1];exact⟨.inr h2,ys,s _ _ h3,(h4.moreL hn).mono s⟩
 . have := o.hold p hp;cases p with
   |rep v d=>exact(Rep.moreL hn this).mono s
   |base B=>exact fun b hb=>⟨.inr (this b hb).1,(this b hb).2⟩
   |root k a=>exact True.intro
   |fz a' o' kvs' l'=>exact⟨fun z=>z.elim (fun z=>by have:=this.2.1;rw[hn _ z] at this;cases this) this.1,s _ _ this.2.1,(Reps.moreL hn this.2.2).mono s⟩
theorem Ok.setOb{σ : L2.St}{ds:List Sl}{hd:Hold}{fs:List aA}{i:Nat}{v:V}{t:OT}(o:Ok K H₀ H O σ ds hd)(s:Same H H')(r:RepO K H' (orL fs O) v t fs)(nd:fs.Nodup)(hn:∀b∈fs,H b=none) :
  Ok K H₀ H' (orL fs O) (σ.set i (some v)) (ds.set i (.ob none t)) hd:=by
 have o1:Ok K H₀ H' (orL fs O) σ ds hd:=o.moreL s hn fun b hb=>(r.owns b hb).2;have own':∀{j:Nat},IsOwn (ds.set i (.ob none t)) j->IsOwn ds j/\j≠i:=fun h=>wW (fun l=>by intro z;cases z) h;refine⟨o1.same,fun j l a e1 e2=>?_,o1.dom,by simpa using o1.len,fun j sl e=>?_,fun j k a hjk hj hk e1 e2=>?_,o1.hold,?_⟩
 . obtain⟨⟨l', e'⟩, n1⟩ := own' ⟨l, e1⟩;rw[aD (Ne.symm n1)] at e2;exact o1.fresh j l' a e' e2
 . by_cases hj : j = i
   . subst hj
     by_cases hl:j<ds.length
     . rw[aS hl] at e;cases e;exact yM
     . rw[bV (by simpa using hl)] at e;cases e
   . rw[aD (Ne.symm hj)] at e;rw[aD (Ne.symm hj)];exact o1.sl j sl e
 . obtain⟨h1, n1⟩ := own' hj;obtain⟨h2,n2⟩:=own' hk;rw[aD (Ne.symm n1)] at e1;rw[aD (Ne.symm n2)] at e2;exact o1.apart j k a hjk h1 h2 e1 e2
 . obtain ⟨F, hF⟩ := o.obs
   have ne:∀{j:Nat} {r':Option Nat} {t':OT},ds[j]?=some (.ob r' t')->∀b∈F j,b∉fs:=fun {j r' t'} e b hb z=>by
    obtain⟨w,_,q,_⟩:=hF j r' t' e;obtain⟨_,xs,ex⟩:=q.owns b hb;rw[hn b z] at ex;cases ex
   refine⟨fun j=>if j=i then fs else F j,fun j r' t' e=>?_⟩
   by_cases hj:j=i
   . subst hj
     by_cases hl:j<ds.length
     . rw [aS hl] at e;cases e;refine ⟨v,by rw [aS (by rw [o.len]; exact hl)],by simpa using r,(fun k a z=>by cases z),by simpa using nd,fun b hb=>?_⟩;have hb:b∈fs:=by simpa using hb
       refine⟨o.same.free (hn b hb),fun k r2 t2 hk e2 z=>?_,fun k ok ek=>?_⟩
       . simp only[hk, if_false] at z;rw[aD (Ne.symm hk)] at e2;exact ne e2 b z hb
       . obtain⟨⟨l2, e2⟩, hk⟩ := own' ok;rw[aD (Ne.symm hk)] at ek;obtain⟨b',ys,q1,_,q3,_⟩:=o.readO e2;rw[ek] at q1;cases q1;rw[hn b hb] at q3;cases q3
     . rw[bV (by simpa using hl)] at e;cases e
   . rw [aD (Ne.symm hj)] at e;obtain ⟨w,h1,h2,h3,h4,h5⟩:=hF j r' t' e;refine ⟨w,by rw [aD (Ne.symm hj)]; exact h1,by simp only [hj,if_false]; exact (h2.moreL hn).mono s,h3,by simpa [hj] using h4,fun b hb=>?_⟩;have hb:b∈F j:=by simpa [hj] using hb
     refine⟨(h5 b hb).1,fun k r2 t2 hk e2 z=>?_,fun k ok ek=>?_⟩
     . by_cases hki : k = i
       . simp only[hki, if_true] at z;exact ne e b hb z
       . simp only[hki, if_false] at z;rw[aD (Ne.symm hki)] at e2;exact(h5 b hb).2.1 k r2 t2 hk e2 z
     . obtain⟨ok', hk⟩ := own' ok;rw[aD (Ne.symm hk)] at ek;exact(h5 b hb).2.2 k ok' ek
inductive Kid(H:Hp)(b:aA):List V->Prop
 |tup {xs:List V} (h:Rd H b (.tup xs)):Kid H b xs
 |lst {xs:List V} (h:H b=some (.lst xs)):Kid H b xs
 |dct {kvs:List (Key×V)} (h:H b=some (.dK kvs)):Kid H b (kvs.map (·.2))
 |ins {C dx:aA} {kvs:List (Str×V)} (h:H b=some (.ins C dx kvs)):Kid H b (kvs.map (·.2))
noncomputable def PathV(H:Hp):V->List Nat->V->Prop
 |v,[],w=>w=v
 |v,k::p,w=>∃b xs x,v=.ref b/\Kid H b xs/\xs[k]?=some x/\PathV H x p w
theorem Kid.det{b:aA}{xs ys:List V}(h:Kid H b xs)(g:Kid H b ys):xs=ys:=by
 have rd:∀{zs ws:List V},Rd H b (.tup zs)->Rd H b (.tup ws)->zs=ws:=fun h g=>by
  rcases h with h | ⟨o,h⟩<;>rcases g with g | ⟨o',g⟩<;>rw[h] at g<;>cases g<;>rfl
 have no:∀{zs:List V} {u:HO},Rd H b (.tup zs)->H b=some u->(∀ws,u≠.tup ws)->(∀o w,u≠.frz o w)->False:=fun h g n1 n2=>by
  rcases h with h | ⟨o,h⟩<;>rw[h] at g<;>cases g
  . exact n1 _ rfl
  . exact n2 _ _ rfl
 cases h with
 | tup h => cases g with
   |tup g=>exact rd h g
   |lst g=>exact(no h g (fun _ z=>by cases z) (fun _ _ z=>by cases z)).elim
   |dct g=>exact(no h g (fun _ z=>by cases z) (fun _ _ z=>by cases z)).elim
   |ins g=>exact(no h g (fun _ z=>by cases z) (fun _ _ z=>by cases z)).elim
 | lst h => cases g with
   |tup g=>exact(no g h (fun _ z=>by cases z) (fun _ _ z=>by cases z)).elim
   |lst g=>rw[h] at g;cases g;rfl
   |dct g=>rw[h] at g;cases g
   |ins g=>rw[h] at g;cases g
 | dct h => cases g with
   |tup g=>exact(no g h (fun _ z=>by cases z) (fun _ _ z=>by cases z)).elim
   |lst g=>rw[h] at g;cases g
   |dct g=>rw[h] at g;cases g;rfl
   |ins g=>rw[h] at g;cases g
 | ins h => cases g with
   |tup g=>exact(no g h (fun _ z=>by cases z) (fun _ _ z=>by cases z)).elim
   |lst g=>rw[h] at g;cases g
   |dct g=>rw[h] at g;cases g
   |ins g=>rw[h] at g;cases g;rfl
theorem yR:∀{p:List Nat} {v x y:V},PathV H v p x->PathV H v p y->x=y
 |[],v,x,y,h,g=>h.trans g.symm
 | k :: p, v, x, y, ⟨b, xs, z, h1, h2, h3, h4⟩, ⟨b', xs', z', g1, g2, g3, g4⟩ => by
   rw[h1] at g1;cases g1;cases h2.det g2;rw[h3] at g3;cases g3;exact yR h4 g4
theorem HU:∀{p:List Nat} {k:Nat} {v x:V} {b:aA} {xs:List V},PathV H v p (.ref b)->Kid H b xs->xs[k]?=some x->PathV H v (p++[k]) x
 |[],k,v,x,b,xs,h,hk,hx=>⟨b,xs,x,h.symm,hk,hx,rfl⟩
 |j::p,k,v,x,b,xs,⟨c,ys,y,h1,h2,h3,h4⟩,hk,hx=>⟨c,ys,y,h1,h2,h3,HU h4 hk hx⟩
theorem wH:∀(p:List Nat) (k:Nat) (t:OT),subO (p++[k]) t=(subO p t).bind (subO [k])
 |[],k,t=>by simp[subO]
 | j :: p, k, t => by
   cases t with
   |val d=>simp[subO]
   |lst l=>simp only[fR,subO];cases l[j]?<;>simp[wH p k]
   |tup l=>simp only[fR,subO];cases l[j]?<;>simp[wH p k]
   |dct ks l=>simp only[fR,subO];cases l[j]?<;>simp[wH p k]
   |ins c l=>simp only[fR,subO];cases l[j]?<;>simp[wH p k]
theorem RepsO.length:∀{xs:List V} {ts:List OT} {fs:List aA},RepsO K H O xs ts fs->xs.length=ts.length
 |_,_,_,.nil=>rfl
 |_,_,_,.cons _ r=>by simp[RepsO.length r]
theorem RepsO.pick:∀{xs:List V} {ts:List OT} {fs:List aA} {k:Nat} {t:OT},RepsO K H O xs ts fs->ts[k]?=some t->∃(x:V) (pre f post:List aA),xs[k]?=some x/\fs=pre++(f++post)/\RepO K H O x t f ∧
  ∀{H':Hp} {O':aA->Prop} {g:OT->OT} {f':List aA},RepO K H' O' x (g t) f'->(∀y s e,RepO K H O y s e->(∀b∈e,b∈pre\/b∈post)->RepO K H' O' y s e)->RepsO K H' O' xs (ts.modify k g) (pre++(f'++post))
 | _, _, _, 0, t, .cons (x := x) (fs := f) (gs := gs) h r, e => by
   simp only[cD,Option.some.injEq] at e;subst e;refine⟨x,[],f,gs,rfl,rfl,h,fun {H' O' g f'} h' ho=>?_⟩
   have:∀{xs:List V} {ts:List OT} {gs':List aA},RepsO K H O xs ts gs'->(∀b∈gs',b∈gs)->RepsO K H' O' xs ts gs':=by
    intro xs ts gs' h
    induction xs generalizing ts gs' with
    |nil=>intro _;cases h;exact .nil
    | cons y ys ih =>
      intro hb;cases h with
      |cons h1 h2=>exact .cons (ho _ _ _ h1 fun b z=>.inr (hb b (aY _ z))) (ih h2 fun b z=>hb b (aG _ z))
   show RepsO K H' O' _ _ (f'++gs);exact .cons h' (this r fun _ z=>z)
 | _, _, _, k + 1, t, .cons (x := x) (t := t0) (fs := f0) (gs := gs) h r, e => by
   obtain⟨y,pre,f,post,h1,h2,h3,h4⟩:=RepsO.pick (k:=k) (t:=t) r (by simpa using e);refine⟨y,f0++pre,f,post,by simpa using h1,by rw[h2];simp,h3,fun {H' O' g f'} h' ho=>?_⟩;have q:=h4 h' fun z s e' hz hb=>ho z s e' hz fun b hb'=>(hb b hb').elim (fun z=>.inl (aG _ z)) .inr;have:=RepsO.cons (ho _ _ _ h fun b hb=>.inl (aY _ hb)) q;simpa[fG] using this
theorem HZ{pre f post:List aA}(nd:(pre++(f++post)).Nodup):f.Nodup/\(∀b∈f,b∉pre/\b∉post)/\∀(f':List aA),f'.Nodup->(∀b∈f',b∈f\/(b∉pre/\b∉post))->(pre++(f'++post)).Nodup:=by
 rw[dM] at nd;obtain⟨n1,n2,n3⟩:=nd;rw[dM] at n2;obtain⟨n4,n5,n6⟩:=n2;have ap:∀b∈f,b∉pre/\b∉post:=fun b hb=>⟨fun z=>n3 b z b (aY _ hb) rfl,fun z=>n6 b hb b z rfl⟩
 refine⟨n4,ap,fun f' hf hs=>?_⟩;have ap':∀b∈f',b∉pre/\b∉post:=fun b hb=>(hs b hb).elim (ap b) id;rw[dM];refine⟨n1,?_,fun a ha b hb e=>?_⟩
 . rw[dM];exact⟨hf,n5,fun a ha b hb e=>(ap' a ha).2 (e▸hb)⟩
 . rcases bG.mp hb with z | z
   . exact(ap' b z).1 (e▸ha)
   . exact n3 a ha b (aG _ z) e
structure Chg(H H':Hp)(O O':aA->Prop)(f:List aA)(f':List aA):Prop where
 keep:∀b u,¬O b->H b=some u->H' b=some u
 rest:∀b u,O b->b∉f->H b=some u->H' b=some u
 sub:∀b,O b->b∉f->O' b
 new:∀b,O' b->O b\/(b∈f'/\H b=none)
 fp:∀b∈f',b∈f\/H b=none
theorem Chg.rep{f f':List aA}(c:Chg H H' O O' f f'){v:V}{d:D}(r:Rep K H O v d):Rep K H' O' v d:=by
 have hn:∀p∈f'.filter (fun b=>(H b).isNone),H p=none:=fun p hp=>by simpa using(eD.mp hp).2
 have r1:=(r.moreL hn).keep (H':=H') fun b u hb e=>c.keep b u (fun z=>hb (.inr z)) e;exact r1.less (O':=O') fun a z=>(c.new a z).elim .inr fun q=>.inl (eD.mpr ⟨q.1,by rw[q.2];rfl⟩)
theorem Chg.reps{f f':List aA}(c:Chg H H' O O' f f'){v:List V}{d:List D}(r:Reps K H O v d):Reps K H' O' v d:=by
 have hn:∀p∈f'.filter (fun b=>(H b).isNone),H p=none:=fun p hp=>by simpa using(eD.mp hp).2
 have r1:=(r.moreL hn).keep (H':=H') fun b u hb e=>c.keep b u (fun z=>hb (.inr z)) e;exact r1.less (O':=O') fun a z=>(c.new a z).elim .inr fun q=>.inl (eD.mpr ⟨q.1,by rw[q.2];rfl⟩)
theorem Chg.repO{f f':List aA}(c:Chg H H' O O' f f'){v:V}{t:OT}{e:List aA}(r:RepO K H O v t e)(he:∀b∈e,b∉f):RepO K H' O' v t e:=by
 have hn:∀p∈f'.filter (fun b=>(H b).isNone),H p=none:=fun p hp=>by simpa using(eD.mp hp).2
 have r1:=(r.moreL hn).keep (H':=H') (fun b u hb e=>c.keep b u (fun z=>hb (.inr z)) e) fun b hb u eb=>c.rest b u (r.owns b hb).1 (he b hb) eb;exact r1.less (O':=O') (fun a z=>(c.new a z).elim .inr fun q=>.inl (eD.mpr ⟨q.1,by rw[q.2];rfl⟩)) fun b hb=>c.sub b (r.owns b hb).1 (he b hb)
theorem RepO.modAt:∀(p:List Nat) {v:V} {t u:OT} {fs:List aA},RepO K H O v t fs->fs.Nodup->subO p t=some u->∃w f,PathV H v p w/\RepO K H O w u f/\f.Nodup/\(∀b∈f,b∈fs) ∧
  ∀{H':Hp} {O':aA->Prop} {u':OT} {f':List aA},Chg H H' O O' f f'->RepO K H' O' w u' f'->f'.Nodup->∃fs',RepO K H' O' v (putO u' p t) fs'/\fs'.Nodup/\(∀b∈fs',b∈fs\/b∈f')/\∀b∈f',b∈fs'
 | [], v, t, u, fs, r, nd, e => by
   cases e;exact⟨v,fs,rfl,r,nd,fun _ h=>h,fun {H' O' u' f'} c r' nd'=>⟨f',r',nd',fun b hb=>.inr hb,fun b hb=>hb⟩⟩
 | k :: p, v, t, u, fs, r, nd, e => by
   have core:∀{xs:List V} {ts:List OT} {gs:List aA},RepsO K H O xs ts gs->gs.Nodup->(ts[k]?).bind (subO p)=some u->∃x w f,xs[k]?=some x/\PathV H x p w/\RepO K H O w u f/\f.Nodup/\(∀b∈f,b∈gs) ∧
     ∀{H':Hp} {O':aA->Prop} {u':OT} {f':List aA},Chg H H' O O' f f'->RepO K H' O' w u' f'->f'.Nodup->∃gs',RepsO K H' O' xs (ts.modify k (putO u' p)) gs'/\gs'.Nodup/\(∀b∈gs',b∈gs\/b∈f')/\∀b∈f',b∈gs':=by
    intro xs ts gs rs nds es;obtain⟨t1,ht,es⟩:=bnd es;obtain⟨x,pre,f0,post,h1,rfl,h3,h4⟩:=rs.pick ht;obtain⟨nf,nfr,nre⟩:=HZ nds;obtain⟨w,f,g1,g2,g3,g4,g5⟩:=RepO.modAt p h3 nf es;have inn:∀b∈f,b∈pre++(f0++post):=fun b hb=>aG _ (aY _ (g4 b hb));refine⟨x,w,f,h1,g1,g2,g3,inn,fun {H' O' u' f'} c r' nd'=>?_⟩;obtain⟨f1,q1,q2,q3,q4⟩:=g5 c r' nd'
    have old:∀b,b∈pre++(f0++post)->H b≠none:=fun b hb z=>by
     obtain⟨_,y,ey⟩:=rs.owns b hb;rw[z] at ey;cases ey
    refine⟨pre++(f1++post),h4 (g:=putO u' p) q1 fun y s e hy hb=>c.repO hy fun b hb' z=>?_,nre f1 q2 fun b hb=>?_,fun b hb=>?_,fun b hb=>aG _ (aY _ (q4 b hb))⟩
    . exact(hb b hb').elim (nfr b (g4 b z)).1 (nfr b (g4 b z)).2
    . rcases q3 b hb with z | z
      . exact .inl z
      . rcases c.fp b z with y | y
        . exact .inl (g4 b y)
        . exact .inr ⟨fun q=>old b (aY _ q) y,fun q=>old b (aG _ (aG _ q)) y⟩
    . rcases bG.mp hb with z | z
      . exact .inl (aY _ z)
      . rcases bG.mp z with z | z
        . exact(q3 b z).imp (fun z=>aG _ (aY _ z)) id
        . exact .inl (aG _ (aG _ z))
   have head:∀{a0:aA} {gs gs' f f':List aA} {H':Hp} {O':aA->Prop},(a0::gs).Nodup->O a0->H a0≠none->Chg H H' O O' f f'->gs'.Nodup->(∀b∈gs',b∈gs\/b∈f')->(∀b∈f,b∈gs)->(a0::gs').Nodup/\(∀b∈a0::gs',b∈a0::gs\/b∈f')/\a0∉f:=by
    intro a0 gs gs' f f' H' O' nd0 oa ha c ndg hg hf;obtain⟨n0,_⟩:=bT.mp nd0;refine⟨bT.mpr ⟨fun z=>?_,ndg⟩,fun b hb=>?_,fun z=>n0 (hf a0 z)⟩
    . rcases hg a0 z with y | y
      . exact n0 y
      . exact(c.fp a0 y).elim (fun q=>n0 (hf a0 q)) ha
    . rcases aE.mp hb with rfl | z
      . exact .inl (.head _)
      . exact(hg b z).imp (fun y=>.tail _ y) id
   cases r with
   |val r=>simp[subO] at e
   | tup n h r =>
     obtain⟨x,w,f,h1,g1,g2,g3,g4,g5⟩:=core r nd e;refine⟨w,f,⟨_,_,x,rfl,.tup h,h1,g1⟩,g2,g3,g4,fun {H' O' u' f'} c r' nd'=>?_⟩;obtain⟨gs',q1,q2,q3,q4⟩:=g5 c r' nd';refine⟨gs',?_,q2,q3,q4⟩;have kk:Keep O H H':=fun b u hb eb=>c.keep b u hb eb;exact .tup (fun z=>(c.new _ z).elim n fun q=>Rd.some h q.2) (kk.rd n h) q1
   | lst n h r =>
     obtain⟨x,w,f,h1,g1,g2,g3,g4,g5⟩:=core r (bT.mp nd).2 e;refine⟨w,f,⟨_,_,x,rfl,.lst h,h1,g1⟩,g2,g3,fun b hb=>.tail _ (g4 b hb),fun {H' O' u' f'} c r' nd'=>?_⟩;obtain⟨gs',q1,q2,q3,q4⟩:=g5 c r' nd';obtain⟨k1,k2,k3⟩:=head nd n (by rw[h];simp) c q2 q3 g4;exact⟨_::gs',.lst (c.sub _ n k3) (c.rest _ _ n k3 h) q1,k1,k2,fun b hb=>.tail _ (q4 b hb)⟩
   | dct n h he r =>
     obtain⟨x,w,f,h1,g1,g2,g3,g4,g5⟩:=core r (bT.mp nd).2 e;refine⟨w,f,⟨_,_,x,rfl,.dct h,h1,g1⟩,g2,g3,fun b hb=>.tail _ (g4 b hb),fun {H' O' u' f'} c r' nd'=>?_⟩;obtain⟨gs',q1,q2,q3,q4⟩:=g5 c r' nd';obtain⟨k1,k2,k3⟩:=head nd n (by rw[h];simp) c q2 q3 g4;exact⟨_::gs',.dct (c.sub _ n k3) (c.rest _ _ n k3 h) he q1,k1,k2,fun b hb=>.tail _ (q4 b hb)⟩
   | ins hc n h he r =>
     obtain⟨x,w,f,h1,g1,g2,g3,g4,g5⟩:=core r (bT.mp nd).2 e;refine⟨w,f,⟨_,_,x,rfl,.ins h,h1,g1⟩,g2,g3,fun b hb=>.tail _ (g4 b hb),fun {H' O' u' f'} c r' nd'=>?_⟩;obtain⟨gs',q1,q2,q3,q4⟩:=g5 c r' nd';obtain⟨k1,k2,k3⟩:=head nd n (by rw[h];simp) c q2 q3 g4;exact⟨_::gs',.ins hc (c.sub _ n k3) (c.rest _ _ n k3 h) he q1,k1,k2,fun b hb=>.tail _ (q4 b hb)⟩
theorem Ok.modAt{σ : L2.St}{ds:List Sl}{hd:Hold}{i:Nat}{r:Option Nat}{t u:OT}{p:List Nat}(o:Ok K H₀ H O σ ds hd)(e:ds[i]?=some (.ob r t))(hs:subO p t=some u) :
  ∃v w f,σ[i]?=some (some v)/\PathV H v p w/\RepO K H O w u f/\f.Nodup/\(∀b∈f,H₀ b=none) ∧
   ∀{H':Hp} {O':aA->Prop} {u':OT} {f':List aA},Chg H H' O O' f f'->(∀b∈f,O' b->∃y:MutHO,H' b=some y.1)->RepO K H' O' w u' f'->f'.Nodup->Ok K H₀ H' O' σ (ds.set i (.ob r (putO u' p t))) hd:=by
 obtain⟨F,hF⟩:=o.obs;obtain⟨v,h1,h2,h3,h4,h5⟩:=hF i r t e;obtain⟨w,f,g1,g2,g3,g4,g5⟩:=h2.modAt p h4 hs;have hl:i<ds.length:=(aT.mp e).1;refine⟨v,w,f,h1,g1,g2,g3,fun b hb=>(h5 b (g4 b hb)).1,fun {H' O' u' f'} c hf r' nd'=>?_⟩;obtain⟨fs',q1,q2,q3,q4⟩:=g5 c r' nd';have own':∀{j:Nat},IsOwn (ds.set i (.ob r (putO u' p t))) j->IsOwn ds j/\j≠i:=fun h=>wW (fun l=>by intro z;cases z) h;have nown:∀{j:Nat} {b:aA},IsOwn ds j->σ[j]?=some (some (.ref b))->b∉f:=fun {j b} oj ej z=>(h5 b (g4 b z)).2.2 j oj ej;have free0:∀b,H b=none->H₀ b=none:=fun b hb=>o.same.free hb;refine⟨fun b x eb=>?_,fun j l b e1 e2=>?_,fun b hb=>?_,by simpa using o.len,fun j sl es=>?_,fun j m b hjm hj hm e1 e2=>o.apart j m b hjm (own' hj).1 (own' hm).1 e1 e2,fun q hq=>?_,?_⟩
 . have hb := o.same b x eb
   by_cases ob:O b
   . by_cases bf : b ∈ f
     . rw[(h5 b (g4 b bf)).1] at eb;cases eb
     . exact c.rest b x ob bf hb
   . exact c.keep b x ob hb
 . obtain⟨⟨l', e'⟩, _⟩ := own' ⟨l, e1⟩;exact o.fresh j l' b e' e2
 . rcases c.new b hb with z | z
   . by_cases bf : b ∈ f
     . exact hf b bf hb
     . obtain⟨y, ey⟩ := o.dom b z;exact⟨y,c.rest b _ z bf ey⟩
   . exact(r'.owns b z.1).2
 . by_cases hj : j = i
   . subst hj;rw[aS hl] at es;cases es;exact yM
   . rw [aD (Ne.symm hj)] at es;cases sl with
     |no=>exact jF
     |ob r t=>exact yM
     | exc t =>
       obtain⟨a',C',ob',x',q1,q2,q3,q4⟩:=o.readX es;rw[q1];refine⟨C',ob',x',q2,c.keep _ _ (fun z=>?_) q3,q4⟩;obtain⟨y,ey⟩:=o.dom _ z;rw[q3] at ey;have h2:=y.2;rw[<- Option.some.inj ey] at h2;cases h2
     | fr l' =>
       obtain⟨a',xs'',q1,q2,q0,q3,q4⟩:=o.readF es;rw[q1];exact⟨fun z=>(c.new _ z).elim q2 (fun y=>by rw[y.2] at q3;cases q3),q0,xs'',c.keep _ _ q2 q3,c.reps q4⟩
     | v d =>
       obtain⟨v,q1,q2⟩:=o.read es;rw[q1];exact yE (c.rep q2)
     | own l'' =>
       obtain⟨b,ys,q1,q2,q3,q4⟩:=o.readO es;rw[q1];exact⟨c.sub _ q2 (nown ⟨l'',es⟩ q1),ys,c.rest _ _ q2 (nown ⟨l'',es⟩ q1) q3,c.reps q4⟩
 . have := o.hold q hq;cases q with
   |rep v d=>exact c.rep this
   |base B=>exact fun b hb=>⟨c.sub _ (this b hb).1 (fun z=>(this b hb).2 (h5 b (g4 b z)).1),(this b hb).2⟩
   |root k a=>exact True.intro
   |fz a' o' kvs' l'=>exact⟨fun z=>(c.new _ z).elim this.1 (fun y=>by have z:=this.2.1;rw[y.2] at z;cases z),c.keep _ _ this.1 this.2.1,c.reps this.2.2⟩
 . refine ⟨fun j => if j = i then fs' else F j, fun j r2 t2 ej => ?_⟩;have fsOld:∀ b∈fs',b∈F i \/ H b=none:=fun b hb=>(q3 b hb).elim .inl fun z=>(c.fp b z).imp (g4 b) id
   by_cases hj:j=i
   . subst hj;rw [aS hl] at ej;cases ej;refine ⟨v,h1,by simpa using q1,h3,by simpa using q2,fun b hb=>?_⟩;have hb:b∈fs':=by simpa using hb
     rcases fsOld b hb with z | z
     . refine⟨(h5 b z).1, fun m r3 t3 hm e3 y => ?_, fun m om em => (h5 b z).2.2 m (own' om).1 em⟩;simp only[hm,if_false] at y;rw[aD (Ne.symm hm)] at e3;exact(h5 b z).2.1 m r3 t3 hm e3 y
     . refine ⟨free0 b z, fun m r3 t3 hm e3 y => ?_, fun m om em => ?_⟩
       . simp only[hm, if_false] at y;rw[aD (Ne.symm hm)] at e3;obtain⟨_,_,w3,_⟩:=hF m r3 t3 e3;obtain⟨_,x3,ex3⟩:=w3.owns b y;rw[z] at ex3;cases ex3
       . obtain⟨⟨l3, e3⟩, _⟩ := own' om;obtain⟨b3,ys,y1,_,y3,_⟩:=o.readO e3;rw[em] at y1;cases y1;rw[z] at y3;cases y3
   . rw [aD (Ne.symm hj)] at ej;obtain ⟨w2,y1,y2,y3,y4,y5⟩:=hF j r2 t2 ej;have apart:∀ b∈F j,b ∉ f:=fun b hb z=>(h5 b (g4 b z)).2.1 j r2 t2 hj ej hb;refine ⟨w2,y1,by simp only [hj,if_false]; exact c.repO y2 apart,y3,by simpa [hj] using y4,fun b hb=>?_⟩;have hb:b∈F j:=by simpa [hj] using hb
     refine⟨(y5 b hb).1,fun m r3 t3 hm e3 z=>?_,fun m om em=>(y5 b hb).2.2 m (own' om).1 em⟩
     by_cases hmi:m=i
     . simp only [hmi, if_true] at z;rcases fsOld b z with x | x
       . exact(y5 b hb).2.1 i r t (fun z=>hj z.symm) e x
       . obtain⟨_, x3, ex3⟩ := y2.owns b hb;rw[x] at ex3;cases ex3
     . simp only[hmi, if_false] at z;rw[aD (Ne.symm hmi)] at e3;exact(y5 b hb).2.1 m r3 t3 hm e3 z
end
section
variable(X:Cx)
def PVo(e:Expr)(f:FO):Prop:=∃t,PE X e t/\∀H₀ H O σ ds hd T Q,Ok X.K H₀ H O σ ds hd->f ds=some T->(∀v H' fs,Same H H'->RepO X.K H' (orL fs O) v T fs->fs.Nodup->(∀b∈fs,H b=none)->Q v H')->t σ H Q
def PAo(es:List Expr)(f:FOs):Prop:=∃t,PA X es t/\∀H₀ H O σ ds hd T Q,Ok X.K H₀ H O σ ds hd->f ds=some T->(∀vs H' fs,Same H H'->RepsO X.K H' (orL fs O) vs T fs->fs.Nodup->(∀b∈fs,H b=none)->Q vs H')->t σ H Q
def PVp(e:Expr)(f:FP):Prop:=∃t,PE X e t/\∀H₀ H O σ ds hd q Q,Ok X.K H₀ H O σ ds hd->f ds=some q->(∀r T v w fs,ds[q.1]?=some (.ob r T)->subO q.2.1 T=some q.2.2->σ[q.1]?=some (some v)->PathV H v q.2.1 w->RepO X.K H O w q.2.2 fs->Q w H)->t σ H Q
end
section
variable{X:Cx}
theorem CV{K:Frag}{H:Hp}{O:aA->Prop}:∀{xs:List V} {l:List D},Reps K H O xs l->RepsO K H O xs (l.map OT.val) []
 |_,_,.nil=>.nil
 |_,_,.cons h t=>.cons (fs:=[]) (gs:=[]) (.val h) (CV t)
theorem HH{e:Expr}{f:FE}(h:PV X e f):PVo X e (vO f):=by
 obtain⟨t,ht,hf⟩:=h;refine⟨t,ht,fun H₀ H O σ ds hd T Q o e q=>?_⟩;unfold vO at e;obtain⟨d,h1,rfl⟩:=mpd e;exact hf H₀ H O σ ds hd d Q o h1 fun v H' s r=>q v H' [] s (.val (r.less fun a z=>z.elim (fun q=>nomatch q) id)) .nil (fun b hb=>nomatch hb)
theorem JT:PAo X [] nilO:=⟨_,yK,fun _ H _ _ _ _ _ _ _ e q=>by cases e;exact q [] H [] (Same.refl _) .nil .nil (fun b hb=>nomatch hb)⟩
theorem ZI{es:List Expr}{pos:Pos}{g:FOs}(h:PAo X es g):PVo X (.List es pos) (sO g):=by
 obtain⟨t,ht,hf⟩:=h;refine⟨_,PB ht,fun H₀ H O σ ds hd T Q o e q=>?_⟩;unfold sO at e;obtain⟨l,h1,e⟩:=bnd e
 split at e
 . rename_i hl;cases e;refine hf H₀ H O σ ds hd l _ o h1 fun vs H1 fs s1 r1 nd n1=>⟨by rw [r1.length]; exact hl,fun p hp=>?_⟩
   have r2:RepsO X.K (upd H1 p (.lst vs)) (orL (p::fs) O) vs l fs:=by
    have e1:∀a,orL (p::fs) O a->orL [p] (orL fs O) a:=fun a z=>z.elim (fun z=>(aE.mp z).elim (fun z=>.inl (by rw[z];exact .head _)) fun z=>.inr (.inl z)) fun z=>.inr (.inr z);have mm:RepsO X.K H1 (ins1 p (orL fs O)) vs l fs:=r1.more hp;exact(mm.mono (qH hp _)).less (fun a z=>(e1 a z).elim (fun z=>.inl (aQ.mp z)) .inr) fun b hb=>.inl (.tail _ hb)
   refine q _ _ (p::fs) (s1.trans (qH hp _)) (.lst (.inl (.head _)) zX r2) (bT.mpr ⟨fun z=>?_,nd⟩) fun b hb=>?_
   . obtain⟨_, xs, ex⟩ := r1.owns p z;rw[hp] at ex;cases ex
   . rcases aE.mp hb with z | z
     . rw[z];exact s1.free hp
     . exact n1 b z
 . cases e
theorem wG{i:Nat}{x:Str}{e:Expr}{pos pos':Pos}{f:FO}(hN:X.N.Nodup)(he:PVo X e f)(hi:X.N[i]?=some x:=by rfl)(hx:Loc X.env.scope x:=by first | exact Or.inl rfl | exact Or.inr rfl)(hs:cV e (some (.Name x pos')) pos.line X.env=pure false:=by rfl)(hf:X.fn x=true\/X.env.scope.names.lookup x=some .local:=by first | exact .inl rfl | exact .inr rfl):PSv X (.Assign [.Name x pos'] e pos) (setB i f):=by
 obtain⟨t,ht,hg⟩:=he;refine⟨_,JP hN hi hx ht hs hf,fun H₀ H O σ ds hd out E o e h=>?_⟩;unfold setB at e;obtain⟨T,h1,rfl⟩:=mpd e;exact hg H₀ H O σ ds hd T _ o h1 fun v H' fs s r nd n=>h _ _ _ (o.setOb s r nd n)
theorem qL(i:Nat){x:Str}{pos:Pos}(hN:X.N[i]?=some x:=by rfl)(hv:Vis X.env.scope x:=by first | exact Or.inl rfl | exact Or.inr (Or.inl rfl) | exact Or.inr (Or.inr rfl))(hd:(x==("__debug__" : Str))=false:=by decide)(hcd:(x==("__classdict__" : Str))=false:=by decide):PVp X (.Name x pos) (varP i):=by
 refine⟨_,xI hN hv hd hcd,fun H₀ H O σ ds hd q Q o e h=>?_⟩;unfold varP at e;cases hs:ds[i]? with
 |none=>rw[hs] at e;cases e
 | some s =>
   rw[hs] at e;cases s with
   | ob r t =>
     cases e;obtain⟨F,hF⟩:=o.obs;obtain⟨v,h1,h2,_⟩:=hF i r t hs;exact⟨v,h1,h r t v v _ hs rfl h1 rfl h2⟩
   |_=>cases e
theorem RepsO.nth{K:Frag}{H:Hp}{O:aA->Prop}{xs:List V}{ts:List OT}{fs:List aA}{k:Nat}{t:OT}(h:RepsO K H O xs ts fs)(e:ts[k]?=some t):∃x f,xs[k]?=some x/\RepO K H O x t f:=by
 obtain⟨x,_,f,_,h1,_,h3,_⟩:=h.pick e;exact⟨x,f,h1,h3⟩
theorem Chg.ofUpd{H:Hp}{O:aA->Prop}{a:aA}{y:HO}{f f':List aA}(oa:O a)(ha:a∈f)(hf:∀b∈f',b∈f):Chg H (upd H a y) O O f f' :=
 ⟨fun b u nb e=>by have z:b≠a:=fun z=>nb (by rw[z];exact oa);rw[L2.upd_ne z];exact e,fun b u _ nb e=>by have z:b≠a:=fun z=>nb (by rw[z];exact ha);rw[L2.upd_ne z];exact e,fun _ z _=>z,fun _ z=>.inl z,fun b hb=>.inl (hf b hb)⟩
section
variable{x:Str}{k j n:Nat}{F:List D->Option Ret}{p pos:Pos}{e:Expr}{es:List Expr}{g:FA}
end
mutual
theorem RepO.flatten{K:Frag}{H:Hp}{O O':aA->Prop}(ho:∀a,O a->Old H a):∀{v:V} {t:OT} {fs:List aA},flatO t=true->RepO K H O' v t fs->(∀b∈fs,O b)->RepO K H O v t fs
 |_,_,_,f,.val r,_=>.val (Rep.flatten ho (by simpa[flatO] using f) r)
 |_,_,_,f,.lst n h r,hb=>.lst (hb _ (.head _)) h (RepsO.flatten ho (by simpa[flatO] using f) r fun b z=>hb b (.tail _ z))
 |_,_,_,f,.dct n h e r,hb=>.dct (hb _ (.head _)) h e (RepsO.flatten ho (by simpa[flatO] using f) r fun b z=>hb b (.tail _ z))
 |_,_,_,f,.ins c n h e r,hb=>.ins c (hb _ (.head _)) h e (RepsO.flatten ho (by simpa[flatO] using f) r fun b z=>hb b (.tail _ z))
 |_,_,_,f,.tup (a:=a) n h r,hb=>.tup (fun z=>by
    obtain⟨u,e,m⟩:=ho a z;rcases h with h | ⟨o,h⟩
    . rw[e] at h;cases h;cases m
    . rw[e] at h;cases h;cases m) h (RepsO.flatten ho (by simpa[flatO] using f) r hb)
theorem RepsO.flatten{K:Frag}{H:Hp}{O O':aA->Prop}(ho:∀a,O a->Old H a):∀{v:List V} {t:List OT} {fs:List aA},sN t=true->RepsO K H O' v t fs->(∀b∈fs,O b)->RepsO K H O v t fs
 |_,_,_,_,.nil,_=>.nil
 | _, _, _, f, .cons h r, hb => by
   simp only[sN,cA] at f;exact .cons (RepO.flatten ho f.1 h fun b z=>hb b (aY _ z)) (RepsO.flatten ho f.2 r fun b z=>hb b (aG _ z))
end
end
section
variable{X:Cx}
end
section
variable{K:Frag}{H H' H₀ : Hp}{O O':aA->Prop}
theorem Kid.mono(s:Same H H'){b:aA}{xs:List V}(h:Kid H b xs):Kid H' b xs:=by
 cases h with
 |tup h=>exact .tup (Keep.rd (O:=jJ) (.of_same s) (fun z=>z) h)
 |lst h=>exact .lst (s _ _ h)
 |dct h=>exact .dct (s _ _ h)
 |ins h=>exact .ins (s _ _ h)
theorem yI(s:Same H H'):∀{p:List Nat} {v w:V},PathV H v p w->PathV H' v p w
 |[],_,_,h=>h
 |_::_,_,_,⟨b,xs,x,h1,h2,h3,h4⟩=>⟨b,xs,x,h1,h2.mono s,h3,yI s h4⟩
theorem RepsO.put:∀{xs:List V} {ts:List OT} {fs:List aA} {k:Nat} {t:OT},RepsO K H O xs ts fs->ts[k]?=some t->∃(pre f post:List aA),fs=pre++(f++post) ∧
  ∀{H':Hp} {O':aA->Prop} {v:V} {T:OT} {f':List aA},RepO K H' O' v T f'->(∀y s e,RepO K H O y s e->(∀b∈e,b∈pre\/b∈post)->RepO K H' O' y s e)->RepsO K H' O' (xs.set k v) (ts.set k T) (pre++(f'++post))
 | _, _, _, 0, t, .cons (x := x) (fs := f) (gs := gs) h r, e => by
   refine⟨[],f,gs,rfl,fun {H' O' v T f'} h' ho=>?_⟩
   have:∀{xs:List V} {ts:List OT} {gs':List aA},RepsO K H O xs ts gs'->(∀b∈gs',b∈gs)->RepsO K H' O' xs ts gs':=by
    intro xs ts gs' h
    induction xs generalizing ts gs' with
    |nil=>intro _;cases h;exact .nil
    | cons y ys ih =>
      intro hb;cases h with
      |cons h1 h2=>exact .cons (ho _ _ _ h1 fun b z=>.inr (hb b (aY _ z))) (ih h2 fun b z=>hb b (aG _ z))
   show RepsO K H' O' (v::_) (T::_) (f'++gs);exact .cons h' (this r fun _ z=>z)
 | _, _, _, k + 1, t, .cons (x := x) (t := t0) (fs := f0) (gs := gs) h r, e => by
   obtain⟨pre,f,post,h2,h4⟩:=RepsO.put (k:=k) (t:=t) r (by simpa using e);refine⟨f0++pre,f,post,by rw[h2];simp,fun {H' O' v T f'} h' ho=>?_⟩;have q:=h4 h' fun z s e' hz hb=>ho z s e' hz fun b hb'=>(hb b hb').elim (fun z=>.inl (aG _ z)) .inr;have:=RepsO.cons (ho _ _ _ h fun b hb=>.inl (aY _ hb)) q;simpa[fG] using this
theorem RH{f:Str}{v:V}:∀{kvs:List (Str×V)} {i:Nat},(kvs.map (·.1))[i]?=some f->(∀j,j<i->(kvs.map (·.1))[j]?≠some f)->(putF f v kvs).map (·.1)=kvs.map (·.1)/\(putF f v kvs).map (·.2)=(kvs.map (·.2)).set i v
 |[],_,h,_=>by simp at h
 | (g, x) :: r, 0, h, _ => by
   simp at h;subst h;simp[putF]
 | (g, x) :: r, i + 1, h1, h2 => by
   have hg:g≠f:=fun z=>h2 0 (by omega) (by simp[z]);have:=RH (v:=v) (kvs:=r) (i:=i) (by simpa using h1) (fun j hj=>by have:=h2 (j+1) (by omega);simpa using this);simp[putF,hg,this.1,this.2]
end
section
variable{X:Cx}
theorem yF{e:Expr}{n:Str}{pos:Pos}{f:FP}{ix:List (Nat×Nat)}(hF:FldOk X.K n ix)(he:PVp X e f)(hb:cW e n X.env (bM e X.env)=bM e X.env:=by rfl):PVp X (.Attribute e n pos) (atP ix f):=by
 obtain⟨t,ht,hf⟩:=he;refine⟨_,aAo ht hb,fun H₀ H O σ ds hd q Q o e h=>?_⟩;unfold atP at e;obtain⟨q0,h1,e⟩:=bnd e;refine hf H₀ H O σ ds hd q0 _ o h1 fun r T v w fs g1 g2 g3 g4 g5=>?_;cases hu:q0.2.2 with
 | ins c l =>
   rw[hu] at e g5;simp only at e;obtain⟨k,hl,e⟩:=bnd e;obtain⟨u,hk,rfl⟩:=mpd e;cases g5 with
   | @ins a C dx _ kvs _ fs' hc n ha ek rs =>
     obtain⟨y1,y2,y3⟩:=hF c k hl;obtain⟨cl,na⟩:=y3 C hc;obtain⟨x,f2,z1,z2⟩:=rs.nth hk;refine⟨a,C,dx,kvs,x,rfl,ha,cl,na,vB (i:=k) (by rw[ek];exact y1) (by rw[ek];exact y2) z1,h r T v x f2 g1 ?_ g3 (HU g4 (.ins ha) z1) z2⟩;rw[wH,g2,hu];simp[subO,hk]
 |_=>rw[hu] at e;cases e
theorem yP{e:Expr}{f:FP}(he:PVp X e f):PV X e (valP f):=by
 obtain⟨t,ht,hf⟩:=he;refine⟨t,ht,fun H₀ H O σ ds hd d Q o e q=>?_⟩;unfold valP at e;obtain⟨q0,h1,e⟩:=bnd e;refine hf H₀ H O σ ds hd q0 _ o h1 fun r T v w fs g1 g2 g3 g4 g5=>?_;cases hu:q0.2.2 with
 | val d' =>
   rw[hu] at e g5;cases e;cases g5 with
   |val r5=>exact q w H (Same.refl _) r5
 |_=>rw[hu] at e;cases e
theorem LX{e:Expr}{f:FP}(he:PVp X e f):PVn X e (seeP f):=by
 obtain⟨t,ht,hf⟩:=he;refine⟨t,ht,fun H₀ H O σ ds hd d Q o e q=>?_⟩;unfold seeP at e;obtain⟨q0,h1,rfl⟩:=mpd e;exact hf H₀ H O σ ds hd q0 _ o h1 fun r T v w fs g1 g2 g3 g4 g5=>q w H (Same.refl _) g5.any
theorem xF{oe e:Expr}{n:Str}{pos pos':Pos}{f:FP}{g:FO}{ix:List (Nat×Nat)}(hF:FldOk X.K n ix)(ho:PVp X oe f)(he:PVo X e g)(hs:cV e (some (.Attribute oe n pos')) pos.line X.env=pure false:=by rfl) :
  PSv X (.Assign [.Attribute oe n pos'] e pos) (setAt ix f g):=by
 obtain⟨tp,hp,hfp⟩:=ho;obtain⟨tv,hv,hg⟩:=he;refine⟨_,OZ hp hv hs,fun H₀ H O σ ds hd out E o e h=>?_⟩;unfold setAt at e;obtain⟨T,h1,e⟩:=bnd e;obtain⟨q,h2,e⟩:=bnd e;refine hg H₀ H O σ ds hd T _ o h1 fun v H1 fs s1 r1 nd1 n1=>?_;have o1:Ok X.K H₀ H1 (orL fs O) σ ds hd:=o.moreL s1 n1 fun b hb=>(r1.owns b hb).2;refine hfp H₀ H1 (orL fs O) σ ds hd q _ o1 h2 fun r T0 v0 w fs0 g1 g2 g3 g4 g5=>?_;obtain⟨v',w',f',y1,y2,y3,y4,y5,y6⟩:=o.modAt g1 g2;rw[g3] at y1;cases y1;cases yR g4 (yI s1 y2);cases hq:q.2.2 with
 | ins t l =>
   rw[hq] at y3 e;simp only at e;obtain⟨k,hl,e⟩:=bnd e
   split at e
   . rename_i hk;cases e;cases y3 with
     | @ins a C dx _ kvs _ fs' c na ha ek rs =>
       obtain⟨z1,z2,z3⟩:=hF t k hl;obtain⟨cl,nat⟩:=z3 C c;have ln:kvs.length=l.length:=by simpa using rs.length
       refine⟨a,C,dx,kvs,rfl,s1 _ _ ha,cl,nat,by omega,?_⟩;obtain⟨pre,f0,post,e0,put⟩:=rs.put (bJ hk.1);subst e0;obtain⟨n3,n4⟩:=bT.mp y4;obtain⟨nf,nfr,nre⟩:=HZ n4
       have old:∀b,H b=none->b∉a::(pre++(f0++post)):=fun b hb z=>by
        rcases aE.mp z with z | z
        . rw[z,ha] at hb;cases hb
        . obtain⟨_, x, ex⟩ := rs.owns b z;rw[hb] at ex;cases ex
       have afs:a∉fs:=fun z=>by rw[n1 a z] at ha;cases ha
       obtain⟨p1,p2⟩:=RH (f:=n) (v:=v) (kvs:=kvs) (i:=k) (by rw[ek];exact z1) (by rw[ek];exact z2);have hs':∀b u,b≠a->H b=some u->upd H1 a (.ins C dx (putF n v kvs)) b=some u:=fun b u nb eb=>by rw[L2.upd_ne nb];exact s1 _ _ eb
       have nO:∀{b:aA},¬O b->b≠a:=fun nb z=>nb (by rw[z];exact na)
       have c0:Chg H (upd H1 a (.ins C dx (putF n v kvs))) O (orL fs O) [a] (a::fs):=
        ⟨fun b u nb eb=>hs' b u (nO nb) eb,fun b u _ nb eb=>hs' b u (fun z=>nb (by rw[z];exact .head _)) eb,fun b z _=>.inr z,fun b z=>z.elim (fun z=>.inr ⟨.tail _ z,n1 b z⟩) .inl,fun b z=>(aE.mp z).elim (fun z=>.inl (by rw[z];exact .head _)) fun z=>.inr (n1 b z)⟩
       have rT:RepO X.K (upd H1 a (.ins C dx (putF n v kvs))) (orL fs O) v T fs:=r1.keep (fun b u nb eb=>by rw[L2.upd_ne (nO fun z=>nb (.inr z))];exact eb) fun b hb u eb=>by
        have z:b≠a:=fun z=>afs (by rw[<- z];exact hb);rw[L2.upd_ne z];exact eb
       have rs':=put rT fun y s e hy hb=>c0.repO hy fun b hb' z=>n3 (by
        rw[<- aQ.mp z]
        exact(hb b hb').elim (fun z=>aY _ z) fun z=>aG _ (aG _ z))
       have ok:=y6 (H':=upd H1 a (.ins C dx (putF n v kvs))) (O':=orL fs O) (u':=.ins t (l.set k T)) (f':=a::(pre++(fs++post)))
        ⟨fun b u nb eb=>hs' b u (nO nb) eb,fun b u _ nb eb=>hs' b u (fun z=>nb (by rw[z];exact .head _)) eb,fun b z _=>.inr z,fun b z=>z.elim (fun z=>.inr ⟨.tail _ (aG _ (aY _ z)),n1 b z⟩) .inl,fun b z=>?_⟩
        (fun b z _=>?_) (.ins c (.inr na) zX (p1.trans ek) (by rw[p2];exact rs')) (bT.mpr ⟨fun z=>?_,nre fs nd1 fun b z=>.inr ?_⟩)
       . have e' : putP q (.ins t (l.set k T)) ds = ds.set q.1 (.ob r (putO (.ins t (l.set k T)) q.2.1 T0)) := by simp [putP, g1]
         rw[e'] at h;exact h _ _ _ ok
       . rcases aE.mp z with z | z
         . exact .inl (by rw[z];exact .head _)
         . rcases bG.mp z with z | z
           . exact .inl (.tail _ (aY _ z))
           . rcases bG.mp z with z | z
             . exact .inr (n1 b z)
             . exact .inl (.tail _ (aG _ (aG _ z)))
       . by_cases z' : b = a
         . rw[z',zX];exact⟨⟨.ins C dx (putF n v kvs),rfl⟩,rfl⟩
         . rcases aE.mp z with q' | q'
           . exact(z' q').elim
           . obtain⟨_, y, ey⟩ := rs.owns b q';exact⟨y,hs' b _ z' ey⟩
       . rcases bG.mp z with z | z
         . exact n3 (aY _ z)
         . rcases bG.mp z with z | z
           . exact afs z
           . exact n3 (aG _ (aG _ z))
       . have := old b (n1 b z);exact⟨fun y=>this (.tail _ (aY _ y)),fun y=>this (.tail _ (aG _ (aG _ y)))⟩
   . cases e
 |_=>rw[hq] at e;cases e
theorem RepsO.snoc{K:Frag}{H:Hp}{O:aA->Prop}:∀{xs:List V} {ts:List OT} {fs:List aA} {v:V} {d:D},RepsO K H O xs ts fs->Rep K H O v d->RepsO K H O (xs++[v]) (ts++[.val d]) fs
 |_,_,_,_,_,.nil,r=>.cons (fs:=[]) (gs:=[]) (.val r) .nil
 |_,_,_,_,_,.cons h t,r=>.cons h (RepsO.snoc t r)
theorem Ok.putL{K:Frag}{H₀ H:Hp}{O:aA->Prop}{σ : L2.St}{ds:List Sl}{hd:Hold}{i:Nat}{r:Option Nat}{T:OT}{p:List Nat}{l l':List OT}{a:aA}{v:V}{ys:List V}(o:Ok K H₀ H O σ ds hd)(e:ds[i]?=some (.ob r T))(hs:subO p T=some (.lst l))(hv : σ[i]?=some (some v))(hp:PathV H v p (.ref a))(h:∀xs fs,H a=some (.lst xs)->O a->RepsO K H O xs l fs->fs.Nodup->a∉fs->∃fs',(∀b∈fs',b∈fs)/\fs'.Nodup/\∀{H':Hp},Chg H H' O O [a] [a]->RepsO K H' O ys l' fs'):Ok K H₀ (upd H a (.lst ys)) O σ (ds.set i (.ob r (putO (.lst l') p T))) hd:=by
 obtain⟨v',w',f,y1,y2,y3,y4,y5,y6⟩:=o.modAt e hs;rw[hv] at y1;cases y1;cases yR hp y2;cases y3 with
 | @lst _ xs _ fs n hb rs =>
   obtain⟨n3,n4⟩:=bT.mp y4;obtain⟨fs',w1,w2,w3⟩:=h xs fs hb n rs n4 n3;refine y6 (f':=a::fs') (.ofUpd n (.head _) fun b z=>(aE.mp z).elim (fun z=>by rw[z];exact .head _) fun z=>.tail _ (w1 b z)) (fun b z _=>?_) (.lst n zX (w3 (.ofUpd n (.head _) fun _ z=>z))) (bT.mpr ⟨fun z=>n3 (w1 _ z),w2⟩)
   by_cases z':b=a
   . rw[z',zX];exact⟨⟨.lst ys,rfl⟩,rfl⟩
   . rw [upd_ne z'];rcases aE.mp z with q' | q'
     . exact(z' q').elim
     . exact(rs.owns b q').2
theorem Chg.repsO{K:Frag}{H H':Hp}{O O':aA->Prop}{f f':List aA}(c:Chg H H' O O' f f'):∀{v:List V} {t:List OT} {e:List aA},RepsO K H O v t e->(∀b∈e,b∉f)->RepsO K H' O' v t e
 |_,_,_,.nil,_=>.nil
 |_,_,_,.cons h r,he=>.cons (c.repO h fun b z=>he b (aY _ z)) (Chg.repsO c r fun b z=>he b (aG _ z))
theorem DC{oe e:Expr}{pos p2 p3:Pos}{f:FP}{fe:FE}(ho:PVp X oe f)(he:PV X e fe)(hfew:((cN p3 (aF [e] X.env)).all (fun x=>!x.1)&&(fC p3 (dC [] X.env)).all (fun x=>x.1.isSome)
    && decide ([e].length+([]:List nQ).length+(if ([]:List nQ).isEmpty then 0 else 1)<30))=true:=by rfl)(hline:(p2.endLine==p3.line)=true:=by rfl)(hs:aF [e] X.env=(false,bM e X.env)::aF [] X.env:=by rfl)(hbase:cW oe "append" X.env (bM oe X.env)=bM oe X.env:=by rfl)(hsw:cV (.Call (.Attribute oe "append" p2) [e] [] p3) none pos.line X.env=pure false:=by rfl) :
  PSv X (.Expr (.Call (.Attribute oe "append" p2) [e] [] p3) pos) (appP f fe):=by
 obtain⟨tp,hp,hf⟩:=ho;obtain⟨te,pe,he⟩:=he;refine⟨_,xX (aAq hO ET ES IA hp (jN pe yK hs) hbase hfew hline hs rfl) hsw,fun H₀ H O σ ds hd out E o e h=>?_⟩;unfold appP at e;obtain⟨q,h1,e⟩:=bnd e;obtain⟨d,h2,e⟩:=bnd e;refine hf H₀ H O σ ds hd q _ o h1 fun r T v w fs g1 g2 g3 g4 g5=>?_;cases hq:q.2.2 with
 | lst l =>
   rw[hq] at e g2 g5;simp only at e
   split at e
   . rename_i hl;cases e;cases g5 with
     | @lst a xs _ fs' n hb rs =>
       refine⟨.inl ⟨rfl,xs,SqL.of hb⟩,?_⟩;refine he H₀ H O σ ds hd d _ o h2 fun v1 H1 s1 r1=>?_;refine⟨a,xs,v1,rfl,rfl,s1 _ _ hb,by rw[rs.length];exact hl,?_⟩
       have ok:=(o.mono s1).putL (l':=l++[.val d]) (ys:=xs++[v1]) g1 g2 g3 (yI s1 g4) fun xs2 fs2 k1 k2 k3 k4 k5=>⟨fs2,fun _ z=>z,k4,fun {H'} c=>by
        rw[s1 _ _ hb] at k1;cases k1
        exact(c.repsO k3 fun b z y=>k5 (aQ.mp y▸z)).snoc (c.rep r1)⟩
       have e':putP q (.lst (l++[.val d])) ds=ds.set q.1 (.ob r (putO (.lst (l++[.val d])) q.2.1 T)):=by simp[putP,g1]
       rw[e'] at h;exact h _ _ _ ok
   . cases e
 |_=>rw[hq] at e;cases e
end
section
variable{K:Frag}{H H' H₀ : Hp}{O O':aA->Prop}
theorem RepO.frz{v:V}{t:OT}{fs:List aA}(r:RepO K H O v t fs)(h:∀a,O' a->O a/\a∉fs):Rep K H O' v (otD t):=r.val' h
theorem Ok.frz{σ : L2.St}{ds:List Sl}{hd:Hold}{i:Nat}{r:Option Nat}{T:OT}(o:Ok K H₀ H O σ ds hd)(e:ds[i]?=some (.ob r T)):∃O',Ok K H₀ H O' σ (ds.set i (.v (otD T))) hd:=by
 obtain⟨F,hF⟩:=o.obs;obtain⟨v,h1,h2,h3,h4,h5⟩:=hF i r T e;have hl:i<ds.length:=(aT.mp e).1
 let O':aA->Prop:=fun b=>O b/\b∉F i
 have sub:∀b,O' b->O b:=fun b hb=>hb.1;have own':∀{j:Nat},IsOwn (ds.set i (.v (otD T))) j->IsOwn ds j/\j≠i:=fun h=>wW (fun l=>by intro z;cases z) h;refine⟨O',o.same,fun j l' b e1 e2=>?_,fun b hb=>o.dom b (sub b hb),by simpa using o.len,fun j s es=>?_,fun j m b hjm hj hm e1 e2=>o.apart j m b hjm (own' hj).1 (own' hm).1 e1 e2,fun p hp=>?_,?_⟩
 . obtain⟨⟨l2, e2'⟩, _⟩ := own' ⟨l', e1⟩;exact o.fresh j l2 b e2' e2
 . by_cases hj : j = i
   . subst hj;rw[aS hl] at es;cases es;rw[h1];exact yE (h2.frz fun a z=>z)
   . rw [aD (Ne.symm hj)] at es;cases s with
     |no=>exact jF
     |ob r t=>exact yM
     | exc t =>
       obtain⟨a',C',ob',u',q1,q2,q3,q4⟩:=o.readX es;rw[q1];exact⟨C',ob',u',q2,q3,q4⟩
     | fr l' =>
       obtain⟨a',xs',q1,q2,q0,q3,q4⟩:=o.readF es;rw[q1];exact⟨fun z=>q2 (sub _ z),q0,xs',q3,q4.less sub⟩
     | v d =>
       obtain⟨v,q1,q2⟩:=o.read es;rw[q1];exact yE (q2.less sub)
     | own l' =>
       obtain⟨b,ys,q1,q2,q3,q4⟩:=o.readO es;rw[q1];exact⟨⟨q2,fun z=>(h5 b z).2.2 j ⟨l',es⟩ q1⟩,ys,q3,q4.less sub⟩
 . have := o.hold p hp;cases p with
   |rep v d=>exact Rep.less sub this
   |base B=>exact fun b hb=>⟨⟨(this b hb).1,fun z=>(this b hb).2 (h5 b z).1⟩,(this b hb).2⟩
   |root k a=>exact True.intro
   |fz a' o' kvs' l'=>exact⟨fun z=>this.1 (sub _ z),this.2.1,Reps.less sub this.2.2⟩
 . refine⟨F, fun j r' t' ej => ?_⟩;obtain⟨ej,hj⟩:=vH (fun r t=>by intro z;cases z) ej;obtain⟨w,g1,g2,g3,g4,g5⟩:=hF j r' t' ej;refine⟨w,g1,g2.less sub fun b hb=>⟨(g2.owns b hb).1,fun z=>(h5 b z).2.1 j r' t' hj ej hb⟩,g3,g4,fun b hb=>⟨(g5 b hb).1,fun m r2 t2 hm em=>(g5 b hb).2.1 m r2 t2 hm (vH (fun r t=>by intro z;cases z) em).1,fun m om em=>(g5 b hb).2.2 m (own' om).1 em⟩⟩
end
section
variable{X:Cx}
end
noncomputable def spL(K:Frag)(n:Nat)(F:OT->List D->Option OT):Sp:=fun vs H Q _=>∃(a:aA) (T T':OT) (fs:List aA) (B:aA->Prop) (vs':List V) (l:List D),vs=.ref a::vs'/\vs'.length=n/\RepO K H (orL fs B) (.ref a) T fs/\fs.Nodup ∧
 (∀b,B b->b∉fs/\∃u:MutHO,H b=some u.1)/\Reps K H (orL fs B) vs' l/\F T l=some T' ∧
 ∀H' fs',(∀b u,b∉fs->H b=some u->H' b=some u)->RepO K H' (orL fs' B) (.ref a) T' fs'->fs'.Nodup->(∀b∈fs',b∈fs\/H b=none)->Q .non H'
noncomputable def cutH(fs:List aA)(H:Hp):Hp:=fun b=>if b∈fs then none else H b
theorem CA{fs:List aA}{H:Hp}{b:aA}(h:b∈fs):cutH fs H b=none:=if_pos h
theorem yY{fs:List aA}{H:Hp}{b:aA}(h:b∉fs):cutH fs H b=H b:=if_neg h
theorem IP{fs:List aA}{H:Hp}{b:aA}(h:cutH fs H b=none):b∈fs\/H b=none:=by
 by_cases z:b∈fs
 . exact .inl z
 . rw[yY z] at h;exact .inr h
theorem kD{n:Nat}{T:OT}{l:List D}{i:Nat}:¬IsOwn (argsL n T l) i:=fun⟨l',e⟩=>by
 unfold argsL at e;cases i with
 |zero=>cases e
 | succ i =>
   rw[cE] at e;unfold args at e
   by_cases hi:i<l.length
   . rw [aU (by simpa using hi), aX] at e;cases h:l[i]? with
     |none=>rw[h] at e;cases e
     |some d=>rw[h] at e;cases e
   . rw [bS (by simpa using hi), cX] at e
     split at e<;>cases e
theorem UZ{K:Frag}{H:Hp}{N:List Str}{a:aA}{T:OT}{fs:List aA}{B:aA->Prop}{vs:List V}{l:List D}(rt:RepO K H (orL fs B) (.ref a) T fs)(nd:fs.Nodup)(hB:∀b,B b->b∉fs/\∃u:MutHO,H b=some u.1)(r:Reps K H (orL fs B) vs l)(hN:0<N.length) :
  Ok K (cutH fs H) H (orL fs B) (L2.start N (.ref a::vs)) (argsL N.length T l) [.root 0 a,.base B]:=by
 have hl:=r.length;refine⟨fun b u e=>?_,fun i l' a' e _=>(kD ⟨l',e⟩).elim,fun b hb=>hb.elim (fun z=>(rt.owns b z).2) fun z=>(hB b z).2,?_,fun i s e=>?_,fun i j a _ hi _ _ _=>(kD hi).elim,fun p hp=>?_,?_⟩
 . by_cases z : b ∈ fs
   . rw[CA z] at e;cases e
   . rwa [yY z] at e
 . simp only[L2.start, argsL, args, bR, bU, pK, aK, hl];omega
 . unfold argsL at e;cases i with
   |zero=>cases e;exact yM
   | succ i =>
     rw[cE] at e
     have eσ : (L2.start N (.ref a::vs))[i+1]?=(vs.map some++List.replicate (N.length-(vs.length+1)) none)[i]?:=by
      simp only[L2.start,bE,fR,cE,aK]
     rw[eσ];unfold args at e
     by_cases hi:i<l.length
     . rw[aU (by simpa using hi), aX] at e;rw[aU (by simpa[hl] using hi),aX];obtain⟨d,h,rfl⟩:=mpd e;obtain⟨v,h1,h2⟩:=r.get h;rw[h1];exact yE h2
     . rw [bS (by simpa using hi), cX] at e
       split at e
       . cases e;exact jF
       . cases e
 . rcases aE.mp hp with rfl | hp
   . exact True.intro
   . cases aQ.mp hp;refine fun b hb=>⟨.inr hb,fun z=>?_⟩
     obtain⟨n,u,e⟩:=hB b hb;rw[yY n,e] at z;cases z
 . refine ⟨fun i => if i = 0 then fs else [], fun i r' t' e => ?_⟩;cases i with
   | succ i =>
     unfold argsL at e;rw[cE] at e;exact(TR _ _ _ _ _ e).elim
   | zero =>
     unfold argsL at e;cases e;refine⟨.ref a,rfl,by simpa using rt,fun k a' ek h=>?_,by simpa using nd,fun b hb=>⟨CA (by simpa using hb),fun j r2 t2 hj _=>by simp[hj],fun j oj=>(kD oj).elim⟩⟩;cases ek;rcases aE.mp h with h | h
     . cases h;rfl
     . cases aQ.mp h
theorem NG{P:aZ}{w:bK}{K:Frag}{mg:Str->Option Value}{base:Heap}{qual:Str}{st:Stmt}{f:aA}{fd:aH}{N ps:List Str}{k n:Nat}{F:OT->List D->Option OT}(hok:∀sp:Sp,(∀vs H Q E,sp vs H Q E->vs.length=ps.length)->(∀(cdv:Value) (A:bO) (outer:List Env) (s:aC) (H:Hp) (vs:List V) (Q:VK) (E:XK),Room k (A.deeper (gD qual (zH st) s.heap.objs.size f cdv))->sp vs H Q E->∃t,PSs (cxOf CX0 P w K mg base N qual (zH st) f cdv A outer s H E).nox (qT st) t/\t { nx:=fun _ H'=>Q .non H',rt:=Q } (start N vs) H)->FnOk P w K mg base CX0 (k+1) f fd ps sp){g:FS}(hbody:∀(cdv:Value) (A:bO) (outer:List Env) (s:aC) (H:Hp) (E:XK),Room k (A.deeper (gD qual (zH st) s.heap.objs.size f cdv))->PSsv (cxOf CX0 P w K mg base N qual (zH st) f cdv A outer s H E).nox (qT st) g)(hg:∀T l T',l.length=n->F T l=some T'->lentF g N.length T l=some T')(hn:ps.length=n+1:=by rfl)(hN:0<N.length:=by decide):FnOk P w K mg base CX0 (k+1) f fd ps (spL K n F):=by
 refine hok _ (fun vs H Q E h=>?_) (fun cdv A outer s H vs Q E hr h=>?_)
 . obtain⟨a, T, T', fs, B, vs', l, rfl, hl, _⟩ := h;simp only[aK];omega
 . obtain ⟨a, T, T', fs, B, vs', l, rfl, hl, rt, nd, hB, ra, e, q⟩ := h;obtain ⟨t,ht,hf⟩:=hbody cdv A outer s H E hr;refine ⟨t,ht,?_⟩;have o:=UZ (N:=N) rt nd hB ra hN;have e:=hg T l T' (by rw [<- ra.length]; exact hl) e;unfold lentF at e;cases h1:g (argsL N.length T l) with
   |none=>rw[h1] at e;cases e
   | some out =>
     rw[h1] at e;cases out with
     | nx ds =>
       simp only at e;cases h2:ds[0]? with
       |none=>rw[h2] at e;cases e
       | some s0 =>
         rw[h2] at e;cases s0 with
         | ob r T2 =>
           have hr0:r=some 0/\T2=T':=by
            cases r with
            |none=>cases e
            | some i =>
              cases i with
              |zero=>cases e;exact⟨rfl,rfl⟩
              |succ i=>cases e
           obtain⟨rfl,rfl⟩:=hr0;refine hf _ H _ _ _ _ _ _ o h1 (fun σ H' O' o'=>?_);obtain⟨F',hF⟩:=o'.obs;obtain⟨v,y1,y2,y3,y4,y5⟩:=hF 0 _ _ h2;cases y3 0 a rfl (.head _);have hb:=o'.hold (.base B) (.tail _ (.head _));exact q H' (F' 0) (fun b u nb eb=>o'.same b u (by rw[yY nb];exact eb)) (y2.less (fun b z=>z.elim (fun z=>(y2.owns b z).1) fun z=>(hb b z).1) fun b z=>.inl z) y4 fun b z=>IP (y5 b z).1
         |_=>cases e
     |_=>cases e
theorem vA{P:aZ}{w:bK}{K:Frag}{mg:Str->Option Value}{base:Heap}{x qual:Str}{st:Stmt}{f:aA}{fd:aH}{N ps:List Str}{k n:Nat}{F:OT->List D->Option OT}(Fn:Fun K x qual st f fd)(S:FnScope N ps (zH st)){g:FS}(hbody:∀(cdv:Value) (A:bO) (outer:List Env) (s:aC) (H:Hp) (E:XK),Room k (A.deeper (gD qual (zH st) s.heap.objs.size f cdv))->PSsv (cxOf CX0 P w K mg base N qual (zH st) f cdv A outer s H E).nox (qT st) g)(hg:∀T l T',l.length=n->F T l=some T'->lentF g N.length T l=some T')(hn:ps.length=n+1:=by rfl)(hN:0<N.length:=by decide):FnOk P w K mg base CX0 (k+1) f fd ps (spL K n F):=by
 exact NG (fun sp a b=>Fn.ok S a b) hbody hg hn hN
structure LCal(P:aZ)(w:bK)(K:Frag)(mg:Str->Option Value)(base:Heap)(m:Str)(k n:Nat)(cs:List Nat)(F:Nat->OT->List D->Option OT):Prop where
 no:∀t∈cs,m∉cH t
 of:∀t∈cs,∀C,aP K aM (cQ t)=some (some (.ref C))->∃(f:aA) (fd:aH) (ps:List Str),Cls K C/\Meth K C m f/\FnOk P w K mg base CX0 k f fd ps (spL K n (F t))/\Binds K fd ps []
theorem xQ{P:aZ}{w:bK}{K:Frag}{mg:Str->Option Value}{base:Heap}{m:Str}{k n:Nat}{F:Nat->OT->List D->Option OT}: LCal P w K mg base m k n [] F:=⟨fun _ h=>(nomatch h),fun _ h=>(nomatch h)⟩
theorem kH{P:aZ}{w:bK}{K:Frag}{mg:Str->Option Value}{base:Heap}{m:Str}{j k n t:Nat}{cs:List Nat}{F:Nat->OT->List D->Option OT}{C f:aA}{fd:aH}{ps:List Str}(a:aP K aM (cQ t)=some (some (.ref C)))(c:Cls K C)(hm:Meth K C m f)(G:FnOk P w K mg base CX0 j f fd ps (spL K n (F t)))(hj:j<=k)(b:Binds K fd ps [])(hn:m∉cH t)(h:LCal P w K mg base m k n cs F):LCal P w K mg base m k n (t::cs) F:=by
 refine⟨fun t' ht=>(aE.mp ht).elim (fun e=>e▸hn) (h.no t'),fun t' ht C' e=>?_⟩;rcases aE.mp ht with rfl | ht
 . rw[a] at e;cases e;exact⟨f,fd,ps,c,hm,G.mono hj,b⟩
 . exact h.of t' ht C' e
section
variable{X:Cx}{m:Str}{k j n:Nat}{cs:List Nat}{F:Nat->OT->List D->Option OT}{oe e:Expr}{es:List Expr}{apos pos pos':Pos}{f:FP}{g:FA}
theorem NA(M:LCal X.prog X.w X.K X.mg X.base m k n cs F){ta:TE}{t:TA}(hf:∀H₀ H O σ ds hd q Q,Ok X.K H₀ H O σ ds hd->f ds=some q->(∀r T v w fs,ds[q.1]?=some (.ob r T)->subO q.2.1 T=some q.2.2->σ[q.1]?=some (some v)->PathV H v q.2.1 w->RepO X.K H O w q.2.2 fs->Q w H)->ta σ H Q)(hfg:∀H₀ H O σ ds hd l Q,Ok X.K H₀ H O σ ds hd->g ds=some l->(∀vs H',Same H H'->Reps X.K H' O vs l->Q vs H')->t σ H Q){H₀ H:Hp}{O:aA->Prop}{σ : L2.St}{ds ds':List Sl}{hd:Hold}{Q:VK}(o:Ok X.K H₀ H O σ ds hd)(h1:lentG n cs F f g ds=some (.nx ds'))(q:∀H' O',Ok X.K H₀ H' O' σ ds' hd->Q .non H'):JD X m k ta t σ H Q:=by
 unfold lentG at h1;obtain⟨q0,h2,h1⟩:=bnd h1;obtain⟨l,h3,h1⟩:=bnd h1;refine hf H₀ H O σ ds hd q0 _ o h2 fun r T v w fs g1 g2 g3 g4 g5=>?_;cases hu:q0.2.2 with
 | ins c ts =>
   rw[hu] at h1 g5 g2;simp only at h1
   split at h1
   . rename_i hc;cases h4:F c (.ins c ts) l with
     |none=>rw[h4] at h1;cases h1
     | some T' =>
       rw[h4] at h1;cases h1;cases g5 with
       | @ins a C dx _ kvs _ fs' cc nn ha ek rr =>
         obtain⟨fa,fd,ps,cl,hm,Fn,hb⟩:=M.of c hc.1 C cc;refine⟨a,C,dx,kvs,fa,fd,ps,_,rfl,ha,jO (by rw[ek];exact M.no c hc.1),cl,hm,Fn,hb,?_⟩;refine hfg H₀ H O σ ds hd l _ o h3 fun vs H2 s2 r2=>?_;have o2:=o.mono s2;obtain⟨v',w',f',y1,y2,y3,y4,y5,y6⟩:=o2.modAt g1 g2;rw[g3] at y1;cases y1;cases yR (yI s2 g4) y2;have ow:∀b∈f',O b:=fun b z=>(y3.owns b z).1
         let B:aA->Prop:=fun b=>O b/\b∉f'
         have toO:∀b,orL f' B b->O b:=fun b z=>z.elim (ow b) fun z=>z.1;refine⟨a,_,T',f',B,vs,l,rfl,by rw[r2.length];exact hc.2,y3.less toO (fun b z=>.inl z),y4,fun b z=>⟨z.2,o2.dom b z.1⟩,r2.less toO,h4,fun H' fs2 k1 k2 k3 k4=>?_⟩;have e':putP q0 T' ds=ds.set q0.1 (.ob r (putO T' q0.2.1 T)):=by simp[putP,g1]
         rw[e'] at q;refine q H' (orL fs2 B) (y6 ⟨fun b u nb eb=>k1 b u (fun z=>nb (ow b z)) eb,fun b u _ nb eb=>k1 b u nb eb,fun b z nb=>.inr ⟨z,nb⟩,fun b z=>z.elim (fun z=>(k4 b z).elim (fun y=>.inl (ow b y)) fun y=>.inr ⟨z,y⟩) fun z=>.inl z.1,k4⟩ (fun b z y=>y.elim (fun y=>(k2.owns b y).2) fun y=>(y.2 z).elim) k2 k3)
   . cases h1
 |_=>rw[hu] at h1;cases h1
theorem vS{pl:Sem Bool}(M:LCal X.prog X.w X.K X.mg X.base m k n cs F)(hr:Room j X.A)(ho:PVp X oe f)(ha:PAs X (e::es) g)(hj:k<=j:=by decide)(hst:aF (e::es) X.env=(false,bM e X.env)::aF es X.env:=by rfl)(hpl:(cN pos (aF es X.env)).any (·.1)=false:=by rfl)(ht:bM (.Call (.Attribute oe m apos) (e::es) [] pos) X.env=(do
    let ov <- bM oe X.env
    fP apos.atName
    let (f,first) <- dW [ov] (fM ov m pl)
    iO pos f first (cN pos (aF (e::es) X.env)) (fC pos (dC [] X.env))):=by rfl)(hsw:cV (.Call (.Attribute oe m apos) (e::es) [] pos) none pos'.line X.env=pure false:=by rfl):PSv X (.Expr (.Call (.Attribute oe m apos) (e::es) [] pos) pos') (lentG n cs F f g):=by
 obtain⟨ta,pa,hf⟩:=ho;obtain⟨t,pt,hfg⟩:=ha;refine⟨_,xX (DH (pl:=pl) (k:=k) pa (hr.mono hj) pt hst hpl ht) hsw,fun H₀ H O σ ds hd out E o e h=>?_⟩
 have:∃ds',out=.nx ds':=by
  unfold lentG at e;obtain⟨q0,h2,e⟩:=bnd e;obtain⟨l,h3,e⟩:=bnd e
  split at e
  . split at e
    . rename_i c ts _ _;cases h4:F c (.ins c ts) l with
      |none=>rw[h4] at e;cases e
      |some T'=>rw[h4] at e;cases e;exact⟨_,rfl⟩
    . cases e
  . cases e
 obtain⟨ds',rfl⟩:=this;exact NA M hf hfg o e fun H' O' o'=>h _ _ _ o'
end
section
variable{K:Frag}{H H' H₀ : Hp}{O O':aA->Prop}
theorem Ok.putN{σ : L2.St}{ds:List Sl}{hd:Hold}{i:Nat}{r:Option Nat}{T u u':OT}{p:List Nat}{a:aA}{v:V}(y:MutHO)(o:Ok K H₀ H O σ ds hd)(e:ds[i]?=some (.ob r T))(hs:subO p T=some u)(hv : σ[i]?=some (some v))(hp:PathV H v p (.ref a))(h:∀f,RepO K H O (.ref a) u f->f.Nodup->∃f',O a/\a∈f/\(∀b∈f',b∈f)/\f'.Nodup/\RepO K (upd H a y.1) O (.ref a) u' f'):Ok K H₀ (upd H a y.1) O σ (ds.set i (.ob r (putO u' p T))) hd:=by
 obtain⟨v',w',f,y1,y2,y3,y4,y5,y6⟩:=o.modAt e hs;rw[hv] at y1;cases y1;cases yR hp y2;obtain⟨f',n,h1,h2,h3,h4⟩:=h f y3 y4;refine y6 (f':=f') (.ofUpd n h1 h2) (fun b z _=>?_) h4 h3
 by_cases z':b=a
 . rw[z',zX];exact⟨y,rfl⟩
 . rw[upd_ne z'];exact(y3.owns b z).2
theorem DR{v:V}{d:D}{k:Key}(r:Rep K H O v d)(e:keyD d=some k):v=kV k:=by
 cases d<;>first | (cases e;done) | skip
 . cases e;cases r;rfl
 . cases e;cases r;rfl
theorem BX{v:V}{d:D}{p:List Key×List D}(r:Rep K H O v d)(e:kdD d=some p):∃(a:aA) (kvs:List (Key×V)),v=.ref a/\Rd H a (.dK kvs)/\kvs.map (·.1)=p.1/\Reps K H O (kvs.map (·.2)) p.2:=by
 cases d<;>first | (cases e;done) | skip
 . cases e;cases r with
   |@dct a kvs _ _ n hb ek rs=>exact⟨a,kvs,rfl,.inl hb,ek,rs⟩
 . cases e;cases r with
   |@dcf a o kvs _ _ n hb ek rs=>exact⟨a,kvs,rfl,.inr ⟨o,hb⟩,ek,rs⟩
theorem LN:∀{kvs:List (Key×V)} {l:List D} {k:Key} {d:D},Reps K H O (kvs.map (·.2)) l->getKD k (kvs.map (·.1)) l=some d->∃v,valV kvs k=some v/\Rep K H O v d
 |[],_,_,_,_,e=>by simp[getKD] at e
 |(k',v)::r,[],_,_,h,_=>by cases h
 | (k', v) :: r, d' :: l, k, d, .cons h t, e => by
   simp only[bE,getKD] at e
   by_cases z:k'=k
   . rw[if_pos z] at e;cases e;exact⟨v,vU z,h⟩
   . rw[if_neg z] at e;obtain⟨w,h1,h2⟩:=LN t e;exact⟨w,by simpa[valV,eE,z] using h1,h2⟩
theorem GW:∀(kvs:List (Key×V)) (k:Key),(valV kvs k).isSome=hasK k (kvs.map (·.1))
 |[],k=>rfl
 | (k', v) :: r, k => by
   by_cases z:k'=k
   . simp[valV,eE,z,hasK]
   . have := GW r k;simp only[valV,hasK] at this ⊢;rw[List.find?_cons_of_neg (by simpa using z),this];simp[z]
theorem HM{kvs:List (Key×V)}{k:Key}{v:V}(h:hasK k (kvs.map (·.1))=true):putK kvs k v=kvs.map (fun kv=>if kv.1=k then (kv.1,v) else kv):=by
 unfold putK;rw[if_pos];rw[hasK,List.any_map] at h;exact h
theorem putK_new{kvs:List (Key×V)}{k:Key}{v:V}(h : ¬hasK k (kvs.map (·.1))=true):putK kvs k v=kvs++[(k,v)]:=by
 unfold putK;rw[if_neg];rw[hasK,List.any_map] at h;exact h
theorem UR(kvs:List (Key×V))(k:Key)(v:V):(kvs.map (fun kv=>if kv.1=k then (kv.1,v) else kv)).map (·.1)=kvs.map (·.1):=by
 rw[gB];refine sH fun kv _=>?_;simp only[Function.comp]
 split<;>rfl
theorem RepsO.putTs{k:Key}{v:V}{d:D}(r:Rep K H O v d):∀{kvs:List (Key×V)} {ts:List OT} {fs:List aA},RepsO K H O (kvs.map (·.2)) ts fs->∃fs':List aA,fs'.Sublist fs/\RepsO K H O ((kvs.map (fun kv=>if kv.1=k then (kv.1,v) else kv)).map (·.2)) (FL.putTs k (.val d) (kvs.map (·.1)) ts) fs'
 |[],_,_,.nil=>⟨[],.slnil,.nil⟩
 | (k', w) :: kvs, _, _, .cons (t := t) (ts := ts) (fs := fs) (gs := gs) h q => by
   obtain⟨gs',h1,h2⟩:=RepsO.putTs r q
   by_cases z:k'=k
   . refine⟨gs', h1.trans (List.sublist_append_right _ _), ?_⟩;simp only[bE,z,if_true,FL.putTs];exact .cons (fs:=[]) (.val r) h2
   . refine⟨fs ++ gs', h1.append_left _, ?_⟩;simp only[bE,z,if_false,FL.putTs];exact .cons h h2
end
section
variable{X:Cx}{i:Nat}
theorem LW{pos:Pos}: PVo X (.Dict [] [] pos) dO0:=by
 refine⟨_,ML,fun H₀ H O σ ds hd T Q o e q=>fun p hp=>?_⟩;cases e;exact q _ _ [p] (qH hp _) (.dct (kvs:=[]) (.inl (.head _)) zX rfl .nil) (by simp) fun b hb=>by rw[aQ.mp hb];exact hp
theorem vW{oe ke e:Expr}{pos pos':Pos}{f:FP}{fk fv:FE}{j:Nat}(hr:Room j X.A)(ho:PVp X oe f)(hk:PV X ke fk)(he:PV X e fv)(hs:cV e (some (.Subscript oe ke pos')) pos.line X.env=pure false:=by rfl) :
  PSv X (.Assign [.Subscript oe ke pos'] e pos) (dputG f fk fv):=by
 obtain⟨tp,hp,hf⟩:=ho;obtain⟨tk,pk,hk⟩:=hk;obtain⟨te,pe,he⟩:=he;refine⟨_,ps_dput (dU (by omega) (hu100 hr)) hp pk pe hs,fun H₀ H O σ ds hd out E o e h=>?_⟩;unfold dputG at e;obtain⟨d,h1,e⟩:=bnd e;obtain⟨q,h2,e⟩:=bnd e;obtain⟨y,h3,e⟩:=bnd e;obtain⟨k,h4,e⟩:=bnd e;refine he H₀ H O σ ds hd d _ o h1 fun v H1 s1 r1=>?_;refine hf H₀ H1 O σ ds hd q _ (o.mono s1) h2 fun r T v0 w fs g1 g2 g3 g4 g5=>?_;refine hk H₀ H1 O σ ds hd y _ (o.mono s1) h3 fun yv H2 s2 r2=>?_;have o2:=(o.mono s1).mono s2;cases hq:q.2.2 with
 | dct ks ts =>
   rw[hq] at e g2 g5;simp only at e
   split at e
   . rename_i hl;cases e;cases g5 with
     | @dct a kvs _ _ fs' n hb ek rs =>
       have hb2:=s2 _ _ hb;cases DR r2 h4;have ln:kvs.length<sizeLine:=by rw[<- ek] at hl;simpa using hl
       refine⟨a,_,rfl,DPut.k hb2 ln,?_⟩;have e':putP q (putKT k (.val d) ks ts) ds=ds.set q.1 (.ob r (putO (putKT k (.val d) ks ts) q.2.1 T)):=by simp[putP,g1]
       rw[e'] at h;refine h _ _ _ (Ok.putN ⟨.dK (putK kvs k v),rfl⟩ o2 g1 g2 g3 (yI s2 g4) fun f2 k1 k2=>?_);cases k1 with
       | @dct _ kvs2 _ _ fs2 n2 hb3 ek2 rs2 =>
         rw[hb2] at hb3;cases hb3;obtain⟨n3,n4⟩:=bT.mp k2;have c:Chg H2 (upd H2 a (.dK (putK kvs k v))) O O [a] [a]:=.ofUpd n (.head _) fun _ z=>z;have rs3:=c.repsO rs2 fun b z y=>n3 (aQ.mp y▸z);have rv:=c.rep (r1.mono s2);unfold putKT
         by_cases hm:hasK k ks=true
         . rw [if_pos hm];have hm':hasK k (kvs.map (·.1))=true:=by rw [ek]; exact hm
           obtain⟨fs3,w1,w2⟩:=RepsO.putTs (k:=k) rv rs3;refine⟨a::fs3,n,.head _,fun b z=>(aE.mp z).elim (fun z=>by rw[z];exact .head _) fun z=>.tail _ (w1.subset z),bT.mpr ⟨fun z=>n3 (w1.subset z),w1.nodup n4⟩,?_⟩;refine .dct n zX ?_ ?_
           . rw[HM hm',UR,ek]
           . have z := congrArg (List.map (·.2)) (HM (v := v) hm');rw[ek] at w2;rw[<- z] at w2;exact w2
         . rw [if_neg hm];have hm' : ¬ hasK k (kvs.map (·.1))=true:=by rw [ek]; exact hm
           refine⟨a::fs2,n,.head _,fun b z=>z,k2,?_⟩;refine .dct n zX ?_ ?_
           . rw[putK_new hm'];simp[ek]
           . have z : (putK kvs k v).map (·.2) = kvs.map (·.2) ++ [v] := by rw [putK_new hm']; simp
             rw[z];exact rs3.snoc rv
   . cases e
 |_=>rw[hq] at e;cases e
theorem BP{oe ke:Expr}{pos:Pos}{fd fk:FE}{j:Nat}(hr:Room j X.A)(ho:PV X oe fd)(hk:PV X ke fk)(hs:NoSl ke:=by exact fun _ _=>rfl):PV X (.Subscript oe ke pos) (dgetG fd fk):=by
 obtain⟨td,pd,hd'⟩:=ho;obtain⟨tk,pk,hk⟩:=hk;refine⟨_,pe_dget (dU (by omega) (hu100 hr)) pd pk hs,fun H₀ H O σ ds hd d Q o e q=>?_⟩;unfold dgetG at e;obtain⟨x,h1,e⟩:=bnd e;obtain⟨y,h3,e⟩:=bnd e;obtain⟨k,h4,e⟩:=bnd e;refine hd' H₀ H O σ ds hd x _ o h1 fun v H1 s1 r1=>?_;refine hk H₀ H1 O σ ds hd y _ (o.mono s1) h3 fun yv H2 s2 r2=>?_;obtain⟨p,h6,e⟩:=bnd e;obtain⟨a,kvs,rfl,hb,ek,rs⟩:=BX (r1.mono s2) h6;cases DR r2 h4;rw[<- ek] at e;obtain⟨w,h5,h6⟩:=LN rs e;exact⟨a,w,rfl,.inl ⟨kvs,k,hb,rfl,h5.symm⟩,q w H2 (s1.trans s2) h6⟩
theorem ZV{oe ke:Expr}{pos:Pos}{fd fk:FE}{j:Nat}(hr:Room j X.A)(hk:PVn X ke fk)(ho:PVn X oe fd)(hm:dQ .NotIn oe=false:=by rfl):PTv X (.Compare ke [.NotIn] [oe] pos) (dnotG fk fd):=by
 obtain⟨td,pd,hd'⟩:=ho;obtain⟨tk,pk,hk⟩:=hk;refine⟨_,pt_cmp (UW (dU (by omega) (hu100 hr)) pk pd) hm,fun H₀ H O σ ds hd b Q o e q=>?_⟩;unfold dnotG dinG at e;cases h3:fk ds with
 |none=>rw[h3] at e;cases e
 | some y =>
   rw[h3] at e;simp only[aO] at e;cases h4:keyD y with
   |none=>rw[h4] at e;cases e
   | some k =>
     rw[h4] at e;simp only[aO] at e;cases h1:fd ds with
     |none=>rw[h1] at e;cases e
     | some x =>
       rw[h1] at e;simp only[aO] at e;refine hk H₀ H O σ ds hd y _ o h3 fun yv H1 s1 r1=>?_;refine hd' H₀ H1 O σ ds hd x _ (o.mono s1) h1 fun v H2 s2 r2=>?_;cases h6:kdD x with
       |none=>rw[h6] at e;cases e
       | some p =>
         rw[h6] at e;cases e;obtain⟨a,kvs,rfl,hb,ek,rs⟩:=BX r2 h6;cases DR r1 h4;refine⟨a,_,rfl,.inl ⟨kvs,k,hb,rfl,rfl⟩,_,rfl,?_⟩;rw[GW,ek];exact q H2 (s1.trans s2)
theorem WU:CallR X (.type "dict") (fun xs H Q=>∃a kvs,xs=[V.ref a]/\Rd H a (.dK kvs)/\∀p,H p=none->Q (.ref p) (upd H p (.dK kvs))):=by
 intro aB s σ H xs us Q I r h;obtain⟨a,kvs,rfl,ha,q⟩:=h;obtain⟨u,rfl,ru⟩:=vals1 r;cases ru;exact aCj I ha fun p s' hp I'=>⟨.ref p,_,I',rfl,q p hp⟩
theorem HJ{e:Expr}{f:FE}{p pos:Pos}(hm:X.mg "dict" = none)(he:PV X e f)(hg:Gl X "dict":=by rfl)(hs:aF [e] X.env=[(false,bM e X.env)]:=by rfl):PVo X (.Call (.Name "dict" p) [e] [] pos) (uT f):=by
 obtain⟨te,pe,he⟩:=he;refine⟨_,HS WU hg hm (by decide +kernel) (jN pe yK hs) (by decide) (by decide) hs rfl,fun H₀ H O σ ds hd T Q o e q=>?_⟩;unfold uT at e;obtain⟨x,h1,e⟩:=bnd e;refine he H₀ H O σ ds hd x _ o h1 fun v H1 s1 r1=>?_;obtain⟨p,h6,rfl⟩:=mpd e;obtain⟨a,kvs,rfl,hb,ek,rs⟩:=BX r1 h6;refine⟨a,kvs,rfl,hb,fun c hc=>?_⟩;refine q _ _ [c] (s1.trans (qH hc _)) (.dct (.inl (.head _)) zX ek (CV ?_)) (by simp) fun b hb=>by rw[aQ.mp hb];exact s1.free hc
 exact((rs.moreL (ps:=[c]) fun p hp=>by rw[aQ.mp hp];exact hc).mono (qH hc _))
end
end FL
namespace L2
open PySem PySem.Spec PyProof.Rows
section
variable{X:Cx}
theorem Inv.freezeD{aB:List (aA×Obj)}{σ : L2.St}{H:Hp}{s:aC}{a:aA}{kvs:List (Key×V)}(I:Inv X aB σ H s)(e:H a=some (.dK kvs)):∃o,Inv X aB σ (upd H a (.frz o (.dK kvs))) s:=by
 obtain⟨z,hd,vs,rel,dd⟩:=dk_of I.hok e;obtain⟨o,es,ep,ho,r⟩:=id dd;exact⟨o,KZ (h':=s.heap) (t':=s.toks) (ob:=.frz o (.dK kvs)) I (by rw[e];trivial) ⟨rfl,fun _ _=>rfl⟩ ⟨o,ho⟩ ⟨ho,z,hd,vs,rel,dd⟩⟩
def sFrz(i:Nat)(t:TS):TS:=fun D σ H=>∃a kvs,σ[i]?=some (some (.ref a))/\H a=some (.dK kvs)/\∀o,t D σ (upd H a (.frz o (.dK kvs)))
theorem aAf{st:Stmt}{t:TS}{i:Nat}(h:PS X st t):PS X st (sFrz i t):=by
 intro aB s σ H D I ⟨a,kvs,h1,h2,h3⟩;obtain⟨o,I'⟩:=I.freezeD h2;exact h aB s σ _ D I' (h3 o)
end
noncomputable def Itd(d:aA)(o:Obj)(kvs:List (Key×V)):It :=
 ⟨fun i H => H d = some (.frz o (.dK kvs)) /\ i < kvs.length,
  fun i H v H'=>∃T k x,kvs[i]?=some (k,x)/\v=.ref T/\H T=none/\H'=upd H T (.tup [kV k,x]),
  fun i H=>H d=some (.frz o (.dK kvs))/\kvs.length<=i⟩
theorem lW:entryFor table "dict_itemiterator.__iter__" = some Builtin.«dict_keyiterator.__iter__» :=
 entryFor_alias (id':="dict_keyiterator.__iter__") (by kernel_rfl) rfl (by decide +kernel) (by kernel_rfl)
theorem oZ{prog:aZ}{w:bK}{A:bO}{E:Value->aC->Prop}{s:aC}{it d:aA}{i n ep:Nat}{ok ov:Value}{Q:Value->aC->Prop}(hit:IsItemIter s.heap it d i n ep ok ov)(h:Q (.ref it) s):bD (bH prog w) A (pyIter (.ref it)) Q E s:=by
 have hT:s.TypeIs (.ref it) "dict_itemiterator":=⟨_,hit,rfl⟩
 refine wpAny_pyIter_slot hT rH (wpAny_call_entry rH hT lW ?_ (PySem.F.args_dict_itemiterator_iter_1 _));show bD _ _ (ret (.ref it)) _ _ s;exact cF ⟨_,rfl,"dict_itemiterator",_,hT,PySem.F.slot_dict_itemiterator_next.lookup,h⟩
theorem xO{X:Cx}{aB:List (aA×Obj)}{σ : L2.St}{H:Hp}{s:aC}{d:aA}{o:Obj}{kvs:List (Key×V)}{es:Array DictEntry}{ep:Nat}(I:Inv X aB σ H s)(hd:H d=some (.frz o (.dK kvs)))(dat:o.data=.dict es ep):∃vs,KV kvs vs/\s.heap.DictAt (eM X.prog X.w) d vs ep:=by
 obtain⟨ho,z,hds,vs,rel,o',es',ep',e1,ex,dat',r⟩:=I.hok d _ hd;rw[ho] at e1;cases e1;rw[dat] at dat';cases dat';exact⟨vs,rel,o,es,ho,ex,dat,r⟩
theorem KV.get{κ : Type}{kvs:List (κ×V)}{vs:List (κ×Value)}{i:Nat}{k : κ}{x:V}(h:KV kvs vs)(e:kvs[i]?=some (k,x)):∃u,vs[i]?=some (k,u)/\RelV x u:=by
 unfold KV at h
 induction h generalizing i with
 |nil=>simp at e
 | @cons p q _ _ h _ ih =>
   cases i with
   | zero =>
     simp only[cD,Option.some.injEq] at e;subst e;exact⟨q.2,by simp only[cD];rw[show q=(k,q.2) from Prod.ext h.1.symm rfl],h.2⟩
   | succ i =>
     simp only[cE] at e ⊢;exact ih e
theorem LP{P:aZ}{w:bK}{K:aJ}{es:List Expr}{x1}{pos:Pos}(it d:aA)(o:Obj)(kvs:List (Key×V)){en:Array DictEntry}{ep:Nat}(dat:o.data=.dict en ep) :
  Turn P w K (.Tuple es x1 pos) (Itd d o kvs) [it] it (fun i h=>∃ok ov,IsItemIter h it d i kvs.length ep ok ov) where
 mem:=by simp
 obj:=fun i h st b hb=>by
  obtain⟨ok,ov,he⟩:=st;rw[aQ.mp hb];exact⟨_,he,fun v z=>by have z':Data.fields _=Data.cell v:=z;cases z'⟩
 keep:=fun i h h' st k=>by
  obtain⟨ok,ov,he⟩:=st;exact⟨ok,ov,k it (by simp) _ he⟩
 item:=by
  intro X hP hw hK hc i aB s σ H E I hf st hg;subst hP hw hK;obtain⟨hd,hi⟩:=hg;obtain⟨ok,ov,he⟩:=st;obtain⟨vs,rel,hat⟩:=xO I hd dat;have hl:=rel.length;obtain⟨k,x,hx⟩:∃k x,kvs[i]?=some (k,x):=⟨kvs[i].1,kvs[i].2,bJ hi⟩
  obtain⟨u,hu,ru⟩:=rel.get hx;rw[hl] at he;refine wpAny_pyNext_items_item he hat hu fun key h' hkey a1 a2 a3 hk=>?_;refine⟨_,rfl,wpAny_letOwnedTupleGo_items a1 fun h2' b1 bs=>?_⟩
  have rk:RelV (kV k) key:=by
   rcases qX hkey with⟨j,t,rfl,rfl⟩ | ⟨y,t,rfl,rfl⟩
   . exact⟨t,rfl⟩
   . exact⟨t,rfl⟩
  have hT:∀b∈[it],b≠s.heap.objs.size:=fun b hb z=>by
   rw[aQ.mp hb] at z;exact bN (bC he) z
  have fr:H s.heap.objs.size=none:=I.hok.fresh (aR _)
  have I1:Inv X aB σ (upd H s.heap.objs.size (.tup [kV k,x])) { s with heap:=s.heap.push { cls:=.type "tuple",data:=.seq #[key,u] },toks:=s.toks }:=by
   refine I.laid (t':=s.toks) (fun b u q=>aI _ q) (aR _) ?_;exact⟨by simp[sizeLine],[key,u],.cons rk (.cons ru .nil),⟨_,aW _ rfl,rfl,_,rfl⟩⟩
  have nz:s.heap.objs.size≠it:=fun z=>hT it (by simp) z.symm
  have I2:Inv X aB σ (upd H s.heap.objs.size (.tup [kV k,x])) { s with heap:=h2',toks:=s.toks }:=by
   refine Inv.turnedS (s:={ s with heap:=s.heap.push { cls:=.type "tuple",data:=.seq #[key,u] },toks:=s.toks }) I1 (h':=h2') (t':=s.toks) (ch:=[it]) (fun b o hb q=>?_) (fun b hb=>?_)
   . simp only [aE, oM, or_false] at hb
     by_cases hbT:b=s.heap.objs.size
     . subst hbT;have q':(s.heap.push { cls:=.type "tuple",data:=.seq #[key,u] }).get? s.heap.objs.size=some o:=q;rw[aW _ rfl] at q';cases q';exact bs.extBut _ _ nz a2
     . have q' : (s.heap.push { cls := .type "tuple", data := .seq #[key, u] }).get? b = some o := q
       have q2:s.heap.get? b=some o:=by
        rwa [XH _ _ _ hbT] at q'
       exact bs.extBut _ _ hb (hk b o hb q2)
   . obtain⟨f0, fr'⟩ := hf b hb;exact⟨by rw[upd_ne (hT b hb)];exact f0,fr'⟩
  refine⟨.ref s.heap.objs.size,_,I2,rfl,⟨_,k,x,hx,rfl,fr,rfl⟩,⟨key,u,by rw[hl];exact b1⟩,fun b hb=>?_⟩;rw[upd_ne (hT b hb)];exact(hf b hb).1
 done:=by
  intro X hP hw hK hc i aB s σ H E I hf st hg;subst hP hw hK;obtain⟨hd,hi⟩:=hg;obtain⟨ok,ov,he⟩:=st;obtain⟨vs,rel,hat⟩:=xO I hd dat;have hl:=rel.length;rw[hl] at he;refine wpAny_pyNext_items_end (I.ok.hd hc) he hat (bV (by omega)) fun h' hk=>⟨rfl,?_⟩
  refine I.turnedS (t':=s.toks) (ch:=[it]) (fun b o hb q=>?_) hf;simp only[aE,oM,or_false] at hb;exact hk b o hb q
 self:=fun _ _ _ _ _ st h=>by
  obtain⟨ok,ov,he⟩:=st;exact oZ he h
section
variable{X:Cx}
def iDI(to:TE):TI:=fun σ H R=>to σ H fun x H1=>∃d o kvs,x=.ref d/\H1 d=some (.frz o (.dK kvs))/\R (Itd d o kvs) H1
theorem UV{es:List Expr}{x1}{tp:Pos}{oe:Expr}{to:TE}{apos pos:Pos}(ho:PE X oe to)(hbase:cW oe "items" X.env (bM oe X.env)=bM oe X.env:=by rfl)(hline:(apos.endLine==pos.line)=true:=by rfl) :
  PI X (.Tuple es x1 tp) (.Call (.Attribute oe "items" apos) [] [] pos) (iDI to):=by
 intro aB s σ H R I h;refine rE hbase hline (thn (ho aB s σ H _ I h) fun v s1 zq=>?_);obtain⟨x,H1,I1,r1,d,o,kvs,ex,hd,q⟩:=zq;subst ex;obtain rfl:v=Value.ref d:=r1;obtain⟨hob,z,hds,vs,rel,dd⟩:=I1.hok d _ hd;obtain⟨o',en,ep,e1,exd,dat,r⟩:=id dd;rw[hob] at e1;cases e1;have hat:s1.heap.DictAt (eM X.prog X.w) d vs ep:=⟨o,en,hob,exd,dat,r⟩
 refine⟨"dict","dict.items",EX,EW,PySem.F.type_dict_items,⟨o,hob,exd.1⟩,fun a e2=>?_,Calls.callWith_builtin rfl (rM (call_meetsIn EW dd.typeIs PySem.F.entry_dict_items (PySem.F.args_dict_items_1 _) (meets_dict_items (eM X.prog X.w) d hds) ⟨⟨vs,dd⟩,?_⟩))⟩
 . cases e2;exact⟨o,hob,exd.2.1⟩
 . refine wpAny_pyIter_items (v := s1.heap.objs.size) ⟨_, aW _ rfl, rfl, rfl⟩ (hat.push _) ?_;have I2:Inv X aB σ H1 { s1 with heap:=s1.heap.push { cls:=.type "dict_items",data:=.fields #[.ref d] } }:=I1.kept (t':=s1.toks) fun b o e=>aI _ e;refine ⟨_,[_],_,_,H1,rfl,I2.kept (t':=s1.toks) fun b o e=>aI _ e,LP _ d o kvs dat,⟨.none,.none,?_⟩,fun c hc=>?_,q⟩
   . rw[rel.length];exact aW _ rfl
   . rw[aQ.mp hc];exact I2.fpOk (aR _) (I2.hok.fresh (aR _))
end
end L2
namespace FL
open PySem PySem.Spec PyProof.Rows L2
section
variable{K:Frag}{H H' H₀ : Hp}{O O':aA->Prop}
theorem wX:∀{ts:List OT} {l:List D},valsO ts=some l->ts=l.map OT.val
 |[],_,e=>by cases e;rfl
 | .val d :: r, l, e => by
   unfold valsO at e;cases h:valsO r with
   |none=>rw[h] at e;cases e
   |some m=>rw[h] at e;cases e;rw[wX h];rfl
 | .lst _::_,_,e=>by cases e
 | .tup _::_,_,e=>by cases e
 | .dct _ _::_,_,e=>by cases e
 | .ins _ _::_,_,e=>by cases e
theorem RepsO.ofVals:∀{l:List D} {xs:List V} {fs:List aA},RepsO K H O xs (l.map OT.val) fs->fs=[]/\Reps K H O xs l
 |[],_,_,.nil=>⟨rfl,.nil⟩
 | d :: l, _, _, .cons (.val r) t => by
   obtain⟨rfl,rs⟩:=RepsO.ofVals t;exact⟨rfl,.cons r rs⟩
theorem Ok.frzD{σ : L2.St}{ds:List Sl}{hd:Hold}{i:Nat}{r:Option Nat}{ks:List Key}{l:List D}(o:Ok K H₀ H O σ ds hd)(e:ds[i]?=some (.ob r (.dct ks (l.map OT.val)))) :
  ∃a kvs,σ[i]?=some (some (.ref a))/\H a=some (.dK kvs)/\∀ob,∃O',Ok K H₀ (upd H a (.frz ob (.dK kvs))) O' σ (ds.set i (.v (.dcf ks l))) hd:=by
 obtain⟨F,hF⟩:=o.obs;obtain⟨v,h1,h2,h3,h4,h5⟩:=hF i r _ e;have hl:i<ds.length:=(aT.mp e).1;generalize hfi:F i=fi at h2 h4 h5;cases h2 with
 | @dct a kvs _ _ fs n hb ek rs =>
   obtain⟨rfl,rv⟩:=rs.ofVals;refine⟨a,kvs,h1,hb,fun ob=>?_⟩
   let O':aA->Prop:=fun b=>O b/\b≠a
   have sub:∀b,O' b->O b:=fun b hb=>hb.1;have h0:H₀ a=none:=(h5 a (.head _)).1
   have kp:Keep O H (upd H a (.frz ob (.dK kvs))):=fun b u nb eb=>by
    have z:b≠a:=fun z=>nb (by rw[z];exact n);rw[L2.upd_ne z];exact eb
   have ne:∀{b:aA} {u:HO},b≠a->H b=some u->upd H a (.frz ob (.dK kvs)) b=some u:=fun z eb=>by rw[L2.upd_ne z];exact eb
   have own':∀{j:Nat},IsOwn (ds.set i (.v (.dcf ks l))) j->IsOwn ds j/\j≠i:=fun h=>wW (fun l=>by intro z;cases z) h;have nown:∀{j:Nat} {b:aA},IsOwn ds j->σ[j]?=some (some (.ref b))->b≠a:=fun {j b} oj ej z=>(h5 a (.head _)).2.2 j oj (by rw[<- z];exact ej);refine⟨O',fun b u eb=>ne (fun z=>by rw[z,h0] at eb;cases eb) (o.same b u eb),fun j l' b e1 e2=>?_,fun b hb=>?_,by simpa using o.len,fun j s es=>?_,fun j m b hjm hj hm e1 e2=>o.apart j m b hjm (own' hj).1 (own' hm).1 e1 e2,fun p hp=>?_,?_⟩
   . obtain⟨⟨l2, e2'⟩, _⟩ := own' ⟨l', e1⟩;exact o.fresh j l2 b e2' e2
   . obtain⟨u, eu⟩ := o.dom b hb.1;exact⟨u,ne hb.2 eu⟩
   . by_cases hj : j = i
     . subst hj;rw[aS hl] at es;cases es;rw[h1];exact yE (.dcf (fun z=>z.2 rfl) zX ek ((rv.keep kp).less sub))
     . rw [aD (Ne.symm hj)] at es;cases s with
       |no=>exact jF
       |ob r t=>exact yM
       | exc t =>
         obtain⟨a',C',ob',u',q1,q2,q3,q4⟩:=o.readX es;rw[q1];exact⟨C',ob',u',q2,ne (fun z=>by rw[z,hb] at q3;cases q3) q3,q4⟩
       | fr l' =>
         obtain⟨a',xs',q1,q2,q0,q3,q4⟩:=o.readF es;rw[q1];exact⟨fun z=>q2 (sub _ z),q0,xs',kp _ _ q2 q3,(q4.keep kp).less sub⟩
       | v d =>
         obtain⟨v,q1,q2⟩:=o.read es;rw[q1];exact yE ((q2.keep kp).less sub)
       | own l' =>
         obtain⟨b,ys,q1,q2,q3,q4⟩:=o.readO es;rw[q1];have z:=nown ⟨l',es⟩ q1;exact⟨⟨q2,z⟩,ys,ne z q3,(q4.keep kp).less sub⟩
   . have := o.hold p hp;cases p with
     |rep v d=>exact(Rep.keep kp this).less sub
     |base B=>exact fun b hb=>⟨⟨(this b hb).1,fun z=>(this b hb).2 (by rw[z];exact h0)⟩,(this b hb).2⟩
     |root k a=>exact True.intro
     |fz a' o' kvs' l'=>exact⟨fun z=>this.1 (sub _ z),kp _ _ this.1 this.2.1,(Reps.keep kp this.2.2).less sub⟩
   . refine⟨F, fun j r' t' ej => ?_⟩;obtain⟨ej,hj⟩:=vH (fun r t=>by intro z;cases z) ej;obtain⟨w,g1,g2,g3,g4,g5⟩:=hF j r' t' ej;have na:a∉F j:=fun z=>(h5 a (.head _)).2.1 j r' t' hj ej z;refine⟨w,g1,(g2.keep kp fun b hb u eb=>ne (fun z=>na (by rw[<- z];exact hb)) eb).less sub fun b hb=>⟨(g2.owns b hb).1,fun z=>na (by rw[<- z];exact hb)⟩,g3,g4,fun b hb=>⟨(g5 b hb).1,fun m r2 t2 hm em=>(g5 b hb).2.1 m r2 t2 hm (vH (fun r t=>by intro z;cases z) em).1,fun m om em=>(g5 b hb).2.2 m (own' om).1 em⟩⟩
end
section
variable{X:Cx}
theorem MG{i:Nat}{st:Stmt}{g:FS}(h:PSv X st g):PSv X st (frzDG i g):=by
 obtain⟨t,ht,hg⟩:=h;refine⟨_,aAf (i:=i) ht,fun H₀ H O σ ds hd out E o e h=>?_⟩;unfold frzDG at e;cases hs:ds[i]? with
 |none=>rw[hs] at e;cases e
 | some s =>
   rw[hs] at e;cases s with
   | ob r T =>
     cases T with
     | dct ks ts =>
       simp only at e;obtain⟨l,hv,e⟩:=bnd e;rw[wX hv] at hs;obtain⟨a,kvs,h1,h2,h3⟩:=o.frzD hs;refine⟨a,kvs,h1,h2,fun ob=>?_⟩;obtain⟨O',o'⟩:=h3 ob;exact hg H₀ _ O' σ _ hd out E o' e h
     |_=>cases e
   |_=>cases e
def WlkD(K:Frag)(J:It)(h:HI)(items:List D):Prop:=∀H₀ H O,(∀a,O a->∃u:MutHO,H a=some u.1)->HOk K H₀ H O h →
 (∀i d,items[i]?=some d->J.go i H/\∀x H',J.yld i H x H'->Same H H'/\Rep K H' O x d)/\J.stop items.length H
variable(X) in
def PId(tg iter:Expr)(fi:FA):Prop:=∃wi,PI X tg iter wi/\∀H₀ H O σ ds hd items R,Ok X.K H₀ H O σ ds hd->fi ds=some items →
 (∀J p H',Same H H'->HOk X.K H₀ H' O p->(∀k a,HI.root k a≠p)->(∀B,HI.base B≠p)->WlkD X.K J p items->R J H')->wi σ H R
theorem kV_rep{K:Frag}{H:Hp}{O:aA->Prop}:∀k:Key,Rep K H O (kV k) (keyDD k)
 | .inl i=>.int i
 | .inr x=>.str x
theorem OK{K:Frag}{d:aA}{o:Obj}{kvs:List (Key×V)}{l:List D}: WlkD K (Itd d o kvs) (.fz d o kvs l) (gL (kvs.map (·.1)) l):=by
 intro H₀ H O dom ⟨n,hd,rs⟩;have hl:l.length=kvs.length:=by rw[<- rs.length];simp
 have hi:(gL (kvs.map (·.1)) l).length=kvs.length:=by simp[gL,hl]
 refine⟨fun i x hx=>?_,⟨hd,by rw[hi];exact aR _⟩⟩;have lt:i<kvs.length:=by rw[<- hi];exact(aT.mp hx).1
 refine⟨⟨hd,lt⟩,fun v H' zq=>?_⟩;obtain⟨T,k,y,hk,e1,hT,e2⟩:=zq;subst e1 e2;have h1:(kvs.map (·.1))[i]?=some k:=by rw[aX,hk];rfl
 have h2:(kvs.map (·.2))[i]?=some y:=by rw[aX,hk];rfl
 have h3:l[i]?=some l[i]:=bJ (by omega);obtain⟨y',h4,h5⟩:=rs.get h3;rw[h2] at h4;cases h4
 have:x=.tup [keyDD k,l[i]]:=by
  have q:((kvs.map (·.1)).zip l)[i]?=some (k,l[i]):=List.getElem?_zip_eq_some.mpr ⟨h1,h3⟩;simp only[gL,aX,q,cZ,Option.some.injEq] at hx;exact hx.symm
 subst this;have sm:Same H (upd H T (.tup [kV k,y])):=qH hT _;refine⟨sm,.tup (fun z=>?_) (.inl zX) (.cons (kV_rep k) (.cons (h5.mono sm) .nil))⟩;obtain⟨u,eu⟩:=dom T z;rw[hT] at eu;cases eu
theorem HR{es:List Expr}{x1}{tp:Pos}{oe:Expr}{f:FE}{apos pos:Pos}(h:PV X oe f)(hbase:cW oe "items" X.env (bM oe X.env)=bM oe X.env:=by rfl)(hline:(apos.endLine==pos.line)=true:=by rfl) :
  PId X (.Tuple es x1 tp) (.Call (.Attribute oe "items" apos) [] [] pos) (oQ f):=by
 obtain⟨t,ht,hf⟩:=h;refine⟨_,UV ht hbase hline,fun H₀ H O σ ds hd items R o e q=>?_⟩;unfold oQ at e;obtain⟨x,h1,e⟩:=bnd e;refine hf H₀ H O σ ds hd x _ o h1 fun v H1 s1 r1=>?_;cases x<;>first | (cases e;done) | skip
 cases e;cases r1 with
 | @dcf a ob kvs _ _ n hb ek rs =>
   refine⟨a,ob,kvs,rfl,hb,?_⟩;rw[<- ek] at q;exact q _ (.fz a ob kvs _) H1 s1 ⟨n,hb,rs⟩ (fun _ _ z=>by cases z) (fun _ z=>by cases z) OK
theorem MH{tg iter:Expr}{body:List Stmt}{pos:Pos}{fi:FA}{ga:D->List Sl->Option (List Sl)}{g:FS}(hp:PassesOwn (bH X.prog X.w) X.A X.env X.xe)(hc:X.calm=true)(hi:PId X tg iter fi)(hg:PGv X tg ga)(hb:PSsv X body g)(hs:∀x,dR iter X.env x=pure x:=by intro _;rfl):PSv X (.For tg iter body [] pos) (forG fi ga g):=by
 obtain⟨wi,pi,hi⟩:=hi;obtain⟨tg',pg,hg⟩:=hg;obtain⟨tb,pb,hb⟩:=hb;refine⟨_,aAg hp hc pi pg pb hs,fun H₀ H O σ ds hd out E o e h=>?_⟩;unfold forG at e;obtain⟨items,h1,e⟩:=bnd e;refine hi H₀ H O σ ds hd items _ o h1 fun J p H' s r nr nb wk=>?_;refine⟨fun i m σ' H'=>i<=items.length/\m=items.length-i/\∃O' ds',Ok X.K H₀ H' O' σ' ds' (p::hd)/\jM ga g (items.drop i) ds'=some out,⟨items.length,dA _,rfl,O,ds,(o.mono s).holdMore (p:=p) r nr,by simpa using e⟩,?_⟩;rintro i m σ1 H1 ⟨hi1,rfl,O1,ds1,o1,e1⟩;obtain⟨go,stop⟩:=wk H₀ H1 O1 o1.dom (o1.hold p aV)
 by_cases hlt:i<items.length
 . right;have hd0:items[i]? = some items[i]:=bJ hlt;obtain ⟨hgo,hy⟩:=go i _ hd0;rw [dD hlt,jM] at e1;refine ⟨hgo,fun σ' H'=>i+1<=items.length/\∃ O' ds',Ok X.K H₀ H' O' σ' ds' (p::hd)/\jM ga g (items.drop (i+1)) ds'=some out,fun σ' H' ⟨q1,q2⟩=>⟨items.length - (i+1),by omega,q1,rfl,q2⟩,fun x H2 y=>?_⟩;obtain ⟨s2,r2⟩:=hy x H2 y;obtain ⟨ds2,h2,e1⟩:=bnd e1;obtain ⟨o3,h3,e1⟩:=bnd e1;refine hg H₀ H2 O1 σ1 ds1 (p::hd) x _ ds2 _ (o1.mono s2) r2 h2 fun σ' o'=>?_;refine hb H₀ H2 O1 σ' ds2 (p::hd) o3 _ o' h3 ?_;cases o3 with
   |nx ds3=>exact fun σ3 H3 O3 ok3=>⟨hlt,O3,ds3,ok3,e1⟩
   |ct ds3=>exact fun σ3 H3 O3 ok3=>⟨hlt,O3,ds3,ok3,e1⟩
   |bk ds3=>cases e1;exact fun σ3 H3 O3 ok3=>h σ3 H3 O3 ok3.holdLess
   |rt rr=>cases e1;exact fun v H s r b=>h v H s r (HD b)
 . left;have ei:i=items.length:=by omega
   subst ei;rw[oN,jM] at e1;cases e1;exact⟨stop,h σ1 H1 O1 o1.holdLess⟩
end
section
variable{K:Frag}{H H' H₀ : Hp}{O O':aA->Prop}
theorem RepsO.snocO:∀{xs:List V} {ts:List OT} {fs:List aA} {v:V} {T:OT} {f:List aA},RepsO K H O xs ts fs->RepO K H O v T f->RepsO K H O (xs++[v]) (ts++[T]) (fs++f)
 | _, _, _, _, _, f, .nil, r => by
   have:=RepsO.cons (gs:=[]) r .nil;simpa using this
 | _, _, _, _, _, _, .cons (fs := fs) (gs := gs) h t, r => by
   rw[fG];exact .cons h (RepsO.snocO t r)
end
section
variable{X:Cx}
theorem xK{oe e:Expr}{n:Str}{pos pos':Pos}{f:FP}{g:FO}{t t':Nat}(hF:∀C,aP X.K aM (cQ t)=some (some (.ref C))->Cls X.K C/\NoAttr X.K C n)(ho:PVp X oe f)(he:PVo X e g)(hn:cQ t'=cQ t:=by rfl)(hfl:cH t'=cH t++[n]:=by rfl)(hnew:n∉cH t:=by decide +kernel)(hs:cV e (some (.Attribute oe n pos')) pos.line X.env=pure false:=by rfl) :
  PSv X (.Assign [.Attribute oe n pos'] e pos) (setNw t t' f g):=by
 obtain⟨tp,hp,hfp⟩:=ho;obtain⟨tv,hv,hg⟩:=he;refine⟨_,OZ hp hv hs,fun H₀ H O σ ds hd out E o e h=>?_⟩;unfold setNw at e;cases h1:g ds with
 |none=>rw[h1] at e;cases e
 | some T =>
   rw[h1] at e;simp only[aO] at e;cases h2:f ds with
   |none=>rw[h2] at e;cases e
   | some q =>
     rw[h2] at e;simp only[aO] at e;refine hg H₀ H O σ ds hd T _ o h1 fun v H1 fs s1 r1 nd1 n1=>?_;have o1:Ok X.K H₀ H1 (orL fs O) σ ds hd:=o.moreL s1 n1 fun b hb=>(r1.owns b hb).2;refine hfp H₀ H1 (orL fs O) σ ds hd q _ o1 h2 fun r T0 v0 w fs0 g1 g2 g3 g4 g5=>?_;obtain⟨v',w',f',y1,y2,y3,y4,y5,y6⟩:=o.modAt g1 g2;rw[g3] at y1;cases y1;cases yR g4 (yI s1 y2);cases hq:q.2.2 with
     | ins c l =>
       rw[hq] at y3 e;simp only at e
       split at e
       . rename_i hk;obtain ⟨rfl,hk⟩:=hk;cases e;cases y3 with
         | @ins a C dx _ kvs _ fs' cc na ha ek rs =>
           obtain⟨cl,nat⟩:=hF C cc;have ln:kvs.length=l.length:=by simpa using rs.length
           refine⟨a,C,dx,kvs,rfl,s1 _ _ ha,cl,nat,by omega,?_⟩;obtain⟨n3,n4⟩:=bT.mp y4
           have old:∀b,H b=none->b∉a::fs':=fun b hb z=>by
            rcases aE.mp z with z | z
            . rw[z,ha] at hb;cases hb
            . obtain⟨_, x, ex⟩ := rs.owns b z;rw[hb] at ex;cases ex
           have afs:a∉fs:=fun z=>by rw[n1 a z] at ha;cases ha
           have pn:putF n v kvs=kvs++[(n,v)]:=CZ (by rw[ek];exact hnew);have hs':∀b u,b≠a->H b=some u->upd H1 a (.ins C dx (putF n v kvs)) b=some u:=fun b u nb eb=>by rw[L2.upd_ne nb];exact s1 _ _ eb
           have nO:∀{b:aA},¬O b->b≠a:=fun nb z=>nb (by rw[z];exact na)
           have c0:Chg H (upd H1 a (.ins C dx (putF n v kvs))) O (orL fs O) [a] (a::fs):=
            ⟨fun b u nb eb=>hs' b u (nO nb) eb,fun b u _ nb eb=>hs' b u (fun z=>nb (by rw[z];exact .head _)) eb,fun b z _=>.inr z,fun b z=>z.elim (fun z=>.inr ⟨.tail _ z,n1 b z⟩) .inl,fun b z=>(aE.mp z).elim (fun z=>.inl (by rw[z];exact .head _)) fun z=>.inr (n1 b z)⟩
           have rT:RepO X.K (upd H1 a (.ins C dx (putF n v kvs))) (orL fs O) v T fs:=r1.keep (fun b u nb eb=>by rw[L2.upd_ne (nO fun z=>nb (.inr z))];exact eb) fun b hb u eb=>by
            have z:b≠a:=fun z=>afs (by rw[<- z];exact hb);rw[L2.upd_ne z];exact eb
           have rs':=(c0.repsO rs fun b hb z=>n3 (aQ.mp z▸hb)).snocO rT
           have ok:=y6 (H':=upd H1 a (.ins C dx (putF n v kvs))) (O':=orL fs O) (u':=.ins t' (l++[T])) (f':=a::(fs'++fs))
            ⟨fun b u nb eb=>hs' b u (nO nb) eb,fun b u _ nb eb=>hs' b u (fun z=>nb (by rw[z];exact .head _)) eb,fun b z _=>.inr z,fun b z=>z.elim (fun z=>.inr ⟨.tail _ (aG _ z),n1 b z⟩) .inl,fun b z=>?_⟩
            (fun b z _=>?_) (.ins (by rw[hn];exact cc) (.inr na) zX (by rw[pn,hfl,<- ek];simp) (by rw[show(putF n v kvs).map (·.2)=kvs.map (·.2)++[v] by rw[pn];simp];exact rs')) (bT.mpr ⟨fun z=>?_,?_⟩)
           . have e' : putP q (.ins t' (l ++ [T])) ds = ds.set q.1 (.ob r (putO (.ins t' (l ++ [T])) q.2.1 T0)) := by simp [putP, g1]
             rw[e'] at h;exact h _ _ _ ok
           . rcases aE.mp z with z | z
             . exact .inl (by rw[z];exact .head _)
             . rcases bG.mp z with z | z
               . exact .inl (.tail _ z)
               . exact .inr (n1 b z)
           . by_cases z' : b = a
             . rw[z',zX];exact⟨⟨.ins C dx (putF n v kvs),rfl⟩,rfl⟩
             . rcases aE.mp z with q' | q'
               . exact(z' q').elim
               . obtain⟨_, y, ey⟩ := rs.owns b q';exact⟨y,hs' b _ z' ey⟩
           . rcases bG.mp z with z | z
             . exact n3 z
             . exact afs z
           . rw[dM];refine⟨n4,nd1,fun x hx y hy z=>old x (by rw[z];exact n1 y hy) (.tail _ hx)⟩
       . cases e
     |_=>rw[hq] at e;cases e
structure LMk(P:aZ)(w:bK)(K:Frag)(mg:Str->Option Value)(base:Heap)(t k n m:Nat)(F:OT->List D->Option OT):Prop where
 ex:∃(C f:aA) (fd:aH) (ps:List Str),aP K aM (cQ t)=some (some (.ref C))/\mg (cQ t)=some (.ref C)/\Mk K C f/\FnOk P w K mg base CX0 k f fd ps (spL K n F)/\Binds K fd ps (List.replicate m .none)
theorem LM:∀m:Nat,Vals (List.replicate m V.non) (List.replicate m Value.none)
 |0=>.nil
 |m+1=>.cons rfl (LM m)
theorem LV{K:Frag}{H:Hp}{O:aA->Prop}:∀m:Nat,Reps K H O (List.replicate m V.non) (List.replicate m D.non)
 |0=>.nil
 |m+1=>.cons .non (LV m)
theorem VO{t n m:Nat}{F:OT->List D->Option OT}{g:FA}{C:aA}{ta:TA}{T:OT}{H₀ H:Hp}{O:aA->Prop}{σ : L2.St}{ds:List Sl}{hd:Hold}{Q:VK}(hc:aP X.K aM (cQ t)=some (some (.ref C)))(hfl:cH t=[])(hfa:∀H₀ H O σ ds hd l Q,Ok X.K H₀ H O σ ds hd->g ds=some l->(∀vs H',Same H H'->Reps X.K H' O vs l->Q vs H')->ta σ H Q)(o:Ok X.K H₀ H O σ ds hd)(h1:makeO t n m F g ds=some T)(q:∀v H' fs,Same H H'->RepO X.K H' (orL fs O) v T fs->fs.Nodup->(∀b∈fs,H b=none)->Q v H'):tMake C (spL X.K n F) (List.replicate m .non) E0 ta σ H Q:=by
 unfold makeO at h1;obtain⟨l,h2,h1⟩:=bnd h1
 split at h1
 . rename_i hl;refine hfa H₀ H O σ ds hd l _ o h2 fun vs H1 s1 r1=>?_;intro x dx nx ndx nex
   have s2:Same H1 (upd (upd H1 dx (.own x)) x (.ins C dx [])):=fun b o e=>by
    rw[upd_ne (qV e nx),upd_ne (qV e ndx)];exact e
   have o1:=o.mono s1;have rl:=r1.length;refine⟨x,.ins t [],T,[x],O,vs++List.replicate m .non,l++List.replicate m .non,rfl,by simp;omega,.ins (kvs:=[]) (fs:=[]) hc (.inl (.head _)) zX (by rw[hfl];rfl) .nil,by simp,fun b hb=>?_,?_,h1,fun H' fs' k1 k2 k3 k4=>⟨rfl,q _ H' fs' (fun b u eb=>?_) k2 k3 fun b hb=>?_⟩⟩
   . obtain⟨u, eu⟩ := o1.dom b hb;exact⟨(fun z=>by rw[aQ.mp z,nx] at eu;cases eu),u,s2 _ _ eu⟩
   . exact((r1.moreL (ps:=[x]) fun p hp=>by rw[aQ.mp hp];exact nx).mono s2).append (LV m)
   . have e1 := s1 _ _ eb;exact k1 b u (fun z=>by rw[aQ.mp z,nx] at e1;cases e1) (s2 _ _ e1)
   . rcases k4 b hb with z | z
     . rw[aQ.mp z];exact s1.free nx
     . exact s1.free (s2.free z)
 . cases h1
section
variable{t k j n m:Nat}{F:OT->List D->Option OT}{x:Str}{p pos:Pos}{e:Expr}{es:List Expr}{g:FA}
theorem ZJ(M:LMk X.prog X.w X.K X.mg X.base t k n m F)(hr:Room j X.A)(ha:PAs X (e::es) g)(hj:k+1<=j:=by decide)(hx:cQ t=x:=by rfl)(hfl:cH t=[]:=by rfl)(hg:Gl X x:=by rfl)(hdb:(x==("__debug__" : Str))=false:=by decide)(he:aF (e::es) X.env=(false,bM e X.env)::aF es X.env:=by rfl)(hpl:(cN pos (aF es X.env)).any (·.1)=false:=by rfl) :
  PVo X (.Call (.Name x p) (e::es) [] pos) (makeO t n m F g):=by
 obtain⟨C,f,fd,ps,hc,hm,mk,Fn,hb⟩:=M.ex;obtain⟨ta,pa,hfa⟩:=ha;subst hx;exact⟨_,RQ (CX:=CX0) (E:=E0) mk Fn (hr.mono hj) hg hm hb (LM m) pass0 pa hdb he hpl,fun H₀ H O σ ds hd T Q o e q=>VO hc hfl hfa o e q⟩
end
end
section
variable{X:Cx}
variable(X) in
def PVx(e:Expr)(f:FX):Prop:=∃t,PE X e t/\∀H₀ H O σ ds hd d ds' Q,Ok X.K H₀ H O σ ds hd->f ds=some (d,ds')->(∀v H' O',Ok X.K H₀ H' O' σ ds' hd->Rep X.K H' O' v d->Q v H')->t σ H Q
theorem RepsO.last{K:Frag}{H:Hp}{O:aA->Prop}:∀{l:List OT} {xs:List V} {fs:List aA} {d:D},RepsO K H O xs (l++[.val d]) fs->∃ys y,xs=ys++[y]/\RepsO K H O ys l fs/\Rep K H O y d:=by
 intro l
 induction l with
 | nil =>
   intro _ _ _ h;cases h with
   |cons h t=>cases h with | val r=>cases t;exact⟨[],_,rfl,.nil,r⟩
 | cons a l ih =>
   intro _ _ _ h;cases h with
   | cons h t =>
     obtain⟨ys,y,rfl,h1,h2⟩:=ih t;exact⟨_::ys,y,rfl,.cons h h1,h2⟩
theorem RD{oe:Expr}{p2 p3:Pos}{f:FP}(ho:PVp X oe f)(hline:(p2.endLine==p3.line)=true:=by rfl)(hbase:cW oe "pop" X.env (bM oe X.env)=bM oe X.env:=by rfl) :
  PVx X (.Call (.Attribute oe "pop" p2) [] [] p3) (popX f):=by
 obtain⟨t,ht,hf⟩:=ho;refine⟨_,pe_bm0 hO PySem.F.slot_list_pop PySem.F.type_list_pop mt_pop ht hbase hline,fun H₀ H O σ ds hd d ds' Q o e h=>?_⟩;unfold popX at e;obtain⟨q,h1,e⟩:=bnd e;refine hf H₀ H O σ ds hd q _ o h1 fun r T v w fs g1 g2 g3 g4 g5=>?_;cases hq:q.2.2 with
 | lst l =>
   rw[hq] at e g2 g5;simp only at e;cases hl:l.getLast? with
   |none=>rw[hl] at e;cases e
   | some u =>
     rw[hl] at e;cases u with
     | val d' =>
       cases e;obtain⟨l',rfl⟩:=List.getLast?_eq_some_iff.mp hl;have e0:(l'++[OT.val d]).dropLast=l':=by simp
       rw[e0] at h;cases g5 with
       | @lst a xs _ fs' n hb rs =>
         obtain⟨ys,y,rfl,rs',ry⟩:=rs.last;have e2:(ys++[y]).dropLast=ys:=by simp
         refine⟨.inl ⟨rfl,_,SqL.of hb⟩,a,ys++[y],y,rfl,rfl,hb,by simp,?_⟩;rw[e2]
         have ok:=o.putL (l':=l') (ys:=ys) g1 g2 g3 g4 fun xs2 fs2 k1 k2 k3 k4 k5=>⟨fs2,fun _ z=>z,k4,fun {H'} c=>by
          rw[hb] at k1;cases k1;obtain⟨ys2,y2,e3,rs2,_⟩:=k3.last;obtain⟨e4,_⟩:=List.append_inj' e3 rfl;subst e4
          exact c.repsO rs2 fun b z y=>k5 (aQ.mp y▸z)⟩
         have e':putP q (.lst l') ds=ds.set q.1 (.ob r (putO (.lst l') q.2.1 T)):=by simp[putP,g1]
         rw[e'] at h;have c:Chg H (upd H a (.lst ys)) O O [a] [a]:=.ofUpd n (.head _) fun _ z=>z;exact h y _ O ok (c.rep ry)
     |_=>cases e
 |_=>rw[hq] at e;cases e
section
variable{m:Str}{k j n:Nat}{cs:List Nat}{F:Nat->OT->List D->Option OT}{oe e:Expr}{es:List Expr}{apos pos pos':Pos}{f:FP}{g:FA}
theorem aBm{ds:List Sl}{out:Out}(e:lentG n cs F f g ds=some out):∃ds',out=.nx ds':=by
 unfold lentG at e;obtain⟨q0,h2,e⟩:=bnd e;obtain⟨l,h3,e⟩:=bnd e
 split at e
 . split at e
   . rename_i c ts _ _;cases h4:F c (.ins c ts) l with
     |none=>rw[h4] at e;cases e
     |some T'=>rw[h4] at e;cases e;exact⟨_,rfl⟩
   . cases e
 . cases e
theorem HP{pl:Sem Bool}{i:Nat}{x:Str}{px:Pos}{gx:FX}(M:LCal X.prog X.w X.K X.mg X.base m k 1 cs F)(hr:Room j X.A)(ha:PVx X e gx)(hj:k<=j:=by decide)(hN:X.N[i]?=some x:=by rfl)(hv:Vis X.env.scope x:=by first | exact Or.inl rfl | exact Or.inr (Or.inl rfl) | exact Or.inr (Or.inr rfl))(hd:(x==("__debug__" : Str))=false:=by decide)(hcd:(x==("__classdict__" : Str))=false:=by decide)(hst:aF [e] X.env=(false,bM e X.env)::aF [] X.env:=by rfl)(hpl:(cN pos (aF [] X.env)).any (·.1)=false:=by rfl)(ht:bM (.Call (.Attribute (.Name x px) m apos) [e] [] pos) X.env=(do
    let ov <- bM (.Name x px) X.env
    fP apos.atName
    let (f,first) <- dW [ov] (fM ov m pl)
    iO pos f first (cN pos (aF [e] X.env)) (fC pos (dC [] X.env))):=by rfl)(hsw:cV (.Call (.Attribute (.Name x px) m apos) [e] [] pos) none pos'.line X.env=pure false:=by rfl):PSv X (.Expr (.Call (.Attribute (.Name x px) m apos) [e] [] pos) pos') (lentX cs F i gx):=by
 obtain⟨t,pt,hgx⟩:=ha;refine⟨_,xX (DH (pl:=pl) (k:=k) (xI hN hv hd hcd) (hr.mono hj) (jN pt yK hst) hst hpl ht) hsw,fun H₀ H O σ ds hd out E o e h=>?_⟩;unfold lentX varP at e;cases hs:ds[i]? with
 |none=>rw[hs] at e;cases e
 | some s =>
   rw[hs] at e;cases s with
   | ob r T =>
     simp only[aO] at e;cases T with
     | ins c ts =>
       simp only at e
       split at e
       . rename_i hc;cases h2:gx ds with
         |none=>rw[h2] at e;cases e
         | some p =>
           obtain⟨d,ds2⟩:=p;rw[h2] at e;simp only[aO] at e;cases hs2:ds2[i]? with
           |none=>rw[hs2] at e;cases e
           | some s2 =>
             rw[hs2] at e;cases s2 with
             | ob r2 T2 =>
               simp only[aO] at e;cases T2 with
               | ins c2 ts2 =>
                 simp only at e
                 split at e
                 . rename_i hc2;subst hc2;cases h4:F c2 (.ins c2 ts2) [d] with
                   |none=>rw[h4] at e;cases e
                   | some T' =>
                     rw[h4] at e;cases e;obtain⟨F0,hF0⟩:=o.obs;obtain⟨v,y1,y2,_⟩:=hF0 i r _ hs;generalize F0 i=fi at y2;cases y2 with
                     | @ins a C dx _ kvs _ fs' cc nn ha ek rr =>
                       obtain⟨fa,fd,ps,cl,hm,Fn,hb⟩:=M.of c2 hc C cc;refine⟨.ref a,y1,a,C,dx,kvs,fa,fd,ps,_,rfl,ha,jO (by rw[ek];exact M.no c2 hc),cl,hm,Fn,hb,?_⟩;refine hgx H₀ H O σ ds hd d ds2 _ o h2 fun vd H2 O2 o2 rd=>?_;obtain⟨v',w',f',z1,z2,z3,z4,z5,z6⟩:=o2.modAt (p:=[]) hs2 rfl;rw[y1] at z1;cases z1;cases(show w'=.ref a from z2);have ow:∀b∈f',O2 b:=fun b z=>(z3.owns b z).1
                       let B:aA->Prop:=fun b=>O2 b/\b∉f'
                       have toO:∀b,orL f' B b->O2 b:=fun b z=>z.elim (ow b) fun z=>z.1;refine⟨a,_,T',f',B,[vd],[d],rfl,rfl,z3.less toO (fun b z=>.inl z),z4,fun b z=>⟨z.2,o2.dom b z.1⟩,.cons (rd.less toO) .nil,h4,fun H' fs2 k1 k2 k3 k4=>?_⟩;have e':putP (i,[],OT.ins c2 ts2) T' ds2=ds2.set i (.ob r2 (putO T' [] (.ins c2 ts2))):=by simp[putP,hs2]
                       have h:After X H₀ hd E (.nx (putP (i,[],OT.ins c2 ts2) T' ds2)):=h;rw[e'] at h;exact h _ _ _ (z6 ⟨fun b u nb eb=>k1 b u (fun z=>nb (ow b z)) eb,fun b u _ nb eb=>k1 b u nb eb,fun b z nb=>.inr ⟨z,nb⟩,fun b z=>z.elim (fun z=>(k4 b z).elim (fun y=>.inl (ow b y)) fun y=>.inr ⟨z,y⟩) fun z=>.inl z.1,k4⟩ (fun b z y=>y.elim (fun y=>(k2.owns b y).2) fun y=>(y.2 z).elim) k2 k3)
                 . cases e
               |_=>cases e
             |_=>cases e
       . cases e
     |_=>cases e
   |_=>cases e
end
end
end FL
namespace L2
open PySem PySem.Spec PyProof.Rows
section
variable{X:Cx}
theorem CO:∀{vs:List Value} {ks:List Str},vs.length=ks.length->(∀(j:Nat) (v:Value),vs[j]?=some v->∃(x:Str) (t:Tok),ks[j]?=some x/\v=Value.str x t)->XE vs ks
 |[],[],_,_=>.nil
 |[],_::_,h,_=>by simp at h
 |_::_,[],h,_=>by simp at h
 | v :: vs, k :: ks, h, H => by
   obtain⟨x,t,h1,h2⟩:=H 0 v rfl;simp only[cD,Option.some.injEq] at h1;subst h1 h2;exact .cons _ _ (CO (by simpa using h) fun j u e=>H (j+1) u (by simpa using e))
theorem CH:∀{us:List Value} {ns:List Str},XE us ns->Vals (ns.map V.str) us
 |_,_,.nil=>.nil
 |_,_,.cons n t h=>.cons ⟨t,rfl⟩ (CH h)
theorem KV.at'{κ : Type}{kvs:List (κ×V)}{vs:List (κ×Value)}{i:Nat}{k : κ}{u:Value}(h:KV kvs vs)(e:vs[i]?=some (k,u)):∃x,kvs[i]?=some (k,x)/\RelV x u:=by
 unfold KV at h
 induction h generalizing i with
 |nil=>simp at e
 | @cons p q _ _ h _ ih =>
   cases i with
   | zero =>
     simp only[cD,Option.some.injEq] at e;subst e;exact⟨p.2,by simp only[cD];rw[show p=(k,p.2) from Prod.ext h.1 rfl],h.2⟩
   | succ i =>
     simp only[cE] at e ⊢;exact ih e
theorem LC(hc:X.calm=true):CallR X (.builtin "sorted") (fun xs H Q=>∃(p:aA) (kvs:List (Key×V)) (ks:List Str),xs=[.ref p]/\Rd H p (.dK kvs)/\kvs.map (·.1)=ks.map Sum.inr/\ks.length<64/\∀l,H l=none->Q (.ref l) (upd H l (.lst ((FL.srtT ks).map V.str)))):=by
 intro aB s σ H xs us Q I r h;obtain⟨p,kvs,ks,rfl,hq,ek,h64,q⟩:=h;obtain⟨u,rfl,ru⟩:=vals1 r;cases ru;obtain⟨z,hds,vs,rel,dd⟩:=IN I.hok hq;obtain⟨ep,hat⟩:=dd.dictAt;have hl:=rel.length;have hk:kvs.length=ks.length:=by have:=congrArg List.length ek;simpa using this
 refine Calls.call_function_entry (A:=X.A) kind_sorted plain_sorted entry_sorted (args_sorted1 _) ?_;show bD _ _ (checkCount "sorted" 1 1 1 >>= _) _ _ s;refine bB (cF (bB (PySem.W.kdu_collect (PySem.W.kdl_dict hds) (by simpa using I.ok.hd hc) hat (by omega) fun h1 tk acc k1 hit=>?_)))
 have hS:XE acc.toList ks:=CO (by rw[fO,hit.1];omega) fun j v e=>by
  obtain⟨k,x,e1,e2⟩:=hit.2 j v (by rw[<- kY];exact e);obtain⟨y,e3,_⟩:=rel.at' e1;have e4:(kvs.map (·.1))[j]?=some k:=by rw[aX,e3];rfl
  rw[ek,aX] at e4;cases e5:ks[j]? with
  |none=>rw[e5] at e4;cases e4
  | some w =>
    rw[e5] at e4;cases e4;rcases qX (k:=Sum.inr w) (v:=v) e2 with⟨i,t,e6,_⟩ | ⟨y,t,e6,e7⟩
    . cases e6
    . cases e6;exact⟨w,t,rfl,e7⟩
 refine TU.sorted_endS (s:={ s with heap:=h1,toks:=tk }) hS (by rw[fO,hit.1];omega) fun h2 vs' ns' e p1 p2 p3 p4 p5=>?_;have en:ns'=FL.srtT ks:=FL.leT_unique _ _ (p4.trans (FL.srtT_perm ks).symm) (FL.sortedS_le p5) (FL.srtT_le ks);have I1:Inv X aB σ H { s with heap:=h1,toks:=tk }:=I.kept k1;refine⟨.ref h1.objs.size,_,Inv.laid (s:={ s with heap:=h1,toks:=tk }) I1 (t':=tk) p1 (aR _) (show ObjOk X.prog X.w _ h2 _ (.lst ((FL.srtT ks).map V.str)) from ⟨?_,vs',e,?_,p2⟩),rfl,q _ (I1.hok.fresh (aR _))⟩
 . have := (FL.srtT_perm ks).length_eq;simp only[bU];omega
 . rw[<- en];exact CH p3
theorem QW:∀{xs:List V} {us:List Value},xs.length=us.length->(∀(j:Nat) (u:Value),us[j]?=some u->∃x,xs[j]?=some x/\RelV x u)->Vals xs us
 |[],[],_,_=>.nil
 |[],_::_,h,_=>by simp at h
 |_::_,[],h,_=>by simp at h
 | x :: xs, u :: us, h, H => by
   obtain⟨y,h1,h2⟩:=H 0 u rfl;simp only[cD,Option.some.injEq] at h1;subst h1;exact .cons h2 (QW (by simpa using h) fun j v e=>H (j+1) v (by simpa using e))
end
end L2
namespace FL
open PySem PySem.Spec PyProof.Rows L2
section
variable{X:Cx}
theorem wA{e:Expr}{f:FE}{p pos:Pos}(hc:X.calm=true)(hm:X.mg "sorted" = none)(he:PVn X e f)(hg:Gl X "sorted":=by rfl)(hs:aF [e] X.env=[(false,bM e X.env)]:=by rfl) :
  PVf X (.Call (.Name "sorted" p) [e] [] pos) (srtDA f):=by
 obtain⟨te,pe,he⟩:=he;refine⟨_,DI (LC hc) hg hm (by decide +kernel) (jN pe yK hs) (by decide) (by decide) hs rfl,fun H₀ H O σ ds hd l Q o e q=>?_⟩;unfold srtDA at e;obtain⟨d,h1,e⟩:=bnd e;obtain⟨kl,h2,e⟩:=bnd e;obtain⟨ks,h3,e⟩:=bnd e
 split at e
 . rename_i h64;cases e;refine he H₀ H O σ ds hd _ _ o h1 fun v H1 s1 r1=>?_;obtain⟨a,kvs,rfl,hb,ek,rs⟩:=BX r1 h2;exact⟨a,kvs,ks,rfl,hb,ek.trans (DQ h3),h64,fun p hp=>q p _ _ (s1.trans (qH hp _)) (s1.free hp) zX (HE _)⟩
 . cases e
end
end FL
namespace L2
open PySem PySem.Spec PyProof.Rows
section
variable{X:Cx}
def tFrz(t:TE):TE:=fun σ H Q=>t σ H fun x H1=>∃a kvs,x=.ref a/\H1 a=some (.dK kvs)/\∀o,Q x (upd H1 a (.frz o (.dK kvs)))
theorem pe_frz{e:Expr}{t:TE}(h:PE X e t):PE X e (tFrz t):=by
 intro aB s σ H Q I hq;refine thn (h aB s σ H _ I hq) fun v s1 zq=>?_;obtain⟨x,H1,I1,r1,a,kvs,e1,h1,q1⟩:=zq;obtain⟨o,I2⟩:=I1.freezeD h1;exact⟨x,_,I2,r1,q1 o⟩
end
end L2
namespace FL
open PySem PySem.Spec PyProof.Rows L2
section
variable{X:Cx}
theorem MC{pos:Pos}: PV X (.Dict [] [] pos) (zA (.dcf [] [])):=by
 refine⟨_,pe_frz ML,fun H₀ H O σ ds hd d Q o e q=>fun p hp=>?_⟩;cases e;refine⟨p,[],rfl,zX,fun ob=>?_⟩
 have sm:Same H (upd (upd H p (.dK [])) p (.frz ob (.dK []))):=fun b u eb=>by
  rw[upd_ne (qV eb hp),upd_ne (qV eb hp)];exact eb
 exact q _ _ sm (.dcf (kvs:=[]) (fun z=>by obtain⟨u,eu⟩:=o.dom p z;rw[hp] at eu;cases eu) zX rfl .nil)
end
section
variable{X:Cx}
theorem Ok.look{K:Frag}{H₀ H:Hp}{O:aA->Prop}{σ : L2.St}{ds:List Sl}{hd:Hold}(o:Ok K H₀ H O σ ds hd)(i:Nat):∃O',Ok K H₀ H O' σ (relO i ds) hd:=by
 by_cases hs:∃r T,ds[i]?=some (.ob r T)
 . obtain ⟨r, T, hl⟩ := hs;have e':relO i ds=ds.set i (.v (otD T)):=by unfold relO; rw [hl]
   rw[e'];exact o.frz hl
 . have e':relO i ds=ds:=by
    unfold relO
    split
    . rename_i r T hl;exact(hs ⟨r,T,hl⟩).elim
    . rfl
   rw[e'];exact⟨O,o⟩
theorem ZU(i:Nat){e:Expr}{c:FT}(h:PTv X e c):PTv X e (relTO i c):=by
 obtain⟨t,ht,hf⟩:=h;refine⟨t,ht,fun H₀ H O σ ds hd b Q o e q=>?_⟩;obtain⟨O',o'⟩:=o.look i;exact hf H₀ H O' σ _ hd b Q o' e q
theorem pv_relO(i:Nat){e:Expr}{f:FE}(h:PV X e f):PV X e (relVO i f):=by
 obtain⟨t,ht,hf⟩:=h;refine⟨t,ht,fun H₀ H O σ ds hd d Q o e q=>?_⟩;obtain⟨O',o'⟩:=o.look i;unfold relVO at e;cases h1:f (relO i ds) with
 |none=>rw[h1] at e;cases e
 | some d' =>
   rw[h1] at e;simp only[aO,flV'] at e
   split at e
   . rename_i hfl;cases e;exact hf H₀ H O' σ _ hd _ Q o' h1 fun v H' s r=>q v H' s (Rep.flatten (fun a z=>((o.mono s).dom a z).elim fun u e=>⟨_,e,u.2⟩) hfl r)
   . cases e
theorem LY(i:Nat){e:Expr}{f:FA}(h:PVf X e f):PVf X e (relFO i f):=by
 obtain⟨t,ht,hf⟩:=h;refine⟨t,ht,fun H₀ H O σ ds hd l Q o e q=>?_⟩;obtain⟨O',o'⟩:=o.look i;unfold relFO at e;cases h1:f (relO i ds) with
 |none=>rw[h1] at e;cases e
 | some l' =>
   rw[h1] at e;simp only[aO] at e
   split at e
   . rename_i hfl;cases e;refine hf H₀ H O' σ _ hd _ Q o' h1 fun a xs H' s hn he r=>q a xs H' s hn he (Reps.flatten (fun b z=>?_) hfl r);rcases z with rfl | z
     . exact⟨_,he,rfl⟩
     . obtain⟨u, eu⟩ := (o.mono s).dom b z;exact⟨_,eu,u.2⟩
   . cases e
end
abbrev LkF(K:Frag)(f:aA)(oc:Value)(od:Option aA)(nm q:Str)(st:Stmt)(dV kV dc pm:Value)(an:Option aA)(cd ct:Value)(sl:Array (Option Value)):Prop:=K.lookup f=some ⟨oc,od,.func (cT nm q (jU st) (qT st) (zH st) dV kV dc pm an cd ct),sl⟩
structure FunD(K:Frag)(x qual:Str)(st:Stmt)(f:aA)(fd:aH)(its:Array Value):Prop where
 ex:∃(Tu:aA) (ob:Obj) (n:Nat) (oc:Value) (od:Option aA) (kV doc pm:Value) (an:Option aA) (cdv ct:Value) (osl:Array (Option Value)),
  fd=cT x qual (jU st) (qT st) (zH st) (.ref Tu) kV doc pm an cdv ct/\K.lookup f=some ⟨oc,od,.func fd,osl⟩/\eR K cdv qual=true/\K.lookup Tu=some ob/\ob.data=.seq its n
 kp:bF K (.ref f)=true
section
variable{P:aZ}{w:bK}{K:Frag}{mg:Str->Option Value}{base:Heap}{x qual:Str}{st:Stmt}{f:aA}{fd:aH}{its:Array Value}
theorem fun_mkD{Tu:aA}{ob:Obj}{n:Nat}{oc:Value}{od an:Option aA}{osl:Array (Option Value)}{kV doc pm cdv ct:Value}(l:K.lookup f=some ⟨oc,od,.func (cT x qual (jU st) (qT st) (zH st) (.ref Tu) kV doc pm an cdv ct),osl⟩)(c:eR K cdv qual=true)(k:bF K (.ref f)=true)(lt:K.lookup Tu=some ob)(hs:ob.data=.seq its n):FunD K x qual st f (cT x qual (jU st) (qT st) (zH st) (.ref Tu) kV doc pm an cdv ct) its :=
 ⟨⟨Tu,ob,n,oc,od,kV,doc,pm,an,cdv,ct,osl,rfl,l,c,lt,hs⟩,k⟩
theorem FunD.binds{ps:List Str}{ds:List Value}(F:FunD K x qual st f fd its)(h:∀(Tu:aA) (kV doc pm:Value) (an:Option aA) (cdv ct:Value) (us:List Value),(us++ds).length=ps.length->∃k:Option (Array Value)->Sem (List (Str×Value)),tZ (cT x qual (jU st) (qT st) (zH st) (.ref Tu) kV doc pm an cdv ct) ⟨us,[]⟩=seqItems? (.ref Tu) >>= k/\k (some its)=pure (ps.zip (us++ds))):Binds K fd ps ds:=by
 obtain⟨Tu,ob,n,oc,od,kV,doc,pm,an,cdv,ct,osl,rfl,lk,hcd,lt,hs⟩:=F.ex;intro s us X hl;obtain⟨k,h1,h2⟩:=h Tu kV doc pm an cdv ct us hl;exact PySem.W.binds_K X rfl lt hs h1 h2
theorem aBt{N ps:List Str}{k n:Nat}{F:OT->List D->Option OT}(Fn:FunD K x qual st f fd its)(S:FnScope N ps (zH st)){g:FS}(hbody:∀(cdv:Value) (A:bO) (outer:List Env) (s:aC) (H:Hp) (E:XK),Room k (A.deeper (gD qual (zH st) s.heap.objs.size f cdv))->PSsv (cxOf CX0 P w K mg base N qual (zH st) f cdv A outer s H E).nox (qT st) g)(hg:∀T l T',l.length=n->F T l=some T'->lentF g N.length T l=some T')(hn:ps.length=n+1:=by rfl)(hN:0<N.length:=by decide):FnOk P w K mg base CX0 (k+1) f fd ps (spL K n F):=by
 refine NG (fun sp a b=>?_) hbody hg hn hN;obtain⟨Tu,ob,n,oc,od,kV,doc,pm,an,cdv,ct,osl,rfl,lk,hcd,lt,hs⟩:=Fn.ex;refine aBw lk hcd S a fun A outer s H vs Q E hr hsp=>?_;obtain⟨t,h,q⟩:=b cdv A outer s H vs Q E hr hsp;exact⟨t,h.nox,q⟩
theorem len0{P:List Value->Prop}(h:P []):∀us:List Value,us.length=0->P us:=fun us hl=>by cases us with | nil=>exact h | cons _ _=>cases hl
theorem lenS{P:List Value->Prop}{n:Nat}(h:∀a us,us.length=n->P (a::us)):∀us:List Value,us.length=n+1->P us:=fun us hl=>by cases us with | nil=>cases hl | cons a r=>exact h a r (Nat.succ.inj hl)
theorem len1{P:List Value->Prop}(h:∀a0,P [a0]):∀us:List Value,us.length=1->P us:=lenS fun a=>len0 (P:=fun us=>P (a::us)) (h a)
theorem len2{P:List Value->Prop}(h:∀a0 a1,P [a0,a1]):∀us:List Value,us.length=2->P us:=lenS fun a=>len1 (P:=fun us=>P (a::us)) (h a)
theorem len3{P:List Value->Prop}(h:∀a0 a1 a2,P [a0,a1,a2]):∀us:List Value,us.length=3->P us:=lenS fun a=>len2 (P:=fun us=>P (a::us)) (h a)
theorem len4{P:List Value->Prop}(h:∀a0 a1 a2 a3,P [a0,a1,a2,a3]):∀us:List Value,us.length=4->P us:=lenS fun a=>len3 (P:=fun us=>P (a::us)) (h a)
theorem len5{P:List Value->Prop}(h:∀a0 a1 a2 a3 a4,P [a0,a1,a2,a3,a4]):∀us:List Value,us.length=5->P us:=lenS fun a=>len4 (P:=fun us=>P (a::us)) (h a)
def DefM(K:Frag)(x:Str)(st:Stmt)(f:aA):Prop:=∃(oc:Value) (od:Option aA) (kV dc pm:Value) (an:Option aA) (cd ct:Value) (sl:Array (Option Value)),aP K aM x=some (some (.ref f))/\LkF K f oc od x x st .none kV dc pm an cd ct sl/\eR K cd x=true/\bF K (.ref f)=true
def DefC(K:Frag)(C:aA)(m q:Str)(st:Stmt)(f:aA):Prop:=∃(oc:Value) (od:Option aA) (kV dc pm:Value) (an:Option aA) (cd ct:Value) (sl:Array (Option Value)),bY K (.ref C) m=some (some (.ref f))/\LkF K f oc od m q st .none kV dc pm an cd ct sl/\eR K cd q=true/\bF K (.ref f)=true/\lX K (.ref f)=true
theorem DefM.get{x:Str}{st:Stmt}{f:aA}(h:DefM K x st f):∃fd,Fun K x x st f fd/\aP K aM x=some (some (.ref f))/\bF K (.ref f)=true:=by
 obtain⟨_,_,_,_,_,_,_,_,_,a,l,c,k⟩:=h;exact⟨_,QB l c k,a,k⟩
theorem DefC.get{C:aA}{m q:Str}{st:Stmt}{f:aA}(h:DefC K C m q st f):∃fd,Fun K m q st f fd/\bY K (.ref C) m=some (some (.ref f))/\bF K (.ref f)=true/\lX K (.ref f)=true:=by
 obtain⟨_,_,_,_,_,_,_,_,_,a,l,c,k,i⟩:=h;exact⟨_,QB l c k,a,k,i⟩
theorem cal_mk{k n:Nat}{x:Str}{f:aA}{fd:aH}{ps:List Str}{F:List D->Option Ret}(G:FnOk P w K mg base CX0 k f fd ps (spF K n F))(b:Binds K fd ps [])(h:bF K (.ref f)=true)(m:mg x=some (.ref f)):Cal P w K mg base x k n F:=⟨f,_,_,G,b,h,m⟩
structure SysAt(P:aZ)(w:bK)(base:Heap)(K:Frag)(mg:Str->Option Value):Prop where
 ex:∃h:Heap,K.In h/\h.Ns aM mg
def CN(K:Frag)(x:Str)(C:aA):Prop:=aP K aM x=some (some (.ref C))/\iT K C Str.empty=true/\mZ K C=true/\sQ K C=true/\bY K (.ref C) "__setattr__" = some (some (.builtin "object.__setattr__"))
theorem CN.get{C:aA}(h:CN K x C):aP K aM x=some (some (.ref C))/\Cls K C:=⟨h.1,⟨h.2.1,h.2.2.1,h.2.2.2.1,h.2.2.2.2⟩⟩
theorem jG{f:Str}{t i:Nat}{C:aA}{ix:List (Nat×Nat)}(a:aP K aM (cQ t)=some (some (.ref C)))(c:Cls K C)(n:NoAttr K C f)(h:FldOk K f ix)(h1:(cH t)[i]?=some f:=by rfl)(h2:∀j,j<i->(cH t)[j]?≠some f:=by decide +kernel):FldOk K f ((t,i)::ix):=QD a c n h1 h2 h
def XN(K:Frag)(A B:aA):Prop:=AA K B=true/\pC K (.ref B)=some (.type "type")/\EQ K (.ref A) (.ref B)=some false/\(Value.ref A==Value.ref B)=false
def XI(K:Frag)(x:Str)(C:aA):Prop:=aP K aM x=some (some (.ref C))/\bY K (.ref C) "__getattribute__" = some (some (.builtin "BaseException.__getattribute__"))/\bY K (.ref C) "__getattr__" = some none/\bY K (.ref C) "__class__" = some (some (.builtin "object.__class__"))/\ER K C (.type "object")=some true/\ER K C (.type "BaseException")=some true
theorem XI.i{C:aA}(h:XI K x C):XIn K C:=⟨h.2.1,h.2.2.1,h.2.2.2.1,h.2.2.2.2.1,h.2.2.2.2.2⟩
theorem DefM.cal{k n:Nat}{x:Str}{st:Stmt}{f:aA}{ps:List Str}{F:List D->Option Ret}(d:DefM K x st f)(X:SysAt P w base K mg)(hf:∀{fd},Fun K x x st f fd->FnOk P w K mg base CX0 k f fd ps (spF K n F))(hb:∀(kV doc pm:Value) (an:Option aA) (cdv ct:Value) (us:List Value),us.length=ps.length->tZ (cT x x (jU st) (qT st) (zH st) .none kV doc pm an cdv ct) ⟨us,[]⟩=pure (ps.zip us):=by
    intro _ _ _ _ _ _;first | exact len0 rfl | exact len1 fun _=>rfl | exact len2 fun _ _=>rfl | exact len3 fun _ _ _=>rfl | exact len4 fun _ _ _ _=>rfl | exact len5 fun _ _ _ _ _=>rfl):Cal P w K mg base x k n F:=by
 obtain⟨_,F1,a,c⟩:=d.get;obtain⟨_,X,G⟩:=X.ex;exact cal_mk (hf F1) (F1.binds hb) c (cK X G a)
theorem DefC.mc{j k n t:Nat}{cs:List Nat}{C f:aA}{m q:Str}{st:Stmt}{ps:List Str}{F:Nat->List D->Option Ret}(d:DefC K C m q st f)(a:aP K aM (cQ t)=some (some (.ref C)))(c:Cls K C)(hf:∀{fd},Fun K m q st f fd->FnOk P w K mg base CX0 j f fd ps (spF K (n+1) (F t)))(h:MCal P w K mg base m k n cs F)(hj:j<=k:=by decide)(hn:m∉cH t:=by decide +kernel)(hb:∀(kV doc pm:Value) (an:Option aA) (cdv ct:Value) (us:List Value),us.length=ps.length->tZ (cT m q (jU st) (qT st) (zH st) .none kV doc pm an cdv ct) ⟨us,[]⟩=pure (ps.zip us):=by
    intro _ _ _ _ _ _;first | exact len1 fun _=>rfl | exact len2 fun _ _=>rfl | exact len3 fun _ _ _=>rfl):MCal P w K mg base m k n (t::cs) F:=by
 obtain⟨_,F1,x,y,z⟩:=d.get;exact VL a c ⟨x,z,y⟩ (hf F1) hj (F1.binds hb) hn h
theorem DefC.lc{j k n t:Nat}{cs:List Nat}{C f:aA}{m q:Str}{st:Stmt}{ps:List Str}{F:Nat->OT->List D->Option OT}(d:DefC K C m q st f)(a:aP K aM (cQ t)=some (some (.ref C)))(c:Cls K C)(hf:∀{fd},Fun K m q st f fd->FnOk P w K mg base CX0 j f fd ps (spL K n (F t)))(h:LCal P w K mg base m k n cs F)(hj:j<=k:=by decide)(hn:m∉cH t:=by decide +kernel)(hb:∀(kV doc pm:Value) (an:Option aA) (cdv ct:Value) (us:List Value),us.length=ps.length->tZ (cT m q (jU st) (qT st) (zH st) .none kV doc pm an cdv ct) ⟨us,[]⟩=pure (ps.zip us):=by
    intro _ _ _ _ _ _;first | exact len1 fun _=>rfl | exact len2 fun _ _=>rfl | exact len3 fun _ _ _=>rfl):LCal P w K mg base m k n (t::cs) F:=by
 obtain⟨_,F1,x,y,z⟩:=d.get;exact kH a c ⟨x,z,y⟩ (hf F1) hj (F1.binds hb) hn h
theorem newOk{t:Nat}{C:aA}{a:Str}(n:aP K aM (cQ t)=some (some (.ref C)))(c:Cls K C)(na:NoAttr K C a):∀C',aP K aM (cQ t)=some (some (.ref C'))->Cls K C'/\NoAttr K C' a:=fun C' e=>by
 rw[n] at e;cases e;exact⟨c,na⟩
end
section
variable{X:Cx}
end
section
variable{X:Cx}{m:Str}{k j:Nat}{cs:List Nat}{F:Nat->List D->Option Ret}{o:Expr}{apos pos:Pos}{fo:FE}
theorem HK{pl:Sem Bool}(M:MCal X.prog X.w X.K X.mg X.base m k 0 cs F)(hr:Room j X.A)(ho:PV X o fo)(hj:k<=j:=by decide)(ht:bM (.Call (.Attribute o m apos) [] [] pos) X.env=(do
    let ov <- bM o X.env
    fP apos.atName
    let (f,first) <- dW [ov] (fM ov m pl)
    iO pos f first (cN pos (aF [] X.env)) (fC pos (dC [] X.env))):=by rfl):PVf X (.Call (.Attribute o m apos) [] [] pos) (methF 0 cs F fo zV):=by
 obtain⟨ta,pa,hfo⟩:=ho;refine⟨_,kA (pl:=pl) (k:=k) pa (hr.mono hj) ht,fun H₀ H O σ ds hd d Q o e q=>?_⟩;unfold methF at e;obtain⟨x,h1,e⟩:=bnd e;simp only[zV,aO] at e;obtain⟨r,h3,e⟩:=bnd e;refine DM (g:=zV) M hfo (fun _ H _ _ _ _ _ _ _ e q=>by cases e;exact q _ H (Same.refl _) .nil) o h1 rfl h3 fun v H1 H' s1 s' ro=>?_;obtain⟨a,xs,rfl,h4,h5,h6⟩:=RB ro e fun a ha=>(o.mono s1).old ha;exact q a xs H' (s1.trans s') (s1.free h4) h5 h6
end
end FL
namespace L2
open PySem PySem.Spec PyProof.Rows
section
variable{prog:aZ}{w:bK}{A:bO}{E:Value->aC->Prop}{s:aC}
theorem ZD:NV (.type "list_reverseiterator") "__len__" = pure none:=by rw[typeLookup_type,builtinLookup_eq_fast];kernel_rfl
theorem UN:NV (.type "list_reverseiterator") "__length_hint__" = pure (some (.builtin "list_reverseiterator.__length_hint__")):=by rw[typeLookup_type,builtinLookup_eq_fast];kernel_rfl
theorem rv_hint{r:aA}{Q:Bool->aC->Prop}(hT:s.TypeIs (.ref r) "list_reverseiterator")(h:Q false s):bD (bH prog w) A (Builtin.List.listLengthHint (.ref r)) Q E s:=by
 unfold Builtin.List.listLengthHint;refine bB (LL hT ZD ?_);show bD _ A (specialOf (Value.ref r) (Str.ofString "__length_hint__") >>= _) _ _ _;refine bB (LL hT UN ?_);generalize hid:("list_reverseiterator.__length_hint__" : String)=id0
 wp_delta
 rw[show splitId id0=some ("list_reverseiterator","__length_hint__") from by subst hid;decide +kernel];subst hid;refine bB (wpAny_isInstance (b:=true) hT (by rw[isSubtype_type];kernel_rfl) ?_);exact cF h
theorem rv_call{I l:aA}{items:Array Value}{Q:Value->aC->Prop}(hh:A.handled=none)(hne:l≠I)(hit:s.heap.IsRevIter I l ((items.size:Int)-1))(hl:s.heap.IsList l items)(hn:items.size<=sizeLine)(hQ:∀h' tk acc' c',(∀b o,b≠I->s.heap.get? b=some o->h'.get? b=some o)->h'.get? s.heap.objs.size=some { cls:=.type "list",dict:=none,data:=.seq acc' c',slots:=#[] }->ItemsOf (fun i v=>items[items.size-1-i]?=some v) acc' items.size->Q (.ref s.heap.objs.size) { s with heap:=h',toks:=tk }) :
  bD (bH prog w) A (call (.type "list") [.ref I]) Q E s:=by
 refine callType_codes (Q₁:=fun obj s₁=>obj=.ref s.heap.objs.size/\s₁={ s with heap:=s.heap.push { cls:=.type "list",data:=.seq #[] } }) PySem.F.called_list (PySem.F.typeCall_list_1 _) PySem.F.entry_list_init
  (code_list_new _ ⟨rfl,rfl⟩) fun obj s₁ h₁=>?_
 obtain⟨rfl,rfl⟩:=h₁;have hS:(s.heap.push { cls:=.type "list",data:=.seq #[] }).get? s.heap.objs.size=some { cls:=.type "list",data:=.seq #[] }:=aW _ rfl;have hI:I<s.heap.objs.size:=let ⟨_,ho,_⟩:=hit;bC ho;have hlt:l<s.heap.objs.size:=let ⟨_,ho,_⟩:=hl;bC ho;refine⟨⟨_,hS,rfl⟩,PySem.F.args_list_init_2 _ _,?_⟩;show bD _ _ (do let old <- Builtin.List.listItems (.ref s.heap.objs.size);Builtin.List.listUpdate (.ref s.heap.objs.size) (fun _=>#[]);letGo old.toList.reverse;Builtin.List.listExtendWith (.ref s.heap.objs.size) (.ref I) .none) _ _ _;refine bB ?_;unfold Builtin.List.listItems;refine bB (wpAny_seqItems hS rfl (cF ?_));show bD _ _ (updateSeq s.heap.objs.size (fun _=>#[]) >>= fun _=>letGo (#[]:Array Value).toList.reverse >>= fun _=>Builtin.List.listExtendWith (.ref s.heap.objs.size) (.ref I) .none) _ _ _;refine bB (wpAny_updateSeq hS rfl ?_);have hS₂:=lD (Obj.mapSeq (fun _=>(#[]:Array Value))) hS rfl
 have oth:∀b o,s.heap.get? b=some o->((s.heap.push { cls:=.type "list",data:=.seq #[] }).update s.heap.objs.size (Obj.mapSeq (fun _=>(#[]:Array Value)))).get? b=some o :=
  fun b o e=>(dP _ _ (Ne.symm (bN (bC e)))).trans (aI _ e)
 refine bB (wpAny_letGo ?_);have W:=Walks.listRev (prog:=prog) (w:=w) (A:=A.in1.in1) hh I l hne items
 have hst:0<=items.size/\Heap.IsRevIter ((s.heap.push { cls:=.type "list",data:=.seq #[] }).update s.heap.objs.size (Obj.mapSeq (fun _=>(#[]:Array Value)))) I l ((items.size:Int)-1-((0:Nat):Int))/\Heap.IsList ((s.heap.push { cls:=.type "list",data:=.seq #[] }).update s.heap.objs.size (Obj.mapSeq (fun _=>(#[]:Array Value)))) l items :=
  ⟨dA _,by simpa using hit.at fun o e=>oth _ o e,hl.at fun o e=>oth _ o e⟩
 generalize (s.heap.push { cls:=.type "list",data:=.seq #[] }).update s.heap.objs.size (Obj.mapSeq (fun _=>(#[]:Array Value)))=hp at *;have hT:({ s with heap:=hp }: aC).TypeIs (.ref I) "list_reverseiterator":=hst.2.1.typeIs (s:={ s with heap:=hp });unfold Builtin.List.listExtendWith;refine bB (wpAny_typeOf hT ?_)
 have h1:Builtin.List.listSameRef (.ref s.heap.objs.size) (.ref I)=false:=by
  have : ¬s.heap.objs.size=I:=pE hI;simp[Builtin.List.listSameRef,this]
 rw[if_neg (by rw[h1];decide)];refine bB (tX (s:={ s with heap:=hp }) hst.2.1 ?_);refine bB (pA (rv_hint hT ?_));refine wpAny_ite_split (fun z=>absurd z (by decide)) fun _=>?_;refine cF ⟨plainId_quiet PySem.F.plain_extend_loop _,codeAny_extend_loopS W.toS hn s.heap.objs.size (fun z=>by simp only[aE,oM,or_false] at z;exact z.elim (pE hI) (pE hlt)) _ items.size 0 _ #[] _ rfl (dA _) hst hS₂ (ItemsOf.nil _) fun s' acc' c' hm hS' hacc=>?_⟩;rw[Moved.eq_with hm];refine⟨rfl,hQ s'.heap s'.toks acc' c' (fun b o hb e=>hm.heap b o (fun hmem=>?_) (oth b o e)) hS' hacc⟩;have hbs:=bN (bC e);simp only[aE,oM,or_false] at hmem;rcases hmem with z | z
 . exact hbs z
 . exact hb z
end
section
variable{X:Cx}
def tLrev(X:Cx)(ta:TA):TE:=fun σ H Q=>ta σ H fun vs H1=>∃a xs,vs=[.ref a]/\SqL X.K H1 a xs/\∀p,H1 p=none->Q (.ref p) (upd H1 p (.lst xs.reverse))
theorem pe_lrev{a:Expr}{ta:TA}{p p2 pos pos2:Pos}(hc:X.calm=true)(hgl:Gl X "list")(hml:X.mg "list" = none)(hg:Gl X "reversed")(hm:X.mg "reversed" = none)(ha:PA X [a] ta)(hl:aF [.Call (.Name "reversed" p2) [a] [] pos2] X.env=[(false,bM (.Call (.Name "reversed" p2) [a] [] pos2) X.env)]:=by rfl)(hs:aF [a] X.env=[(false,bM a X.env)]:=by rfl) :
  PE X (.Call (.Name "list" p) [.Call (.Name "reversed" p2) [a] [] pos2] [] pos) (tLrev X ta):=by
 intro aB s σ H Q I h;refine gG (kB I hgl hml (show fQ "list" = some (.type "list") by decide +kernel) ?_);refine dX ?_ hl rfl;rw[hl];show bD _ _ (spliced ((false,bM (.Call (.Name "reversed" p2) [a] [] pos2) X.env)::cN pos [])) _ _ s;refine Calls.spliced_cons ?_;refine Call_ (kB I hg hm (show fQ "reversed" = some (.type "reversed") by decide +kernel) (dX (thn (ha pos2 aB s σ H _ I h) fun us s1 zq=>?_) hs rfl));obtain⟨vs,H1,I1,r1,q1⟩:=zq;obtain⟨a,xs,e,hq,q⟩:=q1;subst e;obtain⟨u,rfl,ru⟩:=vals1 r1;cases ru;obtain⟨its,rv,pl,hz⟩:=I1.list hq;have hlen:=rv.length;refine call_reversed_list pl.isList ?_;refine Calls.spliced_nil ?_;have I2:Inv X aB σ H1 { s1 with heap:=s1.heap.push (BE a ((its.toArray.size:Int)-1)),toks:=s1.toks }:=I1.kept fun b o e=>aI _ e;have hla:a<s1.heap.objs.size:=let ⟨_,ho,_⟩:=pl.isList;bC ho;refine rv_call (I:=s1.heap.objs.size) (l:=a) (items:=its.toArray) (I.ok.hd hc) (bN hla) ⟨_,aW _ rfl,rfl,rfl⟩ (pl.isList.at fun o e=>aI _ e) (by simp only[bA];omega) fun h' tk acc' c' hk hS hacc=>?_
 have hv:Vals xs.reverse acc'.toList:=by
  refine QW (by simp only[eJ,fO];rw[hacc.1];simp only[bA];omega) fun j u e=>?_;have e2:=hacc.2 j u (by rw[<- kY];exact e);have hj:j<acc'.toList.length:=(aT.mp e).1;have hj2:j<its.length:=by simp only[fO] at hj;rw[hacc.1] at hj;simpa using hj
  simp only[bA,List.getElem?_toArray] at e2;have hx:xs[xs.length-1-j]?=some (xs[xs.length-1-j]'(by omega)):=bJ (by omega);obtain⟨u',hu',ru⟩:=rv.get hx;rw[hlen,e2] at hu';cases hu';exact⟨_,by rw[lC (by omega)];exact hx,ru⟩
 generalize hN:(s1.heap.push (BE a ((its.toArray.size:Int)-1))).objs.size=N at *;have hlt:s1.heap.objs.size<N:=by rw[<- hN];exact bC (o:=BE a ((its.toArray.size:Int)-1)) (aW _ rfl)
 have fr:H1 N=none:=by rw[<- hN];exact I2.hok.fresh (aR _)
 have I3:Inv X aB σ (upd H1 N (.lst xs.reverse)) { s1 with heap:=(s1.heap.push (BE a ((its.toArray.size:Int)-1))).push { cls:=.type "list",data:=.seq acc' c' },toks:=tk }:=by
  refine Inv.laid (s:={ s1 with heap:=s1.heap.push (BE a ((its.toArray.size:Int)-1)),toks:=s1.toks }) I2 (fun b u e=>aI _ e) (iU hN) (show ObjOk X.prog X.w _ _ _ (.lst xs.reverse) from ⟨by simpa using hz,acc'.toList,c',hv,?_⟩);rw[<- hN,Array.toArray_toList];exact aW _ rfl
 have I4:Inv X aB σ (upd H1 N (.lst xs.reverse)) { s1 with heap:=h',toks:=tk }:=by
  refine Inv.turnedS (s:={ s1 with heap:=(s1.heap.push (BE a ((its.toArray.size:Int)-1))).push { cls:=.type "list",data:=.seq acc' c' },toks:=tk }) I3 (h':=h') (t':=tk) (ch:=[s1.heap.objs.size]) (fun b o hb q=>?_) (fun b hb=>?_)
  . have hb' : b ≠ s1.heap.objs.size := fun z => hb (by rw [z]; exact .head _)
    by_cases hbN:b=N
    . subst hbN;have q':((s1.heap.push (BE a ((its.toArray.size:Int)-1))).push { cls:=.type "list",data:=.seq acc' c' }).get? b=some o:=q;rw[<- hN,aW _ rfl] at q';cases q';exact hS
    . have q' : ((s1.heap.push (BE a ((its.toArray.size : Int)-1))).push { cls := .type "list", data := .seq acc' c' }).get? b=some o := q;rw[XH _ _ _ (by rw[hN];exact hbN)] at q';exact hk b o hb' q'
  . rw[aQ.mp hb];exact I1.fpOk (aR _) (by rw[upd_ne (bN hlt)];exact I1.hok.fresh (aR _))
 exact⟨.ref N,_,I4,rfl,q N fr⟩
end
section
variable{X:Cx}
end
noncomputable def ItV(d:aA)(o:Obj)(kvs:List (Key×V)):It :=
 ⟨fun i H=>H d=some (.frz o (.dK kvs))/\i<kvs.length,fun i H v H'=>H'=H/\∃k,kvs[i]?=some (k,v),fun i H=>H d=some (.frz o (.dK kvs))/\kvs.length<=i⟩
theorem OO{P:aZ}{w:bK}{K:aJ}{tg:Expr}(it d:aA)(o:Obj)(kvs:List (Key×V)){en:Array DictEntry}{ep:Nat}(dat:o.data=.dict en ep) :
  Turn P w K tg (ItV d o kvs) [it] it (fun i h=>h.IsValIter it d i kvs.length ep) where
 mem:=by simp
 obj:=fun i h st b hb=>by
  rw[aQ.mp hb];obtain⟨q,e,c,dt⟩:=st;exact⟨q,e,fun v z=>by rw[dt] at z;cases z⟩
 keep:=fun i h h' st k=>let ⟨q,e,r⟩:=st;⟨q,k it (by simp) _ e,r⟩
 item:=by
  intro X hP hw hK hc i aB s σ H E I hf st hg;subst hP hw hK;obtain⟨hd,hi⟩:=hg;obtain⟨vs,rel,hat⟩:=xO I hd dat;have hl:=rel.length;obtain⟨k,x,hx⟩:∃k x,kvs[i]?=some (k,x):=⟨kvs[i].1,kvs[i].2,bJ hi⟩
  obtain⟨u,hu,ru⟩:=rel.get hx;obtain⟨f0,f1,f2,f3,f4,f5⟩:=hf it (by simp);rw[hl] at st;refine wpAny_pyNext_values_item st hat hu fun h' st' sb=>?_;have I1:Inv X aB σ H { s with heap:=h' }:=I.turned (t':=s.toks) (fun b o hb e=>(sb.2 b hb).trans e) f0 f1 f3 f4 f5;obtain⟨q,e,c,dt⟩:=id st';exact⟨u,rfl,IJ (s:={ s with heap:=h' }) e c dt (by decide) ⟨x,H,I1,ru,⟨rfl,k,hx⟩,by rw[hl];exact st',fun b hb=>(hf b hb).1⟩⟩
 done:=by
  intro X hP hw hK hc i aB s σ H E I hf st hg;subst hP hw hK;obtain⟨hd,hi⟩:=hg;obtain⟨vs,rel,hat⟩:=xO I hd dat;have hl:=rel.length;obtain⟨f0,f1,f2,f3,f4,f5⟩:=hf it (by simp);rw[hl] at st;exact wpAny_pyNext_values_end (I.ok.hd hc) st hat (bV (by omega)) fun h' eb=>⟨rfl,I.turned (t':=s.toks) (fun b o hb e=>eb b o hb e) f0 f1 f3 f4 f5⟩
 self:=fun _ _ _ _ _ st h=>wpAny_pyIter_valiter st h
section
variable{X:Cx}
def iDV(to:TE):TI:=fun σ H R=>to σ H fun x H1=>∃d o kvs,x=.ref d/\H1 d=some (.frz o (.dK kvs))/\R (ItV d o kvs) H1
theorem aAj{tg oe:Expr}{to:TE}{apos pos:Pos}(ho:PE X oe to)(hbase:cW oe "values" X.env (bM oe X.env)=bM oe X.env:=by rfl)(hline:(apos.endLine==pos.line)=true:=by rfl) :
  PI X tg (.Call (.Attribute oe "values" apos) [] [] pos) (iDV to):=by
 intro aB s σ H R I h;refine rE hbase hline (thn (ho aB s σ H _ I h) fun v s1 zq=>?_);obtain⟨x,H1,I1,r1,d,o,kvs,ex,hd,q⟩:=zq;subst ex;obtain rfl:v=Value.ref d:=r1;obtain⟨hob,z,hds,vs,rel,dd⟩:=I1.hok d _ hd;obtain⟨o',en,ep,e1,exd,dat,r⟩:=id dd;rw[hob] at e1;cases e1;have hat:s1.heap.DictAt (eM X.prog X.w) d vs ep:=⟨o,en,hob,exd,dat,r⟩
 refine⟨"dict","dict.values",EX,EU,PySem.F.type_dict_values,⟨o,hob,exd.1⟩,fun a e2=>?_,Calls.callWith_builtin rfl (rM (call_meetsIn EU dd.typeIs PySem.F.entry_dict_values (PySem.F.args_dict_values_1 _) (meets_dict_values (eM X.prog X.w) d hds) ⟨⟨vs,dd⟩,?_⟩))⟩
 . cases e2;exact⟨o,hob,exd.2.1⟩
 . refine wpAny_pyIter_values (v := s1.heap.objs.size) ⟨_, aW _ rfl, rfl, rfl⟩ (hat.push _) ?_;have I2:Inv X aB σ H1 { s1 with heap:=s1.heap.push { cls:=.type "dict_values",data:=.fields #[.ref d] } }:=I1.kept (t':=s1.toks) fun b o e=>aI _ e;refine ⟨_,[_],_,_,H1,rfl,I2.kept (t':=s1.toks) fun b o e=>aI _ e,OO _ d o kvs dat,?_,fun c hc=>?_,q⟩
   . rw[rel.length];exact⟨_,aW _ rfl,rfl,rfl⟩
   . rw[aQ.mp hc];exact I2.fpOk (aR _) (I2.hok.fresh (aR _))
end
end L2
namespace FL
open PySem PySem.Spec PyProof.Rows L2
section
variable{X:Cx}
theorem Reps.rev{K:Frag}{H:Hp}{O:aA->Prop}:∀{xs:List V} {l:List D},Reps K H O xs l->Reps K H O xs.reverse l.reverse
 |_,_,.nil=>.nil
 |_,_,.cons h t=>by rw[nN,nN];exact(Reps.rev t).append (.cons h .nil)
theorem ZK{e:Expr}{f:FE}{p p2 pos pos2:Pos}(hc:X.calm=true)(hml:X.mg "list" = none)(hm:X.mg "reversed" = none)(h:PV X e f)(hgl:Gl X "list":=by rfl)(hg:Gl X "reversed":=by rfl)(hl:aF [.Call (.Name "reversed" p2) [e] [] pos2] X.env=[(false,bM (.Call (.Name "reversed" p2) [e] [] pos2) X.env)]:=by rfl)(hs:aF [e] X.env=[(false,bM e X.env)]:=by rfl) :
  PVf X (.Call (.Name "list" p) [.Call (.Name "reversed" p2) [e] [] pos2] [] pos) (revA f):=by
 obtain⟨t,ht,hf⟩:=zE h zQ hs;refine⟨_,pe_lrev hc hgl hml hg hm ht hl hs,fun H₀ H O σ ds hd l Q o e q=>?_⟩;unfold revA at e;obtain⟨d,h1,e⟩:=bnd e;cases d<;>first | (cases e;done) | skip
 rename_i l;cases e;refine hf H₀ H O σ ds hd [.lst l] _ o (by simp[zB,h1,zV]) fun vs H' s r=>?_;cases r with
 | cons r1 rr =>
   cases rr;obtain⟨a,xs,rfl,hq,rs⟩:=WRep.seqL (.inl r1);refine⟨a,xs,rfl,hq,fun p hp=>q p _ _ (s.trans (qH hp _)) (s.free hp) zX ?_⟩;exact((rs.rev).more hp).mono (qH hp _)
end
section
variable{X:Cx}
section
variable{scope:Scope}{NY:List Str}{mp:List (Option Nat)}{tg iter elt:Expr}{ifs:List Expr}{pos:Pos}{fi:FA}{ga:D->List Sl->Option (List Sl)}{tt:FT}{fe:FE}
theorem WQ{wi:TI}{g:CI->TG}{t1:CI->TT}{t2:CI->TE}(hi:∀H₀ H O σ ds hd items R,Ok X.K H₀ H O σ ds hd->fi ds=some items->(∀J p H',Same H H'->HOk X.K H₀ H' O p->(∀k a,HI.root k a≠p)->(∀B,HI.base B≠p)->WlkD X.K J p items->R J H')->wi σ H R)(hg:∀c H₀ H O σ ds hd v d ds' Q,Ok X.K H₀ H O σ ds hd->Rep X.K H O v d->ga d ds=some ds'->(∀σ',Ok X.K H₀ H O σ' ds' hd->Q σ' H)->g c v σ H Q)(ht:∀c H₀ H O σ ds hd b Q,Ok X.K H₀ H O σ ds hd->tt ds=some b->(∀H',Same H H'->Q b H')->t1 c σ H Q)(he:∀c H₀ H O σ ds hd d Q,Ok X.K H₀ H O σ ds hd->fe ds=some d->(∀v H',Same H H'->Rep X.K H' O v d->Q v H')->t2 c σ H Q) :
  ∀H₀ H O σ ds hd l Q,Ok X.K H₀ H O σ ds hd->compG fi mp ga tt fe ds=some l →
   (∀a xs H',Same H H'->H a=none->H' a=some (.lst xs)->Reps X.K H' (ins1 a O) xs l->Q (.ref a) H')->tComp wi mp g t1 t2 σ H Q:=by
 intro H₀ H O σ ds hd l Q o e q;unfold compG at e;obtain⟨items,h1,e⟩:=bnd e
 split at e
 . rename_i hsz;refine hi H₀ H O σ ds hd items _ o h1 fun J p H1 s1 r1 nr nb wk=>fun c=>?_;have oI:Ok X.K H₀ H1 O (hW mp σ) (qZ mp ds) (p::hd):=((o.mono s1).holdMore (p:=p) r1 nr).inner mp
   refine⟨fun i m ys H2=>i<=items.length/\m=items.length-i/\Same H1 H2/\ys.length<=i/\∃l' rest,Reps X.K H2 O ys l'/\compL ga tt fe (qZ mp ds) (items.drop i)=some rest/\l=l'++rest,
    ⟨items.length,dA _,rfl,Same.refl _,aR _,[],l,.nil,by simpa using e,rfl⟩,?_⟩
   rintro i m ys H2 ⟨hi1,rfl,s2,hy,l',rest,ry,er,el⟩;have o2:=oI.mono s2;obtain⟨go,stop⟩:=wk H₀ H2 O o2.dom (o2.hold p aV)
   by_cases hlt:i<items.length
   . right;have hd0:items[i]? = some items[i]:=bJ hlt;obtain ⟨hgo,hyl⟩:=go i _ hd0;refine ⟨hgo,by omega,fun x H3 y=>?_⟩;obtain ⟨s3,r3⟩:=hyl x H3 y;rw [dD hlt,compL] at er;obtain ⟨ds1,h2,er⟩:=bnd er;refine hg c H₀ H3 O _ _ (p::hd) x _ ds1 _ (o2.mono s3) r3 h2 fun σ' o3=>?_;obtain ⟨b,h3,er⟩:=bnd er;refine ht c H₀ H3 O σ' ds1 (p::hd) b _ o3 h3 fun H4 s4=>?_;cases b with
     | false =>
       refine iteF ⟨items.length-(i+1),by omega,hlt,rfl,(s2.trans s3).trans s4,YG hy,l',rest,(ry.mono s3).mono s4,by simpa using er,el⟩
     | true =>
       refine iteT ?_;simp only[if_true] at er;obtain⟨yd,h4,er⟩:=bnd er;cases h5:compL ga tt fe (qZ mp ds) (items.drop (i+1)) with
       |none=>rw[h5] at er;cases er
       | some rest' =>
         rw[h5] at er;cases er;refine he c H₀ H4 O σ' ds1 (p::hd) yd _ (o3.mono s4) h4 fun v H5 s5 r5=>?_;refine⟨items.length-(i+1),by omega,hlt,rfl,((s2.trans s3).trans s4).trans s5,by simp;omega,l'++[yd],rest',(((ry.mono s3).mono s4).mono s5).append (.cons r5 .nil),h5,?_⟩;rw[el];simp
   . left;have ei:i=items.length:=by omega
     subst ei;rw[oN,compL] at er;cases er;rw[fE] at el;subst el;refine⟨stop,by omega,fun a ha=>?_⟩;refine q a ys _ ((s1.trans s2).trans (qH ha _)) ((s1.trans s2).free ha) zX ?_;exact(ry.more ha).mono (qH ha _)
 . cases e
end
theorem UI{K:Frag}{d:aA}{o:Obj}{kvs:List (Key×V)}{l:List D}: WlkD K (ItV d o kvs) (.fz d o kvs l) l:=by
 intro H₀ H O dom ⟨n,hd,rs⟩;have hl:l.length=kvs.length:=by rw[<- rs.length];simp
 refine⟨fun i x hx=>?_,⟨hd,by rw[hl];exact aR _⟩⟩;have lt:i<kvs.length:=by rw[<- hl];exact(aT.mp hx).1
 refine⟨⟨hd,lt⟩,fun v H' zq=>?_⟩;obtain⟨e,k,hk⟩:=zq;subst e;have h2:(kvs.map (·.2))[i]?=some v:=by rw[aX,hk];rfl
 obtain⟨y',h4,h5⟩:=rs.get hx;rw[h2] at h4;cases h4;exact⟨Same.refl _,h5⟩
theorem aAi{tg oe:Expr}{f:FE}{apos pos:Pos}(h:PV X oe f)(hbase:cW oe "values" X.env (bM oe X.env)=bM oe X.env:=by rfl)(hline:(apos.endLine==pos.line)=true:=by rfl) :
  PId X tg (.Call (.Attribute oe "values" apos) [] [] pos) (valsA f):=by
 obtain⟨t,ht,hf⟩:=h;refine⟨_,aAj ht hbase hline,fun H₀ H O σ ds hd items R o e q=>?_⟩;unfold valsA at e;obtain⟨x,h1,e⟩:=bnd e;refine hf H₀ H O σ ds hd x _ o h1 fun v H1 s1 r1=>?_;cases x<;>first | (cases e;done) | skip
 cases e;cases r1 with
 |@dcf a ob kvs _ _ n hb ek rs=>exact⟨a,ob,kvs,rfl,hb,q _ (.fz a ob kvs _) H1 s1 ⟨n,hb,rs⟩ (fun _ _ z=>by cases z) (fun _ z=>by cases z) UI⟩
theorem PVo.n{e:Expr}{f:FO}(h:PVo X e f):PVn X e (seeO f):=by
 obtain⟨t,ht,hf⟩:=h;refine⟨t,ht,fun H₀ H O σ ds hd d Q o e q=>?_⟩;unfold seeO at e;obtain⟨T,h1,rfl⟩:=mpd e;exact hf H₀ H O σ ds hd T Q o h1 fun v H' fs s r nd hn=>q v H' s (r.frz fun a z=>z.elim)
end
section
variable{X:Cx}
end
end FL
namespace L2
open PySem PySem.Spec PyProof.Rows
section
variable{X:Cx}
end
end L2
namespace FL
open PySem PySem.Spec PyProof.Rows L2
section
variable{X:Cx}
end
section
variable{prog:aZ}{w:bK}{A:bO}{E:Value->aC->Prop}{s:aC}
end
section
variable{X:Cx}{tg:Expr}
end
section
variable{K:Frag}{H H' H₀ : Hp}{O O':aA->Prop}
theorem ok_lend{σ : L2.St}{ds:List Sl}{p:Nat}{a:aA}{T:OT}{fs:List aA}{B:aA->Prop}(rt:RepO K H (orL fs B) (.ref a) T fs)(nd:fs.Nodup)(hB:∀b,B b->b∉fs/\∃u:MutHO,H b=some u.1)(hl : σ.length=ds.length)(hp:ds[p]?=some (.ob (some p) T))(ha : σ[p]?=some (some (.ref a)))(ho:∀(j:Nat) (s:Sl),j≠p->ds[j]?=some s->s=.no\/∃d v,s=.v d/\σ[j]?=some (some v)/\Rep K H (orL fs B) v d) :
  Ok K (cutH fs H) H (orL fs B) σ ds [.root p a,.base B]:=by
 have no:∀{j:Nat},¬IsOwn ds j:=fun {j} ⟨l,e⟩=>by
  by_cases hj:j=p
  . subst hj;rw[hp] at e;cases e
  . rcases ho j _ hj e with h | ⟨d,v,h,_⟩<;>cases h
 have nob:∀{j:Nat} {r:Option Nat} {t:OT},ds[j]?=some (.ob r t)->j=p:=fun {j r t} e=>by
  by_cases hj:j=p
  . exact hj
  . rcases ho j _ hj e with h | ⟨d,v,h,_⟩<;>cases h
 refine⟨fun b u e=>?_,fun i l' a' e _=>(no ⟨l',e⟩).elim,fun b hb=>hb.elim (fun z=>(rt.owns b z).2) fun z=>(hB b z).2,hl,fun i s e=>?_,fun i j a _ hi _ _ _=>(no hi).elim,fun q hq=>?_,?_⟩
 . by_cases z : b ∈ fs
   . rw[CA z] at e;cases e
   . rwa [yY z] at e
 . by_cases hi : i = p
   . subst hi;rw[hp] at e;cases e;exact yM
   . rcases ho i s hi e with rfl | ⟨d, v, rfl, e2, r⟩
     . exact jF
     . rw[e2];exact yE r
 . rcases aE.mp hq with rfl | hq
   . exact True.intro
   . cases aQ.mp hq;refine fun b hb=>⟨.inr hb,fun z=>?_⟩
     obtain⟨n,u,e⟩:=hB b hb;rw[yY n,e] at z;cases z
 . refine ⟨fun _ => fs, fun i r' t' e => ?_⟩;cases nob e;rw [hp] at e;cases e;refine ⟨.ref a,ha,rt,fun k a' ek h=>?_,nd,fun b hb=>⟨CA hb,fun j r2 t2 hj e2=>(hj (nob e2)).elim,fun j oj=>(no oj).elim⟩⟩;cases ek;rcases aE.mp h with h | h
   . cases h;rfl
   . cases aQ.mp h
theorem Ok.lendEnd{σ : L2.St}{ds:List Sl}{hd:Hold}{p:Nat}{a:aA}{T:OT}{fs:List aA}{B:aA->Prop}(o:Ok K (cutH fs H) H' O' σ ds hd)(e:ds[p]?=some (.ob (some p) T))(h1:HI.root p a∈hd)(h2:HI.base B∈hd) :
  ∃fs',(∀b u,b∉fs->H b=some u->H' b=some u)/\RepO K H' (orL fs' B) (.ref a) T fs'/\fs'.Nodup/\(∀b∈fs',b∈fs\/H b=none)/\∀b,orL fs' B b->O' b:=by
 obtain⟨F',hF⟩:=o.obs;obtain⟨v,y1,y2,y3,y4,y5⟩:=hF p _ _ e;cases y3 p a rfl h1;have hb:=o.hold (.base B) h2;have sub:∀b,orL (F' p) B b->O' b:=fun b z=>z.elim (fun z=>(y2.owns b z).1) fun z=>(hb b z).1;exact⟨F' p,fun b u nb eb=>o.same b u (by rw[yY nb];exact eb),y2.less sub fun b z=>.inl z,y4,fun b z=>IP (y5 b z).1,sub⟩
theorem aCo{fs fs':List aA}{B:aA->Prop}(h1:∀b,O b->b∈fs\/B b)(h2:∀b∈fs,O b)(h3:∀b,B b->O b)(k1:∀b u,b∉fs->H b=some u->H' b=some u)(k4:∀b∈fs',b∈fs\/H b=none):Chg H H' O (orL fs' B) fs fs' :=
 ⟨fun b u nb eb=>k1 b u (fun z=>nb (h2 b z)) eb,fun b u _ nb eb=>k1 b u nb eb,fun b z nb=>.inr ((h1 b z).resolve_left nb),fun b z=>z.elim (fun z=>(k4 b z).elim (fun y=>.inl (h2 b y)) fun y=>.inr ⟨z,y⟩) fun z=>.inl (h3 b z),k4⟩
theorem Ok.lendAt{σ : L2.St}{ds:List Sl}{hd:Hold}{i:Nat}{r:Option Nat}{T:OT}(o:Ok K H₀ H O σ ds hd)(e:ds[i]?=some (.ob r T))(hT:refO T=true) :
  ∃(a:aA) (fs:List aA),σ[i]?=some (some (.ref a))/\RepO K H O (.ref a) T fs/\fs.Nodup/\(∀b∈fs,O b) ∧
   ∀{H':Hp} {T':OT} {fs':List aA},(∀b u,b∉fs->H b=some u->H' b=some u)->RepO K H' (orL fs' (fun b=>O b/\b∉fs)) (.ref a) T' fs'->fs'.Nodup->(∀b∈fs',b∈fs\/H b=none) →
    Ok K H₀ H' (orL fs' (fun b=>O b/\b∉fs)) σ (ds.set i (.ob r T')) hd:=by
 obtain⟨v,w,f,y1,y2,y3,y4,y5,y6⟩:=o.modAt (p:=[]) e rfl;cases y2;have ow:∀b∈f,O b:=fun b z=>(y3.owns b z).1
 have hv:∃a,v=.ref a:=by
  cases y3 with
  |val _=>cases hT
  |lst _ _ _=>exact⟨_,rfl⟩
  |tup _ _ _=>exact⟨_,rfl⟩
  |dct _ _ _ _=>exact⟨_,rfl⟩
  |ins _ _ _ _ _=>exact⟨_,rfl⟩
 obtain⟨a,rfl⟩:=hv;refine⟨a,f,y1,y3,y4,ow,fun {H' T' fs'} k1 k2 k3 k4=>?_⟩;have:=y6 (aCo (B:=fun b=>O b/\b∉f) (fun b z=>(Classical.em (b∈f)).imp id fun y=>⟨z,y⟩) ow (fun b z=>z.1) k1 k4) (fun b z y=>y.elim (fun y=>(k2.owns b y).2) fun y=>(y.2 z).elim) k2 k3;exact this
end
noncomputable def spR(K:Frag)(n p:Nat)(F:OT->List D->Option (D×OT)):Sp:=fun vs H Q _=>vs.length=n/\∃(a:aA) (T T':OT) (d:D) (fs:List aA) (B:aA->Prop) (l:List D),vs[p]?=some (.ref a)/\l.length=n/\RepO K H (orL fs B) (.ref a) T fs/\fs.Nodup ∧
 (∀b,B b->b∉fs/\∃u:MutHO,H b=some u.1)/\(∀(j:Nat) (d:D),j≠p->l[j]?=some d->∃v,vs[j]?=some v/\Rep K H (orL fs B) v d)/\F T l=some (d,T') ∧
 ∀v H' fs',(∀b u,b∉fs->H b=some u->H' b=some u)->RepO K H' (orL fs' B) (.ref a) T' fs'->fs'.Nodup->(∀b∈fs',b∈fs\/H b=none)->Rep K H' (orL fs' B) v d->Q v H'
section
variable{X:Cx}
variable(X) in
def PRv(ss:List Stmt)(f:FX):Prop:=∃t,PSs X ss t/\∀H₀ H O σ ds hd d ds' (E:Ends),Ok X.K H₀ H O σ ds hd->f ds=some (d,ds')->(∀v σ' H' O',Ok X.K H₀ H' O' σ' ds' hd->Rep X.K H' O' v d->E.rt v H')->t E σ H
theorem ZG{e:Expr}{f:FE}(h:PV X e f):PVx X e (vR f):=by
 obtain⟨t,ht,hf⟩:=h;refine⟨t,ht,fun H₀ H O σ ds hd d ds' Q o e q=>?_⟩;unfold vR at e;obtain⟨d,h1,e⟩:=mpd e;cases e;exact hf H₀ H O σ ds hd _ _ o h1 fun v H' s r=>q v H' O (o.mono s) r
theorem prv_ret{e:Expr}{pos:Pos}{f:FX}(h:PVx X e f):PRv X [.Return (some e) pos] f:=by
 obtain⟨t,ht,hf⟩:=h;refine⟨_,BR (uM ht),fun H₀ H O σ ds hd d ds' E o e q=>?_⟩;exact hf H₀ H O σ ds hd d ds' _ o e fun v H' O' o' r=>q v σ H' O' o' r
theorem jH{st:Stmt}{rest:List Stmt}{g:FS}{f:FX}(h1:PSv X st g)(h2:PRv X rest f):PRv X (st::rest) (seqR g f):=by
 obtain⟨t,ht,hg⟩:=h1;obtain⟨u,hu,hf⟩:=h2;refine⟨_,wR ht hu,fun H₀ H O σ ds hd d ds' E o e q=>?_⟩;unfold seqR at e;obtain⟨out,h1,e⟩:=bnd e;cases out with
 | nx ds2 =>
   simp only at e;refine hg H₀ H O σ ds hd _ _ o h1 fun σ' H' O' o'=>?_;exact hf H₀ H' O' σ' ds2 hd d ds' E o' e q
 |_=>cases e
theorem prv_if{c:Expr}{a rest:List Stmt}{pos:Pos}{fc:FT}{f g:FX}(hc:PTv X c fc)(ha:PRv X a f)(hb:PRv X rest g):PRv X (.If c a [] pos::rest) (ifR fc f g):=by
 obtain⟨tc,pc,hc⟩:=hc;obtain⟨t,ht,hf⟩:=ha;obtain⟨u,hu,hg⟩:=hb;refine⟨_,wR (RN pc ht RM) hu,fun H₀ H O σ ds hd d ds' E o e q=>?_⟩;unfold ifR at e;obtain⟨k,h1,e⟩:=bnd e;refine hc H₀ H O σ ds hd k _ o h1 fun H' s=>?_;cases k with
 |true=>exact iteT (hf H₀ H' O σ ds hd d ds' _ (o.mono s) (by simpa using e) q)
 |false=>exact iteF (hg H₀ H' O σ ds hd d ds' E (o.mono s) (by simpa using e) q)
end
theorem SW{P:aZ}{w:bK}{K:Frag}{mg:Str->Option Value}{base:Heap}{x qual:Str}{st:Stmt}{f:aA}{fd:aH}{N ps:List Str}{k p:Nat}{F:OT->List D->Option (D×OT)}(Fn:Fun K x qual st f fd)(S:FnScope N ps (zH st)){g:FX}(hbody:∀(cdv:Value) (A:bO) (outer:List Env) (s:aC) (H:Hp) (E:XK),Room k (A.deeper (gD qual (zH st) s.heap.objs.size f cdv))->PRv (cxOf CX0 P w K mg base N qual (zH st) f cdv A outer s H E).nox (qT st) g)(hg:∀T l q,l.length=ps.length->F T l=some q->lentR g N.length p T l=some q)(hp:p<ps.length:=by decide)(hN:ps.length<=N.length:=by decide):FnOk P w K mg base CX0 (k+1) f fd ps (spR K ps.length p F):=by
 refine Fn.ok S (fun vs H Q E h=>h.1) (fun cdv A outer s H vs Q E hr h=>?_);obtain⟨hl,a,T,T',d,fs,B,l,ha,ll,rt,nd,hB,ra,e,q⟩:=h;obtain⟨t,ht,hf⟩:=hbody cdv A outer s H E hr;refine⟨t,ht,?_⟩;have hlen:(args N.length l).length=N.length:=by simp[args];omega
 have o:Ok K (cutH fs H) H (orL fs B) (L2.start N vs) ((args N.length l).set p (.ob (some p) T)) [.root p a,.base B]:=by
  refine ok_lend rt nd hB ?_ ?_ ?_ fun j s' hj es=>?_
  . rw[List.length_set,hlen];simp only[L2.start,bR,bU,pK];omega
  . rw[aS (by rw[hlen];omega)]
  . simp only[L2.start];rw[aU (by simp;omega),aX,ha];rfl
  . rw [aD (Ne.symm hj)] at es;unfold args at es
    by_cases hjl:j<l.length
    . rw[aU (by simpa using hjl), aX, bJ hjl] at es;cases es;obtain⟨v,h1,h2⟩:=ra j _ hj (bJ hjl);refine .inr ⟨_,v,rfl,?_,h2⟩;simp only[L2.start];rw[aU (by simp;omega),aX,h1];rfl
    . rw [bS (by simpa using hjl), cX] at es
      split at es
      . cases es;exact .inl rfl
      . cases es
 have e:=hg T l _ ll e;unfold lentR at e;cases h1:g ((args N.length l).set p (.ob (some p) T)) with
 |none=>rw[h1] at e;cases e
 | some z =>
   obtain⟨d2,ds2⟩:=z;rw[h1] at e;simp only[aO] at e;cases h2:ds2[p]? with
   |none=>rw[h2] at e;cases e
   | some s0 =>
     rw[h2] at e;cases s0 with
     | ob r T2 =>
       cases r with
       |none=>cases e
       | some i =>
         simp only[obAt] at e
         split at e
         . rename_i hi;subst hi;cases e;refine hf _ H _ _ _ _ _ _ _ o h1 fun v σ' H' O' o' r=>?_;obtain⟨fs',k1,k2,k3,k4,k5⟩:=o'.lendEnd h2 (.head _) (.tail _ (.head _));exact q v H' fs' k1 k2 k3 k4 (r.less k5)
         . cases e
     |_=>cases e
structure CalR(P:aZ)(w:bK)(K:Frag)(mg:Str->Option Value)(base:Heap)(x:Str)(k n p:Nat)(F:OT->List D->Option (D×OT)):Prop where
 ex:∃(f:aA) (fd:aH) (ps:List Str),FnOk P w K mg base CX0 k f fd ps (spR K n p F)/\Binds K fd ps []/\bF K (.ref f)=true/\mg x=some (.ref f)
section
variable{X:Cx}
variable(X) in
def PAx(i p:Nat)(es:List Expr)(g:FA):Prop:=∃t,PA X es t/\∀H₀ H O σ ds hd l r T v0 Q,Ok X.K H₀ H O σ ds hd->g ds=some l->ds[i]?=some (.ob r T)->σ[i]?=some (some v0) →
 (∀vs H',Same H H'->vs.length=l.length->vs[p]?=some v0->(∀(j:Nat) (d:D),j≠p->l[j]?=some d->∃v,vs[j]?=some v/\Rep X.K H' O v d)->Q vs H')->t σ H Q
theorem MM{i:Nat}{x:Str}{px:Pos}{es:List Expr}{g:FA}(hr:PAs X es g)(hN:X.N[i]?=some x:=by rfl)(hv:Vis X.env.scope x:=by first | exact Or.inl rfl | exact Or.inr (Or.inl rfl) | exact Or.inr (Or.inr rfl))(hd:(x==("__debug__" : Str))=false:=by decide)(hcd:(x==("__classdict__" : Str))=false:=by decide)(hs:aF (.Name x px::es) X.env=(false,bM (.Name x px) X.env)::aF es X.env:=by rfl):PAx X i 0 (.Name x px::es) (hereA g):=by
 obtain⟨t,ht,hg⟩:=hr;refine⟨_,jN (xI hN hv hd hcd) ht hs,fun H₀ H O σ ds hd l r T v0 Q o e e1 e2 q=>?_⟩;unfold hereA at e;obtain⟨l1,h1,rfl⟩:=mpd e;refine⟨v0,e2,hg H₀ H O σ ds hd l1 _ o h1 fun vs H' s rs=>?_⟩;refine q (v0::vs) H' s (by simp[rs.length]) rfl fun j d hj ej=>?_;cases j with
 |zero=>exact(hj rfl).elim
 |succ j=>exact rs.get ej
theorem HG{k j n i p:Nat}{F:OT->List D->Option (D×OT)}{x:Str}{pp pos:Pos}{e:Expr}{es:List Expr}{g:FA}(C:CalR X.prog X.w X.K X.mg X.base x k n p F)(hr:Room j X.A)(ha:PAx X i p (e::es) g)(hj:k<=j:=by decide)(hg:Gl X x:=by rfl)(hdb:(x==("__debug__" : Str))=false:=by decide)(he:aF (e::es) X.env=(false,bM e X.env)::aF es X.env:=by rfl)(hpl:(cN pos (aF es X.env)).any (·.1)=false:=by rfl) :
  PVx X (.Call (.Name x pp) (e::es) [] pos) (callR n i F g):=by
 obtain⟨t,ht,hf⟩:=ha;obtain⟨f,fd,ps,Fn,hb,hk,hm⟩:=C.ex;refine⟨_,JS (CX:=CX0) (E:=E0) Fn (hr.mono hj) hg hm hk hb .nil pass0 ht hdb he hpl,fun H₀ H O σ ds hd d ds' Q o e q=>?_⟩;unfold callR at e;obtain⟨l,h,e⟩:=bnd e;cases hs:ds[i]? with
 |none=>rw[hs] at e;cases e
 | some s =>
   rw[hs] at e;cases s with
   | ob r T =>
     simp only at e
     split at e
     . rename_i hc;obtain ⟨z,h2,e⟩:=mpd e;cases e;obtain ⟨a0,_,ea,_⟩:=o.lendAt hs hc.1;refine hf H₀ H O σ ds hd l r T _ _ o h hs ea fun vs H1 s1 hl hp rs=>?_;have o1:=o.mono s1;obtain ⟨a,fs,ea',rt,nd,ow,back⟩:=o1.lendAt hs hc.1;rw [ea] at ea';cases ea';have toO:∀ b,orL fs (fun b=>O b/\b ∉ fs) b->O b:=fun b z=>z.elim (ow b) fun z=>z.1;refine ⟨by simp only [fE]; rw [hl]; exact hc.2,a0,T,z.2,z.1,fs,fun b=>O b/\b ∉ fs,l,by simpa using hp,hc.2,rt.less toO (fun b z=>.inl z),nd,fun b z=>⟨z.2,o1.dom b z.1⟩,fun j d hj ej=>?_,h2,fun v H' fs' k1 k2 k3 k4 k5=>?_⟩
       . obtain⟨v, e1, e2⟩ := rs j d hj ej;exact⟨v,by simpa using e1,e2.less toO⟩
       . exact q v H' _ (back k1 k2 k3 k4) k5
     . cases e
   |_=>cases e
theorem DB{i:Nat}{x:Str}{e:Expr}{pos pos':Pos}{f:FX}(hN:X.N.Nodup)(he:PVx X e f)(hi:X.N[i]?=some x:=by rfl)(hx:Loc X.env.scope x:=by first | exact Or.inl rfl | exact Or.inr rfl)(hs:cV e (some (.Name x pos')) pos.line X.env=pure false:=by rfl)(hf:X.fn x=true\/X.env.scope.names.lookup x=some .local:=by first | exact .inl rfl | exact .inr rfl):PSv X (.Assign [.Name x pos'] e pos) (setR i f):=by
 obtain⟨t,ht,hg⟩:=he;refine⟨_,JP hN hi hx ht hs hf,fun H₀ H O σ ds hd out E o e h=>?_⟩;unfold setR at e;obtain⟨q,h1,rfl⟩:=mpd e;exact hg H₀ H O σ ds hd q.1 q.2 _ o h1 fun v H' O' o' r=>h _ _ _ (o'.set r)
section
variable{scope:Scope}{NY:List Str}{mp:List (Option Nat)}{tg iter elt:Expr}{pos:Pos}{fi:FA}{ga:D->List Sl->Option (List Sl)}{fe:FX}{i p:Nat}
end
end
section
variable{P:aZ}{w:bK}{K:Frag}{mg:Str->Option Value}{base:Heap}
theorem calR_mk{k n p:Nat}{x:Str}{f:aA}{fd:aH}{ps:List Str}{F:OT->List D->Option (D×OT)}(G:FnOk P w K mg base CX0 k f fd ps (spR K n p F))(b:Binds K fd ps [])(h:bF K (.ref f)=true)(m:mg x=some (.ref f)):CalR P w K mg base x k n p F:=⟨f,_,_,G,b,h,m⟩
theorem DefM.calR{k n p:Nat}{x:Str}{st:Stmt}{f:aA}{ps:List Str}{F:OT->List D->Option (D×OT)}(d:DefM K x st f)(X:SysAt P w base K mg)(hf:∀{fd},Fun K x x st f fd->FnOk P w K mg base CX0 k f fd ps (spR K n p F))(hb:∀(kV doc pm:Value) (an:Option aA) (cdv ct:Value) (us:List Value),us.length=ps.length->tZ (cT x x (jU st) (qT st) (zH st) .none kV doc pm an cdv ct) ⟨us,[]⟩=pure (ps.zip us):=by
    intro _ _ _ _ _ _;first | exact len0 rfl | exact len1 fun _=>rfl | exact len2 fun _ _=>rfl | exact len3 fun _ _ _=>rfl | exact len4 fun _ _ _ _=>rfl | exact len5 fun _ _ _ _ _=>rfl):CalR P w K mg base x k n p F :=
 by obtain⟨_,F1,a,c⟩:=d.get;obtain⟨_,X,G⟩:=X.ex;exact calR_mk (hf F1) (F1.binds hb) c (cK X G a)
end
open PySem.W (hideAll hideAll_get of_hideAll hideAll_none)
section
variable{M:UC}{A:bO}{E:Value->aC->Prop}{s:aC}{B:Heap}{l outer:List Env}{env:Env}{e L:aA}{cls a0 fl:Value}{Q:Unit->aC->Prop}
end
section
variable{X:Cx}{E:XK}{C:aA}
end
section
variable{X:Cx}{E:XK}{C:aA}{scope:Scope}{NY:List Str}{mp:List (Option Nat)}{tg iter elt:Expr}{pos:Pos}{fi:FA}{ga:D->List Sl->Option (List Sl)}{fe:FE}{x:List Sl->Bool}
end
section
variable{X:Cx}
end
end FL
namespace FL
open PySem PySem.Spec PyProof.Rows L2
structure MCalX(P:aZ)(w:bK)(K:Frag)(mg:Str->Option Value)(base:Heap)(m:Str)(t k n:Nat)(R:List D->Bool)(C:aA):Prop where
 no:m∉cH t
 ex:∃(B f:aA) (fd:aH) (ps:List Str),aP K aM (cQ t)=some (some (.ref B))/\Cls K B/\Meth K B m f/\FnOk P w K mg base (CXM P w) k f fd ps (spX K (n+1) R C)/\Binds K fd ps []
section
variable{X:Cx}{E:XK}{C:aA}{m:Str}{t k j n:Nat}{R:List D->Bool}{o e:Expr}{es:List Expr}{apos pos:Pos}{fo:FE}{g:FA}
theorem xT(st:List Stmt):QN X st:=⟨fun _ _ _=>False,fun _ _ _ _ _ _ h=>h.elim⟩
theorem OW{f:aA}{fd:aH}{ps:List Str}{N:Nat}(Fn:FnOk X.prog X.w X.K X.mg X.base (CXM X.prog X.w) k f fd ps (spX X.K N R C))(hr:Room k X.A)(hb:Binds X.K fd ps []){aB:List (aA×Obj)}{s1:aC}{σ : L2.St}{H H1:Hp}{us:List Value}{vs:List V}{l:List D}{Q:Value->aC->Prop}(I1:Inv X aB σ H1 s1)(r:Vals vs us)(q1:Same H H1)(q2:Reps X.K H1 jJ vs l)(hl:l.length=N)(hR:R l=true)(W:∀ea a0 B H1 H' s1 s',Inv X aB σ H1 s1->Same H H1->Same H1 H'->Thrown X.prog X.w X.stack H1 s1 (.ref C) ea a0 B H' s'.heap->s'.os=s1.os->iS s'.gens->X.xe (.ref ea) s') :
  bD (bH X.prog X.w) X.A (call (.ref f) us) Q X.xe s1:=by
 have sp:spX X.K N R C vs H1 (fun _ _=>False) (fun cl _ H'=>cl=.ref C/\Same H1 H'):=⟨by rw[q2.length];exact hl,l,q2,hR,fun H' s'=>⟨rfl,s'⟩⟩
 have hl2:us.length=ps.length:=by rw[<- r.length];exact Fn.len _ _ _ _ sp
 have bd:=hb s1 us I1.kIn (by rw[fE];exact hl2);rw[fE] at bd;refine wpAny_call (rK (Fn.run X.A X.stack s1 H1 ⟨us,[]⟩ us vs (fun _ _=>False) (fun cl _ H'=>cl=.ref C/\Same H1 H') hr I1.env0 bd r sp) fun r s' hq=>?_);cases r with
 | error e' =>
   obtain⟨ea,cls,a0,B,H',rfl,os,bare,T,rfl,sm⟩:=hq;exact W ea a0 B H1 H' s1 s' I1 q1 sm T os bare
 | ok fl =>
   cases fl with
   |ret u=>obtain⟨v,H',_,_,_,_,_,z⟩:=hq;exact z.elim
   |next=>exact False.elim hq
   |brk=>exact False.elim hq
   |cont=>exact False.elim hq
theorem MX{ds:List Sl}(ex:methX t n R fo g ds=true):∃es' l,fo ds=some (.ins t es')/\g ds=some l/\l.length=n/\R (.ins t es'::l)=true:=by
 unfold methX at ex;cases hd1:fo ds with
 |none=>rw[hd1] at ex;cases ex
 | some d =>
   rw[hd1] at ex;cases hl:g ds with
   |none=>rw[hl] at ex;cases ex
   | some l =>
     rw[hl] at ex;simp only[cA,decide_eq_true_eq] at ex;obtain⟨e1,e2,e3⟩:=ex;cases d with
     | ins c es' =>
       simp only[isT,decide_eq_true_eq] at e1;subst e1;exact⟨es',l,rfl,rfl,e2,e3⟩
     |_=>simp[isT] at e1
theorem JW{pl:Sem Bool}(M:MCalX X.prog X.w X.K X.mg X.base m t k 0 R C)(hr:Room j X.A)(ho:PV X o fo)(hj:k<=j)(ht:bM (.Call (.Attribute o m apos) [] [] pos) X.env=(do
    let ov <- bM o X.env
    fP apos.atName
    let (f,first) <- dW [ov] (fM ov m pl)
    iO pos f first (cN pos (aF [] X.env)) (fC pos (dC [] X.env)))){aB:List (aA×Obj)}{s:aC}{σ : L2.St}{H H₀ : Hp}{O:aA->Prop}{ds:List Sl}{hd:Hold}{Q:Value->aC->Prop}(I:Inv X aB σ H s)(ok:Ok X.K H₀ H O σ ds hd)(ex:methX t 0 R fo zV ds=true)(W:∀ea a0 B H1 H' s1 s',Inv X aB σ H1 s1->Same H H1->Same H1 H'->Thrown X.prog X.w X.stack H1 s1 (.ref C) ea a0 B H' s'.heap->s'.os=s1.os->iS s'.gens->X.xe (.ref ea) s') :
  bD (bH X.prog X.w) X.A (bM (.Call (.Attribute o m apos) [] [] pos) X.env) Q X.xe s:=by
 obtain⟨B,f,fd,ps,hn,cl,hm,Fn,hb⟩:=M.ex;obtain⟨ta,pa,hfo⟩:=ho;obtain⟨es',l,hd1,hl,e2,e3⟩:=MX ex;cases hl;refine iQ (pl:=pl) (thn (pa aB s σ H (fun x H1=>Same H H1/\Rep X.K H1 O x (.ins t es')) I (hfo H₀ H O σ ds hd _ _ ok hd1 fun v H1 s1 r1=>⟨s1,r1⟩)) fun u s1 zq=>?_) ht;obtain⟨x,H1,I1,rx,q1,r1⟩:=zq;cases r1 with
 | @ins a C' dx _ kvs _ cc nn ha ek rr =>
   have z:=cc.symm.trans hn;cases z;obtain rfl:u=Value.ref a:=rx;refine wZ I1 ha cl hm (jO (by rw[ek];exact M.no)) ?_;have r1':Rep X.K H1 jJ (.ref a) (.ins t es'):=(Rep.ins cc (fun z=>z.elim) ha ek (rr.less fun _ z=>z.elim))
   exact rG (first:=[.ref a]) I1.kIn hm.kp (OW (us:=[.ref a]) (vs:=[.ref a]) Fn (hr.mono hj) hb I1 (.cons rfl .nil) q1 (.cons r1' .nil) rfl e3 W)
theorem aAb{c:Expr}{a b:List Stmt}{p2 pos':Pos}{gx:FX}{fa fb:FS}(hc:PVx X c gx)(ha:PSsv X a fa)(hb:PSsv X b fb)(hx:∀whole,BF c X.env whole=(do let v <- whole;fP c.pos;dW [v] (XB v)):=by intro _;rfl):PSv X (.If (.UnaryOp .Not c p2) a b pos') (ifNR gx fa fb):=by
 obtain⟨t,ht,hf⟩:=hc;obtain⟨ta,pa,hfa⟩:=ha;obtain⟨tb,pb,hfb⟩:=hb;refine⟨_,RN (ZY (ZW ht hx)) pa pb,fun H₀ H O σ ds hd out E ok ex h=>?_⟩;unfold ifNR at ex;obtain⟨q,h1,ex⟩:=bnd ex;refine hf H₀ H O σ ds hd q.1 q.2 _ ok h1 fun v H' O' o' r=>?_;obtain⟨d,ds'⟩:=q;cases d with
 | bl k =>
   cases r;cases k with
   |true=>exact⟨true,rfl,iteF (hfb H₀ H' O' σ ds' hd out E o' ex h)⟩
   |false=>exact⟨false,rfl,iteT (hfa H₀ H' O' σ ds' hd out E o' ex h)⟩
 |_=>cases ex
end
section
variable{X:Cx}{E:XK}{C:aA}{m:Str}{t k j n:Nat}{R:List D->Bool}{o e:Expr}{es:List Expr}{apos pos:Pos}{fo:FE}{g:FA}
theorem CM{y:Str}{py pos':Pos}{pl:Sem Bool}(M:MCalX X.prog X.w X.K X.mg X.base m t k 0 R C)(hr:Room j X.A)(ho:PV X o fo)(hj:k<=j:=by decide)(ht:bM (.Call (.Attribute o m apos) [] [] pos) X.env=(do
    let ov <- bM o X.env
    fP apos.atName
    let (f,first) <- dW [ov] (fM ov m pl)
    iO pos f first (cN pos (aF [] X.env)) (fC pos (dC [] X.env))):=by rfl)(hs:cV (.Call (.Attribute o m apos) [] [] pos) (some (.Name y py)) pos'.line X.env=pure false:=by rfl) :
  uV X C (.Assign [.Name y py] (.Call (.Attribute o m apos) [] [] pos) pos') (methX t 0 R fo zV):=by
 intro aB s σ H H₀ O ds hd I ok ex W;exact wpAny_Assign_Name (JW (pl:=pl) M hr ho hj ht I ok ex W) hs
theorem YQ(i:Nat){st:Stmt}{x:List Sl->Bool}(h:uV X C st x):uV X C st (relXO i x):=by
 intro aB s σ H H₀ O ds hd I ok ex W;obtain⟨O',o'⟩:=ok.look i;exact h aB s σ H H₀ O' _ hd I o' ex W
theorem HF{pl:Sem Bool}{cs:List Nat}{F:Nat->OT->List D->Option OT}{f:FP}{oe:Expr}(M:LCal X.prog X.w X.K X.mg X.base m k 0 cs F)(hr:Room j X.A)(ho:PVp X oe f)(hj:k<=j:=by decide)(ht:bM (.Call (.Attribute oe m apos) [] [] pos) X.env=(do
    let ov <- bM oe X.env
    fP apos.atName
    let (f,first) <- dW [ov] (fM ov m pl)
    iO pos f first (cN pos (aF [] X.env)) (fC pos (dC [] X.env))):=by rfl):PVx X (.Call (.Attribute oe m apos) [] [] pos) (lentV (lentG 0 cs F f zV)):=by
 obtain⟨ta,pa,hf⟩:=ho;refine⟨_,kA (pl:=pl) (k:=k) pa (hr.mono hj) ht,fun H₀ H O σ ds hd d ds' Q o e q=>?_⟩;unfold lentV at e;obtain⟨o1,h1,e⟩:=bnd e;obtain⟨ds1,rfl⟩:=aBm h1;cases e;exact NA M hf (fun H₀ H O σ ds hd l Q o e q=>by cases e;exact q [] H (Same.refl _) .nil) o h1 fun H' O' o'=>q _ _ _ o' .non
theorem ZH{a e:Expr}{fa:FE}{fe:FX}{p1 p2:Pos}(ha:PV X a fa)(he:PVx X e fe)(hs:aF [e] X.env=(false,bM e X.env)::aF [] X.env:=by rfl):PVx X (.BinOp a .Add (.List [e] p1) p2) (catR fa fe):=by
 obtain⟨ta,pa,ha⟩:=ha;obtain⟨te,pe,he⟩:=he;refine⟨_,aAl RX pa (PB (jN pe yK hs)),fun H₀ H O σ ds hd d ds' Q o e q=>?_⟩;unfold catR at e;obtain⟨dx,h1,e⟩:=bnd e;cases dx with
 | lst l =>
   simp only at e;obtain⟨qq,h2,e⟩:=bnd e
   split at e
   . rename_i hz;cases e;refine ha H₀ H O σ ds hd _ _ o h1 fun x H1 s1 r1=>?_;refine he H₀ H1 O σ ds (.rep x (.lst l)::hd) qq.1 qq.2 _ ((o.mono s1).holdMore r1) h2 fun v H2 O2 o2 r2=>?_;have r1':Rep X.K H2 O2 x (.lst l):=o2.hold _ (aV ..);refine ⟨cJ (Nat.le_add_left 1 l.length) hz,fun p hp=>?_⟩;obtain ⟨a1,xs,rfl,hq1',rs1⟩:=WRep.seqL (.inl (r1'.mono (qH hp (.lst [v]))));refine ⟨a1,p,xs,[v],rfl,rfl,hq1',.inl (.inl zX),by rw [rs1.length]; exact hz,fun p2 hp2=>?_⟩;have sm:Same H2 (upd (upd H2 p (.lst [v])) p2 (.lst (xs++[v]))):=(qH hp _).trans (qH hp2 _)
     have nO : ¬O2 p2:=fun z=>by
      obtain⟨u,eu⟩:=o2.dom p2 z;have:=(qH hp (.lst [v])) _ _ eu;rw[hp2] at this;cases this
     refine q (.ref p2) _ O2 (o2.holdLess.mono sm) (.lst nO (.inl zX) ((rs1.append (.cons (r2.mono (qH hp _)) .nil)).mono (qH hp2 _)))
   . cases e
 |_=>cases e
theorem MJ{i:Nat}{e:Expr}{pos:Pos}{f:FX}(h:PVx X e f):PRv X [.Return (some e) pos] (frzDR i f):=by
 obtain⟨t,ht,hf⟩:=h;refine⟨_,BR (aAf (i:=i) (uM ht)),fun H₀ H O σ ds hd d ds' E o e q=>?_⟩;unfold frzDR at e;cases hs:ds[i]? with
 |none=>rw[hs] at e;cases e
 | some s =>
   rw[hs] at e;cases s with
   | ob r T =>
     cases T with
     | dct ks ts =>
       simp only at e;obtain⟨l,hv,e⟩:=bnd e;rw[wX hv] at hs;obtain⟨a,kvs,h1,h2,h3⟩:=o.frzD hs;refine⟨a,kvs,h1,h2,fun ob=>?_⟩;obtain⟨O',o'⟩:=h3 ob;exact hf H₀ _ O' σ _ hd d ds' _ o' e fun v H' O' o' r=>q v σ H' O' o' r
     |_=>cases e
   |_=>cases e
end
section
variable{X:Cx}{scope:Scope}{NY:List Str}{mp:List (Option Nat)}{tg iter elt:Expr}{ifs:List Expr}{pos:Pos}{fi:FA}{ga:D->List Sl->Option (List Sl)}{tt:FT}{fe:FE}
theorem OY{i:Nat}{y:Str}{py spos:Pos}(hN:X.N.Nodup)(S:CompScope X scope NY mp)(hc:X.calm=true)(hi:PId X tg iter fi)(hg:∀c,PGv (jE X scope NY c) tg ga)(ht:∀c,PFv (jE X scope NY c) ifs tt)(he:∀c,PV (jE X scope NY c) elt fe)(hy:X.N[i]?=some y:=by rfl)(hl:X.env.scope.names.lookup y=some .local:=by rfl)(hsw:cV (.ListComp elt [⟨tg,iter,ifs,0⟩] scope pos) (some (.Name y py)) spos.line X.env=pure true:=by rfl)(hs:∀x,dR iter X.env x=pure x:=by intro _;rfl):PSv X (.Assign [.Name y py] (.ListComp elt [⟨tg,iter,ifs,0⟩] scope pos) spos) (jL i (mkL (compG fi mp ga tt fe))):=by
 obtain⟨wi,pi,hi⟩:=hi;refine⟨_,RO hN hy hl hsw S hc pi (fun c=>(Classical.choose_spec (hg c)).1) (fun c=>(Classical.choose_spec (ht c)).1) (fun c=>(Classical.choose_spec (he c)).1) hs,fun H₀ H O σ ds hd out E o e h=>?_⟩;unfold jL mkL at e;cases h1:compG fi mp ga tt fe ds with
 |none=>rw[h1] at e;cases e
 | some l =>
   rw[h1] at e;cases e
   exact WQ hi (fun c=>(Classical.choose_spec (hg c)).2) (fun c=>(Classical.choose_spec (ht c)).2) (fun c=>(Classical.choose_spec (he c)).2) H₀ H O σ ds hd l _ o h1 fun a xs H' s hn he r =>
    h _ _ _ ((o.mono s).set (.lst (o.free hn) (.inl he) (r.less fun _ z=>.inr z)))
end
noncomputable def oi:Option Int->D
 |none=>.non
 |some i=>.int i
@[simp] theorem RY:oi none=.non:=rfl
@[simp] theorem kF(i:Int):oi (some i)=.int i:=rfl
noncomputable def andK(r:Option D):D->Option D:=fun d=>match d with | .bl true=>r | .bl false=>some (.bl false) | _=>none
noncomputable def orK(r:Option D):D->Option D:=fun d=>match d with | .bl true=>some (.bl true) | .bl false=>r | _=>none
@[simp] theorem andK_bl(r:Option D)(b:Bool):andK r (.bl b)=if b=true then r else some (.bl false):=by cases b<;>rfl
@[simp] theorem orK_bl(r:Option D)(b:Bool):orK r (.bl b)=if b=true then some (.bl true) else r:=by cases b<;>rfl
@[simp] theorem ite_andD(b c:Bool):(if b=true then some (D.bl c) else some (D.bl false))=some (.bl (b&&c)):=by cases b<;>rfl
@[simp] theorem ite_orD(b c:Bool):(if b=true then some (D.bl true) else some (D.bl c))=some (.bl (b||c)):=by cases b<;>rfl
@[simp] theorem ite_andB(b c:Bool):(if b=true then some c else some false)=some (b&&c):=by cases b<;>rfl
@[simp] theorem ite_orB(b c:Bool):(if b=true then some true else some c)=some (b||c):=by cases b<;>rfl
@[simp] theorem ite_andD'(p:Prop)[Decidable p](c:Bool):(if p then some (D.bl c) else some (D.bl false))=some (.bl (decide p&&c)):=by by_cases h:p<;>simp[h]
@[simp] theorem ite_andB'(p:Prop)[Decidable p](c:Bool):(if p then some c else some false)=some (decide p&&c):=by by_cases h:p<;>simp[h]
@[simp] theorem ite_orB'(p:Prop)[Decidable p](c:Bool):(if p then some true else some c)=some (decide p||c):=by by_cases h:p<;>simp[h]
@[simp] theorem szl:sizeLine=16777216:=tY
section
variable(ds:List Sl)
@[simp] theorem getV_eq(i:Nat):qC i ds=match ds[i]? with | some (.v d)=>some d | _=>none:=rfl
@[simp] theorem getW_eq(i:Nat):zJ i ds=match ds[i]? with | some (.v d)=>some d | some (.own l)=>some (.lst l) | _=>none:=rfl
@[simp] theorem konst_eq(d:D):zA d ds=some d:=rfl
@[simp] theorem bin2_eq(op:D->D->Option D)(fa fb:FE):zI op fa fb ds=(fa ds).bind fun x=>(fb ds).bind fun y=>op x y:=rfl
@[simp] theorem un1_eq(op:D->Option D)(f:FE):un1 op f ds=(f ds).bind op:=rfl
@[simp] theorem aCr(F:List D->Option D)(g:FA):callB F g ds=(g ds).bind F:=rfl
@[simp] theorem callV_eq(n:Nat)(F:List D->Option Ret)(g:FA):qN n F g ds=(g ds).bind fun l=>if l.length=n then (F l).bind retV else none:=rfl
@[simp] theorem callF_eq(n:Nat)(F:List D->Option Ret)(g:FA):vJ n F g ds=(g ds).bind fun l=>if l.length=n then (F l).bind retF else none:=rfl
@[simp] theorem retV_val(d:D):retV (.val d)=some d:=rfl
@[simp] theorem retV_fresh(l:List D):retV (.fresh l)=some (.lst l):=rfl
@[simp] theorem retF_val(d:D):retF (.val d)=none:=rfl
@[simp] theorem retF_fresh(l:List D):retF (.fresh l)=some l:=rfl
@[simp] theorem aCl(f:FE)(g:FA):zB f g ds=(f ds).bind fun x=>(g ds).map fun r=>x::r:=rfl
@[simp] theorem nilA_eq:zV ds=some []:=rfl
@[simp] theorem sized_eq(f:FA):qD f ds=(f ds).bind fun l=>if l.length<=sizeLine then some l else none:=rfl
@[simp] theorem sI(f:FA):mkL f ds=(f ds).map D.lst:=rfl
@[simp] theorem mkT_eq(f:FA):mkT f ds=(f ds).map D.tup:=rfl
@[simp] theorem testB_eq(f:FE):zS f ds=(f ds).bind isB:=rfl
@[simp] theorem testT_eq(f:FE):testT f ds=(f ds).bind truD:=rfl
@[simp] theorem isB_bl(b:Bool):isB (.bl b)=some b:=rfl
@[simp] theorem andT_eq(c d:FT):andT c d ds=(c ds).bind fun b=>if b=true then d ds else some false:=rfl
@[simp] theorem orT_eq(c d:FT):orT c d ds=(c ds).bind fun b=>if b=true then some true else d ds:=rfl
@[simp] theorem notT_eq(c:FT):notT c ds=(c ds).map not:=rfl
@[simp] theorem andV_eq(f g:FE):andV f g ds=(f ds).bind (andK (g ds)):=rfl
@[simp] theorem orV_eq(f g:FE):orV f g ds=(f ds).bind (orK (g ds)):=rfl
@[simp] theorem notV_eq(f:FE):notV f ds=(f ds).bind fun d=>match d with | .bl b=>some (.bl (!b)) | _=>none:=rfl
@[simp] theorem ifV_eq(c:FT)(f g:FE):ifV c f g ds=(c ds).bind fun b=>if b=true then f ds else g ds:=rfl
@[simp] theorem seqG_eq(f g:FS):qG f g ds=(f ds).bind fun o=>match o with | .nx ds'=>g ds' | o=>some o:=rfl
@[simp] theorem ifG_eq(c:FT)(f g:FS):ifG c f g ds=(c ds).bind fun b=>if b=true then f ds else g ds:=rfl
@[simp] theorem vY(i:Nat)(f:FE):jL i f ds=(f ds).map fun d=>.nx (ds.set i (.v d)):=rfl
@[simp] theorem setOG_eq(i:Nat)(f:FA):setOG i f ds=(f ds).map fun l=>.nx (ds.set i (.own l)):=rfl
@[simp] theorem retG_eq(f:FE):retG f ds=(f ds).bind flatR:=rfl
@[simp] theorem ZE(f:FA):retOG f ds=(f ds).bind flatF:=rfl
@[simp] theorem retXG_eq(i:Nat):retXG i ds=match ds[i]? with | some (.own l)=>flatF l | _=>none:=rfl
@[simp] theorem nextG_eq:qJ ds=some (.nx ds):=rfl
@[simp] theorem appG_eq(i:Nat)(fe:FE):appG i fe ds=match ds[i]? with
 |some (.own l)=>(fe ds).bind fun d=>if l.length<sizeLine then some (.nx (ds.set i (.own (l++[d])))) else none
 |_=>none:=rfl
@[simp] theorem extG_eq(i:Nat)(fe:FA):extG i fe ds=match ds[i]? with
 |some (.own l)=>(fe ds).bind fun d=>if l.length+d.length<=sizeLine then some (.nx (ds.set i (.own (l++d)))) else none
 |_=>none:=rfl
@[simp] theorem putG_eq(i:Nat)(fk fe:FE):putG i fk fe ds=match ds[i]? with
 | some (.own l) => (fe ds).bind fun d => (fk ds).bind fun k => match k with
   | .int n=>(ixN l.length n).map fun j=>.nx (ds.set i (.own (l.set j d)))
   |_=>none
 |_=>none:=rfl
@[simp] theorem clrG_eq(i:Nat):clrG i ds=match ds[i]? with
 |some (.own l)=>some (.nx (ds.set i (.own [])))
 |_=>none:=rfl
@[simp] theorem asgG_eq(ga:D->List Sl->Option (List Sl))(f:FE):asgG ga f ds=(f ds).bind fun d=>(ga d ds).map .nx:=rfl
@[simp] theorem relS_eq(i:Nat):relS i ds=match ds[i]? with | some (.own l)=>ds.set i (.v (.lst l)) | _=>ds:=rfl
@[simp] theorem viaA_eq(f:FE)(k:D->Option (List D)):viaA f k ds=(f ds).bind k:=rfl
@[simp] theorem asLT_lst(l:List D):asLT (.lst l)=some l:=rfl
@[simp] theorem asLT_tup(l:List D):asLT (.tup l)=some l:=rfl
@[simp] theorem catA_eq(fa fb:FE):catA fa fb ds=(fa ds).bind fun x=>(fb ds).bind fun y=>match x,y with
 | .lst a,.lst b=>if a.length+b.length<=sizeLine then some (a++b) else none
 |_,_=>none:=rfl
@[simp] theorem sliA_eq(f:FE)(lo hi:List Sl->Option (Option Int)):sliA f lo hi ds=(f ds).bind fun d=>(lo ds).bind fun a=>(hi ds).bind fun b=>match d with
 | .lst l=>some (cutD l a b)
 |_=>none:=rfl
@[simp] theorem lisA_eq(f:FE):lisA f ds=(f ds).bind asLT:=rfl
@[simp] theorem noP_eq:noP ds=some none:=rfl
@[simp] theorem soP_eq(f:FE):soP f ds=(f ds).bind fun d=>match d with | .int i=>some (some i) | _=>none:=rfl
@[simp] theorem forG_eq(fi:FA)(ga:D->List Sl->Option (List Sl))(body:FS):forG fi ga body ds=(fi ds).bind fun items=>jM ga body items ds:=rfl
@[simp] theorem nameG_eq(i:Nat)(d:D):qA i d ds=some (ds.set i (.v d)):=rfl
@[simp] theorem tupG_eq(n:Nat)(h:List D->List Sl->Option (List Sl))(l:List D):tupG n h (.tup l) ds=if l.length=n then h l ds else none:=rfl
@[simp] theorem tgCons_eq(g:D->List Sl->Option (List Sl))(h:List D->List Sl->Option (List Sl))(d:D)(r:List D):zU g h (d::r) ds=(g d ds).bind fun ds'=>h r ds':=rfl
@[simp] theorem tgNil_eq:tgNil [] ds=some ds:=rfl
@[simp] theorem isiG_eq(T:String)(f:FE):isiG T f ds=(f ds).bind (isiD T):=rfl
@[simp] theorem chain_eq(op op':D->D->Option D)(fa fb fc:FE):chain op op' fa fb fc ds=(fa ds).bind fun x=>(fb ds).bind fun y=>(op x y).bind fun z=>match z with
 | .bl true=>(fc ds).bind fun w=>op' y w
 | .bl false=>some (.bl false)
 |_=>none:=rfl
end
@[simp] theorem addD_int(i j:Int):jW (.int i) (.int j)=some (.int (i+j)):=rfl
@[simp] theorem subD_int(i j:Int):subD (.int i) (.int j)=some (.int (i-j)):=rfl
@[simp] theorem negD_int(i:Int):negD (.int i)=some (.int (-i)):=rfl
@[simp] theorem ltD_int(i j:Int):ltD (.int i) (.int j)=some (.bl (decide (i<j))):=rfl
@[simp] theorem leD_int(i j:Int):leD (.int i) (.int j)=some (.bl (decide (i<=j))):=rfl
@[simp] theorem gtD_int(i j:Int):gtD (.int i) (.int j)=some (.bl (decide (j<i))):=rfl
@[simp] theorem geD_int(i j:Int):geD (.int i) (.int j)=some (.bl (decide (j<=i))):=rfl
@[simp] theorem yO{j:Int}(i:Int)(h:0<j):jA (.int i) (.int j)=some (.int (i%j)):=if_pos h
theorem NM{j:Int}(h:0<j)(h2:j<1000000000):divOk j:=⟨h,by
 have h3:j.natAbs<2 ^ 30:=by
  have:(2:Nat) ^ 30=1073741824:=by decide
  omega
 have h4:j.natAbs≠0:=by omega
 have:=(Nat.log2_lt h4).mpr h3
 omega⟩
@[simp] theorem yL{j:Int}(i:Int)(h:0<j)(h2:j<1000000000):qR (.int i) (.int j)=some (.int (i/j)):=if_pos (NM h h2)
theorem xZ{i j:Int}(h:OC i j):xV (.int i) (.int j)=some (.int (i*j)):=if_pos h
theorem RP{i j:Int}(h:CPowB i j):powD (.int i) (.int j)=some (.int (i ^ j.toNat)):=if_pos h
theorem TM{i j:Int}{n m:Nat}(h:i.natAbs<2 ^ n)(h0:0<=j)(h1:j<=m)(h2:n*m<=134217728):CPowB i j:=by
 refine⟨h0,?_⟩;have hb:Builtin.Int.intBits i<=n:=intBits_le_iff.mpr h;have h3:(Builtin.Int.intBits i:Int)*j<=(n:Int)*(m:Int):=Int.mul_le_mul (by omega) h1 h0 (by omega);have h4:((n*m:Nat):Int)<=134217728:=by omega
 have e:((n*m:Nat):Int)=(n:Int)*(m:Int):=Int.natCast_mul n m;have e2:(2:Int) ^ 27=134217728:=by decide
 rw[e2];omega
@[simp] theorem pow10{j:Int}(h0:0<=j)(h1:j<=1000):powD (.int 10) (.int j)=some (.int (10 ^ j.toNat)):=RP (TM (n:=4) (m:=1000) (by decide) h0 h1 (by decide))
@[simp] theorem mxD_int(i j:Int):mxD [.int i,.int j]=some (.int (max i j)):=by
 show some (D.int (if j>i then j else i))=_;congr 2
 split<;>omega
@[simp] theorem mnD_int(i j:Int):mnD [.int i,.int j]=some (.int (min i j)):=by
 show some (D.int (if j<i then j else i))=_;congr 2
 split<;>omega
@[simp] theorem lenD_lst(l:List D):lenD [.lst l]=some (.int l.length):=rfl
@[simp] theorem lenD_tup(l:List D):lenD [.tup l]=some (.int l.length):=rfl
@[simp] theorem isD_non:isD .non .non=some (.bl true):=rfl
@[simp] theorem isD_int(i:Int):isD (.int i) .non=some (.bl false):=rfl
@[simp] theorem isD_bl(i:Bool):isD (.bl i) .non=some (.bl false):=rfl
@[simp] theorem isD_tup(i:List D):isD (.tup i) .non=some (.bl false):=rfl
@[simp] theorem isD_lst(i:List D):isD (.lst i) .non=some (.bl false):=rfl
@[simp] theorem isD_oi(o:Option Int):isD (oi o) .non=some (.bl o.isNone):=by cases o<;>rfl
@[simp] theorem notD_non:notD .non .non=some (.bl false):=rfl
@[simp] theorem notD_int(i:Int):notD (.int i) .non=some (.bl true):=rfl
@[simp] theorem notD_bl(i:Bool):notD (.bl i) .non=some (.bl true):=rfl
@[simp] theorem notD_tup(i:List D):notD (.tup i) .non=some (.bl true):=rfl
@[simp] theorem notD_lst(i:List D):notD (.lst i) .non=some (.bl true):=rfl
@[simp] theorem notD_oi(o:Option Int):notD (oi o) .non=some (.bl o.isSome):=by cases o<;>rfl
@[simp] theorem truD_bl(b:Bool):truD (.bl b)=some b:=rfl
@[simp] theorem truD_non:truD .non=some false:=rfl
@[simp] theorem truD_lst(l:List D):truD (.lst l)=some (!l.isEmpty):=rfl
@[simp] theorem truD_tup(l:List D):truD (.tup l)=some (!l.isEmpty):=rfl
theorem BY{n:Nat}{i:Int}(h:0<=i)(h2:i<n):ixN n i=some i.toNat:=by
 unfold ixN;rw[if_pos h,if_pos h2]
theorem jC(l:List D){i:Int}(h:0<=i)(h2:i<l.length):ixD (.lst l) (.int i)=l[i.toNat]?:=by
 show atI l i=_;unfold atI;rw[BY h h2];rfl
theorem KA(l:List D){i:Int}(h:0<=i)(h2:i<l.length):ixD (.tup l) (.int i)=l[i.toNat]?:=by
 show atI l i=_;unfold atI;rw[BY h h2];rfl
@[simp] theorem ixT0(a:D)(l:List D):ixD (.tup (a::l)) (.int 0)=some a:=by
 rw[KA _ (by decide) (by rw[aK];omega)];rfl
@[simp] theorem ixT1(a b:D)(l:List D):ixD (.tup (a::b::l)) (.int 1)=some b:=by
 rw[KA _ (by decide) (by rw[aK,aK];omega)];rfl
@[simp] theorem ixT2(a b c:D)(l:List D):ixD (.tup (a::b::c::l)) (.int 2)=some c:=by
 rw[KA _ (by decide) (by rw[aK,aK,aK];omega)];rfl
@[simp] theorem ixL0(a:D)(l:List D):ixD (.lst (a::l)) (.int 0)=some a:=by
 rw[jC _ (by decide) (by rw[aK];omega)];rfl
@[simp] theorem ixL1(a b:D)(l:List D):ixD (.lst (a::b::l)) (.int 1)=some b:=by
 rw[jC _ (by decide) (by rw[aK,aK];omega)];rfl
theorem vX(l:List D)(a:D):ixD (.lst (l++[a])) (.int (-1))=some a:=by
 show atI (l++[a]) (-1)=_;unfold atI ixN;rw[if_neg (by decide),if_pos (by rw[bR,pJ];omega),bR,pJ];have e:(-1+((l.length+1:Nat):Int)).toNat=l.length:=by omega
 rw[e];simp
@[simp] theorem flat_non:flat .non=true:=by simp[flat]
@[simp] theorem flat_bl(b:Bool):flat (.bl b)=true:=by simp[flat]
@[simp] theorem flat_int(i:Int):flat (.int i)=true:=by simp[flat]
@[simp] theorem flat_str(i:Str):flat (.str i)=true:=by simp[flat]
@[simp] theorem flat_tup(l:List D):flat (.tup l)=flats l:=by simp[flat]
@[simp] theorem flats_nil:flats []=true:=by simp[flats]
@[simp] theorem flats_cons(d:D)(l:List D):flats (d::l)=(flat d&&flats l):=by simp[flats]
@[simp] theorem flat_oi(o:Option Int):flat (oi o)=true:=by cases o<;>simp
theorem xR{d:D}(h:flat d=true):flatR d=some (.rt (.val d)):=if_pos h
@[simp] theorem flatR_non:flatR .non=some (.rt (.val .non)):=xR (by simp)
@[simp] theorem flatR_bl(b:Bool):flatR (.bl b)=some (.rt (.val (.bl b))):=xR (by simp)
@[simp] theorem flatR_int(i:Int):flatR (.int i)=some (.rt (.val (.int i))):=xR (by simp)
@[simp] theorem flatR_str(i:Str):flatR (.str i)=some (.rt (.val (.str i))):=xR (by simp)
@[simp] theorem flatR_oi(o:Option Int):flatR (oi o)=some (.rt (.val (oi o))):=xR (by simp)
@[simp] theorem flatR_tup(l:List D)(h:flats l=true):flatR (.tup l)=some (.rt (.val (.tup l))):=xR (by simpa using h)
@[simp] theorem aBx(l:List D)(h:flats l=true):flatF l=some (.rt (.fresh l)):=if_pos h
@[simp] theorem shal_int(n:Nat)(i:Int):shal n (.int i)=true:=by simp[shal]
@[simp] theorem shal_non(n:Nat):shal n .non=true:=by simp[shal]
@[simp] theorem shal_bl(n:Nat)(b:Bool):shal n (.bl b)=true:=by simp[shal]
@[simp] theorem shal_oi(n:Nat)(o:Option Int):shal n (oi o)=true:=by cases o<;>simp
@[simp] theorem shal_tup(n:Nat)(l:List D):shal n (.tup l)=shals n l:=by simp[shal]
@[simp] theorem shal_lst(n:Nat)(l:List D):shal n (.lst l)=shals n l:=by simp[shal]
@[simp] theorem shals_nil(n:Nat):shals n []=true:=by cases n<;>simp[shals]
@[simp] theorem OU(n:Nat)(d:D)(l:List D):shals (n+1) (d::l)=(shal n d&&shals (n+1) l):=by simp[shals]
theorem HA{n:Nat}{l:List D}(h:∀d∈l,shal n d=true):shals (n+1) l=true:=by
 induction l with
 |nil=>simp
 | cons d r ih =>
   rw[OU,h d aV,ih fun x hx=>h x (aN _ hx)];rfl
theorem KY{x y:D}(h:shal 40 x=true)(h2:shal 40 y=true):eqD x y=some (.bl (eqvD x y)):=if_pos ⟨h,h2⟩
theorem DL{x y:D}(h:shal 40 x=true)(h2:shal 40 y=true):neD x y=some (.bl (!eqvD x y)):=if_pos ⟨h,h2⟩
@[simp] theorem eqvD_int(i j:Int):eqvD (.int i) (.int j)=decide (i=j):=by
 show(i==j)=_;rw[mC];simp
@[simp] theorem eqvD_bl(i j:Bool):eqvD (.bl i) (.bl j)=decide (i=j):=by
 show(i==j)=_;rw[mC];simp
@[simp] theorem eqvD_non:eqvD .non .non=true:=rfl
@[simp] theorem eqvD_non_int(j:Int):eqvD .non (.int j)=false:=rfl
@[simp] theorem eqvD_int_non(j:Int):eqvD (.int j) .non=false:=rfl
@[simp] theorem eqvD_oi(o p:Option Int):eqvD (oi o) (oi p)=decide (o=p):=by cases o<;>cases p<;>simp
@[simp] theorem eqvD_tup(a b:List D):eqvD (.tup a) (.tup b)=eqvs a b:=by simp[eqvD,eqvs,toPy,PyData.eqv]
@[simp] theorem vK(a b:List D):eqvD (.lst a) (.lst b)=eqvs a b:=by simp[eqvD,eqvs,toPy,PyData.eqv]
@[simp] theorem eqvs_nil:eqvs [] []=true:=by simp[eqvs,toPys,PyData.eqvAll]
@[simp] theorem IM(x y:D)(a b:List D):eqvs (x::a) (y::b)=(eqvD x y&&eqvs a b):=by simp[eqvs,eqvD,toPys,PyData.eqvAll]
@[simp] theorem eqvs_nil_cons(y:D)(b:List D):eqvs [] (y::b)=false:=by simp[eqvs,toPys,PyData.eqvAll]
@[simp] theorem eqvs_cons_nil(y:D)(b:List D):eqvs (y::b) []=false:=by simp[eqvs,toPys,PyData.eqvAll]
@[simp] theorem eqD_int(i j:Int):eqD (.int i) (.int j)=some (.bl (decide (i=j))):=by rw[KY (by simp) (by simp)];simp
@[simp] theorem neD_int(i j:Int):neD (.int i) (.int j)=some (.bl (!decide (i=j))):=by rw[DL (by simp) (by simp)];simp
@[simp] theorem eqD_bl(i j:Bool):eqD (.bl i) (.bl j)=some (.bl (decide (i=j))):=by rw[KY (by simp) (by simp)];simp
@[simp] theorem eqD_oi(i j:Option Int):eqD (oi i) (oi j)=some (.bl (decide (i=j))):=by rw[KY (by simp) (by simp)];simp
theorem QH(l:List D):eqvs l []=l.isEmpty:=by cases l<;>simp
theorem neD_nil{l:List D}(h:shals 40 l=true):neD (.lst l) (.lst [])=some (.bl (!l.isEmpty)):=by rw[DL (by simpa using h) (by simp),vK,QH]
theorem OS(n:Nat)(l:List Int):shals (n+1) (l.map D.int)=true:=HA fun d hd=>by obtain⟨i,_,rfl⟩:=cO.mp hd;simp
theorem kits:kitF "int" "int" = some true/\kitF "NoneType" "int" = some false/\kitF "bool" "int" = some true/\kitF "tuple" "int" = some false/\kitF "list" "int" = some false/\kitF "str" "int" = some false ∧
  kitF "bool" "bool" = some true/\kitF "int" "bool" = some false/\kitF "NoneType" "bool" = some false/\kitF "tuple" "tuple" = some true/\kitF "list" "tuple" = some false/\kitF "NoneType" "tuple" = some false ∧
  kitF "list" "list" = some true/\kitF "tuple" "list" = some false/\kitF "NoneType" "list" = some false:=by
 refine⟨?_,?_,?_,?_,?_,?_,?_,?_,?_,?_,?_,?_,?_,?_,?_⟩<;>decide +kernel
@[simp] theorem isi_int_int(i:Int):isiD "int" (.int i)=some (.bl true):=by simp[isiD,tyD,kits.1]
@[simp] theorem isi_int_non:isiD "int" .non=some (.bl false):=by simp[isiD,tyD,kits.2.1]
@[simp] theorem isi_bool_int(i:Int):isiD "bool" (.int i)=some (.bl false):=by simp[isiD,tyD,kits.2.2.2.2.2.2.2.1]
@[simp] theorem isi_bool_non:isiD "bool" .non=some (.bl false):=by simp[isiD,tyD,kits.2.2.2.2.2.2.2.2.1]
@[simp] theorem isi_lst_lst(l:List D):isiD "list" (.lst l)=some (.bl true):=by simp[isiD,tyD,kits.2.2.2.2.2.2.2.2.2.2.2.2.1]
@[simp] theorem bind_ite{α β : Type}{c:Prop}[Decidable c](a b:Option α)(f : α->Option β):(if c then a else b).bind f=if c then a.bind f else b.bind f:=by split<;>rfl
@[simp] theorem map_ite{α β : Type}{c:Prop}[Decidable c](a b:Option α)(f : α->β):(if c then a else b).map f=if c then a.map f else b.map f:=by split<;>rfl
theorem xA{fi:FA}{mp:List (Option Nat)}{ga:D->List Sl->Option (List Sl)}{tt:FT}{fe:FE}{ds:List Sl}{items l:List D}(h:fi ds=some items)(hl:items.length<=sizeLine)(hc:compL ga tt fe (qZ mp ds) items=some l):compG fi mp ga tt fe ds=some l:=by
 unfold compG;rw[h];show(if items.length<=sizeLine then compL ga tt fe (qZ mp ds) items else none)=_;rw[if_pos hl];exact hc
theorem NT:∀bs:List Bool,blsD (bs.map D.bl)=some bs
 |[]=>rfl
 |b::r=>by simp[blsD,NT r]
@[simp] theorem aCt(bs:List Bool):allD [.lst (bs.map D.bl)]=some (.bl (bs.all id)):=by simp[allD,NT]
@[simp] theorem ixL2(a b c:D)(l:List D):ixD (.lst (a::b::c::l)) (.int 2)=some c:=by
 rw[jC _ (by decide) (by rw[aK,aK,aK];omega)];rfl
@[simp] theorem ixL3(a b c d:D)(l:List D):ixD (.lst (a::b::c::d::l)) (.int 3)=some d:=by
 rw[jC _ (by decide) (by rw[aK,aK,aK,aK];omega)];rfl
@[simp] theorem rng3_eq(fa fb fc:FE)(ds:List Sl):rng3 fa fb fc ds=(fa ds).bind fun x=>(fb ds).bind fun y=>(fc ds).bind fun z=>match x,y,z with
 | .int i,.int j,.int c=>if okR3 i j c then some (RC i c (YV i j c)) else none
 |_,_,_=>none:=rfl
@[simp] theorem rng2_eq(fa fb:FE)(ds:List Sl):rng2 fa fb ds=(fa ds).bind fun x=>(fb ds).bind fun y=>match x,y with
 | .int i,.int j=>if okR i/\okR j then some (gQ i (j-i).toNat) else none
 |_,_=>none:=rfl
@[simp] theorem rng1_eq(f:FE)(ds:List Sl):rng1 f ds=(f ds).bind fun d=>match d with | .int j=>if okR j then some (gQ 0 j.toNat) else none | _=>none:=rfl
theorem HY{j:Int}(h : -1000000000<=j)(h2:j<=1000000000):okR j:=⟨OD (by decide) h,Int.lt_of_le_of_lt h2 (by decide)⟩
@[simp] theorem absD_int(i:Int):absD [.int i]=some (.int (if i<0 then -i else i)):=rfl
@[simp] theorem int1D_int(i:Int):int1D [.int i]=some (.int i):=rfl
@[simp] theorem int1D_bl(b:Bool):int1D [.bl b]=some (.int (if b then 1 else 0)):=rfl
@[simp] theorem augA_eq(i:Nat)(f:FE)(ds:List Sl):augA i f ds=(qC i ds).bind fun x=>(f ds).bind fun y=>match x,y with
 | .int a,.int b=>some (.nx (ds.set i (.v (.int (a+b)))))
 |_,_=>none:=rfl
@[simp] theorem parG_eq(i j:Nat)(f:FA)(ds:List Sl):parG i j f ds=(f ds).bind fun l=>match l with
 |[a,b]=>some (.nx ((ds.set i (.v a)).set j (.v b)))
 |_=>none:=rfl
@[simp] theorem revA_eq(f:FE)(ds:List Sl):revA f ds=(f ds).bind fun d=>match d with
 | .lst l=>some l.reverse
 |_=>none:=rfl
theorem qP{f g:FS}{ds ds':List Sl}(h:f ds=some (.nx ds')):qG f g ds=g ds':=by simp[h]
theorem uK{g:FS}{n:Nat}{ds:List D}{r:Ret}(h:g (args n ds)=some (.rt r)):runG g n ds=some r:=by unfold runG;rw[h]
end FL
section
open PySem PyProof.Rows L2 FL
noncomputable def lH:FS:=(retG (andV (zI notD (zJ 0) (zA .non)) (andV (zI notD (zJ 1) (zA .non)) (zI leD (zJ 0) (zJ 1)))))
noncomputable def fX:List D->Option Ret:=runG lH 2
noncomputable def CC:FS:=(retG (andV (orV (zI isD (zI ixD (zJ 0) (zA (.int 0))) (zA .non)) (zI leD (zI ixD (zJ 0) (zA (.int 0))) (zJ 1))) (orV (zI isD (zI ixD (zJ 0) (zA (.int 1))) (zA .non)) (zI ltD (zJ 1) (zI ixD (zJ 0) (zA (.int 1)))))))
noncomputable def pH:List D->Option Ret:=runG CC 2
noncomputable def uX:FS:=(qG (ifG (orT (zS (zI isD (zI ixD (zJ 0) (zA (.int 0))) (zA .non))) (zS (zI isD (zI ixD (zJ 0) (zA (.int 1))) (zA .non)))) (retG (zA .non)) qJ)
 (retG (zI subD (zI ixD (zJ 0) (zA (.int 1))) (zI ixD (zJ 0) (zA (.int 0))))))
noncomputable def uY:List D->Option Ret:=runG uX 1
noncomputable def mI:FS:=(qG (ifG (zS (zI isD (zJ 0) (zA .non))) (retG (zJ 1)) qJ)
 (qG (ifG (zS (zI isD (zJ 1) (zA .non))) (retG (zJ 0)) qJ)
 (retG (callB mxD (zB (zJ 0) (zB (zJ 1) zV))))))
noncomputable def gI:List D->Option Ret:=runG mI 2
noncomputable def gP:FS:=(qG (ifG (zS (zI isD (zJ 0) (zA .non))) (retG (zJ 1)) qJ)
 (qG (ifG (zS (zI isD (zJ 1) (zA .non))) (retG (zJ 0)) qJ)
 (retG (callB mnD (zB (zJ 0) (zB (zJ 1) zV))))))
noncomputable def eC:List D->Option Ret:=runG gP 2
noncomputable def uD:FS:=(qG (jL 2 (qN 2 gI (zB (zI ixD (zJ 0) (zA (.int 0))) (zB (zI ixD (zJ 1) (zA (.int 0))) zV))))
 (qG (jL 3 (qN 2 eC (zB (zI ixD (zJ 0) (zA (.int 1))) (zB (zI ixD (zJ 1) (zA (.int 1))) zV))))
 (qG (ifG (testT (qN 2 fX (zB (zJ 3) (zB (zJ 2) zV)))) (retG (zA .non)) qJ)
 (retG (mkT (qD (zB (qC 2) (zB (qC 3) zV))))))))
noncomputable def mE:List D->Option Ret:=runG uD 4
noncomputable def oC:FS:=(qG (ifG (notT (testT (isiG "str" (zJ 0)))) (retG (zA (.bl false))) qJ)
 (qG (ifG (orT (zS (zI ltD (callB lenD (zB (zJ 0) zV)) (zA (.int 1)))) (zS (zI gtD (callB lenD (zB (zJ 0) zV)) (zA (.int 8))))) (retG (zA (.bl false))) qJ)
 (retG (callB allD (zB (mkL (compG (viaA (qC 0) asS) [none] (qA 0) (fun _=>some true) (zI inS (zJ 0) (zA (.str "abcdefghijklmnopqrstuvwxyz"))))) zV)))))
noncomputable def fU:List D->Option Ret:=runG oC 1
noncomputable def mJ:FS:=(qG (ifG (zS (zI isD (zJ 4) (zA .non))) (fun ds=>some (.ct ds)) qJ)
 (ifG (andT (testT (zJ 1)) (andT (zS (zI eqD (zI ixD (zI ixD (zJ 1) (un1 negD (zA (.int 1)))) (zA (.int 1))) (zJ 2))) (zS (zI eqD (zI ixD (zI ixD (zJ 1) (un1 negD (zA (.int 1)))) (zA (.int 2))) (zJ 4))))) (putG 1 (un1 negD (zA (.int 1))) (mkT (qD (zB (zI ixD (zI ixD (zJ 1) (un1 negD (zA (.int 1)))) (zA (.int 0))) (zB (qC 3) (zB (qC 4) zV)))))) (appG 1 (mkT (qD (zB (qC 2) (zB (qC 3) (zB (qC 4) zV))))))))
noncomputable def uE:FS:=(qG (setOG 1 (qD zV))
 (qG (forG (viaA (qC 0) asLT) (tupG 3 (zU (qA 2) (zU (qA 3) (zU (qA 4) tgNil)))) mJ)
 (retXG 1)))
noncomputable def eX:List D->Option Ret:=runG uE 5
noncomputable def fL:FS:=(qG (jL 6 (qN 2 mE (zB (mkT (qD (zB (qC 3) (zB (qC 4) zV)))) (zB (zJ 1) zV))))
 (ifG (zS (zI notD (zJ 6) (zA .non))) (appG 2 (mkT (qD (zB (zI ixD (zJ 6) (zA (.int 0))) (zB (zI ixD (zJ 6) (zA (.int 1))) (zB (qC 5) zV)))))) qJ))
noncomputable def nF:FS:=(qG (setOG 2 (qD zV))
 (qG (forG (viaA (qC 0) asLT) (tupG 3 (zU (qA 3) (zU (qA 4) (zU (qA 5) tgNil)))) fL)
 (retXG 2)))
noncomputable def cL:List D->Option Ret:=runG nF 7
noncomputable def mH:FS:=(qG (setOG 3 (qD zV))
 (qG (ifG (zS (zI notD (zI ixD (zJ 1) (zA (.int 0))) (zA .non))) (extG 3 (vJ 2 cL (zB (zJ 0) (zB (mkT (qD (zB (zA .non) (zB (zI ixD (zJ 1) (zA (.int 0))) zV)))) zV)))) qJ)
 (qG (appG 3 (mkT (qD (zB (zI ixD (zJ 1) (zA (.int 0))) (zB (zI ixD (zJ 1) (zA (.int 1))) (zB (qC 2) zV))))))
 (qG (ifG (zS (zI notD (zI ixD (zJ 1) (zA (.int 1))) (zA .non))) (extG 3 (vJ 2 cL (zB (zJ 0) (zB (mkT (qD (zB (zI ixD (zJ 1) (zA (.int 1))) (zB (zA .non) zV)))) zV)))) qJ)
 (retXG 3)))))
noncomputable def fK:List D->Option Ret:=runG mH 4
noncomputable def CB:FS:=(retOG (vJ 1 eX (zB (qN 3 fK (zB (zJ 0) (zB (zJ 1) (zB (zJ 2) zV)))) zV)))
noncomputable def pF:List D->Option Ret:=runG CB 3
noncomputable def gZ:FN:=(fldN (zA .non))
noncomputable def bQ:List D->Option (List D):=runN gZ 1
noncomputable def iL:FN:=(seqN (fldN (mkT (qD (zB (zI ixD (zJ 1) (zA (.int 0))) (zB (zI ixD (zJ 1) (zA (.int 1))) zV)))))
 (fldN (qC 2)))
noncomputable def dZ:List D->Option (List D):=runN iL 3
noncomputable def nL:FS:=(retG (ifV (testT (qN 2 pH (zB (fldG [(0,0)] (qC 0)) (zB (zJ 1) zV)))) (zA .non) (qC 1)))
noncomputable def nM:List D->Option Ret:=runG nL 2
noncomputable def nH:FS:=(retG (zJ 1))
noncomputable def nI:List D->Option Ret:=runG nH 2
noncomputable def lI:FS:=(ifG (zS (zI ltD (zJ 0) (zA (.int 0)))) (fun _=>none) qJ)
noncomputable def eY:List D->Option Ret:=runG lI 1
noncomputable def fI:FN:=(seqN (dropN (qN 1 eY (zB (zJ 2) zV)))
 (seqN (supN bQ)
 (seqN (fldN (qC 1))
 (fldN (qC 2)))))
noncomputable def cC:List D->Option (List D):=runN fI 3
noncomputable def mG:FS:=(qG (ifG (zS (zI ltD (zJ 0) (zJ 1))) (retG (zJ 0)) qJ)
 (retG (ifV (zS (zI ltD (zJ 0) (zI jW (zJ 1) (zJ 2)))) (zA .non) (zI subD (zJ 0) (zJ 2)))))
noncomputable def eS:List D->Option Ret:=runG mG 3
noncomputable def lQ:FS:=(retG (qN 3 eS (zB (zJ 1) (zB (fldG [(1,1),(2,1)] (qC 0)) (zB (fldG [(1,2),(2,2)] (qC 0)) zV)))))
noncomputable def lR:List D->Option Ret:=runG lQ 2
noncomputable def pG:FS:=(retG (ifV (zS (zI ltD (zJ 0) (zJ 1))) (qC 0) (zI jW (zJ 0) (zJ 2))))
noncomputable def gH:List D->Option Ret:=runG pG 3
noncomputable def lJ:FS:=(retG (qN 3 gH (zB (zJ 1) (zB (fldG [(1,1),(2,1)] (qC 0)) (zB (fldG [(1,2),(2,2)] (qC 0)) zV)))))
noncomputable def lM:List D->Option Ret:=runG lJ 2
noncomputable def kN:FS:=(retG (qN 3 gH (zB (zJ 1) (zB (fldG [(1,1),(2,1)] (qC 0)) (zB (fldG [(1,2),(2,2)] (qC 0)) zV)))))
noncomputable def kO:List D->Option Ret:=runG kN 2
noncomputable def iY:FS:=(retG (qN 3 eS (zB (zJ 1) (zB (fldG [(1,1),(2,1)] (qC 0)) (zB (fldG [(1,2),(2,2)] (qC 0)) zV)))))
noncomputable def iZ:List D->Option Ret:=runG iY 2
noncomputable def gX:FN:=(seqN (supN bQ)
 (fldN (qC 1)))
noncomputable def dS:List D->Option (List D):=runN gX 2
noncomputable def mP:FS:=(retG (zI subD (zJ 1) (fldG [(3,1)] (qC 0))))
noncomputable def mQ:List D->Option Ret:=runG mP 2
noncomputable def mK:FS:=(retG (zI jW (zJ 1) (fldG [(3,1)] (qC 0))))
noncomputable def mL:List D->Option Ret:=runG mK 2
noncomputable def iX:FS:=(ifG (orT (zS (zI ltD (zJ 0) (zA (.int 1)))) (zS (zI gtD (zJ 0) (zA (.int 1000))))) (fun _=>none) qJ)
noncomputable def eO:List D->Option Ret:=runG iX 1
noncomputable def gE:FN:=(seqN (dropN (qN 1 eO (zB (zJ 1) zV)))
 (seqN (dropN (qN 1 eO (zB (zJ 2) zV)))
 (seqN (supN bQ)
 (seqN (fldN (qC 1))
 (fldN (qC 2))))))
noncomputable def dE:List D->Option (List D):=runN gE 3
noncomputable def iK:FS:=(retG (zI qR (zI xV (zJ 1) (fldG [(4,2)] (qC 0))) (fldG [(4,1)] (qC 0))))
noncomputable def gF:List D->Option Ret:=runG iK 2
noncomputable def dY:FS:=(retG (ifV (zS (zI isD (zJ 1) (zA .non))) (zA .non) (un1 negD (zI qR (zI xV (un1 negD (qC 1)) (fldG [(4,1)] (qC 0))) (fldG [(4,2)] (qC 0))))))
noncomputable def cU:List D->Option Ret:=runG dY 2
noncomputable def kT:FS:=(retG (un1 negD (qC 1)))
noncomputable def kU:List D->Option Ret:=runG kT 2
noncomputable def bP:Nat->List D->Option Ret
 |4=>cU
 |_=>fun _=>none
noncomputable def cS:Nat->List D->Option Ret
 |0=>nM
 |1=>lR
 |2=>kO
 |3=>mQ
 |4=>gF
 |5=>kU
 |_=>fun _=>none
noncomputable def iG:FS:=(qG (jL 2 (methV 1 [4] bP (qC 0) (zB (zJ 1) zV)))
 (retG (ifV (zS (zI eqD (methV 1 [0,1,2,3,4,5] cS (qC 0) (zB (zJ 2) zV)) (zJ 1))) (qC 2) (zA .non))))
noncomputable def iH:List D->Option Ret:=runG iG 3
noncomputable def kP:FS:=(retG (un1 negD (qC 1)))
noncomputable def kQ:List D->Option Ret:=runG kP 2
noncomputable def cI:Nat->List D->Option Ret
 |0=>nI
 |1=>lM
 |2=>iZ
 |3=>mL
 |4=>iH
 |5=>kQ
 |_=>fun _=>none
noncomputable def nJ:FS:=(retOG (vJ 3 pF (zB (zJ 1) (zB (fldG [(0,0)] (qC 0)) (zB (fldG [(0,1),(1,0),(2,0),(3,0),(4,0),(5,0),(6,0)] (qC 0)) zV)))))
noncomputable def nK:List D->Option Ret:=runG nJ 2
noncomputable def oE:FS:=(retG (ifV (zS (zI isD (zJ 0) (zA .non))) (zA .non) (zI jW (zJ 0) (zJ 1))))
noncomputable def fA:List D->Option Ret:=runG oE 2
noncomputable def oB:FS:=(retOG (compG (viaA (qC 0) asLT) [none,none,none,some 1] (tupG 3 (zU (qA 0) (zU (qA 1) (zU (qA 2) tgNil)))) (fun _=>some true) (mkT (qD (zB (qN 2 fA (zB (zJ 0) (zB (zJ 3) zV))) (zB (qN 2 fA (zB (zJ 1) (zB (zJ 3) zV))) (zB (qC 2) zV)))))))
noncomputable def eF:List D->Option Ret:=runG oB 2
noncomputable def lN:FS:=(qG (jL 2 (qN 2 cL (zB (zJ 1) (zB (mkT (qD (zB (zA .non) (zB (fldG [(1,1),(2,1)] (qC 0)) zV)))) zV))))
 (qG (jL 3 (qN 2 cL (zB (zJ 1) (zB (mkT (qD (zB (fldG [(1,1),(2,1)] (qC 0)) (zB (zA .non) zV)))) zV))))
 (retOG (vJ 1 eX (zB (mkL (catA (zJ 2) (qN 2 eF (zB (zJ 3) (zB (fldG [(1,2),(2,2)] (qC 0)) zV))))) zV)))))
noncomputable def lP:List D->Option Ret:=runG lN 4
noncomputable def kL:FS:=(qG (jL 2 (qN 2 cL (zB (zJ 1) (zB (mkT (qD (zB (zA .non) (zB (fldG [(1,1),(2,1)] (qC 0)) zV)))) zV))))
 (qG (jL 3 (qN 2 cL (zB (zJ 1) (zB (mkT (qD (zB (zI jW (fldG [(1,1),(2,1)] (qC 0)) (fldG [(1,2),(2,2)] (qC 0))) (zB (zA .non) zV)))) zV))))
 (retOG (vJ 1 eX (zB (mkL (catA (zJ 2) (qN 2 eF (zB (zJ 3) (zB (un1 negD (fldG [(1,2),(2,2)] (qC 0))) zV))))) zV)))))
noncomputable def kM:List D->Option Ret:=runG kL 4
noncomputable def mM:FS:=(retOG (vJ 2 eF (zB (zJ 1) (zB (fldG [(3,1)] (qC 0)) zV))))
noncomputable def mO:List D->Option Ret:=runG mM 2
noncomputable def iI:FS:=(qG (jL 2 (mkL (compG (viaA (qC 1) asLT) [none,none,none,some 0] (tupG 3 (zU (qA 0) (zU (qA 1) (zU (qA 2) tgNil)))) (fun _=>some true) (mkT (qD (zB (methV 1 [4] bP (qC 3) (zB (zJ 0) zV)) (zB (methV 1 [4] bP (qC 3) (zB (zJ 1) zV)) (zB (qC 2) zV))))))))
 (retOG (vJ 1 eX (zB (mkL (compG (viaA (qC 2) asLT) [none] (qA 0) (orT (zS (zI isD (zI ixD (zJ 0) (zA (.int 0))) (zA .non))) (zS (zI neD (zI ixD (zJ 0) (zA (.int 0))) (zI ixD (zJ 0) (zA (.int 1)))))) (qC 0))) zV))))
noncomputable def iJ:List D->Option Ret:=runG iI 3
noncomputable def nG:FS:=(retG (ifV (zS (zI isD (zJ 0) (zA .non))) (zA .non) (zI subD (zA (.int 1)) (zJ 0))))
noncomputable def eN:List D->Option Ret:=runG nG 1
noncomputable def kR:FS:=(retOG (compG (revA (qC 1)) [none,none,none] (tupG 3 (zU (qA 0) (zU (qA 1) (zU (qA 2) tgNil)))) (fun _=>some true) (mkT (qD (zB (qN 1 eN (zB (zJ 1) zV)) (zB (qN 1 eN (zB (zJ 0) zV)) (zB (qC 2) zV)))))))
noncomputable def kS:List D->Option Ret:=runG kR 2
noncomputable def bW:Nat->List D->Option Ret
 |0=>nK
 |1=>lP
 |2=>kM
 |3=>mO
 |4=>iJ
 |5=>kS
 |_=>fun _=>none
noncomputable def gY:FS:=(qG (setNw 20 21 (varP 0) (vO (ifV (zS (zI isD (zJ 1) (zA .non))) (mkL (qD zV)) (mkL (lisA (zJ 1))))))
 (qG (setNw 21 22 (varP 0) (vO (zA (.dcf [] []))))
 (qG (setNw 22 23 (varP 0) (sO nilO))
 (setNw 23 11 (varP 0) (sO nilO)))))
noncomputable def dF:OT->List D->Option OT:=lentF gY 2
noncomputable def mT:FS:=(qG (appP (atP [(11,2)] (varP 0)) (mkT (qD (zB (valP (atP [(11,0)] (varP 0))) (zB (valP (atP [(11,1)] (varP 0))) zV)))))
 (qG (setAt [(11,3)] (varP 0) (sO nilO))
 (qG (setAt [(11,0)] (varP 0) (vO (qC 1)))
 (setAt [(11,1)] (varP 0) (vO (qC 2))))))
noncomputable def cY:OT->List D->Option OT:=lentF mT 3
noncomputable def fF:FS:=(dputG (varP 2) (qC 3) (ifV (zS (zI isD (zJ 4) (zA .non))) (zA .non) (methV 1 [0,1,2,3,4,5] cI (qC 1) (zB (zJ 4) zV))))
noncomputable def mB:FS:=(qG (setB 2 dO0)
 (qG (forG (oQ (valP (atP [(11,1)] (varP 0)))) (tupG 2 (zU (qA 3) (zU (qA 4) tgNil))) fF)
 (frzDG 2 (lentG 2 [11] (fun _=>cY) (varP 0) (zB (methV 1 [0,1,2,3,4,5] bW (qC 1) (zB (valP (atP [(11,0)] (varP 0))) zV)) (zB (qC 2) zV))))))
noncomputable def fV:OT->List D->Option OT:=lentF mB 5
noncomputable def mR:FS:=(retOG (lisA (fldG [(11,0)] (qC 0))))
noncomputable def mS:List D->Option Ret:=runG mR 1
noncomputable def cR:Nat->List D->Option Ret
 |11=>mS
 |_=>fun _=>none
noncomputable def iM:FS:=(qG (ifG (notT (testT (qN 1 fU (zB (zJ 1) zV)))) (fun _=>none) qJ)
 (qG (setB 3 (uT (valP (atP [(11,1)] (varP 0)))))
 (qG (dputG (varP 3) (qC 1) (qC 2))
 (frzDG 3 (lentG 2 [11] (fun _=>cY) (varP 0) (zB (valP (atP [(11,0)] (varP 0))) (zB (qC 3) zV)))))))
noncomputable def eT:OT->List D->Option OT:=lentF iM 4
noncomputable def lS:FS:=(qG (ifG (orT (notT (testT (qN 1 fU (zB (zJ 1) zV)))) (dnotG (zJ 1) (fldG [(11,1)] (qC 0)))) (fun _=>none) qJ)
 (retG (dgetG (fldG [(11,1)] (qC 0)) (qC 1))))
noncomputable def lT:List D->Option Ret:=runG lS 2
noncomputable def lU:FS:=(retOG (srtDA (fldG [(11,1)] (qC 0))))
noncomputable def lV:List D->Option Ret:=runG lU 1
noncomputable def cM:Nat->List D->Option Ret
 |11=>lV
 |_=>fun _=>none
noncomputable def fB:Nat->List D->Option Ret
 |11=>lT
 |_=>fun _=>none
noncomputable def kW:FS:=(qG (setAt [(11,0)] (varP 0) (vO (zI ixD (zJ 1) (zA (.int 0)))))
 (setAt [(11,1)] (varP 0) (vO (zI ixD (zJ 1) (zA (.int 1))))))
noncomputable def bX:OT->List D->Option OT:=lentF kW 2
noncomputable def iN:FS:=(qG (ifG (notT (testT (seeP (atP [(11,2)] (varP 0))))) (fun _=>none) qJ)
 (qG (appP (atP [(11,3)] (varP 0)) (mkT (qD (zB (valP (atP [(11,0)] (varP 0))) (zB (valP (atP [(11,1)] (varP 0))) zV)))))
 (lentX [11] (fun _=>bX) 0 (popX (atP [(11,2)] (varP 0))))))
noncomputable def eU:OT->List D->Option OT:=lentF iN 1
noncomputable def gT:FS:=(qG (ifG (notT (testT (seeP (atP [(11,3)] (varP 0))))) (fun _=>none) qJ)
 (qG (appP (atP [(11,2)] (varP 0)) (mkT (qD (zB (valP (atP [(11,0)] (varP 0))) (zB (valP (atP [(11,1)] (varP 0))) zV)))))
 (lentX [11] (fun _=>bX) 0 (popX (atP [(11,3)] (varP 0))))))
noncomputable def eB:OT->List D->Option OT:=lentF gT 1
noncomputable def oK:FS:=(qG (ifG (zS (zI ltD (zJ 1) (callB lenD (zB (zJ 0) zV)))) (retG (zI ixD (zJ 0) (zJ 1))) qJ)
 (retG (zA (.int 0))))
noncomputable def fW:List D->Option Ret:=runG oK 2
noncomputable def oG:FS:=(retG (andV (isiG "int" (zJ 0)) (notV (isiG "bool" (zJ 0)))))
noncomputable def hJ:List D->Option Ret:=runG oG 1
noncomputable def OG:FS:=(qG (jL 4 (zI qR (zJ 3) (zA (.int 120))))
 (qG (jL 5 (zI jW (zJ 2) (zI ixD (mkL (qD (zB (zA (.int 0)) (zB (zA (.int 0)) (zB (zI jW (zA (.int 1)) (zI jA (zJ 4) (zA (.int 9)))) (zB (zI jA (zJ 4) (zI powD (zA (.int 10)) (zA (.int 60)))) zV)))))) (zI jA (zJ 3) (zA (.int 4))))))
 (qG (ifG (zS (zI eqD (zJ 1) (mkL (qD zV)))) (qG (jL 6 (zI xV (zA (.int 9)) (zI powD (zI powD (zA (.int 10)) (zA (.int 33))) (zA (.int 6)))))
 (jL 5 (zI ixD (mkL (qD (zB (zI subD (zI jA (zJ 4) (zA (.int 41))) (zA (.int 20))) (zB (zI jA (zJ 4) (zI powD (zA (.int 10)) (zA (.int 60)))) (zB (zI jW (zJ 6) (zI jA (zJ 4) (zI powD (zA (.int 10)) (zA (.int 60))))) (zB (zI subD (zA (.int 1)) (zJ 6)) zV)))))) (zI jA (zJ 3) (zA (.int 4)))))) qJ)
 (qG (jL 7 (zI ixD (mkL (qD (zB (zA (.int 0)) (zB (zA (.int 1)) (zB (zI subD (zI jA (zJ 4) (zA (.int 19))) (zA (.int 9))) (zB (zI subD (zI jA (zI xV (zJ 4) (zA (.int 48271))) (zI jW (zI powD (zA (.int 10)) (zA (.int 60))) (zA (.int 7)))) (zI powD (zA (.int 10)) (zA (.int 59)))) (zB (zA (.int 1)) zV))))))) (zI jA (zI qR (zJ 3) (zA (.int 4))) (zA (.int 5)))))
 (qG (ifG (andT (zS (zI neD (zJ 1) (mkL (qD zV)))) (andT (zS (zI eqD (zJ 5) (zJ 2))) (zS (zI eqD (zJ 7) (zI ixD (zI ixD (zJ 1) (un1 negD (zA (.int 1)))) (zA (.int 2))))))) (jL 7 (zI jW (zJ 7) (zA (.int 1)))) qJ)
 (qG (jL 2 (zI jW (zJ 5) (zI ixD (mkL (qD (zB (zA (.int 1)) (zB (zI jW (zA (.int 1)) (zI jA (zI qR (zJ 4) (zA (.int 9))) (zA (.int 9)))) (zB (zI jW (zA (.int 1)) (zI jA (zI xV (zJ 4) (zA (.int 69621))) (zI jW (zI powD (zA (.int 10)) (zA (.int 60))) (zA (.int 9))))) zV))))) (zI jA (zI qR (zJ 3) (zA (.int 20))) (zA (.int 3))))))
 (appG 1 (mkT (qD (zB (qC 5) (zB (qC 2) (zB (qC 7) zV))))))))))))
noncomputable def GN:FS:=(qG (setOG 1 (qD zV))
 (qG (jL 2 (zA (.int 0)))
 (qG (forG (viaA (qC 0) asLT) (qA 3) OG)
 (qG (ifG (andT (zS (zI neD (zJ 1) (mkL (qD zV)))) (zS (zI eqD (zI jA (zI qR (zI ixD (zJ 0) (zA (.int 0))) (zA (.int 60))) (zA (.int 8))) (zA (.int 1))))) (putG 1 (zA (.int 0)) (mkT (qD (zB (zA .non) (zB (zI ixD (zI ixD (zJ 1) (zA (.int 0))) (zA (.int 1))) (zB (zI ixD (zI ixD (zJ 1) (zA (.int 0))) (zA (.int 2))) zV)))))) qJ)
 (qG (ifG (andT (zS (zI neD (zJ 1) (mkL (qD zV)))) (zS (zI eqD (zI jA (zI qR (zI ixD (zJ 0) (un1 negD (zA (.int 1)))) (zA (.int 60))) (zA (.int 8))) (zA (.int 6))))) (putG 1 (un1 negD (zA (.int 1))) (mkT (qD (zB (zI ixD (zI ixD (zJ 1) (un1 negD (zA (.int 1)))) (zA (.int 0))) (zB (zA .non) (zB (zI ixD (zI ixD (zJ 1) (un1 negD (zA (.int 1)))) (zA (.int 2))) zV)))))) qJ)
 (retXG 1))))))
noncomputable def rC:List D->Option Ret:=runG GN 8
noncomputable def pI:FS:=(qG (jL 2 (zI qR (zJ 0) (zA (.int 3))))
 (qG (ifG (zS (zI eqD (zI jA (zJ 0) (zA (.int 3))) (zA (.int 1)))) (retG (zI subD (zI jA (zJ 2) (zI jW (zI xV (zA (.int 2)) (zI powD (zA (.int 10)) (zA (.int 60)))) (zA (.int 1)))) (zI powD (zA (.int 10)) (zA (.int 60))))) qJ)
 (qG (ifG (andT (zS (zI eqD (zI jA (zJ 0) (zA (.int 3))) (zA (.int 2)))) (zS (zI neD (zJ 1) (mkL (qD zV))))) (retG (zI subD (zI jW (zI ixD (zJ 1) (zI jA (zJ 2) (callB lenD (zB (zJ 1) zV)))) (zI jA (zI qR (zJ 2) (callB lenD (zB (zJ 1) zV))) (zA (.int 3)))) (zA (.int 1)))) qJ)
 (retG (zI subD (zI jA (zJ 2) (zA (.int 41))) (zA (.int 20)))))))
noncomputable def fS:List D->Option Ret:=runG pI 3
noncomputable def uH:FS:=(retG (zI ixD (mkL (qD (zB (zI jA (zI qR (zJ 0) (zA (.int 3))) (zA (.int 9))) (zB (zI jA (zI qR (zJ 0) (zA (.int 3))) (zI powD (zA (.int 10)) (zA (.int 60)))) (zB (zI jA (zI qR (zJ 0) (zA (.int 3))) (zA (.int 61))) zV))))) (zI jA (zJ 0) (zA (.int 3)))))
noncomputable def gC:List D->Option Ret:=runG uH 1
noncomputable def sE:FS:=(retG (zI jW (zA (.int 1)) (zI jA (zI qR (zJ 0) (zA (.int 2))) (zI ixD (mkL (qD (zB (zA (.int 4)) (zB (zA (.int 1000)) zV)))) (zI jA (zJ 0) (zA (.int 2)))))))
noncomputable def gJ:List D->Option Ret:=runG sE 1
noncomputable def sD:FS:=(qG (jL 2 (zI jW (zA (.int 1)) (qN 1 gC (zB (zI qR (zJ 1) (zA (.int 12))) zV))))
 (qG (ifG (zS (zI gtD (zI jA (zJ 1) (zA (.int 12))) (zA (.int 8)))) (retG (zI ixD (mkL (qD (zB (mkT (qD (zB (qC 0) (zB (zA .non) zV)))) (zB (mkT (qD (zB (zA .non) (zB (qC 0) zV)))) (zB (mkT (qD (zB (zA .non) (zB (zA .non) zV)))) zV))))) (zI subD (zI jA (zJ 1) (zA (.int 12))) (zA (.int 9))))) qJ)
 (retG (mkT (qD (zB (qC 0) (zB (zI jW (zJ 0) (zJ 2)) zV)))))))
noncomputable def kX:List D->Option Ret:=runG sD 3
noncomputable def GI:FS:=(qG (jL 4 (qN 2 fS (zB (zJ 1) (zB (zJ 3) zV))))
 (qG (ifG (zS (zI eqD (zI jA (zJ 0) (zA (.int 8))) (zA (.int 3)))) (retG (mkT (qD (zB (zA (.str "widen")) (zB (qC 4) (zB (qN 1 gC (zB (zJ 2) zV)) zV)))))) qJ)
 (qG (ifG (zS (zI eqD (zI jA (zJ 0) (zA (.int 8))) (zA (.int 4)))) (retG (mkT (qD (zB (zA (.str "narrow")) (zB (qC 4) (zB (qN 1 gC (zB (zJ 2) zV)) zV)))))) qJ)
 (qG (ifG (zS (zI eqD (zI jA (zJ 0) (zA (.int 8))) (zA (.int 5)))) (retG (mkT (qD (zB (zA (.str "move")) (zB (qC 4) (zB (zA (.int 0)) zV)))))) qJ)
 (qG (ifG (zS (zI eqD (zI jA (zJ 0) (zA (.int 8))) (zA (.int 6)))) (retG (mkT (qD (zB (zA (.str "stretch")) (zB (qN 1 gJ (zB (zJ 1) zV)) (zB (qN 1 gJ (zB (zJ 2) zV)) zV)))))) qJ)
 (qG (ifG (zS (zI eqD (zI jA (zJ 0) (zA (.int 8))) (zA (.int 7)))) (retG (mkT (qD (zB (zA (.str "mirror")) (zB (zA (.int 0)) (zB (zA (.int 0)) zV)))))) qJ)
 (qG (jL 5 (zI ixD (mkL (qD (zB (zA .non) (zB (zA (.int 0)) (zB (zA (.int 1)) (zB (zI subD (zI jA (zI qR (zJ 0) (zA (.int 40))) (zI jW (zI xV (zA (.int 2)) (zI powD (zA (.int 10)) (zA (.int 60)))) (zA (.int 1)))) (zI powD (zA (.int 10)) (zA (.int 60)))) (zB (zA (.int 1)) zV))))))) (zI jA (zI qR (zJ 0) (zA (.int 8))) (zA (.int 5)))))
 (retG (mkT (qD (zB (zA (.str "put")) (zB (qN 2 kX (zB (zJ 4) (zB (zJ 2) zV))) (zB (qC 5) zV)))))))))))))
noncomputable def rB:List D->Option Ret:=runG GI 6
noncomputable def sF:FS:=(qG (asgG (tupG 3 (zU (qA 1) (zU (qA 2) (zU (qA 3) tgNil)))) (qC 0))
 (qG (ifG (zS (zI eqD (zJ 1) (zA (.str "put")))) (retDG (makeG 0 2 dZ (zB (zJ 2) (zB (zJ 3) zV)))) qJ)
 (qG (ifG (zS (zI eqD (zJ 1) (zA (.str "widen")))) (retDG (makeG 1 2 cC (zB (zJ 2) (zB (zJ 3) zV)))) qJ)
 (qG (ifG (zS (zI eqD (zJ 1) (zA (.str "narrow")))) (retDG (makeG 2 2 cC (zB (zJ 2) (zB (zJ 3) zV)))) qJ)
 (qG (ifG (zS (zI eqD (zJ 1) (zA (.str "move")))) (retDG (makeG 3 1 dS (zB (zJ 2) zV))) qJ)
 (qG (ifG (zS (zI eqD (zJ 1) (zA (.str "stretch")))) (retDG (makeG 4 2 dE (zB (zJ 2) (zB (zJ 3) zV)))) qJ)
 (retDG (makeG 5 0 bQ zV))))))))
noncomputable def gK:List D->Option Ret:=runG sF 4
noncomputable def oF:FS:=(qG (jL 2 (zI jW (zJ 2) (zI ixD (zA (.str "abcdefghijklmnopqrstuvwxyz")) (zI jA (zJ 0) (zA (.int 26))))))
 (jL 0 (zI jW (zI qR (zJ 0) (zA (.int 26))) (zA (.int 5)))))
noncomputable def uF:FS:=(qG (jL 2 (zA (.str "")))
 (qG (forG (rng1 (qC 1)) (qA 3) oF)
 (retG (zJ 2))))
noncomputable def iA:List D->Option Ret:=runG uF 4
noncomputable def gN:FS:=(qG (jL 2 (zI jW (zA (.int 1)) (zI jA (zJ 0) (zA (.int 8)))))
 (qG (jL 3 (qN 2 iA (zB (zI qR (zJ 0) (zA (.int 8))) (zB (zJ 2) zV))))
 (qG (jL 4 (zI jA (zI qR (zJ 1) (zA (.int 5))) (zJ 2)))
 (qG (jL 5 (qN 2 iA (zB (zI qR (zJ 1) (zA (.int 40))) (zB (zA (.int 1)) zV))))
 (qG (ifG (zS (zI eqD (zI jA (zJ 1) (zA (.int 5))) (zA (.int 1)))) (retG (zI jW (zI jW (slsS (zJ 3) noP (soP (zJ 4))) (zJ 5)) (slsS (zJ 3) (soP (zI jW (zJ 4) (zA (.int 1)))) noP))) qJ)
 (qG (ifG (zS (zI eqD (zI jA (zJ 1) (zA (.int 5))) (zA (.int 2)))) (retG (slsS (zJ 3) noP (soP (zI jW (zJ 4) (zA (.int 1)))))) qJ)
 (qG (ifG (zS (zI eqD (zI jA (zJ 1) (zA (.int 5))) (zA (.int 3)))) (retG (slsS (zI jW (zJ 3) (zJ 5)) noP (soP (zA (.int 8))))) qJ)
 (qG (ifG (zS (zI eqD (zI jA (zJ 1) (zA (.int 5))) (zA (.int 4)))) (retG (qN 2 iA (zB (zI qR (zJ 1) (zA (.int 40))) (zB (zI jW (zA (.int 1)) (zI jA (zI qR (zJ 1) (zA (.int 5))) (zA (.int 8)))) zV)))) qJ)
 (retG (zJ 3))))))))))
noncomputable def nS:List D->Option Ret:=runG gN 6
noncomputable def uG:FS:=(qG (asgG (tupG 3 (zU (qA 2) (zU (qA 3) (zU (qA 4) tgNil)))) (qC 0))
 (qG (ifG (orT (zS (zI isD (zJ 1) (zA .non))) (zS (zI eqD (zJ 2) (zA (.str "put"))))) (retG (zJ 1)) qJ)
 (qG (ifG (zS (zI eqD (zJ 2) (zA (.str "move")))) (retG (zI jW (zJ 1) (zJ 3))) qJ)
 (qG (ifG (zS (zI eqD (zJ 2) (zA (.str "mirror")))) (retG (un1 negD (qC 1))) qJ)
 (qG (ifG (zS (zI eqD (zJ 2) (zA (.str "stretch")))) (qG (jL 5 (un1 negD (zI qR (zI xV (un1 negD (qC 1)) (zJ 3)) (zJ 4))))
 (qG (ifG (zS (zI eqD (zI qR (zI xV (zJ 5) (zJ 4)) (zJ 3)) (zJ 1))) (retG (zJ 5)) qJ)
 (retG (zA .non)))) qJ)
 (qG (ifG (zS (zI ltD (zJ 1) (zJ 3))) (retG (zJ 1)) qJ)
 (qG (ifG (zS (zI eqD (zJ 2) (zA (.str "widen")))) (retG (zI jW (zJ 1) (zJ 4))) qJ)
 (qG (ifG (zS (zI ltD (zJ 1) (zI jW (zJ 3) (zJ 4)))) (retG (zA .non)) qJ)
 (retG (zI subD (zJ 1) (zJ 4)))))))))))
noncomputable def nR:List D->Option Ret:=runG uG 6
noncomputable def lB:FS:=(qG (jL 6 (methV 1 [11] fB (qC 0) (zB (zJ 5) zV)))
 (ifG (zS (zI isD (dgetG (qC 1) (qC 5)) (zA .non))) (ifG (zS (zI notD (zJ 6) (zA .non))) (retG (zA (.bl false))) qJ) (ifG (orT (notT (testT (qN 1 hJ (zB (zJ 6) zV)))) (zS (zI neD (zJ 6) (dgetG (qC 1) (qC 5))))) (retG (zA (.bl false))) qJ)))
noncomputable def oH:FS:=(qG (jL 3 (mkL (srtDA (zJ 1))))
 (qG (jL 4 (methV 0 [11] cM (qC 0) zV))
 (qG (ifG (orT (notT (testT (isiG "list" (zJ 4)))) (zS (zI neD (zJ 4) (zJ 3)))) (retG (zA (.bl false))) qJ)
 (qG (ifG (zS (zI eqD (zJ 2) (zA (.int 1)))) (jL 3 (mkL (revA (qC 3)))) qJ)
 (qG (forG (viaA (qC 3) asLT) (qA 5) lB)
 (retG (zA (.bl true))))))))
noncomputable def gM:List D->Option Ret:=runG oH 7
noncomputable def oJ:FS:=(qG (jL 4 (zI qR (zJ 3) (zA (.int 120))))
 (qG (jL 5 (zI jW (zJ 2) (zI ixD (mkL (qD (zB (zA (.int 0)) (zB (zA (.int 0)) (zB (zI jW (zA (.int 1)) (zI jA (zJ 4) (zA (.int 9)))) (zB (zI jA (zJ 4) (zI powD (zA (.int 10)) (zA (.int 60)))) zV)))))) (zI jA (zJ 3) (zA (.int 4))))))
 (qG (ifG (zS (zI eqD (zJ 1) (mkL (qD zV)))) (qG (jL 6 (zI xV (zA (.int 9)) (zI powD (zI powD (zA (.int 10)) (zA (.int 33))) (zA (.int 6)))))
 (jL 5 (zI ixD (mkL (qD (zB (zI subD (zI jA (zJ 4) (zA (.int 41))) (zA (.int 20))) (zB (zI jA (zJ 4) (zI powD (zA (.int 10)) (zA (.int 60)))) (zB (zI jW (zJ 6) (zI jA (zJ 4) (zI powD (zA (.int 10)) (zA (.int 60))))) (zB (zI subD (zA (.int 1)) (zJ 6)) zV)))))) (zI jA (zJ 3) (zA (.int 4)))))) qJ)
 (qG (jL 7 (zI ixD (mkL (qD (zB (zA (.int 0)) (zB (zA (.int 1)) (zB (zI subD (zI jA (zJ 4) (zA (.int 19))) (zA (.int 9))) (zB (zI subD (zI jA (zI xV (zJ 4) (zA (.int 48271))) (zI jW (zI powD (zA (.int 10)) (zA (.int 60))) (zA (.int 7)))) (zI powD (zA (.int 10)) (zA (.int 59)))) (zB (zA (.int 1)) zV))))))) (zI jA (zI qR (zJ 3) (zA (.int 4))) (zA (.int 5)))))
 (qG (ifG (andT (zS (zI neD (zJ 1) (mkL (qD zV)))) (andT (zS (zI eqD (zJ 5) (zJ 2))) (zS (zI eqD (zJ 7) (zI ixD (zI ixD (zJ 1) (un1 negD (zA (.int 1)))) (zA (.int 2))))))) (jL 7 (zI jW (zJ 7) (zA (.int 1)))) qJ)
 (qG (jL 2 (zI jW (zJ 5) (zI ixD (mkL (qD (zB (zA (.int 1)) (zB (zI jW (zA (.int 1)) (zI jA (zI qR (zJ 4) (zA (.int 9))) (zA (.int 9)))) (zB (zI jW (zA (.int 1)) (zI jA (zI xV (zJ 4) (zA (.int 69621))) (zI jW (zI powD (zA (.int 10)) (zA (.int 60))) (zA (.int 9))))) zV))))) (zI jA (zI qR (zJ 3) (zA (.int 20))) (zA (.int 3))))))
 (appG 1 (mkT (qD (zB (qC 5) (zB (qC 2) (zB (qC 7) zV))))))))))))
noncomputable def GJ:FS:=(qG (setOG 1 (qD zV))
 (qG (jL 2 (zA (.int 0)))
 (qG (forG (viaA (qC 0) asLT) (qA 3) oJ)
 (qG (ifG (andT (zS (zI neD (zJ 1) (mkL (qD zV)))) (zS (zI eqD (zI jA (zI qR (zI ixD (zJ 0) (zA (.int 0))) (zA (.int 60))) (zA (.int 8))) (zA (.int 1))))) (putG 1 (zA (.int 0)) (mkT (qD (zB (zA .non) (zB (zI ixD (zI ixD (zJ 1) (zA (.int 0))) (zA (.int 1))) (zB (zI ixD (zI ixD (zJ 1) (zA (.int 0))) (zA (.int 2))) zV)))))) qJ)
 (qG (ifG (andT (zS (zI neD (zJ 1) (mkL (qD zV)))) (zS (zI eqD (zI jA (zI qR (zI ixD (zJ 0) (un1 negD (zA (.int 1)))) (zA (.int 60))) (zA (.int 8))) (zA (.int 6))))) (putG 1 (un1 negD (zA (.int 1))) (mkT (qD (zB (zI ixD (zI ixD (zJ 1) (un1 negD (zA (.int 1)))) (zA (.int 0))) (zB (zA .non) (zB (zI ixD (zI ixD (zJ 1) (un1 negD (zA (.int 1)))) (zA (.int 2))) zV)))))) qJ)
 (retXG 1))))))
noncomputable def GK:List D->Option Ret:=runG GJ 8
noncomputable def GG:FS:=(qG (jL 4 (qN 2 fS (zB (zJ 1) (zB (zJ 3) zV))))
 (qG (ifG (zS (zI eqD (zI jA (zJ 0) (zA (.int 8))) (zA (.int 3)))) (retG (mkT (qD (zB (zA (.str "widen")) (zB (qC 4) (zB (qN 1 gC (zB (zJ 2) zV)) zV)))))) qJ)
 (qG (ifG (zS (zI eqD (zI jA (zJ 0) (zA (.int 8))) (zA (.int 4)))) (retG (mkT (qD (zB (zA (.str "narrow")) (zB (qC 4) (zB (qN 1 gC (zB (zJ 2) zV)) zV)))))) qJ)
 (qG (ifG (zS (zI eqD (zI jA (zJ 0) (zA (.int 8))) (zA (.int 5)))) (retG (mkT (qD (zB (zA (.str "move")) (zB (qC 4) (zB (zA (.int 0)) zV)))))) qJ)
 (qG (ifG (zS (zI eqD (zI jA (zJ 0) (zA (.int 8))) (zA (.int 6)))) (retG (mkT (qD (zB (zA (.str "stretch")) (zB (qN 1 gJ (zB (zJ 1) zV)) (zB (qN 1 gJ (zB (zJ 2) zV)) zV)))))) qJ)
 (qG (ifG (zS (zI eqD (zI jA (zJ 0) (zA (.int 8))) (zA (.int 7)))) (retG (mkT (qD (zB (zA (.str "mirror")) (zB (zA (.int 0)) (zB (zA (.int 0)) zV)))))) qJ)
 (qG (jL 5 (zI ixD (mkL (qD (zB (zA .non) (zB (zA (.int 0)) (zB (zA (.int 1)) (zB (zI subD (zI jA (zI qR (zJ 0) (zA (.int 40))) (zI jW (zI xV (zA (.int 2)) (zI powD (zA (.int 10)) (zA (.int 60)))) (zA (.int 1)))) (zI powD (zA (.int 10)) (zA (.int 60)))) (zB (zA (.int 1)) zV))))))) (zI jA (zI qR (zJ 0) (zA (.int 8))) (zA (.int 5)))))
 (retG (mkT (qD (zB (zA (.str "put")) (zB (qN 2 kX (zB (zJ 4) (zB (zJ 2) zV))) (zB (qC 5) zV)))))))))))))
noncomputable def GH:List D->Option Ret:=runG GG 6
end
namespace FL
open PySem PySem.Spec PyProof.Rows L2
abbrev Spn:=Option Int×Option Int
noncomputable def spD(s:Spn):D:=.tup [oi s.1,oi s.2]
noncomputable def oS:Option Spn->D
 |none=>.non
 |some s=>spD s
noncomputable def hasS(s:Spn)(p:Int):Bool:=(match s.1 with | none=>true | some a=>decide (a<=p))&&(match s.2 with | none=>true | some b=>decide (p<b))
def okS(s:Spn):Prop:=∀a b,s.1=some a->s.2=some b->a<b
@[simp] theorem spD_0(s:Spn):ixD (spD s) (.int 0)=some (oi s.1):=ixT0 _ _
@[simp] theorem spD_1(s:Spn):ixD (spD s) (.int 1)=some (oi s.2):=ixT1 _ _ _
@[simp] theorem spD_flat(s:Spn):flat (spD s)=true:=by simp[spD]
@[simp] theorem spD_isD(s:Spn):isD (spD s) .non=some (.bl false):=rfl
@[simp] theorem spD_notD(s:Spn):notD (spD s) .non=some (.bl true):=rfl
@[simp] theorem spD_asLT(s:Spn):asLT (spD s)=some [oi s.1,oi s.2]:=rfl
@[simp] theorem oS_isD(o:Option Spn):isD (oS o) .non=some (.bl o.isNone):=by cases o<;>rfl
@[simp] theorem oS_notD(o:Option Spn):notD (oS o) .non=some (.bl o.isSome):=by cases o<;>rfl
theorem has_eq(s:Spn)(p:Int):pH [spD s,.int p]=some (.val (.bl (hasS s p))):=by
 obtain⟨a,b⟩:=s;unfold pH runG CC;cases a<;>cases b<;>simp[args,hasS]
theorem length_eq(s:Spn):uY [spD s]=some (.val (oi (match s.1,s.2 with | some a,some b=>some (b-a) | _,_=>none))):=by
 obtain⟨a,b⟩:=s;unfold uY runG uX;cases a<;>cases b<;>simp[args]
noncomputable def lateL:Option Int->Option Int->Option Int
 |none,b=>b
 |a,none=>a
 |some a,some b=>some (max a b)
noncomputable def wT:Option Int->Option Int->Option Int
 |none,b=>b
 |a,none=>a
 |some a,some b=>some (min a b)
noncomputable def pZ:Option Int->Option Int->Bool
 |some b,some l=>decide (b<=l)
 |_,_=>false
theorem aBp(a b:Option Int):gI [oi a,oi b]=some (.val (oi (lateL a b))):=by
 unfold gI runG mI;cases a<;>cases b<;>simp[args,lateL]
theorem aCf(a b:Option Int):eC [oi a,oi b]=some (.val (oi (wT a b))):=by
 unfold eC runG gP;cases a<;>cases b<;>simp[args,wT]
theorem WZ(a b:Option Int):fX [oi a,oi b]=some (.val (.bl (pZ a b))):=by
 unfold fX runG lH;cases a<;>cases b<;>simp[args,pZ]
noncomputable def meetS(s t:Spn):Option Spn:=if pZ (wT s.2 t.2) (lateL s.1 t.1)=true then none else some (lateL s.1 t.1,wT s.2 t.2)
theorem meet_eq(s t:Spn):mE [spD s,spD t]=some (.val (oS (meetS s t))):=by
 unfold mE runG uD;cases h:pZ (wT s.2 t.2) (lateL s.1 t.1)<;>simp[args,aBp,aCf,WZ,h,meetS,oS,spD]
def HasS(s:Spn)(p:Int):Prop:=(∀a,s.1=some a->a<=p)/\(∀b,s.2=some b->p<b)
theorem vQ(s:Spn)(p:Int):hasS s p=true↔HasS s p:=by
 obtain⟨a,b⟩:=s;cases a<;>cases b<;>simp[hasS,HasS]
theorem NC{a c:Option Int}{p:Int}:(∀x,lateL a c=some x->x<=p)↔(∀x,a=some x->x<=p)/\(∀x,c=some x->x<=p):=by
 cases a<;>cases c<;>simp[lateL]
 omega
theorem NL{a c:Option Int}{p:Int}:(∀x,wT a c=some x->p<x)↔(∀x,a=some x->p<x)/\(∀x,c=some x->p<x):=by
 cases a<;>cases c<;>simp[wT]
 omega
theorem WY{b l:Option Int}{p:Int}(h:pZ b l=true)(h1:∀x,l=some x->x<=p)(h2:∀x,b=some x->p<x):False:=by
 cases b<;>cases l<;>simp[pZ] at h
 have:=h1 _ rfl;have:=h2 _ rfl;omega
noncomputable def hasO(o:Option Spn)(p:Int):Bool:=match o with
 |none=>false
 |some u=>hasS u p
theorem WC(s t:Spn)(p:Int):hasO (meetS s t) p=(hasS s p&&hasS t p):=by
 rw[mC,cA,vQ,vQ];unfold meetS
 by_cases h:pZ (wT s.2 t.2) (lateL s.1 t.1)=true
 . rw[if_pos h];refine⟨fun z=>by simp[hasO] at z,fun z=>(WY h (NC.mpr ⟨z.1.1,z.2.1⟩) (NL.mpr ⟨z.1.2,z.2.2⟩)).elim⟩
 . rw[if_neg h];show hasS _ p=true↔_;rw[vQ];show(∀x,lateL s.1 t.1=some x->x<=p)/\(∀x,wT s.2 t.2=some x->p<x)↔_;rw[NC,NL];exact⟨fun⟨⟨a,b⟩,c,d⟩=>⟨⟨a,c⟩,b,d⟩,fun⟨⟨a,c⟩,b,d⟩=>⟨⟨a,b⟩,c,d⟩⟩
theorem aBg{s t u:Spn}(h:meetS s t=some u):okS u:=by
 unfold meetS at h
 split at h
 . cases h
 . rename_i hn;cases h;intro a b h1 h2;simp only at h1 h2;rw[h1,h2] at hn;simp[pZ] at hn;omega
open Builtin.Int (intBits)
noncomputable def cel(ns:List Int)(k:Nat):Int:=ns.getD k 0
theorem aCp(ns:List Int){k:Int}(h:0<=k):fW [.lst (ns.map D.int),.int k]=some (.val (.int (ns.getD k.toNat 0))):=by
 unfold fW runG oK
 by_cases hk:k<(ns.length:Int)
 . have hl : k < ((ns.map D.int).length : Int) := by simpa using hk
   have e:(ns.map D.int)[k.toNat]?=some (.int (ns.getD k.toNat 0)):=by
    have:k.toNat<ns.length:=by omega
    simp[this,List.getD]
   simp[args,hk,jC _ h hl,e]
 . have:ns.getD k.toNat 0=0:=by
    have:ns.length<=k.toNat:=by omega
    simp[List.getD,bV this]
   rw[this];simp[args,hk]
theorem cell_eq(ns:List Int)(k:Nat):fW [.lst (ns.map D.int),.int (k:Int)]=some (.val (.int (cel ns k))):=aCp ns (k:=(k:Int)) (by omega)
theorem WX{a b:Int}{m:Nat}(hb:0<=b)(h:intBits a<=m):intBits (a/b)<=m:=by
 rw[<- GS _ hb];exact bits_fdiv h
theorem xB{a:Int}{m:Nat}(h:a.natAbs<2 ^ m):intBits a<=m:=intBits_le_iff.mpr h
inductive Dd where
 |put (s:Spn) (v:Option Int) | widen (a m:Int) | narrow (a m:Int) | move (f:Int) | stretch (t b:Int) | mirror
noncomputable def insD:Dd->D
 | .put s v=>.ins 0 [spD s,oi v]
 | .widen a m=>.ins 1 [.non,.int a,.int m]
 | .narrow a m=>.ins 2 [.non,.int a,.int m]
 | .move f=>.ins 3 [.non,.int f]
 | .stretch t b=>.ins 4 [.non,.int t,.int b]
 | .mirror=>.ins 5 [.non]
noncomputable def okD:Dd->Prop
 | .put s _=>okS s
 | .widen _ m=>0<=m
 | .narrow _ m=>0<=m
 | .stretch t b=>(1<=t/\t<=1000)/\1<=b/\b<=1000
 |_=>True
noncomputable def cameF:Dd->Int->Option Int
 | .put s _,p=>if hasS s p=true then none else some p
 | .widen a m,p=>if p<a then some p else if p<a+m then none else some (p-m)
 | .narrow a m,p=>some (if p<a then p else p+m)
 | .move f,p=>some (p-f)
 | .stretch t b,p=>some (p*b/t)
 | .mirror,p=>some (-p)
noncomputable def eW(t b p:Int):Int:=-(-p*t/b)
noncomputable def wentF:Dd->Int->Option Int
 | .put _ _,p=>some p
 | .widen a m,p=>some (if p<a then p else p+m)
 | .narrow a m,p=>if p<a then some p else if p<a+m then none else some (p-m)
 | .move f,p=>some (p+f)
 | .stretch t b,p=>if eW t b p*b/t=p then some (eW t b p) else none
 | .mirror,p=>some (-p)
@[simp] theorem eqS_put_put:eqD (.str "put") (.str "put")=some (.bl true):=by kernel_rfl
@[simp] theorem neS_put_put:neD (.str "put") (.str "put")=some (.bl false):=by kernel_rfl
@[simp] theorem eqS_put_widen:eqD (.str "put") (.str "widen")=some (.bl false):=by kernel_rfl
@[simp] theorem neS_put_widen:neD (.str "put") (.str "widen")=some (.bl true):=by kernel_rfl
@[simp] theorem aBz:eqD (.str "put") (.str "narrow")=some (.bl false):=by kernel_rfl
@[simp] theorem aBa:neD (.str "put") (.str "narrow")=some (.bl true):=by kernel_rfl
@[simp] theorem eqS_put_move:eqD (.str "put") (.str "move")=some (.bl false):=by kernel_rfl
@[simp] theorem neS_put_move:neD (.str "put") (.str "move")=some (.bl true):=by kernel_rfl
@[simp] theorem YA:eqD (.str "put") (.str "stretch")=some (.bl false):=by kernel_rfl
@[simp] theorem XS:neD (.str "put") (.str "stretch")=some (.bl true):=by kernel_rfl
@[simp] theorem aCa:eqD (.str "put") (.str "mirror")=some (.bl false):=by kernel_rfl
@[simp] theorem aBb:neD (.str "put") (.str "mirror")=some (.bl true):=by kernel_rfl
@[simp] theorem eqS_widen_put:eqD (.str "widen") (.str "put")=some (.bl false):=by kernel_rfl
@[simp] theorem neS_widen_put:neD (.str "widen") (.str "put")=some (.bl true):=by kernel_rfl
@[simp] theorem XY:eqD (.str "widen") (.str "widen")=some (.bl true):=by kernel_rfl
@[simp] theorem XO:neD (.str "widen") (.str "widen")=some (.bl false):=by kernel_rfl
@[simp] theorem WH:eqD (.str "widen") (.str "narrow")=some (.bl false):=by kernel_rfl
@[simp] theorem VB:neD (.str "widen") (.str "narrow")=some (.bl true):=by kernel_rfl
@[simp] theorem aBy:eqD (.str "widen") (.str "move")=some (.bl false):=by kernel_rfl
@[simp] theorem aAz:neD (.str "widen") (.str "move")=some (.bl true):=by kernel_rfl
@[simp] theorem SX:eqD (.str "widen") (.str "stretch")=some (.bl false):=by kernel_rfl
@[simp] theorem SE:neD (.str "widen") (.str "stretch")=some (.bl true):=by kernel_rfl
@[simp] theorem WI:eqD (.str "widen") (.str "mirror")=some (.bl false):=by kernel_rfl
@[simp] theorem VC:neD (.str "widen") (.str "mirror")=some (.bl true):=by kernel_rfl
@[simp] theorem aCb:eqD (.str "narrow") (.str "put")=some (.bl false):=by kernel_rfl
@[simp] theorem aBc:neD (.str "narrow") (.str "put")=some (.bl true):=by kernel_rfl
@[simp] theorem WK:eqD (.str "narrow") (.str "widen")=some (.bl false):=by kernel_rfl
@[simp] theorem VE:neD (.str "narrow") (.str "widen")=some (.bl true):=by kernel_rfl
@[simp] theorem TB:eqD (.str "narrow") (.str "narrow")=some (.bl true):=by kernel_rfl
@[simp] theorem SG:neD (.str "narrow") (.str "narrow")=some (.bl false):=by kernel_rfl
@[simp] theorem YB:eqD (.str "narrow") (.str "move")=some (.bl false):=by kernel_rfl
@[simp] theorem XU:neD (.str "narrow") (.str "move")=some (.bl true):=by kernel_rfl
@[simp] theorem QK:eqD (.str "narrow") (.str "stretch")=some (.bl false):=by kernel_rfl
@[simp] theorem PK:neD (.str "narrow") (.str "stretch")=some (.bl true):=by kernel_rfl
@[simp] theorem TC:eqD (.str "narrow") (.str "mirror")=some (.bl false):=by kernel_rfl
@[simp] theorem SH:neD (.str "narrow") (.str "mirror")=some (.bl true):=by kernel_rfl
@[simp] theorem eqS_move_put:eqD (.str "move") (.str "put")=some (.bl false):=by kernel_rfl
@[simp] theorem neS_move_put:neD (.str "move") (.str "put")=some (.bl true):=by kernel_rfl
@[simp] theorem aCc:eqD (.str "move") (.str "widen")=some (.bl false):=by kernel_rfl
@[simp] theorem aBd:neD (.str "move") (.str "widen")=some (.bl true):=by kernel_rfl
@[simp] theorem YC:eqD (.str "move") (.str "narrow")=some (.bl false):=by kernel_rfl
@[simp] theorem XV:neD (.str "move") (.str "narrow")=some (.bl true):=by kernel_rfl
@[simp] theorem eqS_move_move:eqD (.str "move") (.str "move")=some (.bl true):=by kernel_rfl
@[simp] theorem neS_move_move:neD (.str "move") (.str "move")=some (.bl false):=by kernel_rfl
@[simp] theorem WL:eqD (.str "move") (.str "stretch")=some (.bl false):=by kernel_rfl
@[simp] theorem VF:neD (.str "move") (.str "stretch")=some (.bl true):=by kernel_rfl
@[simp] theorem YD:eqD (.str "move") (.str "mirror")=some (.bl false):=by kernel_rfl
@[simp] theorem XW:neD (.str "move") (.str "mirror")=some (.bl true):=by kernel_rfl
@[simp] theorem XZ:eqD (.str "stretch") (.str "put")=some (.bl false):=by kernel_rfl
@[simp] theorem XQ:neD (.str "stretch") (.str "put")=some (.bl true):=by kernel_rfl
@[simp] theorem SY:eqD (.str "stretch") (.str "widen")=some (.bl false):=by kernel_rfl
@[simp] theorem SF:neD (.str "stretch") (.str "widen")=some (.bl true):=by kernel_rfl
@[simp] theorem QI:eqD (.str "stretch") (.str "narrow")=some (.bl false):=by kernel_rfl
@[simp] theorem PH:neD (.str "stretch") (.str "narrow")=some (.bl true):=by kernel_rfl
@[simp] theorem WJ:eqD (.str "stretch") (.str "move")=some (.bl false):=by kernel_rfl
@[simp] theorem VD:neD (.str "stretch") (.str "move")=some (.bl true):=by kernel_rfl
@[simp] theorem OF:eqD (.str "stretch") (.str "stretch")=some (.bl true):=by kernel_rfl
@[simp] theorem OE:neD (.str "stretch") (.str "stretch")=some (.bl false):=by kernel_rfl
@[simp] theorem QJ:eqD (.str "stretch") (.str "mirror")=some (.bl false):=by kernel_rfl
@[simp] theorem PJ:neD (.str "stretch") (.str "mirror")=some (.bl true):=by kernel_rfl
@[simp] theorem aCd:eqD (.str "mirror") (.str "put")=some (.bl false):=by kernel_rfl
@[simp] theorem aBe:neD (.str "mirror") (.str "put")=some (.bl true):=by kernel_rfl
@[simp] theorem WM:eqD (.str "mirror") (.str "widen")=some (.bl false):=by kernel_rfl
@[simp] theorem VG:neD (.str "mirror") (.str "widen")=some (.bl true):=by kernel_rfl
@[simp] theorem TF:eqD (.str "mirror") (.str "narrow")=some (.bl false):=by kernel_rfl
@[simp] theorem SI:neD (.str "mirror") (.str "narrow")=some (.bl true):=by kernel_rfl
@[simp] theorem YE:eqD (.str "mirror") (.str "move")=some (.bl false):=by kernel_rfl
@[simp] theorem XX:neD (.str "mirror") (.str "move")=some (.bl true):=by kernel_rfl
@[simp] theorem QL:eqD (.str "mirror") (.str "stretch")=some (.bl false):=by kernel_rfl
@[simp] theorem PL:neD (.str "mirror") (.str "stretch")=some (.bl true):=by kernel_rfl
@[simp] theorem TH:eqD (.str "mirror") (.str "mirror")=some (.bl true):=by kernel_rfl
@[simp] theorem SJ:neD (.str "mirror") (.str "mirror")=some (.bl false):=by kernel_rfl
@[simp] theorem fldG_eq(ix:List (Nat×Nat))(f:FE)(ds:List Sl):fldG ix f ds=(f ds).bind (fldD ix):=rfl
@[simp] theorem fldD_ins(ix:List (Nat×Nat))(t:Nat)(es:List D):fldD ix (.ins t es)=(ix.lookup t).bind fun i=>es[i]?:=rfl
@[simp] theorem methV_eq(n:Nat)(cs:List Nat)(F:Nat->List D->Option Ret)(fo:FE)(g:FA)(ds:List Sl):methV n cs F fo g ds=(fo ds).bind fun o=>(g ds).bind fun l=>(methR n cs F o l).bind retV:=rfl
@[simp] theorem methF_eq(n:Nat)(cs:List Nat)(F:Nat->List D->Option Ret)(fo:FE)(g:FA)(ds:List Sl):methF n cs F fo g ds=(fo ds).bind fun o=>(g ds).bind fun l=>(methR n cs F o l).bind retF:=rfl
@[simp] theorem makeG_eq(t n:Nat)(G:List D->Option (List D))(g:FA)(ds:List Sl):makeG t n G g ds=(g ds).bind fun l=>if l.length=n/\flats l=true then (G l).map (D.ins t) else none:=rfl
@[simp] theorem retDG_eq(f:FE)(ds:List Sl):retDG f ds=(f ds).map fun d=>.rt (.val d):=rfl
theorem aBl{β : Type}(a:Nat)(b : β)(l:List (Nat×β)):((a,b)::l).lookup a=some b:=by simp[List.lookup]
theorem aCn{m:Int}(h:0<=m):eY [.int m]=some (.val .non):=by
 unfold eY runG lI;have : ¬m<0:=by omega
 simp[args,this]
theorem IQ{m:Int}(h:1<=m)(h2:m<=1000):eO [.int m]=some (.val .non):=by
 unfold eO runG iX;have h1 : ¬m<1:=by omega
 have h3 : ¬1000<m:=by omega
 simp[args,h1,h3]
theorem aBq(s:Spn)(v:Option Int):dZ [spD s,oi v]=some [spD s,oi v]:=by
 obtain⟨a,b⟩:=s;unfold dZ runN iL;simp[argsN,seqN,fldN,spD]
theorem wI:bQ []=some [.non]:=by
 unfold bQ runN gZ;simp[argsN,seqN,fldN]
theorem DU{a m:Int}(h:0<=m):cC [.int a,.int m]=some [.non,.int a,.int m]:=by
 unfold cC runN fI;simp[argsN,seqN,fldN,dropN,supN,aCn h,wI]
theorem WA{a:Int}: dS [.int a]=some [.non,.int a]:=by
 unfold dS runN gX;simp[argsN,seqN,fldN,dropN,supN,wI]
theorem KC{a m:Int}(h:1<=a/\a<=1000)(h2:1<=m/\m<=1000):dE [.int a,.int m]=some [.non,.int a,.int m]:=by
 unfold dE runN gE;simp[argsN,seqN,fldN,dropN,supN,IQ h.1 h.2,IQ h2.1 h2.2,wI]
end FL
namespace FL
open PySem PySem.Spec PyProof.Rows L2
abbrev Rw:=Option Int×Option Int×Option Int
noncomputable def rwD(r:Rw):D:=.tup [oi r.1,oi r.2.1,oi r.2.2]
noncomputable def has3(r:Rw)(p:Int):Bool:=hasS (r.1,r.2.1) p
def ok3(r:Rw):Prop:=okS (r.1,r.2.1)
@[simp] theorem rwD_0(r:Rw):ixD (rwD r) (.int 0)=some (oi r.1):=ixT0 _ _
@[simp] theorem rwD_1(r:Rw):ixD (rwD r) (.int 1)=some (oi r.2.1):=ixT1 _ _ _
@[simp] theorem rwD_2(r:Rw):ixD (rwD r) (.int 2)=some (oi r.2.2):=ixT2 _ _ _ _
@[simp] theorem rwD_flat(r:Rw):flat (rwD r)=true:=by simp[rwD]
@[simp] theorem rwD_shal(r:Rw)(n:Nat):shal (n+1) (rwD r)=true:=by simp[rwD]
@[simp] theorem rwD_tupG(h:List D->List Sl->Option (List Sl))(r:Rw)(ds:List Sl):tupG 3 h (rwD r) ds=h [oi r.1,oi r.2.1,oi r.2.2] ds:=by simp[rwD]
@[simp] theorem rwD_eqv(r t:Rw):eqvD (rwD r) (rwD t)=decide (r=t):=by
 obtain⟨a,b,c⟩:=r;obtain⟨x,y,z⟩:=t;rw[mC];simp[rwD]
theorem yN(l:List Rw):flats (l.map rwD)=true:=by
 induction l with
 |nil=>simp
 |cons a r ih=>simp[ih]
theorem vV(n:Nat)(l:List Rw):shals (n+2) (l.map rwD)=true:=HA fun d hd=>by obtain⟨r,_,rfl⟩:=cO.mp hd;simp
theorem KW:∀a b:List Rw,eqvs (a.map rwD) (b.map rwD)=decide (a=b)
 |[],[]=>by simp
 |[],y::b=>by simp
 |x::a,[]=>by simp
 | x :: a, y :: b => by
   simp only[bE,IM,rwD_eqv,KW a b];rw[mC];simp
theorem eqD_rw(a b:List Rw):eqD (.lst (a.map rwD)) (.lst (b.map rwD))=some (.bl (decide (a=b))):=by rw[KY (by simpa using vV 38 a) (by simpa using vV 38 b),vK,KW]
theorem PM(a b:List Rw):neD (.lst (a.map rwD)) (.lst (b.map rwD))=some (.bl (!decide (a=b))):=by rw[DL (by simpa using vV 38 a) (by simpa using vV 38 b),vK,KW]
theorem EI(a:List Rw):eqD (.lst (a.map rwD)) (.lst [])=some (.bl a.isEmpty):=by
 have:=eqD_rw a [];simp only[dO] at this;rw[this];cases a<;>simp
theorem yU(a:List Rw):neD (.lst (a.map rwD)) (.lst [])=some (.bl (!a.isEmpty)):=by
 have:=PM a [];simp only[dO] at this;rw[this];cases a<;>simp
theorem ND{n:Nat}(h:0<n):ixN n (-1)=some (n-1):=by
 unfold ixN;rw[if_neg (by decide),if_pos (by omega)];congr 1;omega
def ahead(a b:Rw):Prop:=∃x y,a.2.1=some x/\b.1=some y/\x<=y
structure Ord(rows:List Rw):Prop where
 ok:∀r∈rows,ok3 r
 pw:rows.Pairwise ahead
def Tel(rows:List Rw)(p v:Int):Prop:=∃r∈rows,has3 r p=true/\r.2.2=some v
noncomputable def knit1(acc:List Rw)(r:Rw):List Rw:=match r.2.2 with
 |none=>acc
 | some v => match acc with
   |[]=>[r]
   |q::t=>if q.2.1=r.1/\q.2.2=some v then (q.1,r.2.1,some v)::t else r::q::t
noncomputable def knitF(rows:List Rw):List Rw:=(rows.foldl knit1 []).reverse
theorem VU(acc:List Rw)(r:Rw)(R a b c:Sl)(hl:acc.length<16777216) :
  mJ [R,.own (acc.map rwD).reverse,.v (oi r.1),.v (oi r.2.1),.v (oi r.2.2)]=some (.nx [R,.own ((knit1 acc r).map rwD).reverse,.v (oi r.1),.v (oi r.2.1),.v (oi r.2.2)]) ∨
  mJ [R,.own (acc.map rwD).reverse,.v (oi r.1),.v (oi r.2.1),.v (oi r.2.2)]=some (.ct [R,.own ((knit1 acc r).map rwD).reverse,.v (oi r.1),.v (oi r.2.1),.v (oi r.2.2)]):=by
 obtain⟨lo,bh,v⟩:=r;unfold mJ;cases v with
 |none=>right;simp[knit1]
 | some v =>
   left;cases acc with
   | nil =>
     have e:D.tup [oi lo,oi bh,.int v]=rwD (lo,bh,some v):=rfl;simp[knit1,e]
   | cons q t =>
     have last:ixD (.lst ((t.map rwD).reverse++[rwD q])) (.int (-1))=some (rwD q):=vX _ _;have le:ixN (t.length+1) (-1)=some t.length:=by rw[ND (by omega)];rfl
     have hl':t.length+1<16777216:=by simpa using hl
     have e2:∀x:Option Int,eqD (oi x) (D.int v)=some (.bl (decide (x=some v))):=fun x=>eqD_oi x (some v)
     by_cases h1:q.2.1=lo
     . by_cases h2 : q.2.2 = some v
       . have e : D.tup [oi q.1, oi bh, .int v]=rwD (q.1, bh, some v):= rfl;simp[knit1,h1,h2,last,le,e2,e]
       . have e : D.tup [oi lo, oi bh, .int v]=rwD (lo, bh, some v):= rfl;simp[knit1,h1,h2,last,le,e2,hl',e]
     . have e : D.tup [oi lo, oi bh, .int v]=rwD (lo, bh, some v):= rfl;simp[knit1,h1,last,le,hl',e]
theorem IG(acc:List Rw)(r:Rw):(knit1 acc r).length<=acc.length+1:=by
 unfold knit1
 split
 . omega
 . split
   . simp
   . split<;>simp
theorem IE(R:Sl):∀(rows acc:List Rw) (a b c:Sl),acc.length+rows.length<16777216 →
  ∃a' b' c',jM (tupG 3 (zU (qA 2) (zU (qA 3) (zU (qA 4) tgNil)))) mJ (rows.map rwD) [R,.own (acc.map rwD).reverse,a,b,c]=some (.nx [R,.own ((rows.foldl knit1 acc).map rwD).reverse,a',b',c'])
 |[],acc,a,b,c,_=>⟨a,b,c,rfl⟩
 | r :: rows, acc, a, b, c, h => by
   simp only[aK] at h;have hl:=IG acc r;obtain⟨a',b',c',ih⟩:=IE R rows (knit1 acc r) (.v (oi r.1)) (.v (oi r.2.1)) (.v (oi r.2.2)) (by omega);refine⟨a',b',c',?_⟩;rcases VU acc r R a b c (by omega) with e | e<;>simp[jM,e,ih]
theorem BW(rows:List Rw)(h:rows.length<16777216):eX [.lst (rows.map rwD)]=some (.fresh ((knitF rows).map rwD)):=by
 obtain⟨a,b,c,e⟩:=IE (.v (.lst (rows.map rwD))) rows [] .no .no .no (by simpa using h);simp only[List.reverse_nil,dO] at e;unfold eX runG uE;have fl:=yN (knitF rows);unfold knitF at fl ⊢;rw[List.map_reverse] at fl ⊢;simp[args,e,fl]
theorem wP(rows:List Rw):(knitF rows).length<=rows.length:=by
 unfold knitF;rw[eJ]
 have:∀(rows acc:List Rw),(rows.foldl knit1 acc).length<=acc.length+rows.length:=by
  intro rows
  induction rows with
  |nil=>intro acc;simp
  | cons r t ih =>
    intro acc;have:=ih (knit1 acc r);have:=IG acc r;simp only[List.foldl_cons,aK];omega
 have:=this rows [];simpa using this
noncomputable def adjOk:List Rw->Prop
 |b::a::t=>¬(a.2.1=b.1/\a.2.2=b.2.2)/\adjOk (a::t)
 |_=>True
structure KI(acc:List Rw):Prop where
 ok:∀r∈acc,ok3 r
 pw:acc.Pairwise fun b a=>ahead a b
 val:∀r∈acc,r.2.2≠none
 adj:adjOk acc
theorem KI.nil:KI []:=⟨(fun _ h=>nomatch h),List.Pairwise.nil,(fun _ h=>nomatch h),trivial⟩
theorem DV(r:Rw)(p:Int):has3 r p=true↔(∀a,r.1=some a->a<=p)/\(∀b,r.2.1=some b->p<b):=vQ _ _
theorem PR{acc:List Rw}{r:Rw}(k:KI acc)(ho:ok3 r)(ha:∀a∈acc,ahead a r) :
  KI (knit1 acc r)/\(∀r',ahead r r'->(∀a∈acc,ahead a r')->∀a∈knit1 acc r,ahead a r')/\∀p v,Tel (knit1 acc r) p v↔Tel acc p v\/(has3 r p=true/\r.2.2=some v):=by
 obtain⟨lo,bh,w⟩:=r;cases w with
 | none =>
   refine⟨k,fun r' _ h=>h,fun p v=>⟨.inl,fun h=>h.elim id fun z=>by simp at z⟩⟩
 | some w =>
   cases acc with
   | nil =>
     refine⟨⟨?_,?_,?_,trivial⟩,?_,?_⟩
     . intro x hx;simp[knit1] at hx;subst hx;exact ho
     . simp[knit1]
     . intro x hx;simp[knit1] at hx;subst hx;simp
     . intro r' h1 _ a h;simp[knit1] at h;subst h;exact h1
     . intro p v;simp[knit1,Tel]
   | cons q t =>
     obtain⟨x,y,hx,hy,hxy⟩:=ha q aV;simp only at hy;have pw:=bL.mp k.pw
     by_cases hm:q.2.1=lo/\q.2.2=some w
     . have e : knit1 (q :: t) (lo, bh, some w) = (q.1, bh, some w) :: t := by simp [knit1, hm.1, hm.2]
       rw[e]
       have exy:x=y:=by
        have:=hm.1;rw[hx,hy] at this;exact Option.some.inj this
       have hn:∀p,has3 (q.1,bh,some w) p=true↔has3 q p=true\/has3 (lo,bh,some w) p=true:=by
        intro p;rw[DV,DV,DV];simp only;constructor
        . rintro ⟨h1, h2⟩
          by_cases hp:p<x
          . exact .inl ⟨h1,fun b hb=>by rw[hx] at hb;cases hb;exact hp⟩
          . exact .inr ⟨fun a h=>by rw[hy] at h;cases h;omega,h2⟩
        . rintro (⟨h1, h2⟩ | ⟨h1, h2⟩)
          . refine⟨h1, fun b hb => ?_⟩;have:=h2 x hx;have:=ho y b hy hb;omega
          . refine⟨fun a h => ?_, h2⟩;have:=k.ok q aV a x h hx;have:=h1 y hy;omega
       refine⟨⟨?_,?_,?_,?_⟩,?_,?_⟩
       . intro z hz;rcases aE.mp hz with rfl | hz
         . intro a b h1 h2;have:=k.ok q aV a x h1 hx;have:=ho y b hy h2;omega
         . exact k.ok z (aN _ hz)
       . refine bL.mpr ⟨fun a h => ?_, pw.2⟩;exact pw.1 a h
       . intro z hz;rcases aE.mp hz with rfl | hz
         . simp
         . exact k.val z (aN _ hz)
       . have ka := k.adj;cases t with
         |nil=>trivial
         | cons a t =>
           refine⟨fun h=>ka.1 ⟨h.1,?_⟩,ka.2⟩;rw[hm.2];exact h.2
       . intro r' h1 h2 a h;rcases aE.mp h with rfl | h
         . exact h1
         . exact h2 a (aN _ h)
       . intro p v;constructor
         . rintro ⟨z, hz, h1, h2⟩;rcases aE.mp hz with rfl | hz
           . rcases (hn p).mp h1 with h3 | h3
             . exact .inl ⟨q,aV,h3,hm.2.trans h2⟩
             . exact .inr ⟨h3,h2⟩
           . exact .inl ⟨z,aN _ hz,h1,h2⟩
         . rintro (⟨z, hz, h1, h2⟩ | ⟨h1, h2⟩)
           . rcases aE.mp hz with rfl | hz
             . exact⟨_,aV,(hn p).mpr (.inl h1),by rw[hm.2] at h2;exact h2⟩
             . exact⟨z,aN _ hz,h1,h2⟩
           . exact⟨_,aV,(hn p).mpr (.inr h1),h2⟩
     . have e : knit1 (q :: t) (lo, bh, some w) = (lo, bh, some w) :: q :: t := by simp only [knit1]; rw [if_neg hm]
       rw[e];refine⟨⟨?_,bL.mpr ⟨ha,k.pw⟩,?_,hm,k.adj⟩,?_,?_⟩
       . intro z hz;rcases aE.mp hz with rfl | hz
         . exact ho
         . exact k.ok z hz
       . intro z hz;rcases aE.mp hz with rfl | hz
         . simp
         . exact k.val z hz
       . intro r' h1 h2 a h;rcases aE.mp h with rfl | h
         . exact h1
         . exact h2 a h
       . intro p v;constructor
         . rintro ⟨z, hz, h1, h2⟩;rcases aE.mp hz with rfl | hz
           . exact .inr ⟨h1,h2⟩
           . exact .inl ⟨z,hz,h1,h2⟩
         . rintro (⟨z, hz, h1, h2⟩ | ⟨h1, h2⟩)
           . exact⟨z,aN _ hz,h1,h2⟩
           . exact⟨_,aV,h1,h2⟩
theorem IF:∀(rows acc:List Rw),KI acc->Ord rows->(∀a∈acc,∀r∈rows,ahead a r)->KI (rows.foldl knit1 acc)/\∀p v,Tel (rows.foldl knit1 acc) p v↔Tel acc p v\/Tel rows p v
 |[],acc,k,_,_=>⟨k,fun p v=>⟨.inl,fun h=>h.elim id fun⟨r,hr,_⟩=>nomatch hr⟩⟩
 | r :: rows, acc, k, o, h => by
   have pw:=bL.mp o.pw;obtain⟨k1,h1,t1⟩:=PR k (o.ok r aV) fun a ha=>h a ha r aV;obtain⟨k2,t2⟩:=IF rows (knit1 acc r) k1 ⟨fun z hz=>o.ok z (aN _ hz),pw.2⟩ fun a ha r' hr'=>h1 r' (pw.1 r' hr') (fun b hb=>h b hb r' (aN _ hr')) a ha;refine⟨k2,fun p v=>?_⟩;show Tel (rows.foldl knit1 (knit1 acc r)) p v↔_;rw[t2,t1];constructor
   . rintro ((h | ⟨h, e⟩) | ⟨z, hz, h⟩)
     . exact .inl h
     . exact .inr ⟨r,aV,h,e⟩
     . exact .inr ⟨z,aN _ hz,h⟩
   . rintro (h' | ⟨z, hz, h'⟩)
     . exact .inl (.inl h')
     . rcases aE.mp hz with rfl | hz
       . exact .inl (.inr h')
       . exact .inr ⟨z,hz,h'⟩
structure MapF(ps:List Rw):Prop where
 ord:Ord ps
 val:∀r∈ps,r.2.2≠none
 adj:∀(i:Nat) (a b:Rw),ps[i]?=some a->ps[i+1]?=some b->¬(a.2.1=b.1/\a.2.2=b.2.2)
theorem IX:∀{l:List Rw},adjOk l->∀(i:Nat) (b a:Rw),l[i]?=some b->l[i+1]?=some a->¬(a.2.1=b.1/\a.2.2=b.2.2)
 |[],_,i,b,a,e,_=>by simp at e
 |[x],_,i,b,a,e,e2=>by simp at e2
 | x :: y :: t, h, 0, b, a, e, e2 => by
   simp at e e2;subst e e2;exact h.1
 |x::y::t,h,i+1,b,a,e,e2=>IX h.2 i b a (by simpa using e) (by simpa using e2)
theorem KI.map{acc:List Rw}(k:KI acc):MapF acc.reverse:=by
 refine⟨⟨fun r hr=>k.ok r (lF.mp hr),OA.mpr k.pw⟩,fun r hr=>k.val r (lF.mp hr),fun i a b h1 h2=>?_⟩;have l2:=(aT.mp h2).1;rw[eJ] at l2;rw[lC (by omega)] at h1 h2;refine IX k.adj (acc.length-1-(i+1)) b a h2 ?_;rw[<- h1];congr 1;omega
theorem wO{rows:List Rw}(o:Ord rows):MapF (knitF rows):=(IF rows [] KI.nil o (fun _ h=>nomatch h)).1.map
open Builtin.Int (intBits)
structure UD(rows:List Rw)(s:Int):Prop where
 ord:Ord rows
 fin:∀r∈rows,∃lo bh,r.1=some lo/\r.2.1=some bh/\bh<=s
theorem UD.snoc{rows:List Rw}{s lo bh:Int}{v:Option Int}(h:UD rows s)(h1:s<=lo)(h2:lo<bh):UD (rows++[(some lo,some bh,v)]) bh:=by
 refine⟨⟨fun r hr=>?_,?_⟩,fun r hr=>?_⟩
 . rcases bG.mp hr with hr | hr
   . exact h.ord.ok r hr
   . have : r = (some lo, some bh, v) := by simpa using hr
     subst this;intro a b e1 e2;cases e1;cases e2;exact h2
 . refine gO.mpr ⟨h.ord.pw, iE _ _, fun a ha b hb => ?_⟩;have:b=(some lo,some bh,v):=by simpa using hb
   subst this;obtain⟨x,y,e1,e2,e3⟩:=h.fin a ha;exact⟨y,lo,e2,rfl,by omega⟩
 . rcases bG.mp hr with hr | hr
   . obtain⟨x, y, e1, e2, e3⟩ := h.fin r hr;exact⟨x,y,e1,e2,by omega⟩
   . have : r = (some lo, some bh, v) := by simpa using hr
     subst this;exact⟨lo,bh,rfl,rfl,QV _⟩
theorem ints_at(ns:List Int){k:Int}(h0:0<=k)(h1:k<ns.length):ixD (.lst (ns.map D.int)) (.int k)=some (.int (cel ns k.toNat)):=by
 have h3:k.toNat<ns.length:=by omega
 rw[jC _ h0 (by simpa using h1)];simp[h3,cel,List.getD]
theorem HW{r:Rw}{t:List Rw}(h:Ord (r::t)):Ord ((none,r.2)::t):=by
 have pw:=bL.mp h.pw;refine⟨fun z hz=>?_,bL.mpr ⟨pw.1,pw.2⟩⟩;rcases aE.mp hz with rfl | hz
 . intro a b e1 _;cases e1
 . exact h.ok z (aN _ hz)
theorem MP{r:Rw}{t:List Rw}(h:Ord (t++[r])):Ord (t++[(r.1,none,r.2.2)]):=by
 have pw:=gO.mp h.pw;refine⟨fun z hz=>?_,gO.mpr ⟨pw.1,iE _ _,fun a ha b hb=>?_⟩⟩
 . rcases bG.mp hz with hz | hz
   . exact h.ok z (aY _ hz)
   . have : z = (r.1, none, r.2.2) := by simpa using hz
     subst this;intro a b _ e2;cases e2
 . have : b = (r.1, none, r.2.2) := by simpa using hb
   subst this;exact pw.2.2 a ha r (by simp)
theorem ixN0{n:Nat}(h:0<n):ixN n 0=some 0:=by
 rw[BY (by decide) (by omega)];rfl
theorem vP{α : Type}{l:List α}{i:Nat}{x : α}(h:l[i]?=some x):l.set i x=l:=by
 obtain⟨hi,rfl⟩:=aT.mp h;exact List.set_getElem_self hi
theorem open_lo(i:Nat)(T:FT)(ds:List Sl)(rows:List Rw)(t:Bool)(o:Ord rows)(hi:ds[i]?=some (.own (rows.map rwD)))(hT:T ds=some t):∃rows':List Rw,Ord rows'/\rows'.length=rows.length/\(rows'=rows\/∃r r',rows=r::r'/\rows'=(none,r.2)::r') ∧
   (ifG (andT (zS (zI neD (zJ i) (mkL (qD zV)))) T) (putG i (zA (.int 0)) (mkT (qD (zB (zA .non) (zB (zI ixD (zI ixD (zJ i) (zA (.int 0))) (zA (.int 1))) (zB (zI ixD (zI ixD (zJ i) (zA (.int 0))) (zA (.int 2))) zV)))))) qJ) ds=some (.nx (ds.set i (.own (rows'.map rwD)))):=by
 have ne:=yU rows;cases t with
 | true =>
   cases rows with
   | nil =>
     simp at ne hi;exact⟨[],o,rfl,.inl rfl,by simp[hi,ne,vP hi]⟩
   | cons r t =>
     have e0:D.tup [.non,oi r.2.1,oi r.2.2]=rwD (none,r.2):=rfl;have le:ixN (t.length+1) 0=some 0:=ixN0 (by omega);refine⟨(none,r.2)::t,HW o,by simp,.inr ⟨r,t,rfl,rfl⟩,?_⟩;simp at ne hi;simp[hi,ne,hT,le,e0]
 |false=>exact⟨rows,o,rfl,.inl rfl,by simp[hi,ne,hT,vP hi]⟩
theorem open_hi(i:Nat)(T:FT)(ds:List Sl)(rows:List Rw)(t:Bool)(o:Ord rows)(hi:ds[i]?=some (.own (rows.map rwD)))(hT:T ds=some t):∃rows':List Rw,Ord rows'/\rows'.length=rows.length/\(rows'=rows\/∃r r',rows=r'++[r]/\rows'=r'++[(r.1,none,r.2.2)]) ∧
   (ifG (andT (zS (zI neD (zJ i) (mkL (qD zV)))) T) (putG i (un1 negD (zA (.int 1))) (mkT (qD (zB (zI ixD (zI ixD (zJ i) (un1 negD (zA (.int 1)))) (zA (.int 0))) (zB (zA .non) (zB (zI ixD (zI ixD (zJ i) (un1 negD (zA (.int 1)))) (zA (.int 2))) zV)))))) qJ) ds=some (.nx (ds.set i (.own (rows'.map rwD)))):=by
 have ne:=yU rows;cases t with
 | true =>
   rcases pL rows with rfl | ⟨t,r,rfl⟩
   . simp at ne hi;exact⟨[],o,rfl,.inl rfl,by simp[hi,ne,vP hi]⟩
   . rw [pM] at o ne hi ⊢;have last:ixD (.lst (t.map rwD++[rwD r])) (.int (-1))=some (rwD r):=vX _ _;have le:ixN (t.length+1) (-1)=some t.length:=by rw [ND (by omega)]; rfl
     have e0:D.tup [oi r.1,.non,oi r.2.2]=rwD (r.1,none,r.2.2):=rfl;have ie:(t++[r]).isEmpty=false:=by simp
     refine⟨t++[(r.1,none,r.2.2)],MP o,by simp,.inr ⟨r,t,rfl,rfl⟩,?_⟩;rw[ie] at ne;simp at ne hi;simp[hi,ne,hT,last,le,e0]
 |false=>exact⟨rows,o,rfl,.inl rfl,by simp[hi,ne,hT,vP hi]⟩
theorem UJ(i:Int):hJ [.int i]=some (.val (.bl true)):=by
 unfold hJ runG oG;simp[args]
theorem wQ{i j:Int}(h:0<=j)(h2:j<=1000):xV (.int i) (.int j)=some (.int (i*j)):=xZ (.of_right (xB (dU (show j.natAbs<=1000 by omega) (by decide))))
@[simp] theorem VJ(n:Nat)(cs:List Nat)(F:Nat->List D->Option Ret)(t:Nat)(es l:List D):methR n cs F (.ins t es) l=if t∈cs/\l.length=n then F t (.ins t es::l) else none:=rfl
theorem LQ(p a m:Int):eS [.int p,.int a,.int m]=some (.val (oi (if p<a then some p else if p<a+m then none else some (p-m)))):=by
 unfold eS runG mG
 by_cases h:p<a
 . simp[args,h]
 . by_cases h2:p<a+m<;>simp[args,h,h2]
theorem HX(p a m:Int):gH [.int p,.int a,.int m]=some (.val (.int (if p<a then p else p+m))):=by
 unfold gH runG pG
 by_cases h:p<a<;>simp[args,h]
theorem DP(t b p:Int)(ht:1<=t/\t<=1000)(hb:1<=b/\b<=1000):cU [.ins 4 [.non,.int t,.int b],.int p]=some (.val (.int (eW t b p))):=by
 unfold cU runG dY;have h1:=wQ (i:=-p) (j:=t) (by omega) ht.2;have h2:=yL (j:=b) (-p*t) (by omega) (by omega);simp[args,aBl,h1,h2,eW]
theorem JE(t b p:Int)(ht:1<=t/\t<=1000)(hb:1<=b/\b<=1000):gF [.ins 4 [.non,.int t,.int b],.int p]=some (.val (.int (p*b/t))):=by
 unfold gF runG iK;have h1:=wQ (i:=p) (j:=b) (by omega) hb.2;have h2:=yL (j:=t) (p*b) (by omega) (by omega);simp[args,List.lookup,h1,h2]
theorem came_eq(d:Dd)(h:okD d)(p:Int):methR 1 [0,1,2,3,4,5] cS (insD d) [.int p]=some (.val (oi (cameF d p))):=by
 cases d with
 | put s v =>
   simp only[insD,VJ,aE,true_or,aK,fD,and_self,if_true,cS];unfold nM runG nL;cases hs:hasS s p<;>simp[args,aBl,has_eq,cameF,hs]
 | widen a m =>
   simp[insD,cS];unfold lR runG lQ;simp[args,List.lookup,LQ,cameF]
 | narrow a m =>
   simp[insD,cS];unfold kO runG kN;simp[args,List.lookup,HX,cameF]
 | move f =>
   simp[insD,cS];unfold mQ runG mP;simp[args,List.lookup,cameF]
 | stretch t b =>
   simp[insD,cS,JE t b p h.1 h.2,cameF]
 | mirror =>
   simp[insD,cS];unfold kU runG kT;simp[args,cameF]
theorem went_eq(d:Dd)(h:okD d)(p:Int):methR 1 [0,1,2,3,4,5] cI (insD d) [.int p]=some (.val (oi (wentF d p))):=by
 cases d with
 | put s v =>
   simp[insD,cI];unfold nI runG nH;simp[args,wentF]
 | widen a m =>
   simp[insD,cI];unfold lM runG lJ;simp[args,List.lookup,HX,wentF]
 | narrow a m =>
   simp[insD,cI];unfold iZ runG iY;simp[args,List.lookup,LQ,wentF]
 | move f =>
   simp[insD,cI];unfold mL runG mK;simp[args,List.lookup,wentF]
 | stretch t b =>
   simp[insD,cI];unfold iH runG iG;have e1:=came_eq (.stretch t b) h (eW t b p);simp only[insD,cameF] at e1
   by_cases hc:eW t b p*b/t=p
   . simp[args,bP,DP t b p h.1 h.2,e1,wentF,hc]
   . simp[args,bP,DP t b p h.1 h.2,e1,wentF,hc]
 | mirror =>
   simp[insD,cI];unfold kQ runG kP;simp[args,wentF]
theorem aBn{t b p:Int}(hb:0<b):p*t<=eW t b p*b/\(eW t b p-1)*b<p*t:=by
 have h1:=Int.ediv_mul_le (-p*t) (Int.ne_of_gt hb);have h2:=Int.lt_ediv_add_one_mul_self (-p*t) hb;unfold eW;have e1 : -(-p*t/b)*b=-((-p*t/b)*b):=by rw[QU]
 have e2:(-(-p*t/b)-1)*b=-(((-p*t/b)+1)*b):=by
  rw[<- QU];congr 1;omega
 have e3 : -p*t=-(p*t):=QU ..;rw[e1,e2];rw[e3] at h1 h2 ⊢;constructor<;>omega
end FL
namespace FL
open PySem PyProof.Rows L2 Builtin.Str
noncomputable def txS(cs:List Nat):Str:=⟨cs.toArray⟩
@[simp] theorem MZ(cs:List Nat):(txS cs).cps.toList=cs:=rfl
@[simp] theorem vF(cs:List Nat):(txS cs).length=cs.length:=by simp[txS,Str.length]
theorem BN{a b:List Nat}: txS a=txS b↔a=b:=⟨fun h=>by have:=congrArg (fun x:Str=>x.cps.toList) h;simpa using this,fun h=>by rw[h]⟩
@[simp] theorem txS_app(a b:List Nat):txS a++txS b=txS (a++b):=Str.ext' (by rw[Str.cps_append];simp[txS])
theorem yH(x:Str)(l u:Option Int):Txt.slice x l u=StrLaws.sliceText x l u:=rfl
theorem GZ(cs:List Nat){a b:Nat}(hab:a<=b)(hb:b<=cs.length):Txt.slice (txS cs) (some (a:Int)) (some (b:Int))=txS ((cs.drop a).take (b-a)):=by
 rw[yH,StrLaws.sliceText_nat _ hab (by simpa using hb)];rfl
theorem vN(cs:List Nat){b:Nat}(hb:b<=cs.length):Txt.slice (txS cs) none (some (b:Int))=txS (cs.take b):=by
 have e:Txt.slice (txS cs) none (some (b:Int))=Txt.slice (txS cs) (some ((0:Nat):Int)) (some (b:Int)):=by
  rw[yH,yH];unfold StrLaws.sliceText;rw[StrLaws.sliceIdx_none_lo];rfl
 rw[e,GZ cs (dA _) hb];simp
theorem OQ(cs:List Nat)(a:Nat):Txt.slice (txS cs) (some (a:Int)) none=txS (cs.drop a):=by
 have key:∀a:Nat,a<=cs.length->Txt.slice (txS cs) (some (a:Int)) none=txS (cs.drop a):=by
  intro a ha
  have e:Txt.slice (txS cs) (some (a:Int)) none=Txt.slice (txS cs) (some (a:Int)) (some (cs.length:Int)):=by
   rw[yH,yH];unfold StrLaws.sliceText;rw[StrLaws.sliceIdx_none_hi];simp
  rw[e,GZ cs ha (aR _)];congr 1;exact fY (by simp)
 by_cases ha:a<=cs.length
 . exact key a ha
 . have e:Txt.slice (txS cs) (some (a:Int)) none=Txt.slice (txS cs) (some (cs.length:Int)) none:=by
    have:strSliceIndices (some (a:Int)) none 1 (txS cs).length=strSliceIndices (some (cs.length:Int)) none 1 (txS cs).length:=by
     have h1 : ¬((a:Int)<0):=by omega
     have h2 : ¬((cs.length:Int)<0):=by omega
     have e1:max (0:Int) (min (a:Int) (cs.length:Int))=cs.length:=by omega
     have e2:max (0:Int) (min (cs.length:Int) (cs.length:Int))=cs.length:=by omega
     simp only[strSliceIndices,vF,h1,h2,if_false,e1,e2,show((1:Int)>0)=True from by simp,if_true]
    rw[yH,yH];unfold StrLaws.sliceText;rw[this]
   rw[e,key _ (aR _),iR (by omega),iR (by omega)]
theorem in_one(cs:List Nat)(c:Nat):inS (.str (txS [c])) (.str (txS cs))=some (.bl (decide (c∈cs))):=by
 have e3:txS [c]=(⟨#[c]⟩:Str):=rfl;have e:=StrLaws.found_one (txS cs) c;rw[MZ] at e;rw[e3];show some (D.bl _)=_;rw[e]
theorem len_tx(cs:List Nat)(h:cs.length<=16777216):lenD [.str (txS cs)]=some (.int cs.length):=by
 simp[lenD,h]
theorem LJ(a b:List Nat)(h:a.length+b.length<=16777216):jW (.str (txS a)) (.str (txS b))=some (.str (txS (a++b))):=by
 simp[jW,h]
def Asc(cs:List Nat):Prop:=∀c∈cs,c<1000
theorem shal_tx{cs:List Nat}(h:Asc cs)(n:Nat):shal n (.str (txS cs))=true:=by
 have:PyData.strOk (txS cs)=true:=by
  unfold PyData.strOk;rw[<- Array.all_toList,MZ,oO];intro c hc;have:=h c hc;simp;omega
 simp[shal,this]
end FL
namespace FL
open PySem PySem.Spec PyProof.Rows L2
open Builtin.Int (intBits)
noncomputable def told3:Dd->D
 | .put s v=>.tup [.str "put",spD s,oi v]
 | .widen a m=>.tup [.str "widen",.int a,.int m]
 | .narrow a m=>.tup [.str "narrow",.int a,.int m]
 | .move f=>.tup [.str "move",.int f,.int 0]
 | .stretch t b=>.tup [.str "stretch",.int t,.int b]
 | .mirror=>.tup [.str "mirror",.int 0,.int 0]
theorem aBk(d:Dd)(h:okD d):gK [told3 d]=some (.val (insD d)):=by
 unfold gK runG sF;cases d with
 |put s v=>simp[args,told3,insD,aBq]
 |widen a m=>simp[args,told3,insD,DU h]
 |narrow a m=>simp[args,told3,insD,DU h]
 |move f=>simp[args,told3,insD,WA]
 |stretch t b=>simp[args,told3,insD,KC h.1 h.2]
 |mirror=>simp[args,told3,insD,wI]
theorem SS(x y z:D):ixD (.lst [x,y,z]) (.int 2)=some z:=by rw[jC _ (by decide) (by simp)];rfl
theorem SK(c:Int):∃m,0<=m/\gC [.int c]=some (.val (.int m)):=by
 have p2:powD (.int 10) (.int 60)=some (.int (10 ^ 60)):=pow10 (by decide) (by decide);have mm:∀x,jA (.int x) (.int (10 ^ 60))=some (.int (x%10 ^ 60)):=fun x=>yO x (by decide);have q0:(0:Int)<=c/3%10 ^ 60:=iC _ (by decide);unfold gC runG uH;rcases(by omega:c%3=0\/c%3=1\/c%3=2) with h | h | h
 . exact⟨c/3%9,by omega,by simp[-Int.reducePow,-Nat.reducePow,args,p2,mm,h]⟩
 . exact⟨c/3%10 ^ 60,q0,by simp[-Int.reducePow,-Nat.reducePow,args,p2,mm,h]⟩
 . exact⟨c/3%61,by omega,by simp[-Int.reducePow,-Nat.reducePow,args,p2,mm,h,SS]⟩
theorem LS(c:Int):∃m,(1<=m/\m<=1000)/\gJ [.int c]=some (.val (.int m)):=by
 unfold gJ runG sE;rcases(by omega:c%2=0\/c%2=1) with h | h
 . exact⟨1+c/2%4,by omega,by simp[args,h]⟩
 . exact⟨1+c/2%1000,by omega,by simp[args,h]⟩
theorem JV(l:List Int):neD (.lst (l.map D.int)) (.lst [])=some (.bl (!l.isEmpty)):=by rw[neD_nil (OS 39 l)];cases l<;>rfl
theorem HQ(c:Int)(known:List Int)(hk:known.length<100000):∃v,fS [.int c,.lst (known.map D.int)]=some (.val (.int v)):=by
 have p2:powD (.int 10) (.int 60)=some (.int (10 ^ 60)):=pow10 (by decide) (by decide);have m1:xV (.int 2) (.int (10 ^ 60))=some (.int (2*10 ^ 60)):=xZ (.of_left (xB (by decide)));have mm:∀x,jA (.int x) (.int (2*10 ^ 60+1))=some (.int (x%(2*10 ^ 60+1))):=fun x=>yO x (by decide);unfold fS runG pI
 by_cases h1:c%3=1
 . exact⟨c/3%(2*10 ^ 60+1)-10 ^ 60,by simp[-Int.reducePow,-Nat.reducePow,args,h1,p2,m1,mm]⟩
 . by_cases h2 : c % 3 = 2
   . have e0 := JV known;cases hk0:known.isEmpty with
     | true =>
       rw[hk0] at e0;generalize known.map D.int=kd at *;exact⟨c/3%41-20,by simp[-Int.reducePow,-Nat.reducePow,args,h2,e0]⟩
     | false =>
       rw[hk0] at e0
       have hl:(0:Int)<(known.length:Int):=by
        cases known with
        |nil=>cases hk0
        |cons a r=>simp
       have hl2:(known.length:Int)<1000000000:=by omega
       have e1:=ints_at known (k:=c/3%(known.length:Int)) (iC _ (Int.ne_of_gt hl)) (uA _ hl);have e2:=yO (c/3) hl;have e3:=yL (c/3) hl hl2;exact⟨_,by simp[-Int.reducePow,-Nat.reducePow,args,h2,e0,e1,e2,e3];rfl⟩
   . exact⟨c/3%41-20,by simp[-Int.reducePow,-Nat.reducePow,args,h1,h2]⟩
theorem YX(a c:Int):∃s:Spn,okS s/\kX [.int a,.int c]=some (.val (spD s)):=by
 obtain⟨m,hm,em⟩:=SK (c/12);unfold kX runG sD
 by_cases h:8<c%12
 . rcases (by omega : c % 12 = 9 \/ c % 12 = 10 \/ c % 12 = 11) with e | e | e
   . exact⟨(some a,none),(fun a b _ z=>by cases z),by simp[args,em,e,spD]⟩
   . exact⟨(none,some a),(fun a b z=>by cases z),by simp[args,em,e,spD]⟩
   . exact⟨(none,none),(fun a b z=>by cases z),by simp[args,em,e,spD,SS]⟩
 . exact⟨(some a,some (a+(1+m))),(fun a b z w=>by cases z;cases w;omega),by simp[args,em,h,spD]⟩
theorem row3_ex(a b c:Int)(known:List Int)(hk:known.length<100000):∃d,okD d/\GH [.int a,.int b,.int c,.lst (known.map D.int)]=some (.val (told3 d)):=by
 obtain⟨at',ea⟩:=HQ b known hk;obtain⟨m,hm,em⟩:=SK c;obtain⟨s1,h1,e1⟩:=LS b;obtain⟨s2,h2,e2⟩:=LS c;obtain⟨sp,hs,es⟩:=YX at' c;have p2:powD (.int 10) (.int 60)=some (.int (10 ^ 60)):=pow10 (by decide) (by decide);have m1:xV (.int 2) (.int (10 ^ 60))=some (.int (2*10 ^ 60)):=xZ (.of_left (xB (by decide)));have mm:∀x,jA (.int x) (.int (2*10 ^ 60+1))=some (.int (x%(2*10 ^ 60+1))):=fun x=>yO x (by decide);unfold GH runG GG;generalize known.map D.int=kd at *
 by_cases q3:a%8=3
 . exact⟨.widen at' m,hm,by simp[-Int.reducePow,-Nat.reducePow,args,ea,em,q3,told3]⟩
 by_cases q4:a%8=4
 . exact⟨.narrow at' m,hm,by simp[-Int.reducePow,-Nat.reducePow,args,ea,em,q4,told3]⟩
 by_cases q5:a%8=5
 . exact⟨.move at',trivial,by simp[-Int.reducePow,-Nat.reducePow,args,ea,q5,told3]⟩
 by_cases q6:a%8=6
 . exact⟨.stretch s1 s2,⟨h1,h2⟩,by simp[-Int.reducePow,-Nat.reducePow,args,ea,e1,e2,q6,told3]⟩
 by_cases q7:a%8=7
 . exact⟨.mirror,trivial,by simp[-Int.reducePow,-Nat.reducePow,args,ea,q7,told3]⟩
 obtain⟨v,ev⟩:∃v:Option Int,ixD (.lst [.non,.int 0,.int 1,.int (a/40%(2*10 ^ 60+1)-10 ^ 60),.int 1]) (.int (a/8%5))=some (oi v):=by
  rcases(by omega:a/8%5=0\/a/8%5=1\/a/8%5=2\/a/8%5=3\/a/8%5=4) with e | e | e | e | e<;>rw[e,jC _ (by decide) (by simp)]
  . exact⟨none,rfl⟩
  . exact⟨some 0,rfl⟩
  . exact⟨some 1,rfl⟩
  . exact⟨some _,rfl⟩
  . exact⟨some 1,rfl⟩
 exact⟨.put sp v,hs,by simp[-Int.reducePow,-Nat.reducePow,args,ea,es,q3,q4,q5,q6,q7,p2,m1,mm,ev,told3]⟩
end FL
namespace FL
open PySem PySem.Spec PyProof.Rows L2
theorem xE{α : Type}{ga:D->List Sl->Option (List Sl)}{fe:FE}{s0:List Sl}(f h : α->D):∀(xs:List α),(∀x∈xs,∃ds1,ga (f x) s0=some ds1/\fe ds1=some (h x))->compL ga (fun _=>some true) fe s0 (xs.map f)=some (xs.map h)
 |[],_=>rfl
 | x :: xs, H => by
   obtain⟨ds1,e1,e2⟩:=H x aV;have ih:=xE (ga:=ga) (fe:=fe) (s0:=s0) f h xs fun y hy=>H y (aN _ hy);simp only[bE,compL,e1,e2,ih,aO,if_true,cZ]
noncomputable def part1(s:Spn)(r:Rw):Option Rw:=(meetS (r.1,r.2.1) s).map fun u=>(u.1,u.2,r.2.2)
noncomputable def zT(ps:List Rw)(s:Spn):List Rw:=ps.filterMap (part1 s)
theorem vE(R:Sl)(s:Spn):∀(ps acc:List Rw) (a b c d:Sl),acc.length+ps.length<16777216->∃a' b' c' d',jM (tupG 3 (zU (qA 3) (zU (qA 4) (zU (qA 5) tgNil)))) fL (ps.map rwD) [R,.v (spD s),.own (acc.map rwD),a,b,c,d]=some (.nx [R,.v (spD s),.own ((acc++zT ps s).map rwD),a',b',c',d'])
 |[],acc,a,b,c,d,_=>⟨a,b,c,d,by simp[zT,jM]⟩
 | r :: ps, acc, a, b, c, d, h => by
   simp only[aK] at h;have me:mE [.tup [oi r.1,oi r.2.1],spD s]=some (.val (oS (meetS (r.1,r.2.1) s))):=meet_eq (r.1,r.2.1) s;cases hm:meetS (r.1,r.2.1) s with
   | none =>
     rw[hm] at me;obtain⟨a',b',c',d',ih⟩:=vE R s ps acc (.v (oi r.1)) (.v (oi r.2.1)) (.v (oi r.2.2)) (.v .non) (by omega);refine⟨a',b',c',d',?_⟩;have turn:fL [R,.v (spD s),.own (acc.map rwD),.v (oi r.1),.v (oi r.2.1),.v (oi r.2.2),d]=some (.nx [R,.v (spD s),.own (acc.map rwD),.v (oi r.1),.v (oi r.2.1),.v (oi r.2.2),.v .non]):=by simp[fL,me,oS]
     have e:zT (r::ps) s=zT ps s:=by simp[zT,part1,hm]
     rw[e];simp[jM,turn,ih]
   | some u =>
     rw[hm] at me;obtain⟨a',b',c',d',ih⟩:=vE R s ps (acc++[(u.1,u.2,r.2.2)]) (.v (oi r.1)) (.v (oi r.2.1)) (.v (oi r.2.2)) (.v (spD u)) (by simp;omega);refine⟨a',b',c',d',?_⟩;have z:acc.length<16777216:=by omega
     have e0:D.tup [oi u.1,oi u.2,oi r.2.2]=rwD (u.1,u.2,r.2.2):=rfl;have turn:fL [R,.v (spD s),.own (acc.map rwD),.v (oi r.1),.v (oi r.2.1),.v (oi r.2.2),d]=some (.nx [R,.v (spD s),.own (acc.map rwD++[rwD (u.1,u.2,r.2.2)]),.v (oi r.1),.v (oi r.2.1),.v (oi r.2.2),.v (spD u)]):=by simp[fL,me,oS,z,e0]
     have e:zT (r::ps) s=(u.1,u.2,r.2.2)::zT ps s:=by simp[zT,part1,hm]
     rw[e];simp only[iB,bE,dO,fG,fR,CF] at ih ⊢;simp[jM,turn,ih]
theorem jD(ps:List Rw)(s:Spn):(zT ps s).length<=ps.length:=nT _ _
theorem xN(ps:List Rw)(s:Spn)(h:ps.length<16777216):cL [.lst (ps.map rwD),spD s]=some (.fresh ((zT ps s).map rwD)):=by
 obtain⟨a,b,c,d,e⟩:=vE (.v (.lst (ps.map rwD))) s ps [] .no .no .no .no (by simpa using h);simp only[dO,CF] at e;unfold cL runG nF;simp[args,e,yN]
theorem qW{s:Spn}{r r':Rw}(h:part1 s r=some r'):ok3 r'/\r'.2.2=r.2.2/\(∀p,has3 r' p=(has3 r p&&hasS s p))/\(∀x,r.2.1=some x->∃x',r'.2.1=some x'/\x'<=x)/\(∀y,r.1=some y->∃y',r'.1=some y'/\y<=y')/\(∀x,s.2=some x->∃x',r'.2.1=some x'/\x'<=x)/\(∀y,s.1=some y->∃y',r'.1=some y'/\y<=y'):=by
 unfold part1 at h;cases hm:meetS (r.1,r.2.1) s with
 |none=>rw[hm] at h;cases h
 | some u =>
   rw[hm] at h;cases h;have hp:=fun p=>WC (r.1,r.2.1) s p;rw[hm] at hp;refine⟨aBg hm,rfl,fun p=>hp p,?_,?_,?_,?_⟩
   all_goals (unfold meetS at hm;split at hm;(· cases hm);cases hm)
   . intro x hx;show ∃ x',wT r.2.1 s.2=some x'/\x'<=x;rw [hx];cases s.2 <;> simp [wT]
     omega
   . intro y hy;show ∃ y',lateL r.1 s.1=some y'/\y<=y';rw [hy];cases s.1 <;> simp [lateL]
     omega
   . intro x hx;show ∃ x',wT r.2.1 s.2=some x'/\x'<=x;rw [hx];cases r.2.1 <;> simp [wT]
     omega
   . intro y hy;show ∃ y',lateL r.1 s.1=some y'/\y<=y';rw [hy];cases r.1 <;> simp [lateL]
     omega
theorem nY{ps:List Rw}{s:Spn}{r':Rw}: r'∈zT ps s↔∃r∈ps,part1 s r=some r':=nA
theorem wS{ps:List Rw}(o:Ord ps)(s:Spn):Ord (zT ps s):=by
 refine⟨fun r' h=>?_,?_⟩
 . obtain⟨r, _, h⟩ := nY.mp h;exact(qW h).1
 . unfold zT;rw[List.pairwise_filterMap];refine o.pw.imp fun {a b} hab a' ha b' hb=>?_;obtain⟨x,y,hx,hy,hxy⟩:=hab;obtain⟨x',e1,h1⟩:=(qW ha).2.2.2.1 x hx;obtain⟨y',e2,h2⟩:=(qW hb).2.2.2.2.1 y hy;exact⟨x',y',e1,e2,by omega⟩
noncomputable def loP(ps:List Rw):Option Int->List Rw
 |none=>[]
 |some a=>zT ps (none,some a)
noncomputable def hiP(ps:List Rw):Option Int->List Rw
 |none=>[]
 |some b=>zT ps (some b,none)
noncomputable def overF(ps:List Rw)(s:Spn)(v:Option Int):List Rw:=loP ps s.1++(s.1,s.2,v)::hiP ps s.2
theorem UX{ps:List Rw}(o:Ord ps){a b:Int}(h:a<b):(zT ps (none,some a)).length+(zT ps (some b,none)).length<=ps.length+1:=by
 induction ps with
 |nil=>simp[zT]
 | cons r t ih =>
   have pw:=bL.mp o.pw;have ot:Ord t:=⟨fun z hz=>o.ok z (aN _ hz),pw.2⟩
   have ih:=ih ot;cases h1:part1 (none,some a) r with
   | none =>
     have e1:zT (r::t) (none,some a)=zT t (none,some a):=by simp[zT,h1]
     rw[e1]
     have:(zT (r::t) (some b,none)).length<=(zT t (some b,none)).length+1:=by
      unfold zT;rw[gS]
      split<;>simp
     simp only[aK];omega
   | some r1 =>
     have e1:zT (r::t) (none,some a)=r1::zT t (none,some a):=by simp[zT,h1]
     rw[e1];cases h2:part1 (some b,none) r with
     | none =>
       have e2:zT (r::t) (some b,none)=zT t (some b,none):=by simp[zT,h2]
       rw[e2];simp only[aK];omega
     | some r2 =>
       have e2:zT (r::t) (some b,none)=r2::zT t (some b,none):=by simp[zT,h2]
       have e3:zT t (none,some a)=[]:=by
        unfold zT;rw[GR];intro z hz;cases hz':part1 (none,some a) z with
        |none=>rfl
        | some z' =>
          exfalso;obtain⟨x,y,hx,hy,hxy⟩:=pw.1 z hz;have k2:=qW h2;have kz:=qW hz';obtain⟨x2,ex2,hx2⟩:=k2.2.2.2.1 x hx;obtain⟨y2,ey2,hy2⟩:=k2.2.2.2.2.2.2 b rfl;have:=k2.1 y2 x2 ey2 ex2;obtain⟨y3,ey3,hy3⟩:=kz.2.2.2.2.1 y hy;obtain⟨x3,ex3,hx3⟩:=kz.2.2.2.2.2.1 a rfl;have:=kz.1 y3 x3 ey3 ex3;omega
       rw[e2,e3];have:=jD t (some b,none);simp only[aK,fD];omega
theorem MN{ps:List Rw}(o:Ord ps)(s:Spn)(hs:okS s)(v:Option Int):(overF ps s v).length<=ps.length+2:=by
 obtain⟨lo,bh⟩:=s;unfold overF loP hiP;cases lo with
 | none =>
   cases bh with
   |none=>simp
   | some b =>
     have:=jD ps (some b,none);simp;omega
 | some a =>
   cases bh with
   | none =>
     have:=jD ps (none,some a);simp;omega
   | some b =>
     have:=UX o (hs a b rfl rfl);simp;omega
theorem aAr{ps:List Rw}(o:Ord ps)(s:Spn)(hs:okS s)(v:Option Int):Ord (overF ps s v):=by
 obtain⟨lo,bh⟩:=s;unfold overF
 have l1:∀r∈(loP ps lo),ok3 r/\∃a x,lo=some a/\r.2.1=some x/\x<=a:=by
  cases lo with
  |none=>intro r h;cases h
  | some a =>
    intro r h;obtain⟨q,_,h⟩:=nY.mp h;obtain⟨x,e,hx⟩:=(qW h).2.2.2.2.2.1 a rfl;exact⟨(qW h).1,a,x,rfl,e,hx⟩
 have l2:∀r∈(hiP ps bh),ok3 r/\∃b y,bh=some b/\r.1=some y/\b<=y:=by
  cases bh with
  |none=>intro r h;cases h
  | some b =>
    intro r h;obtain⟨q,_,h⟩:=nY.mp h;obtain⟨y,e,hy⟩:=(qW h).2.2.2.2.2.2 b rfl;exact⟨(qW h).1,b,y,rfl,e,hy⟩
 have o1:Ord (loP ps lo):=by
  cases lo with
  |none=>exact⟨(fun _ h=>nomatch h),List.Pairwise.nil⟩
  |some a=>exact wS o _
 have o2:Ord (hiP ps bh):=by
  cases bh with
  |none=>exact⟨(fun _ h=>nomatch h),List.Pairwise.nil⟩
  |some b=>exact wS o _
 refine⟨fun r h=>?_,?_⟩
 . rcases bG.mp h with h | h
   . exact(l1 r h).1
   . rcases aE.mp h with rfl | h
     . exact hs
     . exact(l2 r h).1
 . refine gO.mpr ⟨o1.pw, bL.mpr ⟨fun r h => ?_, o2.pw⟩, fun a ha b hb => ?_⟩
   . obtain⟨_, b, y, e, e2, hy⟩ := l2 r h;exact⟨b,y,e,e2,hy⟩
   . obtain ⟨_, x, x', e, e2, hx⟩ := l1 a ha;rcases aE.mp hb with rfl | hb
     . exact⟨x',x,e2,e,hx⟩
     . obtain⟨_, y, y', e3, e4, hy⟩ := l2 b hb;have:=hs x y e e3;exact⟨x',y',e2,e4,by omega⟩
theorem over_eq{ps:List Rw}(s:Spn)(v:Option Int)(h:ps.length<=1000000):fK [.lst (ps.map rwD),spD s,oi v]=some (.fresh ((overF ps s v).map rwD)):=by
 obtain⟨lo,bh⟩:=s;have p1:∀a:Int,cL [.lst (ps.map rwD),.tup [.non,.int a]]=some (.fresh ((zT ps (none,some a)).map rwD)):=fun a=>xN ps (none,some a) (by omega);have p2:∀a:Int,cL [.lst (ps.map rwD),.tup [.int a,.non]]=some (.fresh ((zT ps (some a,none)).map rwD)):=fun a=>xN ps (some a,none) (by omega);have e0:D.tup [oi lo,oi bh,oi v]=rwD (lo,bh,v):=rfl;have fl:=yN (overF ps (lo,bh) v);unfold overF loP hiP at fl ⊢;unfold fK runG mH;cases lo with
 | none =>
   cases bh with
   |none=>simp at fl e0;simp[args,e0]
   | some b =>
     have z:=jD ps (some b,none);have z1:1+(zT ps (some b,none)).length<=16777216:=by omega
     simp at fl e0;simp[args,p2,e0,z1,fl]
 | some a =>
   have z:=jD ps (none,some a);have z0:(zT ps (none,some a)).length<=16777216:=by omega
   have z1:(zT ps (none,some a)).length<16777216:=by omega
   cases bh with
   | none =>
     simp at fl e0;simp[args,p1,e0,z0,z1,fl]
   | some b =>
     have z':=jD ps (some b,none);have z2:(zT ps (none,some a)).length+1+(zT ps (some b,none)).length<=16777216:=by omega
     simp at fl e0;simp[args,p1,p2,e0,z0,z1,z2,fl]
abbrev Rv:=Spn×Option Int
noncomputable def put1(ps:List Rw)(r:Rv):List Rw:=knitF (overF ps r.1 r.2)
theorem ZS{ps:List Rw}(m:MapF ps){r:Rv}(h:okS r.1):MapF (put1 ps r):=wO (aAr m.ord r.1 h r.2)
theorem ZT{ps:List Rw}(m:MapF ps){r:Rv}(h:okS r.1):(put1 ps r).length<=ps.length+2:=cJ (wP _) (MN m.ord r.1 h r.2)
theorem put1_eq{ps:List Rw}(m:MapF ps)(hl:ps.length<=100000){s:Spn}{v:Option Int}(h:okS s):(fK [.lst (ps.map rwD),spD s,oi v]=some (.fresh ((overF ps s v).map rwD)))/\eX [.lst ((overF ps s v).map rwD)]=some (.fresh ((put1 ps (s,v)).map rwD)):=
 ⟨over_eq s v (by omega),BW _ (by have:=MN m.ord s h v;omega)⟩
theorem MapF.nil:MapF []:=⟨⟨(fun _ h=>nomatch h),List.Pairwise.nil⟩,(fun _ h=>nomatch h),(fun i a b h _=>by simp at h)⟩
theorem xP{α : Type}{ga:D->List Sl->Option (List Sl)}{tt:FT}{fe:FE}{s0:List Sl}(f : α->D)(p : α->Bool)(h : α->D):∀(xs:List α),(∀x∈xs,∃ds1,ga (f x) s0=some ds1/\tt ds1=some (p x)/\(p x=true->fe ds1=some (h x)))->compL ga tt fe s0 (xs.map f)=some ((xs.filter p).map h)
 |[],_=>rfl
 | x :: xs, H => by
   obtain⟨ds1,e1,e2,e3⟩:=H x aV;have ih:=xP (ga:=ga) (tt:=tt) (fe:=fe) (s0:=s0) f p h xs fun y hy=>H y (aN _ hy);cases hp:p x with
   |true=>simp[compL,e1,e2,e3 hp,ih,hp]
   |false=>simp[compL,e1,e2,ih,hp]
theorem later{r z:Rw}{t:List Rw}(o:Ord (r::t))(hz:z∈t){p:Int}(hp:has3 z p=true):∃x y,r.2.1=some x/\z.1=some y/\x<=y/\y<=p:=by
 obtain⟨x,y,h1,h2,h3⟩:=(bL.mp o.pw).1 z hz;refine⟨x,y,h1,h2,h3,?_⟩;unfold has3 hasS at hp;simp only[h2,cA,decide_eq_true_eq] at hp;exact hp.1
noncomputable def shR(f:Int)(r:Rw):Rw:=(r.1.map (·+f),r.2.1.map (·+f),r.2.2)
noncomputable def mirR(r:Rw):Rw:=(r.2.1.map (1 - ·),r.1.map (1 - ·),r.2.2)
noncomputable def strR(t b:Int)(r:Rw):Rw:=(r.1.map (eW t b),r.2.1.map (eW t b),r.2.2)
theorem NB{t b x p:Int}(ht:0<t)(hb:0<b):eW t b x<=p↔x<=p*b/t:=by
 obtain⟨g1,g2⟩:=aBn (t:=t) (b:=b) (p:=x) hb;rw[Int.le_ediv_iff_mul_le ht];constructor
 . intro h;exact OD g1 (Int.mul_le_mul_of_nonneg_right h (AC hb))
 . intro h;have:=Int.lt_of_mul_lt_mul_right (Int.lt_of_lt_of_le g2 h) (AC hb);omega
theorem ord_map{T:Rw->Rw}{ps:List Rw}(o:Ord ps)(h1:∀r∈ps,ok3 r->ok3 (T r))(h2:∀a b,ahead a b->ahead (T a) (T b)):Ord (ps.map T):=
 ⟨fun r' hr=>by obtain⟨r,hm,rfl⟩:=cO.mp hr;exact h1 r hm (o.ok r hm),nP.mpr (o.pw.imp fun h=>h2 _ _ h)⟩
theorem ok_sh{f:Int}{r:Rw}(h:ok3 r):ok3 (shR f r):=by
 intro a b h1 h2;obtain⟨x,y,v⟩:=r;cases x<;>cases y<;>simp[shR] at h1 h2
 rename_i x y;have:x<y:=h x y rfl rfl;omega
theorem aCu{f:Int}{a b:Rw}(h:ahead a b):ahead (shR f a) (shR f b):=by
 obtain⟨x,y,h1,h2,h3⟩:=h;exact⟨x+f,y+f,by simp[shR,h1],by simp[shR,h2],by omega⟩
theorem YY{ps:List Rw}(o:Ord ps)(f:Int):Ord (ps.map (shR f)):=ord_map o (fun r _ h=>ok_sh h) fun a b h=>aCu h
theorem sh_map{ps:List Rw}(m:MapF ps)(f:Int):MapF (ps.map (shR f)):=by
 refine⟨YY m.ord f,fun r' hr=>?_,fun i a b h1 h2=>?_⟩
 . obtain⟨r, hm, rfl⟩ := cO.mp hr;exact m.val r hm
 . rw [aX] at h1 h2;obtain ⟨a',e1,rfl⟩:=eG.mp h1;obtain ⟨b',e2,rfl⟩:=eG.mp h2;rintro ⟨q1,q2⟩;refine m.adj i a' b' e1 e2 ⟨?_,q2⟩;obtain ⟨x,y,v⟩:=a';obtain ⟨x',y',v'⟩:=b';cases y <;> cases x' <;> simp [shR] at q1 ⊢
   omega
theorem mir_map{ps:List Rw}(m:MapF ps):MapF (ps.reverse.map mirR):=by
 refine⟨⟨fun r' hr=>?_,?_⟩,fun r' hr=>?_,fun i a b h1 h2=>?_⟩
 . obtain ⟨r, hm, rfl⟩ := cO.mp hr;have h:=m.ord.ok r (lF.mp hm);clear hr hm;intro a b h1 h2;obtain ⟨x,y,v⟩:=r;cases x <;> cases y <;> simp [mirR] at h1 h2
   rename_i x y;have:x<y:=h x y rfl rfl;omega
 . rw[nP, OA];refine m.ord.pw.imp fun {a b} ⟨x,y,h1,h2,h3⟩=>⟨1-y,1-x,by simp[mirR,h2],by simp[mirR,h1],by omega⟩
 . obtain⟨r, hm, rfl⟩ := cO.mp hr;exact m.val r (lF.mp hm)
 . have l2 := (aT.mp h2).1;rw [bU,eJ] at l2;rw [aX,lC (by omega)] at h1 h2;obtain ⟨a',e1,rfl⟩:=eG.mp h1;obtain ⟨b',e2,rfl⟩:=eG.mp h2;rintro ⟨q1,q2⟩;refine m.adj (ps.length - 1 - (i+1)) b' a' e2 (by rw [<- e1]; congr 1; omega) ⟨?_,q2.symm⟩;obtain ⟨x,y,v⟩:=a';obtain ⟨x',y',v'⟩:=b';cases x <;> cases y' <;> simp [mirR] at q1 ⊢
   omega
noncomputable def keepR(r:Rw):Bool:=r.1.isNone||decide (r.1≠r.2.1)
noncomputable def mU(t b:Int)(ps:List Rw):List Rw:=(ps.map (strR t b)).filter keepR
theorem DO{t b x y:Int}(ht:0<t)(hb:0<b)(h:x<=y):eW t b x<=eW t b y:=by
 rw[NB ht hb];exact OD h ((NB ht hb).mp (QV _))
theorem str_ord{ps:List Rw}(o:Ord ps){t b:Int}(ht:0<t)(hb:0<b):Ord (mU t b ps):=by
 refine⟨fun r' hr=>?_,?_⟩
 . obtain ⟨h1, h2⟩ := eD.mp hr;obtain ⟨r,hm,rfl⟩:=cO.mp h1;intro x y e1 e2;have h:=o.ok r hm;clear hr hm h1;obtain ⟨a,c,v⟩:=r;cases a <;> cases c <;> simp [strR] at e1 e2
   rename_i a c;have hac:a<c:=h a c rfl rfl;have hm:=DO (t:=t) (b:=b) ht hb (AC hac);simp[keepR,strR] at h2;omega
 . refine List.Pairwise.filter _ (nP.mpr (o.pw.imp fun {a c} ⟨x,y,h1,h2,h3⟩=>⟨eW t b x,eW t b y,by simp[strR,h1],by simp[strR,h2],DO ht hb h3⟩))
noncomputable def hV(ps:List Rw)(a c f:Int):List Rw:=zT ps (none,some a)++(zT ps (some c,none)).map (shR f)
theorem GY{ps:List Rw}(o:Ord ps){a c f:Int}(h:a<=c+f):Ord (hV ps a c f):=by
 have o1:=wS o (none,some a);have o2:=YY (wS o (some c,none)) f;refine⟨fun r hr=>(bG.mp hr).elim (o1.ok r) (o2.ok r),gO.mpr ⟨o1.pw,o2.pw,fun x hx y hy=>?_⟩⟩;obtain⟨r,_,hr⟩:=nY.mp hx;obtain⟨y',hy',rfl⟩:=cO.mp hy;obtain⟨q,_,hq⟩:=nY.mp hy';obtain⟨x',e1,h1⟩:=(qW hr).2.2.2.2.2.1 a rfl;obtain⟨z',e2,h2⟩:=(qW hq).2.2.2.2.2.2 c rfl;exact⟨x',z'+f,e1,by simp[shR,e2],by omega⟩
theorem kJ(ps:List Rw)(a c f:Int):(hV ps a c f).length<=2*ps.length:=by
 have h1:=jD ps (none,some a);have h2:=jD ps (some c,none);simp only[hV,bR,bU];omega
noncomputable def doneF:Dd->List Rw->List Rw
 | .put s v,ps=>put1 ps (s,v)
 | .widen a m,ps=>knitF (hV ps a a m)
 | .narrow a m,ps=>knitF (hV ps a (a+m) (-m))
 | .move f,ps=>ps.map (shR f)
 | .stretch t b,ps=>knitF (mU t b ps)
 | .mirror,ps=>ps.reverse.map mirR
theorem aCg{d:Dd}(h:okD d){ps:List Rw}(m:MapF ps):MapF (doneF d ps):=by
 cases d with
 |put s v=>exact ZS m h
 |widen a k=>exact wO (GY m.ord (by have:(0:Int)<=k:=h;omega))
 |narrow a k=>exact wO (GY m.ord (by omega))
 |move f=>exact sh_map m f
 |stretch t b=>exact wO (str_ord m.ord (by have:=h.1.1;omega) (by have:=h.2.1;omega))
 |mirror=>exact mir_map m
theorem QF(o:Option Int)(f:Int):fA [oi o,.int f]=some (.val (oi (o.map (·+f)))):=by
 unfold fA runG oE;cases o<;>simp[args]
theorem MW(o:Option Int):eN [oi o]=some (.val (oi (o.map (1 - ·)))):=by
 unfold eN runG nG;cases o<;>simp[args]
theorem wY(ps:List Rw)(f:Int)(hl:ps.length<=1000000):eF [.lst (ps.map rwD),.int f]=some (.fresh ((ps.map (shR f)).map rwD)):=by
 unfold eF;refine uK ?_;unfold oB
 have cm:(compG (viaA (qC 0) asLT) [none,none,none,some 1] (tupG 3 (zU (qA 0) (zU (qA 1) (zU (qA 2) tgNil)))) (fun _=>some true) (mkT (qD (zB (qN 2 fA (zB (zJ 0) (zB (zJ 3) zV))) (zB (qN 2 fA (zB (zJ 1) (zB (zJ 3) zV))) (zB (qC 2) zV)))))) [.v (.lst (ps.map rwD)),.v (.int f)]=some ((ps.map (shR f)).map rwD):=by
  refine xA (items:=ps.map rwD) (by simp) (by simp;omega) ?_;rw[xE rwD (fun r=>rwD (shR f r)),gB]
  . rfl
  . intro r _;obtain⟨a,b,c⟩:=r;exact⟨_,by simp[rwD,qZ];rfl,by simp[QF];rfl⟩
 have fl:=yN (ps.map (shR f));show retOG _ [.v (.lst (ps.map rwD)),.v (.int f)]=_;rw[ZE,cm,aO,aBx _ fl]
theorem VI(ps:List Rw)(hl:ps.length<=1000000)(S:Sl):(compG (revA (qC 1)) [none,none,none] (tupG 3 (zU (qA 0) (zU (qA 1) (zU (qA 2) tgNil)))) (fun _=>some true) (mkT (qD (zB (qN 1 eN (zB (zJ 1) zV)) (zB (qN 1 eN (zB (zJ 0) zV)) (zB (qC 2) zV)))))) [S,.v (.lst (ps.map rwD))]=some ((ps.reverse.map mirR).map rwD):=by
 refine xA (items:=ps.reverse.map rwD) (by simp[revA]) (by simp;omega) ?_;rw[xE rwD (fun r=>rwD (mirR r)),gB]
 . rfl
 . intro r _;obtain⟨a,b,c⟩:=r;exact⟨_,by simp[rwD,qZ];rfl,by simp[MW];rfl⟩
theorem VQ(t b:Int)(o:Option Int)(ht:1<=t/\t<=1000)(hb:1<=b/\b<=1000):cU [.ins 4 [.non,.int t,.int b],oi o]=some (.val (oi (o.map (eW t b)))):=by
 cases o with
 |none=>unfold cU runG dY;simp[args]
 |some p=>simpa using DP t b p ht hb
theorem YU(t b:Int)(ht:1<=t/\t<=1000)(hb:1<=b/\b<=1000)(ps:List Rw)(hl:ps.length<=1000000)(S:Sl) :
  (compG (viaA (qC 1) asLT) [none,none,none,some 0] (tupG 3 (zU (qA 0) (zU (qA 1) (zU (qA 2) tgNil)))) (fun _=>some true) (mkT (qD (zB (methV 1 [4] bP (qC 3) (zB (zJ 0) zV)) (zB (methV 1 [4] bP (qC 3) (zB (zJ 1) zV)) (zB (qC 2) zV)))))) [.v (.ins 4 [.non,.int t,.int b]),.v (.lst (ps.map rwD)),S]=some ((ps.map (strR t b)).map rwD):=by
 refine xA (items:=ps.map rwD) (by simp) (by simp;omega) ?_;rw[xE rwD (fun r=>rwD (strR t b r)),gB]
 . rfl
 . intro r _;obtain⟨x,y,c⟩:=r;exact⟨_,by simp[rwD,qZ];rfl,by simp[bP,VQ t b _ ht hb];rfl⟩
theorem YT(qs:List Rw)(hl:qs.length<=1000000)(A B:Sl) :
  (compG (viaA (qC 2) asLT) [none] (qA 0) (orT (zS (zI isD (zI ixD (zJ 0) (zA (.int 0))) (zA .non))) (zS (zI neD (zI ixD (zJ 0) (zA (.int 0))) (zI ixD (zJ 0) (zA (.int 1)))))) (qC 0)) [A,B,.v (.lst (qs.map rwD))]=some ((qs.filter keepR).map rwD):=by
 refine xA (items:=qs.map rwD) (by simp) (by simp;omega) ?_;refine xP rwD keepR rwD qs fun r _=>⟨_,rfl,?_,fun _=>by simp[qZ]⟩
 obtain⟨x,y,c⟩:=r;cases x<;>cases y<;>simp[rwD,qZ,keepR,DL]
theorem put_eq{ps:List Rw}(m:MapF ps)(hl:ps.length<=100000){s:Spn}{v:Option Int}(h:okS s):pF [.lst (ps.map rwD),spD s,oi v]=some (.fresh ((put1 ps (s,v)).map rwD)):=by
 obtain⟨e1,e2⟩:=put1_eq m hl (v:=v) h;have fl:=yN (put1 ps (s,v));unfold pF runG CB;generalize (overF ps s v).map rwD=A at *;generalize (put1 ps (s,v)).map rwD=B at *;simp[args,e1,e2,fl]
theorem TK{d:Dd}(h:okD d){ps:List Rw}(m:MapF ps)(hl:ps.length<=50000):methR 1 [0,1,2,3,4,5] bW (insD d) [.lst (ps.map rwD)]=some (.fresh ((doneF d ps).map rwD)):=by
 have fl:=yN (doneF d ps);cases d with
 | put s v =>
   have e:=put_eq m (by omega) (v:=v) h;simp only[doneF] at *;generalize (put1 ps (s,v)).map rwD=B at *;simp[insD,bW];unfold nK runG nJ;simp[args,List.lookup,e,fl]
 | widen a k =>
   have e1:=xN ps (none,some a) (by omega);have e2:=xN ps (some a,none) (by omega);have l1:=jD ps (none,some a);have l2:=jD ps (some a,none);have e3:=wY (zT ps (some a,none)) k (by omega);have e4:=BW (hV ps a a k) (by have:=kJ ps a a k;omega);simp only[doneF] at *;rw[show(hV ps a a k).map rwD=(zT ps (none,some a)).map rwD++((zT ps (some a,none)).map (shR k)).map rwD by simp[hV]] at e4;have n1:((zT ps (none,some a)).map rwD).length+(((zT ps (some a,none)).map (shR k)).map rwD).length<=16777216:=by simp only[bU];omega
   simp only[spD,kF,RY] at e1 e2;generalize (knitF (hV ps a a k)).map rwD=B at *;generalize ((zT ps (some a,none)).map (shR k)).map rwD=C at *;generalize (zT ps (some a,none)).map rwD=E at *;generalize (zT ps (none,some a)).map rwD=F at *;simp[insD,bW];unfold lP runG lN;simp[args,List.lookup,e1,e2,e3,e4,n1,fl]
 | narrow a k =>
   have e1:=xN ps (none,some a) (by omega);have e2:=xN ps (some (a+k),none) (by omega);have l1:=jD ps (none,some a);have l2:=jD ps (some (a+k),none);have e3:=wY (zT ps (some (a+k),none)) (-k) (by omega);have e4:=BW (hV ps a (a+k) (-k)) (by have:=kJ ps a (a+k) (-k);omega);simp only[doneF] at *;rw[show(hV ps a (a+k) (-k)).map rwD=(zT ps (none,some a)).map rwD++((zT ps (some (a+k),none)).map (shR (-k))).map rwD by simp[hV]] at e4;have n1:((zT ps (none,some a)).map rwD).length+(((zT ps (some (a+k),none)).map (shR (-k))).map rwD).length<=16777216:=by simp only[bU];omega
   simp only[spD,kF,RY] at e1 e2;generalize (knitF (hV ps a (a+k) (-k))).map rwD=B at *;generalize ((zT ps (some (a+k),none)).map (shR (-k))).map rwD=C at *;generalize (zT ps (some (a+k),none)).map rwD=E at *;generalize (zT ps (none,some a)).map rwD=F at *;simp[insD,bW];unfold kM runG kL;simp[args,List.lookup,e1,e2,e3,e4,n1,fl]
 | move f =>
   have e:=wY ps f (by omega);simp only[doneF] at *;generalize (ps.map (shR f)).map rwD=B at *;simp[insD,bW];unfold mO runG mM;simp[args,List.lookup,e,fl]
 | stretch t b =>
   have e1:=fun S=>YU t b h.1 h.2 ps (by omega) S;have e2:=fun A B=>YT (ps.map (strR t b)) (by simp;omega) A B
   have e4:=BW (mU t b ps) (by
    have:(mU t b ps).length<=(ps.map (strR t b)).length:=OB _ _
    rw[bU] at this;omega)
   simp only[doneF] at *;rw[show(ps.map (strR t b)).filter keepR=mU t b ps from rfl] at e2;generalize (knitF (mU t b ps)).map rwD=B at *;generalize (mU t b ps).map rwD=C at *;generalize (ps.map (strR t b)).map rwD=E at *;simp[insD,bW];unfold iJ runG iI;simp[args,e1,e2,e4,fl]
 | mirror =>
   have e:=fun S=>VI ps (by omega) S;simp only[doneF] at *;generalize (ps.reverse.map mirR).map rwD=B at *;simp[insD,bW];unfold kS runG kR;simp[args,e,fl]
open Builtin.Int (intBits)
structure DrawM(rows:List Rw)(s:Int):Prop where
 map:MapF rows
 fin:∀r∈rows,∃lo bh,r.1=some lo/\r.2.1=some bh/\bh<=s
 last:∀r,rows.getLast?=some r->r.2.1=some s
theorem DrawM.nil(s:Int):DrawM [] s:=⟨MapF.nil,(fun _ h=>nomatch h),fun r h=>by simp at h⟩
theorem DrawM.snoc{rows:List Rw}{s lo bh v:Int}(h:DrawM rows s)(h1:s<=lo)(h2:lo<bh)(h3:∀r,rows.getLast?=some r->lo=s->r.2.2≠some v):DrawM (rows++[(some lo,some bh,some v)]) bh:=by
 have d:UD rows s:=⟨h.map.ord,h.fin⟩
 have d2:=d.snoc (v:=some v) h1 h2;refine⟨⟨d2.ord,fun r hr=>?_,fun i a b e1 e2=>?_⟩,d2.fin,fun r hr=>?_⟩
 . rcases bG.mp hr with hr | hr
   . exact h.map.val r hr
   . have : r = (some lo, some bh, some v) := by simpa using hr
     subst this;simp
 . by_cases hi : i + 1 < rows.length
   . rw[aU (by omega)] at e1;rw[aU hi] at e2;exact h.map.adj i a b e1 e2
   . have l2 := (aT.mp e2).1;simp only [bR,aK,fD] at l2;have hi2:i+1=rows.length:=by omega
     rw[aU (by omega)] at e1;rw[bS (by omega),hi2] at e2;simp at e2;subst e2
     have hl:rows.getLast?=some a:=by
      rw[List.getLast?_eq_getElem?,<- e1];congr 1;omega
     have:=h.last a hl;rintro⟨q1,q2⟩;rw[this] at q1;simp at q1;exact h3 a hl q1.symm q2
 . simp at hr;subst hr;rfl
theorem last_rw{rows:List Rw}{r:Rw}(h:rows.getLast?=some r):ixD (.lst (rows.map rwD)) (.int (-1))=some (rwD r):=by
 obtain⟨l,rfl⟩:∃l,rows=l++[r]:=by
  have hne:rows≠[]:=by intro z;subst z;simp at h
  refine⟨rows.dropLast,?_⟩;rw[List.getLast?_eq_some_getLast hne] at h;cases h;exact(CG hne).symm
 rw[iB,bE,dO];exact vX _ _
theorem VM{r:Rw}{t:List Rw}(m:MapF (r::t)):MapF ((none,r.2)::t):=by
 refine⟨HW m.ord,fun z hz=>?_,fun i a b e1 e2=>?_⟩
 . rcases aE.mp hz with rfl | hz
   . exact m.val r aV
   . exact m.val z (aN _ hz)
 . cases i with
   | zero =>
     simp at e1;subst e1;exact m.adj 0 r b rfl (by simpa using e2)
   |succ i=>exact m.adj (i+1) a b (by simpa using e1) (by simpa using e2)
theorem aBi{r:Rw}{t:List Rw}(m:MapF (t++[r])):MapF (t++[(r.1,none,r.2.2)]):=by
 refine⟨MP m.ord,fun z hz=>?_,fun i a b e1 e2=>?_⟩
 . rcases bG.mp hz with hz | hz
   . exact m.val z (aY _ hz)
   . have : z = (r.1, none, r.2.2) := by simpa using hz
     subst this;exact m.val r (by simp)
 . have l2 := (aT.mp e2).1;simp only [bR,aK,fD] at l2;rw [aU (by omega)] at e1
   by_cases hi:i+1<t.length
   . rw[aU hi] at e2;exact m.adj i a b (by rw[aU (by omega)];exact e1) (by rw[aU hi];exact e2)
   . have hi2 : i + 1 = t.length := by omega
     rw[bS (by omega),hi2] at e2;simp at e2;subst e2;exact m.adj i a r (by rw[aU (by omega)];exact e1) (by rw[bS (by omega),hi2];simp)
theorem DN{ga:D->List Sl->Option (List Sl)}{body:FS}(P:Nat->List Sl->Prop)(N:Nat)(H:∀k,k<N->∀ds,P k ds->∃ds1 ds2,ga (.int (k:Int)) ds=some ds1/\body ds1=some (.nx ds2)/\P (k+1) ds2) :
  ∀n k ds,k+n=N->P k ds->∃ds',jM ga body ((List.range' k n).map fun(j:Nat)=>D.int (0+(j:Int))) ds=some (.nx ds')/\P N ds'
 | 0, k, ds, h, hp => ⟨ds, rfl, by have : k = N := by omega
                                   subst this;exact hp⟩
 | n + 1, k, ds, h, hp => by
   obtain⟨ds1,ds2,e1,e2,h2⟩:=H k (by omega) ds hp;obtain⟨ds',e,h'⟩:=DN P N H n (k+1) ds2 (by omega) h2;refine⟨ds',?_,h'⟩;rw[List.range'_succ,bE,jM];have:(0+(k:Int))=(k:Int):=by omega
   rw[this,e1,aO,e2,aO];exact e
theorem FD(n:Nat):gQ 0 n=(List.range' 0 n).map fun(j:Nat)=>D.int (0+(j:Int)):=by rw[gQ,List.range_eq_range']
@[simp] theorem notD_rw(r:Rw):notD (rwD r) .non=some (.bl true):=rfl
end FL
namespace FL
open PySem PySem.Spec PyProof.Rows L2
theorem if_yes{t:FT}{f g:FS}{ds:List Sl}(h:t ds=some true):ifG t f g ds=f ds:=by simp[h]
theorem if_not{t:FT}{f g:FS}{ds:List Sl}(h:t ds=some false):ifG t f g ds=g ds:=by simp[h]
end FL
namespace FL
open PySem PyProof.Rows L2 NumText
theorem kitS:kitF "str" "str" = some true/\kitF "int" "str" = some false/\kitF "NoneType" "str" = some false/\kitF "tuple" "str" = some false/\kitF "list" "str" = some false/\kitF "str" "tuple" = some false/\kitF "str" "bool" = some false:=by
 refine⟨?_,?_,?_,?_,?_,?_,?_⟩<;>decide +kernel
@[simp] theorem isi_str_str(x:Str):isiD "str" (.str x)=some (.bl true):=by simp[isiD,tyD,kitS.1]
theorem t_empty:Str.ofString "" = txS []:=by decide
end FL
namespace FL
open PySem PySem.Spec PyProof.Rows L2
def Ltr(cs:List Nat):Prop:=∀c∈cs,97<=c/\c<=122
def Nm(cs:List Nat):Prop:=1<=cs.length/\cs.length<=8/\Ltr cs
noncomputable def abcL:List Nat:=[97,98,99,100,101,102,103,104,105,106,107,108,109,110,111,112,113,114,115,116,117,118,119,120,121,122]
theorem t_abc:Str.ofString "abcdefghijklmnopqrstuvwxyz" = txS abcL:=by decide
theorem mem_abc{c:Nat}(h:97<=c/\c<=122):c∈abcL:=by
 have:abcL=List.range' 97 26:=by decide
 rw[this,List.mem_range'_1];omega
theorem Ltr.asc{cs:List Nat}(h:Ltr cs):Asc cs:=fun c hc=>by have:=h c hc;omega
theorem Ltr.app{a b:List Nat}(h:Ltr a)(g:Ltr b):Ltr (a++b):=fun c hc=>(bG.mp hc).elim (h c) (g c)
theorem Ltr.take{a:List Nat}(h:Ltr a)(n:Nat):Ltr (a.take n):=fun c hc=>h c (OI hc)
theorem Ltr.drop{a:List Nat}(h:Ltr a)(n:Nat):Ltr (a.drop n):=fun c hc=>h c (OJ hc)
theorem DS{cs:List Nat}(h:Nm cs):fU [.str (txS cs)]=some (.val (.bl true)):=by
 obtain⟨h1,h8,hL⟩:=h;have lf:=len_tx cs (by omega)
 have comp:compG (viaA (qC 0) asS) [none] (qA 0) (fun _=>some true) (zI inS (zJ 0) (zA (.str (Str.ofString "abcdefghijklmnopqrstuvwxyz")))) [.v (.str (txS cs))]=some (cs.map fun _=>D.bl true):=by
  rw[t_abc];refine xA (items:=cs.map fun c=>D.str (txS [c])) (by simp;rfl) (by simp;omega) ?_;rw[xE (fun c=>D.str (txS [c])) (fun c=>D.bl true) cs];intro c hc;have:=in_one abcL c;rw[decide_eq_true (mem_abc (hL c hc))] at this;exact⟨_,rfl,by simp[qZ,this]⟩
 have al:allD [.lst (cs.map fun _=>D.bl true)]=some (.bl true):=by
  have e:(cs.map fun _=>D.bl true)=(cs.map fun _=>true).map D.bl:=by simp
  rw[e,aCt];simp
 refine uK ?_;unfold oC;have ar:args 1 [.str (txS cs)]=[.v (.str (txS cs))]:=by simp[args]
 have k1 : ¬((cs.length:Int)<1):=by omega
 have k2 : ¬((8:Int)<(cs.length:Int)):=by omega
 rw[ar,qP (ds':=[.v (.str (txS cs))]) (by simp),qP (ds':=[.v (.str (txS cs))]) (by simp[lf,k1,k2])];simp only[retG_eq,aCr,aCl,nilA_eq,sI,comp,cZ,aO,al,flatR];simp
theorem abc_ix(n:Int):∃c,(97<=c/\c<=122)/\ixD (.str (Str.ofString "abcdefghijklmnopqrstuvwxyz")) (.int (n%26))=some (.str (txS [c])):=by
 have h0:=iC n (show(26:Int)≠0 by decide);have h1:=uA n (show(0:Int)<26 by decide);generalize n%26=i at *
 have e:ixD (.str (txS abcL)) (.int i)=(abcL[i.toNat]?).map fun c=>D.str (txS [c]):=by
  show(if (txS abcL).length<=sizeLine then (atI abcL i).map fun c=>D.str ⟨#[c]⟩ else none)=_;rw[vF,if_pos (by decide)];unfold atI;rw[BY h0 (by show i<26;exact h1)];rfl
 rw[t_abc,e];have hl:i.toNat<abcL.length:=by show i.toNat<26;omega
 rw[bJ hl];refine⟨abcL[i.toNat],?_,rfl⟩;have:∀c∈abcL,97<=c/\c<=122:=by decide
 exact this _ (List.getElem_mem hl)
theorem UG(n:Int)(S x3:Sl)(cs:List Nat)(h:cs.length<1000):∃c,(97<=c/\c<=122)/\oF [.v (.int n),S,.v (.str (txS cs)),x3]=some (.nx [.v (.int (n/26+5)),S,.v (.str (txS (cs++[c]))),x3]):=by
 obtain⟨c,hc,e⟩:=abc_ix n;have ad:=LJ cs [c] (by simp;omega);refine⟨c,hc,?_⟩;unfold oF;simp[e,ad]
theorem GU(S:Sl):∀(items:List D) (n:Int) (cs:List Nat) (x3:Sl),cs.length+items.length<=1000->Ltr cs->∃(n':Int) (cs':List Nat) (y3:Sl),cs'.length=cs.length+items.length/\Ltr cs' ∧
  jM (qA 3) oF items [.v (.int n),S,.v (.str (txS cs)),x3]=some (.nx [.v (.int n'),S,.v (.str (txS cs')),y3])
 |[],n,cs,x3,_,hL=>⟨n,cs,x3,rfl,hL,rfl⟩
 | d :: r, n, cs, x3, hl, hL => by
   simp only[aK] at hl;obtain⟨c,hc,turn⟩:=UG n S (.v d) cs (by omega);obtain⟨n',cs',y3,l,hL',e⟩:=GU S r (n/26+5) (cs++[c]) (.v d) (by simp;omega) (hL.app fun x hx=>by rw[aQ.mp hx];exact hc);refine⟨n',cs',y3,by simp at l ⊢;omega,hL',?_⟩;simp only[jM,qA,aO,gA,fZ,turn];exact e
theorem JC(n k:Int)(h1:1<=k)(h8:k<=8):∃cs:List Nat,(cs.length:Int)=k/\Ltr cs/\iA [.int n,.int k]=some (.val (.str (txS cs))):=by
 have hr:(gQ 0 k.toNat).length=k.toNat:=by simp[gQ]
 obtain⟨n',cs,y3,l,hL,e⟩:=GU (.v (.int k)) (gQ 0 k.toNat) n [] .no (by rw[hr];simp;omega) (fun _ h=>nomatch h);have ok:okR k:=HY (by omega) (by omega);refine⟨cs,by rw[hr] at l;simp at l;omega,hL,uK ?_⟩;unfold uF;rw[qP (ds':=[.v (.int n),.v (.int k),.v (.str (txS [])),.no]) (by simp[args,<- t_empty]),qP (ds':=[.v (.int n'),.v (.int k),.v (.str (txS cs)),y3]) (by simp[ok,e])];simp
theorem name_ex(s c:Int):∃cs,Nm cs/\nS [.int s,.int c]=some (.val (.str (txS cs))):=by
 obtain⟨w,lw,hw,ew⟩:=JC (s/8) (1+s%8) (by omega) (by omega);obtain⟨g,lg,hg,eg⟩:=JC (c/40) 1 (by omega) (by omega);obtain⟨z,lz,hz,ez⟩:=JC (c/40) (1+c/5%8) (by omega) (by omega);have sz:(0:Int)<1+s%8:=by omega
 have m0:=iC (c/5) (show(1+s%8:Int)≠0 by omega);have m1:=uA (c/5) sz;have r1:=yO (c/5) sz;generalize hk:1+s%8=k at *;generalize c/5%k=a at *;obtain⟨n,rfl⟩:∃n:Nat,a=(n:Int):=⟨a.toNat,by omega⟩
 have lw':w.length<=16777216:=by omega
 have lgw:(w++g).length<=16777216:=by simp;omega
 unfold nS;have ar:args 6 [.int s,.int c]=[.v (.int s),.v (.int c),.no,.no,.no,.no]:=by simp[args]
 have pre:∀q:FS,(qG (jL 2 (zI jW (zA (.int 1)) (zI jA (zJ 0) (zA (.int 8))))) (qG (jL 3 (qN 2 iA (zB (zI qR (zJ 0) (zA (.int 8))) (zB (zJ 2) zV)))) (qG (jL 4 (zI jA (zI qR (zJ 1) (zA (.int 5))) (zJ 2))) (qG (jL 5 (qN 2 iA (zB (zI qR (zJ 1) (zA (.int 40))) (zB (zA (.int 1)) zV)))) q)))) (args 6 [.int s,.int c])=q [.v (.int s),.v (.int c),.v (.int k),.v (.str (txS w)),.v (.int (n:Int)),.v (.str (txS g))]:=by
  intro q;rw[ar,qP (ds':=[.v (.int s),.v (.int c),.v (.int k),.no,.no,.no]) (by simp[hk]),qP (ds':=[.v (.int s),.v (.int c),.v (.int k),.v (.str (txS w)),.no,.no]) (by simp[ew]),qP (ds':=[.v (.int s),.v (.int c),.v (.int k),.v (.str (txS w)),.v (.int (n:Int)),.no]) (by simp[r1]),qP (ds':=[.v (.int s),.v (.int c),.v (.int k),.v (.str (txS w)),.v (.int (n:Int)),.v (.str (txS g))]) (by simp[eg])]
 have hrun:∀cs,gN (args 6 [.int s,.int c])=some (.rt (.val (.str (txS cs))))->runG gN 6 [.int s,.int c]=some (.val (.str (txS cs))):=fun cs h=>uK h;have s1:=vN w (b:=n) (by omega);have hnn:((n+1:Nat):Int)=(n:Int)+1:=by omega
 have s2:=OQ w (n+1);have s3:=vN w (b:=n+1) (by omega);rw[hnn] at s2 s3;have a1:=LJ (w.take n) g (by simp;omega);have a2:=LJ (w.take n++g) (w.drop (n+1)) (by simp;omega);have a3:=LJ w g (by omega);rcases(by omega:c%5=1\/c%5=2\/c%5=3\/c%5=4\/c%5=0) with h | h | h | h | h
 . refine⟨w.take n ++ g ++ w.drop (n + 1), ⟨by simp;omega, by simp;omega, ((hw.take n).app hg).app (hw.drop _)⟩, hrun _ ?_⟩;unfold gN;rw[pre];simp[h,slsS,soP,noP,vF,lw',s1,s2,a1,a2]
 . refine⟨w.take (n + 1), ⟨by simp;omega, by simp;omega, hw.take _⟩, hrun _ ?_⟩;unfold gN;rw[pre];simp[h,slsS,soP,noP,vF,lw',s3]
 . have lmin : (w ++ g).length <= 9 := by simp; omega
   refine⟨(w++g).take 8,⟨by simp;omega,by simp;omega,(hw.app hg).take _⟩,hrun _ ?_⟩
   have s4:Txt.slice (txS (w++g)) none (some 8)=txS ((w++g).take 8):=by
    by_cases hl:8<=(w++g).length
    . exact vN (w++g) (b:=8) hl
    . rw [fY (by omega)]
      have hc:Txt.slice (txS (w++g)) none (some 8)=Txt.slice (txS (w++g)) none (some ((w++g).length:Int)):=by
       rw[yH,yH];unfold StrLaws.sliceText
       have:Builtin.Str.strSliceIndices none (some 8) 1 (txS (w++g)).length=Builtin.Str.strSliceIndices none (some ((w++g).length:Int)) 1 (txS (w++g)).length:=by
        rw[vF];generalize (w++g).length=m at *;have h1 : ¬((8:Int)<0):=by omega
        have h2 : ¬((m:Int)<0):=by omega
        have e1:max (0:Int) (min 8 (m:Int))=m:=by omega
        have e2:max (0:Int) (min (m:Int) (m:Int))=m:=by omega
        simp only[Builtin.Str.strSliceIndices,h1,h2,if_false,e1,e2,show((1:Int)>0)=True from by simp,if_true]
       rw[this]
      rw[hc,vN (w++g) (aR _),List.take_length]
   unfold gN;rw[pre];generalize hwg:w++g=wg at *;simp[h,slsS,soP,noP,a3,vF,lgw,s4]
 . refine⟨z, ⟨by omega, by omega, hz⟩, hrun _ ?_⟩;unfold gN;rw[pre];simp[h,ez]
 . refine⟨w, ⟨by omega, by omega, hw⟩, hrun _ ?_⟩;unfold gN;rw[pre];simp[h]
end FL
section
open PySem PyProof.Rows L2 FL
end
namespace FL
open PySem PySem.Spec PyProof.Rows L2
open Builtin.Int (intBits)
theorem pow1033:powD (.int (10 ^ 33)) (.int 6)=some (.int ((10 ^ 33) ^ 6)):=RP (TM (n:=110) (m:=6) (by decide) (by decide) (by decide) (by decide))
theorem VN(C:Sl)(rows:List Rw)(s c:Int)(hc:intBits c<=1048576)(hz:rows.length<16777216)(d:DrawM rows s)(x4 x5 x6 x7:Sl):∃(lo bh v:Int) (y4 y6:Sl),DrawM (rows++[(some lo,some bh,some v)]) bh ∧
  oJ [C,.own (rows.map rwD),.v (.int s),.v (.int c),x4,x5,x6,x7]=some (.nx [C,.own ((rows++[(some lo,some bh,some v)]).map rwD),.v (.int bh),.v (.int c),y4,.v (.int lo),y6,.v (.int v)]):=by
 have p1:powD (.int 10) (.int 60)=some (.int (10 ^ 60)):=pow10 (by decide) (by decide);have p2:powD (.int 10) (.int 59)=some (.int (10 ^ 59)):=pow10 (by decide) (by decide);have p3:powD (.int 10) (.int 33)=some (.int (10 ^ 33)):=pow10 (by decide) (by decide);have p4:=pow1033;have b24:intBits (c/120)<=1048576:=WX (by decide) hc;have m1:xV (.int (c/120)) (.int 48271)=some (.int (c/120*48271)):=xZ (mulOk_of_bits b24 (xB (m:=200) (by decide)) (by decide));have m2:xV (.int (c/120)) (.int 69621)=some (.int (c/120*69621)):=xZ (mulOk_of_bits b24 (xB (m:=200) (by decide)) (by decide));have m3:xV (.int 9) (.int ((10 ^ 33) ^ 6))=some (.int (9*(10 ^ 33) ^ 6)):=xZ (.of_left (xB (by decide)));have r1:∀x,jA (.int x) (.int (10 ^ 60))=some (.int (x%10 ^ 60)):=fun x=>yO x (by decide);have r2:∀x,jA (.int x) (.int (10 ^ 60+7))=some (.int (x%(10 ^ 60+7))):=fun x=>yO x (by decide);have r3:∀x,jA (.int x) (.int (10 ^ 60+9))=some (.int (x%(10 ^ 60+9))):=fun x=>yO x (by decide);have z2:∀x y z w:D,ixD (.lst [x,y,z,w]) (.int 2)=some z:=fun x y z w=>by rw[jC _ (by decide) (by simp)];rfl
 have z3:∀x y z w:D,ixD (.lst [x,y,z,w]) (.int 3)=some w:=fun x y z w=>by rw[jC _ (by decide) (by simp)];rfl
 have n60:∀x:Int,0<=x%10 ^ 60:=fun x=>iC x (by decide);have n69:∀x:Int,0<=x%(10 ^ 60+9):=fun x=>iC x (by decide);generalize hfar:(9:Int)*(10 ^ 33) ^ 6=far at *;generalize hq:c/120=q at *
 obtain⟨g,hg,eg⟩:∃g:Int,0<=g/\ixD (.lst [.int 0,.int 0,.int (1+q%9),.int (q%10 ^ 60)]) (.int (c%4))=some (.int g):=by
  rcases(by omega:c%4=0\/c%4=1\/c%4=2\/c%4=3) with h | h | h | h
  . exact⟨0,by omega,by simp[h]⟩
  . exact⟨0,by omega,by simp[h]⟩
  . exact⟨1+q%9,by omega,by rw[h,z2]⟩
  . exact⟨q%10 ^ 60,n60 q,by rw[h,z3]⟩
 obtain⟨lo0,el⟩:∃g:Int,ixD (.lst [.int (q%41-20),.int (q%10 ^ 60),.int (far+q%10 ^ 60),.int (1-far)]) (.int (c%4))=some (.int g):=by
  rcases(by omega:c%4=0\/c%4=1\/c%4=2\/c%4=3) with h | h | h | h
  . exact⟨_,by rw[h,jC _ (by decide) (by simp)];rfl⟩
  . exact⟨_,by rw[h,jC _ (by decide) (by simp)];rfl⟩
  . exact⟨_,by rw[h,z2]⟩
  . exact⟨_,by rw[h,z3]⟩
 obtain⟨w,hw,ew⟩:∃w:Int,1<=w/\ixD (.lst [.int 1,.int (1+q/9%9),.int (1+q*69621%(10 ^ 60+9))]) (.int (c/20%3))=some (.int w):=by
  rcases(by omega:c/20%3=0\/c/20%3=1\/c/20%3=2) with h | h | h
  . exact⟨1,by omega,by simp[h]⟩
  . exact⟨1+q/9%9,by omega,by simp[h]⟩
  . exact⟨1+q*69621%(10 ^ 60+9),by have:=n69 (q*69621);omega,by rw[h,SS]⟩
 obtain⟨v,ev⟩:∃v:Int,ixD (.lst [.int 0,.int 1,.int (q%19-9),.int (q*48271%(10 ^ 60+7)-10 ^ 59),.int 1]) (.int (c/4%5))=some (.int v):=by
  rcases(by omega:c/4%5=0\/c/4%5=1\/c/4%5=2\/c/4%5=3\/c/4%5=4) with h | h | h | h | h
  . exact⟨0,by rw[h,jC _ (by decide) (by simp)];rfl⟩
  . exact⟨1,by rw[h,jC _ (by decide) (by simp)];rfl⟩
  . exact⟨_,by rw[h,jC _ (by decide) (by simp)];rfl⟩
  . exact⟨_,by rw[h,jC _ (by decide) (by simp)];rfl⟩
  . exact⟨1,by rw[h,jC _ (by decide) (by simp)];rfl⟩
 unfold oJ;cases hr:rows.getLast? with
 | none =>
   have hz:rows=[]:=List.getLast?_eq_none_iff.mp hr;subst hz;have ne0:neD (.lst []) (.lst [])=some (.bl false):=yU [];have eq0:eqD (.lst []) (.lst [])=some (.bl true):=EI [];refine⟨lo0,lo0+w,v,.v (.int q),.v (.int far),(DrawM.nil lo0).snoc (by omega) (by omega) (fun r h=>by simp at h),?_⟩;simp[-Int.reducePow,-Nat.reducePow,p1,p2,p3,p4,m1,m2,m3,r1,r2,r3,hq,hfar,eg,el,ew,ev,ne0,eq0,rwD]
 | some r =>
   have hne:rows.isEmpty=false:=by
    cases rows with
    |nil=>simp at hr
    |cons _ _=>rfl
   have ne0:=yU rows;have eq0:=EI rows;rw[hne] at ne0 eq0;have lr:=last_rw hr
   obtain⟨u,hu⟩:∃u,r.2.2=some u:=by
    cases hv:r.2.2 with
    |none=>exact(d.map.val r (List.mem_of_getLast? hr) hv).elim
    |some u=>exact⟨u,rfl⟩
   obtain⟨ra,rb,rc⟩:=r;simp only at hu;subst hu;have app:∀x:Int,rows.map rwD++[D.tup [.int (s+g),.int (s+g+w),.int x]]=(rows++[(some (s+g),some (s+g+w),some x)]).map rwD:=fun x=>by simp[rwD]
   by_cases hcnd:s+g=s/\v=u
   . have hg0 : g = 0 := by omega
     refine⟨s+g,s+g+w,v+1,.v (.int q),x6,d.snoc (by omega) (by omega) (fun q h _=>by rw[hr] at h;cases h;simp;omega),?_⟩;rw[<- app];generalize hG:rows.map rwD=R at *;have hl:R.length<16777216:=by rw[<- hG];simpa using hz
     simp[-Int.reducePow,-Nat.reducePow,p1,p2,p3,p4,m1,m2,m3,r1,r2,r3,hq,eg,ew,ev,ne0,eq0,lr,hcnd.1,hcnd.2,hl]
   . refine ⟨s + g, s + g + w, v, .v (.int q), x6, d.snoc (by omega) (by omega) (fun q h h2 => by rw [hr] at h; cases h; simp; intro z; exact hcnd ⟨by omega, z.symm⟩), ?_⟩;rw [<- app];generalize hG:rows.map rwD=R at *;have hl:R.length < 16777216:=by rw [<- hG]; simpa using hz
     by_cases h1:g=0
     . have h2 : ¬v=u := fun z => hcnd ⟨by omega, z⟩;simp[-Int.reducePow,-Nat.reducePow,p1,p2,p3,p4,m1,m2,m3,r1,r2,r3,hq,eg,ew,ev,ne0,eq0,lr,h1,h2,hl]
     . have h3 : ¬ s + g = s := by omega
       simp[-Int.reducePow,-Nat.reducePow,p1,p2,p3,p4,m1,m2,m3,r1,r2,r3,hq,eg,ew,ev,ne0,eq0,lr,h1,h3,hl]
theorem IB(C:Sl):∀(cs:List Int) (rows:List Rw) (s:Int) (x3 x4 x5 x6 x7:Sl),(∀c∈cs,intBits c<=1048576)->rows.length+cs.length<16777216->DrawM rows s->∃(rows':List Rw) (s':Int) (y3 y4 y5 y6 y7:Sl),DrawM rows' s'/\rows'.length=rows.length+cs.length ∧
  jM (qA 3) oJ (cs.map D.int) [C,.own (rows.map rwD),.v (.int s),x3,x4,x5,x6,x7]=some (.nx [C,.own (rows'.map rwD),.v (.int s'),y3,y4,y5,y6,y7])
 |[],rows,s,x3,x4,x5,x6,x7,_,_,d=>⟨rows,s,x3,x4,x5,x6,x7,d,rfl,rfl⟩
 | c :: cs, rows, s, x3, x4, x5, x6, x7, hb, hz, d => by
   simp only[aK] at hz;obtain⟨lo,bh,v,y4,y6,d',turn⟩:=VN C rows s c (hb c aV) (by omega) d x4 x5 x6 x7;obtain⟨rows',s',y3,y4',y5,y6',y7,d2,l2,e⟩:=IB C cs (rows++[(some lo,some bh,some v)]) bh (.v (.int c)) y4 (.v (.int lo)) y6 (.v (.int v)) (fun x hx=>hb x (aN _ hx)) (by simp;omega) d';refine⟨rows',s',y3,y4',y5,y6',y7,d2,by simp at l2;simp only[aK];omega,?_⟩;simp only[bE,jM,qA,aO,gA,fZ,turn];exact e
theorem map3_ex(cs:List Int)(hb:∀c∈cs,intBits c<=1048576)(hl:cs.length<=1000):∃rows:List Rw,MapF rows/\rows.length=cs.length/\GK [.lst (cs.map D.int)]=some (.fresh (rows.map rwD)):=by
 obtain⟨rows,s',y3,y4,y5,y6,y7,d,l,e⟩:=IB (.v (.lst (cs.map D.int))) cs [] 0 .no .no .no .no .no hb (by simp;omega) (DrawM.nil 0);have l:rows.length=cs.length:=by simpa using l
 unfold GK runG GJ
 rw[qP (ds':=[.v (.lst (cs.map D.int)),.own [],.no,.no,.no,.no,.no,.no]) (by simp[args]),qP (ds':=[.v (.lst (cs.map D.int)),.own [],.v (.int 0),.no,.no,.no,.no,.no]) (by simp),
  qP (ds':=[.v (.lst (cs.map D.int)),.own (rows.map rwD),.v (.int s'),y3,y4,y5,y6,y7]) (by simp only[dO] at e;simp[e])]
 cases cs with
 | nil =>
   have hz:rows=[]:=by cases rows with | nil=>rfl | cons _ _=>simp at l
   subst hz;have ne0:neD (.lst []) (.lst [])=some (.bl false):=yU [];exact⟨[],d.map,rfl,by simp[ne0,flatF,flats]⟩
 | cons c0 cr =>
   generalize hcs:c0::cr=cs at *;have i0:∃a,ixD (.lst (cs.map D.int)) (.int 0)=some (.int a):=⟨c0,by rw[<- hcs];simp⟩
   have i1:∃a,ixD (.lst (cs.map D.int)) (.int (-1))=some (.int a):=by
    obtain⟨l',a,e'⟩:∃l' a,cs=l'++[a]:=⟨cs.dropLast,cs.getLast (by rw[<- hcs];simp),(CG _).symm⟩
    refine⟨a,?_⟩;rw[e',iB,bE,dO];exact vX _ _
   obtain⟨a0,e0⟩:=i0;obtain⟨a1,e1⟩:=i1;obtain⟨rows1,o1,l1,c1',e1'⟩:=open_lo 1 (zS (zI eqD (zI jA (zI qR (zI ixD (zJ 0) (zA (.int 0))) (zA (.int 60))) (zA (.int 8))) (zA (.int 1)))) [.v (.lst (cs.map D.int)),.own (rows.map rwD),.v (.int s'),y3,y4,y5,y6,y7] rows (decide (a0/60%8=1)) d.map.ord rfl (by simp[e0])
   have m1':MapF rows1:=by
    rcases c1' with rfl | ⟨r,t,rfl,rfl⟩
    . exact d.map
    . exact VM d.map
   obtain⟨rows2,o2,l2,c2',e2'⟩:=open_hi 1 (zS (zI eqD (zI jA (zI qR (zI ixD (zJ 0) (un1 negD (zA (.int 1)))) (zA (.int 60))) (zA (.int 8))) (zA (.int 6)))) [.v (.lst (cs.map D.int)),.own (rows1.map rwD),.v (.int s'),y3,y4,y5,y6,y7] rows1 (decide (a1/60%8=6)) o1 rfl (by simp[e1])
   have m2':MapF rows2:=by
    rcases c2' with rfl | ⟨r,t,rfl,rfl⟩
    . exact m1'
    . exact aBi m1'
   refine⟨rows2,m2',by omega,?_⟩;simp only[gA,fZ] at e1' e2';rw[qP e1',qP e2'];have fl:=yN rows2;simp[fl]
end FL
namespace FL
open PySem PySem.Spec PyProof.Rows L2
noncomputable def lnT(P M:D)(es ls:List OT):OT:=.ins 11 [.val P,.val M,.lst es,.lst ls]
theorem QY{f g:FS}{ds ds':List Sl}(h:f ds=some (.nx ds')):qG f g ds=g ds':=by simp[qG,h]
theorem QX{P M P' M':D}{es ls:List OT}(h:es.length<sizeLine):cY (lnT P M es ls) [P',M']=some (lnT P' M' (es++[.val (.tup [P,M])]) []):=by
 have h':es.length<16777216:=h;have hz:(2:Nat)<=sizeLine:=by decide
 have hz0:(0:Nat)<=sizeLine:=dA _;simp[cY,lentF,argsL,args,mT,lnT,qG,appP,atP,varP,valP,mkT,qD,zB,zV,List.lookup,h,hz,putP,putO,setAt,sO,nilO,vO,qC,ob0,List.modify,hz0,h']
theorem aBr{l:List D}: dF (.ins 20 []) [.lst l]=some (lnT (.lst l) (.dcf [] []) [] []):=by
 have hz0:(0:Nat)<=sizeLine:=dA _;simp[dF,lentF,argsL,args,gY,lnT,qG,setNw,varP,valP,mkL,qD,zV,ifV,zS,isB,zI,isD,zJ,zA,vO,sO,nilO,putP,putO,ob0,hz0,lisA]
noncomputable def putDs(k:Key)(d:D):List Key->List D->List D
 |k'::ks,x::xs=>(if k'=k then d else x)::putDs k d ks xs
 |_,xs=>xs
noncomputable def putKD(k:Key)(d:D)(ks:List Key)(l:List D):List Key×List D:=if hasK k ks=true then (ks,putDs k d ks l) else (ks++[k],l++[d])
theorem HL(k:Key)(d:D):∀(ks:List Key) (l:List D),putTs k (.val d) ks (l.map OT.val)=(putDs k d ks l).map OT.val
 |[],l=>by cases l<;>simp[putTs,putDs]
 |_::_,[]=>by simp[putTs,putDs]
 | k' :: ks, x :: l => by
   simp only[bE,putTs,putDs,HL k d ks l]
   split<;>rfl
theorem kK(k:Key)(d:D)(ks:List Key)(l:List D):putKT k (.val d) ks (l.map OT.val)=.dct (putKD k d ks l).1 ((putKD k d ks l).2.map OT.val):=by
 unfold putKT putKD
 split
 . rw[HL]
 . simp
theorem xD:∀l:List D,valsO (l.map OT.val)=some l
 |[]=>rfl
 |d::l=>by simp[valsO,xD l]
theorem mark_eq{nm:Str}{pl P:D}{ks:List Key}{l:List D}{es ls:List OT}(hF:fU [.str nm]=some (.val (.bl true)))(h:es.length<sizeLine)(hk:ks.length<sizeLine) :
  eT (lnT P (.dcf ks l) es ls) [.str nm,pl]=some (lnT P (.dcf (putKD (.inr nm) pl ks l).1 (putKD (.inr nm) pl ks l).2) (es++[.val (.tup [P,.dcf ks l])]) []):=by
 have hk':ks.length<16777216:=hk;have st:=QX (P:=P) (M:=.dcf ks l) (P':=P) (M':=.dcf (putKD (.inr nm) pl ks l).1 (putKD (.inr nm) pl ks l).2) (ls:=ls) h;have pk:=kK (.inr nm) pl ks l;have vv:=xD (putKD (.inr nm) pl ks l).2;generalize hS:cY=S at *;generalize putKD (.inr nm) pl ks l=p at *;obtain⟨ks',l'⟩:=p;simp only[lnT] at st ⊢;have e0:∀T l,eT T l=match iM (argsL 4 T l) with | some (.nx ds)=>ob0 ds[0]? | _=>none:=fun _ _=>rfl
 rw[e0];simp[argsL,args,iM,qG,ifG,notT,testT,qN,zB,zV,zJ,hF,retV,truD,qJ,setB,uT,valP,atP,varP,List.lookup,kdD,dputG,qC,keyD,hk',pk,putP,putO,frzDG,vv,lentG,hS,st,ob0]
abbrev cs6:List Nat:=[0,1,2,3,4,5]
noncomputable def QM:D->List Sl->Option (List Sl):=tupG 2 (zU (qA 3) (zU (qA 4) tgNil))
def Goes(dd pl q:D):Prop:=(pl=.non/\q=.non)\/∃i,pl=.int i/\(methR 1 cs6 cI dd [pl]).bind retV=some q
theorem do_turn{dd pl q:D}{nm:Str}{ks:List Key}{l:List D}{a0 y3 y4:Sl}(hg:Goes dd pl q)(hk:ks.length<16777216) :
  (QM (.tup [keyDD (.inr nm),pl]) [a0,.v dd,.ob none (.dct ks (l.map OT.val)),y3,y4]).bind fF=some (.nx [a0,.v dd,.ob none (.dct (putKD (.inr nm) q ks l).1 ((putKD (.inr nm) q ks l).2.map OT.val)),.v (.str nm),.v pl]):=by
 have pk:=kK (.inr nm) q ks l;generalize putKD (.inr nm) q ks l=p at *;obtain⟨ks',l'⟩:=p;rcases hg with⟨rfl,rfl⟩ | ⟨i,rfl,h⟩
 . simp[QM,fF,tupG,zU,tgNil,qA,keyDD,dputG,ifV,zS,isB,zI,isD,zJ,zA,varP,qC,keyD,hk,pk,putP,putO]
 . simp[QM,fF,tupG,zU,tgNil,qA,keyDD,dputG,ifV,zS,isB,zI,isD,zJ,zA,varP,qC,keyD,hk,pk,putP,putO,methV,zB,zV,h]
theorem KG{k:Key}:∀{ks:List Key},k∉ks->hasK k ks=false
 |[],_=>rfl
 | k' :: ks, h => by
   have h1:k'≠k:=fun z=>h (by rw[z];exact .head _);have:=KG (k:=k) (ks:=ks) fun z=>h (.tail _ z);unfold hasK at this ⊢;simp[h1,this]
theorem NF{k:Key}{ks:List Key}(h:k∈ks):hasK k ks=true:=by
 unfold hasK;rw[List.any_eq_true];exact⟨k,h,by simp⟩
theorem TL{dd:D}{a0:Sl}:∀(nms:List Str) (pls qs:List D) (ks:List Key) (l:List D) (y3 y4:Sl),pls.length=nms.length->qs.length=nms.length->(∀(j:Nat) (pl q:D),pls[j]?=some pl->qs[j]?=some q->Goes dd pl q) →
  (ks++nms.map Sum.inr).Nodup->ks.length+nms.length<=16777216->∃z3 z4,jM QM fF (gL (nms.map Sum.inr) pls) [a0,.v dd,.ob none (.dct ks (l.map OT.val)),y3,y4]=some (.nx [a0,.v dd,.ob none (.dct (ks++nms.map Sum.inr) ((l++qs).map OT.val)),z3,z4])
 |[],[],[],ks,l,y3,y4,_,_,_,_,_=>⟨y3,y4,by simp[gL,jM]⟩
 | nm :: nms, pl :: pls, q :: qs, ks, l, y3, y4, h1, h2, hg, nd, hz => by
   have hz':ks.length+(nms.length+1)<=16777216:=hz;have tr:=do_turn (y3:=y3) (y4:=y4) (a0:=a0) (nm:=nm) (l:=l) (hg 0 pl q rfl rfl) (ks:=ks) (by omega)
   have nk:(Sum.inr nm:Key)∉ks:=fun z=>by
    rw[dM] at nd;exact nd.2.2 _ z (Sum.inr nm) (by simp) rfl
   have ep:putKD (.inr nm) q ks l=(ks++[.inr nm],l++[q]):=by unfold putKD;rw[KG nk];rfl
   rw[ep] at tr;obtain⟨z3,z4,ih⟩:=TL (a0:=a0) nms pls qs (ks++[.inr nm]) (l++[q]) (.v (.str nm)) (.v pl) (by simpa using h1) (by simpa using h2) (fun j p' q' e1 e2=>hg (j+1) p' q' (by simpa using e1) (by simpa using e2)) (by simpa[fG] using nd) (by simp;omega);refine⟨z3,z4,?_⟩;have e0:gL ((nm::nms).map Sum.inr) (pl::pls)=.tup [keyDD (.inr nm),pl]::gL (nms.map Sum.inr) pls:=by simp[gL]
   rw[e0,jM];cases ht:QM (.tup [keyDD (.inr nm),pl]) [a0,.v dd,.ob none (.dct ks (l.map OT.val)),y3,y4] with
   |none=>rw[ht] at tr;cases tr
   | some ds1 =>
     rw[ht] at tr;simp only[aO] at tr ⊢;rw[tr];simp only[aO];rw[ih];simp[fG]
 |[],_::_,_,_,_,_,_,h,_,_,_,_=>by simp at h
 |[],[],_::_,_,_,_,_,_,h,_,_,_=>by simp at h
 |_::_,[],_,_,_,_,_,h,_,_,_,_=>by simp at h
 |_::_,_::_,[],_,_,_,_,_,h,_,_,_=>by simp at h
theorem do_eq{dd P P':D}{nms:List Str}{pls qs:List D}{es ls:List OT}(hd:(methR 1 cs6 bW dd [P]).bind retV=some P')(h1:pls.length=nms.length)(h2:qs.length=nms.length)(hg:∀(j:Nat) (pl q:D),pls[j]?=some pl->qs[j]?=some q->Goes dd pl q)(nd:(nms.map (Sum.inr:Str->Key)).Nodup)(hz:nms.length<=16777216)(h:es.length<sizeLine) :
  fV (lnT P (.dcf (nms.map Sum.inr) pls) es ls) [dd]=some (lnT P' (.dcf (nms.map Sum.inr) qs) (es++[.val (.tup [P,.dcf (nms.map Sum.inr) pls])]) []):=by
 have st:=QX (P:=P) (M:=.dcf (nms.map Sum.inr) pls) (P':=P') (M':=.dcf (nms.map Sum.inr) qs) (ls:=ls) h;obtain⟨z3,z4,lp⟩:=TL (dd:=dd) (a0:=.ob (some 0) (lnT P (.dcf (nms.map Sum.inr) pls) es ls)) nms pls qs [] [] .no .no h1 h2 hg (by simpa using nd) (by simpa using hz);have vv:=xD qs;have e0:∀T l,fV T l=match mB (argsL 5 T l) with | some (.nx ds)=>ob0 ds[0]? | _=>none:=fun _ _=>rfl
 rw[e0];have eg:mB=qG (setB 2 dO0) (qG (forG (oQ (valP (atP [(11,1)] (varP 0)))) QM fF) (frzDG 2 (lentG 2 [11] (fun _=>cY) (varP 0) (zB (methV 1 cs6 bW (qC 1) (zB (valP (atP [(11,0)] (varP 0))) zV)) (zB (qC 2) zV))))):=rfl;rw[eg];generalize hS:cY=S at *;have s1:setB 2 dO0 (argsL 5 (lnT P (.dcf (nms.map Sum.inr) pls) es ls) [dd])=some (.nx [.ob (some 0) (lnT P (.dcf (nms.map Sum.inr) pls) es ls),.v dd,.ob none (.dct [] []),.no,.no]):=by simp[setB,dO0,argsL,args]
 rw[QY s1]
 have s2:forG (oQ (valP (atP [(11,1)] (varP 0)))) QM fF [.ob (some 0) (lnT P (.dcf (nms.map Sum.inr) pls) es ls),.v dd,.ob none (.dct [] []),.no,.no]=some (.nx [.ob (some 0) (lnT P (.dcf (nms.map Sum.inr) pls) es ls),.v dd,.ob none (.dct (nms.map Sum.inr) (qs.map OT.val)),z3,z4]):=by
  unfold forG;have:oQ (valP (atP [(11,1)] (varP 0))) [.ob (some 0) (lnT P (.dcf (nms.map Sum.inr) pls) es ls),.v dd,.ob none (.dct [] []),.no,.no]=some (gL (nms.map Sum.inr) pls):=by simp[oQ,valP,atP,varP,lnT,List.lookup]
  rw[this];simpa using lp
 rw[QY s2];simp only[lnT] at st ⊢;simp[frzDG,vv,lentG,varP,zB,mkL,methV,qC,valP,atP,List.lookup,zV,hd,st,putP,putO,ob0]
open Builtin.Int (intBits)
theorem DJ{ps:List Rw}(o:Ord ps){a b:Int}(h:a<=b):(zT ps (none,some a)).length+(zT ps (some b,none)).length<=ps.length+1:=by
 induction ps with
 |nil=>simp[zT]
 | cons r t ih =>
   have pw:=bL.mp o.pw;have ot:Ord t:=⟨fun z hz=>o.ok z (aN _ hz),pw.2⟩
   have ih:=ih ot;cases h1:part1 (none,some a) r with
   | none =>
     have e1:zT (r::t) (none,some a)=zT t (none,some a):=by simp[zT,h1]
     rw[e1]
     have:(zT (r::t) (some b,none)).length<=(zT t (some b,none)).length+1:=by
      unfold zT;rw[gS]
      split<;>simp
     simp only[aK];omega
   | some r1 =>
     have e1:zT (r::t) (none,some a)=r1::zT t (none,some a):=by simp[zT,h1]
     rw[e1];cases h2:part1 (some b,none) r with
     | none =>
       have e2:zT (r::t) (some b,none)=zT t (some b,none):=by simp[zT,h2]
       rw[e2];simp only[aK];omega
     | some r2 =>
       have e2:zT (r::t) (some b,none)=r2::zT t (some b,none):=by simp[zT,h2]
       have e3:zT t (none,some a)=[]:=by
        unfold zT;rw[GR];intro z hz;cases hz':part1 (none,some a) z with
        |none=>rfl
        | some z' =>
          exfalso;obtain⟨x,y,hx,hy,hxy⟩:=pw.1 z hz;have k2:=qW h2;have kz:=qW hz';obtain⟨x2,ex2,hx2⟩:=k2.2.2.2.1 x hx;obtain⟨y2,ey2,hy2⟩:=k2.2.2.2.2.2.2 b rfl;have:=k2.1 y2 x2 ey2 ex2;obtain⟨y3,ey3,hy3⟩:=kz.2.2.2.2.1 y hy;obtain⟨x3,ex3,hx3⟩:=kz.2.2.2.2.2.1 a rfl;have:=kz.1 y3 x3 ey3 ex3;omega
       rw[e2,e3];have:=jD t (some b,none);simp only[aK,fD];omega
theorem WN{d:Dd}(h:okD d){ps:List Rw}(m:MapF ps):(doneF d ps).length<=ps.length+2:=by
 cases d with
 |put s v=>exact ZT m (r:=(s,v)) h
 | widen a k =>
   have h1:=DJ m.ord (QV a);refine cJ (wP _) ?_;simp only[hV,bR,bU];omega
 | narrow a k =>
   have h1:=DJ m.ord (show a<=a+k by have:(0:Int)<=k:=h;omega);refine cJ (wP _) ?_;simp only[hV,bR,bU];omega
 |move f=>simp only[doneF,bU];omega
 | stretch t b =>
   refine cJ (wP _) (cJ (OB _ _) ?_);rw[bU];omega
 |mirror=>simp only[doneF,bU,eJ];omega
end FL
namespace FL
open PySem PySem.Spec PyProof.Rows L2
abbrev Mks:=List (List Nat×Option Int)
noncomputable def mkN(mk:Mks):List Str:=mk.map fun p=>txS p.1
noncomputable def mkV(mk:Mks):List D:=mk.map fun p=>oi p.2
noncomputable def mkD(mk:Mks):D:=.dcf ((mkN mk).map Sum.inr) (mkV mk)
noncomputable def lnM(ps:List Rw)(mk:Mks)(es ls:List OT):OT:=lnT (.lst (ps.map rwD)) (mkD mk) es ls
noncomputable def stM(ps:List Rw)(mk:Mks):OT:=.val (.tup [.lst (ps.map rwD),mkD mk])
noncomputable def putM(n:List Nat)(v:Option Int)(mk:Mks):Mks:=if n∈mk.map (·.1) then mk.map fun p=>if p.1=n then (p.1,v) else p else mk++[(n,v)]
noncomputable def goM(d:Dd)(mk:Mks):Mks:=mk.map fun p=>(p.1,p.2.bind (wentF d))
structure MkOk(mk:Mks):Prop where
 nd:(mk.map (·.1)).Nodup
 nm:∀p∈mk,Nm p.1
theorem MkOk.nil:MkOk []:=⟨List.nodup_nil,fun _ h=>nomatch h⟩
theorem IK(d:Dd)(mk:Mks):(goM d mk).map (·.1)=mk.map (·.1):=by simp[goM]
theorem MkOk.go{mk:Mks}(h:MkOk mk)(d:Dd):MkOk (goM d mk):=⟨by rw[IK];exact h.nd,fun p hp=>by
 have:p.1∈(goM d mk).map (·.1):=eI hp;rw[IK] at this;obtain⟨q,hq,e⟩:=cO.mp this;rw[<- e]
 exact h.nm q hq⟩
theorem MkOk.put{mk:Mks}(h:MkOk mk){n:List Nat}(hn:Nm n)(v:Option Int):MkOk (putM n v mk):=by
 unfold putM
 split
 . have e:(mk.map fun p=>if p.1=n then (p.1,v) else p).map (·.1)=mk.map (·.1):=by
    rw[gB];refine sH fun p _=>?_;simp only[Function.comp]
    split<;>rfl
   refine⟨by rw[e];exact h.nd,fun p hp=>?_⟩;have:p.1∈(mk.map fun p=>if p.1=n then (p.1,v) else p).map (·.1):=eI hp;rw[e] at this;obtain⟨q,hq,e⟩:=cO.mp this;rw[<- e];exact h.nm q hq
 . rename_i hne;refine ⟨?_,fun p hp=>?_⟩
   . rw [iB, dM];refine ⟨h.nd,by simp,fun a ha b hb=>?_⟩;have:b=n:=by simpa using hb
     subst this;exact fun z=>hne (z▸ha)
   . rcases bG.mp hp with hp | hp
     . exact h.nm p hp
     . rw[aQ.mp hp];exact hn
theorem ZR(n:List Nat)(v:Option Int)(mk:Mks):(putM n v mk).length<=mk.length+1:=by
 unfold putM
 split<;>simp
theorem goM_len(d:Dd)(mk:Mks):(goM d mk).length=mk.length:=by simp[goM]
theorem keys_nd{mk:Mks}(h:(mk.map (·.1)).Nodup):((mkN mk).map (Sum.inr:Str->Key)).Nodup:=by
 unfold mkN;rw[gB];have e:(mk.map ((Sum.inr:Str->Key) ∘ fun p=>txS p.1))=(mk.map (·.1)).map fun n=>(Sum.inr (txS n):Key):=by rw[gB];rfl
 rw[e];refine nP.mpr (List.Pairwise.imp (fun {a b} hne hab=>?_) h);have:txS a=txS b:=by simpa using hab
 exact hne (BN.mp this)
theorem JX(n:List Nat)(mk:Mks):(Sum.inr (txS n):Key)∈(mkN mk).map (Sum.inr:Str->Key)↔n∈mk.map (·.1):=by
 unfold mkN;constructor
 . intro h;obtain ⟨x,hx,e⟩:=cO.mp h;obtain ⟨p,hp,e2⟩:=cO.mp hx;have:txS p.1=txS n:=by rw [e2]; simpa using e
   rw[<- BN.mp this];exact eI hp
 . intro h;obtain⟨p,hp,e⟩:=cO.mp h;rw[<- e];exact eI (eI (f:=fun p:List Nat×Option Int=>txS p.1) hp)
theorem MF(n:List Nat)(v:Option Int):∀mk:Mks,putDs (.inr (txS n)) (oi v) ((mkN mk).map Sum.inr) (mkV mk)=mkV (mk.map fun p=>if p.1=n then (p.1,v) else p)
 |[]=>by simp[mkN,mkV,putDs]
 | p :: r => by
   have ih:=MF n v r;simp only[mkN,mkV,bE] at ih ⊢;simp only[putDs];rw[ih]
   have e:((Sum.inr (txS p.1):Key)=Sum.inr (txS n))=(p.1=n):=by
    rw[Sum.inr.injEq];exact propext BN
   simp only[e]
   by_cases h:p.1=n
   . simp[h]
   . simp[h]
theorem ME(n:List Nat)(v:Option Int)(mk:Mks):putKD (.inr (txS n)) (oi v) ((mkN mk).map Sum.inr) (mkV mk)=((mkN (putM n v mk)).map Sum.inr,mkV (putM n v mk)):=by
 unfold putKD putM
 by_cases h:n∈mk.map (·.1)
 . rw [NF ((JX n mk).mpr h), if_pos rfl, if_pos h, MF];congr 1;simp only [mkN,gB];refine sH fun p _=>?_;simp only [Function.comp]
   split<;>rfl
 . rw[KG (fun z => h ((JX n mk).mp z)), if_neg iD, if_neg h];simp[mkN,mkV]
theorem markM{n:List Nat}(hn:Nm n){ps:List Rw}{mk:Mks}{es ls:List OT}(v:Option Int)(h:es.length<sizeLine)(hk:mk.length<sizeLine) :
  eT (lnM ps mk es ls) [.str (txS n),oi v]=some (lnM ps (putM n v mk) (es++[stM ps mk]) []):=by
 have:=mark_eq (nm:=txS n) (pl:=oi v) (P:=.lst (ps.map rwD)) (ks:=(mkN mk).map Sum.inr) (l:=mkV mk) (es:=es) (ls:=ls) (DS hn) h (by simpa[mkN] using hk);rw[ME] at this;exact this
theorem doM{d:Dd}(hd:okD d){ps:List Rw}(m:MapF ps)(hl:ps.length<=50000){mk:Mks}(hm:MkOk mk){es ls:List OT}(h:es.length<sizeLine)(hk:mk.length<=sizeLine) :
  fV (lnM ps mk es ls) [insD d]=some (lnM (doneF d ps) (goM d mk) (es++[stM ps mk]) []):=by
 have hdn:(methR 1 cs6 bW (insD d) [.lst (ps.map rwD)]).bind retV=some (.lst ((doneF d ps).map rwD)):=by
  rw[TK hd m hl];rfl
 have e1:mkN (goM d mk)=mkN mk:=by simp[mkN,goM]
 have:=do_eq (dd:=insD d) (nms:=mkN mk) (pls:=mkV mk) (qs:=mkV (goM d mk)) (es:=es) (ls:=ls) hdn (by simp[mkN,mkV]) (by simp[mkN,mkV,goM]) (fun j pl q h1 h2=>by
  simp only[mkV,goM,gB,aX] at h1 h2;cases hj:mk[j]? with
  |none=>rw[hj] at h1;cases h1
  | some p =>
    rw[hj] at h1 h2;simp only[cZ,Option.some.injEq,Function.comp] at h1 h2;subst h1 h2;cases hp:p.2 with
    |none=>exact .inl ⟨rfl,rfl⟩
    | some i =>
      refine .inr ⟨i,rfl,?_⟩;rw[kF,went_eq d hd i]
      rfl) (keys_nd hm.nd) (by simpa[mkN] using hk) h
 unfold lnM mkD stM mkD;rw[e1];exact this
theorem RT(P M:D)(es ls:List OT):otD (lnT P M es ls)=.ins 11 [P,M,.lst (otDs es),.lst (otDs ls)]:=by simp[lnT,otD,otDs]
theorem toldM(ps:List Rw)(mk:Mks)(es ls:List OT):methR 0 [11] cR (otD (lnM ps mk es ls)) []=some (.fresh (ps.map rwD)):=by
 have fl:=yN ps;unfold lnM;rw[RT];generalize ps.map rwD=L at *;simp[cR,mS,runG,mR,args,retOG,lisA,fldG,fldD,List.lookup,flatF,fl]
theorem DW{n:List Nat}{v:Option Int}:∀{mk:Mks},(mk.map (·.1)).Nodup->(n,v)∈mk->getKD (.inr (txS n)) ((mkN mk).map Sum.inr) (mkV mk)=some (oi v)
 |[],_,h=>nomatch h
 | p :: r, nd, h => by
   simp only[mkN,mkV,bE,getKD] at *;rw[bT] at nd
   have e:((Sum.inr (txS p.1):Key)=Sum.inr (txS n))↔(p.1=n):=by
    rw[Sum.inr.injEq];exact BN
   rcases aE.mp h with rfl | h
   . simp
   . have hne : p.1 ≠ n := fun z => nd.1 (z▸eI (f := fun q : List Nat×Option Int => q.1) h);rw[if_neg (fun z=>hne (e.mp z))];exact DW (mk:=r) nd.2 h
theorem whereM{mk:Mks}(hm:MkOk mk){n:List Nat}{v:Option Int}(h:(n,v)∈mk)(ps:List Rw)(es ls:List OT):methR 1 [11] fB (otD (lnM ps mk es ls)) [.str (txS n)]=some (.val (oi v)):=by
 have hn:=DS (hm.nm _ h);have hk:=NF ((JX n mk).mpr (eI (f:=fun q:List Nat×Option Int=>q.1) h));have hg:=DW hm.nd h;unfold lnM mkD;rw[RT];generalize (mkN mk).map (Sum.inr:Str->Key)=ks at *;generalize mkV mk=vs at *;have fv:flat (oi v)=true:=by cases v<;>simp[flat]
 generalize oi v=ov at *;simp[fB,lT,runG,lS,args,hn,dnotG,dinG,keyD,kdD,hk,dgetG,hg,fldG,fldD,List.lookup,flatR,fv]
theorem aBh{mk:Mks}(hl:mk.length<64)(ps:List Rw)(es ls:List OT):methR 0 [11] cM (otD (lnM ps mk es ls)) []=some (.fresh ((srtT (mkN mk)).map D.str)):=by
 unfold lnM mkD;rw[RT];have hl':(mkN mk).length<64:=by simpa[mkN] using hl
 have e:keysT ((mkN mk).map Sum.inr)=some (mkN mk):=by
  generalize mkN mk=l
  induction l with
  |nil=>rfl
  |cons a r ih=>simp[keysT,ih]
 have fl:flats ((srtT (mkN mk)).map D.str)=true:=by
  generalize srtT (mkN mk)=l
  induction l with
  |nil=>simp[flats]
  |cons a r ih=>simp[flats,flat,ih]
 generalize (mkN mk).map (Sum.inr:Str->Key)=ks at *;simp[cM,lV,runG,lU,args,srtDA,kdD,e,fldG,fldD,List.lookup];simp[flatF,fl,hl']
theorem YW(mk:Mks):∃sp:Mks,(∀p∈sp,p∈mk)/\sp.length=mk.length/\srtT (mkN mk)=mkN sp:=by
 have hp:=srtT_perm (mkN mk)
 have key:∀L:List Str,(∀x∈L,∃p∈mk,x=txS p.1)->∃sp:Mks,(∀p∈sp,p∈mk)/\L=mkN sp:=by
  intro L
  induction L with
  |nil=>intro _;exact⟨[],(fun _ h=>nomatch h),rfl⟩
  | cons a r ih =>
    intro h;obtain⟨p,hp,e⟩:=h a (.head _);obtain⟨sp,h1,h2⟩:=ih fun x hx=>h x (.tail _ hx);exact⟨p::sp,fun q hq=>(aE.mp hq).elim (fun z=>z▸hp) (h1 q),by rw[h2,e];rfl⟩
 obtain⟨sp,h1,h2⟩:=key (srtT (mkN mk)) fun x hx=>by
  obtain⟨p,hp,e⟩:=cO.mp (hp.mem_iff.mp hx);exact⟨p,hp,e.symm⟩
 refine⟨sp,h1,?_,h2⟩;have:=hp.length_eq;rw[h2] at this;simpa[mkN] using this
open Builtin.Int (intBits)
theorem YL(o:Option Int):hJ [oi o]=some (.val (.bl o.isSome)):=by
 cases o with
 |some i=>exact UJ i
 | none =>
   unfold hJ runG oG;simp[args]
@[simp] theorem sltW_eq(f:FE)(lo hi:List Sl->Option (Option Int))(ds:List Sl):sltW f lo hi ds=(f ds).bind fun d=>(lo ds).bind fun a=>(hi ds).bind fun b=>match d with
 | .tup l=>some (.tup (cutD l a b))
 |_=>none:=rfl
end FL
namespace FL
open PySem PySem.Spec PyProof.Rows L2
noncomputable def mkO(mk:Mks):OT:=.dct ((mkN mk).map Sum.inr) ((mkV mk).map OT.val)
theorem ot_mk(mk:Mks):otD (mkO mk)=.dct ((mkN mk).map Sum.inr) (mkV mk):=by simp[mkO,otD,HV]
theorem YM(d:Dd)(h:okD d)(pl:Option Int):nR [told3 d,oi pl]=some (.val (oi (pl.bind (wentF d)))):=by
 unfold nR runG uG;cases pl with
 |none=>cases d<;>simp[args,told3]
 | some i =>
   cases d with
   |put s v=>simp[args,told3,wentF]
   |move f=>simp[args,told3,wentF]
   |mirror=>simp[args,told3,wentF]
   | widen a m =>
     by_cases q:i<a
     . simp[args,told3,wentF,q]
     . simp[args,told3,wentF,q]
   | narrow a m =>
     by_cases q:i<a
     . simp[args,told3,wentF,q]
     . by_cases q2 : i < a + m
       . simp[args,told3,wentF,q,q2]
       . simp[args,told3,wentF,q,q2]
   | stretch t b =>
     obtain⟨⟨t1,t2⟩,b1,b2⟩:=h;have m1:=wQ (i:=-i) (j:=t) (by omega) t2;have m2:=fun x=>wQ (i:=x) (j:=b) (by omega) b2;have f1:=fun x=>yL x (show(0:Int)<b by omega) (by omega);have f2:=fun x=>yL x (show(0:Int)<t by omega) (by omega)
     by_cases q:eW t b i*b/t=i
     . have q' : -(-i*t/b)*b/t=i := q;simp[args,told3,wentF,m1,m2,f1,f2,q,q',eW]<;>simp_all [eW]
     . have q' : ¬-(-i*t/b)*b/t=i := q;simp[args,told3,wentF,m1,m2,f1,f2,q,q',eW]<;>simp_all [eW]
theorem row2_ex(a b c:Int)(known:List Int)(hk:known.length<100000):∃d,okD d/\rB [.int a,.int b,.int c,.lst (known.map D.int)]=some (.val (told3 d)):=row3_ex a b c known hk
theorem aBf(n:List Nat)(v:Option Int)(mk:Mks):(n,v)∈putM n v mk:=by
 unfold putM
 split
 . rename_i h;obtain⟨p,hp,e⟩:=cO.mp h;exact cO.mpr ⟨p,hp,by rw[if_pos e,e]⟩
 . simp
theorem ZP(n:List Nat)(v:Option Int)(mk:Mks):putKT (.inr (txS n)) (.val (oi v)) ((mkN mk).map Sum.inr) ((mkV mk).map OT.val)=mkO (putM n v mk):=by
 rw[kK,ME];rfl
theorem UL{l:List Str}(h:∀x∈l,PyData.strOk x=true):shals 40 (l.map D.str)=true:=by
 induction l with
 |nil=>simp[shals]
 | cons a r ih =>
   simp only[bE,shals,cA];exact⟨by simp[shal,h a (.head _)],ih fun x hx=>h x (.tail _ hx)⟩
theorem YS(l:List Str):eqvD (.lst (l.map D.str)) (.lst (l.map D.str))=true:=by
 rw[vK]
 induction l with
 |nil=>rfl
 | cons a r ih =>
   have:eqvD (.str a) (.str a)=true:=by simp[eqvD,toPy,PyData.eqv]
   rw[bE,IM,this,ih];rfl
theorem MT{l:List Str}(h:∀x∈l,PyData.strOk x=true):neD (.lst (l.map D.str)) (.lst (l.map D.str))=some (.bl false):=by
 have hs:shal 40 (.lst (l.map D.str))=true:=by simpa using UL h
 rw[DL hs hs,YS];rfl
theorem nm_ok{mk:Mks}(hm:MkOk mk):∀x∈srtT (mkN mk),PyData.strOk x=true:=fun x hx=>by
 obtain⟨p,hp,e⟩:=cO.mp ((srtT_perm (mkN mk)).mem_iff.mp hx);have:=shal_tx (hm.nm p hp).2.2.asc 40;rw[<- e];simpa[shal] using this
theorem srtM{mk:Mks}(hl:mk.length<64){M:D}(hM:kdD M=some ((mkN mk).map Sum.inr,mkV mk)){ds:List Sl}{f:FE}(hf:f ds=some M):srtDA f ds=some ((srtT (mkN mk)).map D.str):=by
 have e:keysT ((mkN mk).map Sum.inr)=some (mkN mk):=by
  generalize mkN mk=l
  induction l with
  |nil=>rfl
  |cons a r ih=>simp[keysT,ih]
 have hl':(mkN mk).length<64:=by simpa[mkN] using hl
 unfold srtDA;rw[hf];simp[hM,e,hl']
theorem kdO(mk:Mks):kdD (otD (mkO mk))=some ((mkN mk).map Sum.inr,mkV mk):=by rw[ot_mk];rfl
theorem dgetM{mk:Mks}(nd:(mk.map (·.1)).Nodup){M:D}(hM:kdD M=some ((mkN mk).map Sum.inr,mkV mk)){n:List Nat}{v:Option Int}(h:(n,v)∈mk){ds:List Sl}{f g:FE}(hf:f ds=some M)(hg:g ds=some (.str (txS n))):dgetG f g ds=some (oi v):=by
 have:=DW nd h;unfold dgetG;rw[hf,hg];simpa[keyD,hM] using this
theorem dgetO{mk:Mks}(nd:(mk.map (·.1)).Nodup){n:List Nat}{v:Option Int}(h:(n,v)∈mk){ds:List Sl}{f g:FE}(hf:f ds=some (otD (mkO mk)))(hg:g ds=some (.str (txS n))):dgetG f g ds=some (oi v):=dgetM nd (kdO mk) h hf hg
theorem LR{mk:Mks}(hm:MkOk mk){M:D}(hM:kdD M=some ((mkN mk).map Sum.inr,mkV mk))(ps:List Rw)(es:List OT){ls:List OT}{p:List Nat×Option Int}(hp:p∈mk)(A2 A3 A4 x6:Sl) :
  lB [.v (otD (lnM ps mk es ls)),.v M,A2,A3,A4,.v (.str (txS p.1)),x6]=some (.nx [.v (otD (lnM ps mk es ls)),.v M,A2,A3,A4,.v (.str (txS p.1)),.v (oi p.2)]):=by
 obtain⟨n,v⟩:=p;have hw:=whereM hm hp ps es ls;have hg:∀x6:Sl,dgetG (qC 1) (qC 5) [.v (otD (lnM ps mk es ls)),.v M,A2,A3,A4,.v (.str (txS n)),x6]=some (oi v):=fun x6=>dgetM hm.nd hM hp (f:=qC 1) (g:=qC 5) (by simp) (by simp);have hwh:=YL v;unfold lB;generalize otD (lnM ps mk es ls)=L at *;generalize dgetG (qC 1) (qC 5)=dg at *;cases v with
 |none=>simp[hw,hg]
 |some i=>simp[hw,hg] at hwh ⊢;simp[hwh]
theorem wD{mk:Mks}(hm:MkOk mk){M:D}(hM:kdD M=some ((mkN mk).map Sum.inr,mkV mk))(ps:List Rw)(es:List OT){ls:List OT}(A2 A3 A4:Sl):∀(sp:Mks) (x5 x6:Sl),(∀p∈sp,p∈mk)->∃y5 y6,
  jM (qA 5) lB ((mkN sp).map D.str) [.v (otD (lnM ps mk es ls)),.v M,A2,A3,A4,x5,x6]=some (.nx [.v (otD (lnM ps mk es ls)),.v M,A2,A3,A4,y5,y6])
 |[],x5,x6,_=>⟨x5,x6,rfl⟩
 | p :: r, x5, x6, h => by
   have e:=LR hm hM ps es (ls:=ls) (h p (.head _)) A2 A3 A4 x6;obtain⟨z5,z6,ih⟩:=wD hm hM ps es (ls:=ls) A2 A3 A4 r (.v (.str (txS p.1))) (.v (oi p.2)) fun q hq=>h q (.tail _ hq);refine⟨z5,z6,?_⟩;simp only[mkN,bE,jM,qA,aO,gA,fZ,e];exact ih
theorem standsM{mk:Mks}(hm:MkOk mk){M:D}(hM:kdD M=some ((mkN mk).map Sum.inr,mkV mk))(hl:mk.length<64)(ps:List Rw)(es:List OT){ls:List OT}(t:Int):gM [otD (lnM ps mk es ls),M,.int t]=some (.val (.bl true)):=by
 obtain⟨sp,h1,h2,h3⟩:=YW mk;have hs:∀A:Sl,srtDA (zJ 1) [.v (otD (lnM ps mk es ls)),.v M,.v (.int t),A,.no,.no,.no]=some ((mkN sp).map D.str):=fun A=>by rw[<- h3];exact srtM hl hM (f:=zJ 1) (by simp)
 have hmk:=aBh hl ps es ls;rw[h3] at hmk;have hne:=MT (nm_ok hm);rw[h3] at hne;have lp:=fun A3 A4=>wD hm hM ps es (ls:=ls) (.v (.int t)) A3 A4 sp .no .no h1;have lp2:=fun A3 A4=>wD hm hM ps es (ls:=ls) (.v (.int t)) A3 A4 sp.reverse .no .no (fun p hp=>h1 p (lF.mp hp));have er:(mkN sp.reverse).map D.str=((mkN sp).map D.str).reverse:=by simp[mkN]
 rw[er] at lp2;unfold gM;refine uK ?_;unfold oH;have ar:args 7 [otD (lnM ps mk es ls),M,.int t]=[.v (otD (lnM ps mk es ls)),.v M,.v (.int t),.no,.no,.no,.no]:=by simp[args]
 rw[ar,qP (ds':=[.v (otD (lnM ps mk es ls)),.v M,.v (.int t),.v (.lst ((mkN sp).map D.str)),.no,.no,.no]) (by rw[vY,sI,hs];rfl)];generalize otD (lnM ps mk es ls)=L at *;generalize (mkN sp).map D.str=NN at *;rw[qP (ds':=[.v L,.v M,.v (.int t),.v (.lst NN),.v (.lst NN),.no,.no]) (by simp[hmk])];rw[qP (ds':=[.v L,.v M,.v (.int t),.v (.lst NN),.v (.lst NN),.no,.no]) (by simp[hne])]
 by_cases ht:t=1
 . obtain⟨y5, y6, e⟩ := lp2 (.v (.lst NN.reverse)) (.v (.lst NN));rw[qP (ds':=[.v L,.v M,.v (.int t),.v (.lst NN.reverse),.v (.lst NN),.no,.no]) (by simp[ht,revA]),qP (ds':=[.v L,.v M,.v (.int t),.v (.lst NN.reverse),.v (.lst NN),y5,y6]) (by simp[e])];simp
 . obtain⟨y5, y6, e⟩ := lp (.v (.lst NN)) (.v (.lst NN));rw[qP (ds':=[.v L,.v M,.v (.int t),.v (.lst NN),.v (.lst NN),.no,.no]) (by simp[ht]),qP (ds':=[.v L,.v M,.v (.int t),.v (.lst NN),.v (.lst NN),y5,y6]) (by simp[e])];simp
theorem IW{P M P' M':D}{es ls:List OT}: bX (lnT P M es ls) [.tup [P',M']]=some (lnT P' M' es ls):=by
 simp[bX,lentF,argsL,args,kW,lnT,qG,setAt,varP,vO,zI,ixD,zJ,zA,atI,ixN,List.lookup,putP,putO,ob0]
theorem MO(l:List OT)(d:D):otDs (l++[.val d])=otDs l++[d]:=by
 induction l with
 |nil=>simp[otDs,otD]
 |cons a r ih=>simp[otDs,ih]
theorem back_eq{P M P' M':D}{es ls:List OT}(h:ls.length<sizeLine):eU (lnT P M (es++[.val (.tup [P',M'])]) ls) []=some (lnT P' M' es (ls++[.val (.tup [P,M])])):=by
 have h':ls.length<16777216:=h;have bc:=IW (P:=P) (M:=M) (P':=P') (M':=M') (es:=es) (ls:=ls++[.val (.tup [P,M])]);have e0:∀T l,eU T l=match iN (argsL 1 T l) with | some (.nx ds)=>ob0 ds[0]? | _=>none:=fun _ _=>rfl
 generalize hS:bX=S at *;rw[e0];have ne:∀l:List D,(l++[D.tup [P',M']]).isEmpty=false:=fun l=>by cases l<;>rfl
 simp only[lnT] at bc ⊢;simp[argsL,args,iN,qG,ifG,notT,testT,seeP,atP,varP,List.lookup,otD,MO,truD,ne,qJ,appP,valP,mkT,qD,zB,zV,h',putP,putO,List.modify,lentX,popX,hS,bc,ob0]
theorem aCw{P M P' M':D}{es ls:List OT}(h:es.length<sizeLine):eB (lnT P M es (ls++[.val (.tup [P',M'])])) []=some (lnT P' M' (es++[.val (.tup [P,M])]) ls):=by
 have h':es.length<16777216:=h;have bc:=IW (P:=P) (M:=M) (P':=P') (M':=M') (es:=es++[.val (.tup [P,M])]) (ls:=ls);have e0:∀T l,eB T l=match gT (argsL 1 T l) with | some (.nx ds)=>ob0 ds[0]? | _=>none:=fun _ _=>rfl
 generalize hS:bX=S at *;rw[e0];have ne:∀l:List D,(l++[D.tup [P',M']]).isEmpty=false:=fun l=>by cases l<;>rfl
 simp only[lnT] at bc ⊢;simp[argsL,args,gT,qG,ifG,notT,testT,seeP,atP,varP,List.lookup,otD,MO,truD,ne,qJ,appP,valP,mkT,qD,zB,zV,h',putP,putO,List.modify,lentX,popX,hS,bc,ob0]
open Builtin.Int (intBits)
end FL
section
open PySem PyProof.Rows L2 FL
noncomputable def fH:List Sl->Bool:=(ifX (notT (testT (fldG [(11,2)] (qC 0)))) tW DK)
noncomputable def dL:List D->Bool:=runX fH 1
noncomputable def eZ:List Sl->Bool:=(ifX (notT (testT (fldG [(11,3)] (qC 0)))) tW DK)
noncomputable def dG:List D->Bool:=runX eZ 1
noncomputable def fJ:FX:=(seqR (jL 3 (zA (.bl false)))
 (seqR (jL 4 (zA .non))
 (seqR (tryNG (ifG (zS (zI eqD (zJ 1) (zA (.int 5)))) (setR 4 (lentV (lentG 0 [11] (fun _=>eB) (varP 0) zV))) (setR 4 (lentV (lentG 0 [11] (fun _=>eU) (varP 0) zV)))) (relXO 0 (ifX (zS (zI eqD (zJ 1) (zA (.int 5)))) (methX 11 0 dG (qC 0) zV) (methX 11 0 dL (qC 0) zV)))
 (jL 3 (zA (.bl true))))
 (vR (andV (zI eqD (zJ 3) (zJ 2)) (zI isD (zJ 4) (zA .non)))))))
noncomputable def cP:OT->List D->Option (D×OT):=lentR fJ 5 0
noncomputable def kZ:FS:=(dputG (varP 7) (qC 8) (qN 2 nR (zB (zJ 9) (zB (zJ 10) zV))))
noncomputable def oA:FX:=(seqR (asgG (tupG 2 (zU (qA 4) (zU (qA 5) tgNil))) (qC 1))
 (seqR (jL 6 (mkL (compG (valsA (qC 5))  [none] (qA 0) (zS (zI notD (zJ 0) (zA .non))) (qC 0))))
 (seqR (jL 6 (mkL (catA (zJ 6) (mkL (compG (viaA (qC 4) asLT) [none,none,none] (tupG 3 (zU (qA 0) (zU (qA 1) (zU (qA 2) tgNil)))) (zS (zI notD (zJ 0) (zA .non))) (qC 0))))))
 (seqR (setB 7 dO0)
 (ifR (zS (zI eqD (zI jA (zI ixD (zJ 2) (zA (.int 0))) (zA (.int 6))) (zA (.int 2)))) (seqR (setB 7 (uT (qC 5)))
 (seqR (jL 8 (qN 2 nS (zB (zJ 3) (zB (zI ixD (zJ 2) (zA (.int 1))) zV))))
 (seqR (dputG (varP 7) (qC 8) (qN 2 fS (zB (zI ixD (zJ 2) (zA (.int 2))) (zB (zJ 6) zV))))
 (seqR (lentG 2 [11] (fun _=>eT) (varP 0) (zB (qC 8) (zB (relVO 7 (dgetG (qC 7) (qC 8))) zV)))
 (frzDR 7 (vR (mkT (qD (zB (qC 4) (zB (qC 7) zV))))))))))
 (seqR (jL 9 (qN 4 rB (zB (zI qR (zI ixD (zJ 2) (zA (.int 0))) (zA (.int 6))) (zB (zI ixD (zJ 2) (zA (.int 1))) (zB (zI ixD (zJ 2) (zA (.int 2))) (zB (zJ 6) zV))))))
 (seqR (lentG 1 [11] (fun _=>fV) (varP 0) (zB (qN 1 gK (zB (zJ 9) zV)) zV))
 (seqR (forG (oQ (qC 5)) (tupG 2 (zU (qA 8) (zU (qA 10) tgNil))) kZ)
 (frzDR 7 (vR (mkT (qD (zB (methV 1 [0,1,2,3,4,5] bW (qN 1 gK (zB (zJ 9) zV)) (zB (mkL (lisA (zJ 4))) zV)) (zB (qC 7) zV))))))))))))))
noncomputable def iF:OT->List D->Option (D×OT):=lentR oA 11 0
noncomputable def iW:FS:=(qG (ifG (andT (zS (zI eqD (zI jA (zJ 2) (zA (.int 2))) (zA (.int 1)))) (notT (testT (qN 3 gM (zB (zJ 0) (zB (zI ixD (zJ 1) (zA (.int 1))) (zB (zI jA (zI qR (zJ 2) (zA (.int 2))) (zA (.int 2))) zV))))))) (retG (zA (.bl false))) qJ)
 (qG (jL 3 (methV 0 [11] cR (qC 0) zV))
 (qG (ifG (orT (notT (testT (isiG "list" (zJ 3)))) (zS (zI neD (zJ 3) (zI ixD (zJ 1) (zA (.int 0)))))) (retG (zA (.bl false))) qJ)
 (retG (orV (zI eqD (zI jA (zJ 2) (zA (.int 2))) (zA (.int 1))) (qN 3 gM (zB (zJ 0) (zB (zI ixD (zJ 1) (zA (.int 1))) (zB (zI jA (zI qR (zJ 2) (zA (.int 2))) (zA (.int 2))) zV)))))))))
noncomputable def dH:List D->Option Ret:=runG iW 4
noncomputable def gW:FS:=(qG (jL 9 (zI jA (zI ixD (zJ 6) (zI xV (zA (.int 3)) (zJ 8))) (zA (.int 6))))
 (qG (ifG (zS (zI gtD (zJ 9) (zA (.int 2)))) (qG (jL 10 (zI jW (zJ 5) (zI ixD (mkL (qD (zB (un1 negD (zA (.int 1))) (zB (un1 negD (zA (.int 1))) (zB (zA (.int 1)) zV))))) (zI subD (zJ 9) (zA (.int 3))))))
 (qG (jL 11 (orV (zI ltD (zJ 10) (zA (.int 0))) (zI eqD (zJ 10) (callB lenD (zB (zJ 3) zV)))))
 (qG (ifNR (callR 3 4 cP (hereA (zB (qC 9) (zB (qC 11) zV)))) (retG (zA (.bl false))) qJ)
 (ifG (notT (testT (zJ 11))) (jL 5 (qC 10)) qJ)))) (qG (setR 3 (catR (mkL (sliA (zJ 3) noP (soP (zI jW (zJ 5) (zA (.int 1)))))) (callR 4 4 iF (hereA (zB (zI ixD (zJ 3) (zJ 5)) (zB (mkL (sliA (zJ 6) (soP (zI xV (zA (.int 3)) (zJ 8))) (soP (zI jW (zI xV (zA (.int 3)) (zJ 8)) (zA (.int 3)))))) (zB (qC 1) zV)))))))
 (augA 5 (zA (.int 1)))))
 (qG (ifG (notT (relTO 4 (testT (qN 3 dH (zB (zJ 4) (zB (zI ixD (zJ 3) (zJ 5)) (zB (zI qR (zI ixD (zJ 6) (zI xV (zA (.int 3)) (zJ 8))) (zA (.int 48))) zV))))))) (retG (zA (.bl false))) qJ)
 (appG 7 (mkT (qD (zB (mkL (relFO 4 (methF 0 [11] cR (qC 4) zV))) (zB (mkL (relFO 4 (methF 0 [11] cM (qC 4) zV))) (zB (zI ixD (zJ 3) (zJ 5)) zV)))))))))
noncomputable def nZ:FS:=(ifG (orT (zS (zI neD (zJ 12) (zI ixD (zJ 14) (zA (.int 0))))) (zS (zI neD (zJ 13) (mkL (srtDA (zI ixD (zJ 14) (zA (.int 1)))))))) (retG (zA (.bl false))) qJ)
noncomputable def uC:FS:=(qG (jL 1 (qN 2 fW (zB (zJ 0) (zB (zA (.int 0)) zV))))
 (qG (jL 2 (zI jA (zI qR (zJ 1) (zA (.int 8))) (zA (.int 7))))
 (qG (jL 3 (mkL (qD (zB (mkT (qD (zB (qN 1 rC (zB (mkL (sliA (zJ 0) (soP (zA (.int 1))) (soP (zI jW (zA (.int 1)) (zJ 2))))) zV)) (zB (zA (.dcf [] [])) zV)))) zV))))
 (qG (setB 4 (makeO 20 1 0 dF (zB (mkL (lisA (zI ixD (zI ixD (zJ 3) (zA (.int 0))) (zA (.int 0))))) zV)))
 (qG (jL 5 (zA (.int 0)))
 (qG (jL 6 (mkL (sliA (zJ 0) (soP (zI jW (zA (.int 1)) (zJ 2))) (soP (zI jW (zA (.int 241)) (zJ 2))))))
 (qG (setOG 7 (qD zV))
 (qG (forG (rng1 (zI qR (callB lenD (zB (zJ 6) zV)) (zA (.int 3)))) (qA 8) gW)
 (qG (fun ds=>(forG (viaA (qC 7) asLT) (tupG 3 (zU (qA 12) (zU (qA 13) (zU (qA 14) tgNil)))) nZ) (relS 7 ds))
 (retG (zA (.bl true))))))))))))
noncomputable def rA:List D->Option Ret:=runG uC 15
end
namespace K53
open PySem PyProof.Rows L2 FL
noncomputable def top(i:Nat):Stmt:=PySem.Challenge.pw_spanmap_k53_back_and_again.main.body.getD i (.Pass ⟨0,0,0,0⟩)
structure Glb(K:Frag)(mg:Str->Option Value):Prop where
 b_all:mg "all" = none
 b_bool:mg "bool" = none
 b_dict:mg "dict" = none
 b_int:mg "int" = none
 b_isinstance:mg "isinstance" = none
 b_len:mg "len" = none
 b_list:mg "list" = none
 b_max:mg "max" = none
 b_min:mg "min" = none
 b_range:mg "range" = none
 b_reversed:mg "reversed" = none
 b_sorted:mg "sorted" = none
 b_str:mg "str" = none
 c_LETTERS:∃t,mg "LETTERS" = some (.str "abcdefghijklmnopqrstuvwxyz" t)
 c_MOST_LETTERS:∃t,mg "MOST_LETTERS" = some (.int 8 t)
 c_MOST_SHARE:∃t,mg "MOST_SHARE" = some (.int 1000 t)
 fl_at:FldOk K "at" [(1,1),(2,1)]
 fl_bottom:FldOk K "bottom" [(4,2)]
 fl_earlier:FldOk K "earlier" [(11,2)]
 fl_far:FldOk K "far" [(3,1)]
 fl_fill:FldOk K "fill" [(0,1),(1,0),(2,0),(3,0),(4,0),(5,0),(6,0)]
 fl_later:FldOk K "later" [(11,3)]
 fl_many:FldOk K "many" [(1,2),(2,2)]
 fl_pieces:FldOk K "pieces" [(11,0)]
 fl_places:FldOk K "places" [(11,1)]
 fl_span:FldOk K "span" [(0,0)]
 fl_top:FldOk K "top" [(4,1)]
 nw_earlier:∀C,aP K aM (cQ 22)=some (some (.ref C))->Cls K C/\NoAttr K C "earlier"
 nw_later:∀C,aP K aM (cQ 23)=some (some (.ref C))->Cls K C/\NoAttr K C "later"
 nw_pieces:∀C,aP K aM (cQ 20)=some (some (.ref C))->Cls K C/\NoAttr K C "pieces"
 nw_places:∀C,aP K aM (cQ 21)=some (some (.ref C))->Cls K C/\NoAttr K C "places"
theorem pwI{X:Cx}{i:Int}{k:Nat}{p:Pos}: PVw X (.Constant (.int i) k p) (zA (.int i)):=PV.w qU
theorem pnI{X:Cx}{i:Int}{k:Nat}{p:Pos}: PVn X (.Constant (.int i) k p) (zA (.int i)):=PV.n qU
theorem pnV{X:Cx}(i:Nat){x:Str}{pos:Pos}(hN:X.N[i]?=some x:=by rfl)(hv:Vis X.env.scope x:=by first | exact Or.inl rfl | exact Or.inr (Or.inl rfl) | exact Or.inr (Or.inr rfl))(hd:(x==("__debug__" : Str))=false:=by decide)(hcd:(x==("__classdict__" : Str))=false:=by decide):PVn X (.Name x pos) (zJ i):=(zF i hN hv hd hcd).n
section
variable{P:aZ}{w:bK}{K:Frag}{mg:Str->Option Value}{base:Heap}
theorem CS:FnScope ["thing"] ["thing"] (zH (top 10)):={}
theorem NI{f:aA}{fd:aH}(Fn:Fun K "is_name" "is_name" (top 10) f fd)(T:Glb K mg): FnOk P w K mg base CX0 1 f fd ["thing"] (spF K 1 fU):=by
 have nd:=CS.nd;have nI0:(["sign"]:List Str).Nodup:=by decide +kernel
 refine qF (k:=0) (g:=oC) Fn CS (fun cdv A outer s H E hr=>?_) (fun ds r hl e=>zP e)
 exact(zC (qE (yB (PVn.t (PV.n (CW T.b_isinstance T.b_str (by decide +kernel) (zF 0))))) (zD (zM (PV.w wM))) zN)
  (zC (qE (PWv.t (wN (tN (PV.w (kG T.b_len (jP (zF 0) yQ))) pwI) (yV (RI (PV.w (kG T.b_len (jP (zF 0) yQ))) (PV.w (MB T.c_MOST_LETTERS)))))) (zD (zM (PV.w wM))) zN)
  (zD (zM (PV.w (pv_all rfl T.b_all (jP (PV.w (PVf.s (wJ (NY:=["sign"]) (mp:=[none]) (jZ (by kernel_rfl)) rfl (piv_str (zK 0)) (fun c=>(zY (i:=0) nI0)) (fun c=>BU) (fun c=>(OX UY os_inS (zF 0) (PV.w (ZM T.c_LETTERS)) rfl))))) yQ)))))))
theorem nW:FnScope ["self","pieces"] ["self","pieces"] (zH (aL (top 12) 0)):={}
theorem tS{f:aA}{fd:aH}(Fn:FunD K "__init__" "Line.__init__" (aL (top 12) 0) f fd #[.none])(T:Glb K mg): FnOk P w K mg base CX0 1 f fd ["self","pieces"] (spL K 1 dF):=by
 have nd:=nW.nd;refine aBt (k:=0) (n:=1) (g:=gY) Fn nW (fun cdv A outer s H E hr=>?_) (fun _ _ _ _ e=>e)
 exact(zC (xK T.nw_pieces (qL 0) (HH (tM (vD (pnV 1) (PV.n qK)) (PVf.s (jB zQ)) (PVf.s (vT T.b_list (zF 1))))))
  (zC (xK T.nw_places (qL 0) (HH MC))
  (zC (xK T.nw_earlier (qL 0) (ZI JT))
  (zD (xK T.nw_later (qL 0) (ZI JT))))))
theorem tK:FnScope ["self","pieces","places"] ["self","pieces","places"] (zH (aL (top 12) 3)):={}
theorem GC{f:aA}{fd:aH}(Fn:Fun K "step" "Line.step" (aL (top 12) 3) f fd)(T:Glb K mg): FnOk P w K mg base CX0 1 f fd ["self","pieces","places"] (spL K 2 cY):=by
 have nd:=tK.nd;refine vA (k:=0) (n:=2) (g:=mT) Fn tK (fun cdv A outer s H E hr=>?_) (fun _ _ _ _ e=>e)
 exact(zC (DC (yF T.fl_earlier (qL 0)) (qQ (zE (yP (yF T.fl_pieces (qL 0))) (zE (yP (yF T.fl_places (qL 0))) zQ))))
  (zC (xF T.fl_later (qL 0) (ZI JT))
  (zC (xF T.fl_pieces (qL 0) (HH (zK 1)))
  (zD (xF T.fl_places (qL 0) (HH (zK 2)))))))
theorem RA:FnScope ["rows","pieces","low","behind","value"] ["rows"] (zH (top 20)):={}
theorem aBv{f:aA}{fd:aH}(Fn:Fun K "knit" "knit" (top 20) f fd)(T:Glb K mg): FnOk P w K mg base CX0 1 f fd ["rows"] (spF K 1 eX):=by
 have nd:=RA.nd;refine qF (k:=0) (g:=uE) Fn RA (fun cdv A outer s H E hr=>?_) (fun ds r hl e=>zP e)
 exact(zC (wF (i:=1) nd (jB zQ))
  (zC (wB PassesOwn.never rfl (yW (zK 0)) (yG (n:=3) rfl (zZ (zY (i:=2) nd) (zZ (zY (i:=3) nd) (zZ (zY (i:=4) nd) jQ)))) (zC (qE (vD (pnV 4) (PV.n qK)) (zD JN) zN)
  (zD (qE (PWv.t (xG (PVn.t (pnV 1)) (xG (jK hr (PV.n (qM (PV.w (qM (zF 1) (PV.w (jV qU)))) pwI)) (pnV 2)) (xU (jK hr (PV.n (qM (PV.w (qM (zF 1) (PV.w (jV qU)))) pwI)) (pnV 4)))))) (zD (JM (i:=1) (qQ (zE (qM (PV.w (qM (zF 1) (PV.w (jV qU)))) pwI) (zE (zK 3) (zE (zK 4) zQ)))) (jV qU))) (zD (vZ (i:=1) (qQ (zE (zK 2) (zE (zK 3) (zE (zK 4) zQ))))))))))
  (zD (vL 1))))
theorem sV:FnScope ["one","other"] ["one","other"] (zH (top 17)):={}
theorem FI{f:aA}{fd:aH}(Fn:Fun K "later_low" "later_low" (top 17) f fd)(T:Glb K mg): FnOk P w K mg base CX0 1 f fd ["one","other"] (spF K 2 gI):=by
 have nd:=sV.nd;refine qF (k:=0) (g:=mI) Fn sV (fun cdv A outer s H E hr=>?_) (fun ds r hl e=>zP e)
 exact(zC (qE (vD (pnV 0) (PV.n qK)) (zD (zM (zF 1))) zN)
  (zC (qE (vD (pnV 1) (PV.n qK)) (zD (zM (zF 0))) zN)
  (zD (zM (PV.w (pv_max2 rfl T.b_max (jP (zF 0) (jP (zF 1) yQ))))))))
theorem nD:FnScope ["one","other"] ["one","other"] (zH (top 18)):={}
theorem sL{f:aA}{fd:aH}(Fn:Fun K "earlier_behind" "earlier_behind" (top 18) f fd)(T:Glb K mg): FnOk P w K mg base CX0 1 f fd ["one","other"] (spF K 2 eC):=by
 have nd:=nD.nd;refine qF (k:=0) (g:=gP) Fn nD (fun cdv A outer s H E hr=>?_) (fun ds r hl e=>zP e)
 exact(zC (qE (vD (pnV 0) (PV.n qK)) (zD (zM (zF 1))) zN)
  (zC (qE (vD (pnV 1) (PV.n qK)) (zD (zM (zF 0))) zN)
  (zD (zM (PV.w (pv_min2 rfl T.b_min (jP (zF 0) (jP (zF 1) yQ))))))))
theorem rO:FnScope ["behind","low"] ["behind","low"] (zH (top 16)):={}
theorem DX{f:aA}{fd:aH}(Fn:Fun K "ends_ahead" "ends_ahead" (top 16) f fd)(T:Glb K mg): FnOk P w K mg base CX0 1 f fd ["behind","low"] (spF K 2 fX):=by
 have nd:=rO.nd;refine qF (k:=0) (g:=lH) Fn rO (fun cdv A outer s H E hr=>?_) (fun ds r hl e=>zP e);exact(zD (zM (PV.w (CY (MA (pnV 0) (PV.n qK)) (CY (MA (pnV 1) (PV.n qK)) (vG (pv_le (zF 0) (zF 1))))))))
theorem QZ:FnScope ["one","other","low","behind"] ["one","other"] (zH (top 15)):={}
theorem aBu{f:aA}{fd:aH}(Fn:Fun K "meet" "meet" (top 15) f fd)(T:Glb K mg)(C_later_low:Cal P w K mg base "later_low" 1 2 gI)(C_earlier_behind:Cal P w K mg base "earlier_behind" 1 2 eC)(C_ends_ahead:Cal P w K mg base "ends_ahead" 1 2 fX):FnOk P w K mg base CX0 2 f fd ["one","other"] (spF K 2 mE):=by
 have nd:=QZ.nd;refine qF (k:=1) (g:=uD) Fn QZ (fun cdv A outer s H E hr=>?_) (fun ds r hl e=>zP e)
 exact(zC (qB (i:=2) nd (zR C_later_low hr (zG (PV.n (qM (zF 0) pwI)) (zG (PV.n (qM (zF 1) pwI)) zO))))
  (zC (qB (i:=3) nd (zR C_earlier_behind hr (zG (PV.n (qM (zF 0) pwI)) (zG (PV.n (qM (zF 1) pwI)) zO))))
  (zC (qE (PVn.t (PV.n (zR C_ends_ahead hr (zG (pnV 3) (zG (pnV 2) zO))))) (zD (zM (PV.w qK))) zN)
  (zD (zM (PV.w (qQ (zE (zK 2) (zE (zK 3) zQ)))))))))
theorem AE:FnScope ["pieces","within","parts","low","behind","value","common"] ["pieces","within"] (zH (top 21)):={}
theorem KH{f:aA}{fd:aH}(Fn:Fun K "parts_in" "parts_in" (top 21) f fd)(T:Glb K mg)(C_meet:Cal P w K mg base "meet" 2 2 mE):FnOk P w K mg base CX0 3 f fd ["pieces","within"] (spF K 2 cL):=by
 have nd:=AE.nd;refine qF (k:=2) (g:=nF) Fn AE (fun cdv A outer s H E hr=>?_) (fun ds r hl e=>zP e)
 exact(zC (wF (i:=2) nd (jB zQ))
  (zC (wB PassesOwn.never rfl (yW (zK 0)) (yG (n:=3) rfl (zZ (zY (i:=3) nd) (zZ (zY (i:=4) nd) (zZ (zY (i:=5) nd) jQ)))) (zC (qB (i:=6) nd (zR C_meet hr (zG (PV.n (qQ (zE (zK 3) (zE (zK 4) zQ)))) (zG (pnV 1) zO))))
  (zD (qE (xS (pnV 6) (PV.n qK)) (zD (vZ (i:=2) (qQ (zE (qM (zF 6) pwI) (zE (qM (zF 6) pwI) (zE (zK 5) zQ)))))) zN))))
  (zD (vL 2))))
theorem sU:FnScope ["pieces","over","value","rows"] ["pieces","over","value"] (zH (top 22)):={}
theorem FH{f:aA}{fd:aH}(Fn:Fun K "rows_over" "rows_over" (top 22) f fd)(T:Glb K mg)(C_parts_in:Cal P w K mg base "parts_in" 3 2 cL):FnOk P w K mg base CX0 4 f fd ["pieces","over","value"] (spF K 3 fK):=by
 have nd:=sU.nd;refine qF (k:=3) (g:=mH) Fn sU (fun cdv A outer s H E hr=>?_) (fun ds r hl e=>zP e)
 exact(zC (wF (i:=3) nd (jB zQ))
  (zC (qE (xS (PV.n (qM (zF 1) pwI)) (PV.n qK)) (zD (RL (i:=3) (yD C_parts_in hr (zG (pnV 0) (zG (PV.n (qQ (zE qK (zE (qM (zF 1) pwI) zQ)))) zO))))) zN)
  (zC (vZ (i:=3) (qQ (zE (qM (zF 1) pwI) (zE (qM (zF 1) pwI) (zE (zK 2) zQ)))))
  (zC (qE (xS (PV.n (qM (zF 1) pwI)) (PV.n qK)) (zD (RL (i:=3) (yD C_parts_in hr (zG (pnV 0) (zG (PV.n (qQ (zE (qM (zF 1) pwI) (zE qK zQ)))) zO))))) zN)
  (zD (vL 3))))))
theorem ZA:FnScope ["pieces","span","value"] ["pieces","span","value"] (zH (top 24)):={}
theorem fok_put{f:aA}{fd:aH}(Fn:Fun K "put" "put" (top 24) f fd)(T:Glb K mg)(C_knit:Cal P w K mg base "knit" 1 1 eX)(C_rows_over:Cal P w K mg base "rows_over" 4 3 fK):FnOk P w K mg base CX0 5 f fd ["pieces","span","value"] (spF K 3 pF):=by
 have nd:=ZA.nd;refine qF (k:=4) (g:=CB) Fn ZA (fun cdv A outer s H E hr=>?_) (fun ds r hl e=>zP e);exact(zD (yC (yD C_knit hr (zG (PV.n (zR C_rows_over hr (zG (pnV 0) (zG (pnV 1) (zG (pnV 2) zO))))) zO))))
theorem AJ:FnScope ["self","pieces"] ["self","pieces"] (zH (aL (top 28) 3)):={}
theorem KR{f:aA}{fd:aH}(Fn:Fun K "done" "Put.done" (aL (top 28) 3) f fd)(T:Glb K mg)(C_put:Cal P w K mg base "put" 5 3 pF):FnOk P w K mg base CX0 6 f fd ["self","pieces"] (spF K 2 nK):=by
 have nd:=AJ.nd;refine qF (k:=5) (g:=nJ) Fn AJ (fun cdv A outer s H E hr=>?_) (fun ds r hl e=>zP e);exact(zD (yC (yD C_put hr (zG (pnV 1) (zG (PV.n (qY T.fl_span (zK 0))) (zG (PV.n (qY T.fl_fill (zK 0))) zO))))))
theorem CT:FnScope ["side","far"] ["side","far"] (zH (top 39)):={}
theorem NJ{f:aA}{fd:aH}(Fn:Fun K "farther" "farther" (top 39) f fd)(T:Glb K mg): FnOk P w K mg base CX0 1 f fd ["side","far"] (spF K 2 fA):=by
 have nd:=CT.nd;refine qF (k:=0) (g:=oE) Fn CT (fun cdv A outer s H E hr=>?_) (fun ds r hl e=>zP e);exact(zD (zM (PV.w (tM (vD (pnV 0) (PV.n qK)) qK (qI (zF 0) (zF 1))))))
theorem CQ:FnScope ["pieces","far"] ["pieces","far"] (zH (top 38)):={}
theorem NH{f:aA}{fd:aH}(Fn:Fun K "shifted" "shifted" (top 38) f fd)(T:Glb K mg)(C_farther:Cal P w K mg base "farther" 1 2 fA):FnOk P w K mg base CX0 2 f fd ["pieces","far"] (spF K 2 eF):=by
 have nd:=CQ.nd;have nI0:(["low","behind","value","far"]:List Str).Nodup:=by decide +kernel
 refine qF (k:=1) (g:=oB) Fn CQ (fun cdv A outer s H E hr=>?_) (fun ds r hl e=>zP e);exact(zD (yC (wJ (NY:=["low","behind","value","far"]) (mp:=[none,none,none,some 1]) (jZ (by kernel_rfl)) rfl (yW (zK 0)) (fun c=>(yG (n:=3) rfl (zZ (zY (i:=0) nI0) (zZ (zY (i:=1) nI0) (zZ (zY (i:=2) nI0) jQ))))) (fun c=>BU) (fun c=>(qQ (zE (zR C_farther hr (zG (pnV 0) (zG (pnV 3) zO))) (zE (zR C_farther hr (zG (pnV 1) (zG (pnV 3) zO))) (zE (zK 2) zQ))))))))
theorem rW:FnScope ["self","pieces","stay","go"] ["self","pieces"] (zH (aL (top 29) 3)):={}
theorem ED{f:aA}{fd:aH}(Fn:Fun K "done" "Widen.done" (aL (top 29) 3) f fd)(T:Glb K mg)(C_parts_in:Cal P w K mg base "parts_in" 3 2 cL)(C_knit:Cal P w K mg base "knit" 1 1 eX)(C_shifted:Cal P w K mg base "shifted" 2 2 eF):FnOk P w K mg base CX0 4 f fd ["self","pieces"] (spF K 2 lP):=by
 have nd:=rW.nd;refine qF (k:=3) (g:=lN) Fn rW (fun cdv A outer s H E hr=>?_) (fun ds r hl e=>zP e)
 exact(zC (qB (i:=2) nd (zR C_parts_in hr (zG (pnV 1) (zG (PV.n (qQ (zE qK (zE (qY T.fl_at (zK 0)) zQ)))) zO))))
  (zC (qB (i:=3) nd (zR C_parts_in hr (zG (pnV 1) (zG (PV.n (qQ (zE (qY T.fl_at (zK 0)) (zE qK zQ)))) zO))))
  (zD (yC (yD C_knit hr (zG (PV.n (PVf.s (JI (zF 2) (PV.w (zR C_shifted hr (zG (pnV 3) (zG (PV.n (qY T.fl_many (zK 0))) zO))))))) zO))))))
theorem pR:FnScope ["self","pieces","stay","come"] ["self","pieces"] (zH (aL (top 30) 3)):={}
theorem AW{f:aA}{fd:aH}(Fn:Fun K "done" "Narrow.done" (aL (top 30) 3) f fd)(T:Glb K mg)(C_parts_in:Cal P w K mg base "parts_in" 3 2 cL)(C_knit:Cal P w K mg base "knit" 1 1 eX)(C_shifted:Cal P w K mg base "shifted" 2 2 eF):FnOk P w K mg base CX0 4 f fd ["self","pieces"] (spF K 2 kM):=by
 have nd:=pR.nd;refine qF (k:=3) (g:=kL) Fn pR (fun cdv A outer s H E hr=>?_) (fun ds r hl e=>zP e)
 exact(zC (qB (i:=2) nd (zR C_parts_in hr (zG (pnV 1) (zG (PV.n (qQ (zE qK (zE (qY T.fl_at (zK 0)) zQ)))) zO))))
  (zC (qB (i:=3) nd (zR C_parts_in hr (zG (pnV 1) (zG (PV.n (qQ (zE (qI (PV.w (qY T.fl_at (zK 0))) (PV.w (qY T.fl_many (zK 0)))) (zE qK zQ)))) zO))))
  (zD (yC (yD C_knit hr (zG (PV.n (PVf.s (JI (zF 2) (PV.w (zR C_shifted hr (zG (pnV 3) (zG (PV.n (jV (qY T.fl_many (zK 0)))) zO))))))) zO))))))
theorem tH:FnScope ["self","pieces"] ["self","pieces"] (zH (aL (top 31) 3)):={}
theorem FZ{f:aA}{fd:aH}(Fn:Fun K "done" "Move.done" (aL (top 31) 3) f fd)(T:Glb K mg)(C_shifted:Cal P w K mg base "shifted" 2 2 eF):FnOk P w K mg base CX0 3 f fd ["self","pieces"] (spF K 2 mO):=by
 have nd:=tH.nd;refine qF (k:=2) (g:=mM) Fn tH (fun cdv A outer s H E hr=>?_) (fun ds r hl e=>zP e);exact(zD (yC (yD C_shifted hr (zG (pnV 1) (zG (PV.n (qY T.fl_far (zK 0))) zO)))))
theorem iV:FnScope ["self","place"] ["self","place"] (zH (aL (top 32) 4)):={}
theorem oR{f:aA}{fd:aH}(Fn:Fun K "least_from" "Stretch.least_from" (aL (top 32) 4) f fd)(T:Glb K mg): FnOk P w K mg base CX0 1 f fd ["self","place"] (spF K 2 cU):=by
 have nd:=iV.nd;refine qF (k:=0) (g:=dY) Fn iV (fun cdv A outer s H E hr=>?_) (fun ds r hl e=>zP e);exact(zD (zM (PV.w (tM (vD (pnV 1) (PV.n qK)) qK (jV (qO (PV.w (yA (PV.w (jV (zK 1))) (PV.w (qY T.fl_top (zK 0))))) (PV.w (qY T.fl_bottom (zK 0)))))))))
theorem oW:FnScope ["self","pieces","rows"] ["self","pieces"] (zH (aL (top 32) 3)):={}
theorem uQ{f:aA}{fd:aH}(Fn:Fun K "done" "Stretch.done" (aL (top 32) 3) f fd)(T:Glb K mg)(C_knit:Cal P w K mg base "knit" 1 1 eX)(M_least_from:MCal P w K mg base "least_from" 1 1 [4] bP):FnOk P w K mg base CX0 2 f fd ["self","pieces"] (spF K 2 iJ):=by
 have nd:=oW.nd;have nI0:(["low","behind","value","self"]:List Str).Nodup:=by decide +kernel
 have nI1:(["row"]:List Str).Nodup:=by decide +kernel
 refine qF (k:=1) (g:=iI) Fn oW (fun cdv A outer s H E hr=>?_) (fun ds r hl e=>zP e)
 exact(zC (US (i:=2) nd (NY:=["low","behind","value","self"]) (mp:=[none,none,none,some 0]) (jZ (by kernel_rfl)) rfl (yW (zK 1)) (fun c=>(yG (n:=3) rfl (zZ (zY (i:=0) nI0) (zZ (zY (i:=1) nI0) (zZ (zY (i:=2) nI0) jQ))))) (fun c=>BU) (fun c=>(qQ (zE (xH M_least_from hr (zK 3) (zG (pnV 0) zO)) (zE (xH M_least_from hr (zK 3) (zG (pnV 1) zO)) (zE (zK 2) zQ))))))
  (zD (yC (yD C_knit hr (zG (PV.n (PVf.s (wJ (NY:=["row"]) (mp:=[none]) (jZ (by kernel_rfl)) rfl (yW (zK 2)) (fun c=>(zY (i:=0) nI1)) (fun c=>(JR (PWv.t (wN (vD (PV.n (qM (zF 0) pwI)) (PV.n qK)) (yV (sA hr (PV.n (qM (zF 0) pwI)) (PV.n (qM (zF 0) pwI)))))))) (fun c=>(zK 0))))) zO)))))
theorem AF:FnScope ["side"] ["side"] (zH (top 40)):={}
theorem KJ{f:aA}{fd:aH}(Fn:Fun K "mirrored" "mirrored" (top 40) f fd)(T:Glb K mg): FnOk P w K mg base CX0 1 f fd ["side"] (spF K 1 eN):=by
 have nd:=AF.nd;refine qF (k:=0) (g:=nG) Fn AF (fun cdv A outer s H E hr=>?_) (fun ds r hl e=>zP e);exact(zD (zM (PV.w (tM (vD (pnV 0) (PV.n qK)) qK (jT pwI (zF 0))))))
theorem pV:FnScope ["self","pieces"] ["self","pieces"] (zH (aL (top 33) 2)):={}
theorem AZ{f:aA}{fd:aH}(Fn:Fun K "done" "Mirror.done" (aL (top 33) 2) f fd)(T:Glb K mg)(C_mirrored:Cal P w K mg base "mirrored" 1 1 eN):FnOk P w K mg base CX0 2 f fd ["self","pieces"] (spF K 2 kS):=by
 have nd:=pV.nd;have nI0:(["low","behind","value"]:List Str).Nodup:=by decide +kernel
 refine qF (k:=1) (g:=kR) Fn pV (fun cdv A outer s H E hr=>?_) (fun ds r hl e=>zP e);exact(zD (yC (wJ (NY:=["low","behind","value"]) (mp:=[none,none,none]) (jZ (by kernel_rfl)) rfl (piv_rev trivial T.b_reversed (zK 1)) (fun c=>(yG (n:=3) rfl (zZ (zY (i:=0) nI0) (zZ (zY (i:=1) nI0) (zZ (zY (i:=2) nI0) jQ))))) (fun c=>BU) (fun c=>(qQ (zE (zR C_mirrored hr (zG (pnV 1) zO)) (zE (zR C_mirrored hr (zG (pnV 0) zO)) (zE (zK 2) zQ))))))))
theorem AI:FnScope ["self","place"] ["self","place"] (zH (aL (top 28) 2)):={}
theorem KQ{f:aA}{fd:aH}(Fn:Fun K "went" "Put.went" (aL (top 28) 2) f fd)(T:Glb K mg): FnOk P w K mg base CX0 1 f fd ["self","place"] (spF K 2 nI):=by
 have nd:=AI.nd;refine qF (k:=0) (g:=nH) Fn AI (fun cdv A outer s H E hr=>?_) (fun ds r hl e=>zP e);exact(zD (zM (zF 1)))
theorem HB:FnScope ["place","at","many"] ["place","at","many"] (zH (top 36)):={}
theorem QC{f:aA}{fd:aH}(Fn:Fun K "opened" "opened" (top 36) f fd)(T:Glb K mg): FnOk P w K mg base CX0 1 f fd ["place","at","many"] (spF K 3 gH):=by
 have nd:=HB.nd;refine qF (k:=0) (g:=pG) Fn HB (fun cdv A outer s H E hr=>?_) (fun ds r hl e=>zP e);exact(zD (zM (PV.w (tM (tN (zF 0) (zF 1)) (zK 0) (qI (zF 0) (zF 2))))))
theorem rV:FnScope ["self","place"] ["self","place"] (zH (aL (top 29) 2)):={}
theorem EC{f:aA}{fd:aH}(Fn:Fun K "went" "Widen.went" (aL (top 29) 2) f fd)(T:Glb K mg)(C_opened:Cal P w K mg base "opened" 1 3 gH):FnOk P w K mg base CX0 2 f fd ["self","place"] (spF K 2 lM):=by
 have nd:=rV.nd;refine qF (k:=1) (g:=lJ) Fn rV (fun cdv A outer s H E hr=>?_) (fun ds r hl e=>zP e);exact(zD (zM (PV.w (zR C_opened hr (zG (pnV 1) (zG (PV.n (qY T.fl_at (zK 0))) (zG (PV.n (qY T.fl_many (zK 0))) zO)))))))
theorem sT:FnScope ["place","at","many"] ["place","at","many"] (zH (top 37)):={}
theorem FG{f:aA}{fd:aH}(Fn:Fun K "taken_out" "taken_out" (top 37) f fd)(T:Glb K mg): FnOk P w K mg base CX0 1 f fd ["place","at","many"] (spF K 3 eS):=by
 have nd:=sT.nd;refine qF (k:=0) (g:=mG) Fn sT (fun cdv A outer s H E hr=>?_) (fun ds r hl e=>zP e)
 exact(zC (qE (tN (zF 0) (zF 1)) (zD (zM (zF 0))) zN)
  (zD (zM (PV.w (tM (tN (zF 0) (PV.w (qI (zF 1) (zF 2)))) qK (jT (zF 0) (zF 2)))))))
theorem pQ:FnScope ["self","place"] ["self","place"] (zH (aL (top 30) 2)):={}
theorem AV{f:aA}{fd:aH}(Fn:Fun K "went" "Narrow.went" (aL (top 30) 2) f fd)(T:Glb K mg)(C_taken_out:Cal P w K mg base "taken_out" 1 3 eS):FnOk P w K mg base CX0 2 f fd ["self","place"] (spF K 2 iZ):=by
 have nd:=pQ.nd;refine qF (k:=1) (g:=iY) Fn pQ (fun cdv A outer s H E hr=>?_) (fun ds r hl e=>zP e);exact(zD (zM (PV.w (zR C_taken_out hr (zG (pnV 1) (zG (PV.n (qY T.fl_at (zK 0))) (zG (PV.n (qY T.fl_many (zK 0))) zO)))))))
theorem tG:FnScope ["self","place"] ["self","place"] (zH (aL (top 31) 2)):={}
theorem FY{f:aA}{fd:aH}(Fn:Fun K "went" "Move.went" (aL (top 31) 2) f fd)(T:Glb K mg): FnOk P w K mg base CX0 1 f fd ["self","place"] (spF K 2 mL):=by
 have nd:=tG.nd;refine qF (k:=0) (g:=mK) Fn tG (fun cdv A outer s H E hr=>?_) (fun ds r hl e=>zP e);exact(zD (zM (PV.w (qI (zF 1) (PV.w (qY T.fl_far (zK 0)))))))
theorem ZC:FnScope ["one","place"] ["one","place"] (zH (top 14)):={}
theorem fok_has{f:aA}{fd:aH}(Fn:Fun K "has" "has" (top 14) f fd)(T:Glb K mg): FnOk P w K mg base CX0 1 f fd ["one","place"] (spF K 2 pH):=by
 have nd:=ZC.nd;refine qF (k:=0) (g:=CC) Fn ZC (fun cdv A outer s H E hr=>?_) (fun ds r hl e=>zP e);exact(zD (zM (PV.w (CY (RF (ZL (PV.n (qM (zF 0) pwI)) (PV.n qK)) (vG (pv_le (PV.w (qM (zF 0) pwI)) (zF 1)))) (vG (RF (ZL (PV.n (qM (zF 0) pwI)) (PV.n qK)) (vG (pv_lt (zF 1) (PV.w (qM (zF 0) pwI))))))))))
theorem AK:FnScope ["self","place"] ["self","place"] (zH (aL (top 28) 1)):={}
theorem KU{f:aA}{fd:aH}(Fn:Fun K "came" "Put.came" (aL (top 28) 1) f fd)(T:Glb K mg)(C_has:Cal P w K mg base "has" 1 2 pH):FnOk P w K mg base CX0 2 f fd ["self","place"] (spF K 2 nM):=by
 have nd:=AK.nd;refine qF (k:=1) (g:=nL) Fn AK (fun cdv A outer s H E hr=>?_) (fun ds r hl e=>zP e);exact(zD (zM (PV.w (tM (PVn.t (PV.n (zR C_has hr (zG (PV.n (qY T.fl_span (zK 0))) (zG (pnV 1) zO))))) qK (zK 1)))))
theorem rX:FnScope ["self","place"] ["self","place"] (zH (aL (top 29) 1)):={}
theorem EE{f:aA}{fd:aH}(Fn:Fun K "came" "Widen.came" (aL (top 29) 1) f fd)(T:Glb K mg)(C_taken_out:Cal P w K mg base "taken_out" 1 3 eS):FnOk P w K mg base CX0 2 f fd ["self","place"] (spF K 2 lR):=by
 have nd:=rX.nd;refine qF (k:=1) (g:=lQ) Fn rX (fun cdv A outer s H E hr=>?_) (fun ds r hl e=>zP e);exact(zD (zM (PV.w (zR C_taken_out hr (zG (pnV 1) (zG (PV.n (qY T.fl_at (zK 0))) (zG (PV.n (qY T.fl_many (zK 0))) zO)))))))
theorem pS:FnScope ["self","place"] ["self","place"] (zH (aL (top 30) 1)):={}
theorem AX{f:aA}{fd:aH}(Fn:Fun K "came" "Narrow.came" (aL (top 30) 1) f fd)(T:Glb K mg)(C_opened:Cal P w K mg base "opened" 1 3 gH):FnOk P w K mg base CX0 2 f fd ["self","place"] (spF K 2 kO):=by
 have nd:=pS.nd;refine qF (k:=1) (g:=kN) Fn pS (fun cdv A outer s H E hr=>?_) (fun ds r hl e=>zP e);exact(zD (zM (PV.w (zR C_opened hr (zG (pnV 1) (zG (PV.n (qY T.fl_at (zK 0))) (zG (PV.n (qY T.fl_many (zK 0))) zO)))))))
theorem tI:FnScope ["self","place"] ["self","place"] (zH (aL (top 31) 1)):={}
theorem GA{f:aA}{fd:aH}(Fn:Fun K "came" "Move.came" (aL (top 31) 1) f fd)(T:Glb K mg): FnOk P w K mg base CX0 1 f fd ["self","place"] (spF K 2 mQ):=by
 have nd:=tI.nd;refine qF (k:=0) (g:=mP) Fn tI (fun cdv A outer s H E hr=>?_) (fun ds r hl e=>zP e);exact(zD (zM (PV.w (jT (zF 1) (PV.w (qY T.fl_far (zK 0)))))))
theorem oX:FnScope ["self","place"] ["self","place"] (zH (aL (top 32) 1)):={}
theorem uR{f:aA}{fd:aH}(Fn:Fun K "came" "Stretch.came" (aL (top 32) 1) f fd)(T:Glb K mg): FnOk P w K mg base CX0 1 f fd ["self","place"] (spF K 2 gF):=by
 have nd:=oX.nd;refine qF (k:=0) (g:=iK) Fn oX (fun cdv A outer s H E hr=>?_) (fun ds r hl e=>zP e);exact(zD (zM (PV.w (qO (PV.w (yA (zF 1) (PV.w (qY T.fl_bottom (zK 0))))) (PV.w (qY T.fl_top (zK 0)))))))
theorem pW:FnScope ["self","place"] ["self","place"] (zH (aL (top 33) 0)):={}
theorem BA{f:aA}{fd:aH}(Fn:Fun K "came" "Mirror.came" (aL (top 33) 0) f fd)(T:Glb K mg): FnOk P w K mg base CX0 1 f fd ["self","place"] (spF K 2 kU):=by
 have nd:=pW.nd;refine qF (k:=0) (g:=kT) Fn pW (fun cdv A outer s H E hr=>?_) (fun ds r hl e=>zP e);exact(zD (zM (PV.w (jV (zK 1)))))
theorem oV:FnScope ["self","place","least"] ["self","place"] (zH (aL (top 32) 2)):={}
theorem uP{f:aA}{fd:aH}(Fn:Fun K "went" "Stretch.went" (aL (top 32) 2) f fd)(T:Glb K mg)(M_least_from:MCal P w K mg base "least_from" 1 1 [4] bP)(M_came:MCal P w K mg base "came" 2 1 [0,1,2,3,4,5] cS):FnOk P w K mg base CX0 3 f fd ["self","place"] (spF K 2 iH):=by
 have nd:=oV.nd;refine qF (k:=2) (g:=iG) Fn oV (fun cdv A outer s H E hr=>?_) (fun ds r hl e=>zP e)
 exact(zC (qB (i:=2) nd (xH M_least_from hr (zK 0) (zG (pnV 1) zO)))
  (zD (zM (PV.w (tM (jK hr (PV.n (xH M_came hr (zK 0) (zG (pnV 2) zO))) (pnV 1)) (zK 2) qK)))))
theorem pU:FnScope ["self","place"] ["self","place"] (zH (aL (top 33) 1)):={}
theorem AY{f:aA}{fd:aH}(Fn:Fun K "went" "Mirror.went" (aL (top 33) 1) f fd)(T:Glb K mg): FnOk P w K mg base CX0 1 f fd ["self","place"] (spF K 2 kQ):=by
 have nd:=pU.nd;refine qF (k:=0) (g:=kP) Fn pU (fun cdv A outer s H E hr=>?_) (fun ds r hl e=>zP e);exact(zD (zM (PV.w (jV (zK 1)))))
theorem CU:FnScope ["self","deed","places","name","place"] ["self","deed"] (zH (aL (top 12) 1)):={}
theorem NK{f:aA}{fd:aH}(Fn:Fun K "do" "Line.do" (aL (top 12) 1) f fd)(T:Glb K mg)(M_step:LCal P w K mg base "step" 1 2 [11] (fun _=>cY))(M_done:MCal P w K mg base "done" 6 1 [0,1,2,3,4,5] bW)(M_went:MCal P w K mg base "went" 3 1 [0,1,2,3,4,5] cI):FnOk P w K mg base CX0 7 f fd ["self","deed"] (spL K 1 fV):=by
 have nd:=CU.nd;refine vA (k:=6) (n:=1) (g:=mB) Fn CU (fun cdv A outer s H E hr=>?_) (fun _ _ _ _ e=>e)
 exact(zC (wG (i:=2) nd LW)
  (zC (MH PassesOwn.never rfl (HR (yP (yF T.fl_places (qL 0)))) (yG (n:=2) rfl (zZ (zY (i:=3) nd) (zZ (zY (i:=4) nd) jQ))) (zD (vW hr (qL 2) (zK 3) (tM (vD (pnV 4) (PV.n qK)) qK (xH M_went hr (zK 1) (zG (pnV 4) zO))))))
  (zD (MG (i:=2) (vS M_step hr (qL 0) (zE (xH M_done hr (zK 1) (zG (PV.n (yP (yF T.fl_pieces (qL 0)))) zO)) (zE (zK 2) zQ)))))))
theorem tL:FnScope ["self","name","place","places"] ["self","name","place"] (zH (aL (top 12) 2)):={}
theorem GD{f:aA}{fd:aH}(Fn:Fun K "mark" "Line.mark" (aL (top 12) 2) f fd)(T:Glb K mg)(C_is_name:Cal P w K mg base "is_name" 1 1 fU)(M_step:LCal P w K mg base "step" 1 2 [11] (fun _=>cY)):FnOk P w K mg base CX0 2 f fd ["self","name","place"] (spL K 2 eT):=by
 have nd:=tL.nd;refine vA (k:=1) (n:=2) (g:=iM) Fn tL (fun cdv A outer s H E hr=>?_) (fun _ _ _ _ e=>e)
 exact(zC (qE (yB (PVn.t (PV.n (zR C_is_name hr (zG (pnV 1) zO))))) (zD yT) zN)
  (zC (wG (i:=3) nd (HJ T.b_dict (yP (yF T.fl_places (qL 0)))))
  (zC (vW hr (qL 3) (zK 1) (zK 2))
  (zD (MG (i:=3) (vS M_step hr (qL 0) (zE (yP (yF T.fl_pieces (qL 0))) (zE (zK 3) zQ))))))))
theorem pX:FnScope ["self","state"] ["self","state"] (zH (aL (top 12) 6)):={}
theorem BC{f:aA}{fd:aH}(Fn:Fun K "become" "Line.become" (aL (top 12) 6) f fd)(T:Glb K mg): FnOk P w K mg base CX0 1 f fd ["self","state"] (spL K 1 bX):=by
 have nd:=pX.nd;refine vA (k:=0) (n:=1) (g:=kW) Fn pX (fun cdv A outer s H E hr=>?_) (fun _ _ _ _ e=>e)
 exact(zC (xF T.fl_pieces (qL 0) (HH (qM (zF 1) pwI)))
  (zD (xF T.fl_places (qL 0) (HH (qM (zF 1) pwI)))))
theorem mD:FnScope ["self"] ["self"] (zH (aL (top 12) 4)):={}
theorem GF{f:aA}{fd:aH}(Fn:Fun K "back" "Line.back" (aL (top 12) 4) f fd)(T:Glb K mg)(M_become:LCal P w K mg base "become" 1 1 [11] (fun _=>bX)):FnOk P w K mg base CX0 2 f fd ["self"] (spL K 0 eU):=by
 have nd:=mD.nd;refine vA (k:=1) (n:=0) (g:=iN) Fn mD (fun cdv A outer s H E hr=>?_) (fun _ _ _ _ e=>e)
 exact(zC (qE (yB (PVn.t (LX (yF T.fl_earlier (qL 0))))) (zD yT) zN)
  (zC (DC (yF T.fl_later (qL 0)) (qQ (zE (yP (yF T.fl_pieces (qL 0))) (zE (yP (yF T.fl_places (qL 0))) zQ))))
  (zD (HP (i:=0) M_become hr (RD (yF T.fl_earlier (qL 0)))))))
theorem uU{f XC:aA}(T:Glb K mg)(M_become:LCal P w K mg base "become" 1 1 [11] (fun _=>bX))(R:XR K mg 8 XC)(cdv:Value)(A:bO)(outer:List Env)(s:aC)(H:Hp)(E:XK)(hr:Room 1 (A.deeper (gD "Line.back" (zH (aL (top 12) 4)) s.heap.objs.size f cdv))) :
  PSsy (cxOf (CXM P w) P w K mg base ["self"] "Line.back" (zH (aL (top 12) 4)) f cdv A outer s H E) E XC (qT (aL (top 12) 4)) fH:=by
 have nd:(["self"]:List Str).Nodup:=mD.nd
 exact(wL (ZZ (yB (PVn.t (PV.n (qY T.fl_earlier (zK 0))))) (wL (PSx.y (HN R.cls R.gl))
  (xT _)) (DD (xT _)))
  (xT _))
theorem uN{f XC:aA}{fd:aH}(Fn:Fun K "back" "Line.back" (aL (top 12) 4) f fd)(T:Glb K mg)(M_become:LCal P w K mg base "become" 1 1 [11] (fun _=>bX))(R:XR K mg 8 XC):FnOk P w K mg base (CXM P w) 2 f fd ["self"] (spX K 1 dL XC):=
 SV (k:=1) (g:=fH) Fn mD (fun cdv A outer s H E hr=>uU T M_become R cdv A outer s H E hr) (fun ds hl e=>e)
theorem lE:FnScope ["self"] ["self"] (zH (aL (top 12) 5)):={}
theorem EH{f:aA}{fd:aH}(Fn:Fun K "again" "Line.again" (aL (top 12) 5) f fd)(T:Glb K mg)(M_become:LCal P w K mg base "become" 1 1 [11] (fun _=>bX)):FnOk P w K mg base CX0 2 f fd ["self"] (spL K 0 eB):=by
 have nd:=lE.nd;refine vA (k:=1) (n:=0) (g:=gT) Fn lE (fun cdv A outer s H E hr=>?_) (fun _ _ _ _ e=>e)
 exact(zC (qE (yB (PVn.t (LX (yF T.fl_later (qL 0))))) (zD yT) zN)
  (zC (DC (yF T.fl_earlier (qL 0)) (qQ (zE (yP (yF T.fl_pieces (qL 0))) (zE (yP (yF T.fl_places (qL 0))) zQ))))
  (zD (HP (i:=0) M_become hr (RD (yF T.fl_later (qL 0)))))))
theorem tV{f XC:aA}(T:Glb K mg)(M_become:LCal P w K mg base "become" 1 1 [11] (fun _=>bX))(R:XR K mg 8 XC)(cdv:Value)(A:bO)(outer:List Env)(s:aC)(H:Hp)(E:XK)(hr:Room 1 (A.deeper (gD "Line.again" (zH (aL (top 12) 5)) s.heap.objs.size f cdv))) :
  PSsy (cxOf (CXM P w) P w K mg base ["self"] "Line.again" (zH (aL (top 12) 5)) f cdv A outer s H E) E XC (qT (aL (top 12) 5)) eZ:=by
 have nd:(["self"]:List Str).Nodup:=lE.nd
 exact(wL (ZZ (yB (PVn.t (PV.n (qY T.fl_later (zK 0))))) (wL (PSx.y (HN R.cls R.gl))
  (xT _)) (DD (xT _)))
  (xT _))
theorem tP{f XC:aA}{fd:aH}(Fn:Fun K "again" "Line.again" (aL (top 12) 5) f fd)(T:Glb K mg)(M_become:LCal P w K mg base "become" 1 1 [11] (fun _=>bX))(R:XR K mg 8 XC):FnOk P w K mg base (CXM P w) 2 f fd ["self"] (spX K 1 dG XC):=
 SV (k:=1) (g:=eZ) Fn lE (fun cdv A outer s H E hr=>tV T M_become R cdv A outer s H E hr) (fun ds hl e=>e)
theorem tJ:FnScope ["self"] ["self"] (zH (aL (top 12) 7)):={}
theorem GB{f:aA}{fd:aH}(Fn:Fun K "told" "Line.told" (aL (top 12) 7) f fd)(T:Glb K mg): FnOk P w K mg base CX0 1 f fd ["self"] (spF K 1 mS):=by
 have nd:=tJ.nd;refine qF (k:=0) (g:=mR) Fn tJ (fun cdv A outer s H E hr=>?_) (fun ds r hl e=>zP e);exact(zD (yC (vT T.b_list (PV.w (qY T.fl_pieces (zK 0))))))
theorem rY:FnScope ["self","name"] ["self","name"] (zH (aL (top 12) 8)):={}
theorem EF{f:aA}{fd:aH}(Fn:Fun K "where" "Line.where" (aL (top 12) 8) f fd)(T:Glb K mg)(C_is_name:Cal P w K mg base "is_name" 1 1 fU):FnOk P w K mg base CX0 2 f fd ["self","name"] (spF K 2 lT):=by
 have nd:=rY.nd;refine qF (k:=1) (g:=lS) Fn rY (fun cdv A outer s H E hr=>?_) (fun ds r hl e=>zP e)
 exact(zC (qE (PWv.t (wN (yB (PVn.t (PV.n (zR C_is_name hr (zG (pnV 1) zO))))) (yV (ZV hr (pnV 1) (PV.n (qY T.fl_places (zK 0))))))) (zD yT) zN)
  (zD (zM (PV.w (BP hr (qY T.fl_places (zK 0)) (zK 1))))))
theorem rZ:FnScope ["self"] ["self"] (zH (aL (top 12) 9)):={}
theorem EG{f:aA}{fd:aH}(Fn:Fun K "marks" "Line.marks" (aL (top 12) 9) f fd)(T:Glb K mg): FnOk P w K mg base CX0 1 f fd ["self"] (spF K 1 lV):=by
 have nd:=rZ.nd;refine qF (k:=0) (g:=lU) Fn rZ (fun cdv A outer s H E hr=>?_) (fun ds r hl e=>zP e);exact(zD (yC (wA rfl T.b_sorted (PV.n (qY T.fl_places (zK 0))))))
theorem nX:FnScope ["self"] ["self"] (zH (aL (top 27) 0)):={}
theorem tT{f:aA}{fd:aH}(Fn:Fun K "__init__" "Deed.__init__" (aL (top 27) 0) f fd)(T:Glb K mg): FnOk P w K mg base CX0 1 f fd ["self"] (spN K 0 ["fill"] bQ):=by
 have nd:=nX.nd;refine vC (k:=0) (n:=0) (m:=1) (g:=gZ) Fn nX (fun cdv A outer s H E hr=>?_) rfl (by decide) rfl;exact(wU (xW qK))
theorem oY:FnScope ["self","span","value"] ["self","span","value"] (zH (aL (top 28) 0)):={}
theorem uS{f:aA}{fd:aH}(Fn:Fun K "__init__" "Put.__init__" (aL (top 28) 0) f fd)(T:Glb K mg): FnOk P w K mg base CX0 1 f fd ["self","span","value"] (spN K 2 ["span","fill"] dZ):=by
 have nd:=oY.nd;refine vC (k:=0) (n:=2) (m:=3) (g:=iL) Fn oY (fun cdv A outer s H E hr=>?_) rfl (by decide) rfl
 exact(jR (ns:=["span"]) (ms:=["fill"]) (xW (qQ (zE (qM (zF 1) pwI) (zE (qM (zF 1) pwI) zQ))))
  (wU (xW (zK 2))))
theorem rP:FnScope ["many"] ["many"] (zH (top 34)):={}
theorem DY{f:aA}{fd:aH}(Fn:Fun K "check_many" "check_many" (top 34) f fd)(T:Glb K mg): FnOk P w K mg base CX0 1 f fd ["many"] (spF K 1 eY):=by
 have nd:=rP.nd;refine qF (k:=0) (g:=lI) Fn rP (fun cdv A outer s H E hr=>?_) (fun ds r hl e=>zP e);exact(zD (qE (tN (zF 0) pwI) (zD yT) zN))
theorem nE:FnScope ["self","at","many"] ["self","at","many"] (zH (aL (top 29) 0)):={}
theorem sM{f:aA}{fd:aH}(Fn:Fun K "__init__" "Widen.__init__" (aL (top 29) 0) f fd)(T:Glb K mg)(C_check_many:Cal P w K mg base "check_many" 1 1 eY)(S_Deed:SCal P w K mg base "Deed" 1 ["fill"] bQ):FnOk P w K mg base CX0 2 f fd ["self","at","many"] (spN K 2 ["fill","at","many"] cC):=by
 have nd:=nE.nd;refine vC (k:=1) (n:=2) (m:=3) (g:=fI) Fn nE (fun cdv A outer s H E hr=>?_) rfl (by decide) rfl
 exact(jR (ns:=[]) (ms:=["fill","at","many"]) (BS (zR C_check_many hr (zG (pnV 2) zO)))
  (jR (ns:=["fill"]) (ms:=["at","many"]) (JQ S_Deed hr)
  (jR (ns:=["at"]) (ms:=["many"]) (xW (zK 1))
  (wU (xW (zK 2))))))
theorem mV:FnScope ["self","at","many"] ["self","at","many"] (zH (aL (top 30) 0)):={}
theorem rJ{f:aA}{fd:aH}(Fn:Fun K "__init__" "Narrow.__init__" (aL (top 30) 0) f fd)(T:Glb K mg)(C_check_many:Cal P w K mg base "check_many" 1 1 eY)(S_Deed:SCal P w K mg base "Deed" 1 ["fill"] bQ):FnOk P w K mg base CX0 2 f fd ["self","at","many"] (spN K 2 ["fill","at","many"] cC):=by
 have nd:=mV.nd;refine vC (k:=1) (n:=2) (m:=3) (g:=fI) Fn mV (fun cdv A outer s H E hr=>?_) rfl (by decide) rfl
 exact(jR (ns:=[]) (ms:=["fill","at","many"]) (BS (zR C_check_many hr (zG (pnV 2) zO)))
  (jR (ns:=["fill"]) (ms:=["at","many"]) (JQ S_Deed hr)
  (jR (ns:=["at"]) (ms:=["many"]) (xW (zK 1))
  (wU (xW (zK 2))))))
theorem nV:FnScope ["self","far"] ["self","far"] (zH (aL (top 31) 0)):={}
theorem tR{f:aA}{fd:aH}(Fn:Fun K "__init__" "Move.__init__" (aL (top 31) 0) f fd)(T:Glb K mg)(S_Deed:SCal P w K mg base "Deed" 1 ["fill"] bQ):FnOk P w K mg base CX0 2 f fd ["self","far"] (spN K 1 ["fill","far"] dS):=by
 have nd:=nV.nd;refine vC (k:=1) (n:=1) (m:=2) (g:=gX) Fn nV (fun cdv A outer s H E hr=>?_) rfl (by decide) rfl
 exact(jR (ns:=["fill"]) (ms:=["far"]) (JQ S_Deed hr)
  (wU (xW (zK 1))))
theorem pN:FnScope ["number"] ["number"] (zH (top 35)):={}
theorem AS{f:aA}{fd:aH}(Fn:Fun K "check_share" "check_share" (top 35) f fd)(T:Glb K mg): FnOk P w K mg base CX0 1 f fd ["number"] (spF K 1 eO):=by
 have nd:=pN.nd;refine qF (k:=0) (g:=iX) Fn pN (fun cdv A outer s H E hr=>?_) (fun ds r hl e=>zP e);exact(zD (qE (PWv.t (wN (tN (zF 0) pwI) (yV (RI (zF 0) (PV.w (MB T.c_MOST_SHARE)))))) (zD yT) zN))
theorem lY:FnScope ["self","top","bottom"] ["self","top","bottom"] (zH (aL (top 32) 0)):={}
theorem pY{f:aA}{fd:aH}(Fn:Fun K "__init__" "Stretch.__init__" (aL (top 32) 0) f fd)(T:Glb K mg)(C_check_share:Cal P w K mg base "check_share" 1 1 eO)(S_Deed:SCal P w K mg base "Deed" 1 ["fill"] bQ):FnOk P w K mg base CX0 2 f fd ["self","top","bottom"] (spN K 2 ["fill","top","bottom"] dE):=by
 have nd:=lY.nd;refine vC (k:=1) (n:=2) (m:=3) (g:=gE) Fn lY (fun cdv A outer s H E hr=>?_) rfl (by decide) rfl
 exact(jR (ns:=[]) (ms:=["fill","top","bottom"]) (BS (zR C_check_share hr (zG (pnV 1) zO)))
  (jR (ns:=[]) (ms:=["fill","top","bottom"]) (BS (zR C_check_share hr (zG (pnV 2) zO)))
  (jR (ns:=["fill"]) (ms:=["top","bottom"]) (JQ S_Deed hr)
  (jR (ns:=["top"]) (ms:=["bottom"]) (xW (zK 1))
  (wU (xW (zK 2)))))))
theorem rQ:FnScope ["_law_found"] ["_law_found"] (zH (top 42)):={}
theorem DZ{f:aA}{fd:aH}(Fn:Fun K "_law_whole" "_law_whole" (top 42) f fd)(T:Glb K mg): FnOk P w K mg base CX0 1 f fd ["_law_found"] (spF K 1 hJ):=by
 have nd:=rQ.nd;refine qF (k:=0) (g:=oG) Fn rQ (fun cdv A outer s H E hr=>?_) (fun ds r hl e=>zP e);exact(zD (zM (PV.w (CY (CW T.b_isinstance T.b_int (by decide +kernel) (zF 0)) (vG (pv_not (CW T.b_isinstance T.b_bool (by decide +kernel) (zF 0))))))))
theorem oU:FnScope ["_law_script","_law_k"] ["_law_script","_law_k"] (zH (top 43)):={}
theorem uO{f:aA}{fd:aH}(Fn:Fun K "_law_cell_at" "_law_cell_at" (top 43) f fd)(T:Glb K mg): FnOk P w K mg base CX0 1 f fd ["_law_script","_law_k"] (spF K 2 fW):=by
 have nd:=oU.nd;refine qF (k:=0) (g:=oK) Fn oU (fun cdv A outer s H E hr=>?_) (fun ds r hl e=>zP e)
 exact(zC (qE (tN (zF 1) (PV.w (kG T.b_len (jP (zF 0) yQ)))) (zD (zM (PV.w (qM (zF 0) (zF 1))))) zN)
  (zD (zM pwI)))
theorem AH:FnScope ["_law_cells","_law_pieces","_law_behind","_law_cell","_law_rest","_law_low","_law_far","_law_value"] ["_law_cells"] (zH (top 44)):={}
theorem KO{f:aA}{fd:aH}(Fn:Fun K "_law_map" "_law_map" (top 44) f fd)(T:Glb K mg): FnOk P w K mg base CX0 1 f fd ["_law_cells"] (spF K 1 rC):=by
 have nd:=AH.nd;refine qF (k:=0) (g:=GN) Fn AH (fun cdv A outer s H E hr=>?_) (fun ds r hl e=>zP e)
 exact(zC (wF (i:=1) nd (jB zQ))
  (zC (qB (i:=2) nd qU)
  (zC (wB PassesOwn.never rfl (yW (zK 0)) (zY (i:=3) nd) (zC (qB (i:=4) nd (qO (zF 3) pwI))
  (zC (qB (i:=5) nd (qI (zF 2) (PV.w (qM (PV.w (PVf.s (jB (zE qU (zE qU (zE (qI pwI (PV.w (zW (zF 4) pwI))) (zE (zW (zF 4) (PV.w (jY pwI pwI))) zQ))))))) (PV.w (zW (zF 3) pwI))))))
  (zC (qE (jK hr (pnV 1) (PV.n (PVf.s (jB zQ)))) (zC (qB (i:=6) nd (yA pwI (PV.w (jY (PV.w (jY pwI pwI)) pwI))))
  (zD (qB (i:=5) nd (qM (PV.w (PVf.s (jB (zE (jT (PV.w (zW (zF 4) pwI)) pwI) (zE (zW (zF 4) (PV.w (jY pwI pwI))) (zE (qI (zF 6) (PV.w (zW (zF 4) (PV.w (jY pwI pwI))))) (zE (jT pwI (zF 6)) zQ))))))) (PV.w (zW (zF 3) pwI)))))) zN)
  (zC (qB (i:=7) nd (qM (PV.w (PVf.s (jB (zE qU (zE qU (zE (jT (PV.w (zW (zF 4) pwI)) pwI) (zE (jT (PV.w (zW (PV.w (yA (zF 4) pwI)) (PV.w (qI (PV.w (jY pwI pwI)) pwI)))) (PV.w (jY pwI pwI))) (zE qU zQ)))))))) (PV.w (zW (PV.w (qO (zF 3) pwI)) pwI))))
  (zC (qE (PWv.t (xG (sA hr (pnV 1) (PV.n (PVf.s (jB zQ)))) (xG (jK hr (pnV 5) (pnV 2)) (xU (jK hr (pnV 7) (PV.n (qM (PV.w (qM (zF 1) (PV.w (jV qU)))) pwI))))))) (zD (qB (i:=7) nd (qI (zF 7) pwI))) zN)
  (zC (qB (i:=2) nd (qI (zF 5) (PV.w (qM (PV.w (PVf.s (jB (zE qU (zE (qI pwI (PV.w (zW (PV.w (qO (zF 4) pwI)) pwI))) (zE (qI pwI (PV.w (zW (PV.w (yA (zF 4) pwI)) (PV.w (qI (PV.w (jY pwI pwI)) pwI))))) zQ)))))) (PV.w (zW (PV.w (qO (zF 3) pwI)) pwI))))))
  (zD (vZ (i:=1) (qQ (zE (zK 5) (zE (zK 2) (zE (zK 7) zQ)))))))))))))
  (zC (qE (PWv.t (xG (sA hr (pnV 1) (PV.n (PVf.s (jB zQ)))) (xU (jK hr (PV.n (zW (PV.w (qO (PV.w (qM (zF 0) pwI)) pwI)) pwI)) pnI)))) (zD (JM (i:=1) (qQ (zE qK (zE (qM (PV.w (qM (zF 1) pwI)) pwI) (zE (qM (PV.w (qM (zF 1) pwI)) pwI) zQ)))) qU)) zN)
  (zC (qE (PWv.t (xG (sA hr (pnV 1) (PV.n (PVf.s (jB zQ)))) (xU (jK hr (PV.n (zW (PV.w (qO (PV.w (qM (zF 0) (PV.w (jV qU)))) pwI)) pwI)) pnI)))) (zD (JM (i:=1) (qQ (zE (qM (PV.w (qM (zF 1) (PV.w (jV qU)))) pwI) (zE qK (zE (qM (PV.w (qM (zF 1) (PV.w (jV qU)))) pwI) zQ)))) (jV qU))) zN)
  (zD (vL 1)))))))
theorem sW:FnScope ["_law_number","_law_size","_law_word_here","_law_k"] ["_law_number","_law_size"] (zH (top 45)):={}
theorem FJ{f:aA}{fd:aH}(Fn:Fun K "_law_word" "_law_word" (top 45) f fd)(T:Glb K mg): FnOk P w K mg base CX0 1 f fd ["_law_number","_law_size"] (spF K 2 iA):=by
 have nd:=sW.nd;refine qF (k:=0) (g:=uF) Fn sW (fun cdv A outer s H E hr=>?_) (fun ds r hl e=>zP e)
 exact(zC (qB (i:=2) nd jX)
  (zC (wB PassesOwn.never rfl (DF T.b_range (zK 1)) (zY (i:=3) nd) (zC (qB (i:=2) nd (qI (zF 2) (PV.w (qM (PV.w jX) (PV.w (zW (zF 0) pwI))))))
  (zD (qB (i:=0) nd (qI (PV.w (qO (zF 0) pwI)) pwI)))))
  (zD (zM (zF 2)))))
theorem tD:FnScope ["_law_seed","_law_cell","_law_size","_law_word_here","_law_at","_law_sign"] ["_law_seed","_law_cell"] (zH (top 46)):={}
theorem FU{f:aA}{fd:aH}(Fn:Fun K "_law_name" "_law_name" (top 46) f fd)(T:Glb K mg)(C__law_word:Cal P w K mg base "_law_word" 1 2 iA):FnOk P w K mg base CX0 2 f fd ["_law_seed","_law_cell"] (spF K 2 nS):=by
 have nd:=tD.nd;refine qF (k:=1) (g:=gN) Fn tD (fun cdv A outer s H E hr=>?_) (fun ds r hl e=>zP e)
 exact(zC (qB (i:=2) nd (qI pwI (PV.w (zW (zF 0) pwI))))
  (zC (qB (i:=3) nd (zR C__law_word hr (zG (PV.n (qO (zF 0) pwI)) (zG (pnV 2) zO))))
  (zC (qB (i:=4) nd (zW (PV.w (qO (zF 1) pwI)) (zF 2)))
  (zC (qB (i:=5) nd (zR C__law_word hr (zG (PV.n (qO (zF 1) pwI)) (zG pnI zO))))
  (zC (qE (jK hr (PV.n (zW (zF 1) pwI)) pnI) (zD (zM (PV.w (qI (PV.w (qI (PV.w (JK (zF 3) DE (xJ (zF 4)))) (zF 5))) (PV.w (JK (zF 3) (xJ (PV.w (qI (zF 4) pwI))) DE)))))) zN)
  (zC (qE (jK hr (PV.n (zW (zF 1) pwI)) pnI) (zD (zM (PV.w (JK (zF 3) DE (xJ (PV.w (qI (zF 4) pwI))))))) zN)
  (zC (qE (jK hr (PV.n (zW (zF 1) pwI)) pnI) (zD (zM (PV.w (JK (PV.w (qI (zF 3) (zF 5))) DE (xJ pwI))))) zN)
  (zC (qE (jK hr (PV.n (zW (zF 1) pwI)) pnI) (zD (zM (PV.w (zR C__law_word hr (zG (PV.n (qO (zF 1) pwI)) (zG (PV.n (qI pwI (PV.w (zW (PV.w (qO (zF 1) pwI)) pwI)))) zO)))))) zN)
  (zD (zM (zF 3)))))))))))
theorem rS:FnScope ["_law_cell","_law_known","_law_rest"] ["_law_cell","_law_known"] (zH (top 47)):={}
theorem EB{f:aA}{fd:aH}(Fn:Fun K "_law_place" "_law_place" (top 47) f fd)(T:Glb K mg): FnOk P w K mg base CX0 1 f fd ["_law_cell","_law_known"] (spF K 2 fS):=by
 have nd:=rS.nd;refine qF (k:=0) (g:=pI) Fn rS (fun cdv A outer s H E hr=>?_) (fun ds r hl e=>zP e)
 exact(zC (qB (i:=2) nd (qO (zF 0) pwI))
  (zC (qE (jK hr (PV.n (zW (zF 0) pwI)) pnI) (zD (zM (PV.w (jT (PV.w (zW (zF 2) (PV.w (qI (PV.w (yA pwI (PV.w (jY pwI pwI)))) pwI)))) (PV.w (jY pwI pwI)))))) zN)
  (zC (qE (PWv.t (xG (jK hr (PV.n (zW (zF 0) pwI)) pnI) (xU (sA hr (pnV 1) (PV.n (PVf.s (jB zQ))))))) (zD (zM (PV.w (jT (PV.w (qI (PV.w (qM (zF 1) (PV.w (zW (zF 2) (PV.w (kG T.b_len (jP (zF 1) yQ))))))) (PV.w (zW (PV.w (qO (zF 2) (PV.w (kG T.b_len (jP (zF 1) yQ))))) pwI)))) pwI)))) zN)
  (zD (zM (PV.w (jT (PV.w (zW (zF 2) pwI)) pwI)))))))
theorem tE:FnScope ["_law_cell"] ["_law_cell"] (zH (top 48)):={}
theorem FV{f:aA}{fd:aH}(Fn:Fun K "_law_many" "_law_many" (top 48) f fd)(T:Glb K mg): FnOk P w K mg base CX0 1 f fd ["_law_cell"] (spF K 1 gC):=by
 have nd:=tE.nd;refine qF (k:=0) (g:=uH) Fn tE (fun cdv A outer s H E hr=>?_) (fun ds r hl e=>zP e);exact(zD (zM (PV.w (qM (PV.w (PVf.s (jB (zE (zW (PV.w (qO (zF 0) pwI)) pwI) (zE (zW (PV.w (qO (zF 0) pwI)) (PV.w (jY pwI pwI))) (zE (zW (PV.w (qO (zF 0) pwI)) pwI) zQ)))))) (PV.w (zW (zF 0) pwI))))))
theorem rR:FnScope ["_law_cell"] ["_law_cell"] (zH (top 49)):={}
theorem EA{f:aA}{fd:aH}(Fn:Fun K "_law_share" "_law_share" (top 49) f fd)(T:Glb K mg): FnOk P w K mg base CX0 1 f fd ["_law_cell"] (spF K 1 gJ):=by
 have nd:=rR.nd;refine qF (k:=0) (g:=sE) Fn rR (fun cdv A outer s H E hr=>?_) (fun ds r hl e=>zP e);exact(zD (zM (PV.w (qI pwI (PV.w (zW (PV.w (qO (zF 0) pwI)) (PV.w (qM (PV.w (PVf.s (jB (zE qU (zE qU zQ))))) (PV.w (zW (zF 0) pwI))))))))))
theorem sY:FnScope ["_law_at","_law_cell","_law_size"] ["_law_at","_law_cell"] (zH (top 50)):={}
theorem FQ{f:aA}{fd:aH}(Fn:Fun K "_law_span" "_law_span" (top 50) f fd)(T:Glb K mg)(C__law_many:Cal P w K mg base "_law_many" 1 1 gC):FnOk P w K mg base CX0 2 f fd ["_law_at","_law_cell"] (spF K 2 kX):=by
 have nd:=sY.nd;refine qF (k:=1) (g:=sD) Fn sY (fun cdv A outer s H E hr=>?_) (fun ds r hl e=>zP e)
 exact(zC (qB (i:=2) nd (qI pwI (PV.w (zR C__law_many hr (zG (PV.n (qO (zF 1) pwI)) zO)))))
  (zC (qE (RI (PV.w (zW (zF 1) pwI)) pwI) (zD (zM (PV.w (qM (PV.w (PVf.s (jB (zE (qQ (zE (zK 0) (zE qK zQ))) (zE (qQ (zE qK (zE (zK 0) zQ))) (zE (qQ (zE qK (zE qK zQ))) zQ)))))) (PV.w (jT (PV.w (zW (zF 1) pwI)) pwI)))))) zN)
  (zD (zM (PV.w (qQ (zE (zK 0) (zE (qI (zF 0) (zF 2)) zQ))))))))
theorem AG:FnScope ["_law_a","_law_b","_law_c","_law_known","_law_at","_law_value"] ["_law_a","_law_b","_law_c","_law_known"] (zH (top 51)):={}
theorem KL{f:aA}{fd:aH}(Fn:Fun K "_law_row" "_law_row" (top 51) f fd)(T:Glb K mg)(C__law_place:Cal P w K mg base "_law_place" 1 2 fS)(C__law_span:Cal P w K mg base "_law_span" 2 2 kX)(C__law_many:Cal P w K mg base "_law_many" 1 1 gC)(C__law_share:Cal P w K mg base "_law_share" 1 1 gJ):FnOk P w K mg base CX0 3 f fd ["_law_a","_law_b","_law_c","_law_known"] (spF K 4 rB):=by
 have nd:=AG.nd;refine qF (k:=2) (g:=GI) Fn AG (fun cdv A outer s H E hr=>?_) (fun ds r hl e=>zP e)
 exact(zC (qB (i:=4) nd (zR C__law_place hr (zG (pnV 1) (zG (pnV 3) zO))))
  (zC (qE (jK hr (PV.n (zW (zF 0) pwI)) pnI) (zD (zM (PV.w (qQ (zE jX (zE (zK 4) (zE (zR C__law_many hr (zG (pnV 2) zO)) zQ))))))) zN)
  (zC (qE (jK hr (PV.n (zW (zF 0) pwI)) pnI) (zD (zM (PV.w (qQ (zE jX (zE (zK 4) (zE (zR C__law_many hr (zG (pnV 2) zO)) zQ))))))) zN)
  (zC (qE (jK hr (PV.n (zW (zF 0) pwI)) pnI) (zD (zM (PV.w (qQ (zE jX (zE (zK 4) (zE qU zQ))))))) zN)
  (zC (qE (jK hr (PV.n (zW (zF 0) pwI)) pnI) (zD (zM (PV.w (qQ (zE jX (zE (zR C__law_share hr (zG (pnV 1) zO)) (zE (zR C__law_share hr (zG (pnV 2) zO)) zQ))))))) zN)
  (zC (qE (jK hr (PV.n (zW (zF 0) pwI)) pnI) (zD (zM (PV.w (qQ (zE jX (zE qU (zE qU zQ))))))) zN)
  (zC (qB (i:=5) nd (qM (PV.w (PVf.s (jB (zE qK (zE qU (zE qU (zE (jT (PV.w (zW (PV.w (qO (zF 0) pwI)) (PV.w (qI (PV.w (yA pwI (PV.w (jY pwI pwI)))) pwI)))) (PV.w (jY pwI pwI))) (zE qU zQ)))))))) (PV.w (zW (PV.w (qO (zF 0) pwI)) pwI))))
  (zD (zM (PV.w (qQ (zE jX (zE (zR C__law_span hr (zG (pnV 4) (zG (pnV 2) zO))) (zE (zK 5) zQ))))))))))))))
theorem tF:FnScope ["_law_row_here","_law_kind","_law_one","_law_other"] ["_law_row_here"] (zH (top 52)):={}
theorem FW{f:aA}{fd:aH}(Fn:Fun K "_law_made" "_law_made" (top 52) f fd)(T:Glb K mg)(Mk_Mirror:MkC P w K mg base 5 1 0 bQ)(Mk_Put:MkC P w K mg base 0 1 2 dZ)(Mk_Widen:MkC P w K mg base 1 2 2 cC)(Mk_Narrow:MkC P w K mg base 2 2 2 cC)(Mk_Move:MkC P w K mg base 3 2 1 dS)(Mk_Stretch:MkC P w K mg base 4 2 2 dE):FnOk P w K mg base CX0 4 f fd ["_law_row_here"] (spF K 1 gK):=by
 have nd:=tF.nd;refine qF (k:=3) (g:=sF) Fn tF (fun cdv A outer s H E hr=>?_) (fun ds r hl e=>zP e)
 exact(zC (JO (zK 0) (yG (n:=3) rfl (zZ (zY (i:=1) nd) (zZ (zY (i:=2) nd) (zZ (zY (i:=3) nd) jQ)))))
  (zC (qE (jK hr (pnV 1) (PV.n jX)) (zD (xM (wE Mk_Put hr (zG (pnV 2) (zG (pnV 3) zO))))) zN)
  (zC (qE (jK hr (pnV 1) (PV.n jX)) (zD (xM (wE Mk_Widen hr (zG (pnV 2) (zG (pnV 3) zO))))) zN)
  (zC (qE (jK hr (pnV 1) (PV.n jX)) (zD (xM (wE Mk_Narrow hr (zG (pnV 2) (zG (pnV 3) zO))))) zN)
  (zC (qE (jK hr (pnV 1) (PV.n jX)) (zD (xM (wE Mk_Move hr (zG (pnV 2) zO)))) zN)
  (zC (qE (jK hr (pnV 1) (PV.n jX)) (zD (xM (wE Mk_Stretch hr (zG (pnV 2) (zG (pnV 3) zO))))) zN)
  (zD (xM (UQ Mk_Mirror hr)))))))))
theorem sX:FnScope ["_law_row_here","_law_place_here","_law_kind","_law_one","_law_other","_law_least"] ["_law_row_here","_law_place_here"] (zH (top 53)):={}
theorem FK{f:aA}{fd:aH}(Fn:Fun K "_law_went" "_law_went" (top 53) f fd)(T:Glb K mg): FnOk P w K mg base CX0 1 f fd ["_law_row_here","_law_place_here"] (spF K 2 nR):=by
 have nd:=sX.nd;refine qF (k:=0) (g:=uG) Fn sX (fun cdv A outer s H E hr=>?_) (fun ds r hl e=>zP e)
 exact(zC (JO (zK 0) (yG (n:=3) rfl (zZ (zY (i:=2) nd) (zZ (zY (i:=3) nd) (zZ (zY (i:=4) nd) jQ)))))
  (zC (qE (PWv.t (wN (vD (pnV 1) (PV.n qK)) (yV (jK hr (pnV 2) (PV.n jX))))) (zD (zM (zF 1))) zN)
  (zC (qE (jK hr (pnV 2) (PV.n jX)) (zD (zM (PV.w (qI (zF 1) (zF 3))))) zN)
  (zC (qE (jK hr (pnV 2) (PV.n jX)) (zD (zM (PV.w (jV (zK 1))))) zN)
  (zC (qE (jK hr (pnV 2) (PV.n jX)) (zC (qB (i:=5) nd (jV (qO (PV.w (yA (PV.w (jV (zK 1))) (zF 3))) (zF 4))))
  (zC (qE (jK hr (PV.n (qO (PV.w (yA (zF 5) (zF 4))) (zF 3))) (pnV 1)) (zD (zM (zF 5))) zN)
  (zD (zM (PV.w qK))))) zN)
  (zC (qE (tN (zF 1) (zF 3)) (zD (zM (zF 1))) zN)
  (zC (qE (jK hr (pnV 2) (PV.n jX)) (zD (zM (PV.w (qI (zF 1) (zF 4))))) zN)
  (zC (qE (tN (zF 1) (PV.w (qI (zF 3) (zF 4)))) (zD (zM (PV.w qK))) zN)
  (zD (zM (PV.w (jT (zF 1) (zF 4)))))))))))))
theorem pP:FnScope ["_law_line","_law_spots","_law_turn","_law_names","_law_told","_law_name_here","_law_found"] ["_law_line","_law_spots","_law_turn"] (zH (top 54)):={}
theorem AU{f:aA}{fd:aH}(Fn:Fun K "_law_stands" "_law_stands" (top 54) f fd)(T:Glb K mg)(C__law_whole:Cal P w K mg base "_law_whole" 1 1 hJ)(M_marks:MCal P w K mg base "marks" 1 0 [11] cM)(M_where:MCal P w K mg base "where" 2 1 [11] fB):FnOk P w K mg base CX0 3 f fd ["_law_line","_law_spots","_law_turn"] (spF K 3 gM):=by
 have nd:=pP.nd;refine qF (k:=2) (g:=oH) Fn pP (fun cdv A outer s H E hr=>?_) (fun ds r hl e=>zP e)
 exact(zC (qB (i:=3) nd (PVf.s (wA rfl T.b_sorted (pnV 1))))
  (zC (qB (i:=4) nd (LZ M_marks hr (zK 0) ))
  (zC (qE (PWv.t (wN (yB (PVn.t (PV.n (CW T.b_isinstance T.b_list (by decide +kernel) (zF 4))))) (yV (sA hr (pnV 4) (pnV 3))))) (zD (zM (PV.w wM))) zN)
  (zC (qE (jK hr (pnV 2) pnI) (zD (qB (i:=3) nd (PVf.s (ZK rfl T.b_list T.b_reversed (zK 3))))) zN)
  (zC (wB PassesOwn.never rfl (yW (zK 3)) (zY (i:=5) nd) (zC (qB (i:=6) nd (xH M_where hr (zK 0) (zG (pnV 5) zO)))
  (zD (qE (vD (PV.n (BP hr (zK 1) (zK 5))) (PV.n qK)) (zD (qE (xS (pnV 6) (PV.n qK)) (zD (zM (PV.w wM))) zN)) (zD (qE (PWv.t (wN (yB (PVn.t (PV.n (zR C__law_whole hr (zG (pnV 6) zO))))) (yV (sA hr (pnV 6) (PV.n (BP hr (zK 1) (zK 5))))))) (zD (zM (PV.w wM))) zN))))))
  (zD (zM (PV.w wM))))))))
theorem pO:FnScope ["_law_line","_law_way","_law_due","_law_refused","_law_told"] ["_law_line","_law_way","_law_due"] (zH (top 55)):={}
theorem AT{f:aA}{fd:aH}(Fn:Fun K "_law_turned" "_law_turned" (top 55) f fd)(T:Glb K mg)(M_again:LCal P w K mg base "again" 2 0 [11] (fun _=>eB))(M_back:LCal P w K mg base "back" 2 0 [11] (fun _=>eU)){XS8:aA}{XC8:aA}(XT_8:XT K mg 8 "NoDeed" XC8 XS8)(MX_again_8:MCalX P w K mg base "again" 11 2 0 dG XC8)(MX_back_8:MCalX P w K mg base "back" 11 2 0 dL XC8):FnOk P w K mg base CX0 3 f fd ["_law_line","_law_way","_law_due"] (spR K 3 0 cP):=by
 have nd:=pO.nd;refine SW (k:=2) (p:=0) (g:=fJ) Fn pO (fun cdv A outer s H E hr=>?_) (fun _ _ _ _ e=>e)
 exact(jH (qB (i:=3) nd wM)
  (jH (qB (i:=4) nd qK)
  (jH (aAa (t:=8) XT_8.gl XT_8.cat (fun W=>(qE (jK hr (pnV 1) pnI) (zD (DB (i:=4) nd (HF M_again hr (qL 0)))) (zD (DB (i:=4) nd (HF M_back hr (qL 0))))))
  (fun W=>YQ 0 (thr_if (jK hr (pnV 1) pnI) (AD (CM MX_again_8 hr (zK 0))) (AD (CM MX_back_8 hr (zK 0)))))
  (fun ea xe=>(zD (qB (i:=3) nd wM))))
  (prv_ret (ZG (CY (ZN hr (pnV 3) (pnV 2)) (vG (ZL (pnV 4) (PV.n qK)))))))))
theorem sZ:FnScope ["_law_line","_law_state","_law_cells","_law_seed","_law_pieces","_law_spots","_law_known","_law_after","_law_name_here","_law_row_here","_law_place_here"] ["_law_line","_law_state","_law_cells","_law_seed"] (zH (top 56)):={}
theorem FR{f:aA}{fd:aH}(Fn:Fun K "_law_next" "_law_next" (top 56) f fd)(T:Glb K mg)(C__law_row:Cal P w K mg base "_law_row" 3 4 rB)(C__law_name:Cal P w K mg base "_law_name" 2 2 nS)(C__law_place:Cal P w K mg base "_law_place" 1 2 fS)(C__law_made:Cal P w K mg base "_law_made" 4 1 gK)(C__law_went:Cal P w K mg base "_law_went" 1 2 nR)(M_do:LCal P w K mg base "do" 7 1 [11] (fun _=>fV))(M_mark:LCal P w K mg base "mark" 2 2 [11] (fun _=>eT))(M_done:MCal P w K mg base "done" 6 1 [0,1,2,3,4,5] bW):FnOk P w K mg base CX0 8 f fd ["_law_line","_law_state","_law_cells","_law_seed"] (spR K 4 0 iF):=by
 have nd:=sZ.nd;have nI0:(["_law_place_here"]:List Str).Nodup:=by decide +kernel
 have nI1:(["_law_low","_law_behind","_law_value"]:List Str).Nodup:=by decide +kernel
 refine SW (k:=7) (p:=0) (g:=oA) Fn sZ (fun cdv A outer s H E hr=>?_) (fun _ _ _ _ e=>e)
 exact(jH (JO (zK 1) (yG (n:=2) rfl (zZ (zY (i:=4) nd) (zZ (zY (i:=5) nd) jQ))))
  (jH (OY (i:=6) nd (NY:=["_law_place_here"]) (mp:=[none]) (jZ (by kernel_rfl)) rfl (aAi (zK 5)) (fun c=>(zY (i:=0) nI0)) (fun c=>(JR (xS (pnV 0) (PV.n qK)))) (fun c=>(zK 0)))
  (jH (qB (i:=6) nd (PVf.s (JI (zF 6) (PV.w (PVf.s (wJ (NY:=["_law_low","_law_behind","_law_value"]) (mp:=[none,none,none]) (jZ (by kernel_rfl)) rfl (yW (zK 4)) (fun c=>(yG (n:=3) rfl (zZ (zY (i:=0) nI1) (zZ (zY (i:=1) nI1) (zZ (zY (i:=2) nI1) jQ))))) (fun c=>(JR (xS (pnV 0) (PV.n qK)))) (fun c=>(zK 0))))))))
  (jH (wG (i:=7) nd LW)
  (prv_if (jK hr (PV.n (zW (PV.w (qM (zF 2) pwI)) pwI)) pnI) (jH (wG (i:=7) nd (HJ T.b_dict (zK 5)))
  (jH (qB (i:=8) nd (zR C__law_name hr (zG (pnV 3) (zG (PV.n (qM (zF 2) pwI)) zO))))
  (jH (vW hr (qL 7) (zK 8) (zR C__law_place hr (zG (PV.n (qM (zF 2) pwI)) (zG (pnV 6) zO))))
  (jH (vS M_mark hr (qL 0) (zE (zK 8) (zE (pv_relO 7 (BP hr (zK 7) (zK 8))) zQ)))
  (MJ (i:=7) (ZG (qQ (zE (zK 4) (zE (zK 7) zQ)))))))))
  (jH (qB (i:=9) nd (zR C__law_row hr (zG (PV.n (qO (PV.w (qM (zF 2) pwI)) pwI)) (zG (PV.n (qM (zF 2) pwI)) (zG (PV.n (qM (zF 2) pwI)) (zG (pnV 6) zO))))))
  (jH (vS M_do hr (qL 0) (zE (zR C__law_made hr (zG (pnV 9) zO)) zQ))
  (jH (MH PassesOwn.never rfl (HR (zK 5)) (yG (n:=2) rfl (zZ (zY (i:=8) nd) (zZ (zY (i:=10) nd) jQ))) (zD (vW hr (qL 7) (zK 8) (zR C__law_went hr (zG (pnV 9) (zG (pnV 10) zO))))))
  (MJ (i:=7) (ZG (qQ (zE (xH M_done hr (zR C__law_made hr (zG (pnV 9) zO)) (zG (PV.n (PVf.s (vT T.b_list (zF 4)))) zO)) (zE (zK 7) zQ)))))))))))))
theorem nU:FnScope ["_law_line","_law_state","_law_way","_law_told"] ["_law_line","_law_state","_law_way"] (zH (top 57)):={}
theorem tQ{f:aA}{fd:aH}(Fn:Fun K "_law_as_it_is" "_law_as_it_is" (top 57) f fd)(T:Glb K mg)(C__law_stands:Cal P w K mg base "_law_stands" 3 3 gM)(M_told:MCal P w K mg base "told" 1 0 [11] cR):FnOk P w K mg base CX0 4 f fd ["_law_line","_law_state","_law_way"] (spF K 3 dH):=by
 have nd:=nU.nd;refine qF (k:=3) (g:=iW) Fn nU (fun cdv A outer s H E hr=>?_) (fun ds r hl e=>zP e)
 exact(zC (qE (PWv.t (xG (jK hr (PV.n (zW (zF 2) pwI)) pnI) (xU (yB (PVn.t (PV.n (zR C__law_stands hr (zG (pnV 0) (zG (PV.n (qM (zF 1) pwI)) (zG (PV.n (zW (PV.w (qO (zF 2) pwI)) pwI)) zO)))))))))) (zD (zM (PV.w wM))) zN)
  (zC (qB (i:=3) nd (LZ M_told hr (zK 0) ))
  (zC (qE (PWv.t (wN (yB (PVn.t (PV.n (CW T.b_isinstance T.b_list (by decide +kernel) (zF 3))))) (yV (sA hr (pnV 3) (PV.n (qM (zF 1) pwI)))))) (zD (zM (PV.w wM))) zN)
  (zD (zM (PV.w (RF (ZN hr (PV.n (zW (zF 2) pwI)) pnI) (vG (zR C__law_stands hr (zG (pnV 0) (zG (PV.n (qM (zF 1) pwI)) (zG (PV.n (zW (PV.w (qO (zF 2) pwI)) pwI)) zO))))))))))))
theorem ZB:FnScope ["_law_script","_law_seed","_law_many_here","_law_states","_law_line","_law_now","_law_cells","_law_kept","_law_k","_law_way","_law_to","_law_due","_law_told","_law_names","_law_state"] ["_law_script"] (zH (top 58)):={}
theorem fok_law{f:aA}{fd:aH}(Fn:Fun K "law" "law" (top 58) f fd)(T:Glb K mg)(C__law_cell_at:Cal P w K mg base "_law_cell_at" 1 2 fW)(C__law_map:Cal P w K mg base "_law_map" 1 1 rC)(C__law_as_it_is:Cal P w K mg base "_law_as_it_is" 4 3 dH)(C__law_turned:CalR P w K mg base "_law_turned" 3 3 0 cP)(C__law_next:CalR P w K mg base "_law_next" 8 4 0 iF)(M_told:MCal P w K mg base "told" 1 0 [11] cR)(M_marks:MCal P w K mg base "marks" 1 0 [11] cM)(Mk_Line_0:LMk P w K mg base 20 1 1 0 dF):FnOk P w K mg base CX0 9 f fd ["_law_script"] (spF K 1 rA):=by
 have nd:=ZB.nd;refine qF (k:=8) (g:=uC) Fn ZB (fun cdv A outer s H E hr=>?_) (fun ds r hl e=>zP e)
 exact(zC (qB (i:=1) nd (zR C__law_cell_at hr (zG (pnV 0) (zG pnI zO))))
  (zC (qB (i:=2) nd (zW (PV.w (qO (zF 1) pwI)) pwI))
  (zC (qB (i:=3) nd (PVf.s (jB (zE (qQ (zE (zR C__law_map hr (zG (PV.n (PVf.s (wK (zF 0) (xJ pwI) (xJ (PV.w (qI pwI (zF 2))))))) zO)) (zE MC zQ))) zQ))))
  (zC (wG (i:=4) nd (ZJ Mk_Line_0 hr (zE (PVf.s (vT T.b_list (PV.w (qM (PV.w (qM (zF 3) pwI)) pwI)))) zQ)))
  (zC (qB (i:=5) nd qU)
  (zC (qB (i:=6) nd (PVf.s (wK (zF 0) (xJ (PV.w (qI pwI (zF 2)))) (xJ (PV.w (qI pwI (zF 2)))))))
  (zC (wF (i:=7) nd (jB zQ))
  (zC (wB PassesOwn.never rfl (DF T.b_range (qO (PV.w (kG T.b_len (jP (zF 6) yQ))) pwI)) (zY (i:=8) nd) (zC (qB (i:=9) nd (zW (PV.w (qM (zF 6) (PV.w (yA pwI (zF 8))))) pwI))
  (zC (qE (RI (zF 9) pwI) (zC (qB (i:=10) nd (qI (zF 5) (PV.w (qM (PV.w (PVf.s (jB (zE (jV qU) (zE (jV qU) (zE qU zQ)))))) (PV.w (jT (zF 9) pwI))))))
  (zC (qB (i:=11) nd (RF (pv_lt (zF 10) pwI) (vG (ZN hr (pnV 10) (PV.n (kG T.b_len (jP (zF 3) yQ)))))))
  (zC (aAb (HG C__law_turned hr (MM (i:=4) (zE (zK 9) (zE (zK 11) zQ)))) (zD (zM (PV.w wM))) zN)
  (zD (qE (yB (PVn.t (pnV 11))) (zD (qB (i:=5) nd (zK 10))) zN))))) (zC (DB (i:=3) nd (ZH (PVf.s (wK (zF 3) DE (xJ (PV.w (qI (zF 5) pwI))))) (HG C__law_next hr (MM (i:=4) (zE (qM (zF 3) (zF 5)) (zE (PVf.s (wK (zF 6) (xJ (PV.w (yA pwI (zF 8)))) (xJ (PV.w (qI (PV.w (yA pwI (zF 8))) pwI))))) (zE (zK 1) zQ)))))))
  (zD (aAc (i:=5) nd qU))))
  (zC (qE (yB (ZU 4 (PVn.t (PV.n (zR C__law_as_it_is hr (zG (pnV 4) (zG (PV.n (qM (zF 3) (zF 5))) (zG (PV.n (qO (PV.w (qM (zF 6) (PV.w (yA pwI (zF 8))))) pwI)) zO)))))))) (zD (zM (PV.w wM))) zN)
  (zD (vZ (i:=7) (qQ (zE (PVf.s (LY 4 (HK M_told hr (zK 4) ))) (zE (PVf.s (LY 4 (HK M_marks hr (zK 4) ))) (zE (qM (zF 3) (zF 5)) zQ))))))))))
  (zC (psv_rel 7 (wB PassesOwn.never rfl (yW (zK 7)) (yG (n:=3) rfl (zZ (zY (i:=12) nd) (zZ (zY (i:=13) nd) (zZ (zY (i:=14) nd) jQ)))) (zD (qE (PWv.t (wN (sA hr (pnV 12) (PV.n (qM (zF 14) pwI))) (yV (sA hr (pnV 13) (PV.n (PVf.s (wA rfl T.b_sorted (PV.n (qM (zF 14) pwI))))))))) (zD (zM (PV.w wM))) zN))))
  (zD (zM (PV.w wM))))))))))))
end
end K53
namespace K53
open PySem PyProof.Rows L2 FL
open Builtin.Int (intBits)
abbrev Stt:=List Rw×Mks
noncomputable def stD(s:Stt):D:=.tup [.lst (s.1.map rwD),mkD s.2]
noncomputable def sttO(s:Stt):OT:=.val (stD s)
noncomputable def lnS(A:List Stt)(c:Stt)(B:List Stt):OT:=lnM c.1 c.2 (A.map sttO) (B.map sttO)
theorem RU(A:List Stt):otDs (A.map sttO)=A.map stD:=by
 induction A with
 |nil=>rfl
 |cons a l ih=>simp[otDs,otD,sttO,ih]
theorem JU(A:List Stt)(c:Stt)(B:List Stt):otD (lnS A c B)=.ins 11 [.lst (c.1.map rwD),mkD c.2,.lst (A.map stD),.lst (B.map stD)]:=by
 unfold lnS lnM;rw[RT,RU,RU]
theorem backS{A B:List Stt}{a c:Stt}(h:B.length<1000):eU (lnS (A++[a]) c B) []=some (lnS A a (B++[c])):=by
 have:=back_eq (P:=.lst (c.1.map rwD)) (M:=mkD c.2) (P':=.lst (a.1.map rwD)) (M':=mkD a.2) (es:=A.map sttO) (ls:=B.map sttO) (bI (by simpa using h) (by decide));simpa[lnS,lnM,sttO,stD] using this
theorem againS{A B:List Stt}{b c:Stt}(h:A.length<1000):eB (lnS A c (B++[b])) []=some (lnS (A++[c]) b B):=by
 have:=aCw (P:=.lst (c.1.map rwD)) (M:=mkD c.2) (P':=.lst (b.1.map rwD)) (M':=mkD b.2) (es:=A.map sttO) (ls:=B.map sttO) (bI (by simpa using h) (by decide));simpa[lnS,lnM,sttO,stD] using this
theorem backX(P M L:D)(E:List D):dL [.ins 11 [P,M,.lst E,L]]=E.isEmpty:=by
 unfold dL runX fH ifX;cases E<;>simp[args,tW,DK]
theorem aCx(P M E:D)(L:List D):dG [.ins 11 [P,M,E,.lst L]]=L.isEmpty:=by
 unfold dG runX eZ ifX;cases L<;>simp[args,tW,DK]
theorem aCv(A:List Stt)(c:Stt):cP (lnS A c []) [.non,.int 5,.bl true]=some (.bl true,lnS A c []):=by
 have hx:=aCx (.lst (c.1.map rwD)) (mkD c.2) (.lst (A.map stD)) ([]:List D);have ho:=JU A c [];simp only[dO] at ho;unfold cP lentR fJ seqR tryNG relXO ifX methX;generalize lnS A c []=T at *;simp[args,relO,ho,isT,hx,vR,obAt]
theorem back_no(c:Stt)(B:List Stt){w:Int}(hw:w≠5):cP (lnS [] c B) [.non,.int w,.bl true]=some (.bl true,lnS [] c B):=by
 have hx:=backX (.lst (c.1.map rwD)) (mkD c.2) (.lst (B.map stD)) ([]:List D);have ho:=JU [] c B;simp only[dO] at ho;unfold cP lentR fJ seqR tryNG relXO ifX methX;generalize lnS [] c B=T at *;simp[args,relO,ho,isT,hx,vR,obAt,hw]
theorem XA{A B:List Stt}{b c:Stt}(h:A.length<1000):cP (lnS A c (B++[b])) [.non,.int 5,.bl false]=some (.bl true,lnS (A++[c]) b B):=by
 have hx:=aCx (.lst (c.1.map rwD)) (mkD c.2) (.lst (A.map stD)) ((B++[b]).map stD);have hn:((B++[b]).map stD).isEmpty=false:=by simp
 rw[hn] at hx;have ho:=JU A c (B++[b]);have hs:=againS (B:=B) (b:=b) (c:=c) h;obtain⟨U,hU⟩:∃U,lnS A c (B++[b])=.ins 11 U:=⟨_,rfl⟩
 rw[hU] at ho hs ⊢;generalize lnS (A++[c]) b B=T' at *;generalize (B++[b]).map stD=BB at *;unfold cP lentR fJ seqR tryNG relXO ifX methX;simp[args,relO,ho,isT,hx,vR,obAt,setR,lentV,lentG,varP,hs,putP,putO]
theorem aCs{A B:List Stt}{a c:Stt}{w:Int}(hw:w≠5)(h:B.length<1000):cP (lnS (A++[a]) c B) [.non,.int w,.bl false]=some (.bl true,lnS A a (B++[c])):=by
 have hx:=backX (.lst (c.1.map rwD)) (mkD c.2) (.lst (B.map stD)) ((A++[a]).map stD);have hn:((A++[a]).map stD).isEmpty=false:=by simp
 rw[hn] at hx;have ho:=JU (A++[a]) c B;have hs:=backS (A:=A) (a:=a) (c:=c) h;obtain⟨U,hU⟩:∃U,lnS (A++[a]) c B=.ins 11 U:=⟨_,rfl⟩
 rw[hU] at ho hs ⊢;generalize lnS A a (B++[c])=T' at *;generalize (A++[a]).map stD=BB at *;unfold cP lentR fJ seqR tryNG relXO ifX methX;simp[args,relO,ho,isT,hx,vR,obAt,setR,lentV,lentG,varP,hs,putP,putO,hw]
theorem jS{g:FS}{f:FX}{ds ds':List Sl}(h:g ds=some (.nx ds')):seqR g f ds=f ds':=by simp[seqR,h]
theorem ZQ{n:List Nat}{w:Option Int}{Q:Mks}(h:n∉Q.map (·.1)):putM n w Q=Q++[(n,w)]:=by simp[putM,h]
theorem nx_turn{d:Dd}(hd:okD d){Q:Mks}{n:List Nat}{v:Option Int}(hn:n∉Q.map (·.1))(hl:Q.length<=1000)(A0 A1 A2 A3 A4 A5 A6:Sl) :
  kZ [A0,A1,A2,A3,A4,A5,A6,.ob none (mkO Q),.v (.str (txS n)),.v (told3 d),.v (oi v)]=some (.nx [A0,A1,A2,A3,A4,A5,A6,.ob none (mkO (Q++[(n,v.bind (wentF d))])),.v (.str (txS n)),.v (told3 d),.v (oi v)]):=by
 have hw:=YM d hd v;have pk:=ZP n (v.bind (wentF d)) Q;rw[ZQ hn] at pk;have hk:((mkN Q).map (Sum.inr:Str->Key)).length<16777216:=dU (show _<=1000 by simpa[mkN] using hl) (by decide);unfold kZ dputG;have e0:mkO Q=.dct ((mkN Q).map Sum.inr) ((mkV Q).map OT.val):=rfl;rw[e0];generalize (mkN Q).map Sum.inr=KK at *;generalize (mkV Q).map OT.val=VV at *;generalize mkO (Q++[(n,v.bind (wentF d))])=M at *;generalize told3 d=TD at *;simp[hw,keyD,varP,hk,pk,putP,putO]
theorem RZ{d:Dd}(hd:okD d)(A0 A1 A2 A3 A4 A5 A6:Sl):∀(r Q:Mks) (y8 y10:Sl),((Q++r).map (·.1)).Nodup->(Q++r).length<=1000->∃z8 z10,
  jM (tupG 2 (zU (qA 8) (zU (qA 10) tgNil))) kZ (gL ((mkN r).map Sum.inr) (mkV r)) [A0,A1,A2,A3,A4,A5,A6,.ob none (mkO Q),y8,.v (told3 d),y10]=some (.nx [A0,A1,A2,A3,A4,A5,A6,.ob none (mkO (Q++goM d r)),z8,.v (told3 d),z10])
 |[],Q,y8,y10,_,_=>⟨y8,y10,by simp[gL,mkN,mkV,jM,goM]⟩
 | (n, v) :: r, Q, y8, y10, nd, hl => by
   have hn:n∉Q.map (·.1):=fun z=>by
    rw[iB,dM] at nd;exact nd.2.2 _ z n (by simp) rfl
   have tr:=nx_turn hd (n:=n) (v:=v) hn (by simp at hl;omega) A0 A1 A2 A3 A4 A5 A6;obtain⟨z8,z10,ih⟩:=RZ hd A0 A1 A2 A3 A4 A5 A6 r (Q++[(n,v.bind (wentF d))]) (.v (.str (txS n))) (.v (oi v)) (by simpa using nd) (by simp at hl ⊢;omega);refine⟨z8,z10,?_⟩;have e0:gL ((mkN ((n,v)::r)).map Sum.inr) (mkV ((n,v)::r))=.tup [.str (txS n),oi v]::gL ((mkN r).map Sum.inr) (mkV r):=by simp[gL,mkN,mkV,keyDD]
   have e1:mkO (Q++goM d ((n,v)::r))=mkO (Q++[(n,v.bind (wentF d))]++goM d r):=by simp[goM]
   rw[e0,e1,jM];generalize gL ((mkN r).map Sum.inr) (mkV r)=I at *;have tg:tupG 2 (zU (qA 8) (zU (qA 10) tgNil)) (.tup [.str (txS n),oi v]) [A0,A1,A2,A3,A4,A5,A6,.ob none (mkO Q),y8,.v (told3 d),y10]=some [A0,A1,A2,A3,A4,A5,A6,.ob none (mkO Q),.v (.str (txS n)),.v (told3 d),.v (oi v)]:=by simp[tupG,zU,tgNil,qA]
   rw[tg];simp only[aO];rw[tr];simpa using ih
theorem known1{mk:Mks}(hl:mk.length<=1000){ds:List Sl}(h5:ds[5]?=some (.v (mkD mk))):compG (valsA (qC 5)) [none] (qA 0) (zS (zI notD (zJ 0) (zA .non))) (qC 0) ds=some ((mk.filterMap (·.2)).map D.int):=by
 refine xA (items:=mk.map fun p=>oi p.2) (by simp[valsA,mkV,qC,h5,mkD]) (by simp;omega) ?_;have es:qZ [none] ds=[.no]:=by simp[qZ]
 rw[es,xP (fun p:List Nat×Option Int=>oi p.2) (fun p=>p.2.isSome) (fun p=>oi p.2) mk]
 . congr 1;clear hl h5
   induction mk with
   |nil=>rfl
   |cons p r ih=>cases h:p.2<;>simp[h,ih]
 . intro p _;refine⟨_,rfl,?_,fun _=>by simp[qZ]⟩;cases h:p.2<;>simp[qZ]
theorem known2{ps:List Rw}(hl:ps.length<=1000){ds:List Sl}(h4:ds[4]?=some (.v (.lst (ps.map rwD)))):compG (viaA (qC 4) asLT) [none,none,none] (tupG 3 (zU (qA 0) (zU (qA 1) (zU (qA 2) tgNil)))) (zS (zI notD (zJ 0) (zA .non))) (qC 0) ds=some ((ps.filterMap (·.1)).map D.int):=by
 refine xA (items:=ps.map rwD) (by simp[viaA,qC,h4]) (by simp;omega) ?_;have es:qZ [none,none,none] ds=[.no,.no,.no]:=by simp[qZ]
 rw[es,xP rwD (fun p=>p.1.isSome) (fun p=>oi p.1) ps]
 . congr 1;clear hl h4
   induction ps with
   |nil=>rfl
   |cons p r ih=>cases h:p.1<;>simp[h,ih]
 . intro p _;refine⟨_,by simp[rwD,tupG,zU,tgNil,qA];rfl,?_,fun _=>by simp[qZ]⟩;cases h:p.1<;>simp[qZ]
structure SOk(k:Nat)(s:Stt):Prop where
 m:MapF s.1
 l:s.1.length<=6+2*k
 o:MkOk s.2
 n:s.2.length<=k
theorem SOk.up{k k':Nat}{s:Stt}(h:SOk k s)(hk:k<=k'):SOk k' s:=⟨h.m,by have:=h.l;omega,h.o,by have:=h.n;omega⟩
theorem SM(A B:List Stt)(c c':Stt):lnM c'.1 c'.2 (A.map sttO++[FL.stM c.1 c.2]) []=lnS (A++[c]) c' []:=by simp[lnS,sttO,stD,FL.stM]
theorem next_ex{k:Nat}(hk:k<=40){A B:List Stt}{c:Stt}(hc:SOk k c)(hA:A.length<=1000)(a b d sd:Int):∃c':Stt,SOk (k+1) c' ∧
  iF (lnS A c B) [.non,stD c,.lst [.int a,.int b,.int d],.int sd]=some (stD c',lnS (A++[c]) c' []):=by
 obtain⟨ps,mk⟩:=c;have l0:=nT (·.1) ps;have l1:=nT (·.2) mk;have hl:=hc.l;have hn:=hc.n;have hA':(A.map sttO).length<sizeLine:=dU (show _<=1000 by simpa using hA) (by decide);simp only at hl hn;obtain⟨KN,eK,lK⟩:∃KN:List Int,KN=mk.filterMap (·.2)++ps.filterMap (·.1)/\KN.length<100000:=⟨_,rfl,by rw[bR];omega⟩
 obtain⟨nm,hnm,enm⟩:=name_ex sd b;obtain⟨pl,epl⟩:=HQ d KN lK;obtain⟨dd,hd,ed⟩:=row2_ex (a/6) b d KN lK;have ma:=aBk dd hd;have z:(mk.filterMap (·.2)).length+(ps.filterMap (·.1)).length<=16777216:=by omega
 have i0:ixD (.lst [.int a,.int b,.int d]) (.int 0)=some (.int a):=rfl;have i1:ixD (.lst [.int a,.int b,.int d]) (.int 1)=some (.int b):=rfl;have i2:=SS (.int a) (.int b) (.int d);have ar:(args 11 [.non,stD (ps,mk),.lst [.int a,.int b,.int d],.int sd]).set 0 (.ob (some 0) (lnS A (ps,mk) B))=[.ob (some 0) (lnS A (ps,mk) B),.v (stD (ps,mk)),.v (.lst [.int a,.int b,.int d]),.v (.int sd),.no,.no,.no,.no,.no,.no,.no]:=by simp[args]
 have k1:=fun ds h=>known1 (mk:=mk) (by omega) (ds:=ds) h;have k2:=fun ds h=>known2 (ps:=ps) (by omega) (ds:=ds) h;obtain⟨U,hU⟩:∃U,lnS A (ps,mk) B=.ins 11 U:=⟨_,rfl⟩
 unfold iF lentR;rw[ar];unfold oA
 have cat:catA (zJ 6) (mkL (compG (viaA (qC 4) asLT) [none,none,none] (tupG 3 (zU (qA 0) (zU (qA 1) (zU (qA 2) tgNil)))) (zS (zI notD (zJ 0) (zA .non))) (qC 0)))
   [.ob (some 0) (lnS A (ps,mk) B),.v (stD (ps,mk)),.v (.lst [.int a,.int b,.int d]),.v (.int sd),.v (.lst (ps.map rwD)),.v (mkD mk),.v (.lst ((mk.filterMap (·.2)).map D.int)),.no,.no,.no,.no]=some (KN.map D.int):=by
  rw[eK,iB];unfold catA;simp[sI,k2,z]
 have c1:=k1 [.ob (some 0) (lnS A (ps,mk) B),.v (stD (ps,mk)),.v (.lst [.int a,.int b,.int d]),.v (.int sd),.v (.lst (ps.map rwD)),.v (mkD mk),.no,.no,.no,.no,.no] rfl;generalize compG (viaA (qC 4) asLT) [none,none,none] (tupG 3 (zU (qA 0) (zU (qA 1) (zU (qA 2) tgNil)))) (zS (zI notD (zJ 0) (zA .non))) (qC 0)=C2 at *;generalize compG (valsA (qC 5)) [none] (qA 0) (zS (zI notD (zJ 0) (zA .non))) (qC 0)=C1 at *;have est:stD (ps,mk)=.tup [.lst (ps.map rwD),mkD mk]:=rfl;have kd:kdD (mkD mk)=some ((mkN mk).map Sum.inr,mkV mk):=rfl;have eo:OT.dct ((mkN mk).map Sum.inr) ((mkV mk).map OT.val)=mkO mk:=rfl
 by_cases h6:a%6=2
 . refine ⟨(ps, putM nm (some pl) mk), ⟨hc.m, by simp only; omega, hc.o.put hnm _, by have := ZR nm (some pl) mk; simp only; omega⟩, ?_⟩;have mm:=markM hnm (ps:=ps) (mk:=mk) (es:=A.map sttO) (ls:=B.map sttO) (some pl) hA' (dU (show mk.length<=1000 by omega) (by decide));rw [show FL.stM ps mk=FL.stM (ps,mk).1 (ps,mk).2 from rfl,SM A B (ps,mk) (ps,putM nm (some pl) mk)] at mm;rw [show lnM ps mk (A.map sttO) (B.map sttO)=lnS A (ps,mk) B from rfl,hU] at mm;rw [hU] at c1 cat ⊢;have pk:=ZP nm (some pl) mk;have hk':((mkN mk).map (Sum.inr:Str->Key)).length < 16777216:=dU (show _<=1000 by simp [mkN]; omega) (by decide);have dg:=fun ds hf hg=>dgetO (mk:=putM nm (some pl) mk) (hc.o.put hnm (some pl)).nd (aBf nm (some pl) mk) (ds:=ds) (f:=qC 7) (g:=qC 8) hf hg;have eo2:mkO (putM nm (some pl) mk) = .dct ((mkN (putM nm (some pl) mk)).map Sum.inr) ((mkV (putM nm (some pl) mk)).map OT.val):=rfl;have emk:mkD (putM nm (some pl) mk) = .dcf ((mkN (putM nm (some pl) mk)).map Sum.inr) (mkV (putM nm (some pl) mk)):=rfl;have vo:=xD (mkV (putM nm (some pl) mk));have est2:stD (ps,putM nm (some pl) mk) = .tup [.lst (ps.map rwD),mkD (putM nm (some pl) mk)]:=rfl;rw [est2];generalize lnS (A++[(ps,mk)]) (ps,putM nm (some pl) mk) []=T' at *;rw [est] at c1 cat ⊢;generalize hP:ps.map rwD=P at *;generalize hKN:KN.map D.int=KK at *;generalize (mk.filterMap (·.2)).map D.int=FM at *
   rw[jS (ds':=[.ob (some 0) (.ins 11 U),.v (.tup [.lst P,mkD mk]),.v (.lst [.int a,.int b,.int d]),.v (.int sd),.v (.lst P),.v (mkD mk),.no,.no,.no,.no,.no]) (by simp[asgG,tupG,zU,tgNil,qA]),
    jS (ds':=[.ob (some 0) (.ins 11 U),.v (.tup [.lst P,mkD mk]),.v (.lst [.int a,.int b,.int d]),.v (.int sd),.v (.lst P),.v (mkD mk),.v (.lst FM),.no,.no,.no,.no]) (by rw[vY,sI,c1];rfl),
    jS (ds':=[.ob (some 0) (.ins 11 U),.v (.tup [.lst P,mkD mk]),.v (.lst [.int a,.int b,.int d]),.v (.int sd),.v (.lst P),.v (mkD mk),.v (.lst KK),.no,.no,.no,.no]) (by rw[vY,sI,cat];rfl),
    jS (ds':=[.ob (some 0) (.ins 11 U),.v (.tup [.lst P,mkD mk]),.v (.lst [.int a,.int b,.int d]),.v (.int sd),.v (.lst P),.v (mkD mk),.v (.lst KK),.ob none (.dct [] []),.no,.no,.no]) (by simp[setB,dO0])]
   unfold ifR;have ht:zS (zI eqD (zI jA (zI ixD (zJ 2) (zA (.int 0))) (zA (.int 6))) (zA (.int 2))) [.ob (some 0) (.ins 11 U),.v (.tup [.lst P,mkD mk]),.v (.lst [.int a,.int b,.int d]),.v (.int sd),.v (.lst P),.v (mkD mk),.v (.lst KK),.ob none (.dct [] []),.no,.no,.no]=some true:=by simp[i0,h6]
   rw[ht];simp only[aO,if_true]
   rw[jS (ds':=[.ob (some 0) (.ins 11 U),.v (.tup [.lst P,mkD mk]),.v (.lst [.int a,.int b,.int d]),.v (.int sd),.v (.lst P),.v (mkD mk),.v (.lst KK),.ob none (mkO mk),.no,.no,.no]) (by simp[setB,uT,kd,eo]),
    jS (ds':=[.ob (some 0) (.ins 11 U),.v (.tup [.lst P,mkD mk]),.v (.lst [.int a,.int b,.int d]),.v (.int sd),.v (.lst P),.v (mkD mk),.v (.lst KK),.ob none (mkO mk),.v (.str (txS nm)),.no,.no]) (by simp[i1,enm]),
    jS (ds':=[.ob (some 0) (.ins 11 U),.v (.tup [.lst P,mkD mk]),.v (.lst [.int a,.int b,.int d]),.v (.int sd),.v (.lst P),.v (mkD mk),.v (.lst KK),.ob none (mkO (putM nm (some pl) mk)),.v (.str (txS nm)),.no,.no]) (by
     rw[<- eo];rw[kF] at pk;generalize mkO (putM nm (some pl) mk)=M2 at *;generalize (mkN mk).map Sum.inr=KS at *;generalize (mkV mk).map OT.val=VS at *;generalize mkD mk=MD at *
     simp[dputG,i2,epl,varP,keyD,hk',pk,putP,putO])]
   have rv:relVO 7 (dgetG (qC 7) (qC 8)) [.ob (some 0) (.ins 11 U),.v (.tup [.lst P,mkD mk]),.v (.lst [.int a,.int b,.int d]),.v (.int sd),.v (.lst P),.v (mkD mk),.v (.lst KK),.ob none (mkO (putM nm (some pl) mk)),.v (.str (txS nm)),.no,.no]=some (.int pl):=by
    unfold relVO;rw[show relO 7 [.ob (some 0) (.ins 11 U),.v (.tup [.lst P,mkD mk]),.v (.lst [.int a,.int b,.int d]),.v (.int sd),.v (.lst P),.v (mkD mk),.v (.lst KK),.ob none (mkO (putM nm (some pl) mk)),.v (.str (txS nm)),.no,.no]=[.ob (some 0) (.ins 11 U),.v (.tup [.lst P,mkD mk]),.v (.lst [.int a,.int b,.int d]),.v (.int sd),.v (.lst P),.v (mkD mk),.v (.lst KK),.v (otD (mkO (putM nm (some pl) mk))),.v (.str (txS nm)),.no,.no] from rfl,dg _ (by simp) (by simp)];rfl
   rw[kF] at mm;generalize relVO 7 (dgetG (qC 7) (qC 8))=RV at *;rw[jS (ds':=[.ob (some 0) T',.v (.tup [.lst P,mkD mk]),.v (.lst [.int a,.int b,.int d]),.v (.int sd),.v (.lst P),.v (mkD mk),.v (.lst KK),.ob none (mkO (putM nm (some pl) mk)),.v (.str (txS nm)),.no,.no]) (by simp[lentG,varP,rv,mm,putP,putO])];rw[eo2];unfold frzDR;simp only[cE,cD,vo,aO,gA,fZ];rw[<- emk];generalize mkD (putM nm (some pl) mk)=M3 at *;simp[vR,obAt]
 . have mf := aCg hd hc.m;have dl:=WN hd hc.m;simp only at mf dl;refine ⟨(doneF dd ps,goM dd mk),⟨mf,by simp only; omega,hc.o.go dd,by have:=goM_len dd mk; simp only; omega⟩,?_⟩;have mm:=doM hd (ps:=ps) hc.m (by omega) (mk:=mk) hc.o (es:=A.map sttO) (ls:=B.map sttO) hA' (cJ (show mk.length<=1000 by omega) (by decide));rw [show FL.stM ps mk=FL.stM (ps,mk).1 (ps,mk).2 from rfl,SM A B (ps,mk) (doneF dd ps,goM dd mk)] at mm;rw [show lnM ps mk (A.map sttO) (B.map sttO)=lnS A (ps,mk) B from rfl,hU] at mm;rw [hU] at c1 cat ⊢;have de:=TK hd hc.m (by simp only; omega);simp only at de;have nl:=fun A0 A1 A2 A3 A4 A5 A6=>RZ hd A0 A1 A2 A3 A4 A5 A6 mk [] .no .no (by simpa using hc.o.nd) (by simp; omega);have eo2:mkO (goM dd mk) = .dct ((mkN (goM dd mk)).map Sum.inr) ((mkV (goM dd mk)).map OT.val):=rfl;have emk:mkD (goM dd mk) = .dcf ((mkN (goM dd mk)).map Sum.inr) (mkV (goM dd mk)):=rfl;have vo:=xD (mkV (goM dd mk));have est2:stD (doneF dd ps,goM dd mk) = .tup [.lst ((doneF dd ps).map rwD),mkD (goM dd mk)]:=rfl;have lp:(ps.map rwD).length<=16777216:=by simp; omega
   have im:mkD mk=.dcf ((mkN mk).map Sum.inr) (mkV mk):=rfl;rw[est2];generalize lnS (A++[(ps,mk)]) (doneF dd ps,goM dd mk) []=T' at *;rw[est] at c1 cat ⊢;generalize hP:ps.map rwD=P at *;generalize (doneF dd ps).map rwD=P2 at *;generalize hKN:KN.map D.int=KK at *;generalize (mk.filterMap (·.2)).map D.int=FM at *
   rw[jS (ds':=[.ob (some 0) (.ins 11 U),.v (.tup [.lst P,mkD mk]),.v (.lst [.int a,.int b,.int d]),.v (.int sd),.v (.lst P),.v (mkD mk),.no,.no,.no,.no,.no]) (by simp[asgG,tupG,zU,tgNil,qA]),
    jS (ds':=[.ob (some 0) (.ins 11 U),.v (.tup [.lst P,mkD mk]),.v (.lst [.int a,.int b,.int d]),.v (.int sd),.v (.lst P),.v (mkD mk),.v (.lst FM),.no,.no,.no,.no]) (by rw[vY,sI,c1];rfl),
    jS (ds':=[.ob (some 0) (.ins 11 U),.v (.tup [.lst P,mkD mk]),.v (.lst [.int a,.int b,.int d]),.v (.int sd),.v (.lst P),.v (mkD mk),.v (.lst KK),.no,.no,.no,.no]) (by rw[vY,sI,cat];rfl),
    jS (ds':=[.ob (some 0) (.ins 11 U),.v (.tup [.lst P,mkD mk]),.v (.lst [.int a,.int b,.int d]),.v (.int sd),.v (.lst P),.v (mkD mk),.v (.lst KK),.ob none (mkO []),.no,.no,.no]) (by simp[setB,dO0,mkO,mkN,mkV])]
   unfold ifR;have ht:zS (zI eqD (zI jA (zI ixD (zJ 2) (zA (.int 0))) (zA (.int 6))) (zA (.int 2))) [.ob (some 0) (.ins 11 U),.v (.tup [.lst P,mkD mk]),.v (.lst [.int a,.int b,.int d]),.v (.int sd),.v (.lst P),.v (mkD mk),.v (.lst KK),.ob none (mkO []),.no,.no,.no]=some false:=by simp[i0,h6]
   rw[ht];simp only[aO,UE,if_false];have c9:qN 1 gK (zB (zJ 9) zV)=qN 1 gK (zB (zJ 9) zV):=rfl
   rw[jS (ds':=[.ob (some 0) (.ins 11 U),.v (.tup [.lst P,mkD mk]),.v (.lst [.int a,.int b,.int d]),.v (.int sd),.v (.lst P),.v (mkD mk),.v (.lst KK),.ob none (mkO []),.no,.v (told3 dd),.no]) (by generalize told3 dd=TD at *;simp[i0,i1,i2,ed]),
    jS (ds':=[.ob (some 0) T',.v (.tup [.lst P,mkD mk]),.v (.lst [.int a,.int b,.int d]),.v (.int sd),.v (.lst P),.v (mkD mk),.v (.lst KK),.ob none (mkO []),.no,.v (told3 dd),.no]) (by
     generalize insD dd=ID at *;generalize told3 dd=TD at *
     simp[lentG,varP,ma,mm,putP,putO])]
   obtain⟨z8,z10,nl⟩:=nl (.ob (some 0) T') (.v (.tup [.lst P,mkD mk])) (.v (.lst [.int a,.int b,.int d])) (.v (.int sd)) (.v (.lst P)) (.v (mkD mk)) (.v (.lst KK));simp only[CF] at nl
   rw[jS (ds':=[.ob (some 0) T',.v (.tup [.lst P,mkD mk]),.v (.lst [.int a,.int b,.int d]),.v (.int sd),.v (.lst P),.v (mkD mk),.v (.lst KK),.ob none (mkO (goM dd mk)),z8,.v (told3 dd),z10]) (by
    unfold forG oQ;simp only[getV_eq,cE,cD];rw[im] at nl ⊢;simp only[aO]
    exact nl)]
   rw[eo2];unfold frzDR;simp only[cE,cD,vo,aO,gA,fZ];rw[<- emk];generalize mkD (goM dd mk)=M3 at *;generalize mkD mk=M4 at *;generalize insD dd=ID at *;generalize told3 dd=TD at *;simp[vR,obAt,ma,de,lp]
theorem as_is{k:Nat}(hk:k<=40){A B:List Stt}{c:Stt}(hc:SOk k c)(w:Int):dH [otD (lnS A c B),stD c,.int w]=some (.val (.bl true)):=by
 obtain⟨ps,mk⟩:=c;have hn:=hc.n;simp only at hn;have st:=fun t=>standsM hc.o (M:=mkD mk) rfl (by simp only;omega) ps (A.map sttO) (ls:=B.map sttO) t;have tl:=toldM ps mk (A.map sttO) (B.map sttO);have ne:=PM ps ps;simp only[decide_true,Bool.not_true] at ne;have est:stD (ps,mk)=.tup [.lst (ps.map rwD),mkD mk]:=rfl;rw[est,show lnS A (ps,mk) B=lnM ps mk (A.map sttO) (B.map sttO) from rfl];simp only at st;unfold dH runG iW;generalize otD (lnM ps mk (A.map sttO) (B.map sttO))=L at *;generalize ps.map rwD=P at *;generalize mkD mk=M at *
 by_cases h:w%2=1
 . simp[args,st,tl,ne,h]
 . simp[args,st,tl,ne,h]
noncomputable def kpD(c:Stt):D:=.tup [.lst (c.1.map rwD),.lst ((srtT (mkN c.2)).map D.str),stD c]
theorem kp_turn{k:Nat}(hk:k<=40){c:Stt}(hc:SOk k c)(A0 A1 A2 A3 A4 A5 A6 A7 A8 A9 A10 A11:Sl) :
  nZ [A0,A1,A2,A3,A4,A5,A6,A7,A8,A9,A10,A11,.v (.lst (c.1.map rwD)),.v (.lst ((srtT (mkN c.2)).map D.str)),.v (stD c)]=some (.nx [A0,A1,A2,A3,A4,A5,A6,A7,A8,A9,A10,A11,.v (.lst (c.1.map rwD)),.v (.lst ((srtT (mkN c.2)).map D.str)),.v (stD c)]):=by
 obtain⟨ps,mk⟩:=c;have hn:=hc.n;simp only at hn;have ne:=PM ps ps;simp only[decide_true,Bool.not_true] at ne;have ns:=MT (nm_ok hc.o);simp only at ns;have sr:=fun ds f hf=>srtM (mk:=mk) (by omega) (M:=mkD mk) rfl (ds:=ds) (f:=f) hf;have sr2:=sr [A0,A1,A2,A3,A4,A5,A6,A7,A8,A9,A10,A11,.v (.lst (ps.map rwD)),.v (.lst ((srtT (mkN mk)).map D.str)),.v (stD (ps,mk))] (zI ixD (zJ 14) (zA (.int 1))) (by simp[stD]);have est:stD (ps,mk)=.tup [.lst (ps.map rwD),mkD mk]:=rfl;rw[est] at sr2 ⊢;unfold nZ;simp only at ns sr2 ⊢;generalize srtDA (zI ixD (zJ 14) (zA (.int 1)))=SR at *;generalize (srtT (mkN mk)).map D.str=NN at *;generalize ps.map rwD=P at *;generalize mkD mk=M at *;simp[ne,ns,sr2]
theorem SN{k:Nat}(hk:k<=40)(A0 A1 A2 A3 A4 A5 A6 A7 A8 A9 A10 A11:Sl):∀(cs:List Stt) (x y z:Sl),(∀c∈cs,SOk k c)->∃x' y' z',
  jM (tupG 3 (zU (qA 12) (zU (qA 13) (zU (qA 14) tgNil)))) nZ (cs.map kpD) [A0,A1,A2,A3,A4,A5,A6,A7,A8,A9,A10,A11,x,y,z]=some (.nx [A0,A1,A2,A3,A4,A5,A6,A7,A8,A9,A10,A11,x',y',z'])
 |[],x,y,z,_=>⟨x,y,z,rfl⟩
 | c :: cs, x, y, z, h => by
   have tr:=kp_turn hk (h c (.head _)) A0 A1 A2 A3 A4 A5 A6 A7 A8 A9 A10 A11;obtain⟨x',y',z',ih⟩:=SN hk A0 A1 A2 A3 A4 A5 A6 A7 A8 A9 A10 A11 cs (.v (.lst (c.1.map rwD))) (.v (.lst ((srtT (mkN c.2)).map D.str))) (.v (stD c)) fun q hq=>h q (.tail _ hq);refine⟨x',y',z',?_⟩;rw[bE,jM]
   have tg:tupG 3 (zU (qA 12) (zU (qA 13) (zU (qA 14) tgNil))) (kpD c) [A0,A1,A2,A3,A4,A5,A6,A7,A8,A9,A10,A11,x,y,z]=some [A0,A1,A2,A3,A4,A5,A6,A7,A8,A9,A10,A11,.v (.lst (c.1.map rwD)),.v (.lst ((srtT (mkN c.2)).map D.str)),.v (stD c)]:=by
    unfold kpD;generalize stD c=X;simp[tupG,zU,tgNil,qA]
   rw[tg];simp only[aO];rw[tr];simpa using ih
theorem WG(l:List Rw):flats (l.map rwD)=true:=by
 induction l with
 |nil=>rfl
 | cons r t ih =>
   have:flat (rwD r)=true:=by
    obtain⟨a,b,c⟩:=r;cases a<;>cases b<;>cases c<;>rfl
   simp[flats,this,ih]
theorem WF(l:List Str):flats (l.map D.str)=true:=by
 induction l with
 |nil=>rfl
 |cons r t ih=>simp[flats,flat,ih]
theorem tail_eq{k:Nat}(hk:k<=40){A B:List Stt}{c:Stt}(hc:SOk k c){SL CL:List D}{m i a:Int}(hi:ixD (.lst SL) (.int m)=some (stD c))(ha:ixD (.lst CL) (.int (3*i))=some (.int a))(m3:xV (.int 3) (.int i)=some (.int (3*i))){L:List D}(hL:L.length<16777216)(A0 A1 A2 x9 x10 x11 x12 x13 x14:Sl) :
  qG (ifG (notT (relTO 4 (testT (qN 3 dH (zB (zJ 4) (zB (zI ixD (zJ 3) (zJ 5)) (zB (zI qR (zI ixD (zJ 6) (zI xV (zA (.int 3)) (zJ 8))) (zA (.int 48))) zV))))))) (retG (zA (.bl false))) qJ)
   (appG 7 (mkT (qD (zB (mkL (relFO 4 (methF 0 [11] cR (qC 4) zV))) (zB (mkL (relFO 4 (methF 0 [11] cM (qC 4) zV))) (zB (zI ixD (zJ 3) (zJ 5)) zV))))))
   [A0,A1,A2,.v (.lst SL),.ob none (lnS A c B),.v (.int m),.v (.lst CL),.own L,.v (.int i),x9,x10,x11,x12,x13,x14] =
  some (.nx [A0,A1,A2,.v (.lst SL),.ob none (lnS A c B),.v (.int m),.v (.lst CL),.own (L++[kpD c]),.v (.int i),x9,x10,x11,x12,x13,x14]):=by
 have ai:=as_is hk hc (A:=A) (B:=B) (a/48);have hn:=hc.n;have tl:=toldM c.1 c.2 (A.map sttO) (B.map sttO);have mm:=aBh (mk:=c.2) (by omega) c.1 (A.map sttO) (B.map sttO);have f1:=WG c.1;have f2:=WF (srtT (mkN c.2));rw[show lnM c.1 c.2 (A.map sttO) (B.map sttO)=lnS A c B from rfl] at tl mm;have r4:relO 4 [A0,A1,A2,.v (.lst SL),.ob none (lnS A c B),.v (.int m),.v (.lst CL),.own L,.v (.int i),x9,x10,x11,x12,x13,x14]=[A0,A1,A2,.v (.lst SL),.v (otD (lnS A c B)),.v (.int m),.v (.lst CL),.own L,.v (.int i),x9,x10,x11,x12,x13,x14]:=rfl;have ek:kpD c=.tup [.lst (c.1.map rwD),.lst ((srtT (mkN c.2)).map D.str),stD c]:=rfl;rw[ek];generalize stD c=SD at *
 have t1:relTO 4 (testT (qN 3 dH (zB (zJ 4) (zB (zI ixD (zJ 3) (zJ 5)) (zB (zI qR (zI ixD (zJ 6) (zI xV (zA (.int 3)) (zJ 8))) (zA (.int 48))) zV))))) [A0,A1,A2,.v (.lst SL),.ob none (lnS A c B),.v (.int m),.v (.lst CL),.own L,.v (.int i),x9,x10,x11,x12,x13,x14]=some true:=by
  unfold relTO;rw[r4];generalize otD (lnS A c B)=OL at *;simp[hi,m3,ha,ai]
 have t2:relFO 4 (methF 0 [11] cR (qC 4) zV) [A0,A1,A2,.v (.lst SL),.ob none (lnS A c B),.v (.int m),.v (.lst CL),.own L,.v (.int i),x9,x10,x11,x12,x13,x14]=some (c.1.map rwD):=by
  unfold relFO;rw[r4];generalize otD (lnS A c B)=OL at *;generalize c.1.map rwD=P at *;simp[methF,tl,f1,retF]
 have t3:relFO 4 (methF 0 [11] cM (qC 4) zV) [A0,A1,A2,.v (.lst SL),.ob none (lnS A c B),.v (.int m),.v (.lst CL),.own L,.v (.int i),x9,x10,x11,x12,x13,x14]=some ((srtT (mkN c.2)).map D.str):=by
  unfold relFO;rw[r4];generalize otD (lnS A c B)=OL at *;generalize (srtT (mkN c.2)).map D.str=P at *;simp[methF,mm,f2,retF]
 generalize relTO 4 (testT (qN 3 dH (zB (zJ 4) (zB (zI ixD (zJ 3) (zJ 5)) (zB (zI qR (zI ixD (zJ 6) (zI xV (zA (.int 3)) (zJ 8))) (zA (.int 48))) zV)))))=G1 at *;generalize relFO 4 (methF 0 [11] cR (qC 4) zV)=G2 at *;generalize relFO 4 (methF 0 [11] cM (qC 4) zV)=G3 at *;generalize c.1.map rwD=P at *;generalize (srtT (mkN c.2)).map D.str=P2 at *;generalize lnS A c B=T at *;rw[qP (ds':=[A0,A1,A2,.v (.lst SL),.ob none T,.v (.int m),.v (.lst CL),.own L,.v (.int i),x9,x10,x11,x12,x13,x14]) (by simp[t1])];simp[t2,t3,hi,hL]
theorem cut_to(l:List D)(b:Nat):FL.cutD l none (some (b:Int))=l.take b:=by
 have e2:HT.sIx l.length l.length (some (b:Int))=min b l.length:=by simp[HT.sIx];omega
 have e1:HT.sIx l.length 0 none=0:=rfl;unfold FL.cutD;rw[e1,e2];simp
theorem LA(l:List Int)(a b:Nat):FL.cutD (l.map D.int) (some (a:Int)) (some (b:Int))=((l.drop a).take (b-a)).map D.int:=by
 have e1:HT.sIx (l.map D.int).length 0 (some (a:Int))=min a l.length:=by simp[HT.sIx];omega
 have e2:HT.sIx (l.map D.int).length (l.map D.int).length (some (b:Int))=min b l.length:=by simp[HT.sIx];omega
 unfold FL.cutD;rw[e1,e2,<- List.map_drop,<- List.map_take];congr 1
 by_cases ha:a<=l.length
 . rw [Nat.min_eq_left ha]
   by_cases hb:b<=l.length
   . rw[Nat.min_eq_left hb]
   . rw[Nat.min_eq_right (by omega),fY (by simp),fY (by simp;omega)]
 . rw[Nat.min_eq_right (by omega : l.length<=a), iR (aR _), iR (by omega)];simp
structure LI(k:Nat)(A:List Stt)(c:Stt)(B:List Stt):Prop where
 a:∀s∈A,SOk k s
 c:SOk k c
 b:∀s∈B,SOk k s
 l:A.length+B.length<=k
theorem aBo{k:Nat}(hk:k<=39){A B:List Stt}{c:Stt}(I:LI k A c B){cs:List Int}{i:Nat}(hi:3*i+2<cs.length)(hcs:cs.length<=1000)(L:List D)(hL:L.length<1000)(sd:Int)(A0 A2 x9 x10 x11 x12 x13 x14:Sl) :
  ∃(A':List Stt) (c':Stt) (B':List Stt) (y9 y10 y11:Sl),LI (k+1) A' c' B' ∧
   gW [A0,.v (.int sd),A2,.v (.lst ((A++c::B.reverse).map stD)),.ob none (lnS A c B),.v (.int (A.length:Int)),.v (.lst (cs.map D.int)),.own L,.v (.int (i:Int)),x9,x10,x11,x12,x13,x14] =
   some (.nx [A0,.v (.int sd),A2,.v (.lst ((A'++c'::B'.reverse).map stD)),.ob none (lnS A' c' B'),.v (.int (A'.length:Int)),.v (.lst (cs.map D.int)),.own (L++[kpD c']),.v (.int (i:Int)),y9,y10,y11,x12,x13,x14]):=by
 obtain⟨a,b,d,ca,cb⟩:∃a b d:Int,cs[3*i]?=some a/\(cs.drop (3*i)).take 3=[a,b,d]:=by
  refine⟨cs[3*i],cs[3*i+1],cs[3*i+2],bJ (by omega),?_⟩;rw[dD (by omega),dD (by omega:3*i+1<cs.length),dD (by omega:3*i+1+1<cs.length)];rfl
 have ha:ixD (.lst (cs.map D.int)) (.int (3*(i:Int)))=some (.int a):=by
  rw[jC _ (by omega) (by simp;omega),show(3*(i:Int)).toNat=3*i by omega,aX,ca];rfl
 have m3:xV (.int 3) (.int (i:Int))=some (.int (3*(i:Int))):=xZ (.of_left (xB (by decide)));have ct:=LA cs (3*i) (3*i+3);rw[show 3*i+3-3*i=3 by omega,cb] at ct;simp only[EV,Int.natCast_mul,uB,bE,dO] at ct;have lA:=I.l;have zL:L.length<16777216:=by omega
 have ro:∀A c B,refO (lnS A c B)=true:=fun _ _ _=>rfl
 have ixn:∀(A:List Stt) (c:Stt) (B:List Stt),ixD (.lst ((A++c::B.reverse).map stD)) (.int (A.length:Int))=some (stD c):=fun A c B=>by
  rw[jC _ (by omega) (by simp;omega),Int.toNat_natCast,aX];simp
 have tl:=fun {A c B} (hc:SOk (k+1) c) x9 x10 x11=>tail_eq (k:=k+1) (by omega) (A:=A) (B:=B) hc (ixn A c B) ha m3 zL A0 (.v (.int sd)) A2 x9 x10 x11 x12 x13 x14;have w0:0<=a%6:=by omega
 have w6:a%6<6:=by omega
 by_cases hw:a%6>2
 . have l1:∀x:D,ixD (.lst [.int (-1),.int (-1),.int 1]) (.int (a%6-3))=some (.int (if a%6=5 then 1 else -1)):=fun _=>by
    rw[jC _ (by omega) (by simp;omega)];have:a%6=3\/a%6=4\/a%6=5:=by omega
    rcases this with h | h | h<;>rw[h]<;>rfl
   have go:∀(A':List Stt) (c':Stt) (B':List Stt) (to:Int) (due:Bool),LI (k+1) A' c' B'->(A.length:Int)+(if a%6=5 then 1 else -1)=to->(A'++c'::B'.reverse)=(A++c::B.reverse) →
     (decide (to<0)||decide (to=((A++c::B.reverse).length:Int)))=due->cP (lnS A c B) [.non,.int (a%6),.bl due]=some (.bl true,lnS A' c' B')->(if due=true then (A.length:Int) else to)=(A'.length:Int) →
     ∃(A':List Stt) (c':Stt) (B':List Stt) (y9 y10 y11:Sl),LI (k+1) A' c' B'/\gW [A0,.v (.int sd),A2,.v (.lst ((A++c::B.reverse).map stD)),.ob none (lnS A c B),.v (.int (A.length:Int)),.v (.lst (cs.map D.int)),.own L,.v (.int (i:Int)),x9,x10,x11,x12,x13,x14] =
      some (.nx [A0,.v (.int sd),A2,.v (.lst ((A'++c'::B'.reverse).map stD)),.ob none (lnS A' c' B'),.v (.int (A'.length:Int)),.v (.lst (cs.map D.int)),.own (L++[kpD c']),.v (.int (i:Int)),y9,y10,y11,x12,x13,x14]):=by
    intro A' c' B' to due I' hto hS hdue ht hnow;refine⟨A',c',B',.v (.int (a%6)),.v (.int to),.v (.bl due),I',?_⟩;unfold gW
    rw[qP (ds':=[A0,.v (.int sd),A2,.v (.lst ((A++c::B.reverse).map stD)),.ob none (lnS A c B),.v (.int (A.length:Int)),.v (.lst (cs.map D.int)),.own L,.v (.int (i:Int)),.v (.int (a%6)),x10,x11,x12,x13,x14]) (by
     generalize (A++c::B.reverse).map stD=SL;generalize cs.map D.int=CL at *
     simp[m3,ha])]
    have tl':=tl (A:=A') (B:=B') I'.c (.v (.int (a%6))) (.v (.int to)) (.v (.bl due));rw[hS] at tl' ⊢;rw[<- hnow] at tl' ⊢;have hln:(((A++c::B.reverse).map stD).length:Int)=((A++c::B.reverse).length:Int):=by simp
    have r0:=ro A c B;generalize lnS A' c' B'=T' at *;generalize lnS A c B=T at *;rw[<- hln] at hdue;generalize (A++c::B.reverse).map stD=SL at *;generalize cs.map D.int=CL at *;generalize (A.length:Int)=m at *
    rw[qP (ds':=[A0,.v (.int sd),A2,.v (.lst SL),.ob none T',.v (.int (if due=true then m else to)),.v (.lst CL),.own L,.v (.int (i:Int)),.v (.int (a%6)),.v (.int to),.v (.bl due),x12,x13,x14]) (by
     rw[if_yes (by simp;omega),qP (ds':=[A0,.v (.int sd),A2,.v (.lst SL),.ob none T,.v (.int m),.v (.lst CL),.own L,.v (.int (i:Int)),.v (.int (a%6)),.v (.int to),x11,x12,x13,x14]) (by simp[l1 .non,hto]),
      qP (ds':=[A0,.v (.int sd),A2,.v (.lst SL),.ob none T,.v (.int m),.v (.lst CL),.own L,.v (.int (i:Int)),.v (.int (a%6)),.v (.int to),.v (.bl due),x12,x13,x14]) (by
       by_cases h0:to<0
       . simp[h0] at hdue;simp[h0,<- hdue]
       . simp[h0] at hdue;simp[h0,<- hdue]),
      qP (ds':=[A0,.v (.int sd),A2,.v (.lst SL),.ob none T',.v (.int m),.v (.lst CL),.own L,.v (.int (i:Int)),.v (.int (a%6)),.v (.int to),.v (.bl due),x12,x13,x14]) (by simp[ifNR,callR,hereA,r0,ht])]
     cases due<;>simp)]
    exact tl'
   by_cases h5:a%6=5
   . rcases pL B with rfl | ⟨B0, b', rfl⟩
     . refine go A c [] ((A.length : Int) + 1) true ⟨fun s h => (I.a s h).up (by omega), I.c.up (by omega), (fun _ h => nomatch h), by simp;omega⟩ (by rw[if_pos h5]) rfl (by simp) ?_ (by simp);rw[h5];exact aCv A c
     . simp only[pM] at I lA go ⊢;refine go (A++[c]) b' B0 ((A.length:Int)+1) false ⟨fun s h=>(bG.mp h).elim (fun z=>(I.a s z).up (by omega)) fun z=>by rw[aQ.mp z];exact I.c.up (by omega),(I.b b' (by simp)).up (by omega),fun s h=>(I.b s (by simp[h])).up (by omega),by simp at lA ⊢;omega⟩ (by rw[if_pos h5]) (by simp) (by simp;omega) ?_ (by simp);rw[h5];exact XA (by omega)
   . rcases pL A with rfl | ⟨A1, a', rfl⟩
     . refine go [] c B (-1) true ⟨(fun _ h => nomatch h), I.c.up (by omega), fun s h => (I.b s h).up (by omega), by simp at lA ⊢;omega⟩ (by rw[if_neg h5];simp) rfl (by simp) ?_ (by simp);exact back_no c B h5
     . simp only[pM] at I lA go ⊢;refine go A1 a' (B++[c]) (A1.length:Int) false ⟨fun s h=>(I.a s (by simp[h])).up (by omega),(I.a a' (by simp)).up (by omega),fun s h=>(bG.mp h).elim (fun z=>(I.b s z).up (by omega)) fun z=>by rw[aQ.mp z];exact I.c.up (by omega),by simp at lA ⊢;omega⟩ (by rw[if_neg h5];simp;omega) (by simp) (by simp;omega) ?_ (by simp);exact aCs h5 (by simp at lA;omega)
 . obtain ⟨c', hc', nx⟩ := next_ex (by omega) I.c (A := A) (B := B) (by omega) a b d sd;refine ⟨A++[c],c',[],.v (.int (a % 6)),x10,x11,⟨fun s h=>(bG.mp h).elim (fun z=>(I.a s z).up (by omega)) fun z=>by rw [aQ.mp z]; exact I.c.up (by omega),hc',(fun _ h=>nomatch h),by simp at lA ⊢; omega⟩,?_⟩;unfold gW
   rw[qP (ds':=[A0,.v (.int sd),A2,.v (.lst ((A++c::B.reverse).map stD)),.ob none (lnS A c B),.v (.int (A.length:Int)),.v (.lst (cs.map D.int)),.own L,.v (.int (i:Int)),.v (.int (a%6)),x10,x11,x12,x13,x14]) (by
    generalize (A++c::B.reverse).map stD=SL;generalize cs.map D.int=CL at *
    simp[m3,ha])]
   have tl':=tl (A:=A++[c]) (B:=[]) hc' (.v (.int (a%6))) x10 x11;have ix0:=ixn A c B;have c3:=cut_to ((A++c::B.reverse).map stD) (A.length+1)
   have e3:((A++c::B.reverse).map stD).take (A.length+1)=(A++[c]).map stD:=by
    rw[<- List.map_take];congr 1;simp[List.take_append,fY]
   rw[e3] at c3;simp only[EV,uB] at c3;have e4:((A++[c])++c'::([]:List Stt).reverse).map stD=(A++[c]).map stD++[stD c']:=by simp
   have e5:(((A++[c]).length:Nat):Int)=(A.length:Int)+1:=by simp
   have z5:((A++[c]).map stD).length<=16777215:=by simp;omega
   rw[e4,e5] at tl' ⊢;have r0:=ro A c B;generalize lnS (A++[c]) c' []=T' at *;generalize lnS A c B=T at *;generalize (A++c::B.reverse).map stD=SL at *;generalize (A++[c]).map stD=SL2 at *;generalize kpD c'=KD at *;generalize stD c'=SD2 at *;generalize stD c=SD at *;generalize cs.map D.int=CL at *;generalize (A.length:Int)=m at *
   rw[qP (ds':=[A0,.v (.int sd),A2,.v (.lst (SL2++[SD2])),.ob none T',.v (.int (m+1)),.v (.lst CL),.own L,.v (.int (i:Int)),.v (.int (a%6)),x10,x11,x12,x13,x14]) (by
    rw[if_not (by simp;omega),qP (ds':=[A0,.v (.int sd),A2,.v (.lst (SL2++[SD2])),.ob none T',.v (.int m),.v (.lst CL),.own L,.v (.int (i:Int)),.v (.int (a%6)),x10,x11,x12,x13,x14]) (by simp[setR,catR,callR,hereA,soP,c3,z5,ix0,m3,ct,r0,nx])]
    simp[augA])]
   exact tl'
theorem map2_ex(cs:List Int)(hb:∀c∈cs,intBits c<=1048576)(hl:cs.length<=1000):∃rows:List Rw,MapF rows/\rows.length=cs.length/\rC [.lst (cs.map D.int)]=some (.fresh (rows.map rwD)):=map3_ex cs hb hl
def PJ5(A0:Sl)(sd:Int)(A2:Sl)(CL:List D)(k:Nat)(ds:List Sl):Prop:=∃(A:List Stt) (c:Stt) (B L:List Stt) (x8 x9 x10 x11:Sl),LI k A c B/\(∀s∈L,SOk k s)/\L.length=k ∧
 ds=[A0,.v (.int sd),A2,.v (.lst ((A++c::B.reverse).map stD)),.ob none (lnS A c B),.v (.int (A.length:Int)),.v (.lst CL),.own (L.map kpD),x8,x9,x10,x11,.no,.no,.no]
theorem run_law(ns:List Int)(hl:ns.length<=63)(hb:∀c∈ns,intBits c<=1048576):rA [.lst (ns.map D.int)]=some (.val (.bl true)):=by
 have c0:fW [.lst (ns.map D.int),.int 0]=some (.val (.int (cel ns 0))):=cell_eq ns 0;generalize cel ns 0=sd at *;obtain⟨m,hm,m6⟩:∃m:Nat,sd/8%7=(m:Int)/\m<=6:=⟨(sd/8%7).toNat,by omega,by omega⟩
 have ct1:=LA ns 1 (1+m);have ct2:=LA ns (1+m) (241+m);obtain⟨rows,hr,lr,em⟩:=map2_ex ((ns.drop 1).take (1+m-1)) (fun c h=>hb c (OJ (OI h))) (by simp;omega);have lr6:rows.length<=6:=by rw[lr,AQ];omega
 generalize (ns.drop 1).take (1+m-1)=ms at *;generalize hcs:(ns.drop (1+m)).take (241+m-(1+m))=cells at *;have lc:cells.length<=63:=by rw[<- hcs];simp;omega
 simp only[EV,uB] at ct1 ct2
 have I0:PJ5 (.v (.lst (ns.map D.int))) sd (.v (.int (m:Int))) (cells.map D.int) 0 [.v (.lst (ns.map D.int)),.v (.int sd),.v (.int (m:Int)),.v (.lst [stD (rows,[])]),.ob none (lnS [] (rows,[]) []),.v (.int 0),.v (.lst (cells.map D.int)),.own [],.no,.no,.no,.no,.no,.no,.no]:=
  ⟨[],(rows,[]),[],[],.no,.no,.no,.no,⟨(fun _ h=>nomatch h),⟨hr,by simpa using lr6,MkOk.nil,by simp⟩,(fun _ h=>nomatch h),by simp⟩,(fun _ h=>nomatch h),rfl,rfl⟩
 obtain⟨ds',eL,I'⟩:=DN (ga:=qA 8) (body:=gW) (PJ5 (.v (.lst (ns.map D.int))) sd (.v (.int (m:Int))) (cells.map D.int)) (cells.length/3)
  (fun k hk ds I=>by
    obtain⟨A,c,B,L,x8,x9,x10,x11,I,hL,lL,rfl⟩:=I;obtain⟨A',c',B',y9,y10,y11,I2,e⟩:=aBo (by omega) I (cs:=cells) (i:=k) (by omega) (by omega) (L.map kpD) (by simp;omega) sd (.v (.lst (ns.map D.int))) (.v (.int (m:Int))) x9 x10 x11 .no .no .no
    refine⟨_,_,rfl,e,A',c',B',L++[c'],.v (.int (k:Int)),y9,y10,y11,I2,fun s h=>(bG.mp h).elim (fun z=>(hL s z).up (by omega)) fun z=>by rw[aQ.mp z];exact I2.c,by simp[lL],by simp⟩) (cells.length/3) 0 _ (by omega) I0
 obtain⟨A,c,B,L,x8,x9,x10,x11,I,hL,lL,rfl⟩:=I';obtain⟨x12,x13,x14,e2⟩:=SN (k:=cells.length/3) (by omega) (.v (.lst (ns.map D.int))) (.v (.int sd)) (.v (.int (m:Int))) (.v (.lst ((A++c::B.reverse).map stD))) (.ob none (lnS A c B)) (.v (.int (A.length:Int))) (.v (.lst (cells.map D.int))) (.v (.lst (L.map kpD))) x8 x9 x10 x11 L .no .no .no hL;have ok:okR ((cells.length:Int)/3):=HY (by omega) (by omega)
 have e:rng1 (zI qR (callB lenD (zB (zJ 6) zV)) (zA (.int 3))) [.v (.lst (ns.map D.int)),.v (.int sd),.v (.int (m:Int)),.v (.lst [stD (rows,[])]),.ob none (lnS [] (rows,[]) []),.v (.int 0),.v (.lst (cells.map D.int)),.own [],.no,.no,.no,.no,.no,.no,.no]=some (gQ 0 (cells.length/3)):=by
  have h3:((cells.length:Int)/3).toNat=cells.length/3:=by omega
  simp[ok,h3]
 have lp:forG (rng1 (zI qR (callB lenD (zB (zJ 6) zV)) (zA (.int 3)))) (qA 8) gW [.v (.lst (ns.map D.int)),.v (.int sd),.v (.int (m:Int)),.v (.lst [stD (rows,[])]),.ob none (lnS [] (rows,[]) []),.v (.int 0),.v (.lst (cells.map D.int)),.own [],.no,.no,.no,.no,.no,.no,.no]=some (.nx [.v (.lst (ns.map D.int)),.v (.int sd),.v (.int (m:Int)),.v (.lst ((A++c::B.reverse).map stD)),.ob none (lnS A c B),.v (.int (A.length:Int)),.v (.lst (cells.map D.int)),.own (L.map kpD),x8,x9,x10,x11,.no,.no,.no]):=by
  unfold forG;rw[e,FD];exact eL
 have in0:dF (.ins 20 []) [.lst (rows.map rwD)]=some (lnS [] (rows,[]) []):=aBr;have z0:(rows.map rwD).length<=16777216:=by simp;omega
 have est:stD (rows,[])=.tup [.lst (rows.map rwD),.dcf [] []]:=rfl;unfold rA;refine uK ?_;unfold uC;have ar:args 15 [.lst (ns.map D.int)]=[.v (.lst (ns.map D.int)),.no,.no,.no,.no,.no,.no,.no,.no,.no,.no,.no,.no,.no,.no]:=by simp[args]
 rw[ar]
 rw[qP (ds':=[.v (.lst (ns.map D.int)),.v (.int sd),.no,.no,.no,.no,.no,.no,.no,.no,.no,.no,.no,.no,.no]) (by generalize ns.map D.int=N at *;simp[c0]),
  qP (ds':=[.v (.lst (ns.map D.int)),.v (.int sd),.v (.int (m:Int)),.no,.no,.no,.no,.no,.no,.no,.no,.no,.no,.no,.no]) (by generalize ns.map D.int=N at *;simp[hm]),
  qP (ds':=[.v (.lst (ns.map D.int)),.v (.int sd),.v (.int (m:Int)),.v (.lst [stD (rows,[])]),.no,.no,.no,.no,.no,.no,.no,.no,.no,.no,.no]) (by
   rw[est];generalize rows.map rwD=R at *;generalize ms.map D.int=MS at *;generalize ns.map D.int=N at *
   simp[soP,ct1,em]),
  qP (ds':=[.v (.lst (ns.map D.int)),.v (.int sd),.v (.int (m:Int)),.v (.lst [stD (rows,[])]),.ob none (lnS [] (rows,[]) []),.no,.no,.no,.no,.no,.no,.no,.no,.no,.no]) (by
   rw[est];generalize lnS [] (rows,[]) []=T at *;generalize rows.map rwD=R at *;generalize ns.map D.int=N at *
   simp[makeO,in0,z0]),
  qP (ds':=[.v (.lst (ns.map D.int)),.v (.int sd),.v (.int (m:Int)),.v (.lst [stD (rows,[])]),.ob none (lnS [] (rows,[]) []),.v (.int 0),.no,.no,.no,.no,.no,.no,.no,.no,.no]) (by simp),
  qP (ds':=[.v (.lst (ns.map D.int)),.v (.int sd),.v (.int (m:Int)),.v (.lst [stD (rows,[])]),.ob none (lnS [] (rows,[]) []),.v (.int 0),.v (.lst (cells.map D.int)),.no,.no,.no,.no,.no,.no,.no,.no]) (by
   generalize stD (rows,[])=SD at *;generalize lnS [] (rows,[]) []=T at *;generalize cells.map D.int=C at *;generalize ns.map D.int=N at *
   simp[soP,ct2]),
  qP (ds':=[.v (.lst (ns.map D.int)),.v (.int sd),.v (.int (m:Int)),.v (.lst [stD (rows,[])]),.ob none (lnS [] (rows,[]) []),.v (.int 0),.v (.lst (cells.map D.int)),.own [],.no,.no,.no,.no,.no,.no,.no]) (by simp),
  qP lp]
 rw[qP (ds':=[.v (.lst (ns.map D.int)),.v (.int sd),.v (.int (m:Int)),.v (.lst ((A++c::B.reverse).map stD)),.ob none (lnS A c B),.v (.int (A.length:Int)),.v (.lst (cells.map D.int)),.v (.lst (L.map kpD)),x8,x9,x10,x11,x12,x13,x14]) (by
  generalize lnS A c B=T at *;generalize (A++c::B.reverse).map stD=SL at *;generalize L.map kpD=KP at *;generalize cells.map D.int=C at *;generalize ns.map D.int=N at *;unfold forG;simp only[relS,viaA]
  simpa using e2)]
 simp
end K53
namespace K53
open PySem PyProof.Rows L2 FL
set_option maxHeartbeats 0 in
theorem all_mk{l:UA}{w:bK}{K:aJ}{h:Heap}{mg:Str->Option Value}{fa:aA}(X:K.In h)(G:h.Ns aM mg)(hfa:mg "law" = some (.ref fa)){K0 K1 K2 K3 K4 K5 K6 K11 f0 f2 f3 f4 f5 f6 f7 f8 f9 f10 f11 f12 f13 f14 f15 f16 f17 f18 f19 f20 f21 f22 f23 f24 f25 f26 f27 f28 f29 f30 f31 f32 f33 f34 f35 f36 f37 f38 f39 f40 f41 f42 f43 f44 f45 f46 f47 f48 f49 f50 f51 f52 f53 f54 f55 f56 f57 f58 f59 f60 f61 f62 f63 f64 f65 f66 f67 E8:aA}{t0 t1 t2:Tok}{tu1:aA}{tc1:Value}{td1:Option aA}{tn1:Nat}{ts1:Array (Option Value)}{f1 f68:aA}{od1 an1 od68 an68:Option aA}{sl1 sl68:Array (Option Value)}{oc1 kV1 dc1 pm1 cd1 ct1 oc68 kV68 dc68 pm68 cd68 ct68:Value}(q0:CN K "Put" K0)(na0_span:NoAttr K K0 "span")(na0_fill:NoAttr K K0 "fill")(q1:CN K "Widen" K1)(na1_fill:NoAttr K K1 "fill")(na1_at:NoAttr K K1 "at")(na1_many:NoAttr K K1 "many")(q2:CN K "Narrow" K2)(na2_fill:NoAttr K K2 "fill")(na2_at:NoAttr K K2 "at")(na2_many:NoAttr K K2 "many")(q3:CN K "Move" K3)(na3_fill:NoAttr K K3 "fill")(na3_far:NoAttr K K3 "far")(q4:CN K "Stretch" K4)(na4_fill:NoAttr K K4 "fill")(na4_top:NoAttr K K4 "top")(na4_bottom:NoAttr K K4 "bottom")(q5:CN K "Mirror" K5)(na5_fill:NoAttr K K5 "fill")(q6:CN K "Deed" K6)(na6_fill:NoAttr K K6 "fill")(q11:CN K "Line" K11)(na11_pieces:NoAttr K K11 "pieces")(na11_places:NoAttr K K11 "places")(na11_earlier:NoAttr K K11 "earlier")(na11_later:NoAttr K K11 "later")(d0:DefM K "is_name" (top 10) f0)(a1:bY K (.ref K11) "__init__" = some (some (.ref f1)))(l1:LkF K f1 oc1 od1 "__init__" "Line.__init__" (aL (top 12) 0) (.ref tu1) kV1 dc1 pm1 an1 cd1 ct1 sl1)(c1:eR K cd1 "Line.__init__" = true)(k1:bF K (.ref f1)=true)(lt1:K.lookup tu1=some ⟨tc1,td1,.seq #[.none] tn1,ts1⟩)(i1:lX K (.ref f1)=true)(d2:DefC K K11 "step" "Line.step" (aL (top 12) 3) f2)(d3:DefM K "knit" (top 20) f3)(d4:DefM K "later_low" (top 17) f4)(d5:DefM K "earlier_behind" (top 18) f5)(d6:DefM K "ends_ahead" (top 16) f6)(d7:DefM K "meet" (top 15) f7)(d8:DefM K "parts_in" (top 21) f8)(d9:DefM K "rows_over" (top 22) f9)(d10:DefM K "put" (top 24) f10)(d11:DefC K K0 "done" "Put.done" (aL (top 28) 3) f11)(d12:DefM K "farther" (top 39) f12)(d13:DefM K "shifted" (top 38) f13)(d14:DefC K K1 "done" "Widen.done" (aL (top 29) 3) f14)(d15:DefC K K2 "done" "Narrow.done" (aL (top 30) 3) f15)(d16:DefC K K3 "done" "Move.done" (aL (top 31) 3) f16)(d17:DefC K K4 "least_from" "Stretch.least_from" (aL (top 32) 4) f17)(d18:DefC K K4 "done" "Stretch.done" (aL (top 32) 3) f18)(d19:DefM K "mirrored" (top 40) f19)(d20:DefC K K5 "done" "Mirror.done" (aL (top 33) 2) f20)(d21:DefC K K0 "went" "Put.went" (aL (top 28) 2) f21)(d22:DefM K "opened" (top 36) f22)(d23:DefC K K1 "went" "Widen.went" (aL (top 29) 2) f23)(d24:DefM K "taken_out" (top 37) f24)(d25:DefC K K2 "went" "Narrow.went" (aL (top 30) 2) f25)(d26:DefC K K3 "went" "Move.went" (aL (top 31) 2) f26)(d27:DefM K "has" (top 14) f27)(d28:DefC K K0 "came" "Put.came" (aL (top 28) 1) f28)(d29:DefC K K1 "came" "Widen.came" (aL (top 29) 1) f29)(d30:DefC K K2 "came" "Narrow.came" (aL (top 30) 1) f30)(d31:DefC K K3 "came" "Move.came" (aL (top 31) 1) f31)(d32:DefC K K4 "came" "Stretch.came" (aL (top 32) 1) f32)(d33:DefC K K5 "came" "Mirror.came" (aL (top 33) 0) f33)(d34:DefC K K4 "went" "Stretch.went" (aL (top 32) 2) f34)(d35:DefC K K5 "went" "Mirror.went" (aL (top 33) 1) f35)(d36:DefC K K11 "do" "Line.do" (aL (top 12) 1) f36)(d37:DefC K K11 "mark" "Line.mark" (aL (top 12) 2) f37)(d38:DefC K K11 "become" "Line.become" (aL (top 12) 6) f38)(d39:DefC K K11 "back" "Line.back" (aL (top 12) 4) f39)(d40:DefC K K11 "again" "Line.again" (aL (top 12) 5) f40)(d41:DefC K K11 "told" "Line.told" (aL (top 12) 7) f41)(d42:DefC K K11 "where" "Line.where" (aL (top 12) 8) f42)(d43:DefC K K11 "marks" "Line.marks" (aL (top 12) 9) f43)(d44:DefC K K6 "__init__" "Deed.__init__" (aL (top 27) 0) f44)(d45:DefC K K0 "__init__" "Put.__init__" (aL (top 28) 0) f45)(d46:DefM K "check_many" (top 34) f46)(d47:DefC K K1 "__init__" "Widen.__init__" (aL (top 29) 0) f47)(d48:DefC K K2 "__init__" "Narrow.__init__" (aL (top 30) 0) f48)(d49:DefC K K3 "__init__" "Move.__init__" (aL (top 31) 0) f49)(d50:DefM K "check_share" (top 35) f50)(d51:DefC K K4 "__init__" "Stretch.__init__" (aL (top 32) 0) f51)(d52:DefM K "_law_whole" (top 42) f52)(d53:DefM K "_law_cell_at" (top 43) f53)(d54:DefM K "_law_map" (top 44) f54)(d55:DefM K "_law_word" (top 45) f55)(d56:DefM K "_law_name" (top 46) f56)(d57:DefM K "_law_place" (top 47) f57)(d58:DefM K "_law_many" (top 48) f58)(d59:DefM K "_law_share" (top 49) f59)(d60:DefM K "_law_span" (top 50) f60)(d61:DefM K "_law_row" (top 51) f61)(d62:DefM K "_law_made" (top 52) f62)(d63:DefM K "_law_went" (top 53) f63)(d64:DefM K "_law_stands" (top 54) f64)(d65:DefM K "_law_turned" (top 55) f65)(d66:DefM K "_law_next" (top 56) f66)(d67:DefM K "_law_as_it_is" (top 57) f67)(a68:aP K aM "law" = some (some (.ref f68)))(l68:LkF K f68 oc68 od68 "law" "law" (top 58) .none kV68 dc68 pm68 an68 cd68 ct68 sl68)(c68:eR K cd68 "law" = true)(k68:bF K (.ref f68)=true)(mk0:eA K K0=true)(kc0:bF K (.ref K0)=true)(mk1:eA K K1=true)(kc1:bF K (.ref K1)=true)(mk2:eA K K2=true)(kc2:bF K (.ref K2)=true)(mk3:eA K K3=true)(kc3:bF K (.ref K3)=true)(mk4:eA K K4=true)(kc4:bF K (.ref K4)=true)(mk5:eA K K5=true)(kc5:bF K (.ref K5)=true)(ai5:bY K (.ref K5) "__init__" = some (some (.ref f44)))(mk11:eA K K11=true)(kc11:bF K (.ref K11)=true)(s1_6:sP K (.ref K6) "__getattribute__" = some (some (.builtin "type.__getattribute__")))(s2_6:TY K K6 (.type "type")=true)(s3_6:TZ K (.ref K6) (.type "type") "__init__" = some (.val (.ref f44)))(y8:XI K "NoDeed" E8)(xe8:PySem.W.excIn K E8 [.type "ValueError",.type "Exception",.type "BaseException",.type "object"] "ValueError.__new__" = true)(xu8:AA K E8=true)(xy8:pC K (.ref E8)=some (.type "type"))(xs8_8:EQ K (.ref E8) (.ref E8)=some true)(z0:aP K aM "all" = some none)(z1:aP K aM "bool" = some none)(z2:aP K aM "dict" = some none)(z3:aP K aM "int" = some none)(z4:aP K aM "isinstance" = some none)(z5:aP K aM "len" = some none)(z6:aP K aM "list" = some none)(z7:aP K aM "max" = some none)(z8:aP K aM "min" = some none)(z9:aP K aM "range" = some none)(z10:aP K aM "reversed" = some none)(z11:aP K aM "sorted" = some none)(z12:aP K aM "str" = some none)(v0:aP K aM "LETTERS" = some (some (.str "abcdefghijklmnopqrstuvwxyz" t0)))(v1:aP K aM "MOST_LETTERS" = some (some (.int 8 t1)))(v2:aP K aM "MOST_SHARE" = some (some (.int 1000 t2))) :
  ∃fd:aH,(∀(s:aC) (v:Value),XM s fd ⟨[v],[]⟩ [("_law_script",v)])/\∀base:Heap,K.In base->base.Ns aM mg->FnOk l.prog w K mg base CX0 9 fa fd ["_law_script"] (OP K 63):=by
 have e:=hfa.symm.trans (cK X G a68);cases e;obtain⟨n0,cl0⟩:=q0.get;obtain⟨n1,cl1⟩:=q1.get;obtain⟨n2,cl2⟩:=q2.get;obtain⟨n3,cl3⟩:=q3.get;obtain⟨n4,cl4⟩:=q4.get;obtain⟨n5,cl5⟩:=q5.get;obtain⟨n6,cl6⟩:=q6.get;obtain⟨n11,cl11⟩:=q11.get;have y8:XI K (xName 8) E8:=y8;have T:Glb K mg:=⟨cB X G z0,cB X G z1,cB X G z2,cB X G z3,cB X G z4,cB X G z5,cB X G z6,cB X G z7,cB X G z8,cB X G z9,cB X G z10,cB X G z11,cB X G z12,⟨_,cK X G v0⟩,⟨_,cK X G v1⟩,⟨_,cK X G v2⟩,(jG n1 cl1 na1_at (jG n2 cl2 na2_at jI)),(jG n4 cl4 na4_bottom jI),(jG n11 cl11 na11_earlier jI),(jG n3 cl3 na3_far jI),(jG n0 cl0 na0_fill (jG n1 cl1 na1_fill (jG n2 cl2 na2_fill (jG n3 cl3 na3_fill (jG n4 cl4 na4_fill (jG n5 cl5 na5_fill (jG n6 cl6 na6_fill jI))))))),(jG n11 cl11 na11_later jI),(jG n1 cl1 na1_many (jG n2 cl2 na2_many jI)),(jG n11 cl11 na11_pieces jI),(jG n11 cl11 na11_places jI),(jG n0 cl0 na0_span jI),(jG n4 cl4 na4_top jI),(newOk (t:=22) (by exact n11) cl11 na11_earlier),(newOk (t:=23) (by exact n11) cl11 na11_later),(newOk (t:=20) (by exact n11) cl11 na11_pieces),(newOk (t:=21) (by exact n11) cl11 na11_places)⟩
 have XR_8:XR K mg 8 E8:=⟨by exact y8.1,by exact cK X G y8.1,⟨xe8,y8.i⟩⟩
 have XT_8:XT K mg 8 "NoDeed" E8 E8:=⟨by exact y8.1,cK X G y8.1,⟨PU xu8 xy8 xs8_8,y8.i.be⟩⟩
 have F1:=fun_mkD (st:=(aL (top 12) 0)) l1 c1 k1 lt1 rfl;have b1_0:Binds K _ ["self","pieces"] (List.replicate 0 .none):=F1.binds (ps:=["self","pieces"]) fun _ _ _ _ _ _ _ us hl=>match us,hl with | [_,_],_=>⟨_,rfl,rfl⟩
 have b1_1:Binds K _ ["self","pieces"] (List.replicate 1 .none):=F1.binds (ps:=["self","pieces"]) fun _ _ _ _ _ _ _ us hl=>match us,hl with | [_],_=>⟨_,rfl,rfl⟩ | _::_::_,hl=>absurd hl (by simp) | [],hl=>absurd hl (by simp)
 obtain⟨_,F39,a39,k39,i39⟩:=d39.get;have b39:=F39.binds (ps:=["self"]) fun _ _ _ _ _ _=>len1 fun _=>rfl;obtain⟨_,F40,a40,k40,i40⟩:=d40.get;have b40:=F40.binds (ps:=["self"]) fun _ _ _ _ _ _=>len1 fun _=>rfl;obtain⟨_,F44,a44,k44,i44⟩:=d44.get;have b44:=F44.binds (ps:=["self"]) fun _ _ _ _ _ _=>len1 fun _=>rfl;obtain⟨_,F45,a45,k45,i45⟩:=d45.get;have b45:=F45.binds (ps:=["self","span","value"]) fun _ _ _ _ _ _=>len3 fun _ _ _=>rfl;obtain⟨_,F47,a47,k47,i47⟩:=d47.get;have b47:=F47.binds (ps:=["self","at","many"]) fun _ _ _ _ _ _=>len3 fun _ _ _=>rfl;obtain⟨_,F48,a48,k48,i48⟩:=d48.get;have b48:=F48.binds (ps:=["self","at","many"]) fun _ _ _ _ _ _=>len3 fun _ _ _=>rfl;obtain⟨_,F49,a49,k49,i49⟩:=d49.get;have b49:=F49.binds (ps:=["self","far"]) fun _ _ _ _ _ _=>len2 fun _ _=>rfl;obtain⟨_,F51,a51,k51,i51⟩:=d51.get;have b51:=F51.binds (ps:=["self","top","bottom"]) fun _ _ _ _ _ _=>len3 fun _ _ _=>rfl;have F68:=QB (st:=(top 58)) l68 c68 k68;refine⟨cT "law" "law" (jU (top 58)) (qT (top 58)) (zH (top 58)) .none kV68 dc68 pm68 an68 cd68 ct68,fun s v=>.of_eq rfl,fun base _ _=>?_⟩;have S:SysAt l.prog w base K mg:=⟨h,X,G⟩
 have C_is_name:=d0.cal S fun F=>NI F T;have G1:=tS (P:=l.prog) (w:=w) (base:=base) F1 T;have C_knit:=d3.cal S fun F=>aBv F T;have C_later_low:=d4.cal S fun F=>FI F T;have C_earlier_behind:=d5.cal S fun F=>sL F T;have C_ends_ahead:=d6.cal S fun F=>DX F T;have C_meet:=d7.cal S fun F=>aBu F T C_later_low C_earlier_behind C_ends_ahead;have C_parts_in:=d8.cal S fun F=>KH F T C_meet;have C_rows_over:=d9.cal S fun F=>FH F T C_parts_in;have C_put:=d10.cal S fun F=>fok_put F T C_knit C_rows_over;have C_farther:=d12.cal S fun F=>NJ F T;have C_shifted:=d13.cal S fun F=>NH F T C_farther;have M_least_from:MCal l.prog w K mg base "least_from" 1 1 [4] bP:=(d17.mc n4 cl4 (fun F=>oR F T) yX)
 have C_mirrored:=d19.cal S fun F=>KJ F T;have C_opened:=d22.cal S fun F=>QC F T;have C_taken_out:=d24.cal S fun F=>FG F T;have C_has:=d27.cal S fun F=>fok_has F T;have M_came:MCal l.prog w K mg base "came" 2 1 [0,1,2,3,4,5] cS:=(d28.mc n0 cl0 (fun F=>KU F T C_has) (d29.mc n1 cl1 (fun F=>EE F T C_taken_out) (d30.mc n2 cl2 (fun F=>AX F T C_opened) (d31.mc n3 cl3 (fun F=>GA F T) (d32.mc n4 cl4 (fun F=>uR F T) (d33.mc n5 cl5 (fun F=>BA F T) yX))))))
 have M_step:LCal l.prog w K mg base "step" 1 2 [11] (fun _=>cY):=(d2.lc n11 cl11 (fun F=>GC F T) xQ)
 have M_done:MCal l.prog w K mg base "done" 6 1 [0,1,2,3,4,5] bW:=(d11.mc n0 cl0 (fun F=>KR F T C_put) (d14.mc n1 cl1 (fun F=>ED F T C_parts_in C_knit C_shifted) (d15.mc n2 cl2 (fun F=>AW F T C_parts_in C_knit C_shifted) (d16.mc n3 cl3 (fun F=>FZ F T C_shifted) (d18.mc n4 cl4 (fun F=>uQ F T C_knit M_least_from) (d20.mc n5 cl5 (fun F=>AZ F T C_mirrored) yX))))))
 have M_went:MCal l.prog w K mg base "went" 3 1 [0,1,2,3,4,5] cI:=(d21.mc n0 cl0 (fun F=>KQ F T) (d23.mc n1 cl1 (fun F=>EC F T C_opened) (d25.mc n2 cl2 (fun F=>AV F T C_taken_out) (d26.mc n3 cl3 (fun F=>FY F T) (d34.mc n4 cl4 (fun F=>uP F T M_least_from M_came) (d35.mc n5 cl5 (fun F=>AY F T) yX))))))
 have M_become:LCal l.prog w K mg base "become" 1 1 [11] (fun _=>bX):=(d38.lc n11 cl11 (fun F=>BC F T) xQ)
 have GX39_8:=uN (P:=l.prog) (w:=w) (base:=base) F39 T M_become XR_8;have MX_back_8:MCalX l.prog w K mg base "back" 11 2 0 dL E8:=⟨by decide +kernel,K11,f39,_,_,n11,cl11,⟨a39,i39,k39⟩,GX39_8,b39⟩
 have G39:=GF (P:=l.prog) (w:=w) (base:=base) F39 T M_become;have GX40_8:=tP (P:=l.prog) (w:=w) (base:=base) F40 T M_become XR_8;have MX_again_8:MCalX l.prog w K mg base "again" 11 2 0 dG E8:=⟨by decide +kernel,K11,f40,_,_,n11,cl11,⟨a40,i40,k40⟩,GX40_8,b40⟩
 have G40:=EH (P:=l.prog) (w:=w) (base:=base) F40 T M_become;have G44:=tT (P:=l.prog) (w:=w) (base:=base) F44 T;have G45:=uS (P:=l.prog) (w:=w) (base:=base) F45 T;have C_check_many:=d46.cal S fun F=>DY F T;have S_Deed:SCal l.prog w K mg base "Deed" 1 ["fill"] bQ:=⟨K6,f44,_,_,cK X G n6,⟨.type "type",s1_6,s2_6,s3_6,k44⟩,G44,b44⟩
 have G47:=sM F47 T C_check_many S_Deed;have G48:=rJ F48 T C_check_many S_Deed;have G49:=tR (P:=l.prog) (w:=w) (base:=base) F49 T S_Deed;have C_check_share:=d50.cal S fun F=>AS F T;have G51:=pY F51 T C_check_share S_Deed;have C__law_whole:=d52.cal S fun F=>DZ F T;have C__law_cell_at:=d53.cal S fun F=>uO F T;have C__law_map:=d54.cal S fun F=>KO F T;have C__law_word:=d55.cal S fun F=>FJ F T;have C__law_name:=d56.cal S fun F=>FU F T C__law_word;have C__law_place:=d57.cal S fun F=>EB F T;have C__law_many:=d58.cal S fun F=>FV F T;have C__law_share:=d59.cal S fun F=>EA F T;have C__law_span:=d60.cal S fun F=>FQ F T C__law_many;have C__law_row:=d61.cal S fun F=>KL F T C__law_place C__law_span C__law_many C__law_share;have Mk_Mirror:MkC l.prog w K mg base 5 1 0 bQ:=⟨K5,f44,_,_,n5,cK X G n5,⟨mk5,ai5,i44,kc5⟩,cl5,G44,b44,(yJ (l:=["fill"]) (qS na5_fill yS))⟩
 have Mk_Put:MkC l.prog w K mg base 0 1 2 dZ:=⟨K0,f45,_,_,n0,cK X G n0,⟨mk0,a45,i45,kc0⟩,cl0,G45,b45,(yJ (l:=["span","fill"]) (qS na0_span (qS na0_fill yS)))⟩
 have Mk_Widen:MkC l.prog w K mg base 1 2 2 cC:=⟨K1,f47,_,_,n1,cK X G n1,⟨mk1,a47,i47,kc1⟩,cl1,G47,b47,(yJ (l:=["fill","at","many"]) (qS na1_fill (qS na1_at (qS na1_many yS))))⟩
 have Mk_Narrow:MkC l.prog w K mg base 2 2 2 cC:=⟨K2,f48,_,_,n2,cK X G n2,⟨mk2,a48,i48,kc2⟩,cl2,G48,b48,(yJ (l:=["fill","at","many"]) (qS na2_fill (qS na2_at (qS na2_many yS))))⟩
 have Mk_Move:MkC l.prog w K mg base 3 2 1 dS:=⟨K3,f49,_,_,n3,cK X G n3,⟨mk3,a49,i49,kc3⟩,cl3,G49,b49,(yJ (l:=["fill","far"]) (qS na3_fill (qS na3_far yS)))⟩
 have Mk_Stretch:MkC l.prog w K mg base 4 2 2 dE:=⟨K4,f51,_,_,n4,cK X G n4,⟨mk4,a51,i51,kc4⟩,cl4,G51,b51,(yJ (l:=["fill","top","bottom"]) (qS na4_fill (qS na4_top (qS na4_bottom yS))))⟩
 have C__law_made:=d62.cal S fun F=>FW F T Mk_Mirror Mk_Put Mk_Widen Mk_Narrow Mk_Move Mk_Stretch;have C__law_went:=d63.cal S fun F=>FK F T;have M_marks:MCal l.prog w K mg base "marks" 1 0 [11] cM:=(d43.mc n11 cl11 (fun F=>EG F T) yX)
 have M_where:MCal l.prog w K mg base "where" 2 1 [11] fB:=(d42.mc n11 cl11 (fun F=>EF F T C_is_name) yX)
 have C__law_stands:=d64.cal S fun F=>AU F T C__law_whole M_marks M_where;have M_again:LCal l.prog w K mg base "again" 2 0 [11] (fun _=>eB):=(kH n11 cl11 ⟨a40,i40,k40⟩ G40 (by decide) b40 (by decide +kernel) xQ)
 have M_back:LCal l.prog w K mg base "back" 2 0 [11] (fun _=>eU):=(kH n11 cl11 ⟨a39,i39,k39⟩ G39 (by decide) b39 (by decide +kernel) xQ)
 have C__law_turned:=d65.calR S fun F=>AT F T M_again M_back XT_8 MX_again_8 MX_back_8;have M_do:LCal l.prog w K mg base "do" 7 1 [11] (fun _=>fV):=(d36.lc n11 cl11 (fun F=>NK F T M_step M_done M_went) xQ)
 have M_mark:LCal l.prog w K mg base "mark" 2 2 [11] (fun _=>eT):=(d37.lc n11 cl11 (fun F=>GD F T C_is_name M_step) xQ)
 have C__law_next:=d66.calR S fun F=>FR F T C__law_row C__law_name C__law_place C__law_made C__law_went M_do M_mark M_done;have M_told:MCal l.prog w K mg base "told" 1 0 [11] cR:=(d41.mc n11 cl11 (fun F=>GB F T) yX)
 have C__law_as_it_is:=d67.cal S fun F=>tQ F T C__law_stands M_told;have Mk_Line_0:LMk l.prog w K mg base 20 1 1 0 dF:=⟨⟨K11,f1,_,_,by exact n11,cK X G n11,⟨mk11,a1,i1,kc11⟩,G1,b1_0⟩⟩
 exact law_ofB (F:=rA) (fok_law F68 T C__law_cell_at C__law_map C__law_as_it_is C__law_turned C__law_next M_told M_marks Mk_Line_0) run_law
end K53
namespace PySem.W.Fast
def tw5591177787071776508:=0
def tw9567888953986982443:=0
def tw4576181727629457990:=0
def tw8359687808231623058:=0
def tw11542662381409887809:=0
def tw17559437942703154000:=0
def tw7642706078661784486:=0
def tw5246780578331403050:=0
def tw15009284450408463350:=0
def tw3581925451169821931:=0
def tw9800617697091382686:=0
def tw17511591793434674300:=0
def tw7469563326142428388:=0
def tw12273530933785646966:=0
def tw1429720061344561537:=0
def tw9903271008381496235:=0
def tw2079019746825168537:=0
def tw6685496044243288986:=0
def tw6231630607337807663:=0
def tw11153985050880312443:=0
def tw2441488876031434954:=0
def tw6830234815886759174:=0
def tw14217898792858923875:=0
def tw6046819516901771252:=0
def tw9204006181026197453:=0
def tw7407639020714982281:=0
def tw4202511442789936149:=0
def tw641539007783423192:=0
def tw4743167745462569759:=0
def tw12401999376595422008:=0
def tw756262051908924663:=0
def tw2074831814197123138:=0
def tw8341573568401818685:=0
def tw17131732197842166253:=0
def tw784548749297785594:=0
def tw475591560100441618:=0
def tw14996173547340567914:=0
def tw12822868347202766263:=0
def tw10256995002010467158:=0
def tw4500089867083035107:=0
def tw14847542613290728863:=0
def tw6185879332397447110:=0
def tw12101588992931209446:=0
def tw7459253636067123747:=0
def tw6621433364322543243:=0
def tw11680554152696679321:=0
def tw14482268176397168072:=0
def tw10815576230685698468:=0
def tw10720833775300905244:=0
def tw18081302893480545917:=0
def tw5552513801935730050:=0
def tw722336375952290212:=0
def tw4802634894533199514:=0
def tw17448268169752749492:=0
def tw7233304450565113784:=0
def tw7800337688803873506:=0
def tw12007709699078272023:=0
def tw9551765158797873239:=0
def tw2581778216104437539:=0
def tw6907325004155706569:=0
def tw15108932135024125510:=0
def tw14911552441451591515:=0
def tw15896274922129946018:=0
def tw175722694260918429:=0
def tw8526526812651264996:=0
def tw13519977247562268787:=0
def tw17820707801565960852:=0
def tw12231869611701852158:=0
def tw17091105863097104619:=0
def tw13028237415476482042:=0
def tw6806253019087774800:=0
def tw12076950972513452111:=0
def tw4970831689351781702:=0
def tw5162898301858560443:=0
def tw5982532993921728405:=0
def tw12263206540496246271:=0
def tw17250792065294186560:=0
def tw9398156384648577596:=0
def tw16290584087112402519:=0
def tw16231808570665931517:=0
def tw14939505588499393163:=0
def tw2728493909483168267:=0
def tw15553675609361794367:=0
def tw17200860583222056117:=0
def tw15021727312171311345:=0
def tw14676618349448114791:=0
def tw903445487311427215:=0
def tw10270451457490429916:=0
def tw18265249846079376152:=0
def tw11490640195362338292:=0
def tw13090207394961144252:=0
def tw9712557670816840537:=0
def tw8878772339510854135:=0
def tw4448012629323342894:=0
def tw1411890086703509949:=0
def tw12125370171707040243:=0
def tw17566859829594137998:=0
def tw9358971584714277870:=0
def tw15185757158924392540:=0
def tw316126948862913833:=0
def tw1360100176396501597:=0
def tw8538910764750200850:=0
def tw6304791843534904745:=0
def tw2483844685331244876:=0
def tw11474728301255011204:=0
def tw13184902149163011511:=0
def tw10984126103201937806:=0
def tw16244436177164651336:=0
def tw2472822089511219110:=0
def tw5495986384583073127:=0
def tw2236065243555362052:=0
def tw1269107412633812568:=0
def tw148139169494618895:=0
def tw3956987819037870614:=0
def tw10312107893582259601:=0
def tw2851736789440717181:=0
def tw7298789448582930889:=0
def tw11208132153625585215:=0
def tw6818074703871244735:=0
def tw16779791696443893012:=0
def tw3222635745163373338:=0
def tw18072772021777521202:=0
def tw5570249093625781288:=0
def tw8268489884506546023:=0
def tw1370602349206699499:=0
def tw9024946560190883030:=0
def tw9957192004135811798:=0
def tw11194059927096380842:=0
def tw15274587906317189318:=0
def tw12120271986076417097:=0
def tw8723677573254436426:=0
def tw11932751004204868665:=0
def tw1615780504238348238:=0
def tw4173612050088770880:=0
def tw411592731237949653:=0
def tw85508078206301241:=0
def tw13197172480309501849:=0
def tw6256290010947864311:=0
def tw6728502594292970472:=0
def tw6857766064656200573:=0
def tw1478215233666357824:=0
def tw2716374632155575142:=0
def tw17791057546697150098:=0
def tw978498563746385275:=0
def tw9021992825130498377:=0
def tw14000515060158520574:=0
def tw18345679366013218045:=0
def tw11740032217436835277:=0
def tw16131529101854170988:=0
def tw901595161195010634:=0
def tw3306123575737131785:=0
def tw15343821666672812995:=0
def tw13176939852011063955:=0
def tw10197067123390916334:=0
def tw10105351940911123354:=0
def tw5574552689625772779:=0
def tw8130826648291942257:=0
def tw9635231256144913435:=0
def tw1986609145022678880:=0
def tw11112375150603510575:=0
def tw11592257606226472514:=0
def tw9859171651166558099:=0
def tw18307404355923542333:=0
def tw17792974448705399059:=0
def tw9225039203070049616:=0
def tw10483127411465162390:=0
def tw1725726215153658103:=0
def tw1215356337334839770:=0
def tw7148001044454730168:=0
def tw1537038646095665124:=0
def tw14559852371988172088:=0
def tw7275749328354447133:=0
def tw13335662953265674427:=0
def tw4334217878447838227:=0
def tw9947489443210892450:=0
def tw18217512286299130754:=0
def tw4879896797669391887:=0
def tw4853424143611650027:=0
def tw2796968685527157330:=0
def tw14470017050258186495:=0
def tw9569064615855807478:=0
def tw12766946980162578609:=0
def tw9759139013179532160:=0
def tw16302597454913811075:=0
def tw2356336072691990203:=0
def tw14131960036259976994:=0
def tw4505627009014228363:=0
def tw11236851458688043226:=0
def tw2938720780619466816:=0
def tw13015762046894937019:=0
def tw6190295280206631081:=0
def tw4888309041527544092:=0
def tw9087340927341987562:=0
def tw205381062123028246:=0
def tw1472076174070492672:=0
def tw3621158620927494924:=0
def tw15807396604675445752:=0
def tw7271869033002501370:=0
def tw3986043851805215979:=0
def tw17295645011649705732:=0
def tw7858738230161819024:=0
def tw4949313868635335237:=0
def tw8037818758309095908:=0
def tw1759262258146361211:=0
def tw13275185514004428635:=0
def tw13986088887319695872:=0
def tw12834426621163984139:=0
def tw4384529074568117595:=0
def tw17569442393129181451:=0
def tw5741281576176902283:=0
def tw8519036925947754524:=0
def tw14231817483056079250:=0
def tw4961111314317385238:=0
def tw3528568473659806351:=0
def tw7283635745550787458:=0
def tw1742692121829403221:=0
def tw15165518877219646771:=0
def tw11927100444734778661:=0
def tw16752162260138885828:=0
def tw1010013408988502893:=0
def tw3002624215128141426:=0
def tw18089347821271971678:=0
def tw14967541352322459511:=0
def tw14644523647751381870:=0
def tw16270654579134964187:=0
def tw3642329030885174747:=0
def tw953748859638301084:=0
def tw16971633065229580412:=0
def tw1655437733500200116:=0
def tw2499420173101506214:=0
def tw18323372119937448681:=0
def tw4724028842673220631:=0
def tw2922189675122324696:=0
def tw599307559945476470:=0
def tw12361131962982863384:=0
def tw5943216958830551671:=0
def tw4210836902263082021:=0
def tw13097040837579470970:=0
def tw2801742330458717959:=0
def tw18375370860534327467:=0
def tw12744131418261630775:=0
def tw15927529610614043977:=0
def tw1998383026048394484:=0
def tw9414106667992371888:=0
def tw5722600279521994381:=0
def tw8001810620946807179:=0
def tw17944523883738029770:=0
def tw10594491947711492488:=0
def tw13124247368431736972:=0
def tw13908996767676503684:=0
def tw11034460535966930453:=0
def tw11150732492189614370:=0
def tw17353238959397695726:=0
def tw478770590558955273:=0
def tw5488766558768779460:=0
def tw16878458065799163917:=0
def tw13038875641599162976:=0
def tw1564183473931307652:=0
def tw9047873311514774819:=0
def tw7036479727569199329:=0
def tw689340446366895:=0
def tw15374307940512142357:=0
def tw14065974240879725096:=0
def tw2283826394249796732:=0
def tw9277422475786003104:=0
def tw11963227401948851732:=0
def tw11505728866250273922:=0
def tw9258785662061272575:=0
def tw3024434279807275197:=0
def tw11916546429680259243:=0
def tw9041349931928758284:=0
def tw1243993554812741665:=0
def tw14267428794532957928:=0
def tw4360502878714044914:=0
def tw1674230301975573562:=0
def tw2935572998468908029:=0
def tw10998883698803126217:=0
def tw13198769884184874472:=0
def tw3905568075466906507:=0
def tw4537351782962250382:=0
def tw5785238337142321090:=0
def tw14782923775379851497:=0
def tw1758209630320573759:=0
def tw394052011738222726:=0
def tw11686617267421976303:=0
def tw12770772671246137169:=0
def tw14760287713615935477:=0
def tw5665605278165260151:=0
def tw13989802701611224110:=0
def tw12221075340669327639:=0
def tw11248525270330696486:=0
def tw15737792900491398766:=0
def tw14943267772942071271:=0
def tw4321374907046551190:=0
def tw6183277286883384155:=0
def tw371557456971750987:=0
def tw15100257635456329569:=0
def tw13629977198392776022:=0
def tw8577923114789734988:=0
def tw17742698550062201569:=0
def tw14683870717877047846:=0
def tw11289489002601983015:=0
def tw10449298403373578187:=0
def tw17634138426124374076:=0
def tw13236673773451684410:=0
def tw6909197145017391219:=0
def tw9956878928356250435:=0
def tw7250998147857445126:=0
def tw1827257150220342672:=0
def tw12162316049426245992:=0
def tw5393500861063968181:=0
def tw5223950469523449599:=0
def tw15125113105532031008:=0
def tw6249098012466486610:=0
def tw16057787959622406798:=0
def tw3909421784493765329:=0
def tw13092811480548278226:=0
def tw1204072974334179714:=0
def tw10143800071335777122:=0
def tw16417063961293133038:=0
def tw16794071383690944091:=0
def tw12620082866429894100:=0
end PySem.W.Fast
def PySem.W.Fast.tw44685977406171485:Unit:=()
def PySem.W.Fast.tw4996293730509775870:Unit:=()
def PySem.W.Fast.tw17524403148472125736:Unit:=()
def PySem.W.Fast.tw16115173961101045175:Unit:=()
def PySem.W.Fast.tw10358404418393531336:Unit:=()
def PySem.W.Fast.tw15148493762611181457:Unit:=()
def PySem.W.Fast.tw17092836229099337203:Unit:=()
def PySem.W.Fast.tw2444066199976322039:Unit:=()
def PySem.W.Fast.tw6167415040921660588:Unit:=()
def PySem.W.Fast.tw13978573079606023068:Unit:=()
def PySem.W.Fast.tw9576829080213212759:Unit:=()
def PySem.W.Fast.tw4815513727710962821:Unit:=()
def PySem.W.Fast.tw1054098310908459382:Unit:=()
def PySem.W.Fast.tw14626637599060546083:Unit:=()
def PySem.W.Fast.tw491577183843162799:Unit:=()
def PySem.W.Fast.tw17170655277699743649:Unit:=()
def PySem.W.Fast.tw4078109423402258908:Unit:=()
def PySem.W.Fast.tw2697269489201124039:Unit:=()
def PySem.W.Fast.tw18267204624152834711:Unit:=()
def PySem.W.Fast.tw10143213213362949450:Unit:=()
def PySem.W.Fast.tw2409395278739027782:Unit:=()
def PySem.W.Fast.tw12947942234665247741:Unit:=()
def PySem.W.Fast.tw16748487588236856764:Unit:=()
def PySem.W.Fast.tw5470772781674121918:Unit:=()
def PySem.W.Fast.tw14062242755107419466:Unit:=()
def PySem.W.Fast.tw3324494882484865802:Unit:=()
def PySem.W.Fast.tw12138731302390173652:Unit:=()
open PySem PySem.W PyProof.Rows
set_option maxRecDepth 100000 in
set_option maxHeartbeats 0 in
theorem PySem.Challenge.cw_spanmap_k53_back_and_again_holds : PySem.Challenge.rw_spanmap_k53_back_and_again.Holds := by
 w_on; o_law; k_head; (case hw=>w_witness2)
 k_fill
 refine' FL.walkB (l:=PySem.Challenge.rw_spanmap_k53_back_and_again) (k:=9) rfl rfl ⟨rfl,by decide,by decide⟩ (fun w h Y=>PySem.W.kIn_of Y) (fun w=>by kernel_rfl) ?T ?F
 case T =>
  intro w;dsimp only [L2.makers]
  repeat (first
   | exact FL.TabL.nil
   | (apply FL.tabL_no; k_is)
   | (apply FL.tabL_yes; k_is; k_is; exact rfl; k_is; exact rfl; kernel_rfl))
  all_goals decide
 case F =>
  intro w mg fa h KX G hmg;refine' K53.all_mk KX G hmg ..
  all_goals first | ((first | unfold FL.DefM | unfold FL.DefC); iterate 9 (apply Exists.intro); repeat' (first | (unfold FL.LkF; k_is) | k_is | apply And.intro)) | ((first | unfold FL.CN | unfold FL.XN | unfold FL.XI); repeat' (first | k_is | apply And.intro | decide)) | (unfold L2.NoAttr; k_is) | (unfold FL.LkF; k_is) | k_is | k_exc | decide | exact rfl | skip
#print axioms PySem.Challenge.cw_spanmap_k53_back_and_again_holds
