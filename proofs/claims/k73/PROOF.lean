import PyProof.Rows.All
import Wide.All
import OpenK.AllK
import Wide.FinOn
import Lean
import PyProof.EqAt
import PyProof.DictItems
import PyProof.DictWalks
import PyProof.Rows.SortStr
import PyProof.Rows.SortShellK
import PyProof.Rows.SortWalk
import KE.KRevIter
import KE.KDictList
import PyProof.CollectIter
import PyProof.DictValues
import KE.KDictSum
import PyProof.EqKinds
import PyProof.TupleCall
import PyProof.ListRange
import PyProof.P3In
import PyProof.NeData
import PyProof.NsDelKeeps
import PyProof.SliceList
import KE.KLam
import KE.KIntText
import PySem.Challenge.RW_spanmap_k73_names_at
set_option compiler.extract_closed false
set_option bootstrap.genMatcherCode false
set_option Elab.async false
set_option linter.all false
set_option maxRecDepth 100000
open PySem renaming Value→aA,Addr→aB,Shared→aC,wpAny_bind→aD,starEach→aJ,wpAny_pure→aN,mainGlobals→aS,model→aT,Program→aX,wpAny→bH,FuncData→bN,Around→bT,World→bW,eval→cC,backTo→cY,behindInMarks→dG,attributeBase→dH,wpAny_holding→dS,wpAny_mono→dU,bootBuiltins→dW,compareOp→eE,swapsWith→eQ,IntMulOk→eV,wpAny_Call_Name_kw→fB,builtinLookup_eq_fast→fE,mem_of_lookup→fM,wpAny_truthy_bool→fN,SetTable→fO,keywordEach→gD,sysModules→gF,assignEach→gG,wpAny_setState_of→gU,wpAny_newObj_type→gW,holding→gX,foldedSetIterable→gY,codeAny→gZ,sizeLine_eq→iD,wpAny_call_entry→iJ,codeAny_mono→iK,Keyword→iM,NameKind→iR,wpAny_specialOf→iS,typeLookup_type→iT,codeAny_builtin→iU,wpAny_rule→iX,wpAny_setField→kU,binaryOp→kW,sliceBounds→lX,backToKw→lY,wpAny_passesOwn→mD,tupleKind_room_in1→mR,rawInt→mS,wpAny_pyIter_list→nE,intKind→nF,fits_of_scanBound→nG,plainId_quiet→nH,GenState→nZ,standAt→oK,hashInt→oN,letOwnedTupleGo→pD,isSubtype_type→pV,bindArgs→pX,tupleKind→rD,typeLookup→sL,builtinsNs→sM,valueAt→tZ,setField→uA,relayAll→uB,callerA→uC,Model→uG,wpAny_isInstance→uX,wpAny_askSetting→uY,revObj→uZ,pyIter→AA,isTrue→AB,getMethod→AC,assign→AD,Paired→AI,subscripted→BU,CmpOp→BW,wpAny_updateSeq→DL,wpAny_execs_nil→DM,codeAny_of_tree→DN,setNext→DR,getItem→DU,wpAny_seqItems→GY,wpAny_runValue→GZ,wpAny_call→HA,pyNext→HC,atKey→HE,Result→HF,wpAny_newList→JT,putSet_of→MZ,pickOrder→NA,bindL→NC,bindC→ND,Drawn→NH,wpAny_typeOf→RD,spliced→RE,seqIndex_neg→RF,argsOk→RH,BindsTo→RL,seqIndex_of→YJ,raiseNew→YL
open List renaming mem_cons→aF,getElem?_set_ne→aH,mem_append_right→aI,length_cons→aO,mem_singleton→aP,mem_cons_of_mem→aQ,size_toArray→aU,getElem?_eq_getElem→aZ,map_cons→bA,getElem?_eq_none→bC,mem_cons_self→bD,mem_append_left→bE,getElem?_eq_some_iff→bF,getElem?_set_self→bI,getElem?_map→bK,mem_append→bM,pairwise_cons→bP,append_assoc→bR,nodup_cons→bU,getElem?_append_left→bV,length_append→cA,length_map→cB,lookup_cons→cF,getElem?_append_right→cH,mem_reverse→cJ,mem_map→cM,pairwise_iff_getElem→cO,nodup_append→cS,getElem?_cons_succ→cU,map_nil→dC,map_append→dD,getElem?_replicate→dI,getElem?_cons_zero→dJ,take_of_length_le→dP,drop_eq_getElem_cons→dX,set_cons_zero→eA,pairwise_singleton→eG,mem_filter→eJ,find?_cons→eL,cons_append→eS,set_cons_succ→eX,getD_eq_getElem?_getD→eY,append_nil→fC,take_sublist→fF,map_map→fG,length_reverse→fP,length_take→fQ,nil_append→fZ,any_cons→gA,take_append_drop→gE,drop_sublist→gJ,mem_of_find?_eq_some→hV,reverse_append→hW,map_congr_left→hX,getElem_of_mem→iA,filterMap_cons→iB,getElem?_take_of_lt→iG,ext_getElem?→iV,perm_append_comm→kR,pairwise_reverse→kS,drop_length→kT,reverse_reverse→kZ,mem_of_getElem?→lA,mem_iff_getElem→lB,getElem?_range→lM,getElem?_drop→mC,reverse_cons→mL,not_mem_nil→mY,all_eq_true→mZ,range_succ→nK,foldl_cons→nL,find?_some→nM,length_singleton→nQ,length_replicate→nR,getElem?_toArray→nS,pairwise_append→oA,mem_range→oB,mem_of_mem_take→oC,mem_of_mem_drop→oE,drop_drop→oF,all_cons→pM,mem_filterMap→pP,length_drop→sD,getElem_mem→sE,of_mem_zip→sW,length_nil→sX,length_eraseIdx_of_lt→uM,drop_zero→uN,length_eq_zero_iff→DP,find?_cons_of_neg→DV,getElem?_reverse→HK,find?_eq_none→NG,length_range→RK,range_zero→YM,length_set→YN,take_zero→YY,nodup_nil→YZ
open PySem.Heap renaming get?_push_of_some→aG,get?_push_size→aK,lt_size→aV,get?_update_other→bS,get?_update_self→dB,size_push→uO
open PySem.W renaming Frag→aL,nsIn→aY,keepIn→cE,findIn→cI,mg_none_of→cK,kia_one→cL,fnOf→cZ,emptyDict→dM,instObj→eZ,codeIn→gH,tabIn→hG,mg_of→hJ,plainGet→iY,hasDictIn→mB,isFn→mT,lookIn→nI,plainGet_of→nY,kitx_tuple→oP,callWith_K→oQ,plainOver→pI,methodObj→pJ,kitx_list→pL,takerIn→rL,makesIn→rM,tabObj→sN,noTabs→sP,kitOne→sQ,mroIn→uD,cellsFrom_some→AE,kitx_dict→HN,handedIn→JW,OpenLaw→NE,typeIn→RI,CodeHd→RJ
open Nat renaming le_refl→aM,ne_of_lt→bL,lt_of_lt_of_le→bX,zero_le→bY,lt_irrefl→cR,le_trans→cT,lt_succ_of_lt→fH,lt_succ_self→hU,lt_of_le_of_lt→iO,ne_of_gt→iZ,le_succ→lF,le_of_eq→nJ,lt_trichotomy→rN,sub_zero→HG,lt_trans→HH,le_of_lt→HJ,le_succ_of_le→SE
open PyProof.Rows renaming wpS_bind→aR,wpS_pure→aW,arrOf→bO,pendingOf→bQ,wpS_forRange→cW,callWith_type1→dA,mulOk_of_bits→dF,IntsAre→dY,setArr→eC,seqObj→fR,wpS_mono→fY,oneType'→gP,setPending→iE,callWith_builtin1→iN,wpS_modify→iW,elem'→kO,reverseSlice'→lU,envOfC→mE,gallopOf→nX,wpS_get→oJ,size_push'→oM,StrsAre→oO,AllBare→oR,wpS_lift→pU,failedOf→pW,pairsOf→DT,sortedHeap→HB,mergeAt'→HD,subscriptTail→JU,listUpdate_at→JV,ltAt'→NB,pairsOf_size→RG,seqEpoch_at→YK
open Array renaming length_toList→bB,getElem?_toList→cD,toList_append→cX,getD_eq_getD_getElem?→dL,toList_push→dO,toList_extract→eD,size_extract→fV,toList_reverse→kX,perm_iff_toList_perm→lZ,getElem?_extract→DQ,size_map→YQ
open Option renaming bind_some→bG,map_some→cQ,getD_some→mO,isSome_iff_exists→uL,map_eq_some_iff→BV,isSome_map→JX,getD_none→NF
open Bool renaming false_eq_true→bJ,and_eq_true→cG,false_ne_true→cP,not_true→mP,eq_iff_iff→YO,false_and→ZB
open List.Pairwise renaming sublist→bZ
open Int renaming le_of_lt→dQ,le_trans→eR,le_refl→eU,emod_nonneg→gC,emod_lt_of_pos→mF,natCast_zero→nB,not_lt→nN,toNat_of_nonneg→pN,mul_le_mul→AJ,natCast_one→ZA
open List.Perm renaming append_left→fU,refl→gB,append_right→iL,of_eq→HP
open PySem.F renaming slot_NoneType_hash→gI,plainAttrs_list→iF,called_set→lL,slot_dict_get→nA,sub_list_frozenset→sS,plain_extend_loop→sV,type_list_append→uE,slot_list_append→uF,plain_list_iadd→uI,entry_type_call→uJ,args_dict_get_3→uK,typeCall_set_1→AF,entry_set_init→AG,entry_dict_get→AH,sub_list_set→DO
open Array.Perm renaming refl→kP
open PySem.Heap.SameBut renaming update→uH
namespace HT
noncomputable def sIx(n d:Nat):Option Int->Nat
 |none=>d
 |some v=>if v<0 then (v+(n:Int)).toNat else min v.toNat n
end HT
namespace L2
open PySem
abbrev Key:=Sum (Option Int) Str
noncomputable def ixN(n:Nat)(i:Int):Option Nat:=if 0<=i then (if i<n then some i.toNat else none) else if -(n:Int)<=i then some (i+n).toNat else none
noncomputable def atI{α : Type}(xs:List α)(i:Int):Option α:=(ixN xs.length i).bind fun j=>xs[j]?
end L2
namespace FL
open PySem PySem.Spec PyProof.Rows L2
theorem bnd{α β : Type}{o:Option α}{f : α->Option β}{b : β}(h:o.bind f=some b):∃a,o=some a/\f a=some b:=Option.bind_eq_some_iff.mp h
theorem mpd{α β : Type}{o:Option α}{f : α->β}{b : β}(h:o.map f=some b):∃a,o=some a/\f a=b:=BV.mp h
noncomputable def eB:Nat->Str
 |0=>"Put" | 1=>"Widen" | 2=>"Narrow" | 3=>"Move" | 4=>"Stretch" | 5=>"Mirror" | 6=>"Deed" | 7=>"Shut" | 8=>"Open" | 9=>"Endless" | 10=>"End" | 11=>"Line" | 12=>"Bundle" | 13=>"Desk"
 |20=>"Line" | 21=>"Line" | 22=>"Line" | 23=>"Line" | 24=>"Bundle" | 25=>"Desk" | _=>""
noncomputable def eO:Nat->List Str
 |0=>["span","fill"] | 1=>["fill","at","many"] | 2=>["fill","at","many"] | 3=>["fill","far"] | 4=>["fill","top","bottom"] | 5=>["fill"] | 6=>["fill"] | 7=>["place"] | 8=>["place"] | 11=>["pieces","places","earlier","later"] | 12=>["lying"] | 13=>["lines"]
 |21=>["pieces"] | 22=>["pieces","places"] | 23=>["pieces","places","earlier"] | _=>[]
noncomputable def fnName:Nat->Str
 |0=>"either" | 1=>"if_both" | 2=>"if_alone" | 3=>"summed" | 4=>"_law_first" | 5=>"_law_both" | 6=>"_law_left" | 7=>"_law_sum" | 8=>"_law_none" | _=>""
inductive D where
 |non | bl (b:Bool) | int (i:Int) | str (x:Str) | tup (ds:List D) | lst (ds:List D)
 |dct (ks:List Key) (ds:List D) | ins (t:Nat) (ds:List D) | clo (m n:Nat) (ds:List D)
 |dcf (ks:List Key) (ds:List D)
mutual
noncomputable def flat:D->Bool
 | .non | .bl _ | .int _ | .str _=>true
 | .tup ds=>flats ds
 |_=>false
noncomputable def flats:List D->Bool
 |[]=>true
 |d::r=>flat d&&flats r
end
noncomputable def xName:Nat->Str
 |0=>"SpanError" | 1=>"Empty" | 2=>"NoEnd" | 3=>"Clash" | 4=>"NoCount" | 5=>"NoShare" | 6=>"NoName" | 7=>"NoMark" | 8=>"NoDeed" | 9=>"NoRule" | 10=>"TooMuch" | 11=>"NoText" | _=>"NoRow"
inductive OT where
 |val (d:D) | lst (l:List OT) | tup (l:List OT) | dct (ks:List Key) (l:List OT) | ins (t:Nat) (l:List OT)
mutual
noncomputable def otD:OT->D
 | .val d=>d
 | .lst l=>.lst (otDs l)
 | .tup l=>.tup (otDs l)
 | .dct ks l=>.dct ks (otDs l)
 | .ins t l=>.ins t (otDs l)
noncomputable def otDs:List OT->List D
 |[]=>[]
 |t::r=>otD t::otDs r
end
inductive Sl where
 |no | v (d:D) | own (l:List D) | exc (t:Nat) | fr (l:List D) | ob (r:Option Nat) (t:OT)
abbrev FE:=List Sl->Option D
abbrev FT:=List Sl->Option Bool
abbrev FA:=List Sl->Option (List D)
noncomputable def mkL(f:FA):FE:=fun ds=>(f ds).map D.lst
noncomputable def qF(i:Nat):FE:=fun ds=>match ds[i]? with | some (.v d)=>some d | _=>none
noncomputable def zI(i:Nat):FE:=fun ds=>match ds[i]? with | some (.v d)=>some d | some (.own l)=>some (.lst l) | _=>none
noncomputable def zA(d:D):FE:=fun _=>some d
noncomputable def zF(op:D->D->Option D)(fa fb:FE):FE:=fun ds=>(fa ds).bind fun x=>(fb ds).bind fun y=>op x y
noncomputable def isB:D->Option Bool
 | .bl b=>some b
 |_=>none
noncomputable def zV(f:FE):FT:=fun ds=>(f ds).bind isB
noncomputable def yN:D->D->Option D
 | .int i,.int j=>some (.int (i+j))
 | .str x,.str y=>if x.length+y.length<=sizeLine then some (.str (x++y)) else none
 |_,_=>none
noncomputable def subD:D->D->Option D
 | .int i,.int j=>some (.int (i-j))
 |_,_=>none
def divOk(j:Int):Prop:=0<j/\j.natAbs.log2<9000
noncomputable instance divOkD(j:Int):Decidable (divOk j):=Classical.propDecidable _
noncomputable def qO:D->D->Option D
 | .int i,.int j=>if divOk j then some (.int (i/j)) else none
 |_,_=>none
noncomputable def qY:D->D->Option D
 | .int i,.int j=>if 0<j then some (.int (i%j)) else none
 |_,_=>none
noncomputable def cmpI(p:Int->Int->Bool):D->D->Option D
 | .int i,.int j=>some (.bl (p i j))
 |_,_=>none
noncomputable def andT(c d:FT):FT:=fun ds=>(c ds).bind fun b=>if b=true then d ds else some false
noncomputable def orT(c d:FT):FT:=fun ds=>(c ds).bind fun b=>if b=true then some true else d ds
noncomputable def notT(c:FT):FT:=fun ds=>(c ds).map not
noncomputable def andV(f g:FE):FE:=fun ds=>(f ds).bind fun d=>match d with | .bl true=>g ds | .bl false=>some (.bl false) | _=>none
noncomputable def orV(f g:FE):FE:=fun ds=>(f ds).bind fun d=>match d with | .bl true=>some (.bl true) | .bl false=>g ds | _=>none
noncomputable def notV(f:FE):FE:=fun ds=>(f ds).bind fun d=>match d with | .bl b=>some (.bl (!b)) | _=>none
noncomputable def ifV(c:FT)(f g:FE):FE:=fun ds=>(c ds).bind fun b=>if b=true then f ds else g ds
noncomputable def chain(op op':D->D->Option D)(fa fb fc:FE):FE:=fun ds=>(fa ds).bind fun x=>(fb ds).bind fun y=>(op x y).bind fun z=>match z with
 | .bl true=>(fc ds).bind fun w=>op' y w
 | .bl false=>some (.bl false)
 |_=>none
noncomputable def zC(f:FE)(g:FA):FA:=fun ds=>(f ds).bind fun x=>(g ds).map fun r=>x::r
noncomputable def qA:FA:=fun _=>some []
noncomputable def qR(f:FA):FA:=fun ds=>(f ds).bind fun l=>if l.length<=sizeLine then some l else none
noncomputable def mkT(f:FA):FE:=fun ds=>(f ds).map D.tup
noncomputable def ixD:D->D->Option D
 | .lst l,.int i=>atI l i
 | .tup l,.int i=>atI l i
 | .str x,.int i=>if x.length<=sizeLine then (atI x.cps.toList i).map fun c=>.str ⟨#[c]⟩ else none
 |_,_=>none
inductive Ret where
 |val (d:D) | fresh (l:List D) | any (d:D) | obj (t:OT)
noncomputable def retV:Ret->Option D
 | .val d=>some d
 | .fresh l=>some (.lst l)
 | .any _=>none
 | .obj t=>some (otD t)
noncomputable def retF:Ret->Option (List D)
 | .fresh l=>some l
 |_=>none
noncomputable def jE(n:Nat)(F:List D->Option Ret)(g:FA):FE:=fun ds=>(g ds).bind fun l=>if l.length=n then (F l).bind retV else none
noncomputable def vB(n:Nat)(F:List D->Option Ret)(g:FA):FA:=fun ds=>(g ds).bind fun l=>if l.length=n then (F l).bind retF else none
noncomputable def callB(F:List D->Option D)(g:FA):FE:=fun ds=>(g ds).bind F
noncomputable def lenD:List D->Option D
 |[.lst l]=>some (.int l.length)
 |[.tup l]=>some (.int l.length)
 |[.str x]=>if x.length<=sizeLine then some (.int x.length) else none
 |_=>none
inductive Out where
 |nx (ds:List Sl) | rt (r:Ret) | bk (ds:List Sl) | ct (ds:List Sl)
abbrev FS:=List Sl->Option Out
noncomputable def qL:FS:=fun ds=>some (.nx ds)
noncomputable def jD(f g:FS):FS:=fun ds=>(f ds).bind fun o=>match o with | .nx ds'=>g ds' | o=>some o
noncomputable def ifG(c:FT)(f g:FS):FS:=fun ds=>(c ds).bind fun b=>if b=true then f ds else g ds
noncomputable def jS(i:Nat)(f:FE):FS:=fun ds=>(f ds).map fun d=>.nx (ds.set i (.v d))
noncomputable def setOG(i:Nat)(f:FA):FS:=fun ds=>(f ds).map fun l=>.nx (ds.set i (.own l))
noncomputable def flatR(d:D):Option Out:=if flat d=true then some (.rt (.val d)) else none
noncomputable def retG(f:FE):FS:=fun ds=>(f ds).bind flatR
noncomputable def flatF(l:List D):Option Out:=if flats l=true then some (.rt (.fresh l)) else none
noncomputable def retOG(f:FA):FS:=fun ds=>(f ds).bind flatF
noncomputable def retXG(i:Nat):FS:=fun ds=>match ds[i]? with | some (.own l)=>flatF l | _=>none
noncomputable def putG(i:Nat)(fk fe:FE):FS:=fun ds=>match ds[i]? with
 | some (.own l) => (fe ds).bind fun d => (fk ds).bind fun k => match k with
   | .int n=>(ixN l.length n).map fun j=>.nx (ds.set i (.own (l.set j d)))
   |_=>none
 |_=>none
noncomputable def appG(i:Nat)(fe:FE):FS:=fun ds=>match ds[i]? with
 |some (.own l)=>(fe ds).bind fun d=>if l.length<sizeLine then some (.nx (ds.set i (.own (l++[d])))) else none
 |_=>none
noncomputable def args(n:Nat)(ds:List D):List Sl:=ds.map Sl.v++List.replicate (n-ds.length) Sl.no
noncomputable def sgns(x:Str):List D:=x.cps.toList.map fun c=>D.str ⟨#[c]⟩
noncomputable def asS:D->Option (List D)
 | .str x=>some (sgns x)
 |_=>none
noncomputable def viaA(f:FE)(k:D->Option (List D)):FA:=fun ds=>(f ds).bind k
noncomputable def lC(lo:Int)(n:Nat):List D:=(List.range n).map fun(k:Nat)=>D.int (lo+(k:Int))
def okR(j:Int):Prop:=-(2 ^ 62)<=j/\j<2 ^ 62
noncomputable instance okRD(j:Int):Decidable (okR j):=Classical.propDecidable _
noncomputable def rng1(f:FE):FA:=fun ds=>(f ds).bind fun d=>match d with | .int j=>if okR j then some (lC 0 j.toNat) else none | _=>none
noncomputable def zP(i:Nat):D->List Sl->Option (List Sl):=fun d ds=>some (ds.set i (.v d))
noncomputable def tgNil:List D->List Sl->Option (List Sl)
 |[],ds=>some ds
 |_,_=>none
noncomputable def qM(g:D->List Sl->Option (List Sl))(h:List D->List Sl->Option (List Sl)):List D->List Sl->Option (List Sl)
 |d::r,ds=>(g d ds).bind fun ds'=>h r ds'
 |_,_=>none
noncomputable def tupG(n:Nat)(h:List D->List Sl->Option (List Sl)):D->List Sl->Option (List Sl)
 | .tup l,ds=>if l.length=n then h l ds else none
 |_,_=>none
noncomputable def jI(ga:D->List Sl->Option (List Sl))(body:FS):List D->List Sl->Option Out
 |[],ds=>some (.nx ds)
 | d :: r, ds => (ga d ds).bind fun ds1 => (body ds1).bind fun o => match o with
   | .nx ds2=>jI ga body r ds2
   | .ct ds2=>jI ga body r ds2
   | .bk ds2=>some (.nx ds2)
   | .rt r=>some (.rt r)
noncomputable def forG(fi:FA)(ga:D->List Sl->Option (List Sl))(body:FS):FS:=fun ds=>(fi ds).bind fun items=>jI ga body items ds
noncomputable def compL(ga:D->List Sl->Option (List Sl))(tt:FT)(fe:FE)(s0:List Sl):List D->Option (List D)
 |[]=>some []
 |d::r=>(ga d s0).bind fun ds1=>(tt ds1).bind fun b=>if b=true then (fe ds1).bind fun y=>(compL ga tt fe s0 r).map fun ys=>y::ys else compL ga tt fe s0 r
noncomputable def qU(mp:List (Option Nat))(ds:List Sl):List Sl:=mp.map fun o=>match o with
 |some j=>(match ds[j]? with | some (.v d)=>.v d | _=>.no)
 |none=>.no
noncomputable def compG(fi:FA)(mp:List (Option Nat))(ga:D->List Sl->Option (List Sl))(tt:FT)(fe:FE):FA:=fun ds=>(fi ds).bind fun items=>if items.length<=sizeLine then compL ga tt fe (qU mp ds) items else none
noncomputable def tyD:D->Option String
 | .non=>some "NoneType"
 | .bl _=>some "bool"
 | .int _=>some "int"
 | .str _=>some "str"
 | .tup _=>some "tuple"
 | .lst _=>some "list"
 | .dct _ _=>some "dict"
 | .ins _ _=>none
 | .clo _ _ _=>none
 | .dcf _ _=>none
noncomputable def kitN:List String:=["NoneType","bool","int","str","tuple","list","dict"]
noncomputable def kitT:List String:=["bool","int","str","tuple","list","dict"]
noncomputable def kitF(t T:String):Option Bool:=if t∈kitN/\T∈kitT then some (t==T||(t=="bool"&&T=="int")) else none
noncomputable def isiD(T:String)(d:D):Option D:=(tyD d).bind fun t=>(kitF t T).map D.bl
noncomputable def isiG(T:String)(f:FE):FE:=fun ds=>(f ds).bind (isiD T)
noncomputable def blsD:List D->Option (List Bool)
 |[]=>some []
 | .bl b::r=>(blsD r).map fun bs=>b::bs
 |_=>none
noncomputable def allD:List D->Option D
 |[.lst l]=>(blsD l).map fun bs=>.bl (bs.all id)
 |_=>none
noncomputable def strsD:List D->Option (List Str)
 |[]=>some []
 | .str b::r=>(strsD r).map fun bs=>b::bs
 |_=>none
noncomputable def joinD:D->D->Option D
 | .str z,.lst l=>(strsD l).bind fun ts=>if z.length<=16/\(ts.map (·.length)).sum+ts.length<=1048576 then some (.str (Txt.join z ts)) else none
 |_,_=>none
noncomputable def negD:D->Option D
 | .int i=>some (.int (-i))
 |_=>none
noncomputable def un1(op:D->Option D)(f:FE):FE:=fun ds=>(f ds).bind op
noncomputable def inS:D->D->Option D
 | .str i,.str j=>some (.bl (!(Builtin.Str.occurrences j i 0 j.length 1).isEmpty))
 |_,_=>none
noncomputable def retDG(f:FE):FS:=fun ds=>(f ds).map fun d=>.rt (.val d)
noncomputable def runG(g:FS)(n:Nat):List D->Option Ret:=fun ds=>match g (args n ds) with
 |some (.rt r)=>some r
 |some (.nx _)=>some (.val .non)
 |_=>none
def CPowB(i j:Int):Prop:=0<=j/\(Builtin.Int.intBits i:Int)*j<=2 ^ 27
mutual
noncomputable def toPy:D->PyData
 | .non=>.none
 | .bl b=>.bool b
 | .int i=>.int i
 | .str x=>.str x
 | .tup ds=>.tuple (toPys ds)
 | .lst ds=>.list (toPys ds)
 | .dct _ _=>.none
 | .ins _ _=>.none
 | .clo _ _ _=>.none
 | .dcf _ _=>.none
noncomputable def toPys:List D->List PyData
 |[]=>[]
 |d::r=>toPy d::toPys r
end
mutual
noncomputable def shal:Nat->D->Bool
 |_,.non=>true
 |_,.bl _=>true
 |_,.int _=>true
 |_,.str x=>PyData.strOk x
 |n,.tup ds=>shals n ds
 |n,.lst ds=>shals n ds
 |_,.dct _ _=>false
 |_,.ins _ _=>false
 |_,.clo _ _ _=>false
 |_,.dcf _ _=>false
noncomputable def shals:Nat->List D->Bool
 |_,[]=>true
 |0,_::_=>false
 |n+1,d::r=>shal n d&&shals (n+1) r
end
noncomputable def eqvD(x y:D):Bool:=PyData.eqv (toPy x) (toPy y)
noncomputable def eqvs(x y:List D):Bool:=PyData.eqvAll (toPys x) (toPys y)
noncomputable def eqD(x y:D):Option D:=if shal 40 x=true/\shal 40 y=true then some (.bl (eqvD x y)) else none
noncomputable def neD(x y:D):Option D:=if shal 40 x=true/\shal 40 y=true then some (.bl (!eqvD x y)) else none
noncomputable def isD:D->D->Option D
 | .non,.non=>some (.bl true)
 |_,.non=>some (.bl false)
 |_,_=>none
noncomputable def notD:D->D->Option D
 | .non,.non=>some (.bl false)
 |_,.non=>some (.bl true)
 |_,_=>none
noncomputable def sclD:D->Bool
 | .non | .bl _ | .int _ | .str _=>true
 |_=>false
noncomputable def asLT:D->Option (List D)
 | .lst l=>some l
 | .tup l=>some l
 |_=>none
noncomputable def inD(neg:Bool)(x y:D):Option D:=(asLT y).bind fun l=>if sclD x=true/\l.all sclD=true then some (.bl (if neg then !l.any (fun z=>eqvD z x) else l.any fun z=>eqvD z x)) else none
noncomputable instance mulOkD(i j:Int):Decidable (eV i j):=Classical.propDecidable _
noncomputable instance powOkD(i j:Int):Decidable (CPowB i j):=Classical.propDecidable _
noncomputable def yS:D->D->Option D
 | .int i,.int j=>if eV i j then some (.int (i*j)) else none
 |_,_=>none
noncomputable def powD:D->D->Option D
 | .int i,.int j=>if CPowB i j then some (.int (i ^ j.toNat)) else none
 |_,_=>none
noncomputable def catA(fa fb:FE):FA:=fun ds=>(fa ds).bind fun x=>(fb ds).bind fun y=>match x,y with
 | .lst a,.lst b=>if a.length+b.length<=sizeLine then some (a++b) else none
 |_,_=>none
noncomputable def noP:List Sl->Option (Option Int):=fun _=>some none
noncomputable def soP(f:FE):List Sl->Option (Option Int):=fun ds=>(f ds).bind fun d=>match d with | .int i=>some (some i) | _=>none
noncomputable def cutD(l:List D)(lo hi:Option Int):List D:=(l.drop (HT.sIx l.length 0 lo)).take (HT.sIx l.length l.length hi-HT.sIx l.length 0 lo)
noncomputable def sliA(f:FE)(lo hi:List Sl->Option (Option Int)):FA:=fun ds=>(f ds).bind fun d=>(lo ds).bind fun a=>(hi ds).bind fun b=>match d with
 | .lst l=>some (cutD l a b)
 |_=>none
noncomputable def lisA(f:FE):FA:=fun ds=>(f ds).bind asLT
noncomputable def mxD:List D->Option D
 |[.int i,.int j]=>some (.int (if j>i then j else i))
 |_=>none
noncomputable def mnD:List D->Option D
 |[.int i,.int j]=>some (.int (if j<i then j else i))
 |_=>none
noncomputable def absD:List D->Option D
 |[.int i]=>some (.int (if i<0 then -i else i))
 |_=>none
noncomputable def truD:D->Option Bool
 | .non=>some false
 | .bl b=>some b
 | .int i=>some (i != 0)
 | .str x=>if x.length<=sizeLine then some ((x.length:Int) != 0) else none
 | .tup l=>some (!l.isEmpty)
 | .lst l=>some (!l.isEmpty)
 |_=>none
noncomputable def testT(f:FE):FT:=fun ds=>(f ds).bind truD
noncomputable def relS(i:Nat)(ds:List Sl):List Sl:=match ds[i]? with | some (.own l)=>ds.set i (.v (.lst l)) | _=>ds
noncomputable def asgG(ga:D->List Sl->Option (List Sl))(f:FE):FS:=fun ds=>(f ds).bind fun d=>(ga d ds).map .nx
noncomputable def extG(i:Nat)(fe:FA):FS:=fun ds=>match ds[i]? with
 |some (.own l)=>(fe ds).bind fun d=>if l.length+d.length<=sizeLine then some (.nx (ds.set i (.own (l++d)))) else none
 |_=>none
noncomputable def clrG(i:Nat):FS:=fun ds=>match ds[i]? with
 |some (.own l)=>some (.nx (ds.set i (.own [])))
 |_=>none
noncomputable def ltD:D->D->Option D:=cmpI fun i j=>decide (i<j)
noncomputable def leD:D->D->Option D:=cmpI fun i j=>decide (i<=j)
noncomputable def gtD:D->D->Option D:=cmpI fun i j=>decide (j<i)
noncomputable def geD:D->D->Option D:=cmpI fun i j=>decide (j<=i)
noncomputable def rng2(fa fb:FE):FA:=fun ds=>(fa ds).bind fun x=>(fb ds).bind fun y=>match x,y with
 | .int i,.int j=>if okR i/\okR j then some (lC i (j-i).toNat) else none
 |_,_=>none
noncomputable def KU(lo c:Int)(n:Nat):List D:=(List.range n).map fun(k:Nat)=>D.int (lo+(k:Int)*c)
noncomputable def SX(i j c:Int):Nat:=if i<j then ((j-i-1)/c+1).toNat else 0
def okR3(i j c:Int):Prop:=-(2 ^ 61)<=i/\i<2 ^ 61/\-(2 ^ 61)<=j/\j<2 ^ 61/\0<c/\c<1000000
noncomputable instance okR3D(i j c:Int):Decidable (okR3 i j c):=Classical.propDecidable _
noncomputable def rng3(fa fb fc:FE):FA:=fun ds=>(fa ds).bind fun x=>(fb ds).bind fun y=>(fc ds).bind fun z=>match x,y,z with
 | .int i,.int j,.int c=>if okR3 i j c then some (KU i c (SX i j c)) else none
 |_,_,_=>none
noncomputable def revA(f:FE):FA:=fun ds=>(f ds).bind fun d=>match d with
 | .lst l=>some l.reverse
 |_=>none
noncomputable def augA(i:Nat)(f:FE):FS:=fun ds=>(qF i ds).bind fun x=>(f ds).bind fun y=>match x,y with
 | .int a,.int b=>some (.nx (ds.set i (.v (.int (a+b)))))
 |_,_=>none
noncomputable def parG(i j:Nat)(f:FA):FS:=fun ds=>(f ds).bind fun l=>match l with
 |[a,b]=>some (.nx ((ds.set i (.v a)).set j (.v b)))
 |_=>none
noncomputable def int1D:List D->Option D
 |[.int i]=>some (.int i)
 |[.bl b]=>some (.int (if b then 1 else 0))
 |_=>none
noncomputable def intsD:List D->Option (List Int)
 |[]=>some []
 | .int b::r=>(intsD r).map fun bs=>b::bs
 |_=>none
abbrev Fun2:=D->List D->Option Ret
end FL
namespace FL
open PySem PyProof.Rows L2
noncomputable def fldD(ix:List (Nat×Nat)):D->Option D
 | .ins t ds=>(ix.lookup t).bind fun i=>ds[i]?
 |_=>none
noncomputable def fldG(ix:List (Nat×Nat))(f:FE):FE:=fun ds=>(f ds).bind (fldD ix)
noncomputable def methR(n:Nat)(cs:List Nat)(F:Nat->List D->Option Ret)(o:D)(l:List D):Option Ret:=match o with
 | .ins t es=>if t∈cs/\l.length=n then F t (.ins t es::l) else none
 |_=>none
noncomputable def methV(n:Nat)(cs:List Nat)(F:Nat->List D->Option Ret)(fo:FE)(g:FA):FE:=fun ds=>(fo ds).bind fun o=>(g ds).bind fun l=>(methR n cs F o l).bind retV
noncomputable def methF(n:Nat)(cs:List Nat)(F:Nat->List D->Option Ret)(fo:FE)(g:FA):FA:=fun ds=>(fo ds).bind fun o=>(g ds).bind fun l=>(methR n cs F o l).bind retF
noncomputable def makeG(t n:Nat)(G:List D->Option (List D))(g:FA):FE:=fun ds=>(g ds).bind fun l=>if l.length=n/\flats l=true then (G l).map (D.ins t) else none
end FL
namespace FL
open PySem
noncomputable def dropG(f:FE):FS:=fun ds=>(f ds).map fun _=>.nx ds
def okRB(i j:Int):Prop:=-(2 ^ 61)<=i/\i<2 ^ 61/\-(2 ^ 61)<=j/\j<2 ^ 61
noncomputable instance okRBD(i j:Int):Decidable (okRB i j):=Classical.propDecidable _
end FL
namespace FL
noncomputable def insU(k:Int):List Int->List Int
 |[]=>[k]
 |a::l=>if k<a then k::a::l else if k=a then a::l else a::insU k l
noncomputable def srtU(ns:List Int):List Int:=ns.foldr insU []
noncomputable def srtSA(f:FE):FA:=fun ds=>(f ds).bind fun d=>match d with
 | .lst l=>(intsD l).bind fun ns=>if ns.length+1<4096 then some ((srtU ns).map D.int) else none
 |_=>none
noncomputable def sltW(f:FE)(lo hi:List Sl->Option (Option Int)):FE:=fun ds=>(f ds).bind fun d=>(lo ds).bind fun a=>(hi ds).bind fun b=>match d with
 | .tup l=>some (.tup (cutD l a b))
 |_=>none
theorem vX(k a:Int):∀l:List Int,a∈insU k l↔a=k\/a∈l
 |[]=>by simp[insU]
 | b :: l => by
   unfold insU
   split
   . simp
   . split
     . rename_i e;rw[e];simp
     . rw [aF, vX k a l, aF];constructor
       . rintro (h | h | h)
         . exact .inr (.inl h)
         . exact .inl h
         . exact .inr (.inr h)
       . rintro (h | h | h)
         . exact .inr (.inl h)
         . exact .inl h
         . exact .inr (.inr h)
theorem mem_srtU(a:Int):∀ns:List Int,a∈srtU ns↔a∈ns
 |[]=>Iff.rfl
 | k :: ns => by
   show a∈insU k (srtU ns)↔_;rw[vX,mem_srtU a ns,aF]
theorem MI(k:Int):∀l:List Int,l.Pairwise (· < ·)->(insU k l).Pairwise (· < ·)
 |[],_=>eG _ _
 | a :: l, h => by
   obtain⟨h1,h2⟩:=bP.mp h;unfold insU
   split
   . rename_i hk;refine bP.mpr ⟨fun b hb=>?_,h⟩;rcases aF.mp hb with e | hb
     . rw[e];exact hk
     . exact Int.lt_trans hk (h1 b hb)
   . split
     . exact h
     . rename_i h3 h4;refine bP.mpr ⟨fun b hb=>?_,MI k l h2⟩;rcases (vX k b l).mp hb with e | hb
       . rw[e];omega
       . exact h1 b hb
theorem srtU_lt:∀ns:List Int,(srtU ns).Pairwise (· < ·)
 |[]=>List.Pairwise.nil
 |k::ns=>MI k _ (srtU_lt ns)
theorem lt_unique:∀(l m:List Int),(∀a,a∈l↔a∈m)->l.Pairwise (· < ·)->m.Pairwise (· < ·)->l=m
 |[],[],_,_,_=>rfl
 |[],b::m,h,_,_=>absurd ((h b).mpr (.head _)) (by simp)
 |a::l,[],h,_,_=>absurd ((h a).mp (.head _)) (by simp)
 | a :: l, b :: m, h, h1, h2 => by
   obtain⟨p1,p2⟩:=bP.mp h1;obtain⟨q1,q2⟩:=bP.mp h2
   have ha:a<=b:=by
    rcases aF.mp ((h b).mpr (.head _)) with e | e
    . rw[e];exact eU _
    . exact dQ (p1 b e)
   have hb:b<=a:=by
    rcases aF.mp ((h a).mp (.head _)) with e | e
    . rw[e];exact eU _
    . exact dQ (q1 a e)
   have e:a=b:=Int.le_antisymm ha hb;subst e;rw[lt_unique l m (fun c=>?_) p2 q2];constructor
   . intro hc;rcases aF.mp ((h c).mp (.tail _ hc)) with e | e
     . exact absurd (p1 c hc) (by rw[e];exact Int.lt_irrefl _)
     . exact e
   . intro hc;rcases aF.mp ((h c).mpr (.tail _ hc)) with e | e
     . exact absurd (q1 c hc) (by rw[e];exact Int.lt_irrefl _)
     . exact e
end FL
namespace FL
open PySem PyProof.Rows L2
noncomputable def rngL(fa fb:FE):FA:=fun ds=>(fa ds).bind fun x=>(fb ds).bind fun y=>match x,y with
 | .int i,.int j=>some (lC i (j-i).toNat)
 |_,_=>none
@[simp] theorem rngL_eq(fa fb:FE)(ds:List Sl):rngL fa fb ds=(fa ds).bind fun x=>(fb ds).bind fun y=>match x,y with
 | .int i,.int j=>some (lC i (j-i).toNat)
 |_,_=>none:=rfl
noncomputable instance mulOkSD(x:Str)(n:Int):Decidable (MulOk x n):=Classical.propDecidable _
abbrev FO:=List Sl->Option OT
abbrev FOs:=List Sl->Option (List OT)
noncomputable def getN(i:Nat):FE:=fun ds=>match ds[i]? with
 |some (.v d)=>some d
 |some (.own l)=>some (.lst l)
 |some (.ob _ t)=>some (otD t)
 |_=>none
noncomputable def vO(f:FE):FO:=fun ds=>(f ds).map OT.val
noncomputable def lO(f:FA):FO:=fun ds=>(f ds).map fun l=>.lst (l.map OT.val)
noncomputable def nilO:FOs:=fun _=>some []
noncomputable def consO(f:FO)(g:FOs):FOs:=fun ds=>(f ds).bind fun x=>(g ds).map fun r=>x::r
noncomputable def tO(f:FOs):FO:=fun ds=>(f ds).bind fun l=>if l.length<=sizeLine then some (.tup l) else none
noncomputable def sO(f:FOs):FO:=fun ds=>(f ds).bind fun l=>if l.length<=sizeLine then some (.lst l) else none
noncomputable def setB(i:Nat)(f:FO):FS:=fun ds=>(f ds).map fun t=>.nx (ds.set i (.ob none t))
mutual
noncomputable def flatO:OT->Bool
 | .val d=>flat d
 | .lst l=>iQ l
 | .tup l=>iQ l
 | .dct _ l=>iQ l
 | .ins _ l=>iQ l
noncomputable def iQ:List OT->Bool
 |[]=>true
 |t::r=>flatO t&&iQ r
end
noncomputable def subO:List Nat->OT->Option OT
 |[],t=>some t
 |k::p,.tup l=>(l[k]?).bind (subO p)
 |k::p,.lst l=>(l[k]?).bind (subO p)
 |k::p,.dct _ l=>(l[k]?).bind (subO p)
 |k::p,.ins _ l=>(l[k]?).bind (subO p)
 |_::_,.val _=>none
noncomputable def isL:OT->Bool
 | .lst _=>true
 |_=>false
noncomputable def putO(u:OT):List Nat->OT->OT
 |[],_=>u
 |k::p,.tup l=>.tup (l.modify k (putO u p))
 |k::p,.lst l=>.lst (l.modify k (putO u p))
 |k::p,.dct ks l=>.dct ks (l.modify k (putO u p))
 |k::p,.ins t l=>.ins t (l.modify k (putO u p))
 |_::_,.val d=>.val d
abbrev FP:=List Sl->Option (Nat×List Nat×OT)
noncomputable def varP(i:Nat):FP:=fun ds=>match ds[i]? with
 |some (.ob _ t)=>some (i,[],t)
 |_=>none
noncomputable def atP(ix:List (Nat×Nat))(f:FP):FP:=fun ds=>(f ds).bind fun q=>match q.2.2 with
 | .ins t l=>(ix.lookup t).bind fun k=>(l[k]?).map fun u=>(q.1,q.2.1++[k],u)
 |_=>none
noncomputable def putP(q:Nat×List Nat×OT)(u:OT)(ds:List Sl):List Sl:=match ds[q.1]? with
 |some (.ob r t)=>ds.set q.1 (.ob r (putO u q.2.1 t))
 |_=>ds
noncomputable def clrP(f:FP):FS:=fun ds=>(f ds).bind fun q=>if isL q.2.2=true then some (.nx (putP q (.lst []) ds)) else none
@[simp] theorem getN_eq(i:Nat)(ds:List Sl):getN i ds=match ds[i]? with
 |some (.v d)=>some d
 |some (.own l)=>some (.lst l)
 |some (.ob _ t)=>some (otD t)
 |_=>none:=rfl
@[simp] theorem vO_eq(f:FE)(ds:List Sl):vO f ds=(f ds).map OT.val:=rfl
@[simp] theorem lO_eq(f:FA)(ds:List Sl):lO f ds=(f ds).map fun l=>.lst (l.map OT.val):=rfl
@[simp] theorem nilO_eq(ds:List Sl):nilO ds=some []:=rfl
@[simp] theorem consO_eq(f:FO)(g:FOs)(ds:List Sl):consO f g ds=(f ds).bind fun x=>(g ds).map fun r=>x::r:=rfl
@[simp] theorem tO_eq(f:FOs)(ds:List Sl):tO f ds=(f ds).bind fun l=>if l.length<=sizeLine then some (.tup l) else none:=rfl
@[simp] theorem KO(i:Nat)(f:FO)(ds:List Sl):setB i f ds=(f ds).map fun t=>.nx (ds.set i (.ob none t)):=rfl
theorem yI:∀l:List D,otDs (l.map OT.val)=l
 |[]=>by simp[otDs]
 |d::r=>by simp[otDs,otD,yI r]
theorem sA:∀l:List D,iQ (l.map OT.val)=flats l
 |[]=>by simp[iQ,flats]
 |d::r=>by simp[iQ,flatO,flats,sA r]
noncomputable def appP(f:FP)(g:FE):FS:=fun ds=>(f ds).bind fun q=>(g ds).bind fun d=>match q.2.2 with
 | .lst l=>if l.length<sizeLine then some (.nx (putP q (.lst (l++[.val d])) ds)) else none
 |_=>none
noncomputable def keyD:D->Option Key
 | .int i=>some (.inl (some i))
 | .non=>some (.inl none)
 | .str x=>some (.inr x)
 |_=>none
noncomputable def putTs(k:Key)(T:OT):List Key->List OT->List OT
 |k'::ks,t::ts=>(if k'=k then T else t)::putTs k T ks ts
 |_,ts=>ts
noncomputable def hasK(k:Key)(ks:List Key):Bool:=ks.any fun k'=>decide (k'=k)
noncomputable def putKT(k:Key)(T:OT)(ks:List Key)(ts:List OT):OT:=if hasK k ks=true then .dct ks (putTs k T ks ts) else .dct (ks++[k]) (ts++[T])
noncomputable def getKD(k:Key):List Key->List D->Option D
 |k'::ks,d::ds=>if k'=k then some d else getKD k ks ds
 |_,_=>none
noncomputable def kdD:D->Option (List Key×List D)
 | .dct ks l=>some (ks,l)
 | .dcf ks l=>some (ks,l)
 |_=>none
noncomputable def dO0:FO:=fun _=>some (.dct [] [])
noncomputable def dputG(f:FP)(fk fv:FE):FS:=fun ds=>(fv ds).bind fun d=>(f ds).bind fun q=>(fk ds).bind fun y=>(keyD y).bind fun k=>match q.2.2 with
 | .dct ks ts=>if ks.length<sizeLine then some (.nx (putP q (putKT k (.val d) ks ts) ds)) else none
 |_=>none
noncomputable def dgetG(fd fk:FE):FE:=fun ds=>(fd ds).bind fun x=>(fk ds).bind fun y=>(keyD y).bind fun k=>(kdD x).bind fun p=>getKD k p.1 p.2
noncomputable def dinG(fk fd:FE):FT:=fun ds=>(fk ds).bind fun y=>(keyD y).bind fun k=>(fd ds).bind fun x=>(kdD x).map fun p=>hasK k p.1
noncomputable def dnotG(fk fd:FE):FT:=fun ds=>(dinG fk fd ds).map fun b=>!b
noncomputable def keyDD:Key->D
 | .inl (some i)=>.int i
 | .inl none=>.non
 | .inr x=>.str x
noncomputable def argsL(n:Nat)(T:OT)(l:List D):List Sl:=.ob (some 0) T::args (n-1) l
noncomputable def ob0:Option Sl->Option OT
 |some (.ob (some 0) T)=>some T
 |_=>none
noncomputable def lentF(g:FS)(n:Nat)(T:OT)(l:List D):Option OT:=match g (argsL n T l) with
 |some (.nx ds)=>ob0 ds[0]?
 |_=>none
noncomputable def lentG(n:Nat)(cs:List Nat)(F:Nat->OT->List D->Option OT)(f:FP)(g:FA):FS:=fun ds=>(f ds).bind fun q=>(g ds).bind fun l=>match q.2.2 with
 | .ins t ts=>if t∈cs/\l.length=n then (F t (.ins t ts) l).map fun T'=>.nx (putP q T' ds) else none
 |_=>none
noncomputable def setNw(t t':Nat)(f:FP)(g:FO):FS:=fun ds=>(g ds).bind fun T=>(f ds).bind fun q=>match q.2.2 with
 | .ins c l=>if c=t/\l.length<900 then some (.nx (putP q (.ins t' (l++[T])) ds)) else none
 |_=>none
noncomputable def makeO(t n m:Nat)(F:OT->List D->Option OT)(g:FA):FO:=fun ds=>(g ds).bind fun l=>if l.length+m=n then F (.ins t []) (l++List.replicate m .non) else none
abbrev FX:=List Sl->Option (D×List Sl)
def leT(a b:Str):Prop:=¬b.cps.toList<a.cps.toList
theorem BB{a b c:Str}(h1:leT a b)(h2:leT b c):leT a c:=fun h=>by
 rcases strKind.negTrans c.cps.toList b.cps.toList a.cps.toList (decide_eq_true h) with q | q
 . exact h2 (of_decide_eq_true q)
 . exact h1 (of_decide_eq_true q)
theorem PM{a b:Str}(h:a.cps.toList<b.cps.toList):leT a b:=fun q=>List.lt_irrefl _ (List.lt_trans h q)
theorem CS{a b:Str}(h1:leT a b)(h2:leT b a):a=b:=by
 have:a.cps.toList=b.cps.toList:=List.le_antisymm (List.not_lt.mp h1) (List.not_lt.mp h2);cases a;cases b;simp only[Str.mk.injEq];exact Array.toList_inj.mp this
noncomputable def insT(k:Str):List Str->List Str
 |[]=>[k]
 |a::l=>if a.cps.toList<k.cps.toList then a::insT k l else k::a::l
noncomputable def srtT(ns:List Str):List Str:=ns.foldr insT []
theorem wK(k:Str):∀l:List Str,(insT k l).Perm (k::l)
 |[]=>gB _
 | a :: l => by
   unfold insT
   split
   . exact(List.Perm.cons a (wK k l)).trans (List.Perm.swap _ _ _)
   . exact gB _
theorem srtT_perm:∀ns:List Str,(srtT ns).Perm ns
 |[]=>gB _
 |k::ns=>(wK k _).trans (List.Perm.cons k (srtT_perm ns))
theorem MJ(k:Str):∀l:List Str,l.Pairwise leT->(insT k l).Pairwise leT
 |[],_=>eG _ _
 | a :: l, h => by
   obtain⟨h1,h2⟩:=bP.mp h;unfold insT
   split
   . rename_i hk;refine bP.mpr ⟨fun b hb=>?_,MJ k l h2⟩;rcases aF.mp ((wK k l).mem_iff.mp hb) with e | hb
     . rw[e];exact PM hk
     . exact h1 b hb
   . rename_i hk;refine bP.mpr ⟨fun b hb=>?_,h⟩;rcases aF.mp hb with e | hb
     . rw[e];exact hk
     . exact BB hk (h1 b hb)
theorem srtT_le:∀ns:List Str,(srtT ns).Pairwise leT
 |[]=>List.Pairwise.nil
 |k::ns=>MJ k _ (srtT_le ns)
theorem leT_unique:∀(l m:List Str),l.Perm m->l.Pairwise leT->m.Pairwise leT->l=m
 |[],m,hp,_,_=>(List.Perm.nil_eq hp)
 |a::l,[],hp,_,_=>by have:=hp.length_eq;simp at this
 | a :: l, b :: m, hp, h1, h2 => by
   obtain⟨p1,p2⟩:=bP.mp h1;obtain⟨q1,q2⟩:=bP.mp h2
   have e:a=b:=by
    have ha:a∈b::m:=hp.mem_iff.mp (.head _);have hb:b∈a::l:=hp.mem_iff.mpr (.head _);rcases aF.mp ha with e | ha
    . exact e
    . rcases aF.mp hb with e | hb
      . exact e.symm
      . exact CS (p1 b hb) (q1 a ha)
   subst e;rw[leT_unique l m hp.cons_inv p2 q2]
theorem AO:∀(l:List Str) (p:Str),risingS p l=true->(p::l).Pairwise leT
 |[],p,_=>eG _ _
 | x :: r, p, h => by
   simp only[risingS,cG,Bool.not_eq_true',ltCps_eq,decide_eq_false_iff_not] at h;have ih:=AO r x h.2;obtain⟨i1,i2⟩:=bP.mp ih;refine bP.mpr ⟨fun b hb=>?_,ih⟩;rcases aF.mp hb with e | hb
   . rw[e];exact h.1
   . exact BB h.1 (i1 b hb)
theorem sortedS_le:∀{l:List Str},sortedS l=true->l.Pairwise leT
 |[],_=>List.Pairwise.nil
 |p::l,h=>AO l p h
noncomputable def relO(i:Nat)(ds:List Sl):List Sl:=match ds[i]? with | some (.ob _ T)=>ds.set i (.v (otD T)) | _=>ds
noncomputable def flV'(d:D):Option D:=if flat d=true then some d else none
noncomputable def relVO(i:Nat)(f:FE):FE:=fun ds=>(f (relO i ds)).bind flV'
noncomputable def relFO(i:Nat)(f:FA):FA:=fun ds=>(f (relO i ds)).bind fun l=>if flats l=true then some l else none
noncomputable def seeO(f:FO):FE:=fun ds=>(f ds).map otD
noncomputable def refO:OT->Bool
 | .lst _=>true
 | .dct _ _=>true
 | .ins _ _=>true
 |_=>false
noncomputable def seqR(g:FS)(f:FX):FX:=fun ds=>(g ds).bind fun o=>match o with
 | .nx ds'=>f ds'
 |_=>none
noncomputable def vR(f:FE):FX:=fun ds=>(f ds).map fun d=>(d,ds)
noncomputable def obAt(p:Nat):Option Sl->Option OT
 |some (.ob (some q) T)=>if q=p then some T else none
 |_=>none
noncomputable def lentR(g:FX)(n p:Nat)(T:OT)(l:List D):Option (D×OT):=(g ((args n l).set p (.ob (some p) T))).bind fun q=>(obAt p (q.2[p]?)).map fun T'=>(q.1,T')
noncomputable def hereA(g:FA):FA:=fun ds=>(g ds).map fun l=>D.non::l
noncomputable def callR(n i:Nat)(F:OT->List D->Option (D×OT))(g:FA):FX:=fun ds=>(g ds).bind fun l=>match ds[i]? with
 |some (.ob r T)=>if refO T=true/\l.length=n then (F T l).map fun q=>(q.1,ds.set i (.ob r q.2)) else none
 |_=>none
noncomputable def setR(j:Nat)(f:FX):FS:=fun ds=>(f ds).map fun q=>.nx (q.2.set j (.v q.1))
noncomputable def relGO(i:Nat)(f:FO):FO:=fun ds=>(f (relO i ds)).bind fun T=>if flatO T=true then some T else none
noncomputable def ofO(f:FO):FE:=fun ds=>(f ds).map otD
end FL
namespace FL
open PySem
noncomputable def lentV(f:FS):FX:=fun ds=>(f ds).bind fun o=>match o with
 | .nx ds'=>some (.non,ds')
 |_=>none
end FL
namespace FL
open PySem L2
noncomputable def rH(fd fk fz:FE):FE:=fun ds=>(fd ds).bind fun x=>(fk ds).bind fun y=>(fz ds).bind fun z=>(keyD y).bind fun k=>(kdD x).map fun p=>(getKD k p.1 p.2).getD z
noncomputable def keysA(f:FE):FA:=fun ds=>(f ds).bind fun x=>match x with
 | .dcf ks _=>some (ks.map keyDD)
 |_=>none
noncomputable def cntT:List Str->Nat
 |[]=>0
 |x::r=>if x∈r then cntT r else cntT r+1
noncomputable def lsetE(f:FE):FE:=fun ds=>(f ds).bind fun x=>match x with
 | .lst l=>(strsD l).bind fun ts=>if ts.length<1000 then some (.int (cntT ts.reverse:Nat)) else none
 |_=>none
noncomputable def srtTA(f:FE):FA:=fun ds=>(f ds).bind fun x=>match x with
 | .lst l=>(strsD l).bind fun ts=>if ts.length<64 then some ((srtT ts).map D.str) else none
 |_=>none
theorem cntT_le:∀l:List Str,cntT l<=l.length
 |[]=>aM _
 | x :: r => by
   have:=cntT_le r;unfold cntT
   split<;>simp<;>omega
theorem tV:∀l:List Str,l.Nodup->cntT l=l.length
 |[],_=>rfl
 | x :: r, h => by
   rw[bU] at h;unfold cntT;rw[if_neg h.1,tV r h.2];rfl
noncomputable def dputN(f:FP)(fk:FE)(g:FO):FS:=fun ds=>(g ds).bind fun T=>(f ds).bind fun q=>(fk ds).bind fun y=>(keyD y).bind fun k=>match q.2.2 with
 | .dct ks ts=>if ks.length<sizeLine/\hasK k ks=false then some (.nx (putP q (.dct (ks++[k]) (ts++[T])) ds)) else none
 |_=>none
noncomputable def insV(s:Option Sl):Option D:=match s with
 |some (.ob _ (.ins t [.dct ks ts]))=>some (.ins t [.dcf ks (otDs ts)])
 |_=>none
noncomputable def relTV(i:Nat)(c:FT):FT:=fun ds=>(insV ds[i]?).bind fun d=>c (ds.set i (.v d))
end FL
namespace L2
open PySem PySem.Spec PyProof.Rows
noncomputable def isN0:aA->Bool
 | .none=>true
 |_=>false
noncomputable def keyIs:Key->aA->Bool:=fun k v=>match k with
 | .inl (some n)=>aA.isInt n v
 | .inl none=>isN0 v
 | .inr x=>aA.isStrOf x v
noncomputable def keyH(w:bW):Key->Int:=fun k=>match k with
 | .inl (some n)=>oN n
 | .inl none=>4238894112
 | .inr x=>hashStr w x
theorem qV{k:Key}{v:aA}(h:keyIs k v=true):(∃i t,k=Sum.inl (some i)/\v=aA.int i t)\/(∃x t,k=Sum.inr x/\v=aA.str x t)\/(k=Sum.inl none/\v=aA.none):=by
 rcases k with(_ | i) | x
 . refine .inr (.inr ⟨rfl, ?_⟩);cases v<;>first | rfl | cases h
 . obtain⟨t, e⟩ := aA.isInt_shape (k := i) (v := v) h;exact .inl ⟨i,t,rfl,e⟩
 . obtain⟨t, e⟩ := aA.isStrOf_shape (x := x) (v := v) h;exact .inr (.inl ⟨x,t,rfl,e⟩)
theorem QF{prog:aX}{w:bW}{A:bT}{E:aA->aC->Prop}{s:aC}{Q:Int->aC->Prop}(h:Q 4238894112 { s with toks:=s.toks+1 }):bH (aT prog w) A (PySem.pyHash .none) Q E s:=by
 have ht:s.TypeIs .none "NoneType":=rfl;unfold PySem.pyHash;have hv:[aA.none].any aA.onHeap=false:=rfl;refine aD ?_;rw[cRoomFor,if_neg (by rw[hv];exact cP)];refine aN ?_;refine aD (iS ht gI.lookup ?_);show bH _ _ (if (some (aA.builtin "NoneType.__hash__")==some aA.none)=true then _ else _) Q E s;rw[if_neg (by decide)];refine aD (iS ht gI.lookup ?_);show bH _ _ (callSpecialIfBoundUnlessNone? .none "__hash__" _ >>= _) Q E s
 refine aD (wpAny_callSpecialIfBoundUnlessNone?_slot ht gI
  (iJ gI ht PySem.F.entry_NoneType_hash
    (show bH _ _ (do ret (<- mkInt 4238894112)) _ _ s from wpAny_ret_mkInt ?_) (PySem.F.args_NoneType_hash_1 _)))
 exact aN h
noncomputable def eW(prog:aX)(w:bW):PySem.KeyKind prog w Key where
 is:=keyIs
 hash:=keyH w
 inj:=fun v a b ha hb=>by
  rcases qV ha with⟨i,t,rfl,rfl⟩ | ⟨x,t,rfl,rfl⟩ | ⟨rfl,rfl⟩<;>rcases qV hb with⟨j,u,rfl,e⟩ | ⟨y,u,rfl,e⟩ | ⟨rfl,e⟩<;>cases e<;>rfl
 byValue:=fun k v h=>by rcases qV h with⟨i,t,rfl,rfl⟩ | ⟨x,t,rfl,rfl⟩ | ⟨rfl,rfl⟩<;>rfl
 pyHash:=fun hv h=>by
  rcases qV hv with⟨i,t,rfl,rfl⟩ | ⟨x,t,rfl,rfl⟩ | ⟨rfl,rfl⟩
  . exact wpAny_pyHash_int h
  . exact wpAny_pyHash_str h
  . exact QF h
 eqBool:=fun hu hv h=>by
  rcases qV hu with⟨i,t,rfl,rfl⟩ | ⟨x,t,rfl,rfl⟩ | ⟨rfl,rfl⟩<;>rcases qV hv with⟨j,u,rfl,rfl⟩ | ⟨y,u,rfl,rfl⟩ | ⟨rfl,rfl⟩
  . exact wpAny_eqBool_int (by simp only[Sum.inl.injEq,Option.some.injEq] at h;exact h)
  . exact SeqAt.EqAt.int_str i t y u _ _ _ _ (by simpa using h)
  . exact SeqAt.EqAt.int_none i t _ _ _ _ (by simpa using h)
  . exact SeqAt.EqAt.str_int x t j u _ _ _ _ (by simpa using h)
  . exact wpAny_eqBool_str (by simpa using h)
  . exact SeqAt.EqAt.str_none x t _ _ _ _ (by simpa using h)
  . exact SeqAt.EqAt.none_int j u _ _ _ _ (by simpa using h)
  . exact SeqAt.EqAt.none_str y u _ _ _ _ (by simpa using h)
  . exact SeqAt.EqAt.same .none _ _ _ _ (by simpa using h)
 «strs»:=fun k x t v h=>by
  rcases qV h with⟨i,u,rfl,e⟩ | ⟨y,u,rfl,e⟩ | ⟨rfl,e⟩<;>cases e
  cases v<;>rfl
inductive V where
 |non | bl (b:Bool) | int (i:Int) | str (x:Str) | byt (b:Array UInt8) | flt (b:UInt64) | ref (a:aB) | ty (n:String)
 deriving DecidableEq
noncomputable def RelV:V->aA->Prop
 | .non,u=>u=aA.none
 | .bl b,u=>u=aA.bool b
 | .int i,u=>∃t,u=aA.int i t
 | .str x,u=>∃t,u=aA.str x t
 | .byt b,u=>∃t,u=aA.bytes b t
 | .flt b,u=>∃t,u=aA.float b t
 | .ref a,u=>u=aA.ref a
 | .ty n,u=>u=aA.type n
abbrev Vals:List V->List aA->Prop:=AI RelV
theorem Vals.length{xs:List V}{us:List aA}(r:Vals xs us):xs.length=us.length:=AI.length r
theorem Vals.get:∀{xs:List V} {us:List aA} {i:Nat} {x:V},Vals xs us->xs[i]?=some x->∃u,us[i]?=some u/\RelV x u
 |_,_,_,_,.nil,e=>by simp at e
 |_,_,0,_,.cons r _,e=>by simp at e;subst e;exact⟨_,rfl,r⟩
 | _, _, i + 1, x, .cons _ t, e => by
   obtain⟨u,h1,h2⟩:=Vals.get (i:=i) (x:=x) t (by simpa using e);exact⟨u,by simpa using h1,h2⟩
theorem Vals.set{x:V}{u:aA}(r:RelV x u):∀{xs:List V} {us:List aA} (i:Nat),Vals xs us->Vals (xs.set i x) (us.set i u)
 |_,_,_,.nil=>.nil
 |_,_,0,.cons _ t=>.cons r t
 |_,_,i+1,.cons q t=>.cons q (Vals.set r i t)
theorem Vals.append:∀{xs ys:List V} {us ws:List aA},Vals xs us->Vals ys ws->Vals (xs++ys) (us++ws)
 |_,_,_,_,.nil,s=>s
 |_,_,_,_,.cons r t,s=>.cons r (Vals.append t s)
theorem Vals.take:∀{xs:List V} {us:List aA} (n:Nat),Vals xs us->Vals (xs.take n) (us.take n)
 |_,_,0,_=>.nil
 |_,_,_+1,.nil=>.nil
 |_,_,n+1,.cons r t=>.cons r (Vals.take n t)
theorem Vals.drop:∀{xs:List V} {us:List aA} (n:Nat),Vals xs us->Vals (xs.drop n) (us.drop n)
 |_,_,0,r=>r
 |_,_,_+1,.nil=>.nil
 |_,_,n+1,.cons _ t=>Vals.drop n t
noncomputable def RelO:Option V->Option aA->Prop
 |some v,some u=>RelV v u
 |none,none=>True
 |_,_=>False
def KV{κ : Type}: List (κ×V)->List (κ×aA)->Prop:=AI fun(p : κ×V) (q : κ×aA)=>p.1=q.1/\RelV p.2 q.2
noncomputable def kV:Key->V:=fun k=>match k with
 | .inl (some n)=>.int n
 | .inl none=>.non
 | .inr x=>.str x
inductive HO where
 |lst (xs:List V)
 |tup (xs:List V)
 |dK (kvs:List (Key×V)) | dT (kvs:List (List Key×V))
 |set (S:Int->Bool) (n:Nat)
 |ins (C dx:aB) (fs:List (Str×V))
 |own (x:aB)
 |xd (fs:List (Str×V))
 |met (f x:aB)
 |rng (lo hi:Int)
 |frz (o:Obj) (u:HO)
 |tbl (q:Nat->Nat->Str)
 |ext (φ : Heap->Prop)
abbrev Hp:=aB->Option HO
noncomputable def upd(H:Hp)(a:aB)(o:HO):Hp:=fun b=>if b=a then some o else H b
theorem zK{H:Hp}{a:aB}{o:HO}: upd H a o a=some o:=by unfold upd;rw[if_pos rfl]
theorem upd_ne{H:Hp}{a b:aB}{o:HO}(h:b≠a):upd H a o b=H b:=by unfold upd;rw[if_neg h]
theorem ne_of{H:Hp}{a b:aB}{o u:HO}(h:H a=some o)(h':H b=some u)(d:o≠u):a≠b:=by
 intro e;subst e;rw[h] at h';exact d (Option.some.inj h')
theorem jG{H:Hp}{a b:aB}{o:HO}(h:H a=some o)(h':H b=none):a≠b:=by
 intro e;subst e;rw[h] at h';cases h'
def TblOk(H:Hp)(q:Nat->Nat->Str)(ps:Array aA):Prop:=TriplesOk ps.toList/\∀pos v,codeAmong pos ps.toList=some v->∃c o u vs t,v=.ref c/\H c=some (.frz o u)/\o.data=.fields vs/\vs[1]?=some (.str (q pos.line pos.col) t)
noncomputable def Fixed:HO->Prop
 | .tup _=>True
 | .frz o _=>∃vs,o.data=.fields vs
 |_=>False
noncomputable def Fx:={ u:HO // Fixed u }
section
variable(P:aX)(w:bW)
noncomputable def ObjOk(H:Hp)(h:Heap)(a:aB):HO->Prop
 | .lst xs=>xs.length<=sizeLine/\∃(its:List aA) (n:Nat),Vals xs its/\h.get? a=some { cls:=.type "list",data:=.seq its.toArray n }
 | .tup xs=>xs.length<=sizeLine/\∃its:List aA,Vals xs its/\IsTup h a its.toArray
 | .dK kvs=>kvs.length<=sizeLine/\(a==gF)=false/\∃vs,KV kvs vs/\h.DictOf (eW P w) a vs
 | .dT kvs=>kvs.length<=sizeLine/\(a==gF)=false/\∃xs:List (List Key×aB×aA),
    AI (fun(p:List Key×V) (q:List Key×aB×aA)=>p.1=q.1/\H q.2.1=some (.tup (p.1.map kV))/\RelV p.2 q.2.2) kvs xs ∧
    ∃o es ep,h.get? a=some o/\o.ExactDict/\o.data=.dict es ep/\es.toList=xs.map (entryOfKey (rD (eW P w)))/\(xs.map (·.1)).Nodup
 | .set S n=>h.SetOf (nF P w) a S n
 | .ins C dx fs=>H dx=some (.own a)/\fs.length<=1000/\dx≠a/\h.get? a=some (eZ C dx) ∧
    ∃mA,h.Ns1 dx mA/\(∀f,RelO (fs.lookup f) (mA f))/\PySem.Within mA (fs.map (·.1))
 | .own _=>∃o,h.get? a=some o
 | .xd fs=>∃mA,h.Ns1 a mA/\∀f,RelO (fs.lookup f) (mA f)
 | .rng lo hi=>∃t u v,h.get? a=some { cls:=.type "range",data:=.fields #[.int lo t,.int hi u,.int 1 v] }
 | .frz o u=>h.get? a=some o/\ObjOk H h a u
 | .tbl q=>∃ps,h.get? a=some (sN ps)/\TblOk H q ps
 | .met f x=>h.get? a=some (pJ (.ref f) (.ref x))
 | .ext φ=>φ h/\(∃o,h.get? a=some o)/\∀h1 h2:Heap,φ h1->(∀o,h1.get? a=some o->h2.get? a=some o)->φ h2
def HOk(H:Hp)(h:Heap):Prop:=∀a o,H a=some o->ObjOk P w H h a o
end
section
variable{P:aX}{w:bW}{H H':Hp}{h h':Heap}{a:aB}{o:HO}
theorem ObjOk.lt(x:ObjOk P w H h a o):a<h.objs.size:=by
 cases o with
 |lst xs=>obtain⟨_,_,_,_,e⟩:=x;exact aV e
 |tup xs=>obtain⟨_,_,_,p⟩:=x;exact p.lt
 |dK kvs=>obtain⟨_,_,_,_,o,_,_,e,_⟩:=x;exact aV e
 |dT kvs=>obtain⟨_,_,_,_,o,_,_,e,_⟩:=x;exact aV e
 |set S n=>obtain⟨o,_,_,_,e,_⟩:=x;exact aV e
 |ins C dx fs=>obtain⟨_,_,_,e,_⟩:=x;exact aV e
 |own y=>obtain⟨_,e⟩:=x;exact aV e
 |xd fs=>obtain⟨_,⟨_,_,_,e,_⟩,_⟩:=x;exact aV e
 |rng lo hi=>obtain⟨_,_,_,e⟩:=x;exact aV e
 |frz ob u=>obtain⟨e,_⟩:=x;exact aV e
 |tbl q=>obtain⟨_,e,_⟩:=x;exact aV e
 |met f y=>exact aV (show h.get? a=some _ from x)
 |ext φ=>obtain⟨_,⟨_,e⟩,_⟩:=x;exact aV e
theorem AI.mapP{α β : Type}{F G : α->β->Prop}:∀{l₁ : List α} {l₂ : List β},AI F l₁ l₂->(∀a b,F a b->G a b)->AI G l₁ l₂
 |_,_,.nil,_=>.nil
 |_,_,.cons r t,f=>.cons (f _ _ r) (AI.mapP t f)
theorem ObjOk.stay(x:ObjOk P w H h a o)(k:∀b u,(b=a\/H b=some (.own a))->h.get? b=some u->h'.get? b=some u)(ho:∀b,H b=some (.own a)->H' b=some (.own a))(ht:∀b (xs:Fx),H b=some xs.1->H' b=some xs.1):ObjOk P w H' h' a o:=by
 induction o with
 |lst xs=>obtain⟨z,its,n,r,e⟩:=x;exact⟨z,its,n,r,k _ _ (.inl rfl) e⟩
 |tup xs=>obtain⟨z,its,r,ob,e,c⟩:=x;exact⟨z,its,r,ob,k _ _ (.inl rfl) e,c⟩
 |dK kvs=>obtain⟨z,y,vs,r,ob,es,ep,e,c⟩:=x;exact⟨z,y,vs,r,ob,es,ep,k _ _ (.inl rfl) e,c⟩
 | dT kvs =>
   obtain⟨z,y,xs,r,ob,es,ep,e,c⟩:=x;exact⟨z,y,xs,AI.mapP r fun p q z=>⟨z.1,ht _ ⟨.tup _,trivial⟩ z.2.1,z.2.2⟩,ob,es,ep,k _ _ (.inl rfl) e,c⟩
 |set S n=>obtain⟨ob,es,ep,t,e,c⟩:=x;exact⟨ob,es,ep,t,k _ _ (.inl rfl) e,c⟩
 | ins C dx fs =>
   obtain⟨d,z,ne,e,mA,⟨od,es,ep,e2,c⟩,r⟩:=x;exact⟨ho _ d,z,ne,k _ _ (.inl rfl) e,mA,⟨od,es,ep,k _ _ (.inr d) e2,c⟩,r⟩
 |own y=>obtain⟨ob,e⟩:=x;exact⟨ob,k _ _ (.inl rfl) e⟩
 |xd fs=>obtain⟨mA,⟨od,es,ep,e,c⟩,r⟩:=x;exact⟨mA,⟨od,es,ep,k _ _ (.inl rfl) e,c⟩,r⟩
 |rng lo hi=>obtain⟨t,u,v,e⟩:=x;exact⟨t,u,v,k _ _ (.inl rfl) e⟩
 |frz ob u ih=>obtain⟨e,q⟩:=x;exact⟨k _ _ (.inl rfl) e,ih q⟩
 | tbl q =>
   obtain⟨ps,e,t1,t2⟩:=x;refine⟨ps,k a _ (.inl rfl) e,t1,fun pos v z=>?_⟩;obtain⟨c,o,u,vs,t,h1,h2,h3,h4⟩:=t2 pos v z;exact⟨c,o,u,vs,t,h1,ht c ⟨.frz o u,vs,h3⟩ h2,h3,h4⟩
 | met f y =>
   have e:h.get? a=some (pJ (.ref f) (.ref y)):=x;show h'.get? a=some (pJ (.ref f) (.ref y));exact k a _ (.inl rfl) e
 |ext φ=>obtain⟨p,⟨o,e⟩,st⟩:=x;exact⟨st _ _ p fun o q=>k _ _ (.inl rfl) q,⟨o,k _ _ (.inl rfl) e⟩,st⟩
theorem HOk.lt(x:HOk P w H h)(e:H a=some o):a<h.objs.size:=(x a o e).lt
theorem HOk.fresh(x:HOk P w H h)(e:h.objs.size<=a):H a=none:=by
 cases q:H a with
 |none=>rfl
 |some u=>exact absurd (bX (x.lt q) e) (cR _)
theorem HOk.kept(x:HOk P w H h)(k:∀b u,h.get? b=some u->h'.get? b=some u):HOk P w H h':=fun a o e =>
 (x a o e).stay (fun b u _ q=>k b u q) (fun _ q=>q) fun _ _ q=>q
theorem HOk.laid(x:HOk P w H h)(k:∀b u,h.get? b=some u->h'.get? b=some u)(hp:h.objs.size<=a)(new:ObjOk P w (upd H a o) h' a o):HOk P w (upd H a o) h':=fun b u e=>by
 have hn:=x.fresh hp
 by_cases hb:b=a
 . subst hb;rw[zK] at e;cases e;exact new
 . rw[upd_ne hb] at e;exact(x b u e).stay (fun c v _ q=>k c v q) (fun c q=>by rw[upd_ne (jG q hn)];exact q) fun c xs q=>by rw[upd_ne (jG q hn)];exact q
end
def Rd(H:Hp)(a:aB)(u:HO):Prop:=H a=some u\/∃o,H a=some (.frz o u)
theorem Rd.of{H:Hp}{a:aB}{u:HO}(h:H a=some u):Rd H a u:=.inl h
theorem Rd.ok{P:aX}{w:bW}{H:Hp}{h:Heap}{a:aB}{u:HO}(r:Rd H a u)(x:HOk P w H h):ObjOk P w H h a u:=by
 rcases r with r | ⟨o,r⟩
 . exact x a u r
 . obtain⟨_, q⟩ := x a _ r;exact q
noncomputable def Mut:Option HO->Prop
 |some (.lst _)=>True
 |some (.dK _)=>True
 |some (.dT _)=>True
 |some (.set _ _)=>True
 |some (.ins _ _ _)=>True
 |some (.ext _)=>True
 |_=>False
section
variable{P:aX}{w:bW}{H:Hp}{h h':Heap}{x e:aB}{o':HO}
theorem HOk.write(ok:HOk P w H h)(mu:Mut (H x))(he:e=x\/H e=some (.own x))(k:∀b u,b≠e->h.get? b=some u->h'.get? b=some u)(heo:∃u,h'.get? e=some u)(new:ObjOk P w (upd H x o') h' x o'):HOk P w (upd H x o') h':=fun b u q=>by
 have nown:∀c y,H c=some (.own y)->c≠x:=fun c y r z=>by subst z;rw[r] at mu;exact mu
 have ntup:∀c (xs:Fx),H c=some xs.1->c≠x:=fun c xs r z=>by
  subst z;rw[r] at mu;obtain⟨u,hu⟩:=xs;cases u<;>first | exact False.elim mu | exact False.elim hu
 by_cases hb:b=x
 . subst hb;rw[zK] at q;cases q;exact new
 . rw [upd_ne hb] at q
   by_cases hbe:b=e
   . have q':H b=some (.own x):=by
      rcases he with z | z
      . exact absurd (hbe.trans z) hb
      . rw[hbe];exact z
     rw[q] at q';cases q';obtain⟨v,hv⟩:=heo;exact⟨v,by rw[hbe];exact hv⟩
   . refine (ok b u q).stay (fun c v hc r => k c v ?_ r) (fun c r => by rw [upd_ne (nown c b r)]; exact r) fun c xs r => by rw [upd_ne (ntup c xs r)]; exact r
     rcases hc with rfl | hc
     . exact hbe
     . rintro rfl;rcases he with z | z
       . exact nown c b hc z
       . rw[hc] at z;cases z;exact hb rfl
end
structure Un(fs ex:List aB)(H H':Hp)(h h':Heap):Prop where
 keep:∀b o,h.get? b=some o->H b=none->b∉fs->b∉ex->h'.get? b=some o
 slot:∀b o,h.get? b=some o->H b=none->b∈fs->b∉ex->∃sl,h'.get? b=some { o with slots:=sl }
 free:∀b o,h.get? b=some o->H b=none->b∉ex->H' b=none
 there:∀b o,h.get? b=some o->b∉ex->∃o',h'.get? b=some o'
 tups:∀b xs,H b=some (.tup xs)->H' b=some (.tup xs)
 frzs:∀b o u,H b=some (.frz o u)->H' b=some (.frz o u)
 tbls:∀b ps,H b=some (.tbl ps)->H' b=some (.tbl ps)
section
variable{fs fs' ex ex':List aB}{H H1 H2:Hp}{h h1 h2 h':Heap}{a x e:aB}{o:HO}
theorem Un.any(u:Un fs ex H H1 h h1){b:aB}{ob:Obj}(q:h.get? b=some ob)(n:H b=none)(hx:b∉ex):∃sl,h1.get? b=some { ob with slots:=sl }:=by
 by_cases hb:b∈fs
 . exact u.slot b ob q n hb hx
 . exact⟨ob.slots,u.keep b ob q n hb hx⟩
theorem Un.trans(a:Un fs ex H H1 h h1)(b:Un fs ex H1 H2 h1 h2):Un fs ex H H2 h h2 where
 keep:=fun c ob q n hc hx=>b.keep c ob (a.keep c ob q n hc hx) (a.free c ob q n hx) hc hx
 slot:=fun c ob q n hc hx=>by
  obtain⟨sl,e1⟩:=a.slot c ob q n hc hx;obtain⟨sl',e2⟩:=b.slot c _ e1 (a.free c ob q n hx) hc hx;exact⟨sl',e2⟩
 free:=fun c ob q n hx=>by
  obtain⟨o',e1⟩:=a.there c ob q hx;exact b.free c o' e1 (a.free c ob q n hx) hx
 there:=fun c ob q hx=>by
  obtain⟨o',e1⟩:=a.there c ob q hx;exact b.there c o' e1 hx
 tups:=fun c xs q=>b.tups c xs (a.tups c xs q)
 frzs:=fun c ob xs q=>b.frzs c ob xs (a.frzs c ob xs q)
 tbls:=fun c ps q=>b.tbls c ps (a.tbls c ps q)
theorem Un.kept(k:∀b u,h.get? b=some u->h'.get? b=some u):Un fs ex H H h h' :=
 ⟨fun b ob q _ _ _=>k b ob q,fun b ob q _ _ _=>⟨ob.slots,k b ob q⟩,fun _ _ _ n _=>n,fun b ob q _=>⟨ob,k b ob q⟩,fun _ _ q=>q,fun _ _ _ q=>q,fun _ _ q=>q⟩
theorem Un.refl:Un fs ex H H h h:=Un.kept fun _ _ q=>q
theorem Un.laid(k:∀b u,h.get? b=some u->h'.get? b=some u)(hp:h.objs.size<=a)(hn:H a=none):Un fs ex H (upd H a o) h h' where
 keep:=fun b u q _ _ _=>k b u q
 slot:=fun b u q _ _ _=>⟨u.slots,k b u q⟩
 free:=fun b u q n _=>by rw[upd_ne (bL (bX (aV q) hp))];exact n
 there:=fun b u q _=>⟨u,k b u q⟩
 tups:=fun b xs q=>by rw[upd_ne (jG q hn)];exact q
 frzs:=fun b u xs q=>by rw[upd_ne (jG q hn)];exact q
 tbls:=fun b ps q=>by rw[upd_ne (jG q hn)];exact q
theorem Un.write(mu:Mut (H x))(he:e=x\/H e=some (.own x))(k:∀b u,b≠e->h.get? b=some u->h'.get? b=some u)(heo:∃u,h'.get? e=some u):Un fs ex H (upd H x o) h h':=by
 have hx:∀b,H b=none->b≠x:=fun b n z=>by subst z;rw[n] at mu;exact mu
 have hb:∀b,H b=none->b≠e:=fun b n z=>by
  subst z;rcases he with r | r
  . exact hx b n r
  . rw[n] at r;cases r
 have hm:∀b u,H b=some u->¬Mut (some u)->b≠x:=fun b u q nm z=>by subst z;rw[q] at mu;exact nm mu
 refine⟨fun b u q n _ _=>k b u (hb b n) q,fun b u q n _ _=>⟨u.slots,k b u (hb b n) q⟩,fun b u q n _=>by rw[upd_ne (hx b n)];exact n,fun b u q _=>?_,
  fun b xs q=>by rw[upd_ne (hm b _ q fun z=>z)];exact q,fun b u xs q=>by rw[upd_ne (hm b _ q fun z=>z)];exact q,fun b ps q=>by rw[upd_ne (hm b _ q fun z=>z)];exact q⟩
 by_cases hbe:b=e
 . subst hbe;exact heo
 . exact⟨u,k b u hbe q⟩
end
noncomputable def trk(h:Heap)(H:Hp):List aB:=(List.range h.objs.size).filter fun a=>(H a).isSome
noncomputable def hidT(h:Heap)(H:Hp):Heap:=PySem.W.hideAll h (trk h H)
theorem QE(h:Heap)(H:Hp):(hidT h H).objs.size=h.objs.size:=PySem.W.hideAll_size _ _
theorem GA{h:Heap}{H:Hp}{b:aB}{o:Obj}(e:h.get? b=some o)(n:H b=none):(hidT h H).get? b=some o :=
 PySem.W.hideAll_get _ e fun hm=>by
  have q:(H b).isSome=true:=(eJ.mp hm).2;rw[n] at q;simp at q
theorem of_hidT{h:Heap}{H:Hp}{b:aB}{o:Obj}(e:(hidT h H).get? b=some o):h.get? b=some o/\H b=none:=by
 have e':h.get? b=some o:=PySem.W.of_hideAll (trk h H) e;refine⟨e',?_⟩;cases q:H b with
 |none=>rfl
 | some x =>
   have hm:b∈trk h H:=eJ.mpr ⟨oB.mpr (aV e'),by simp[q]⟩;have z:(hidT h H).get? b=none:=PySem.W.hideAll_none (trk h H) hm;rw[z] at e;cases e
noncomputable def allNews(g h:Heap)(L:aB):List (aB×Obj):=(List.range h.objs.size).filterMap fun a=>if a=L\/(g.get? a).isSome=true then none else (h.get? a).map fun o=>(a,o)
noncomputable def rest(g h:Heap)(L d:aB):List (aB×Obj):=(allNews g h L).filter fun p=>decide (p.1≠d)
structure Mod(K:aL)(mg:Str->Option aA)(base:Heap):Prop where
 kin:K.In base
 glob:base.Ns aS mg
 blt:∃mb,base.Ns sM mb/\∀x:Str,x≠"__name__"->mb x=dW x
 nolimit:base.NoLimit
structure Cx where
 prog:aX
 w:bW
 K:aL
 mg:Str->Option aA
 base:Heap
 A:bT
 N:List Str
 s₀ : aC
 H₀ : Hp
 env:Env
 outer:List Env
 stack:List Env
 ex:List aB
 fn:Str->Bool
 calm:Bool
 pn:List (aB×Obj)
 xe:aA->aC->Prop
noncomputable def frs(l:List Env):List aB:=l.filterMap (·.frame)
noncomputable abbrev Cx.fs(X:Cx):List aB:=frs X.outer
def Vis(sc:Scope)(x:Str):Prop:=sc.names.lookup x=some .local\/sc.names.lookup x=some .cell\/sc.names.lookup x=some .free
def Loc(sc:Scope)(x:Str):Prop:=sc.names.lookup x=some .local\/sc.names.lookup x=some .cell
def Look(env:Env)(h:Heap)(m:Str->Option aA)(x:Str)(u:aA):Prop :=
 (env.kindOf x=some .local/\m x=some u)\/((env.kindOf x=some .cell\/env.kindOf x=some .free)/\∃c,env.cells.lookup x=some c/\h.IsCell c (some u))
noncomputable def makers:List Str:=["law","_law_with_itself","_law_ways","_law_way","holding","_law_any_test","_law_test","_law_turned","_law_right","wheel_run","answer_run"]
noncomputable def innerN:List Stmt->Nat->Nat->Str
 |[],_,_=>"<lambda>"
 | .FunctionDef n _ _ _ _ _ _ _ _ pos::r,l,c=>if pos.line=l/\pos.col=c then n else innerN r l c
 |_::r,l,c=>innerN r l c
noncomputable def pG(K:aL)(x:Str)(l c:Nat):Str:=match aY K aS x with
 | some (some (.ref f)) => (match K.lookup f with
   | some ⟨_, _, .func fd, _⟩ => (match fd.body with
     | .stmts b=>x++".<locals>."++innerN b l c
     |_=>x)
   |_=>x)
 |_=>x
structure TabsK(K:aL)(mg:Str->Option aA)(base:Heap)(H:Hp):Prop where
 bm:∃bm ob,mg "__builtins__" = some (.ref bm)/\bm≠sM/\base.get? bm=some ob/\ob.cls=.type "module"/\ob.dict=some sM/\ob.data=.plain
 tab:∀x c P,x∈makers->hG K x=some (c,P)->RJ base c P/\H P=some (.tbl (pG K x))
def Bsz(K:aL)(mg:Str->Option aA)(base h:Heap)(H:Hp):Prop:=base.objs.size<=h.objs.size/\TabsK K mg base H
def FreeC(X:Cx)(H:Hp)(x:Str)(c:aB):Prop:=H c=none\/(X.fn x=false/\∃o u,H c=some (.frz o u))
theorem FreeC.now{X:Cx}{H:Hp}{x:Str}{c:aB}(h:FreeC X H x c)(hf:X.fn x=true):H c=none:=h.elim id fun z=>by rw[hf] at z;cases z.1
structure Cx.Ok(X:Cx):Prop where
 mod:Mod X.K X.mg X.base
 kind:X.env.scope.kind=.function
 glob:X.env.globals=aS
 blt:X.env.builtins=sM
 above:X.s₀.heap.objs.size<=X.env.locals
 inj:∀x y c,X.env.cells.lookup x=some c->X.env.cells.lookup y=some c->x=y
 has:∀x,(X.env.kindOf x=some .cell\/X.env.kindOf x=some .free)->∃c,X.env.cells.lookup x=some c
 cab:∀x c,X.fn x=true->X.env.cells.lookup x=some c->X.s₀.heap.objs.size<=c
 hd:X.calm=true->X.A.handled=none
 frames:X.A.frames=some X.stack
 stk:X.stack=X.outer\/(X.stack=X.env::X.outer/\X.env.frame=some X.env.locals)
 exf:∀b∈X.ex,b≠X.env.locals/\∀x c,X.env.cells.lookup x=some c->c≠b
 bs:∀b o,X.base.get? b=some o->X.s₀.heap.get? b=some o/\X.H₀ b=none
 bsz:Bsz X.K X.mg X.base X.s₀.heap X.H₀
 noex:∀b o,X.base.get? b=some o->b∉X.ex
 exfs:∀b∈X.ex,b∉X.fs
 funs:X.s₀.heap.FunFrames X.base X.outer
 frf:∀b∈X.fs,X.H₀ b=none
structure Inv(X:Cx)(aE:List (aB×Obj))(σ : List (Option V))(H:Hp)(s:aC):Prop where
 ok:X.Ok
 os:s.os=X.s₀.os
 bare:oR s.gens
 base:Un X.fs X.ex X.H₀ H X.s₀.heap s.heap
 loc:∃m,s.heap.Ns X.env.locals m/\∀(i:Nat) (x:Str) (v:V),X.N[i]?=some x->σ[i]?=some (some v)->Vis X.env.scope x->∃u,RelV v u/\Look X.env s.heap m x u
 cell:∀x c,X.env.cells.lookup x=some c->∃v,s.heap.IsCell c v
 free:H X.env.locals=none
 freeC:∀x c,X.env.cells.lookup x=some c->FreeC X H x c
 pin:∀p∈X.pn++aE,s.heap.get? p.1=some p.2/\H p.1=none/\p.1≠X.env.locals/\p.1∉X.fs/\∀v,p.2.data≠.cell v
 hok:HOk X.prog X.w H s.heap
 len : σ.length=X.N.length
section
variable{X:Cx}{aE:List (aB×Obj)}{σ : List (Option V)}{H H':Hp}{s:aC}{h':Heap}
theorem Cx.Ok.nofr(ok:X.Ok){b:aB}{o:Obj}(e:X.base.get? b=some o):b∉X.fs:=fun hb=>by
 have:=(ok.funs.mem hb).1;rw[e] at this;cases this
theorem Inv.bs(I:Inv X aE σ H s):∀b o,X.base.get? b=some o->s.heap.get? b=some o/\H b=none:=fun b o e =>
 ⟨I.base.keep b o (I.ok.bs b o e).1 (I.ok.bs b o e).2 (I.ok.nofr e) (I.ok.noex b o e),I.base.free b o (I.ok.bs b o e).1 (I.ok.bs b o e).2 (I.ok.noex b o e)⟩
theorem Inv.bk(I:Inv X aE σ H s):∀b o,X.base.get? b=some o->s.heap.get? b=some o:=fun b o e=>(I.bs b o e).1
theorem Inv.mod(I:Inv X aE σ H s):Mod X.K X.mg X.base:=I.ok.mod
theorem Inv.kIn(I:Inv X aE σ H s):X.K.In s.heap:=I.ok.mod.kin.keeps I.bk
theorem Inv.lt(I:Inv X aE σ H s):X.env.locals<s.heap.objs.size:=let ⟨_,hn,_⟩:=I.loc;hn.lt
theorem Inv.sz(I:Inv X aE σ H s):X.s₀.heap.objs.size<=s.heap.objs.size:=cT I.ok.above (HJ I.lt)
theorem Inv.nofs(I:Inv X aE σ H s){a:aB}(h:s.heap.objs.size<=a):a∉X.fs:=fun hb=>by
 obtain⟨_,o,ho,_⟩:=I.ok.funs.mem hb;exact absurd (bX (aV ho) (cT I.sz h)) (cR _)
theorem Inv.cne(I:Inv X aE σ H s):∀x c,X.env.cells.lookup x=some c->c≠X.env.locals:=fun x c e z=>by
 obtain⟨v,o,ho,hd⟩:=I.cell x c e;obtain⟨m,⟨o',es,ep,ho',hd',_⟩,_⟩:=I.loc;rw[z,ho'] at ho;cases ho;rw[hd'] at hd;cases hd
theorem Inv.funs(I:Inv X aE σ H s):s.heap.FunFrames X.base X.outer:=by
 have all:∀(l:List Env),(∀b∈frs l,b∈X.fs)->X.s₀.heap.FunFrames X.base l->s.heap.FunFrames X.base l:=by
  intro l
  induction l with
  |nil=>intro _ _;trivial
  | cons env r ih =>
    intro hs hl;obtain⟨hk,⟨L,o,hf,hn,ho,hd⟩,hr⟩:=hl;have hL:L∈X.fs:=hs L (by unfold frs;rw[iB,hf];exact bD);obtain⟨sl,e⟩:=I.base.slot L o ho (I.ok.frf L hL) hL fun z=>I.ok.exfs L z hL;exact⟨hk,⟨L,_,hf,hn,e,hd⟩,ih (fun b hb=>hs b (by unfold frs;rw[iB,hf];exact aQ _ hb)) hr⟩
 exact all X.outer (fun _ hb=>hb) I.ok.funs
theorem Inv.stack(I:Inv X aE σ H s):s.heap.FunFrames X.base X.stack:=by
 rcases I.ok.stk with e | ⟨e,hf⟩
 . rw[e];exact I.funs
 . rw[e];obtain⟨m,hn,_⟩:=I.loc;refine .cons (by rw[I.ok.kind];decide) hf hn ?_ I.funs;exact Heap.get?_none_of_le (cT I.ok.bsz.1 I.ok.above)
theorem Inv.stkSub(I:Inv X aE σ H s):∀b∈frs X.stack,b∈X.env.locals::X.fs:=fun b hb=>by
 rcases I.ok.stk with e | ⟨e,hf⟩
 . rw[e] at hb;exact aQ _ hb
 . rw[e] at hb;unfold frs at hb;rw[iB,hf] at hb;exact hb
theorem Inv.stkFree(I:Inv X aE σ H s):∀b∈frs X.stack,H b=none:=fun b hb=>by
 rcases aF.mp (I.stkSub b hb) with e | hb
 . rw[e];exact I.free
 . obtain⟨_, o, ho, _⟩ := I.ok.funs.mem hb;exact I.base.free b o ho (I.ok.frf b hb) fun z=>I.ok.exfs b z hb
theorem Inv.step{g':Array nZ}{t':Nat}{d':NH}{ch:List aB}(I:Inv X aE σ H s)(hch:∀b∈ch,(b∈X.ex\/X.s₀.heap.objs.size<=b)/\b≠X.env.locals/\(∀x c,X.env.cells.lookup x=some c->c≠b)/\∀p∈X.pn++aE,p.1≠b)(keep:∀b o,b≠X.env.locals->b∉X.fs->b∉ch->s.heap.get? b=some o->H b=none->h'.get? b=some o)(slot:∀b o,b≠X.env.locals->b∈X.fs->b∉ch->s.heap.get? b=some o->H b=none->∃sl,h'.get? b=some { o with slots:=sl })(free:∀b o,b∉ch->s.heap.get? b=some o->H b=none->H' b=none)(there:∀b o,b∉ch->s.heap.get? b=some o->∃o',h'.get? b=some o')(tups:∀b xs,H b=some (.tup xs)->H' b=some (.tup xs))(frzs:∀b o u,H b=some (.frz o u)->H' b=some (.frz o u))(tbls:∀b ps,H b=some (.tbl ps)->H' b=some (.tbl ps))(ns:∀m,s.heap.Ns X.env.locals m->h'.Ns X.env.locals m)(hok:HOk X.prog X.w H' h')(hg:oR g') :
  Inv X aE σ H' { s with heap:=h',gens:=g',drawn:=d',toks:=t' }:=by
 have neL:∀b o,X.s₀.heap.get? b=some o->b≠X.env.locals:=fun b o e=>bL (bX (aV e) I.ok.above)
 have neC:∀b o,X.s₀.heap.get? b=some o->b∉X.ex->b∉ch:=fun b o e hx hb=>by
  rcases(hch b hb).1 with z | z
  . exact hx z
  . exact absurd (bX (aV e) z) (cR _)
 have cellK:∀x c,X.env.cells.lookup x=some c->∀v,s.heap.IsCell c v->h'.IsCell c v:=fun x c e v ⟨o,ho,hd⟩=>by
  have nch:c∉ch:=fun z=>(hch c z).2.2.1 x c e rfl;rcases I.freeC x c e with fr | ⟨_,of,uf,fr⟩
  . by_cases hc : c ∈ X.fs
    . obtain⟨sl, q⟩ := slot c o (I.cne x c e) hc nch ho fr;exact⟨_,q,hd⟩
    . exact⟨o,keep c o (I.cne x c e) hc nch ho fr,hd⟩
  . obtain⟨e1, _⟩ := I.hok c _ fr;obtain⟨e2,_⟩:=hok c _ (frzs c of uf fr);rw[ho] at e1;cases e1;exact⟨o,e2,hd⟩
 refine⟨I.ok,I.os,hg,⟨fun b o e n hb hx=>?_,fun b o e n hb hx=>?_,fun b o e n hx=>?_,fun b o e hx=>?_,fun b xs e=>tups b xs (I.base.tups b xs e),fun b o xs e=>frzs b o xs (I.base.frzs b o xs e),fun b ps e=>?_⟩,?_,fun x c e=>?_,?_,fun x c e=>?_,fun p hp=>?_,hok,I.len⟩
 . exact keep b o (neL b o e) hb (neC b o e hx) (I.base.keep b o e n hb hx) (I.base.free b o e n hx)
 . obtain⟨sl, e1⟩ := I.base.slot b o e n hb hx;obtain⟨sl',e2⟩:=slot b _ (neL b o e) hb (neC b o e hx) e1 (I.base.free b o e n hx);exact⟨sl',e2⟩
 . obtain⟨o', e1⟩ := I.base.there b o e hx;exact free b o' (neC b o e hx) e1 (I.base.free b o e n hx)
 . obtain⟨o', e1⟩ := I.base.there b o e hx;exact there b o' (neC b o e hx) e1
 . exact tbls b ps (I.base.tbls b ps e)
 . obtain ⟨m, hn, hl⟩ := I.loc;refine ⟨m,ns m hn,fun i x v e1 e2 e3=>?_⟩;obtain ⟨u,r,l⟩:=hl i x v e1 e2 e3;refine ⟨u,r,?_⟩;rcases l with l | ⟨k,c,e,z⟩
   . exact .inl l
   . exact .inr ⟨k,c,e,cellK x c e _ z⟩
 . obtain⟨v, z⟩ := I.cell x c e;exact⟨v,cellK x c e v z⟩
 . obtain⟨m, ⟨o, _, _, ho, _⟩, _⟩ := I.loc;exact free _ o (fun z=>(hch _ z).2.1 rfl) ho I.free
 . obtain⟨v, o, ho, hd⟩ := I.cell x c e;exact(I.freeC x c e).elim (fun fr=>.inl (free c o (fun z=>(hch c z).2.2.1 x c e rfl) ho fr)) fun⟨h1,of,uf,fr⟩=>.inr ⟨h1,of,uf,frzs c of uf fr⟩
 . obtain⟨e, n, ne, nf, d⟩ := I.pin p hp;have nch:p.1∉ch:=fun z=>(hch p.1 z).2.2.2 p hp rfl;exact⟨keep p.1 p.2 ne nf nch e n,free p.1 p.2 nch e n,ne,nf,d⟩
theorem Inv.un{t':Nat}(I:Inv X aE σ H s)(u:Un X.fs [] H H' s.heap h')(hok:HOk X.prog X.w H' h'):Inv X aE σ H' { s with heap:=h',toks:=t' }:=by
 obtain⟨m,⟨o,es,ep,ho,r⟩,_⟩:=id I.loc;obtain⟨sl,hL⟩:=u.any ho I.free (by simp)
 exact I.step (g':=s.gens) (d':=s.drawn) (ch:=[]) (fun _ z=>nomatch z) (fun b o _ hb _ e n=>u.keep b o e n hb (by simp)) (fun b o _ hb _ e n=>u.slot b o e n hb (by simp)) (fun b o _ e n=>u.free b o e n (by simp)) (fun b o _ e=>u.there b o e (by simp)) u.tups u.frzs u.tbls (fun m' hm=>by
  obtain⟨o',es',ep',ho',r'⟩:=hm;rw[ho] at ho';cases ho'
  exact⟨_,es',ep',hL,r'⟩) hok I.bare
theorem Inv.call{g':Array nZ}{t':Nat}{d':NH}{ch:List aB}(I:Inv X aE σ H s)(u:Un (frs X.stack) ch H H' s.heap h')(hok:HOk X.prog X.w H' h')(hg:oR g')(hch:∀b∈ch,(b∈X.ex\/X.s₀.heap.objs.size<=b)/\b≠X.env.locals/\(∀x c,X.env.cells.lookup x=some c->c≠b)/\∀p∈X.pn++aE,p.1≠b) :
  Inv X aE σ H' { s with heap:=h',gens:=g',drawn:=d',toks:=t' }:=by
 obtain⟨m,⟨o,es,ep,ho,r⟩,_⟩:=id I.loc;obtain⟨sl,hL⟩:=u.any ho I.free fun z=>(hch _ z).2.1 rfl
 exact I.step (ch:=ch) hch (fun b o hL hb hc e n=>u.keep b o e n (fun z=>(aF.mp (I.stkSub b z)).elim hL hb) hc) (fun b o _ _ hc e n=>u.any e n hc) (fun b o hc e n=>u.free b o e n hc) (fun b o hc e=>u.there b o e hc) u.tups u.frzs u.tbls (fun m' hm=>by
  obtain⟨o',es',ep',ho',r'⟩:=hm;rw[ho] at ho';cases ho'
  exact⟨_,es',ep',hL,r'⟩) hok hg
theorem Inv.turned{t':Nat}{it:aB}(I:Inv X aE σ H s)(k:∀b o,b≠it->s.heap.get? b=some o->h'.get? b=some o)(hn:H it=none)(hL:it≠X.env.locals)(h1:it∈X.ex\/X.s₀.heap.objs.size<=it)(h2:∀x c,X.env.cells.lookup x=some c->c≠it)(h3:∀p∈X.pn++aE,p.1≠it):Inv X aE σ H { s with heap:=h',toks:=t' }:=by
 have nit:∀b u,H b=some u->b≠it:=fun b u e z=>by rw[z,hn] at e;cases e
 refine I.step (g':=s.gens) (d':=s.drawn) (ch:=[it]) (fun b hb=>?_) (fun b o _ _ hc e _=>k b o (fun z=>hc (by simp[z])) e) (fun b o _ _ hc e _=>⟨o.slots,k b o (fun z=>hc (by simp[z])) e⟩) (fun _ _ _ _ n=>n)
  (fun b o hc e=>⟨o,k b o (fun z=>hc (by simp[z])) e⟩) (fun _ _ e=>e) (fun _ _ _ e=>e) (fun _ _ e=>e) (fun m hm=>?_) (fun b u e=>?_) I.bare
 . have e : b = it := by simpa using hb
   subst e;exact⟨h1,hL,h2,h3⟩
 . obtain⟨o, es, ep, ho, r⟩ := hm;exact⟨o,es,ep,k _ o (Ne.symm hL) ho,r⟩
 . refine (I.hok b u e).stay (fun c v hc q => k c v ?_ q) (fun _ q => q) fun _ _ q => q;rcases hc with z | z
   . rw[z];exact nit b u e
   . exact nit c _ z
theorem Inv.tok(I:Inv X aE σ H s)(t:Nat):Inv X aE σ H { s with toks:=t }:=I.un (h':=s.heap) (t':=t) Un.refl I.hok
theorem Inv.kept{t':Nat}(I:Inv X aE σ H s)(k:∀b u,s.heap.get? b=some u->h'.get? b=some u):Inv X aE σ H { s with heap:=h',toks:=t' }:=I.un (Un.kept k) (I.hok.kept k)
theorem Inv.laid{a:aB}{o:HO}{t':Nat}(I:Inv X aE σ H s)(k:∀b u,s.heap.get? b=some u->h'.get? b=some u)(hp:s.heap.objs.size<=a)(new:ObjOk X.prog X.w (upd H a o) h' a o) :
  Inv X aE σ (upd H a o) { s with heap:=h',toks:=t' }:=I.un (Un.laid k hp (I.hok.fresh hp)) (I.hok.laid k hp new)
theorem Inv.write{x e:aB}{o:HO}{t':Nat}(I:Inv X aE σ H s)(mu:Mut (H x))(he:e=x\/H e=some (.own x))(k:∀b u,b≠e->s.heap.get? b=some u->h'.get? b=some u)(heo:∃u,h'.get? e=some u)(new:ObjOk X.prog X.w (upd H x o) h' x o):Inv X aE σ (upd H x o) { s with heap:=h',toks:=t' }:=I.un (Un.write mu he k heo) (I.hok.write mu he k heo new)
theorem Inv.pins_of{pins':List (aB×Obj)}(I:Inv X aE σ H s)(h:∀p∈pins',s.heap.get? p.1=some p.2/\H p.1=none/\p.1≠X.env.locals/\p.1∉X.fs/\∀v,p.2.data≠.cell v):Inv X pins' σ H s :=
 ⟨I.ok,I.os,I.bare,I.base,I.loc,I.cell,I.free,I.freeC,fun p hp=>(bM.mp hp).elim (fun z=>I.pin p (bE _ z)) (h p),I.hok,I.len⟩
theorem FI{N:List Str}(hN:N.Nodup){i j:Nat}{x:Str}(a:N[i]?=some x)(b:N[j]?=some x):i=j:=by
 obtain⟨h1,e1⟩:=bF.mp a;obtain⟨h2,e2⟩:=bF.mp b;exact(List.getElem_inj hN).mp (e1.trans e2.symm)
theorem NT{M:uG}{A:bT}{E:aA->aC->Prop}{i:Nat}{x:Str}{v:V}{u:aA}{Q:Unit->aC->Prop}(I:Inv X aE σ H s)(hN:X.N.Nodup)(hi:X.N[i]?=some x)(hx:Loc X.env.scope x)(r:RelV v u)(h:∀s',Inv X aE (σ.set i (some v)) H s'->(∃a,Heap.SameBut a s.heap s'.heap/\(a=X.env.locals\/X.env.cells.lookup x=some a))->Q () s')(hf:X.fn x=true\/X.env.scope.names.lookup x=some .local:=by first | exact .inl rfl | exact .inr rfl | assumption):bH M A (storeName X.env x u) Q E s:=by
 obtain⟨m,hn,hl⟩:=id I.loc;have hcls:(X.env.scope.kind==.class||(X.env.scope.kind==.module&&X.env.locals != X.env.globals))=false:=by rw[I.ok.kind];rfl
 have hiσ : i<σ.length:=by rw[I.len];exact(bF.mp hi).1
 have cne:=I.cne
 have tracked:∀{a:aB} {h':Heap},(∃o,s.heap.get? a=some o/\H a=none)->Heap.SameBut a s.heap h'->HOk X.prog X.w H h':=fun {a h'} ha hs b ob e=>by
  obtain⟨_,_,hfree⟩:=ha;refine(I.hok b ob e).stay (fun c w' hc q=>(hs.2 c ?_).trans q) (fun _ q=>q) fun _ _ q=>q;rintro rfl;rcases hc with rfl | hc
  . rw[hfree] at e;cases e
  . rw[hfree] at hc;cases hc
 rcases hx with hk | hk
 . refine wpAny_storeName_local hk hn (fun h' hn' hs => ?_) hcls;obtain ⟨oL,_,_,hoL,_⟩:=id hn;refine h _ ⟨I.ok,I.os,I.bare,⟨fun b o e n hb hx=>?_,fun b o e n hb hx=>?_,I.base.free,fun b o e hx=>?_,I.base.tups,I.base.frzs,I.base.tbls⟩,⟨_,hn',fun j y v' e1 e2 e3=>?_⟩,fun y c e=>?_,I.free,I.freeC,fun p hp=>?_,tracked ⟨oL,hoL,I.free⟩ hs,by simpa using I.len⟩ ⟨_,hs,.inl rfl⟩
   . exact(hs.2 b (bL (bX (aV e) I.ok.above))).trans (I.base.keep b o e n hb hx)
   . obtain⟨sl, e1⟩ := I.base.slot b o e n hb hx;exact⟨sl,(hs.2 b (bL (bX (aV e) I.ok.above))).trans e1⟩
   . obtain⟨o', e1⟩ := I.base.there b o e hx;exact⟨o',(hs.2 b (bL (bX (aV e) I.ok.above))).trans e1⟩
   . by_cases hj : j = i
     . subst hj;rw[hi] at e1;cases e1;rw[bI hiσ] at e2;cases e2;exact⟨u,r,.inl ⟨hk,by simp⟩⟩
     . rw [aH (Ne.symm hj)] at e2;obtain ⟨u',r',q⟩:=hl j y v' e1 e2 e3;refine ⟨u',r',?_⟩;rcases q with ⟨k,e⟩ | ⟨k,c,e,z⟩
       . refine .inl ⟨k, ?_⟩;have:y≠x:=fun e=>hj (FI hN e1 (e▸hi));simp[this,e]
       . exact .inr ⟨k,c,e,z.sameBut hs (cne y c e)⟩
   . obtain⟨w', z⟩ := I.cell y c e;exact⟨w',z.sameBut hs (cne y c e)⟩
   . obtain⟨e, n, ne, nf, d⟩ := I.pin p hp;exact⟨(hs.2 p.1 ne).trans e,n,ne,nf,d⟩
 . have hfn:X.fn x=true:=by
    rcases hf with z | z
    . exact z
    . rw[z] at hk;cases hk
   obtain⟨c,hc⟩:=I.ok.has x (.inl hk);obtain⟨w',z⟩:=I.cell x c hc;refine wpAny_storeName_cell I.ok.kind hk hc z (fun h' hc' hs=>?_);obtain⟨oc,hoc,hocd⟩:=id z;refine h { s with heap:=h' } ⟨I.ok,I.os,I.bare,⟨fun b o e n hb hx=>?_,fun b o e n hb hx=>?_,I.base.free,fun b o e hx=>?_,I.base.tups,I.base.frzs,I.base.tbls⟩,⟨m,hn.sameBut hs (Ne.symm (cne x c hc)),fun j y v' e1 e2 e3=>?_⟩,fun y c' e=>?_,I.free,I.freeC,fun p hp=>?_,tracked ⟨oc,hoc,(I.freeC x c hc).now hfn⟩ hs,by simpa using I.len⟩ ⟨c,hs,.inr hc⟩
   . exact(hs.2 b (bL (bX (aV e) (I.ok.cab x c hfn hc)))).trans (I.base.keep b o e n hb hx)
   . obtain⟨sl, e1⟩ := I.base.slot b o e n hb hx;exact⟨sl,(hs.2 b (bL (bX (aV e) (I.ok.cab x c hfn hc)))).trans e1⟩
   . obtain⟨o', e1⟩ := I.base.there b o e hx;exact⟨o',(hs.2 b (bL (bX (aV e) (I.ok.cab x c hfn hc)))).trans e1⟩
   . by_cases hj : j = i
     . subst hj;rw[hi] at e1;cases e1;rw[bI hiσ] at e2;cases e2;exact⟨u,r,.inr ⟨.inl hk,c,hc,hc'⟩⟩
     . rw [aH (Ne.symm hj)] at e2;obtain ⟨u',r',q⟩:=hl j y v' e1 e2 e3;refine ⟨u',r',?_⟩;rcases q with q | ⟨k,c',e,z'⟩
       . exact .inl q
       . refine .inr ⟨k, c', e, z'.sameBut hs ?_⟩;rintro rfl;exact hj (FI hN e1 (I.ok.inj _ _ _ e hc▸hi))
   . by_cases hcc : c' = c
     . subst hcc;exact⟨_,hc'⟩
     . obtain⟨w2, z2⟩ := I.cell y c' e;exact⟨w2,z2.sameBut hs hcc⟩
   . obtain⟨e, n, ne, nf, d⟩ := I.pin p hp;refine⟨(hs.2 p.1 ?_).trans e,n,ne,nf,d⟩;intro q;rw[q,hoc] at e;have q':oc=p.2:=Option.some.inj e;exact d w' (by rw[<- q'];exact hocd)
theorem EE{M:uG}{A:bT}{E:aA->aC->Prop}{i:Nat}{x:Str}{v:V}{u:aA}{Q:Unit->aC->Prop}(I:Inv X aE σ H s)(hN:X.N.Nodup)(hi:X.N[i]?=some x)(hx:Loc X.env.scope x)(r:RelV v u)(h:∀s',Inv X aE (σ.set i (some v)) H s'->Q () s')(hf:X.fn x=true\/X.env.scope.names.lookup x=some .local:=by first | exact .inl rfl | exact .inr rfl | assumption):bH M A (storeName X.env x u) Q E s :=
 NT I hN hi hx r (fun s' I' _=>h s' I') hf
theorem Inv.call'{s':aC}{ch:List aB}(I:Inv X aE σ H s)(ho:s'.os=s.os)(u:Un (frs X.stack) ch H H' s.heap s'.heap)(hok:HOk X.prog X.w H' s'.heap)(hg:oR s'.gens)(hch:∀b∈ch,(b∈X.ex\/X.s₀.heap.objs.size<=b)/\b≠X.env.locals/\(∀x c,X.env.cells.lookup x=some c->c≠b)/\∀p∈X.pn++aE,p.1≠b):Inv X aE σ H' s':=by
 obtain⟨h',g',d',t',o'⟩:=s';have e:o'=s.os:=ho;subst e;exact I.call (g':=g') (t':=t') (d':=d') u hok hg hch
end
abbrev XK:=aA->Option aB->Hp->Prop
abbrev St:=List (Option V)
abbrev VK:=V->Hp->Prop
abbrev TE:=St->Hp->VK->Prop
abbrev TT:=St->Hp->(Bool->Hp->Prop)->Prop
abbrev TA:=St->Hp->(List V->Hp->Prop)->Prop
structure Ends where
 nx:St->Hp->Prop
 rt:VK
 bk:St->Hp->Prop:=fun _ _=>False
 ct:St->Hp->Prop:=fun _ _=>False
abbrev TS:=Ends->St->Hp->Prop
def EP(X:Cx)(aE:List (aB×Obj))(σ : St)(Q:VK)(u:aA)(s':aC):Prop:=∃v H',Inv X aE σ H' s'/\RelV v u/\Q v H'
def TP(X:Cx)(aE:List (aB×Obj))(σ : St)(Q:Bool->Hp->Prop)(b:Bool)(s':aC):Prop:=∃H',Inv X aE σ H' s'/\Q b H'
def AP(X:Cx)(aE:List (aB×Obj))(σ : St)(Q:List V->Hp->Prop)(us:List aA)(s':aC):Prop:=∃vs H',Inv X aE σ H' s'/\Vals vs us/\Q vs H'
def SP(X:Cx)(aE:List (aB×Obj))(D:Ends)(f:Flow)(s':aC):Prop :=
 match f with
 | .next=>∃σ' H',Inv X aE σ' H' s'/\D.nx σ' H'
 | .brk=>∃σ' H',Inv X aE σ' H' s'/\D.bk σ' H'
 | .cont=>∃σ' H',Inv X aE σ' H' s'/\D.ct σ' H'
 | .ret u=>∃v σ' H',Inv X aE σ' H' s'/\RelV v u/\D.rt v H'
def PE(X:Cx)(e:Expr)(t:TE):Prop :=
 ∀(aE:List (aB×Obj)) (s:aC) (σ : St) (H:Hp) (Q:VK),Inv X aE σ H s->t σ H Q->bH (aT X.prog X.w) X.A (cC e X.env) (EP X aE σ Q) X.xe s
def PT(X:Cx)(e:Expr)(t:TT):Prop :=
 ∀(aE:List (aB×Obj)) (s:aC) (σ : St) (H:Hp) (Q:Bool->Hp->Prop),Inv X aE σ H s->t σ H Q->bH (aT X.prog X.w) X.A (AB e X.env (cC e X.env)) (TP X aE σ Q) X.xe s
def PW(X:Cx)(e:Expr)(t:TT):Prop :=
 ∀(whole:Sem aA) (aE:List (aB×Obj)) (s:aC) (σ : St) (H:Hp) (Q:Bool->Hp->Prop),Inv X aE σ H s->t σ H Q->bH (aT X.prog X.w) X.A (AB e X.env whole) (TP X aE σ Q) X.xe s
theorem PW.pt{X:Cx}{e:Expr}{t:TT}(h:PW X e t):PT X e t:=h _
def PA(X:Cx)(es:List Expr)(t:TA):Prop :=
 ∀(pos:Pos) (aE:List (aB×Obj)) (s:aC) (σ : St) (H:Hp) (Q:List V->Hp->Prop),Inv X aE σ H s->t σ H Q->bH (aT X.prog X.w) X.A (RE (cY pos (aJ es X.env))) (AP X aE σ Q) X.xe s
def PS(X:Cx)(st:Stmt)(t:TS):Prop :=
 ∀(aE:List (aB×Obj)) (s:aC) (σ : St) (H:Hp) (D:Ends),Inv X aE σ H s->t D σ H->bH (aT X.prog X.w) X.A (exec st X.env) (SP X aE D) X.xe s
def PSs(X:Cx)(st:List Stmt)(t:TS):Prop :=
 ∀(aE:List (aB×Obj)) (s:aC) (σ : St) (H:Hp) (D:Ends),Inv X aE σ H s->t D σ H->bH (aT X.prog X.w) X.A (execs st X.env) (SP X aE D) X.xe s
theorem thn{α : Type}{t:Sem α}{Q Q' : α->aC->Prop}{M:uG}{A:bT}{E:aA->aC->Prop}{s:aC}(h:bH M A t Q E s)(hQ:∀a s,Q a s->Q' a s):bH M A t Q' E s:=dU h hQ fun _ _ x=>x
section
variable{X:Cx}
def tVar(i:Nat):TE:=fun σ H Q=>∃v,σ[i]?=some (some v)/\Q v H
def tC(v:V):TE:=fun _ H Q=>Q v H
theorem xD{i:Nat}{x:Str}{pos:Pos}(hN:X.N[i]?=some x)(hv:Vis X.env.scope x)(hd:(x==("__debug__" : Str))=false:=by decide)(hcd:(x==("__classdict__" : Str))=false:=by decide):PE X (.Name x pos) (tVar i):=by
 intro aE s σ H Q I h;obtain⟨v,e,h⟩:=h;obtain⟨m,hn,hl⟩:=I.loc;obtain⟨u,r,l⟩:=hl i x v hN e hv;have fin:EP X aE σ Q u s:=⟨v,H,I,r,h⟩
 rcases l with⟨hk,hm⟩ | ⟨hk,c,hc,hcell⟩
 . exact wpAny_Name (wpAny_loadName_local I.ok.kind hk hn hm fin) hd
 . rcases hk with hk | hk
   . exact wpAny_Name (wpAny_loadName_cell I.ok.kind hk hc hcell fin) hd
   . exact wpAny_Name (wpAny_loadName_free I.ok.kind hk hc hcell fin hcd) hd
theorem pe_int{i j pos}: PE X (.Constant (.int i) j pos) (tC (.int i)):=fun _ _ _ H _ I h=>wpAny_Constant_int ⟨.int i,H,I.tok _,⟨_,rfl⟩,h⟩
theorem pe_bl{b j pos}: PE X (.Constant (.bool b) j pos) (tC (.bl b)):=fun _ _ _ H _ I h=>Constant_bool ⟨.bl b,H,I,rfl,h⟩
theorem pe_non{j pos}: PE X (.Constant .none j pos) (tC .non):=fun _ _ _ H _ I h=>Constant_none ⟨.non,H,I,rfl,h⟩
theorem pe_str{x j pos}: PE X (.Constant (.str x) j pos) (tC (.str x)):=fun _ _ _ H _ I h=>Calls.Constant_str ⟨.str x,H,I.tok _,⟨_,rfl⟩,h⟩
def Gl(X:Cx)(x:Str):Prop:=X.env.kindOf x=some .globalImplicit
theorem CT{E:aA->aC->Prop}{aE:List (aB×Obj)}{s:aC}{σ : St}{H:Hp}{x:Str}{u:aA}{pos:Pos}{Q:aA->aC->Prop}(I:Inv X aE σ H s)(hg:Gl X x)(hm:X.mg x=some u)(h:Q u s)(hd:(x==("__debug__" : Str))=false:=by decide):bH (aT X.prog X.w) X.A (cC (.Name x pos) X.env) Q E s :=
 Calls.Name_function_global I.ok.kind hg (Calls.loadGlobal_global (by rw[I.ok.glob];exact I.mod.glob.keeps I.bk) hm h) hd
theorem yT{E:aA->aC->Prop}{aE:List (aB×Obj)}{s:aC}{σ : St}{H:Hp}{x:Str}{u:aA}{pos:Pos}{Q:aA->aC->Prop}(I:Inv X aE σ H s)(hg:Gl X x)(hm:X.mg x=none)(hv:dW x=some u)(h:Q u s)(hn:x≠"__name__":=by decide)(hd:(x==("__debug__" : Str))=false:=by decide):bH (aT X.prog X.w) X.A (cC (.Name x pos) X.env) Q E s:=by
 obtain⟨mb,h1,h2⟩:=I.mod.blt;exact Calls.Name_function_global I.ok.kind hg (Calls.loadGlobal_builtin (by rw[I.ok.glob];exact I.mod.glob.keeps I.bk) hm (by rw[I.ok.blt];exact h1.keeps I.bk) ((h2 x hn).trans hv) h) hd
theorem pe_glob{x:Str}{v:V}{u:aA}{pos:Pos}(hg:Gl X x)(hm:X.mg x=some u)(r:RelV v u)(hd:(x==("__debug__" : Str))=false:=by decide):PE X (.Name x pos) (tC v):=
 fun _ _ _ H _ I h=>CT I hg hm ⟨v,H,I,r,h⟩ hd
theorem pe_bltn{x:Str}{v:V}{u:aA}{pos:Pos}(hg:Gl X x)(hm:X.mg x=none)(hv:dW x=some u)(r:RelV v u)(hn:x≠"__name__":=by decide)(hd:(x==("__debug__" : Str))=false:=by decide):PE X (.Name x pos) (tC v):=
 fun _ _ _ H _ I h=>yT I hg hm hv ⟨v,H,I,r,h⟩ hn hd
variable{a b:Expr}{ta tb:TE}{pos:Pos}
def PC(X:Cx)(op:BW)(a b:Expr)(t:TE):Prop :=
 ∀(aE:List (aB×Obj)) (s:aC) (σ : St) (H:Hp) (Q:VK),Inv X aE σ H s->t σ H Q →
  bH (aT X.prog X.w) X.A (cC a X.env) (fun v s₁=>bH (aT X.prog X.w) X.A (cC b X.env) (fun u s₂=>bH (aT X.prog X.w) X.A (eE op v u) (EP X aE σ Q) X.xe s₂) X.xe s₁) X.xe s
theorem VN(b:Expr){op:BW}(h:op≠.In)(h2:op≠.NotIn):dG op b=false:=by
 have e1:(op==BW.In)=false:=by cases op<;>first | rfl | exact absurd rfl h
 have e2:(op==BW.NotIn)=false:=by cases op<;>first | rfl | exact absurd rfl h2
 cases b<;>simp[dG,e1,e2]
def tB(t:TE):TT:=fun σ H Q=>t σ H fun x H1=>∃c,x=.bl c/\Q c H1
theorem pt_cmp{op:BW}{t:TE}(h:PC X op a b t)(h1:dG op b=false:=by first | exact VN _ (by decide) (by decide) | rfl):PT X (.Compare a [op] [b] pos) (tB t):=by
 intro aE s σ H Q I hw;refine wpAny_isTrue_Compare1 (thn (h aE s σ H _ I hw) fun v s1 h1=>thn h1 fun u s2 h2=>thn h2 fun c s3 zq=>?_) h1;obtain⟨x,H1,I1,r1,q1⟩:=zq;obtain⟨d,rfl,q⟩:=q1;cases r1;exact fN ⟨H1,I1,q⟩
theorem pt_val{e:Expr}{t:TE}(h:PE X e t)(he:∀whole,AB e X.env whole=(do let v <- whole;oK e.pos;gX [v] (truthy v)):=by intro _;rfl):PT X e (tB t):=by
 intro aE s σ H Q I hw;refine isTrue_plain (thn (h aE s σ H _ I hw) fun v s1 zq=>?_) (he _);obtain⟨x,H1,I1,r1,q1⟩:=zq;obtain⟨d,rfl,q⟩:=q1;cases r1;exact fN ⟨H1,I1,q⟩
variable{tA tB':TT}{rest:List Expr}
def tAnd(t u:TT):TT:=fun σ H Q=>t σ H fun c H1=>if c=true then u σ H1 Q else Q false H1
def tOr(t u:TT):TT:=fun σ H Q=>t σ H fun c H1=>if c=true then Q true H1 else u σ H1 Q
def tNot(t:TT):TT:=fun σ H Q=>t σ H fun c H1=>Q (!c) H1
theorem ZY(ha:PT X a tA):PW X (.BoolOp .And [a] pos) tA:=by
 intro wh aE s σ H Q I h;refine isTrue_and (thn (ha aE s σ H Q I h) fun c s1 e=>?_);cases c with
 |true=>exact isTrue_and_nil e
 |false=>exact e
theorem pw_or1(ha:PT X a tA):PW X (.BoolOp .Or [a] pos) tA:=by
 intro wh aE s σ H Q I h;refine isTrue_or (thn (ha aE s σ H Q I h) fun c s1 e=>?_);cases c with
 |false=>exact isTrue_or_nil e
 |true=>exact e
theorem pw_and(ha:PT X a tA)(hb:PW X (.BoolOp .And (b::rest) pos) tB'):PW X (.BoolOp .And (a::b::rest) pos) (tAnd tA tB'):=by
 intro wh aE s σ H Q I h;refine isTrue_and (thn (ha aE s σ H _ I h) fun c s1 zq=>?_);obtain⟨H1,I1,q1⟩:=zq;cases c with
 |true=>exact hb wh aE s1 σ H1 Q I1 q1
 |false=>exact⟨H1,I1,q1⟩
theorem pw_or(ha:PT X a tA)(hb:PW X (.BoolOp .Or (b::rest) pos) tB'):PW X (.BoolOp .Or (a::b::rest) pos) (tOr tA tB'):=by
 intro wh aE s σ H Q I h;refine isTrue_or (thn (ha aE s σ H _ I h) fun c s1 zq=>?_);obtain⟨H1,I1,q1⟩:=zq;cases c with
 |true=>exact⟨H1,I1,q1⟩
 |false=>exact hb wh aE s1 σ H1 Q I1 q1
theorem pt_not(ha:PT X a tA):PT X (.UnaryOp .Not a pos) (tNot tA):=by
 intro aE s σ H Q I h;exact isTrue_not (ha aE s σ H (fun c H1=>Q (!c) H1) I h)
def tAndV(ta tb:TE):TE:=fun σ H Q=>ta σ H fun x H1=>∃c,x=.bl c/\if c=true then tb σ H1 Q else Q (.bl false) H1
def tOrV(ta tb:TE):TE:=fun σ H Q=>ta σ H fun x H1=>∃c,x=.bl c/\if c=true then Q (.bl true) H1 else tb σ H1 Q
theorem pe_one{op}{t:TE}(h:PE X a t):PE X (.BoolOp op [a] pos) t:=fun aE s σ H Q I hw=>BoolOp_one (h aE s σ H Q I hw)
theorem pe_and(ha:PE X a ta)(hb:PE X (.BoolOp .And (b::rest) pos) tb):PE X (.BoolOp .And (a::b::rest) pos) (tAndV ta tb):=by
 intro aE s σ H Q I h;refine BoolOp_and (thn (ha aE s σ H _ I h) fun v s1 zq=>?_);obtain⟨x,H1,I1,r1,q1⟩:=zq;obtain⟨c,rfl,q1⟩:=q1;cases r1;refine fN ?_;cases c with
 |true=>exact hb aE s1 σ H1 Q I1 q1
 |false=>exact⟨.bl false,H1,I1,rfl,q1⟩
theorem pe_or(ha:PE X a ta)(hb:PE X (.BoolOp .Or (b::rest) pos) tb):PE X (.BoolOp .Or (a::b::rest) pos) (tOrV ta tb):=by
 intro aE s σ H Q I h;refine BoolOp_or (thn (ha aE s σ H _ I h) fun v s1 zq=>?_);obtain⟨x,H1,I1,r1,q1⟩:=zq;obtain⟨c,rfl,q1⟩:=q1;cases r1;refine fN ?_;cases c with
 |false=>exact hb aE s1 σ H1 Q I1 q1
 |true=>exact⟨.bl true,H1,I1,rfl,q1⟩
end
def SqL(K:aL)(H:Hp)(a:aB)(xs:List V):Prop :=
 Rd H a (.lst xs) ∨
  ∃(o:Obj) (its:Array aA) (n:Nat),K.lookup a=some o/\o.cls=.type "list"/\o.dict=none/\o.data=.seq its n/\its.size<=sizeLine/\Vals xs its.toList
def SqT(K:aL)(H:Hp)(a:aB)(xs:List V):Prop :=
 Rd H a (.tup xs) ∨
  ∃(o:Obj) (its:Array aA) (n:Nat),K.lookup a=some o/\o.cls=.type "tuple"/\o.data=.seq its n/\its.size<=sizeLine/\Vals xs its.toList
noncomputable def absV:aA->Option V
 | .none=>some .non
 | .bool b=>some (.bl b)
 | .int i _=>some (.int i)
 | .str x _=>some (.str x)
 | .bytes b _=>some (.byt b)
 | .float b _=>some (.flt b)
 | .ref a=>some (.ref a)
 | .type n=>some (.ty n)
 |_=>none
theorem RelV.abs{x:V}{u:aA}(r:RelV x u):absV u=some x:=by
 cases x with
 |non=>cases r;rfl
 |bl _=>cases r;rfl
 |int _=>obtain⟨t,rfl⟩:=r;rfl
 |str _=>obtain⟨t,rfl⟩:=r;rfl
 |byt _=>obtain⟨t,rfl⟩:=r;rfl
 |flt _=>obtain⟨t,rfl⟩:=r;rfl
 |ref _=>cases r;rfl
 |ty _=>cases r;rfl
theorem RelV.inj{x y:V}{u:aA}(r:RelV x u)(q:RelV y u):x=y:=Option.some.inj (r.abs.symm.trans q.abs)
theorem Vals.inj:∀{xs ys:List V} {us:List aA},Vals xs us->Vals ys us->xs=ys
 |_,_,_,.nil,.nil=>rfl
 |_,_,_,.cons r t,.cons r' t'=>by rw[r.inj r',Vals.inj t t']
section
variable{X:Cx}{aE:List (aB×Obj)}{σ : St}{H:Hp}{s:aC}{a:aB}{xs ys:List V}
theorem SqL.of{K:aL}(h:H a=some (.lst xs)):SqL K H a xs:=.inl (.inl h)
theorem SqT.of{K:aL}(h:H a=some (.tup xs)):SqT K H a xs:=.inl (.inl h)
theorem Inv.list(I:Inv X aE σ H s)(h:SqL X.K H a xs):∃its:List aA,Vals xs its/\PlainL s.heap a its.toArray/\xs.length<=sizeLine:=by
 rcases h with h | ⟨o,its,n,hk,hc,hd,hs,hz,r⟩
 . obtain⟨z, its, n, r, e⟩ := h.ok I.hok;exact⟨its,r,⟨_,n,e,rfl,rfl,rfl⟩,z⟩
 . refine⟨its.toList, r, ⟨o, n, I.kIn a o hk, hc, hd, by simpa using hs⟩, ?_⟩;have e:=r.length;simp only[bB] at e;omega
theorem Inv.tuple(I:Inv X aE σ H s)(h:SqT X.K H a xs):∃its:List aA,Vals xs its/\IsTup s.heap a its.toArray/\xs.length<=sizeLine:=by
 rcases h with h | ⟨o,its,n,hk,hc,hs,hz,r⟩
 . obtain⟨z, its, r, p⟩ := h.ok I.hok;exact⟨its,r,p,z⟩
 . refine⟨its.toList, r, ⟨o, I.kIn a o hk, hc, n, by simpa using hs⟩, ?_⟩;have e:=r.length;simp only[bB] at e;omega
theorem Inv.list_inj(I:Inv X aE σ H s)(h:SqL X.K H a xs)(h':SqL X.K H a ys):xs=ys:=by
 obtain⟨its,r,⟨o,n,e,_,_,d⟩,_⟩:=I.list h;obtain⟨its',r',⟨o',n',e',_,_,d'⟩,_⟩:=I.list h';rw[e] at e';cases e';rw[d] at d';injection d' with d1 _
 have:its=its':=by simpa using congrArg Array.toList d1
 subst this;exact r.inj r'
theorem Inv.tuple_inj(I:Inv X aE σ H s)(h:SqT X.K H a xs)(h':SqT X.K H a ys):xs=ys:=by
 obtain⟨its,r,⟨o,e,_,n,d⟩,_⟩:=I.tuple h;obtain⟨its',r',⟨o',e',_,n',d'⟩,_⟩:=I.tuple h';rw[e] at e';cases e';rw[d] at d';injection d' with d1 _
 have:its=its':=by simpa using congrArg Array.toList d1
 subst this;exact r.inj r'
end
noncomputable abbrev Cx.wish(X:Cx)(E:aA->aC->Prop):Cx:={ X with xe:=E }
noncomputable abbrev Cx.nox(X:Cx):Cx:=X.wish fun _ _=>False
theorem Cx.Ok.wish{X:Cx}(ok:X.Ok)(E:aA->aC->Prop):(X.wish E).Ok :=
 ⟨ok.mod,ok.kind,ok.glob,ok.blt,ok.above,ok.inj,ok.has,ok.cab,ok.hd,ok.frames,ok.stk,ok.exf,ok.bs,ok.bsz,ok.noex,ok.exfs,ok.funs,ok.frf⟩
theorem Cx.Ok.unwish{X:Cx}{E:aA->aC->Prop}(ok:(X.wish E).Ok):X.Ok :=
 ⟨ok.mod,ok.kind,ok.glob,ok.blt,ok.above,ok.inj,ok.has,ok.cab,ok.hd,ok.frames,ok.stk,ok.exf,ok.bs,ok.bsz,ok.noex,ok.exfs,ok.funs,ok.frf⟩
section
variable{X:Cx}{aE:List (aB×Obj)}{σ : St}{H:Hp}{s:aC}{E:aA->aC->Prop}
theorem Inv.wish(I:Inv X aE σ H s)(E:aA->aC->Prop):Inv (X.wish E) aE σ H s:=⟨I.ok.wish E,I.os,I.bare,I.base,I.loc,I.cell,I.free,I.freeC,I.pin,I.hok,I.len⟩
theorem Inv.unwish(I:Inv (X.wish E) aE σ H s):Inv X aE σ H s:=⟨I.ok.unwish,I.os,I.bare,I.base,I.loc,I.cell,I.free,I.freeC,I.pin,I.hok,I.len⟩
theorem SP.unwish{D:Ends}{f:Flow}{s':aC}(h:SP (X.wish E) aE D f s'):SP X aE D f s':=by
 cases f with
 |next=>obtain⟨σ',H',I,q⟩:=h;exact⟨σ',H',I.unwish,q⟩
 |brk=>obtain⟨σ',H',I,q⟩:=h;exact⟨σ',H',I.unwish,q⟩
 |cont=>obtain⟨σ',H',I,q⟩:=h;exact⟨σ',H',I.unwish,q⟩
 |ret u=>obtain⟨v,σ',H',I,r,q⟩:=h;exact⟨v,σ',H',I.unwish,r,q⟩
theorem PSs.nox{st:List Stmt}{t:TS}(h:PSs X.nox st t):PSs X st t:=fun aE s σ H D I hw =>
 dU (h aE s σ H D (I.wish _) hw) (fun _ _ q=>q.unwish) fun _ _ z=>False.elim z
end
section
variable{X:Cx}{st:Stmt}{rest:List Stmt}{t u:TS}{e:Expr}{te:TE}{pos:Pos}
def tNext:TS:=fun D σ H=>D.nx σ H
def tSeq(t u:TS):TS:=fun D σ H=>t { D with nx:=u D } σ H
theorem pss_nil:PSs X [] tNext:=fun _ _ σ H _ I h=>DM ⟨σ,H,I,h⟩
theorem EX(h1:PS X st t)(h2:PSs X rest u):PSs X (st::rest) (tSeq t u):=by
 intro aE s σ H D I h;refine wpAny_execs_cons (thn (h1 aE s σ H { D with nx:=u D } I h) fun f s1 q=>?_);cases f with
 | next =>
   obtain⟨σ',H',I',q⟩:=q;exact h2 aE s1 σ' H' D I' q
 |ret v=>exact q
 |brk=>exact q
 |cont=>exact q
theorem LI(h1:PS X st t):PSs X [st] t:=by
 intro aE s σ H D I h;refine wpAny_execs_cons (thn (h1 aE s σ H D I h) fun f s1 q=>?_);cases f with
 |next=>exact DM q
 |ret v=>exact q
 |brk=>exact q
 |cont=>exact q
def tCont:TS:=fun D σ H=>D.ct σ H
theorem EY:PS X (.Continue pos) tCont:=fun _ _ σ H _ I h=>wpAny_Continue ⟨σ,H,I,h⟩
theorem Inv.quiet{aE:List (aB×Obj)}{σ : St}{H:Hp}{s:aC}(I:Inv X aE σ H s):interactive X.env=false:=by simp[interactive,I.ok.kind]
def tDrop(te:TE):TS:=fun D σ H=>te σ H fun _ H1=>D.nx σ H1
theorem wM(he:PE X e te)(hs:eQ e none pos.line X.env=pure false:=by rfl):PS X (.Expr e pos) (tDrop te):=by
 intro aE s σ H D I h;exact wpAny_Expr_any (thn (he aE s σ H _ I h) fun v s1 ⟨x,H1,I1,r1,q1⟩=>⟨σ,H1,I1,q1⟩) I.quiet hs
def tRet(te:TE):TS:=fun D σ H=>te σ H D.rt
theorem CP(he:PE X e te):PS X (.Return (some e) pos) (tRet te):=by
 intro aE s σ H D I h;exact wpAny_Return_some (thn (he aE s σ H _ I h) fun v s1 ⟨x,H1,I1,r1,q1⟩=>⟨x,σ,H1,I1,r1,q1⟩)
def tIfS(c:TT)(t u:TS):TS:=fun D σ H=>c σ H fun b H1=>if b=true then t D σ H1 else u D σ H1
theorem ps_if{c:Expr}{a b:List Stmt}{tc:TT}(hc:PT X c tc)(ha:PSs X a t)(hb:PSs X b u):PS X (.If c a b pos) (tIfS tc t u):=by
 intro aE s σ H D I h;refine wpAny_If (thn (hc aE s σ H _ I h) fun d s1 zq=>?_);obtain⟨H1,I1,q1⟩:=zq;cases d with
 |true=>exact ha aE s1 σ H1 D I1 q1
 |false=>exact hb aE s1 σ H1 D I1 q1
def tNever:TS:=fun _ _ _=>False
theorem UO:PS X st tNever:=fun _ _ _ _ _ _ h=>h.elim
end
abbrev TG:=V->St->Hp->(St->Hp->Prop)->Prop
abbrev TGs:=List V->St->Hp->(St->Hp->Prop)->Prop
def PG(X:Cx)(target:Expr)(t:TG):Prop :=
 ∀(aE:List (aB×Obj)) (s:aC) (σ : St) (H:Hp) (v:V) (u:aA) (Q:St->Hp->Prop),Inv X aE σ H s->RelV v u->t v σ H Q →
  bH (aT X.prog X.w) X.A (AD target X.env u) (fun _ s'=>∃σ' H',Inv X aE σ' H' s'/\Q σ' H') X.xe s
def PGs(X:Cx)(ts:List Expr)(t:TGs):Prop :=
 ∀(aE:List (aB×Obj)) (s:aC) (σ : St) (H:Hp) (vs:List V) (us:List aA) (Q:St->Hp->Prop),Inv X aE σ H s->Vals vs us->t vs σ H Q →
  bH (aT X.prog X.w) X.A (assignInOrder ((gG ts X.env).map (·.2)) us) (fun _ s'=>∃σ' H',Inv X aE σ' H' s'/\Q σ' H') X.xe s
abbrev TSet:=V->V->V->Hp->(Hp->Prop)->Prop
def PSet(X:Cx)(t:TSet):Prop :=
 ∀(aE:List (aB×Obj)) (s:aC) (σ : St) (H:Hp) (o i v:V) (ov iv u:aA) (Q:Hp->Prop),Inv X aE σ H s->RelV o ov->RelV i iv->RelV v u->t o i v H Q →
  bH (aT X.prog X.w) X.A (setItem ov iv u) (fun _ s'=>∃H',Inv X aE σ H' s'/\Q H') X.xe s
section
variable{X:Cx}{pos:Pos}
def gName(i:Nat):TG:=fun v σ H Q=>Q (σ.set i (some v)) H
theorem pg_name{i:Nat}{x:Str}(hN:X.N.Nodup)(hi:X.N[i]?=some x)(hx:Loc X.env.scope x)(hf:X.fn x=true\/X.env.scope.names.lookup x=some .local:=by first | exact .inl rfl | exact .inr rfl | assumption):PG X (.Name x pos) (gName i):=by
 intro aE s σ H v u Q I r h;exact wpAny_assign_Name (EE I hN hi hx r (fun s' I'=>⟨_,H,I',h⟩) hf)
def gNil:TGs:=fun vs σ H Q=>vs=[]/\Q σ H
def gCons(t:TG)(u:TGs):TGs:=fun vs σ H Q=>∃v r,vs=v::r/\t v σ H fun σ' H'=>u r σ' H' Q
theorem pgs_nil:PGs X [] gNil:=by
 intro aE s σ H vs us Q I r h;obtain⟨e,h⟩:=h;subst e;cases r;exact assignInOrder_nil ⟨σ,H,I,h⟩
theorem UT{e:Expr}{es:List Expr}{t:TG}{u:TGs}(h1:PG X e t)(h2:PGs X es u)(hs:(gG (e::es) X.env).map (·.2)=AD e X.env::(gG es X.env).map (·.2):=by rfl):PGs X (e::es) (gCons t u):=by
 intro aE s σ H vs us Q I r h;obtain⟨v,vr,e1,h⟩:=h;subst e1;cases r with
 | cons r rr =>
   rw[hs];refine assignInOrder_cons (thn (h1 aE s σ H _ _ _ I r h) fun _ s1 zq=>?_);obtain⟨σ1,H1,I1,q1⟩:=zq;exact h2 aE s1 σ1 H1 _ _ Q I1 rr q1
def gTup(K:aL)(n:Nat)(t:TGs):TG:=fun v σ H Q=>∃a xs,v=.ref a/\SqT K H a xs/\xs.length=n/\t xs σ H Q
theorem pg_tup{es:List Expr}{k:Nat}{t:TGs}{n:Nat}(hc:X.calm=true)(h:PGs X es t)(hn:(gG es X.env).length=n:=by rfl)(hst:(gG es X.env).findIdx? (·.1)=none:=by rfl):PG X (.Tuple es k pos) (gTup X.K n t):=by
 intro aE s σ H v u Q I r hw;obtain⟨a,xs,e1,hq,hl,hw⟩:=hw;subst e1;cases r;obtain⟨its,rv,ht,hz⟩:=I.tuple hq;refine assign_Tuple_tuple (I.ok.hd hc) ht (by simp[hn,<- hl,rv.length]) hst fun h' hx=>?_;have I1:Inv X aE σ H { s with heap:=h' }:=I.kept (t':=s.toks) fun b o e=>hx b o (bL (aV e)) e;exact h aE _ σ H xs _ Q I1 (by simpa using rv) hw
def gSub(to ti:TE)(t:TSet):TG:=fun v σ H Q=>to σ H fun o H1=>ti σ H1 fun i H2=>t o i v H2 fun H3=>Q σ H3
theorem pg_sub{o i:Expr}{to ti:TE}{t:TSet}(ho:PE X o to)(hi:PE X i ti)(hs:PSet X t)(ha:∀v,AD (.Subscript o i pos) X.env v=(do
    let ov <- gX [v] (cC o X.env)
    let iv <- gX [v,ov] (cC i X.env)
    oK pos
    gX [v,ov,iv] (setItem ov iv v)
    release [v,ov,iv] []):=by intro _;rfl):PG X (.Subscript o i pos) (gSub to ti t):=by
 intro aE s σ H v u Q I r h;rw[ha];refine aD (dS (thn (ho aE s σ H _ I h) fun ov s1 zq=>?_));obtain⟨x,H1,I1,r1,q1⟩:=zq;refine aD (dS (thn (hi aE s1 σ H1 _ I1 q1) fun iv s2 zq=>?_));obtain⟨y,H2,I2,r2,q2⟩:=zq;refine aD (wpAny_standAt (aD (dS (thn (hs aE s2 σ H2 x y v ov iv u _ I2 r1 r2 r q2) fun _ s3 zq=>?_))));obtain⟨H3,I3,q3⟩:=zq;exact wpAny_release ⟨σ,H3,I3,q3⟩
def tAsg(te:TE)(g:TG):TS:=fun D σ H=>te σ H fun x H1=>g x σ H1 D.nx
theorem ps_asg{tg e:Expr}{te:TE}{g:TG}(he:PE X e te)(hg:PG X tg g)(hs:swapsWithSole [tg] e pos.line X.env=pure false:=by rfl)(hw:swappedStores [tg] e X.env=pure none:=by rfl)(h1:(gG [tg] X.env).map (·.2)=[AD tg X.env]:=by rfl):PS X (.Assign [tg] e pos) (tAsg te g):=by
 intro aE s σ H D I h;refine wpAny_Assign_stores (thn (he aE s σ H _ I h) fun v s1 zq=>?_) hs hw;obtain⟨x,H1,I1,r1,q1⟩:=zq;rw[h1];exact thn (hg aE s1 σ H1 x v _ I1 r1 q1) fun _ s2 q=>q
theorem CO{i:Nat}{x:Str}{e:Expr}{te:TE}{pos':Pos}(hN:X.N.Nodup)(hi:X.N[i]?=some x)(hx:Loc X.env.scope x)(he:PE X e te)(hs:eQ e (some (.Name x pos')) pos.line X.env=pure false:=by rfl)(hf:X.fn x=true\/X.env.scope.names.lookup x=some .local:=by first | exact .inl rfl | exact .inr rfl | assumption) :
  PS X (.Assign [.Name x pos'] e pos) (tAsg te (gName i)):=by
 intro aE s σ H D I h;refine wpAny_Assign_Name (thn (he aE s σ H _ I h) fun v s1 zq=>?_) hs;obtain⟨y,H1,I1,r1,q1⟩:=zq;exact EE I1 hN hi hx r1 (fun s2 I2=>⟨_,H1,I2,q1⟩) hf
end
section
variable{X:Cx}{pos:Pos}
end
structure It where
 go:Nat->Hp->Prop
 yld:Nat->Hp->V->Hp->Prop
 stop:Nat->Hp->Prop
def FpOk(X:Cx)(aE:List (aB×Obj))(H:Hp)(b:aB):Prop :=
 H b=none/\b≠X.env.locals/\b∉X.fs/\(b∈X.ex\/X.s₀.heap.objs.size<=b)/\(∀x c,X.env.cells.lookup x=some c->c≠b)/\∀p∈X.pn++aE,p.1≠b
theorem Inv.fpOk{X:Cx}{aE:List (aB×Obj)}{σ : St}{H H':Hp}{s:aC}{b:aB}(I:Inv X aE σ H s)(hb:s.heap.objs.size<=b)(hn:H' b=none):FpOk X aE H' b:=by
 refine⟨hn,iZ (bX I.lt hb),I.nofs hb,.inr (cT I.sz hb),fun x c e z=>?_,fun p hp z=>?_⟩
 . obtain⟨v, q⟩ := I.cell x c e;exact absurd (bX q.lt (by rw[z];exact hb)) (cR _)
 . exact absurd (bX (aV (I.pin p hp).1) (by rw[z];exact hb)) (cR _)
structure Turn(P:aX)(w:bW)(K:aL)(tg:Expr)(J:It)(fp:List aB)(it:aB)(tn:Nat->Heap->Prop)(cm:Cx->Prop:=fun X=>X.calm=true):Prop where
 mem:it∈fp
 obj:∀i h,tn i h->∀b∈fp,∃o,h.get? b=some o/\∀v,o.data≠.cell v
 keep:∀i h h',tn i h->(∀b∈fp,∀o,h.get? b=some o->h'.get? b=some o)->tn i h'
 item:∀(X:Cx),X.prog=P->X.w=w->X.K=K->cm X->∀(i:Nat) (aE:List (aB×Obj)) (s:aC) (σ : St) (H:Hp) (E:aA->aC->Prop),Inv X aE σ H s->(∀b∈fp,FpOk X aE H b)->tn i s.heap->J.go i H →
  bH (aT P w) X.A (HC (.ref it)) (fun r s1=>∃u,r=some u ∧
   bH (aT P w) X.A (pD tg (.ref it) u) (fun _ s2=>∃x H',Inv X aE σ H' s2/\RelV x u/\J.yld i H x H'/\tn (i+1) s2.heap/\∀b∈fp,H' b=none) E s1) E s
 done:∀(X:Cx),X.prog=P->X.w=w->X.K=K->cm X->∀(i:Nat) (aE:List (aB×Obj)) (s:aC) (σ : St) (H:Hp) (E:aA->aC->Prop),Inv X aE σ H s->(∀b∈fp,FpOk X aE H b)->tn i s.heap->J.stop i H →
  bH (aT P w) X.A (HC (.ref it)) (fun r s1=>r=none/\Inv X aE σ H s1) E s
 self:∀(A:bT) (i:Nat) (s:aC) (Q:aA->aC->Prop) (E:aA->aC->Prop),tn i s.heap->Q (.ref it) s->bH (aT P w) A (AA (.ref it)) Q E s
abbrev TI:=St->Hp->(It->Hp->Prop)->Prop
def PIE(X:Cx)(aE:List (aB×Obj))(σ : St)(tg:Expr)(R:It->Hp->Prop)(cm:Cx->Prop:=fun X=>X.calm=true)(itv:aA)(s2:aC):Prop :=
 ∃(it:aB) (fp:List aB) (tn:Nat->Heap->Prop) (J:It) (H':Hp),itv=.ref it/\Inv X aE σ H' s2/\Turn X.prog X.w X.K tg J fp it tn cm/\tn 0 s2.heap/\(∀b∈fp,FpOk X aE H' b)/\R J H'
def PI(X:Cx)(tg iter:Expr)(wi:TI)(cm:Cx->Prop:=fun X=>X.calm=true):Prop :=
 ∀(aE:List (aB×Obj)) (s:aC) (σ : St) (H:Hp) (R:It->Hp->Prop),Inv X aE σ H s->wi σ H R →
  bH (aT X.prog X.w) X.A (cC iter X.env) (fun v s1=>bH (aT X.prog X.w) X.A (AA v) (PIE X aE σ tg R cm) X.xe s1) X.xe s
theorem GB{M:uG}{A:bT}{E:aA->aC->Prop}{s:aC}{tg:Expr}{it:aB}{u:aA}{o:Obj}{n:String}{vs:Array aA}{Q:Unit->aC->Prop}(ho:s.heap.get? it=some o)(hc:o.cls=.type n)(hd:o.data=.fields vs)(hn:["enumerate","zip","dict_itemiterator","dict_reverseitemiterator","odict_iterator","itertools.zip_longest","itertools.pairwise"].contains n=false)(hQ:Q () s):bH M A (pD tg (.ref it) u) Q E s:=by
 unfold pD
 cases tg<;>first
  |exact aN hQ
  |(cases u<;>first
      |exact aN hQ
      | (refine aD (wpAny_load ho ?_)
         rw[hc,hd];show bH M A (if (["enumerate","zip","dict_itemiterator","dict_reverseitemiterator","odict_iterator","itertools.zip_longest","itertools.pairwise"].contains n&&vs[0]?==some (mS _))=true then _ else _) Q E s;rw[if_neg (by intro h;rw[hn,ZB] at h;cases h)]
         exact aN hQ))
noncomputable def Itl(K:aL)(a:aB):It :=
 ⟨fun i H=>∃xs x,SqL K H a xs/\xs[i]?=some x,fun i H x H'=>H'=H/\∀xs,SqL K H a xs->xs[i]?=some x,fun i H=>∃xs,SqL K H a xs/\xs.length<=i⟩
noncomputable def Itt(K:aL)(a:aB):It :=
 ⟨fun i H=>∃xs x,SqT K H a xs/\xs[i]?=some x,fun i H x H'=>H'=H/\∀xs,SqT K H a xs->xs[i]?=some x,fun i H=>∃xs,SqT K H a xs/\xs.length<=i⟩
noncomputable def Itr(lo:Int)(n:Nat):It:=⟨fun i _=>i<n,fun i H x H'=>H'=H/\x=.int (lo+i),fun i _=>n<=i⟩
theorem NQ{P:aX}{w:bW}{K:aL}{tg:Expr}(a it:aB):Turn P w K tg (Itl K a) [it] it (fun i h=>h.IsListIter it a i) where
 mem:=by simp
 obj:=fun i h st b hb=>by
  have e:b=it:=by simpa using hb
  subst e;obtain⟨o,e,c,d⟩:=st;exact⟨o,e,fun v z=>by rw[d] at z;cases z⟩
 keep:=fun i h h' st k=>st.at fun o e=>k it (by simp) o e
 item:=by
  intro X hP hw hK hc i aE s σ H E I hf st hg;subst hP hw hK;obtain⟨xs,x,hq,hx⟩:=hg;obtain⟨its,rv,p,hz⟩:=I.list hq;obtain⟨u,hu,ru⟩:=rv.get hx;obtain⟨f0,f1,f2,f3,f4,f5⟩:=hf it (by simp);refine wpAny_pyNext_list_item st p.isList (x:=u) (by simpa using hu) fun h' st' sb=>?_;have I1:Inv X aE σ H { s with heap:=h' }:=I.turned (t':=s.toks) (fun b o hb e=>(sb.2 b hb).trans e) f0 f1 f3 f4 f5;obtain⟨o,e,c,d⟩:=id st';exact⟨u,rfl,GB (s:={ s with heap:=h' }) e c d (by decide) ⟨x,H,I1,ru,⟨rfl,fun ys hy=>by rw[I.list_inj hy hq];exact hx⟩,st',fun b hb=>(hf b hb).1⟩⟩
 done:=by
  intro X hP hw hK hc i aE s σ H E I hf st hg;subst hP hw hK;obtain⟨xs,hq,hx⟩:=hg;obtain⟨its,rv,p,hz⟩:=I.list hq;obtain⟨f0,f1,f2,f3,f4,f5⟩:=hf it (by simp);have hl:=rv.length;exact wpAny_pyNext_list_end (I.ok.hd hc) st p.isList (by simp;omega) fun h' eb=>⟨rfl,I.turned (t':=s.toks) (fun b o hb e=>eb b o hb e) f0 f1 f3 f4 f5⟩
 self:=fun _ _ _ _ _ st h=>wpAny_pyIter_listiter st h
theorem HV{P:aX}{w:bW}{K:aL}{tg:Expr}(a it:aB):Turn P w K tg (Itt K a) [it] it (fun i h=>h.IsTupleIter it a i) where
 mem:=by simp
 obj:=fun i h st b hb=>by
  have e:b=it:=by simpa using hb
  subst e;obtain⟨o,e,c,d⟩:=st;exact⟨o,e,fun v z=>by rw[d] at z;cases z⟩
 keep:=fun i h h' st k=>st.at fun o e=>k it (by simp) o e
 item:=by
  intro X hP hw hK hc i aE s σ H E I hf st hg;subst hP hw hK;obtain⟨xs,x,hq,hx⟩:=hg;obtain⟨its,rv,p,hz⟩:=I.tuple hq;obtain⟨u,hu,ru⟩:=rv.get hx;obtain⟨f0,f1,f2,f3,f4,f5⟩:=hf it (by simp);refine wpAny_pyNext_tuple_item st (show s.heap.IsTuple a its.toArray from p) (x:=u) (by simpa using hu) fun h' st' sb=>?_;have I1:Inv X aE σ H { s with heap:=h' }:=I.turned (t':=s.toks) (fun b o hb e=>(sb.2 b hb).trans e) f0 f1 f3 f4 f5;obtain⟨o,e,c,d⟩:=id st';exact⟨u,rfl,GB (s:={ s with heap:=h' }) e c d (by decide) ⟨x,H,I1,ru,⟨rfl,fun ys hy=>by rw[I.tuple_inj hy hq];exact hx⟩,st',fun b hb=>(hf b hb).1⟩⟩
 done:=by
  intro X hP hw hK hc i aE s σ H E I hf st hg;subst hP hw hK;obtain⟨xs,hq,hx⟩:=hg;obtain⟨its,rv,p,hz⟩:=I.tuple hq;obtain⟨f0,f1,f2,f3,f4,f5⟩:=hf it (by simp);have hl:=rv.length;exact wpAny_pyNext_tuple_end (I.ok.hd hc) st (show s.heap.IsTuple a its.toArray from p) (by simp;omega) fun h' eb=>⟨rfl,I.turned (t':=s.toks) (fun b o hb e=>eb b o hb e) f0 f1 f3 f4 f5⟩
 self:=fun _ _ _ _ _ st h=>wpAny_pyIter_tupleiter st h
theorem HW{P:aX}{w:bW}{K:aL}{tg:Expr}(it:aB)(lo:Int)(n:Nat):Turn P w K tg (Itr lo n) [it] it (fun i h=>IsRangeIter h it (lo+(i:Nat)*1) ((n:Int)-(i:Nat)) 1) where
 mem:=by simp
 obj:=fun i h st b hb=>by
  have e:b=it:=by simpa using hb
  subst e
  exact⟨_,st,fun v z=>by
   have z':Data.fields _=Data.cell v:=z
   cases z'⟩
 keep:=fun i h h' st k=>k it (by simp) _ st
 item:=by
  intro X hP hw hK hc i aE s σ H E I hf st hg;subst hP hw hK;obtain⟨f0,f1,f2,f3,f4,f5⟩:=hf it (by simp);have W:=Walks.range (prog:=X.prog) (w:=X.w) (I.ok.hd hc) it lo 1 n;refine W.item i s _ _ hg st fun v h' tk hv st' kk=>?_;obtain⟨t,rfl⟩:=hv;have I1:Inv X aE σ H { s with heap:=h',toks:=tk }:=I.turned (fun b o hb e=>kk b o (by simpa using hb) e) f0 f1 f3 f4 f5;refine⟨_,rfl,GB (s:={ s with heap:=h',toks:=tk }) (n:="range_iterator") st' rfl rfl (by decide) ⟨.int (lo+i),H,I1,⟨t,?_⟩,⟨rfl,rfl⟩,st',fun b hb=>(hf b hb).1⟩⟩;rw[Int.mul_one]
 done:=by
  intro X hP hw hK hc i aE s σ H E I hf st hg;subst hP hw hK;obtain⟨f0,f1,f2,f3,f4,f5⟩:=hf it (by simp);exact wpAny_pyNext_range_end (I.ok.hd hc) st (by have:n<=i:=hg;omega) fun h' eb=>⟨rfl,I.turned (t':=s.toks) (fun b o hb e=>eb b o hb e) f0 f1 f3 f4 f5⟩
 self:=fun _ _ _ _ _ st h=>wpAny_pyIter_rangeiter st h
section
variable{X:Cx}{tg:Expr}
def iList(K:aL)(tl:TE):TI:=fun σ H R=>tl σ H fun x H1=>∃a,x=.ref a/\(∃xs,SqL K H1 a xs)/\R (Itl K a) H1
def iTup(K:aL)(tl:TE):TI:=fun σ H R=>tl σ H fun x H1=>∃a,x=.ref a/\(∃xs,SqT K H1 a xs)/\R (Itt K a) H1
theorem pi_list{l:Expr}{tl:TE}(hl:PE X l tl):PI X tg l (iList X.K tl):=by
 intro aE s σ H R I h;refine thn (hl aE s σ H _ I h) fun v s1 zq=>?_;obtain⟨x,H1,I1,r1,q1⟩:=zq;obtain⟨a,e,⟨xs,hq⟩,q⟩:=q1;subst e;cases r1;obtain⟨its,rv,p,hz⟩:=I1.list hq;refine nE p.isList ?_;refine⟨s1.heap.objs.size,[s1.heap.objs.size],_,_,H1,rfl,I1.kept (t':=s1.toks) fun b o e=>aG _ e,NQ a _,⟨_,aK _ rfl,rfl,rfl⟩,fun b hb=>?_,q⟩;have e:b=s1.heap.objs.size:=by simpa using hb
 subst e;exact I1.fpOk (aM _) (I1.hok.fresh (aM _))
theorem pi_tup{l:Expr}{tl:TE}(hl:PE X l tl):PI X tg l (iTup X.K tl):=by
 intro aE s σ H R I h;refine thn (hl aE s σ H _ I h) fun v s1 zq=>?_;obtain⟨x,H1,I1,r1,q1⟩:=zq;obtain⟨a,e,⟨xs,hq⟩,q⟩:=q1;subst e;cases r1;obtain⟨its,rv,p,hz⟩:=I1.tuple hq;refine wpAny_pyIter_tuple (show s1.heap.IsTuple a its.toArray from p) ?_;refine⟨s1.heap.objs.size,[s1.heap.objs.size],_,_,H1,rfl,I1.kept (t':=s1.toks) fun b o e=>aG _ e,HV a _,⟨_,aK _ rfl,rfl,rfl⟩,fun b hb=>?_,q⟩;have e:b=s1.heap.objs.size:=by simpa using hb
 subst e;exact I1.fpOk (aM _) (I1.hok.fresh (aM _))
theorem TR{aE:List (aB×Obj)}{σ : St}{H:Hp}{s:aC}{R:It->Hp->Prop}{E:aA->aC->Prop}{lo hi:Int}{t u v:Tok}{tk:Nat}(I:Inv X aE σ H s)(h1 : -(2 ^ 62)<=lo)(h2:lo<2 ^ 62)(h3 : -(2 ^ 62)<=hi)(h4:hi<2 ^ 62)(q:R (Itr lo (hi-lo).toNat) H):bH (aT X.prog X.w) X.A (AA (.ref s.heap.objs.size)) (PIE X aE σ tg R) E { s with heap:=s.heap.push { cls:=.type "range",data:=.fields #[.int lo t,.int hi u,.int 1 v] },toks:=tk }:=by
 refine wpAny_pyIter_range (IsRange.new ..) (small_one h1 h2 h3 h4) ?_;have I1:Inv X aE σ H { s with heap:=s.heap.push { cls:=.type "range",data:=.fields #[.int lo t,.int hi u,.int 1 v] },toks:=tk }:=I.kept fun b o e=>aG _ e
 refine⟨(s.heap.push { cls:=.type "range",data:=.fields #[.int lo t,.int hi u,.int 1 v] }).objs.size,[(s.heap.push { cls:=.type "range",data:=.fields #[.int lo t,.int hi u,.int 1 v] }).objs.size],_,_,H,rfl,
  I1.kept (t':=tk) fun b o e=>aG _ e,HW _ lo (hi-lo).toNat,?_,fun b hb=>?_,q⟩
 . have e1 : lo + ((0 : Nat) : Int) * 1 = lo := by simp
   have e2:(((hi-lo).toNat:Nat):Int)-((0:Nat):Int)=Builtin.Range.rangeSize lo hi 1:=by rw[rangeSize_one];split<;>omega
   show IsRangeIter _ _ (lo+((0:Nat):Int)*1) ((((hi-lo).toNat:Nat):Int)-((0:Nat):Int)) 1;rw[e1,e2];exact aK _ rfl
 . have e : b = (s.heap.push { cls := .type "range", data := .fields #[.int lo t, .int hi u, .int 1 v] }).objs.size := by simpa using hb
   subst e;exact I1.fpOk (aM _) (I1.hok.fresh (aM _))
def iRng1(ta:TA):TI:=fun σ H R=>ta σ H fun vs H1=>∃j:Int,vs=[.int j]/\-(2 ^ 62)<=j/\j<2 ^ 62/\R (Itr 0 j.toNat) H1
theorem OK{a:Expr}{ta:TA}{p pos:Pos}(hg:Gl X "range")(hm:X.mg "range" = none)(ha:PA X [a] ta)(hs:aJ [a] X.env=[(false,cC a X.env)]:=by rfl):PI X tg (.Call (.Name "range" p) [a] [] pos) (iRng1 ta):=by
 intro aE s σ H R I h;refine Call_ (yT I hg hm boot_range (dA (thn (ha pos aE s σ H _ I h) fun us s1 zq=>?_) hs rfl));obtain⟨vs,H1,I1,r1,q1⟩:=zq;obtain⟨j,e,q1,q2,q⟩:=q1;subst e;cases r1 with
 | cons r rr =>
   cases rr;obtain⟨t,rfl⟩:=r;exact call_range_1 (TR I1 (by omega) (by omega) q1 q2 (by simpa using q))
def tFor(wi:TI)(g:TG)(tb:TS):TS:=fun D σ H=>wi σ H fun J H1=>∃W:Nat->Nat->St->Hp->Prop,(∃m,W 0 m σ H1)/\∀i m σ H,W i m σ H →
 (J.stop i H/\D.nx σ H)\/(J.go i H/\∃N:St->Hp->Prop,(∀σ' H',N σ' H'->∃m',m'<m/\W (i+1) m' σ' H')/\∀x H',J.yld i H x H'->g x σ H' fun σ2 H2=>tb { D with nx:=N,ct:=N,bk:=D.nx } σ2 H2)
noncomputable def tI(fp:List aB)(h:Heap):List (aB×Obj):=fp.filterMap fun b=>(h.get? b).map fun o=>(b,o)
theorem yO{fp:List aB}{h:Heap}{b:aB}{o:Obj}(hb:b∈fp)(e:h.get? b=some o):(b,o)∈tI fp h:=pP.mpr ⟨b,hb,by rw[e];rfl⟩
theorem OQ{fp:List aB}{h:Heap}{p:aB×Obj}(hp:p∈tI fp h):p.1∈fp/\h.get? p.1=some p.2:=by
 obtain⟨b,hb,e⟩:=pP.mp hp;cases q:h.get? b with
 |none=>rw[q] at e;cases e
 | some o =>
   rw[q] at e;have e':(b,o)=p:=Option.some.inj e;subst e';exact⟨hb,q⟩
theorem Inv.pinned{aE:List (aB×Obj)}{σ : St}{H:Hp}{s:aC}{fp:List aB}(I:Inv X aE σ H s)(hf:∀b∈fp,FpOk X aE H b)(ho:∀b∈fp,∃o,s.heap.get? b=some o/\∀v,o.data≠.cell v):Inv X (aE++tI fp s.heap) σ H s :=
 I.pins_of fun p hp=>(bM.mp hp).elim (fun z=>I.pin p (aI _ z)) fun z=>by
  obtain⟨hb,e⟩:=OQ z;obtain⟨f0,f1,f2,_⟩:=hf p.1 hb;obtain⟨o,e',d⟩:=ho p.1 hb;rw[e] at e';cases e';exact⟨e,f0,f1,f2,d⟩
theorem Inv.unpinned{aE pl:List (aB×Obj)}{σ : St}{H:Hp}{s:aC}(I:Inv X (aE++pl) σ H s):Inv X aE σ H s:=I.pins_of fun p hp=>I.pin p (aI _ (bE _ hp))
theorem ps_for{iter:Expr}{body:List Stmt}{wi:TI}{g:TG}{tb:TS}{pos:Pos}(hp:PassesOwn (aT X.prog X.w) X.A X.env X.xe)(hc:X.calm=true)(hi:PI X tg iter wi)(hg:PG X tg g)(hb:PSs X body tb)(hs:∀x,gY iter X.env x=pure x:=by intro _;rfl):PS X (.For tg iter body [] pos) (tFor wi g tb):=by
 intro aE s σ H D I h;refine wpAny_For (thn (hi aE s σ H _ I h) fun v s1 h1=>thn h1 fun itv s2 h2=>?_) hs;obtain⟨it,fp,tn,J,H2,e,I2,T,st2,f2,W,⟨m0,w0⟩,turn⟩:=h2;subst e;have stat:∀{H':Hp},(∀b∈fp,H' b=none)->∀b∈fp,FpOk X aE H' b:=fun hn b hb=>⟨hn b hb,(f2 b hb).2⟩
 refine codeAny_forLoop_any (fun n s'=>∃i σ' H',Inv X aE σ' H' s'/\tn i s'.heap/\(∀b∈fp,H' b=none)/\W i n σ' H') ?_ m0 ⟨0,σ,H2,I2,st2,fun b hb=>(f2 b hb).1,w0⟩;rintro n s3 ⟨i,σ3,H3,I3,st3,fr3,w3⟩;rcases turn i n σ3 H3 w3 with⟨stop,qn⟩ | ⟨go,N,hN,step⟩
 . refine mD hp (thn (T.done X rfl rfl rfl hc i aE s3 σ3 H3 X.xe I3 (stat fr3) st3 stop) fun r s4 zq => ?_);obtain⟨hr,I4⟩:=zq;subst hr;exact DM ⟨σ3,H3,I4,qn⟩
 . refine mD hp (thn (T.item X rfl rfl rfl hc i aE s3 σ3 H3 X.xe I3 (stat fr3) st3 go) fun r s4 zq => ?_);obtain ⟨u,hr,h4⟩:=zq;subst hr;refine mD hp (thn h4 fun _ s5 zq=>?_);obtain ⟨x,H5,I5,r5,y5,st5,fr5⟩:=zq;have I5':=I5.pinned (stat fr5) (T.obj _ _ st5);refine mD hp (thn (hg _ s5 σ3 H5 x u _ I5' r5 (step x H5 y5)) fun _ s6 zq=>?_);obtain ⟨σ6,H6,I6,q6⟩:=zq;refine mD hp (thn (hb _ s6 σ6 H6 _ I6 q6) fun f s7 q7=>?_)
   have again:∀{σ7:St} {H7:Hp},Inv X (aE++tI fp s5.heap) σ7 H7 s7->N σ7 H7->∃m,m<n/\∃i σ' H',Inv X aE σ' H' s7/\tn i s7.heap/\(∀b∈fp,H' b=none)/\W i m σ' H':=fun {σ7 H7} I7 n7=>by
    obtain⟨m',hm,w7⟩:=hN σ7 H7 n7;refine⟨m',hm,i+1,σ7,H7,I7.unpinned,T.keep _ _ _ st5 fun b hb o e=>(I7.pin (b,o) (aI _ (aI _ (yO hb e)))).1,fun b hb=>?_,w7⟩;obtain⟨o,e,d⟩:=T.obj _ _ st5 b hb;exact(I7.pin (b,o) (aI _ (aI _ (yO hb e)))).2.1
   cases f with
   |next=>obtain⟨σ7,H7,I7,n7⟩:=q7;exact again I7 n7
   |cont=>obtain⟨σ7,H7,I7,n7⟩:=q7;exact again I7 n7
   |brk=>obtain⟨σ7,H7,I7,q7⟩:=q7;exact⟨σ7,H7,I7.unpinned,q7⟩
   |ret v=>obtain⟨x7,σ7,H7,I7,r7,q7⟩:=q7;exact⟨x7,σ7,H7,I7.unpinned,r7,q7⟩
end
abbrev R2:=V->V->Hp->VK->Prop
def OpR(X:Cx)(f:aA->aA->Sem aA)(r:R2):Prop :=
 ∀(aE:List (aB×Obj)) (s:aC) (σ : St) (H:Hp) (x y:V) (v u:aA) (Q:VK),Inv X aE σ H s->RelV x v->RelV y u->r x y H Q →
  bH (aT X.prog X.w) X.A (f v u) (EP X aE σ Q) X.xe s
def UnR(X:Cx)(f:aA->Sem aA)(r:V->Hp->VK->Prop):Prop :=
 ∀(aE:List (aB×Obj)) (s:aC) (σ : St) (H:Hp) (x:V) (v:aA) (Q:VK),Inv X aE σ H s->RelV x v->r x H Q →
  bH (aT X.prog X.w) X.A (f v) (EP X aE σ Q) X.xe s
def CallR(X:Cx)(f:aA)(r:List V->Hp->VK->Prop):Prop :=
 ∀(aE:List (aB×Obj)) (s:aC) (σ : St) (H:Hp) (xs:List V) (us:List aA) (Q:VK),Inv X aE σ H s->Vals xs us->r xs H Q →
  bH (aT X.prog X.w) X.A (call f us) (EP X aE σ Q) X.xe s
def TruR(X:Cx)(r:V->Hp->(Bool->Hp->Prop)->Prop):Prop :=
 ∀(aE:List (aB×Obj)) (s:aC) (σ : St) (H:Hp) (x:V) (v:aA) (Q:Bool->Hp->Prop),Inv X aE σ H s->RelV x v->r x H Q →
  bH (aT X.prog X.w) X.A (truthy v) (TP X aE σ Q) X.xe s
def tOp(r:R2)(ta tb:TE):TE:=fun σ H Q=>ta σ H fun x H1=>tb σ H1 fun y H2=>r x y H2 Q
def tUn(r:V->Hp->VK->Prop)(ta:TE):TE:=fun σ H Q=>ta σ H fun x H1=>r x H1 Q
noncomputable def rI(C:Int->Int->Prop)(g:Int->Int->V):R2:=fun x y H Q=>∃i j,x=.int i/\y=.int j/\C i j/\Q (g i j) H
noncomputable def rI0(g:Int->Int->V):R2:=fun x y H Q=>∃i j,x=.int i/\y=.int j/\Q (g i j) H
def rU(g:Int->V):V->Hp->VK->Prop:=fun x H Q=>∃i,x=.int i/\Q (g i) H
section
variable{X:Cx}{a b c:Expr}{ta tb tc:TE}{pos:Pos}
theorem binT(ha:PE X a ta)(hb:PE X b tb){aE:List (aB×Obj)}{s:aC}{σ : St}{H:Hp}{R:V->V->Hp->Prop}(I:Inv X aE σ H s)(h:ta σ H fun x H1=>tb σ H1 fun y H2=>R x y H2){Q:aA->aC->Prop}{f:aA->aA->Sem aA}(hf:∀v u s2 x y H2,Inv X aE σ H2 s2->RelV x v->RelV y u->R x y H2->bH (aT X.prog X.w) X.A (f v u) Q X.xe s2) :
  bH (aT X.prog X.w) X.A (cC a X.env) (fun v s₁=>bH (aT X.prog X.w) X.A (cC b X.env) (fun u s₂=>bH (aT X.prog X.w) X.A (f v u) Q X.xe s₂) X.xe s₁) X.xe s:=by
 refine thn (ha aE s σ H _ I h) fun v s1 zq=>?_;obtain⟨x,H1,I1,r1,q1⟩:=zq;refine thn (hb aE s1 σ H1 _ I1 q1) fun u s2 zq=>?_;obtain⟨y,H2,I2,r2,q2⟩:=zq;exact hf v u s2 x y H2 I2 r1 r2 q2
theorem pe_op{op:Operator}{r:R2}(ho:OpR X (kW op) r)(ha:PE X a ta)(hb:PE X b tb):PE X (.BinOp a op b pos) (tOp r ta tb):=by
 intro aE s σ H Q I h;exact wpAny_BinOp (binT ha hb I h fun v u s2 x y H2 I2 rx ry q=>ho aE s2 σ H2 x y v u Q I2 rx ry q)
theorem pe_un{op:UnaryOp}{r:V->Hp->VK->Prop}(ho:UnR X (unaryOp op) r)(ha:PE X a ta):PE X (.UnaryOp op a pos) (tUn r ta):=by
 intro aE s σ H Q I h;exact UnaryOp_ (thn (ha aE s σ H _ I h) fun v s1 ⟨x,H1,I1,r1,q1⟩=>ho aE s1 σ H1 x v Q I1 r1 q1)
theorem opI{f:aA->aA->Sem aA}{C:Int->Int->Prop}{g:Int->Int->Int}(rule:∀(i j:Int) (t u:Tok) (s:aC) (Q:aA->aC->Prop) (E:aA->aC->Prop),C i j->Q (.int (g i j) s.toks) { s with toks:=s.toks+1 }->bH (aT X.prog X.w) X.A (f (.int i t) (.int j u)) Q E s) :
  OpR X f (rI C fun i j=>.int (g i j)):=by
 intro aE s σ H x y v u Q I rx ry h;obtain⟨i,j,rfl,rfl,hc,q⟩:=h;obtain⟨t,rfl⟩:=rx;obtain⟨t',rfl⟩:=ry;exact rule i j t t' s _ _ hc ⟨.int (g i j),H,I.tok _,⟨_,rfl⟩,q⟩
theorem opI0{f:aA->aA->Sem aA}{g:Int->Int->Int}(rule:∀(i j:Int) (t u:Tok) (s:aC) (Q:aA->aC->Prop) (E:aA->aC->Prop),Q (.int (g i j) s.toks) { s with toks:=s.toks+1 }->bH (aT X.prog X.w) X.A (f (.int i t) (.int j u)) Q E s) :
  OpR X f (rI0 fun i j=>.int (g i j)):=by
 intro aE s σ H x y v u Q I rx ry h;obtain⟨i,j,rfl,rfl,q⟩:=h;obtain⟨t,rfl⟩:=rx;obtain⟨t',rfl⟩:=ry;exact rule i j t t' s _ _ ⟨.int (g i j),H,I.tok _,⟨_,rfl⟩,q⟩
theorem opB0{f:aA->aA->Sem aA}{g:Int->Int->Bool}(rule:∀(i j:Int) (t u:Tok) (s:aC) (Q:aA->aC->Prop) (E:aA->aC->Prop),Q (.bool (g i j)) s->bH (aT X.prog X.w) X.A (f (.int i t) (.int j u)) Q E s) :
  OpR X f (rI0 fun i j=>.bl (g i j)):=by
 intro aE s σ H x y v u Q I rx ry h;obtain⟨i,j,rfl,rfl,q⟩:=h;obtain⟨t,rfl⟩:=rx;obtain⟨t',rfl⟩:=ry;exact rule i j t t' s _ _ ⟨.bl (g i j),H,I,rfl,q⟩
theorem op_add:OpR X (kW .Add) (rI0 fun i j=>.int (i+j)):=opI0 fun _ _ _ _ _ _ _ q=>add_int q
theorem op_sub:OpR X (kW .Sub) (rI0 fun i j=>.int (i-j)):=opI0 fun _ _ _ _ _ _ _ q=>sub_int q
theorem op_mod:OpR X (kW .Mod) (rI (fun _ j=>0<j) fun i j=>.int (i%j)):=opI fun i j _ _ _ _ _ hc q=>by
 have h1:(0:Int)<j:=hc;exact mod_int' (by omega) (by rw[Int.fmod_eq_emod_of_nonneg i (by omega)];exact q)
theorem unI{f:aA->Sem aA}{g:Int->Int}(rule:∀(i:Int) (t:Tok) (s:aC) (Q:aA->aC->Prop) (E:aA->aC->Prop),Q (.int (g i) s.toks) { s with toks:=s.toks+1 }->bH (aT X.prog X.w) X.A (f (.int i t)) Q E s) :
  UnR X f (rU fun i=>.int (g i)):=by
 intro aE s σ H x v Q I rx h;obtain⟨i,rfl,q⟩:=h;obtain⟨t,rfl⟩:=rx;exact rule i t s _ _ ⟨.int (g i),H,I.tok _,⟨_,rfl⟩,q⟩
theorem un_neg:UnR X (unaryOp .USub) (rU fun i=>.int (-i)):=unI fun _ _ _ _ _ q=>neg_int q
end
section
variable{X:Cx}{a b c:Expr}{ta tb tc:TE}{pos:Pos}
theorem JL{aE:List (aB×Obj)}{σ : St}{H:Hp}{s:aC}{Q:VK}{k k':Bool}(I:Inv X aE σ H s)(q:Q (.bl k) H)(e:k=k'):EP X aE σ Q (.bool k') s:=by
 subst e;exact⟨.bl k,H,I,rfl,q⟩
theorem op_lt:OpR X (eE .Lt) (rI0 fun i j=>.bl (decide (i<j))):=opB0 fun _ _ _ _ _ _ _ q=>lt_int q
theorem op_le:OpR X (eE .LtE) (rI0 fun i j=>.bl (decide (i<=j))):=opB0 fun _ _ _ _ _ _ _ q=>le_int q
theorem op_gt:OpR X (eE .Gt) (rI0 fun i j=>.bl (decide (j<i))):=opB0 fun _ _ _ _ _ _ _ q=>gt_int q
theorem ON:OpR X (eE .In) (fun x y H Q=>∃i j,x=.str i/\y=.str j/\Q (.bl (!(Builtin.Str.occurrences j i 0 j.length 1).isEmpty)) H):=by
 intro aE s σ H x y v u Q I rx ry h;obtain⟨i,j,rfl,rfl,q⟩:=h;obtain⟨t,rfl⟩:=rx;obtain⟨t',rfl⟩:=ry;exact in_str (JL I q rfl)
theorem VE:OpR X (eE .Is) (fun x y H Q=>y=.non/\Q (.bl (decide (x=.non))) H):=by
 intro aE s σ H x y v u Q I rx ry h;obtain⟨rfl,q⟩:=h;cases ry;refine is_none_gen (JL I q ?_)
 cases x<;>first
  |(cases rx;rfl)
  |(obtain⟨t,rfl⟩:=rx;rfl)
theorem LS:OpR X (eE .IsNot) (fun x y H Q=>y=.non/\Q (.bl (!decide (x=.non))) H):=by
 intro aE s σ H x y v u Q I rx ry h;obtain⟨rfl,q⟩:=h;cases ry;refine isnot_none_gen (JL I q ?_)
 cases x<;>first
  |(cases rx;rfl)
  |(obtain⟨t,rfl⟩:=rx;rfl)
theorem OpR.or{f:aA->aA->Sem aA}{r r':R2}(h:OpR X f r)(h':OpR X f r'):OpR X f (fun x y H Q=>r x y H Q\/r' x y H Q):=by
 intro aE s σ H x y v u Q I rx ry q;rcases q with q | q
 . exact h aE s σ H x y v u Q I rx ry q
 . exact h' aE s σ H x y v u Q I rx ry q
theorem lD(b:Expr){op:BW}(h:op≠.In:=by decide)(h2:op≠.NotIn:=by decide):dG op b=false:=by
 have e1:(op==BW.In)=false:=by cases op<;>first | rfl | exact absurd rfl h
 have e2:(op==BW.NotIn)=false:=by cases op<;>first | rfl | exact absurd rfl h2
 cases b<;>simp[dG,e1,e2]
theorem LO{op:BW}{r:R2}(ho:OpR X (eE op) r)(ha:PE X a ta)(hb:PE X b tb)(hm:dG op b=false):PE X (.Compare a [op] [b] pos) (tOp r ta tb):=by
 intro aE s σ H Q I h;exact wpAny_Compare1 (binT ha hb I h fun v u s2 x y H2 I2 rx ry q=>ho aE s2 σ H2 x y v u Q I2 rx ry q) hm
def tTest(t:TE):TT:=fun σ H Q=>t σ H fun x H'=>∃k,x=.bl k/\Q k H'
theorem LG{op:BW}{r:R2}(ho:OpR X (eE op) r)(ha:PE X a ta)(hb:PE X b tb)(hm:dG op b=false):PT X (.Compare a [op] [b] pos) (tTest (tOp r ta tb)):=by
 intro aE s σ H Q I h
 refine wpAny_isTrue_Compare1 (thn (ha aE s σ H _ I h) fun v s1 ⟨x,H1,I1,r1,q1⟩=>thn (hb aE s1 σ H1 _ I1 q1) fun u s2 ⟨y,H2,I2,r2,q2⟩ =>
  thn (ho aE s2 σ H2 x y v u _ I2 r1 r2 q2) fun c s3 ⟨z,H3,I3,r3,k,e,q3⟩=>?_) hm
 subst e;cases r3;exact fN ⟨H3,I3,q3⟩
def TruV(K:aL)(x:V)(H:Hp)(k:Bool):Prop :=
 match x with
 | .non=>k=false
 | .bl b=>k=b
 | .int i=>k=(i != 0)
 | .str y=>y.length<=sizeLine/\k=((y.length:Int) != 0)
 | .byt y=>y.size<=sizeLine/\k=((y.size:Int) != 0)
 | .ref p=>(∃xs,SqL K H p xs/\k=!xs.isEmpty)\/(∃xs,SqT K H p xs/\k=!xs.isEmpty)\/∃kvs,H p=some (.dK kvs)/\k=!kvs.isEmpty
 |_=>False
theorem JD{κ : Type}{kvs:List (κ×V)}{vs:List (κ×aA)}(r:KV kvs vs):(!vs.isEmpty)=!kvs.isEmpty:=by
 cases r<;>rfl
theorem tN{xs:List V}{its:List aA}(r:Vals xs its):(!its.toArray.isEmpty)=!xs.isEmpty:=by
 cases r<;>simp
theorem pF:(sizeLine:Nat)<2 ^ 63:=by rw[iD];decide
theorem tru_ok:TruR X (fun x H Q=>∃k,TruV X.K x H k/\Q k H):=by
 intro aE s σ H x v Q I rx h;obtain⟨k,e,q⟩:=h;have hl:=pF;have hs:sizeLine=16777216:=iD;cases x with
 | non =>
   cases rx;have e':k=false:=e;subst e';exact truthy_none ⟨H,I,q⟩
 | bl b =>
   cases rx;have e':k=b:=e;subst e';exact fN ⟨H,I,q⟩
 | int i =>
   obtain⟨t,rfl⟩:=rx;have e':k=(i != 0):=e;subst e';exact PySem.P.truthy_int ⟨H,I,q⟩
 | str y =>
   obtain⟨t,rfl⟩:=rx;obtain⟨hy,e'⟩:y.length<=sizeLine/\k=((y.length:Int) != 0):=e;subst e';exact PySem.P.truthy_str (by omega) ⟨H,I.tok _,q⟩
 | byt y =>
   obtain⟨t,rfl⟩:=rx;obtain⟨hy,e'⟩:y.size<=sizeLine/\k=((y.size:Int) != 0):=e;subst e';exact PySem.W.truthy_bytes (by omega) ⟨H,I.tok _,q⟩
 | ref p =>
   cases rx;have e':(∃xs,SqL X.K H p xs/\k=!xs.isEmpty)\/(∃xs,SqT X.K H p xs/\k=!xs.isEmpty)\/∃kvs,H p=some (.dK kvs)/\k=!kvs.isEmpty:=e;rcases e' with⟨xs,hx,e'⟩ | ⟨xs,hx,e'⟩ | ⟨kvs,hx,e'⟩
   . subst e';obtain⟨its,r,pl,hz⟩:=I.list hx;have hlen:=r.length;exact wpAny_truthy_list pl.isList (by simp only[aU];omega) ⟨H,I.tok _,by rw[tN r];exact q⟩
   . subst e';obtain⟨its,r,pl,hz⟩:=I.tuple hx;have hlen:=r.length;exact truthy_tuple pl (by simp only[aU];omega) ⟨H,I.tok _,by rw[tN r];exact q⟩
   . subst e';obtain⟨hz,hS,vs,r,m⟩:kvs.length<=sizeLine/\(p==gF)=false/\∃vs,KV kvs vs/\s.heap.DictOf (eW X.prog X.w) p vs:=I.hok p _ hx;have hlen:kvs.length=vs.length:=AI.length r;exact wpAny_truthy_dict hS m (by omega) ⟨H,I.tok _,by rw[JD r];exact q⟩
 |_=>exact(show False from e).elim
theorem UJ(ha:PE X a ta)(he:∀whole,AB a X.env whole=(do let v <- whole;oK a.pos;gX [v] (truthy v))) :
  PT X a (fun σ H Q=>ta σ H fun x H'=>∃k,TruV X.K x H' k/\Q k H'):=by
 intro aE s σ H Q I h;exact isTrue_plain (thn (ha aE s σ H _ I h) fun v s1 ⟨x,H1,I1,r1,q1⟩=>tru_ok aE s1 σ H1 x v Q I1 r1 q1) (he _)
theorem IM:OpR X (kW .Add) (fun x y H Q=>∃i j,x=.str i/\y=.str j/\i.length+j.length<=sizeLine/\Q (.str (i++j)) H):=by
 intro aE s σ H x y v u Q I rx ry h;obtain⟨i,j,rfl,rfl,hz,q⟩:=h;obtain⟨t,rfl⟩:=rx;obtain⟨t',rfl⟩:=ry;exact add_str (fun t' tk=>⟨.str (i++j),H,I.tok _,⟨_,rfl⟩,q⟩) hz
theorem vals1{x:V}{us:List aA}(r:Vals [x] us):∃u,us=[u]/\RelV x u:=by
 cases r with
 |cons r1 r2=>cases r2;exact⟨_,rfl,r1⟩
theorem vals2{x y:V}{us:List aA}(r:Vals [x,y] us):∃u w',us=[u,w']/\RelV x u/\RelV y w':=by
 cases r with
 | cons r1 r2 =>
   cases r2 with
   |cons r3 r4=>cases r4;exact⟨_,_,rfl,r1,r3⟩
theorem QX(hc:X.calm=true):CallR X (.builtin "max") (fun xs H Q=>∃i j,xs=[.int i,.int j]/\Q (.int (if j>i then j else i)) H):=by
 intro aE s σ H xs us Q I r h;obtain⟨i,j,rfl,q⟩:=h;obtain⟨u,w',rfl,⟨t,rfl⟩,⟨t',rfl⟩⟩:=vals2 r;refine max_two_ints (I.ok.hd hc) fun h' tk k=>⟨_,H,I.kept k,?_,q⟩
 by_cases hj:j>i
 . rw[if_pos hj,if_pos hj];exact⟨_,rfl⟩
 . rw[if_neg hj,if_neg hj];exact⟨_,rfl⟩
theorem QW(hc:X.calm=true):CallR X (.builtin "min") (fun xs H Q=>∃i j,xs=[.int i,.int j]/\Q (.int (if j<i then j else i)) H):=by
 intro aE s σ H xs us Q I r h;obtain⟨i,j,rfl,q⟩:=h;obtain⟨u,w',rfl,⟨t,rfl⟩,⟨t',rfl⟩⟩:=vals2 r;refine min_two_ints (I.ok.hd hc) fun h' tk k=>⟨_,H,I.kept k,?_,q⟩
 by_cases hj:j<i
 . rw[if_pos hj,if_pos hj];exact⟨_,rfl⟩
 . rw[if_neg hj,if_neg hj];exact⟨_,rfl⟩
theorem QZ:CallR X (.type "int") (fun xs H Q=>(∃i,xs=[.int i]/\Q (.int i) H)\/∃k,xs=[.bl k]/\Q (.int (if k then 1 else 0)) H):=by
 intro aE s σ H xs us Q I r h;rcases h with⟨i,rfl,q⟩ | ⟨k,rfl,q⟩
 . obtain⟨u, rfl, t, rfl⟩ := vals1 r;exact call_int_int ⟨.int i,H,I,⟨_,rfl⟩,q⟩
 . obtain⟨u, rfl, r1⟩ := vals1 r;cases r1;exact call_int_bool ⟨.int (if k then 1 else 0),H,I.tok _,⟨_,rfl⟩,q⟩
end
structure ObjM(h:Heap)(x dx C:aB)(mA:Str->Option aA):Prop where
 obj:h.get? x=some (eZ C dx)
 ns:h.Ns1 dx mA
 ne:dx≠x
theorem PL{h:Heap}{dx:aB}{mA:Str->Option aA}(n:h.Ns1 dx mA):∃od,h.get? dx=some od/\∀name,nI name od=some (mA name):=by
 obtain⟨o,es,ep,ho,hd,hk,_,hm⟩:=n;refine⟨o,ho,fun name=>?_⟩;have e:=hm name;unfold nsFind findBy at e;rw[<- Array.find?_toList] at e;unfold nI;rw[hd];dsimp only
 split
 . rename_i y q;rw[q] at e;exact congrArg some e
 . rename_i q;rw [q] at e
   have a:es.toList.any (·.refKey)=false:=by
    rw[List.any_eq_false];intro y hy;obtain⟨z,t,hkey⟩:=hk y (Array.mem_toList_iff.mp hy);simp[DictEntry.refKey,hkey]
   have a' : ¬es.toList.any (·.refKey)=true:=by rw[a];exact cP
   rw[if_neg a'];exact congrArg some e
theorem ObjM.look{h:Heap}{x dx C:aB}{mA:Str->Option aA}(I:ObjM h x dx C mA):∃od,PySem.W.InstAt h x (eZ C dx) C (some od)/\∀name,nI name od=some (mA name):=
 let ⟨od,ho,hl⟩:=PL I.ns
 ⟨od,⟨I.obj,rfl,rfl,ho⟩,hl⟩
section
variable{prog:aX}{w:bW}{A:bT}{E:aA->aC->Prop}{s:aC}{K:aL}{x dx C f:aB}{mA:Str->Option aA}{name:Str}{v:aA}
theorem get_map{expr:Bool}{Q:aA->aC->Prop}(X:K.In s.heap)(I:ObjM s.heap x dx C mA)(hg:iY K C name=true)(hh:mB K C=true)(ha:cI K (.ref C) name=some none)(hv:mA name=some v)(hv':JW v=true)(h:Q v { s with toks:=s.toks+1 }) :
  bH (aT prog w) A (getAttr (.ref x) name expr) Q E s:=by
 obtain⟨od,J,hl⟩:=I.look;exact PySem.W.get_value X J (nY hg).1 (PySem.W.findObj_own hh ha rfl (by rw[hl,hv])) hv' h
theorem WV{pl:Sem Bool}{Q:aA×List aA->aC->Prop}(X:K.In s.heap)(I:ObjM s.heap x dx C mA)(hg:iY K C name=true)(hf:cI K (.ref C) name=some (some (.ref f)))(ht:mT K (.ref f)=true)(hv:mA name=none)(h:Q (.ref f,[.ref x]) s) :
  bH (aT prog w) A (AC (.ref x) name pl) Q E s:=by
 obtain⟨od,J,hl⟩:=I.look;exact PySem.W.method_fn X J (nY hg).1 (nY hg).2 hf (beq_iff_eq.mp ht) (by show(nI name od).map (·.isSome)=some false;rw[hl,hv];rfl) h
theorem ZP{ns:List Str}{Q:Unit->aC->Prop}(X:K.In s.heap)(I:ObjM s.heap x dx C mA)(hs:cI K (.ref C) "__setattr__" = some (some (.builtin "object.__setattr__")))(hp:pI K C=true)(ht:rL K C name=some none)(hh:mB K C=true)(hw:PySem.Within mA ns)(hsz:ns.length<=sizeLine)(h:∀h',ObjM h' x dx C (fun y=>if y=name then some v else mA y)->Heap.SameBut dx s.heap h'->Q () { s with heap:=h',toks:=s.toks+2 }) :
  bH (aT prog w) A (setAttr (.ref x) name v) Q E s:=by
 obtain⟨od,J,hl⟩:=I.look;refine PySem.W.set_plain X J hs (PySem.W.osa_open (s:={ s with toks:=s.toks+1 }) (r:=none) X J hp ht fun b=>?_);obtain⟨cd,hc,hd'⟩:=PySem.W.any_some hh;have hx:s.heap.get? x=some ⟨.ref C,some dx,.plain,#[]⟩:=I.obj;refine aD (aN (aD (aD (wpAny_loadPart hx (aD (PySem.W.Looks.here (s:={ s with toks:=s.toks+1 }) (PySem.W.looks_clsIn X hc) ?_))))));rw[hd'];refine aN (a:=some dx) (aD (aN (aD ?_)));refine wpAny_nsSet1 (s:={ s with toks:=s.toks+1 }) I.ns fun h' hn2 hs2=>?_;obtain⟨oD,esD,epD,hoD,hdD,hcD⟩:=hn2.count (PySem.Within.cons name v hw);refine aD (wpAny_lookBehind hoD (by rw[hdD];exact pastItsLine_dict (cT hcD (by rw[aO];omega))) ?_);exact aN (h _ ⟨(hs2.2 _ (Ne.symm I.ne)).trans I.obj,hn2,I.ne⟩ hs2)
theorem WB{R:HF->aC->Prop}{vs:List aA}{kw:List (Str×aA)}(X:K.In s.heap)(hm:rM K C=true)(hi:cI K (.ref C) "__init__" = some (some (.ref f)))(hf:RI K (.ref f)=some (.type "function"))(h:gZ (aT prog w) (A.under (.builtin "type.__call__" ⟨.ref C::vs,kw⟩)) (.call (.ref f) ⟨.ref (s.heap.objs.size+1)::vs,kw⟩) (PySem.W.InitBack (s.heap.objs.size+1) R)
    { s with heap:=(s.heap.push dM).push (eZ C s.heap.objs.size) }) :
  gZ (aT prog w) A (.call (.ref C) ⟨vs,kw⟩) R s:=by
 obtain⟨hh,g,d,t,os⟩:=s;exact PySem.W.make_core (PySem.W.makes_of X hm) (PySem.W.looks_findIn X hi) (fun self=>PySem.W.bind_fn X self hf) (.inl rfl) h
end
noncomputable def putF(f:Str)(v:V):List (Str×V)->List (Str×V)
 |[]=>[(f,v)]
 |(g,x)::r=>if g=f then (g,v)::r else (g,x)::putF f v r
theorem rW(f g:Str)(v:V):∀fs:List (Str×V),(putF f v fs).lookup g=if g=f then some v else fs.lookup g
 | [] => by
   show List.lookup g [(f,v)]=_
   by_cases h:g=f
   . have hb : (g==f)=true := beq_iff_eq.mpr h;simp only[List.lookup,hb,if_pos h]
   . have hb : (g==f)=false := beq_eq_false_iff_ne.mpr h;simp only[List.lookup,hb,if_neg h]
 | (k, x) :: r => by
   have ih:=rW f g v r;rw[show putF f v ((k,x)::r)=(if k=f then (k,v)::r else (k,x)::putF f v r) from rfl]
   by_cases hk:k=f
   . rw [if_pos hk]
     by_cases h:g=k
     . have hb : (g==k)=true := beq_iff_eq.mpr h;simp only[List.lookup,hb,if_pos (h.trans hk)]
     . have hb : (g==k)=false := beq_eq_false_iff_ne.mpr h;simp only[List.lookup,hb,if_neg (fun e:g=f=>h (e.trans hk.symm))]
   . rw [if_neg hk]
     by_cases h:g=k
     . have hb : (g==k)=true := beq_iff_eq.mpr h;simp only[List.lookup,hb,if_neg (fun e:g=f=>hk (h.symm.trans e))]
     . have hb : (g==k)=false := beq_eq_false_iff_ne.mpr h;simp only[List.lookup,hb];exact ih
theorem wU(f:Str)(v:V):∀fs:List (Str×V),f∈(putF f v fs).map (·.1)/\∀g,g∈fs.map (·.1)->g∈(putF f v fs).map (·.1)
 |[]=>⟨by simp[putF],fun g h=>by simp at h⟩
 | (k, x) :: r => by
   obtain⟨i1,i2⟩:=wU f v r;rw[show putF f v ((k,x)::r)=(if k=f then (k,v)::r else (k,x)::putF f v r) from rfl]
   by_cases hk:k=f
   . rw[if_pos hk];subst hk;exact⟨by simp,fun g h=>by simpa using h⟩
   . rw [if_neg hk];refine ⟨?_,fun g h=>?_⟩
     . rw[bA];exact aQ _ i1
     . rw [bA] at h ⊢;rcases aF.mp h with e | e
       . exact aF.mpr (.inl e)
       . exact aQ _ (i2 g e)
theorem rY(f:Str)(v:V):∀fs:List (Str×V),(putF f v fs).length<=fs.length+1
 |[]=>by simp[putF]
 | (k, x) :: r => by
   have ih:=rY f v r;rw[show putF f v ((k,x)::r)=(if k=f then (k,v)::r else (k,x)::putF f v r) from rfl]
   by_cases hk:k=f
   . rw[if_pos hk,aO,aO];omega
   . rw[if_neg hk,aO,aO];omega
theorem RelO.some_of{v:V}{o:Option aA}(r:RelO (some v) o):∃u,o=some u/\RelV v u:=by
 cases o with
 |none=>exact(show False from r).elim
 |some u=>exact⟨u,rfl,r⟩
theorem RelO.none_of{o:Option aA}(r:RelO none o):o=none:=by
 cases o with
 |none=>rfl
 |some u=>exact(show False from r).elim
theorem QG{v:V}{u:aA}(r:RelV v u):JW u=true:=by
 cases v with
 |non=>cases(show u=aA.none from r);rfl
 |bl b=>cases(show u=aA.bool b from r);rfl
 |int i=>obtain⟨t,e⟩:=(show ∃t,u=aA.int i t from r);cases e;rfl
 |str x=>obtain⟨t,e⟩:=(show ∃t,u=aA.str x t from r);cases e;rfl
 |byt b=>obtain⟨t,e⟩:=(show ∃t,u=aA.bytes b t from r);cases e;rfl
 |flt b=>obtain⟨t,e⟩:=(show ∃t,u=aA.float b t from r);cases e;rfl
 |ref a=>cases(show u=aA.ref a from r);rfl
 |ty n=>cases(show u=aA.type n from r);rfl
section
variable{P:aX}{w:bW}{H H':Hp}{h h':Heap}{a C dx:aB}{fs fs':List (Str×V)}
theorem vL(hok:HOk P w H h)(e:H a=some (.ins C dx fs)):∃mA,ObjM h a dx C mA/\(∀f,RelO (fs.lookup f) (mA f))/\PySem.Within mA (fs.map (·.1))/\fs.length<=1000/\H dx=some (.own a):=by
 obtain⟨d,z,ne,ob,mA,n,r,q⟩:=(show ObjOk P w H h a (.ins C dx fs) from hok a _ e)
 exact⟨mA,⟨ob,n,ne⟩,r,q,z,d⟩
end
structure Cls(K:aL)(C:aB):Prop where
 pg:iY K C Str.empty=true
 hd:mB K C=true
 po:pI K C=true
 sa:cI K (.ref C) "__setattr__" = some (some (.builtin "object.__setattr__"))
theorem Cls.get{K:aL}{C:aB}(c:Cls K C)(f:Str):iY K C f=true:=c.pg
def NoAttr(K:aL)(C:aB)(f:Str):Prop:=cI K (.ref C) f=some none
theorem NoAttr.taker{K:aL}{C:aB}{f:Str}(n:NoAttr K C f):rL K C f=some none:=by
 unfold rL;rw[show cI K (.ref C) f=some none from n];rfl
structure Meth(K:aL)(C:aB)(m:Str)(f:aB):Prop where
 at_:cI K (.ref C) m=some (some (.ref f))
 fn:mT K (.ref f)=true
 kp:cE K (.ref f)=true
section
variable{X:Cx}{aE:List (aB×Obj)}{σ : St}{H:Hp}{s:aC}{a C dx:aB}{fs:List (Str×V)}{f:Str}{v:V}{A:bT}{E:aA->aC->Prop}
theorem JG{b:Bool}{Q:aA->aC->Prop}(I:Inv X aE σ H s)(e:H a=some (.ins C dx fs))(c:Cls X.K C)(n:NoAttr X.K C f)(l:fs.lookup f=some v)(h:∀u s',Inv X aE σ H s'->RelV v u->Q u s'):bH (aT X.prog X.w) A (getAttr (.ref a) f b) Q E s:=by
 obtain⟨mA,O,r,_,_,_⟩:=vL I.hok e;obtain⟨u,hu,ru⟩:=RelO.some_of (v:=v) (o:=mA f) (by rw[<- l];exact r f);exact get_map I.kIn O (c.get f) c.hd n hu (QG ru) (h u _ (I.tok _) ru)
theorem JF{m:Str}{g:aB}{pl:Sem Bool}{Q:aA×List aA->aC->Prop}(I:Inv X aE σ H s)(e:H a=some (.ins C dx fs))(c:Cls X.K C)(k:Meth X.K C m g)(l:fs.lookup m=none)(h:Q (.ref g,[.ref a]) s):bH (aT X.prog X.w) A (AC (.ref a) m pl) Q E s:=by
 obtain⟨mA,O,r,_,_,_⟩:=vL I.hok e;have hn:mA m=none:=RelO.none_of (by rw[<- l];exact r m);exact WV I.kIn O (c.get m) k.at_ k.fn hn h
theorem ID{y:V}{u:aA}{Q:Unit->aC->Prop}(I:Inv X aE σ H s)(e:H a=some (.ins C dx fs))(c:Cls X.K C)(n:NoAttr X.K C f)(hl:fs.length<1000)(ry:RelV y u)(h:∀s',Inv X aE σ (upd H a (.ins C dx (putF f y fs))) s'->Q () s'):bH (aT X.prog X.w) A (setAttr (.ref a) f u) Q E s:=by
 obtain⟨mA,O,r,wi,_,ho⟩:=vL I.hok e;have hz:(fs.map (·.1)).length<=sizeLine:=by rw[cB,iD];omega
 refine ZP I.kIn O c.sa c.po n.taker c.hd wi hz fun h' O' sb=>h _ ?_;have hd:∃o,h'.get? dx=some o:=let ⟨o,_,_,e',_⟩:=O'.ns;⟨o,e'⟩;refine I.write (x:=a) (e:=dx) (by rw[e];exact True.intro) (.inr ho) (fun b q hb z=>(sb.2 b hb).trans z) hd ?_;refine⟨by rw[upd_ne O.ne];exact ho,?_,O.ne,O'.obj,_,O'.ns,fun g=>?_,fun g hg=>?_⟩
 . have:=rY f y fs;omega
 . show RelO ((putF f y fs).lookup g) (if g = f then some u else mA g);rw [rW]
   by_cases q:g=f
   . rw[if_pos q,if_pos q];exact ry
   . rw[if_neg q,if_neg q];exact r g
 . by_cases q : g = f
   . rw[q];exact(wU f y fs).1
   . refine(wU f y fs).2 g (wi g fun z => hg ?_);show(if g=f then some u else mA g)=none;rw[if_neg q];exact z
theorem Inv.made(I:Inv X aE σ H s):Inv X aE σ (upd (upd H s.heap.objs.size (.own (s.heap.objs.size+1))) (s.heap.objs.size+1) (.ins C s.heap.objs.size []))
  { s with heap:=(s.heap.push dM).push (eZ C s.heap.objs.size) }:=by
 have e1:(s.heap.push dM).get? s.heap.objs.size=some dM:=aK s.heap rfl
 have e2:((s.heap.push dM).push (eZ C s.heap.objs.size)).get? (s.heap.objs.size+1)=some (eZ C s.heap.objs.size):=by
  have:=aK (s.heap.push dM) (o:=eZ C s.heap.objs.size) rfl
  rwa [uO] at this
 have e3:(s.heap.push dM).Ns s.heap.objs.size (fun _=>none):=⟨dM,#[],_,e1,rfl,(fun e he=>absurd he (by simp)),fun _=>rfl⟩
 have I1:=I.laid (a:=s.heap.objs.size) (o:=.own (s.heap.objs.size+1)) (h':=s.heap.push dM) (t':=s.toks) (fun b u q=>aG _ q) (aM _) ⟨_,e1⟩;refine I1.laid (a:=s.heap.objs.size+1) (o:=.ins C s.heap.objs.size []) (t':=s.toks) (fun b u q=>aG _ q) (nJ (uO _ _)) ?_;have ne:s.heap.objs.size≠s.heap.objs.size+1:=bL (hU _);refine⟨by rw[upd_ne ne,zK],bY _,ne,e2,fun _=>none,(Heap.Ns1.of_empty e3).at fun o q=>aG _ q,fun _=>True.intro,fun y hy=>absurd rfl hy⟩
theorem attr_of{prog:aX}{w:bW}{env:Env}{e:Expr}{f:Str}{pos:Pos}{s:aC}{Q:aA->aC->Prop}(hb:dH e f env (cC e env)=cC e env)(h:bH (aT prog w) A (cC e env) (fun o s₁=>bH (aT prog w) A (getAttr o f true) Q E s₁) E s):bH (aT prog w) A (cC (.Attribute e f pos) env) Q E s :=
 Attribute_any_ h (by rw[arm_eval_Attribute,hb])
end
def tFld(K:aL)(ta:TE)(f:Str):TE:=fun σ H Q=>ta σ H fun x H1=>∃a C dx fs v,x=.ref a/\H1 a=some (.ins C dx fs)/\Cls K C/\NoAttr K C f/\fs.lookup f=some v/\Q v H1
def sFld(K:aL)(ta tv:TE)(f:Str):TS:=fun D σ H=>tv σ H fun y H1=>ta σ H1 fun x H2=>∃a C dx fs,x=.ref a/\H2 a=some (.ins C dx fs)/\Cls K C/\NoAttr K C f/\fs.length<1000 ∧
 D.nx σ (upd H2 a (.ins C dx (putF f y fs)))
section
variable{X:Cx}{o e value:Expr}{f:Str}{pos pos' tpos:Pos}{ta tv:TE}
theorem UW(he:PE X e ta)(hb:dH e f X.env (cC e X.env)=cC e X.env):PE X (.Attribute e f pos) (tFld X.K ta f):=by
 intro aE s σ H Q I h;refine attr_of hb (thn (he aE s σ H _ I h) fun u s1 zq=>?_);obtain⟨x,H1,I1,rx,a,C,dx,fs,v,ex,ea,c,n,l,q⟩:=zq;subst ex;obtain rfl:u=aA.ref a:=rx;exact JG I1 ea c n l fun u' s2 I2 ru=>⟨v,H1,I2,ru,q⟩
theorem ps_fld(ha:PE X o ta)(hv:PE X value tv)(hs:eQ value (some (.Attribute o f pos')) pos.line X.env=pure false):PS X (.Assign [.Attribute o f pos'] value pos) (sFld X.K ta tv f):=by
 intro aE s σ H D I h;refine plainObj_wpAny_Assign_Attribute (thn (hv aE s σ H _ I h) fun u s1 ⟨y,H1,I1,ry,q⟩=>thn (ha aE s1 σ H1 _ I1 q) fun ov s2 zq=>?_) hs;obtain⟨x,H2,I2,rx,a,C,dx,fs,ex,ea,c,n,l,q2⟩:=zq;subst ex;obtain rfl:ov=aA.ref a:=rx;exact ID I2 ea c n l ry fun s3 I3=>⟨σ,_,I3,q2⟩
end
section
variable{X:Cx}{aE:List (aB×Obj)}{σ : St}{H:Hp}{s:aC}{A:bT}{E:aA->aC->Prop}{Q:aA->aC->Prop}{c:aA}{b:Bool}
inductive TyOf(K:aL)(H:Hp):V->aA->Prop where
 |non:TyOf K H .non (.type "NoneType")
 |bl (x:Bool):TyOf K H (.bl x) (.type "bool")
 |int (i:Int):TyOf K H (.int i) (.type "int")
 |str (x:Str):TyOf K H (.str x) (.type "str")
 |flt (x:UInt64):TyOf K H (.flt x) (.type "float")
 |lst {a:aB} {xs:List V} (e:H a=some (.lst xs)):TyOf K H (.ref a) (.type "list")
 |frz {a:aB} {o:Obj} {xs:List V} (e:H a=some (.frz o (.lst xs))):TyOf K H (.ref a) (.type "list")
 |tup {a:aB} {xs:List V} (e:H a=some (.tup xs)):TyOf K H (.ref a) (.type "tuple")
 |dK {a:aB} {kvs:List (Key×V)} (e:H a=some (.dK kvs)):TyOf K H (.ref a) (.type "dict")
 |dT {a:aB} {kvs:List (List Key×V)} (e:H a=some (.dT kvs)):TyOf K H (.ref a) (.type "dict")
 |ins {a C dx:aB} {fs:List (Str×V)} (e:H a=some (.ins C dx fs)) (cl:Cls K C) (ha:cI K (.ref C) "__class__" = some (some (.builtin "object.__class__")))
    (hn:PySem.W.specialIn K (.builtin "object.__class__") "__get__" = some (some (.builtin "getset_descriptor.__get__"))) (htk:PySem.W.takesIn K (.builtin "object.__class__")=some true)
    (hm:uD K C (.type "object")=some true):TyOf K H (.ref a) (.ref C)
theorem QB{x:V}{u t:aA}(I:Inv X aE σ H s)(rx:RelV x u)(ty:TyOf X.K H x t)(e:sQ X.K t c=some b)(h:∀tk,Q (.bool b) { s with toks:=tk }) :
  bH (aT X.prog X.w) A (call (.builtin "isinstance") [u,c]) Q E s:=by
 cases ty with
 |non=>cases(show u=aA.none from rx);exact cL PySem.W.kitx_none I.kIn True.intro e (fun z=>nomatch z) h
 |bl y=>cases(show u=aA.bool y from rx);exact cL PySem.W.kitx_bool I.kIn True.intro e (fun z=>nomatch z) h
 |int i=>obtain⟨t,q⟩:=(show ∃t,u=aA.int i t from rx);cases q;exact cL PySem.W.kitx_int I.kIn True.intro e (fun z=>nomatch z) h
 |str y=>obtain⟨t,q⟩:=(show ∃t,u=aA.str y t from rx);cases q;exact cL PySem.W.kitx_str I.kIn True.intro e (fun z=>nomatch z) h
 |flt y=>obtain⟨t,q⟩:=(show ∃t,u=aA.float y t from rx);cases q;exact cL PySem.W.kitx_float I.kIn True.intro e (fun z=>nomatch z) h
 | @lst a xs ea =>
   cases(show u=aA.ref a from rx);obtain⟨_,_,n,_,h1⟩:=(show ObjOk X.prog X.w H s.heap a (.lst xs) from I.hok a _ ea)
   exact cL pL I.kIn ⟨_,h1,rfl⟩ e (fun z=>nomatch z) h
 | @frz a ob xs ea =>
   cases(show u=aA.ref a from rx);obtain⟨_,_,_,n,_,h1⟩:=(show ObjOk X.prog X.w H s.heap a (.frz ob (.lst xs)) from I.hok a _ ea)
   exact cL pL I.kIn ⟨_,h1,rfl⟩ e (fun z=>nomatch z) h
 | @tup a xs ea =>
   cases(show u=aA.ref a from rx);obtain⟨_,_,_,p⟩:=(show ObjOk X.prog X.w H s.heap a (.tup xs) from I.hok a _ ea)
   obtain⟨o,h1,h2,_⟩:=p;exact cL oP I.kIn ⟨o,h1,h2⟩ e (fun z=>nomatch z) h
 | @dK a kvs ea =>
   cases(show u=aA.ref a from rx);obtain⟨_,_,vs,_,p⟩:=(show ObjOk X.prog X.w H s.heap a (.dK kvs) from I.hok a _ ea)
   obtain⟨o,es,ep,h1,h2,_⟩:=p;exact cL HN I.kIn ⟨o,h1,h2.1⟩ e (fun z=>nomatch z) h
 | @dT a kvs ea =>
   cases(show u=aA.ref a from rx);obtain⟨_,_,xs,_,o,es,ep,h1,h2,_⟩:=(show ObjOk X.prog X.w H s.heap a (.dT kvs) from I.hok a _ ea)
   exact cL HN I.kIn ⟨o,h1,h2.1⟩ e (fun z=>nomatch z) h
 | @ins a C dx fs ea cl ha hn htk hm =>
   cases(show u=aA.ref a from rx);obtain⟨mA,O,_⟩:=vL I.hok ea;obtain⟨od,J,_⟩:=O.look;exact cL (PySem.W.kitx_own (cl.get _) cl.hd ha hn htk hm) I.kIn J e (fun z=>nomatch z) h
end
structure Room(k:Nat)(A:bT):Prop where
 hd:A.handled=none
 dp:A.depth+3*k+5<recursionLimit
 un:A.units+16*k+200<cLine
theorem Room.mono{j k:Nat}{A:bT}(r:Room k A)(h:j<=k):Room j A:=⟨r.hd,by have:=r.dp;omega,by have:=r.un;omega⟩
theorem Room.deeper{k:Nat}{A:bT}(r:Room (k+1) A)(env:Env):Room k (A.deeper env):=
 ⟨r.hd,by have:=r.dp;show A.depth+1+3*k+5<_;omega,by have:=r.un;show A.units+3+16*k+200<_;omega⟩
theorem IZ{A:bT}{C:aB}{us:List aA}{kw:List (Str×aA)}:(A.under (.builtin "type.__call__" ⟨.ref C::us,kw⟩)).depth=A.depth+1:=by
 first | rfl | simp[bT.under,Code.weight,Code.isCreation,Code.isGuard,Code.isCaller,Code.frames,Code.isFrame,guardIds]
theorem IY{A:bT}{C:aB}{us:List aA}{kw:List (Str×aA)}:(A.under (.builtin "type.__call__" ⟨.ref C::us,kw⟩)).units=A.units+1:=by
 first | rfl | simp[bT.under,Code.cUnits,Code.frames,Code.isFrame]
theorem Room.make{k:Nat}{A:bT}(r:Room (k+1) A)(C:aB)(us:List aA)(kw:List (Str×aA)):Room k (A.under (.builtin "type.__call__" ⟨.ref C::us,kw⟩)):=
 ⟨r.hd,by have:=r.dp;rw[IZ];omega,by have:=r.un;rw[IY];omega⟩
theorem Room.depth{k:Nat}{A:bT}(r:Room k A):A.depth<recursionLimit:=by have:=r.dp;omega
theorem Room.units{k:Nat}{A:bT}(r:Room k A):A.units+64<cLine:=by have:=r.un;omega
def tNil:TA:=fun _ H Q=>Q [] H
def tCons(ta:TE)(tr:TA):TA:=fun σ H Q=>ta σ H fun x H1=>tr σ H1 fun xs H2=>Q (x::xs) H2
section
variable{X:Cx}{e:Expr}{es:List Expr}{te:TE}{t:TA}{pos:Pos}
theorem jT:PA X [] tNil:=fun _ _ _ _ H Q I h=>Calls.spliced_nil ⟨[],H,I,.nil,h⟩
theorem qW(ha:PE X e te)(hr:PA X es t)(hs:aJ (e::es) X.env=(false,cC e X.env)::aJ es X.env:=by rfl):PA X (e::es) (tCons te t):=by
 intro pos aE s σ H Q I h;rw[hs];show bH _ _ (RE ((false,cC e X.env)::cY pos (aJ es X.env))) _ _ s;refine Calls.spliced_cons (thn (ha aE s σ H _ I h) fun u s1 zq=>?_);obtain⟨x,H1,I1,r1,q1⟩:=zq;exact thn (hr pos aE s1 σ H1 _ I1 q1) fun us s2 ⟨xs,H2,I2,r2,q2⟩=>⟨x::xs,H2,I2,.cons r1 r2,q2⟩
def tTup(t:TA):TE:=fun σ H Q=>t σ H fun xs H1=>xs.length<=sizeLine/\∀p,H1 p=none->Q (.ref p) (upd H1 p (.tup xs))
def tLst(t:TA):TE:=fun σ H Q=>t σ H fun xs H1=>xs.length<=sizeLine/\∀p,H1 p=none->Q (.ref p) (upd H1 p (.lst xs))
theorem pe_tup{x1}(h:PA X es t):PE X (.Tuple es x1 pos) (tTup t):=by
 intro aE s σ H Q I hq;refine wpAny_Tuple_spliced (thn (h pos aE s σ H _ I hq) fun us s1 ⟨xs,H1,I1,r,z,q⟩=>⟨by rw[<- r.length];exact z,?_⟩);have hf:H1 s1.heap.objs.size=none:=I1.hok.fresh (aM _);refine⟨.ref s1.heap.objs.size,upd H1 s1.heap.objs.size (.tup xs),I1.laid (t':=s1.toks) (fun b u e=>aG _ e) (aM _) ?_,rfl,q _ hf⟩;exact⟨z,us,r,⟨_,aK _ rfl,rfl,_,rfl⟩⟩
theorem UV(h:PA X es t):PE X (.List es pos) (tLst t):=by
 intro aE s σ H Q I hq;refine wpAny_List_spliced (thn (h pos aE s σ H _ I hq) fun us s1 ⟨xs,H1,I1,r,z,q⟩=>⟨by rw[<- r.length];exact z,?_⟩);have hf:H1 s1.heap.objs.size=none:=I1.hok.fresh (aM _);refine⟨.ref s1.heap.objs.size,upd H1 s1.heap.objs.size (.lst xs),I1.laid (t':=s1.toks) (fun b u e=>aG _ e) (aM _) ?_,rfl,q _ hf⟩;exact⟨z,us,0,r,aK _ rfl⟩
end
abbrev Sp:=List V->Hp->VK->XK->Prop
abbrev CXT:=List Env->Hp->aC->XK->aA->aC->Prop
structure Env0(P:aX)(w:bW)(K:aL)(mg:Str->Option aA)(base:Heap)(A:bT)(outer:List Env)(s:aC)(H:Hp):Prop where
 frames:A.frames=some outer
 mod:Mod K mg base
 bs:∀b o,base.get? b=some o->s.heap.get? b=some o/\H b=none
 bsz:Bsz K mg base s.heap H
 funs:s.heap.FunFrames base outer
 frf:∀b∈frs outer,H b=none
 hok:HOk P w H s.heap
 bare:oR s.gens
def CE(outer:List Env)(P:aX)(w:bW)(H:Hp)(s:aC)(Q:VK)(u:aA)(s':aC):Prop :=
 ∃v H',s'.os=s.os/\oR s'.gens/\Un (frs outer) [] H H' s.heap s'.heap/\HOk P w H' s'.heap/\RelV v u/\Q v H'
def CR(CX:CXT)(outer:List Env)(P:aX)(w:bW)(H:Hp)(s:aC)(Q:VK)(E:XK)(r:HF)(s':aC):Prop :=
 match r with
 | .ok (.ret u)=>CE outer P w H s Q u s'
 | .ok _=>False
 | .error e=>CX outer H s E e s'
structure FnOk(P:aX)(w:bW)(K:aL)(mg:Str->Option aA)(base:Heap)(CX:CXT)(k:Nat)(f:aB)(fd:bN)(ps:List Str)(sp:Sp):Prop where
 len:∀vs H Q E,sp vs H Q E->vs.length=ps.length
 run:∀(A:bT) (outer:List Env) (s:aC) (H:Hp) (args:Args) (us:List aA) (vs:List V) (Q:VK) (E:XK),Room k A->Env0 P w K mg base A outer s H->RL s fd args (ps.zip us)->Vals vs us->sp vs H Q E →
  gZ (aT P w) A (.call (.ref f) args) (CR CX outer P w H s Q E) s
theorem FnOk.mono{P:aX}{w:bW}{K:aL}{mg:Str->Option aA}{base:Heap}{CX:CXT}{j k:Nat}{f:aB}{fd:bN}{ps:List Str}{sp:Sp}(F:FnOk P w K mg base CX j f fd ps sp)(h:j<=k) :
  FnOk P w K mg base CX k f fd ps sp:=⟨F.len,fun A outer s H args us vs Q E hr=>F.run A outer s H args us vs Q E (hr.mono h)⟩
theorem FnOk.imp{P:aX}{w:bW}{K:aL}{mg:Str->Option aA}{base:Heap}{CX:CXT}{k:Nat}{f:aB}{fd:bN}{ps:List Str}{sp sp':Sp}(F:FnOk P w K mg base CX k f fd ps sp)(h:∀vs H Q E,sp' vs H Q E->sp vs H Q E):FnOk P w K mg base CX k f fd ps sp' :=
 ⟨fun vs H Q E q=>F.len vs H Q E (h _ _ _ _ q),fun A outer s H args us vs Q E hr he hb hv hs=>F.run A outer s H args us vs Q E hr he hb hv (h _ _ _ _ hs)⟩
theorem Env0.make{P:aX}{w:bW}{K:aL}{mg:Str->Option aA}{base:Heap}{A:bT}{outer:List Env}{s:aC}{H:Hp}(e:Env0 P w K mg base A outer s H)(C:aB)(us:List aA)(kw:List (Str×aA)) :
  Env0 P w K mg base (A.under (.builtin "type.__call__" ⟨.ref C::us,kw⟩)) outer s H:=⟨by first | exact e.frames | (simpa[bT.under,Code.envs,Code.isFrame,pushEnvs] using e.frames),e.mod,e.bs,e.bsz,e.funs,e.frf,e.hok,e.bare⟩
section
variable{X:Cx}{aE:List (aB×Obj)}{σ : St}{H:Hp}{s s':aC}
theorem Inv.tabsH(I:Inv X aE σ H s):TabsK X.K X.mg X.base H:=⟨I.ok.bsz.2.bm,fun x c P hx ht=>⟨(I.ok.bsz.2.tab x c P hx ht).1,I.base.tbls _ _ (I.ok.bsz.2.tab x c P hx ht).2⟩⟩
theorem Inv.env0(I:Inv X aE σ H s):Env0 X.prog X.w X.K X.mg X.base X.A X.stack s H :=
 ⟨I.ok.frames,I.ok.mod,I.bs,⟨cT I.ok.bsz.1 I.sz,I.tabsH⟩,I.stack,I.stkFree,I.hok,I.bare⟩
theorem Inv.after{Q:VK}{u:aA}(I:Inv X aE σ H s)(h:CE X.stack X.prog X.w H s Q u s'):EP X aE σ Q u s':=by
 obtain⟨v,H',os,bare,un,hok,r,q⟩:=h;obtain⟨hh,g,d,t,os'⟩:=s';obtain rfl:os'=s.os:=os;exact⟨v,H',I.call (h':=hh) (g':=g) (d':=d) (t':=t) (ch:=[]) un hok bare (fun b z=>absurd z (by simp)),r,q⟩
end
def tCall(sp:Sp)(dvs:List V)(E:XK)(t:TA):TE:=fun σ H Q=>t σ H fun vs H1=>sp (vs++dvs) H1 Q E
def tMake(C:aB)(sp:Sp)(dvs:List V)(E:XK)(t:TA):TE:=fun σ H Q=>t σ H fun vs H1=>∀x dx,H1 x=none->H1 dx=none->dx≠x →
 sp (.ref x::(vs++dvs)) (upd (upd H1 dx (.own x)) x (.ins C dx [])) (fun v H2=>v=.non/\Q (.ref x) H2) E
def Binds(K:aL)(fd:bN)(ps:List Str)(ds:List aA):Prop :=
 ∀(s:aC) (us:List aA),K.In s.heap->(us++ds).length=ps.length->RL s fd ⟨us,[]⟩ (ps.zip (us++ds))
theorem Binds.all{K:aL}{fd:bN}{ps:List Str}(h:∀us:List aA,us.length=ps.length->pX fd ⟨us,[]⟩=pure (ps.zip us)):Binds K fd ps []:=fun s us _ hl=>by
 rw[fC] at hl ⊢;exact .of_eq (h us hl)
def tY(CX:CXT)(X:Cx)(E:XK):Prop:=∀(aE:List (aB×Obj)) (σ : St) (H:Hp) (s:aC) (e:aA) (s':aC),Inv X aE σ H s->CX X.stack H s E e s'->X.xe e s'
section
variable{X:Cx}{CX:CXT}{k:Nat}{f C:aB}{fd:bN}{ps:List Str}{sp:Sp}{dvs:List V}{ds:List aA}{E:XK}{x m:Str}{p pos apos:Pos}{e o:Expr}{es:List Expr}{ta:TE}{t:TA}
theorem TQ{aE:List (aB×Obj)}{σ : St}{H:Hp}{s:aC}{Q:VK}{us:List aA}{vs:List V}(F:FnOk X.prog X.w X.K X.mg X.base CX k f fd ps sp)(hr:Room k X.A)(hb:Binds X.K fd ps ds)(hd:Vals dvs ds)(hx:tY CX X E)(I:Inv X aE σ H s)(r:Vals vs us)(h:sp (vs++dvs) H Q E):bH (aT X.prog X.w) X.A (call (.ref f) us) (EP X aE σ Q) X.xe s:=by
 have r2:Vals (vs++dvs) (us++ds):=r.append hd;have hl:(us++ds).length=ps.length:=by rw[<- r2.length];exact F.len _ _ _ _ h
 refine HA (iK (F.run X.A X.stack s H ⟨us,[]⟩ (us++ds) (vs++dvs) Q E hr I.env0 (hb s us I.kIn hl) r2 h) fun r s' hq=>?_);cases r with
 |error e=>exact hx aE σ H s e s' I hq
 | ok fl =>
   cases fl with
   |ret u=>exact I.after hq
   |next=>exact False.elim hq
   |brk=>exact False.elim hq
   |cont=>exact False.elim hq
theorem CQ(F:FnOk X.prog X.w X.K X.mg X.base CX k f fd ps sp)(hr:Room k X.A)(hg:Gl X x)(hm:X.mg x=some (.ref f))(hk:cE X.K (.ref f)=true)(hb:Binds X.K fd ps ds)(hd:Vals dvs ds)(hx:tY CX X E)(ha:PA X (e::es) t)(hdb:(x==("__debug__" : Str))=false:=by decide)(he:aJ (e::es) X.env=(false,cC e X.env)::aJ es X.env:=by rfl)(hpl:(cY pos (aJ es X.env)).any (·.1)=false:=by rfl) :
  PE X (.Call (.Name x p) (e::es) [] pos) (tCall sp dvs E t):=by
 intro aE s σ H Q I h;refine fB (CT I hg hm ?_ hdb);refine oQ (h₀:=X.base) I.ok.mod.kin hk (thn (ha pos aE s σ H _ I h) fun us s1 ⟨vs,H1,I1,r,q⟩=>⟨I1.kIn,?_⟩) he hpl;exact TQ F hr hb hd hx I1 r q
structure Mk(K:aL)(C f:aB):Prop where
 makes:rM K C=true
 init:cI K (.ref C) "__init__" = some (some (.ref f))
 fn:mT K (.ref f)=true
 kp:cE K (.ref C)=true
theorem TN{aE:List (aB×Obj)}{σ : St}{H:Hp}{s:aC}{Q:VK}{us:List aA}{vs:List V}(M:Mk X.K C f)(F:FnOk X.prog X.w X.K X.mg X.base CX k f fd ps sp)(hr:Room (k+1) X.A)(hb:Binds X.K fd ps ds)(hd:Vals dvs ds)(hx:tY CX X E)(I:Inv X aE σ H s)(r:Vals vs us)(h:∀x dx,H x=none->H dx=none->dx≠x->sp (.ref x::(vs++dvs)) (upd (upd H dx (.own x)) x (.ins C dx [])) (fun v H2=>v=.non/\Q (.ref x) H2) E) :
  bH (aT X.prog X.w) X.A (call (.ref C) us) (EP X aE σ Q) X.xe s:=by
 have hq:=h (s.heap.objs.size+1) s.heap.objs.size (I.hok.fresh (lF _)) (I.hok.fresh (aM _)) (bL (hU _));have I2:=Inv.made (C:=C) I;have r2:Vals (V.ref (s.heap.objs.size+1)::(vs++dvs)) (aA.ref (s.heap.objs.size+1)::(us++ds)):=.cons rfl (r.append hd)
 have hl:(aA.ref (s.heap.objs.size+1)::us++ds).length=ps.length:=by
  have e:=r2.length;rw[F.len _ _ _ _ hq] at e;exact e.symm
 refine HA (WB (f:=f) I.kIn M.makes M.init (beq_iff_eq.mp M.fn) (iK (F.run _ X.stack _ _ ⟨aA.ref (s.heap.objs.size+1)::us,[]⟩ (aA.ref (s.heap.objs.size+1)::(us++ds)) _ _ E (hr.make C us [])
  (I2.env0.make C us []) (hb _ (aA.ref (s.heap.objs.size+1)::us) I2.kIn hl) r2 hq) fun r s' hq'=>?_))
 cases r with
 |error e=>exact hx aE σ _ _ e s' I2 hq'
 | ok fl =>
   cases fl with
   | ret u =>
     obtain⟨v,H',I3,rv,ev,q3⟩:=I2.after hq';subst ev;exact⟨rv,⟨V.ref (s.heap.objs.size+1),H',I3,rfl,q3⟩⟩
   |next=>exact False.elim hq'
   |brk=>exact False.elim hq'
   |cont=>exact False.elim hq'
theorem pe_make(M:Mk X.K C f)(F:FnOk X.prog X.w X.K X.mg X.base CX k f fd ps sp)(hr:Room (k+1) X.A)(hg:Gl X x)(hm:X.mg x=some (.ref C))(hb:Binds X.K fd ps ds)(hd:Vals dvs ds)(hx:tY CX X E)(ha:PA X (e::es) t)(hdb:(x==("__debug__" : Str))=false:=by decide)(he:aJ (e::es) X.env=(false,cC e X.env)::aJ es X.env:=by rfl)(hpl:(cY pos (aJ es X.env)).any (·.1)=false:=by rfl) :
  PE X (.Call (.Name x p) (e::es) [] pos) (tMake C sp dvs E t):=by
 intro aE s σ H Q I h;refine fB (CT I hg hm ?_ hdb);refine oQ (h₀:=X.base) I.ok.mod.kin M.kp (thn (ha pos aE s σ H _ I h) fun us s1 ⟨vs,H1,I1,r,q⟩=>⟨I1.kIn,?_⟩) he hpl;exact TN M F hr hb hd hx I1 r q
end
section
variable{X:Cx}{CX:CXT}{k:Nat}{f C:aB}{fd:bN}{ps ks:List Str}{sp:Sp}{E:XK}{x m:Str}{p pos apos kpos:Pos}{e o:Expr}{es:List Expr}{kws:List iM}{te ta:TE}{t tk:TA}{nm:Option Str}
variable{g:List aA->List aA->List aA}{gV:List V->List V->List V}
end
structure FnScope(N P:List Str)(sc:Scope):Prop where
 kind:sc.kind=.function:=by rfl
 co:sc.isCoroutine=false:=by rfl
 gen:sc.isGenerator=false:=by rfl
 nd:N.Nodup:=by decide +kernel
 pre:N.take P.length=P:=by rfl
 par:∀x∈P,sc.names.lookup x=some .local\/sc.names.lookup x=some .cell:=by decide +kernel
 nofree:∀y∈sc.names,y.2≠.free:=by decide +kernel
theorem BO{kindOf:Str->Option iR}{x:Str}:∀{binds:List (Str×aA)} {m:Str->Option aA},(∀v,(x,v)∉binds)->NC kindOf binds m x=m x
 |[],_,_=>rfl
 | (n, v) :: r, m, h => by
   unfold NC;rw[BO fun w hw=>h w (aQ _ hw)]
   split
   . have : x ≠ n := by rintro rfl; exact h v bD
     simp[this]
   . rfl
theorem BQ{kindOf:Str->Option iR}{x:Str}:∀{binds:List (Str×aA)} {m:Str->Option aA},(∀v,(x,v)∉binds)->ND kindOf binds m x=m x
 |[],_,_=>rfl
 | (n, v) :: r, m, h => by
   unfold ND;rw[BQ fun w hw=>h w (aQ _ hw)]
   split
   . rfl
   . have : x ≠ n := by rintro rfl; exact h v bD
     simp[this]
theorem BP{kindOf:Str->Option iR}{x:Str}{v:aA}:∀{P:List Str} {vs:List aA} {i:Nat} {m:Str->Option aA},P.Nodup->P[i]?=some x->vs[i]?=some v->kindOf x=some .local →
  NC kindOf (P.zip vs) m x=some v
 |[],_,_,_,_,h,_,_=>by simp at h
 |_::_,[],_,_,_,_,h,_=>by simp at h
 | p :: P, w :: vs, 0, m, nd, h1, h2, hk => by
   simp at h1 h2;subst h1;subst h2;show NC kindOf ((p,w)::P.zip vs) m p=_;unfold NC;rw[BO fun v hv=>(bU.mp nd).1 (sW hv).1,if_pos hk];simp
 | p :: P, w :: vs, i + 1, m, nd, h1, h2, hk => by
   show NC kindOf ((p,w)::P.zip vs) m x=_;unfold NC;exact BP (i:=i) (bU.mp nd).2 (by simpa using h1) (by simpa using h2) hk
theorem BR{kindOf:Str->Option iR}{x:Str}{v:aA}:∀{P:List Str} {vs:List aA} {i:Nat} {m:Str->Option aA},P.Nodup->P[i]?=some x->vs[i]?=some v->kindOf x≠some .local →
  ND kindOf (P.zip vs) m x=some v
 |[],_,_,_,_,h,_,_=>by simp at h
 |_::_,[],_,_,_,_,h,_=>by simp at h
 | p :: P, w :: vs, 0, m, nd, h1, h2, hk => by
   simp at h1 h2;subst h1;subst h2;show ND kindOf ((p,w)::P.zip vs) m p=_;unfold ND;rw[BQ fun v hv=>(bU.mp nd).1 (sW hv).1,if_neg hk];simp
 | p :: P, w :: vs, i + 1, m, nd, h1, h2, hk => by
   show ND kindOf ((p,w)::P.zip vs) m x=_;unfold ND;exact BR (i:=i) (bU.mp nd).2 (by simpa using h1) (by simpa using h2) hk
noncomputable def start(N:List Str)(vs:List V):St:=vs.map some++List.replicate (N.length-vs.length) none
noncomputable def cxOf(CX:CXT)(P:aX)(w:bW)(K:aL)(mg:Str->Option aA)(base:Heap)(N:List Str)(qual:Str)(scope:Scope)(f:aB)(cd:aA)(A:bT)(outer:List Env)(s:aC)(H:Hp)(E:XK):Cx where
 prog:=P
 w:=w
 K:=K
 mg:=mg
 base:=base
 A:=A.deeper (mE qual scope s.heap.objs.size f cd)
 N:=N
 s₀:=s
 H₀:=H
 env:=mE qual scope s.heap.objs.size f cd
 outer:=outer
 stack:=mE qual scope s.heap.objs.size f cd::outer
 ex:=[]
 calm:=true
 fn:=fun _=>true
 pn:=[]
 xe:=fun e s'=>bH (aT P w) (A.deeper (mE qual scope s.heap.objs.size f cd)) (leaving (mE qual scope s.heap.objs.size f cd) e) (fun _ s''=>CX outer H s E e s'') (fun e' s''=>CX outer H s E e' s'') s'
theorem GQ{sc:Scope}{n:Nat}{x:Str}(h:sc.names.lookup x=some .cell):∃c,(cellsFrom n sc.names []).lookup x=some c:=by
 have q:=AE sc.names n [] (.inl h);exact uL.mp q
theorem QC{CX:CXT}{P:aX}{w:bW}{K:aL}{mg:Str->Option aA}{base:Heap}{N ps:List Str}{qual:Str}{scope:Scope}{f:aB}{cd:aA}{A:bT}{outer:List Env}{s s1:aC}{H:Hp}{E:XK}{us:List aA}{vs:List V}(S:FnScope N ps scope)(hd:A.handled=none)(e0:Env0 P w K mg base A outer s H)(hl:vs.length=ps.length)(r:Vals vs us)(x:InCallC s s.heap.objs.size (NC (mE qual scope s.heap.objs.size f cd).kindOf (ps.zip us) fun _=>none) (cellsFrom (s.heap.objs.size+1) scope.names []) (ND (mE qual scope s.heap.objs.size f cd).kindOf (ps.zip us) fun _=>none) s1) :
  Inv (cxOf CX P w K mg base N qual scope f cd A outer s H E) [] (start N vs) H s1:=by
 have hpl:ps.length<=N.length:=by have:=congrArg List.length S.pre;rw[fQ] at this;omega
 obtain⟨h1,tk,rfl,hk⟩:=x.done;have noA:∀b:aB,b∉(cxOf CX P w K mg base N qual scope f cd A outer s H E).ex:=fun b z=>absurd (show b∈([]:List aB) from z) (by simp)
 refine⟨⟨e0.mod,S.kind,rfl,rfl,aM _,fun y z c h1 h2=>?_,fun y hy=>?_,fun y c _ h=>?_,fun _=>hd,bT.frames_deeper e0.frames,.inr ⟨rfl,rfl⟩,fun b z=>absurd z (noA b),e0.bs,e0.bsz,fun b _ _=>noA b,fun b z=>absurd z (noA b),e0.funs,e0.frf⟩,
  rfl,e0.bare,Un.kept hk,⟨_,x.toInCall.ns,fun i y v h1 h2 h3=>?_⟩,fun y c h=>⟨_,x.cell y c h⟩,e0.hok.fresh (aM _),fun y c h=>?_,fun p hp=>absurd (show p∈([]:List (aB×Obj)) from hp) (by simp),e0.hok.kept hk,?_⟩
 . exact name_of_addr x.apart (fM h1) (fM h2)
 . have hy : scope.names.lookup y = some .cell \/ scope.names.lookup y = some .free := hy;rcases hy with hy | hy
   . exact GQ hy
   . exact absurd rfl (S.nofree _ (fM hy))
 . exact HJ (x.above y c (fM h))
 . have hi:i<vs.length:=by
    unfold start at h2
    by_cases hi:i<vs.length
    . exact hi
    . rw [cH (by simpa using hi)] at h2;rw [dI] at h2
      split at h2<;>cases h2
   have ha:vs[i]?=some v:=by
    unfold start at h2;rw[bV (by simpa using hi),bK] at h2;cases e:vs[i]? with
    |none=>rw[e] at h2;cases h2
    |some a=>rw[e] at h2;cases h2;rfl
   obtain⟨u,hu,rv⟩:=r.get ha
   have hp:ps[i]?=some y:=by
    rw[<- S.pre,iG (by omega)];exact h1
   have ndP:ps.Nodup:=by rw[<- S.pre];exact S.nd.sublist (fF _ _)
   refine⟨u,rv,?_⟩;rcases S.par y (lA hp) with k | k
   . exact .inl ⟨k,BP ndP hp hu k⟩
   . obtain⟨c, e⟩ := GQ (n := s.heap.objs.size + 1) k;refine .inr ⟨.inl k,c,e,?_⟩;have q:=x.cell y c e;rw[BR ndP hp hu (by show scope.names.lookup y≠_;rw[k];decide)] at q;exact q
 . exact .inl (e0.hok.fresh (HJ (x.above y c (fM h))))
 . unfold start;show _=N.length;rw[cA,cB,nR];omega
theorem fn_of{CX:CXT}{P:aX}{w:bW}{K:aL}{mg:Str->Option aA}{base:Heap}{k:Nat}{f:aB}{name qual:Str}{params:Arguments}{body:List Stmt}{scope:Scope}{dV kV doc pm cdv ct oc:aA}{an od:Option aB}{osl:Array (Option aA)}{N ps:List Str}{sp:Sp}(lk:K.lookup f=some ⟨oc,od,.func (cZ name qual params body scope dV kV doc pm an cdv ct),osl⟩)(hcd:gH K cdv qual=true)(S:FnScope N ps scope)(len:∀vs H Q E,sp vs H Q E->vs.length=ps.length)(hbody:∀(A:bT) (outer:List Env) (s:aC) (H:Hp) (vs:List V) (Q:VK) (E:XK),Room k (A.deeper (mE qual scope s.heap.objs.size f cdv))->sp vs H Q E →
    ∃t,PSs (cxOf CX P w K mg base N qual scope f cdv A outer s H E) body t/\t { nx:=fun _ H'=>Q .non H',rt:=Q } (start N vs) H) :
  FnOk P w K mg base CX (k+1) f (cZ name qual params body scope dV kV doc pm an cdv ct) ps sp:=by
 refine⟨len,fun A outer s H args us vs Q E hr e0 hb r hsp=>?_⟩;have hl:=len _ _ _ _ hsp;have KX:K.In s.heap:=e0.mod.kin.keeps fun b o e=>(e0.bs b o e).1;have lim:s.heap.NoLimit:=e0.mod.nolimit.keeps fun b o e=>(e0.bs b o e).1
 have hkind:∀y∈ps.zip us,scope.names.lookup y.1=some .local\/(scope.names.lookup y.1=some .cell/\((cellsFrom (s.heap.objs.size+1) scope.names []).lookup y.1).isSome=true):=fun⟨n,v⟩ hy=>by
  rcases S.par n (sW hy).1 with q | q
  . exact .inl q
  . exact .inr ⟨q,AE _ _ _ (.inl q)⟩
 refine codeAny_call_function hr.depth (KX _ _ lk) rfl S.co S.gen rfl (PySem.W.codeRec_of KX hcd) (hb _ _ _ _ ?_);refine wpAny_newFunctionEnv_cells S.kind hkind fun env he s1 x=>?_;subst he;refine⟨lim.keeps x.toInCall.keep,codeAny_func ?_⟩;obtain⟨t,ht,hq⟩:=hbody A outer s H vs Q E (hr.deeper _) hsp;have I:Inv (cxOf CX P w K mg base N qual scope f cdv A outer s H E) [] (start N vs) H s1:=QC S hr.hd e0 hl r x;refine dU (ht [] s1 (start N vs) H _ I hq) (fun fl s' hs=>?_) fun e s' hs=>hs
 have fin:∀{σ':St} {H':Hp} {v:V} {u:aA},Inv (cxOf CX P w K mg base N qual scope f cdv A outer s H E) [] σ' H' s'->RelV v u->Q v H'->CE outer P w H s Q u s' :=
  fun {σ' H' v u} J rv q=>⟨v,H',J.os,J.bare,J.base,J.hok,rv,q⟩
 cases fl with
 | ret u =>
   obtain⟨v,σ',H',J,rv,q⟩:=hs;exact fin J rv q
 | next =>
   obtain⟨σ',H',J,q⟩:=hs;exact fin (v:=V.non) (u:=aA.none) J rfl q
 | brk =>
   obtain⟨_,_,_,q⟩:=hs;exact False.elim q
 | cont =>
   obtain⟨_,_,_,q⟩:=hs;exact False.elim q
section
variable{X:Cx}{x:Str}{p pos:Pos}{e:Expr}{es:List Expr}{t:TA}{id T:String}{r:List V->Hp->VK->Prop}
def tCB(r:List V->Hp->VK->Prop)(t:TA):TE:=fun σ H Q=>t σ H fun vs H1=>r vs H1 Q
theorem vH(hc:CallR X (.builtin id) r)(hg:Gl X x)(hm:X.mg x=none)(hv:dW x=some (.builtin id))(ha:PA X (e::es) t)(hn:x≠"__name__":=by decide)(hdb:(x==("__debug__" : Str))=false:=by decide)(he:aJ (e::es) X.env=(false,cC e X.env)::aJ es X.env:=by rfl)(hpl:(cY pos (aJ es X.env)).any (·.1)=false:=by rfl):PE X (.Call (.Name x p) (e::es) [] pos) (tCB r t):=by
 intro aE s σ H Q I h;refine fB (yT I hg hm hv ?_ hn hdb);exact iN (thn (ha pos aE s σ H _ I h) fun us s1 ⟨vs,H1,I1,r1,q1⟩=>hc aE s1 σ H1 vs us Q I1 r1 q1) he hpl
theorem AU(hc:CallR X (.type T) r)(hg:Gl X x)(hm:X.mg x=none)(hv:dW x=some (.type T))(ha:PA X (e::es) t)(hn:x≠"__name__":=by decide)(hdb:(x==("__debug__" : Str))=false:=by decide)(he:aJ (e::es) X.env=(false,cC e X.env)::aJ es X.env:=by rfl)(hpl:(cY pos (aJ es X.env)).any (·.1)=false:=by rfl):PE X (.Call (.Name x p) (e::es) [] pos) (tCB r t):=by
 intro aE s σ H Q I h;refine fB (yT I hg hm hv ?_ hn hdb);exact dA (thn (ha pos aE s σ H _ I h) fun us s1 ⟨vs,H1,I1,r1,q1⟩=>hc aE s1 σ H1 vs us Q I1 r1 q1) he hpl
end
end L2
namespace HT
open PySem PyProof.Rows
section
open PySem.SeqAt
open PySem.AutoSeq1 (wpAny_loadPart')
open PySem.MeetsSeq PySem.MeetsSeq2 PySem.MeetsSeq3
end
section
variable{prog:aX}{w:bW}{A:bT}{E:aA->aC->Prop}{s:aC}
end
end HT
namespace L2
open PySem PySem.Spec PyProof.Rows
abbrev TO:=St->Hp->(Option Int->Hp->Prop)->Prop
def PO(X:Cx)(e:Option Expr)(t:TO):Prop :=
 ∀(aE:List (aB×Obj)) (s:aC) (σ : St) (H:Hp) (Q:Option Int->Hp->Prop),Inv X aE σ H s->t σ H Q →
  bH (aT X.prog X.w) X.A (evalPart e X.env) (fun u s'=>∃o H',Inv X aE σ H' s'/\IsPart u o/\Q o H') X.xe s
def tPart(t:TE):TO:=fun σ H Q=>t σ H fun x H1=>∃i,x=.int i/\Q (some i) H1
theorem JE{ns:List Int}:∀{us:List aA},Vals (ns.map V.int) us->dY us ns:=by
 induction ns with
 |nil=>intro us r;rw[dC] at r;cases r;exact .nil
 | cons n ns ih =>
   intro us r;rw[bA] at r;cases r with
   | cons r1 r2 =>
     obtain⟨t,e⟩:=r1;subst e;exact .cons n t (ih r2)
section
variable{X:Cx}{e:Expr}{te:TE}{lo hi:Option Expr}{tl th:TO}{pos p2:Pos}
theorem po_some(h:PE X e te):PO X (some e) (tPart te):=by
 intro aE s σ H Q I hw;rw[evalPart_some];refine thn (h aE s σ H _ I hw) fun u s1 zq=>?_;obtain⟨x,H1,I1,r1,q1⟩:=zq;obtain⟨i,rfl,q⟩:=q1;obtain⟨t,rfl⟩:=r1;exact⟨some i,H1,I1,.int i t,q⟩
def SlR(X:Cx)(r:V->Option Int->Option Int->Hp->VK->Prop):Prop :=
 ∀(aE:List (aB×Obj)) (s:aC) (σ : St) (H:Hp) (x:V) (v vl vu:aA) (lo hi:Option Int) (sl:aB) (Q:VK),Inv X aE σ H s->RelV x v->s.heap.IsSliceOf sl vl vu .none->IsPart vl lo->IsPart vu hi->r x lo hi H Q →
  ∃T id,sL (.type T) "__getitem__" = pure (some (.builtin id))/\s.TypeIs v T/\bH (aT X.prog X.w) X.A (DU v (.ref sl)) (EP X aE σ Q) X.xe s
def tSl(r:V->Option Int->Option Int->Hp->VK->Prop)(te:TE)(tl th:TO):TE:=fun σ H Q=>te σ H fun x H1=>tl σ H1 fun l H2=>th σ H2 fun u H3=>r x l u H3 Q
theorem UU{r:V->Option Int->Option Int->Hp->VK->Prop}(hr:SlR X r)(he:PE X e te)(hl:PO X lo tl)(hu:PO X hi th):PE X (.Subscript e (.Slice lo hi none p2) pos) (tSl r te tl th):=by
 intro aE s σ H Q I h;refine Subscript_ (thn (he aE s σ H _ I h) fun v s1 zq=>?_);obtain⟨x,H1,I1,r1,q1⟩:=zq;refine wpAny_Slice (thn (hl aE s1 σ H1 _ I1 q1) fun vl s2 ⟨l,H2,I2,pl,q2⟩=>thn (hu aE s2 σ H2 _ I2 q2) fun vu s3 zq=>?_);obtain⟨u,H3,I3,pu,q3⟩:=zq;rw[evalPart_none];refine aN ?_;have I4:Inv X aE σ H3 { s3 with heap:=s3.heap.push { cls:=.type "slice",data:=.fields #[vl,vu,.none] } }:=I3.kept (t':=s3.toks) fun b ob q=>aG _ q;obtain⟨T,id,hT,ht,hg⟩:=hr aE { s3 with heap:=s3.heap.push { cls:=.type "slice",data:=.fields #[vl,vu,.none] } } σ H3 x v vl vu l u s3.heap.objs.size Q I4 r1 (Heap.IsSliceOf.new ..) pl pu q3;show bH (aT X.prog X.w) X.A (JU e (.Slice lo hi none p2) v (.ref s3.heap.objs.size)) (EP X aE σ Q) X.xe { s3 with heap:=s3.heap.push { cls:=.type "slice",data:=.fields #[vl,vu,.none] } };exact tail_any (ops:=[.ref s3.heap.objs.size,v]) ht hT hg (by with_unfolding_all rfl)
noncomputable def cutV(xs:List V)(lo hi:Option Int):List V:=(xs.drop (HT.sIx xs.length 0 lo)).take (HT.sIx xs.length xs.length hi-HT.sIx xs.length 0 lo)
theorem GK(xs:List V)(lo hi:Option Int):(cutV xs lo hi).length<=xs.length:=by
 unfold cutV;rw[fQ,sD];omega
end
theorem MH{n:Nat}{i:Int}{j:Nat}(h:ixN n i=some j):seqIndex? i n=some j/\j<n/\-(n:Int)<=i/\i<n:=by
 unfold ixN at h
 by_cases h0:0<=i
 . rw [if_pos h0] at h
   by_cases h1:i<n
   . rw[if_pos h1] at h;have e:i.toNat=j:=Option.some.inj h;exact⟨by rw[YJ h0 h1,e],by omega,by omega,h1⟩
   . rw[if_neg h1] at h;cases h
 . rw [if_neg h0] at h
   by_cases h1 : -(n:Int)<=i
   . rw[if_pos h1] at h;have e:(i+n).toNat=j:=Option.some.inj h;exact⟨by rw[RF (by omega) h1,e],by omega,h1,by omega⟩
   . rw[if_neg h1] at h;cases h
theorem DJ{α : Type}{xs:List α}{i:Int}{v : α}(h:atI xs i=some v):∃j,seqIndex? i xs.length=some j/\xs[j]?=some v/\j<xs.length/\-(xs.length:Int)<=i/\i<xs.length:=by
 unfold atI at h;cases e:ixN xs.length i with
 |none=>rw[e] at h;cases h
 | some j =>
   rw[e] at h;obtain⟨h1,h2,h3,h4⟩:=MH e;exact⟨j,h1,h,h2,h3,h4⟩
def MY(b:Expr):Prop:=∀o i,BU b false o i=operate [o,i] (DU o i)
def IxR(X:Cx)(r:R2):Prop :=
 ∀(value slice:Expr) (aE:List (aB×Obj)) (s:aC) (σ : St) (H:Hp) (x y:V) (v u:aA) (Q:VK),Inv X aE σ H s->RelV x v->RelV y u->r x y H Q →
  BU slice false v u=operate [v,u] (DU v u)->bH (aT X.prog X.w) X.A (JU value slice v u) (EP X aE σ Q) X.xe s
def MtR(X:Cx)(id:String)(r:V->List V->Hp->VK->Prop):Prop :=
 ∀(aE:List (aB×Obj)) (s:aC) (σ : St) (H:Hp) (x:V) (xs:List V) (v:aA) (us:List aA) (Q:VK),Inv X aE σ H s->RelV x v->Vals xs us->r x xs H Q →
  bH (aT X.prog X.w) X.A (call (.builtin id) (v::us)) (EP X aE σ Q) X.xe s
section
variable{X:Cx}{a b:Expr}{ta tb:TE}{pos:Pos}
theorem IxR.or{r r':R2}(h:IxR X r)(h':IxR X r'):IxR X (fun x y H Q=>r x y H Q\/r' x y H Q):=by
 intro value slice aE s σ H x y v u Q I rx ry q hs;rcases q with q | q
 . exact h value slice aE s σ H x y v u Q I rx ry q hs
 . exact h' value slice aE s σ H x y v u Q I rx ry q hs
theorem pe_ix{r:R2}(hr:IxR X r)(ha:PE X a ta)(hb:PE X b tb)(hs:MY b):PE X (.Subscript a b pos) (tOp r ta tb):=by
 intro aE s σ H Q I h;exact Subscript_ (binT ha hb I h fun v u s2 x y H2 I2 rx ry q=>hr a b aE s2 σ H2 x y v u Q I2 rx ry q (hs _ _))
noncomputable def rIxL(K:aL):R2:=fun x y H Q=>∃p xs i v,x=.ref p/\y=.int i/\SqL K H p xs/\atI xs i=some v/\Q v H
noncomputable def rIxT(K:aL):R2:=fun x y H Q=>∃p xs i v,x=.ref p/\y=.int i/\SqT K H p xs/\atI xs i=some v/\Q v H
noncomputable def rIxS:R2:=fun x y H Q=>∃z i c,x=.str z/\y=.int i/\z.length<=sizeLine/\atI z.cps.toList i=some c/\Q (.str ⟨#[c]⟩) H
theorem ix_list:IxR X (rIxL X.K):=by
 intro value slice aE s σ H x y v u Q I rx ry h hs;obtain⟨p,xs,i,z,rfl,rfl,hq,he,q⟩:=h;cases rx;obtain⟨t,rfl⟩:=ry;obtain⟨its,r,pl,hz⟩:=I.list hq;obtain⟨j,h1,h2,h3,h4,h5⟩:=DJ he;obtain⟨w,ew,rw'⟩:=r.get h2;have hl:=r.length;have hn:=pF;have fin:EP X aE σ Q w s:=⟨z,H,I,rw',q⟩
 by_cases h0:0<=i
 . have hj:i.toNat=j:=by
    rw[YJ h0 h5] at h1;exact Option.some.inj h1
   exact item_listR pl.isList h0 (by omega) (by rw[hj];simpa using ew) fin hs
 . have hj:(i+(its.toArray.size:Int)).toNat=j:=by
    rw[RF (by omega) h4] at h1;rw[aU,<- hl];exact Option.some.inj h1
   exact subscriptTail_builtinR (x:=w) pl.isList.typeIs slot_list_getitem.lookup
    (wpAny_getItem_list_neg (Q:=fun r s'=>r=w/\EP X aE σ Q r s') pl.isList (by omega) (by rw[aU]<;>omega) (by omega) (by rw[hj];simpa using ew) ⟨rfl,fin⟩) hs
theorem ix_tup:IxR X (rIxT X.K):=by
 intro value slice aE s σ H x y v u Q I rx ry h hs;obtain⟨p,xs,i,z,rfl,rfl,hq,he,q⟩:=h;cases rx;obtain⟨t,rfl⟩:=ry;obtain⟨its,r,pl,hz⟩:=I.tuple hq;obtain⟨j,h1,h2,h3,h4,h5⟩:=DJ he;obtain⟨w,ew,rw'⟩:=r.get h2;have hl:=r.length;have hn:=pF;have fin:EP X aE σ Q w s:=⟨z,H,I,rw',q⟩
 exact subscriptTail_builtinR (x:=w) pl.typeIs slot_tuple_getitem.lookup
  (getItem_tuple (j:=j) (Q:=fun r s'=>r=w/\EP X aE σ Q r s') pl (by omega) (by omega) (by rw[aU,<- hl];exact h1) (by simpa using ew) ⟨rfl,fin⟩) hs
theorem ix_str:IxR X rIxS:=by
 intro value slice aE s σ H x y v u Q I rx ry h hs;obtain⟨z,i,c,rfl,rfl,hz,he,q⟩:=h;obtain⟨t,rfl⟩:=rx;obtain⟨t',rfl⟩:=ry;obtain⟨j,h1,h2,h3,h4,h5⟩:=DJ he;have hl:z.cps.toList.length=z.length:=by simp[Str.length]
 rw[hl] at h1 h4 h5;have hn:=pF
 exact tail_any (typeIs_str s z t) slot_str_getitem.lookup (getItem_str (c:=c) (by
  have e1:decide (i < -(2 ^ 63:Int))=false:=decide_eq_false (by omega);have e2:decide (i≥2 ^ 63)=false:=decide_eq_false (by omega)
  rw[e1,e2,Bool.or_false]) (by rw[h1];simpa using h2) ⟨.str ⟨#[c]⟩,H,I.tok _,⟨_,rfl⟩,q⟩) hs
noncomputable def rIx(K:aL):R2:=fun x y H Q=>rIxL K x y H Q\/rIxT K x y H Q\/rIxS x y H Q
theorem ix_seq:IxR X (rIx X.K):=ix_list.or (ix_tup.or ix_str)
theorem IX(its:List aA)(n j:Nat)(u:aA):Obj.mapSeq (·.setIfInBounds j u) { cls:=.type "list",data:=.seq its.toArray n }={ cls:=.type "list",data:=.seq (its.set j u).toArray n }:=by
 simp[Obj.mapSeq]
theorem Inv.lst{aE:List (aB×Obj)}{σ : St}{H:Hp}{s:aC}{p:aB}{xs:List V}(I:Inv X aE σ H s)(h:H p=some (.lst xs)) :
  ∃(its:List aA) (n:Nat),Vals xs its/\s.heap.get? p=some { cls:=.type "list",data:=.seq its.toArray n }/\xs.length<=sizeLine:=by
 obtain⟨z,its,n,r,e⟩:=I.hok p _ h;exact⟨its,n,r,e,z⟩
theorem Inv.lstUpd{aE:List (aB×Obj)}{σ : St}{H:Hp}{s:aC}{p:aB}{xs ys:List V}{its its':List aA}{n n':Nat}{f:Obj->Obj}(I:Inv X aE σ H s)(h:H p=some (.lst xs))(ho:s.heap.get? p=some { cls:=.type "list",data:=.seq its.toArray n })(hf:f { cls:=.type "list",data:=.seq its.toArray n }={ cls:=.type "list",data:=.seq its'.toArray n' })(r:Vals ys its')(hz:ys.length<=sizeLine)(t:Nat) :
  Inv X aE σ (upd H p (.lst ys)) { s with heap:=s.heap.update p f,toks:=t }:=by
 have e:(s.heap.update p f).get? p=some { cls:=.type "list",data:=.seq its'.toArray n' }:=by
  rw[dB f ho (by rw[hf]<;>rfl),hf]
 refine I.write (x:=p) (e:=p) (by rw[h];trivial) (.inl rfl) (fun b u hb q=>(bS _ _ (Ne.symm hb)).trans q) ⟨_,e⟩ ?_;exact⟨hz,its',n',r,e⟩
def rSetL:V->V->V->Hp->(Hp->Prop)->Prop:=fun o i v H Q=>∃p xs k j,o=.ref p/\i=.int k/\H p=some (.lst xs)/\ixN xs.length k=some j/\Q (upd H p (.lst (xs.set j v)))
theorem TC:PSet X rSetL:=by
 intro aE s σ H o i v ov iv u Q I ro ri rv h;obtain⟨p,xs,k,j,rfl,rfl,hp,hj,q⟩:=h;cases ro;obtain⟨t,rfl⟩:=ri;obtain⟨its,n,r,ho,hz⟩:=I.lst hp;obtain⟨h1,h2,h3,h4⟩:=MH hj;have hl:=r.length;have hn:=pF
 have I':Inv X aE σ (upd H p (.lst (xs.set j v))) { s with heap:=s.heap.update p (Obj.mapSeq (·.setIfInBounds j u)) }:=
  I.lstUpd hp ho (IX its n j u) (r.set rv j) (by rw[YN];exact hz) s.toks
 by_cases h0:0<=k
 . have hk:k.toNat=j:=by
    rw[YJ h0 h4] at h1;exact Option.some.inj h1
   exact PySem.W.ki_setAt ho h0 (by omega) (by rw[aU,<- hl];exact h4) (by rw[hk];exact⟨_,I',q⟩)
 . have hk:(k+(its.toArray.size:Int)).toNat=j:=by
    rw[RF (by omega) h3] at h1;rw[aU,<- hl];exact Option.some.inj h1
   exact PySem.W.ki_setBack ho (by omega) (by rw[aU,<- hl];exact h3) (by omega) (by rw[hk];exact⟨_,I',q⟩)
theorem BZ(lo hi:Option Int)(n:Nat):(lX lo hi none n).1=((HT.sIx n 0 lo:Nat):Int)/\(lX lo hi none n).2.1=((HT.sIx n n hi:Nat):Int)/\(lX lo hi none n).2.2=1:=by
 refine⟨?_,?_,rfl⟩
 . cases lo with
   |none=>simp[lX,HT.sIx]
   | some i =>
     simp only[lX,HT.sIx,NF,show(1:Int)>0 by decide,if_true]
     by_cases h:i<0
     . simp only[h,if_true]<;>omega
     . simp only[h,if_false]<;>omega
 . cases hi with
   |none=>simp[lX,HT.sIx]
   | some i =>
     simp only[lX,HT.sIx,NF,show(1:Int)>0 by decide,if_true]
     by_cases h:i<0
     . simp only[h,if_true]<;>omega
     . simp only[h,if_false]<;>omega
theorem uQ(its:List aA)(lo hi:Option Int):slicePick its.toArray lo hi none=((its.drop (HT.sIx its.length 0 lo)).take (HT.sIx its.length its.length hi-HT.sIx its.length 0 lo)).toArray:=by
 obtain⟨h1,h2,h3⟩:=BZ lo hi its.toArray.size;unfold slicePick;rw[h1,h2,h3];simp only[sliceRange_one,pick_run,aU]<;>rfl
def rSlL(K:aL):V->Option Int->Option Int->Hp->VK->Prop:=fun x lo hi H Q=>∃a xs,x=.ref a/\SqL K H a xs/\∀p,H p=none->Q (.ref p) (upd H p (.lst (cutV xs lo hi)))
theorem ZN:SlR X (rSlL X.K):=by
 intro aE s σ H x v vl vu lo hi sl Q I rx hs pl pu h;obtain⟨a,xs,rfl,hx,q⟩:=h;cases rx;obtain⟨its,r,ht,hz⟩:=I.list hx;have hlen:=r.length;refine⟨"list",_,slot_list_getitem.lookup,ht.isList.typeIs,?_⟩;refine wpAny_getItem_list_slice ht.isList hs pl pu .none (by simp) ?_ (by rw[aU]<;>omega);rw[uQ,<- hlen];refine⟨.ref s.heap.objs.size,_,I.laid (t':=s.toks) (o:=.lst (cutV xs lo hi)) (fun b ob q=>aG _ q) (aM _) ?_,rfl,q _ (I.hok.fresh (aM _))⟩;exact⟨cT (GK xs lo hi) hz,_,0,(r.drop (HT.sIx xs.length 0 lo)).take (HT.sIx xs.length xs.length hi-HT.sIx xs.length 0 lo),aK _ rfl⟩
noncomputable def flatV:V->Bool
 | .non=>true
 | .bl _=>true
 | .int _=>true
 | .str _=>true
 |_=>false
noncomputable def eqV:V->V->Bool
 | .non,.non=>true
 | .bl a,.bl b=>a==b
 | .bl a,.int b=>(if a then 1 else 0)==b
 | .int a,.bl b=>a==(if b then 1 else 0)
 | .int a,.int b=>a==b
 | .str a,.str b=>a==b
 |_,_=>false
theorem eqAt_V{A:bT}{s:aC}{y x:V}{u v:aA}(ry:RelV y u)(rx:RelV x v)(fy:flatV y=true)(fx:flatV x=true):SeqAt.EqAt A s u v (eqV y x):=by
 cases y with
 | non =>
   cases ry;cases x with
   |non=>cases rx;exact SeqAt.EqAt.same _
   |bl b=>cases rx;exact SeqAt.EqAt.none_bool b
   |int b=>obtain⟨t,rfl⟩:=rx;exact SeqAt.EqAt.none_int b t
   |str b=>obtain⟨t,rfl⟩:=rx;exact SeqAt.EqAt.none_str b t
   |_=>exact absurd (show false=true from fx) cP
 | bl a =>
   cases ry;cases x with
   |non=>cases rx;exact SeqAt.EqAt.bool_none a
   |bl b=>cases rx;exact SeqAt.EqAt.bool_bool a b
   |int b=>obtain⟨t,rfl⟩:=rx;exact SeqAt.EqAt.bool_int a b t
   |str b=>obtain⟨t,rfl⟩:=rx;exact SeqAt.EqAt.bool_str a b t
   |_=>exact absurd (show false=true from fx) cP
 | int a =>
   obtain⟨t',rfl⟩:=ry;cases x with
   |non=>cases rx;exact SeqAt.EqAt.int_none a t'
   |bl b=>cases rx;exact SeqAt.EqAt.int_bool a t' b
   |int b=>obtain⟨t,rfl⟩:=rx;exact SeqAt.EqAt.int_int a t' b t
   |str b=>obtain⟨t,rfl⟩:=rx;exact SeqAt.EqAt.int_str a t' b t
   |_=>exact absurd (show false=true from fx) cP
 | str a =>
   obtain⟨t',rfl⟩:=ry;cases x with
   |non=>cases rx;exact SeqAt.EqAt.str_none a t'
   |bl b=>cases rx;exact SeqAt.EqAt.str_bool a t' b
   |int b=>obtain⟨t,rfl⟩:=rx;exact SeqAt.EqAt.str_int a t' b t
   |str b=>obtain⟨t,rfl⟩:=rx;exact SeqAt.EqAt.str_str a t' b t
   |_=>exact absurd (show false=true from fx) cP
 |_=>exact absurd (show false=true from fy) cP
noncomputable def eqU(x:V)(u:aA):Bool:=match u with
 | .none=>eqV .non x
 | .bool b=>eqV (.bl b) x
 | .int i _=>eqV (.int i) x
 | .str z _=>eqV (.str z) x
 |_=>false
theorem XE{x y:V}{u:aA}(r:RelV y u)(f:flatV y=true):eqU x u=eqV y x:=by
 cases y with
 |non=>cases r;rfl
 |bl b=>cases r;rfl
 |int i=>obtain⟨t,rfl⟩:=r;rfl
 |str z=>obtain⟨t,rfl⟩:=r;rfl
 |_=>exact absurd (show false=true from f) cP
theorem DK{x:V}:∀{xs:List V} {us:List aA},Vals xs us->xs.all flatV=true->us.any (eqU x)=xs.any fun y=>eqV y x
 |_,_,.nil,_=>rfl
 | y :: xs, u :: us, .cons r t, f => by
   rw[pM,cG] at f;rw[gA,gA,XE r f.1,DK t f.2]
theorem vN{A:bT}{s:aC}{x:V}{v:aA}(rx:RelV x v)(fx:flatV x=true):∀{xs:List V} {us:List aA},Vals xs us->xs.all flatV=true->∀u∈us,SeqAt.EqAt A s u v (eqU x u)
 |_,_,.nil,_=>fun u hu=>by cases hu
 | y :: xs, u :: us, .cons r t, f => fun u' hu => by
   rw[pM,cG] at f;rcases aF.mp hu with rfl | hu
   . rw[XE r f.1];exact eqAt_V r rx f.1 fx
   . exact vN rx fx t f.2 u' hu
noncomputable def inV(x:V)(xs:List V):Bool:=xs.any fun y=>eqV y x
noncomputable def rIn(K:aL)(neg:Bool):R2:=fun x y H Q=>∃p xs,y=.ref p/\(SqL K H p xs\/SqT K H p xs)/\flatV x=true/\xs.all flatV=true/\Q (.bl (if neg then !inV x xs else inV x xs)) H
theorem OO:OpR X (eE .In) (rIn X.K false):=by
 intro aE s σ H x y v u Q I rx ry h;obtain⟨p,xs,rfl,hq,fx,fs,q⟩:=h;cases ry;rcases hq with hq | hq
 . obtain⟨its, r, pl, hz⟩ := I.list hq;refine SeqAt.in_listAt (eqU x) pl.isList (fun w hw=>vN rx fx r fs w (by simpa using hw)) ⟨.bl _,H,I,rfl,?_⟩;rw[show its.toArray.any (eqU x)=its.any (eqU x) by simp,DK r fs];exact q
 . obtain⟨its, r, pl, hz⟩ := I.tuple hq;refine SeqAt.in_tupleAt (eqU x) pl (fun w hw=>vN rx fx r fs w (by simpa using hw)) ⟨.bl _,H,I,rfl,?_⟩;rw[show its.toArray.any (eqU x)=its.any (eqU x) by simp,DK r fs];exact q
theorem DI:CallR X (.builtin "len") (fun xs H Q=>∃p ys,xs=[.ref p]/\(SqL X.K H p ys\/SqT X.K H p ys)/\Q (.int ys.length) H):=by
 intro aE s σ H xs us Q I r h;obtain⟨p,ys,rfl,hq,q⟩:=h;obtain⟨u,rfl,rx⟩:=vals1 r;cases rx;have hn:=pF;rcases hq with hq | hq
 . obtain⟨its, r', pl, hz⟩ := I.list hq;have hlen:=r'.length;exact Calls.call_len_list pl.isList (by simp only[aU]<;>omega) ⟨.int ys.length,H,I.tok _,⟨s.toks+1,by rw[aU,hlen]⟩,q⟩
 . obtain⟨its, r', pl, hz⟩ := I.tuple hq;have hlen:=r'.length;exact len_tuple pl (by simp only[aU]<;>omega) ⟨.int ys.length,H,I.tok _,⟨s.toks+1,by rw[aU,hlen]⟩,q⟩
theorem DH:CallR X (.builtin "len") (fun xs H Q=>∃z,xs=[.str z]/\z.length<=sizeLine/\Q (.int z.length) H):=by
 intro aE s σ H xs us Q I r h;obtain⟨z,rfl,hz,q⟩:=h;obtain⟨u,rfl,t,rfl⟩:=vals1 r;have hn:=pF;exact len_str (by omega) ⟨.int z.length,H,I.tok _,⟨_,rfl⟩,q⟩
theorem CallR.or{f:aA}{r r':List V->Hp->VK->Prop}(h:CallR X f r)(h':CallR X f r'):CallR X f (fun xs H Q=>r xs H Q\/r' xs H Q):=by
 intro aE s σ H xs us Q I rs q;rcases q with q | q
 . exact h aE s σ H xs us Q I rs q
 . exact h' aE s σ H xs us Q I rs q
theorem DG:CallR X (.type "list") (fun xs H Q=>∃p ys,xs=[.ref p]/\(SqL X.K H p ys\/SqT X.K H p ys)/\∀l,H l=none->Q (.ref l) (upd H l (.lst ys))):=by
 intro aE s σ H xs us Q I r h;obtain⟨p,ys,rfl,hq,q⟩:=h;obtain⟨u,rfl,rx⟩:=vals1 r;cases rx
 have fin:∀(its:List aA),Vals ys its->ys.length<=sizeLine->∀(h':Heap) (c':Nat),(∀b o',s.heap.get? b=some o'->h'.get? b=some o') →
   h'.get? s.heap.objs.size=some { cls:=.type "list",dict:=none,data:=.seq its.toArray c',slots:=#[] }->EP X aE σ Q (.ref s.heap.objs.size) { s with heap:=h' }:=fun its r' hz h' c' kp e =>
  ⟨.ref s.heap.objs.size,_,I.laid (t':=s.toks) kp (aM _) (show ObjOk X.prog X.w _ h' _ (.lst ys) from ⟨hz,its,c',r',e⟩),rfl,q _ (I.hok.fresh (aM _))⟩
 rcases hq with hq | hq
 . obtain⟨its, r', pl, hz⟩ := I.list hq;have hlen:=r'.length;obtain⟨o,ho,hc,n,hd⟩:=pl.isList;exact call_list_seq p (.inl rfl) ho hc hd (fun h' c' kp e=>fin its r' hz h' c' kp e) (by simp only[aU]<;>omega)
 . obtain⟨its, r', pl, hz⟩ := I.tuple hq;have hlen:=r'.length;obtain⟨o,ho,hc,n,hd⟩:=pl;exact call_list_seq p (.inr rfl) ho hc hd (fun h' c' kp e=>fin its r' hz h' c' kp e) (by simp only[aU]<;>omega)
def tyV(K:aL)(T:String)(x:V)(H:Hp):Prop:=match x with
 | .str _=>T = "str"
 | .int _=>T = "int"
 | .ref p=>(T = "list"/\∃xs,SqL K H p xs)\/(T = "tuple"/\∃o,K.lookup p=some o/\o.cls=.type "tuple"/\o.dict=none) ∨
    (T = "dict"/\((∃kvs,H p=some (.dK kvs))\/∃kvs,H p=some (.dT kvs)))\/(T = "set"/\∃S n,H p=some (.set S n))
 |_=>False
theorem SQ{aE:List (aB×Obj)}{σ : St}{H:Hp}{s:aC}{T:String}{x:V}{v:aA}(I:Inv X aE σ H s)(r:RelV x v)(ty:tyV X.K T x H) :
  s.TypeIs v T/\∀a,v=.ref a->∃ob,s.heap.get? a=some ob/\ob.dict=none:=by
 cases x with
 | str z =>
   obtain⟨t,rfl⟩:=r;cases(show T = "str" from ty);exact⟨typeIs_str s z t,fun _ e=>nomatch e⟩
 | int i =>
   obtain⟨t,rfl⟩:=r;cases(show T = "int" from ty);exact⟨typeIs_int s i t,fun _ e=>nomatch e⟩
 | ref p =>
   cases r;rcases ty with⟨rfl,xs,hq⟩ | ⟨rfl,o,hk,hc,hd⟩ | ⟨rfl,hk⟩ | ⟨rfl,S,n,hk⟩
   . obtain⟨its, _, pl, _⟩ := I.list hq;refine⟨pl.isList.typeIs,fun a e=>?_⟩;cases e;obtain⟨o,n,e,c,hd,_⟩:=pl;exact⟨o,e,hd⟩
   . refine⟨⟨o, I.kIn p o hk, hc⟩, fun a e => ?_⟩;cases e;exact⟨o,I.kIn _ o hk,hd⟩
   . have z:∃o,s.heap.get? p=some o/\o.ExactDict:=by
      rcases hk with⟨kvs,hk⟩ | ⟨kvs,hk⟩
      . obtain⟨_, _, _, _, o, _, _, e, ex, _⟩ := I.hok p _ hk;exact⟨o,e,ex⟩
      . obtain⟨_, _, _, _, o, _, _, e, ex, _⟩ := I.hok p _ hk;exact⟨o,e,ex⟩
     obtain⟨o,e,ex⟩:=z;refine⟨⟨o,e,ex.1⟩,fun a e2=>?_⟩;cases e2;exact⟨o,e,ex.2.1⟩
   . obtain⟨o, _, _, _, e, ex, _⟩ := I.hok p _ hk;refine⟨⟨o,e,ex.1⟩,fun a e2=>?_⟩;cases e2;exact⟨o,e,ex.2.1⟩
 |_=>exact False.elim ty
def tBM0(K:aL)(T:String)(r:V->List V->Hp->VK->Prop)(to:TE):TE:=fun σ H Q=>to σ H fun x H1=>tyV K T x H1/\r x [] H1 Q
def tBM(K:aL)(T:String)(r:V->List V->Hp->VK->Prop)(to:TE)(t:TA):TE:=fun σ H Q=>to σ H fun x H1=>tyV K T x H1/\t σ H1 fun xs H2=>r x xs H2 Q
variable{o e:Expr}{es:List Expr}{to:TE}{t:TA}{name:Str}{apos cpos:Pos}{T id:String}{r:V->List V->Hp->VK->Prop}
theorem pe_bm0(pa:PlainAttrs T)(slot:Slot T name id)(hty:typeOf (.builtin id)=pure (.type "method_descriptor"))(hm:MtR X id r)(ho:PE X o to)(hbase:dH o name X.env (cC o X.env)=cC o X.env:=by rfl)(hline:(apos.endLine==cpos.line)=true:=by rfl):PE X (.Call (.Attribute o name apos) [] [] cpos) (tBM0 X.K T r to):=by
 intro aE s σ H Q I h;refine wpAny_Call_method0_late hbase hline (thn (ho aE s σ H _ I h) fun v s1 zq=>?_);obtain⟨x,H1,I1,r1,ty,q1⟩:=zq;obtain⟨h1,h2⟩:=SQ I1 r1 ty;exact⟨T,id,pa,slot,hty,h1,h2,Calls.callWith_builtin rfl (PySem.evalArgs_none (hm aE s1 σ H1 x [] v [] Q I1 r1 .nil q1))⟩
theorem LP(pa:PlainAttrs T)(slot:Slot T name id)(hty:typeOf (.builtin id)=pure (.type "method_descriptor"))(hm:MtR X id r)(ho:PE X o to)(ha:PA X (e::es) t)(hbase:dH o name X.env (cC o X.env)=cC o X.env:=by rfl)(hfew:((cY cpos (aJ (e::es) X.env)).all (fun x=>!x.1)&&(lY cpos (gD [] X.env)).all (fun x=>x.1.isSome)
    && decide ((e::es).length+([]:List iM).length+(if ([]:List iM).isEmpty then 0 else 1)<30))=true:=by rfl)(hline:(apos.endLine==cpos.line)=true:=by rfl)(hs:aJ (e::es) X.env=(false,cC e X.env)::aJ es X.env:=by rfl)(hplain:(cY cpos (aJ es X.env)).any (·.1)=false:=by rfl) :
  PE X (.Call (.Attribute o name apos) (e::es) [] cpos) (tBM X.K T r to t):=by
 intro aE s σ H Q I h;refine wpAny_Call_method_late hbase hfew hline rfl (thn (ho aE s σ H _ I h) fun v s1 zq=>?_);obtain⟨x,H1,I1,r1,ty,q1⟩:=zq;obtain⟨h1,h2⟩:=SQ I1 r1 ty;refine⟨T,id,pa,slot,hty,h1,h2,?_⟩;have hA:=ha cpos aE s1 σ H1 _ I1 q1;rw[hs] at hA ⊢;refine Calls.callWith_builtin (by show(false||(cY cpos (aJ es X.env)).any (·.1))=false;rw[hplain]<;>rfl) (Calls.evalArgs_plain ?_);exact thn hA fun us s2 ⟨vs,H2,I2,r2,q2⟩=>hm aE s2 σ H2 x vs v us Q I2 r1 r2 q2
/- xs.append(e),list.index on a module's tuple .. are MtR facts of 06m -/
end
def MtM(X:Cx)(id:String)(r:V->List V->Hp->VK->Prop):Prop :=
 ∀(aE:List (aB×Obj)) (s:aC) (σ : St) (H:Hp) (x:V) (xs:List V) (v:aA) (us:List aA) (Q:VK),Inv X aE σ H s->RelV x v->Vals xs us->r x xs H Q →
  bH (aT X.prog X.w) X.A (call (.builtin id) (v::us)) (EP X aE σ Q) X.xe s
theorem Vals.one:∀{x:V} {us:List aA},Vals [x] us->∃u,us=[u]/\RelV x u
 |_,_,.cons r .nil=>⟨_,rfl,r⟩
theorem Vals.zero:∀{us:List aA},Vals [] us->us=[]
 |_,.nil=>rfl
theorem Vals.reverse{xs:List V}{us:List aA}(h:Vals xs us):Vals xs.reverse us.reverse:=by
 induction h with
 |nil=>exact .nil
 |cons r t ih=>rw[mL,mL];exact Vals.append ih (.cons r .nil)
section
variable{X:Cx}{aE:List (aB×Obj)}{σ : St}{H:Hp}{s:aC}{l b:aB}{xs ys zs:List V}
theorem Inv.lset{its its':List aA}{n:Nat}{f:Array aA->Array aA}{t':Nat}(I:Inv X aE σ H s)(hH:H l=some (.lst xs))(e:s.heap.get? l=some { cls:=.type "list",data:=.seq its.toArray n })(hf:f its.toArray=its'.toArray)(hv:Vals ys its')(hz:ys.length<=sizeLine) :
  Inv X aE σ (upd H l (.lst ys)) { s with heap:=s.heap.update l (Obj.mapSeq f),toks:=t' }:=by
 have q:=PySem.IsL.update e f;rw[hf] at q;refine I.write (x:=l) (e:=l) (by rw[hH];exact trivial) (.inl rfl) (fun b' u hb hu=>(bS s.heap (Obj.mapSeq f) (Ne.symm hb)).trans hu) ⟨_,q⟩ ?_;exact⟨hz,its',_,hv,q⟩
theorem Inv.lnew{its:List aA}{t':Nat}(I:Inv X aE σ H s)(hv:Vals ys its)(hz:ys.length<=sizeLine) :
  Inv X aE σ (upd H s.heap.objs.size (.lst ys)) { s with heap:=s.heap.push { cls:=.type "list",data:=.seq its.toArray },toks:=t' }:=
 I.laid (fun _ _ q=>aG _ q) (aM _) ⟨hz,its,0,hv,aK _ rfl⟩
theorem Inv.fresh(I:Inv X aE σ H s):H s.heap.objs.size=none:=I.hok.fresh (aM _)
theorem Inv.lstM(I:Inv X aE σ H s)(hH:H l=some (.lst xs)):xs.length<=sizeLine/\∃(its:List aA) (n:Nat),Vals xs its/\xs.length=its.length/\s.heap.get? l=some { cls:=.type "list",data:=.seq its.toArray n }:=by
 obtain⟨z,its,n,r,e⟩:=I.hok l _ hH;exact⟨z,its,n,r,r.length,e⟩
theorem VM{n:Nat}(h:n<=sizeLine):Builtin.List.listTooLong n=false:=by
 unfold Builtin.List.listTooLong;exact decide_eq_false (by omega)
end
section
variable{X:Cx}
def ZX:V->List V->Hp->VK->Prop:=fun x vs H Q=>∃l xs y,x=.ref l/\vs=[y]/\H l=some (.lst xs)/\xs.length<sizeLine/\Q .non (upd H l (.lst (xs++[y])))
theorem AZ:MtM X "list.append" ZX:=by
 intro aE s σ H x vs v us Q I rx rv h;obtain⟨l,xs,y,rfl,rfl,hH,hz,q⟩:=h;cases rx;obtain⟨u,rfl,ru⟩:=rv.one;obtain⟨z,its,n,r,hl,e⟩:=I.lstM hH;refine call_meets F.slot_list_append ⟨_,e,rfl⟩ F.entry_list_append (F.args_list_append_2 _ _) (PySem.list_append l its.toArray n u (by rw[aU];omega)) ⟨e,?_⟩;refine⟨.non,_,I.lset (its':=its++[u]) hH e (by simp) (r.append (.cons ru .nil)) ?_,rfl,q⟩;rw[cA,nQ];omega
def ZW:V->List V->Hp->VK->Prop:=fun x vs H Q=>∃l b xs zs,x=.ref l/\vs=[.ref b]/\H l=some (.lst xs)/\H b=some (.lst zs)/\xs.length+zs.length<=sizeLine/\Q .non (upd H l (.lst (xs++zs)))
theorem PH:MtM X "list.extend" ZW:=by
 intro aE s σ H x vs v us Q I rx rv h;obtain⟨l,b,xs,zs,rfl,rfl,hH,hB,hz,q⟩:=h;cases rx;obtain⟨u,rfl,ru⟩:=rv.one;cases ru;obtain⟨z,its,n,r,hl,e⟩:=I.lstM hH;obtain⟨z2,its2,n2,r2,hl2,e2⟩:=I.lstM hB;have hsz:its.toArray.size+its2.toArray.size<=sizeLine:=by rw[aU,aU];omega
 have hlong : ¬(!its.toArray.isEmpty&&Builtin.List.listTooLong (its.toArray.size+its2.toArray.size))=true:=by
  rw[VM hsz,Bool.and_false];exact cP
 refine call_meets F.slot_list_extend ⟨_,e,rfl⟩ F.entry_list_extend (F.args_list_extend_2 _ _)
  (AutoSeq1.list_extend_list_list_0 l its.toArray n b its2.toArray n2 hlong (by rw[aU];omega) (by omega)) ⟨e,e2,?_⟩
 refine⟨.non,_,I.lset (its':=its++its2) hH e (by simp) (r.append r2) ?_,rfl,q⟩;rw[cA];omega
def rClear:V->List V->Hp->VK->Prop:=fun x vs H Q=>∃l xs,x=.ref l/\vs=[]/\H l=some (.lst xs)/\Q .non (upd H l (.lst []))
theorem VY:MtM X "list.clear" rClear:=by
 intro aE s σ H x vs v us Q I rx rv h;obtain⟨l,xs,rfl,rfl,hH,q⟩:=h;cases rx;have hus:=rv.zero;subst hus;obtain⟨z,its,n,r,hl,e⟩:=I.lstM hH;refine call_meets F.slot_list_clear ⟨_,e,rfl⟩ F.entry_list_clear (F.args_list_clear_1 _) (AutoSeq1.list_clear_list_0 l its.toArray n (by rw[aU];omega)) ⟨e,?_⟩;exact⟨.non,_,I.lset (its':=[]) (ys:=[]) hH e rfl .nil (bY _),rfl,q⟩
end
section
variable{prog:aX}{w:bW}{A:bT}{E:aA->aC->Prop}{s:aC}
end
section
variable{X:Cx}
end
section
variable{κ : Type}[DecidableEq κ]
noncomputable def valV(kvs:List (κ×V))(k : κ):Option V:=(kvs.find? fun kv=>decide (kv.1=k)).map (·.2)
noncomputable def putK(kvs:List (κ×V))(k : κ)(v:V):List (κ×V):=
 if (kvs.any fun kv=>decide (kv.1=k))=true then kvs.map (fun kv=>if kv.1=k then (kv.1,v) else kv) else kvs++[(k,v)]
theorem wI{p : κ×V}{r:List (κ×V)}{k : κ}(e:p.1=k):valV (p::r) k=some p.2:=by simp[valV,eL,e]
theorem vM{p : κ×V}{r:List (κ×V)}{k : κ}(e : ¬p.1=k):valV (p::r) k=valV r k:=by simp[valV,eL,e]
theorem kB(k : κ):∀kvs:List (κ×V),(kvs.any fun kv=>decide (kv.1=k))=(valV kvs k).isSome
 |[]=>rfl
 | p :: r => by
   rw[gA]
   by_cases e:p.1=k
   . simp only[wI e,decide_eq_true e,Bool.true_or,Option.isSome_some]
   . rw[vM e,decide_eq_false e,Bool.false_or];exact kB k r
theorem rX(kvs:List (κ×V))(k : κ)(v:V):(putK kvs k v).length<=kvs.length+1:=by
 unfold putK
 split
 . rw[cB];omega
 . rw[cA,aO,sX];omega
theorem wJ{kvs:List (κ×V)}{k : κ}(v:V)(h:valV kvs k=none):putK kvs k v=kvs++[(k,v)]:=by
 unfold putK;rw[kB,h];exact if_neg (by decide)
theorem RelO.isSome_eq{o:Option V}{u:Option aA}(r:RelO o u):o.isSome=u.isSome:=by
 cases o with
 | none => cases u with
   |none=>rfl
   |some _=>exact(show False from r).elim
 | some _ => cases u with
   |none=>exact(show False from r).elim
   |some _=>rfl
theorem RelO.getD{o:Option V}{u:Option aA}{d:V}{d':aA}(r:RelO o u)(rd:RelV d d'):RelV (o.getD d) (u.getD d'):=by
 cases o with
 | none => cases u with
   |none=>exact rd
   |some _=>exact(show False from r).elim
 | some _ => cases u with
   |none=>exact(show False from r).elim
   |some _=>exact r
theorem KV.val{kvs:List (κ×V)}{vs:List (κ×aA)}(r:KV kvs vs)(k : κ):RelO (valV kvs k) (tZ vs k):=by
 unfold KV at r
 induction r with
 |nil=>exact True.intro
 | @cons p q ps qs h t ih =>
   obtain⟨h1,h2⟩:=h
   by_cases e:p.1=k
   . have e' : q.1 = k := h1.symm.trans e;have b:tZ (q::qs) k=some q.2:=by simp [tZ,eL,e']
     rw[wI e,b];exact h2
   . have e' : ¬ q.1 = k := fun z => e (h1.trans z);have b:tZ (q::qs) k=tZ qs k:=by simp [tZ,eL,e']
     rw[vM e,b];exact ih
theorem KV.any{kvs:List (κ×V)}{vs:List (κ×aA)}(r:KV kvs vs)(k : κ):(kvs.any fun kv=>decide (kv.1=k))=vs.any fun kv=>decide (kv.1=k):=by
 unfold KV at r
 induction r with
 |nil=>rfl
 |cons h t ih=>rw[gA,gA,ih,h.1]
theorem KV.repl{kvs:List (κ×V)}{vs:List (κ×aA)}(r:KV kvs vs)(k : κ){y:V}{u:aA}(ry:RelV y u) :
  KV (kvs.map fun kv=>if kv.1=k then (kv.1,y) else kv) (vs.map fun kv=>if kv.1=k then (kv.1,u) else kv):=by
 unfold KV at r ⊢
 induction r with
 |nil=>exact .nil
 | @cons p q ps qs h t ih =>
   rw[bA,bA];refine .cons ?_ ih;obtain⟨h1,h2⟩:=h
   by_cases e:p.1=k
   . rw[if_pos e,if_pos (h1.symm.trans e)];exact⟨h1,ry⟩
   . rw[if_neg e,if_neg (fun z=>e (h1.trans z))];exact⟨h1,h2⟩
theorem KV.put{kvs:List (κ×V)}{vs:List (κ×aA)}(r:KV kvs vs)(k : κ){y:V}{u:aA}(ry:RelV y u):KV (putK kvs k y) (stored vs k u):=by
 unfold putK stored;rw[r.any k]
 by_cases e:(vs.any fun kv=>decide (kv.1=k))=true
 . rw[if_pos e,if_pos e];exact r.repl k ry
 . rw[if_neg e,if_neg e];exact AI.snoc r ⟨rfl,ry⟩
theorem KV.length{kvs:List (κ×V)}{vs:List (κ×aA)}(r:KV kvs vs):kvs.length=vs.length:=AI.length r
end
theorem FU{P:aX}{w:bW}{k:Key}{u:aA}(r:RelV (kV k) u):(eW P w).is k u=true:=by
 rcases k with(_ | i) | x
 . cases(show u=aA.none from r);rfl
 . obtain⟨t,rfl⟩:=(show ∃t,u=aA.int i t from r);simp[eW,keyIs,aA.isInt]
 . obtain⟨t,rfl⟩:=(show ∃t,u=aA.str x t from r);simp[eW,keyIs,aA.isStrOf]
theorem BE{P:aX}{w:bW}:∀{ks:List Key} {us:List aA},Vals (ks.map kV) us->ItemsAre (eW P w) ks us
 |[],_,r=>by rw[dC] at r;cases r;exact .nil
 | k :: ks, _, r => by
   rw[bA] at r;cases r with
   |cons h t=>exact .cons (FU h) (BE t)
abbrev KT(H:Hp):List (List Key×V)->List (List Key×aB×aA)->Prop:=AI fun p q=>p.1=q.1/\H q.2.1=some (.tup (p.1.map kV))/\RelV p.2 q.2.2
theorem KT.val{H:Hp}{kvs:List (List Key×V)}{xs:List (List Key×aB×aA)}(r:KT H kvs xs)(k:List Key):RelO (valV kvs k) ((HE xs k).map (·.2)):=by
 induction r with
 |nil=>exact True.intro
 | @cons p q ps qs h t ih =>
   obtain⟨h1,_,h2⟩:=h
   by_cases e:p.1=k
   . have e' : q.1 = k := h1.symm.trans e;have b:HE (q::qs) k=some q.2:=by simp [HE,eL,e']
     rw[wI e,b];exact h2
   . have e' : ¬ q.1 = k := fun z => e (h1.trans z);have b:HE (q::qs) k=HE qs k:=by simp [HE,eL,e']
     rw[vM e,b];exact ih
theorem KT.repl{H:Hp}{kvs:List (List Key×V)}{xs:List (List Key×aB×aA)}(r:KT H kvs xs)(k:List Key){y:V}{u:aA}(ry:RelV y u) :
  KT H (kvs.map fun kv=>if kv.1=k then (kv.1,y) else kv) (xs.map (putAt k u)):=by
 induction r with
 |nil=>exact .nil
 | @cons p q ps qs h t ih =>
   rw[bA,bA];refine .cons ?_ ih;obtain⟨h1,h2,h3⟩:=h;unfold putAt
   by_cases e:p.1=k
   . rw[if_pos e,if_pos (h1.symm.trans e)];exact⟨h1,h2,ry⟩
   . rw[if_neg e,if_neg (fun z=>e (h1.trans z))];exact⟨h1,h2,h3⟩
theorem KT.put{H:Hp}{kvs:List (List Key×V)}{xs:List (List Key×aB×aA)}(r:KT H kvs xs)(k:List Key){b:aB}{y:V}{u:aA}(hb:H b=some (.tup (k.map kV)))(ry:RelV y u) :
  KT H (putK kvs k y) (storedH xs k b u):=by
 have e:(kvs.any fun kv=>decide (kv.1=k))=(HE xs k).isSome:=by
  rw[kB,(r.val k).isSome_eq,JX]
 unfold putK storedH;rw[e]
 by_cases q:(HE xs k).isSome=true
 . rw[if_pos q,if_pos q];exact r.repl k ry
 . rw[if_neg q,if_neg q];exact AI.snoc r ⟨rfl,hb,ry⟩
theorem KT.keeps{H H':Hp}{kvs:List (List Key×V)}{xs:List (List Key×aB×aA)}(r:KT H kvs xs)(ht:∀b ys,H b=some (.tup ys)->H' b=some (.tup ys)):KT H' kvs xs :=
 AI.mapP r fun _ _ z=>⟨z.1,ht _ _ z.2.1,z.2.2⟩
section
variable{P:aX}{w:bW}{H:Hp}{h:Heap}{a:aB}
theorem rd_of{u:HO}(ok:HOk P w H h)(e:Rd H a u):ObjOk P w H h a u:=e.ok ok
theorem BM{kvs:List (Key×V)}(ok:HOk P w H h)(e:Rd H a (.dK kvs)):kvs.length<=sizeLine/\(a==gF)=false/\∃vs,KV kvs vs/\h.DictOf (eW P w) a vs :=
 show ObjOk P w H h a (.dK kvs) from rd_of ok e
theorem dk_of{kvs:List (Key×V)}(ok:HOk P w H h)(e:H a=some (.dK kvs)):kvs.length<=sizeLine/\(a==gF)=false/\∃vs,KV kvs vs/\h.DictOf (eW P w) a vs:=BM ok (.inl e)
theorem kG{ks:List Key}(ok:HOk P w H h)(e:H a=some (.tup (ks.map kV))):(rD (eW P w)).is h ks a:=by
 obtain⟨_,its,r,o,h1,h2,n,h3⟩:=(show ObjOk P w H h a (.tup (ks.map kV)) from ok a _ e)
 exact⟨o,its.toArray,n,h1,h2,h3,by simpa using BE r⟩
theorem BL{kvs:List (List Key×V)}(ok:HOk P w H h)(e:Rd H a (.dT kvs)):kvs.length<=sizeLine/\(a==gF)=false ∧
  ∃xs,KT H kvs xs/\h.DictOfH (rD (eW P w)) a xs:=by
 obtain⟨z,y,xs,r,o,es,ep,h1,h2,h3,h4,h5⟩:=(show ObjOk P w H h a (.dT kvs) from rd_of ok e)
 refine⟨z,y,xs,r,o,es,ep,h1,h2,h3,h4,fun x hx=>?_,h5⟩
 have all:∀{l:List (List Key×V)} {m:List (List Key×aB×aA)},KT H l m->∀x∈m,(rD (eW P w)).is h x.1 x.2.1:=by
  intro l m q
  induction q with
  |nil=>intro x hx;exact nomatch hx
  | @cons p q ps qs hq t ih =>
    intro x hx;rcases aF.mp hx with e | hx
    . subst e;exact kG ok (by rw[<- hq.1];exact hq.2.1)
    . exact ih x hx
 exact all r x hx
theorem dt_of{kvs:List (List Key×V)}(ok:HOk P w H h)(e:H a=some (.dT kvs)):kvs.length<=sizeLine/\(a==gF)=false ∧
  ∃xs,KT H kvs xs/\h.DictOfH (rD (eW P w)) a xs:=BL ok (.inl e)
end
def DGet(H:Hp)(a:aB)(y:V)(r:Option V):Prop :=
 (∃kvs k,Rd H a (.dK kvs)/\y=kV k/\r=valV kvs k)\/∃kvs k b,Rd H a (.dT kvs)/\y=.ref b/\H b=some (.tup (k.map kV))/\r=valV kvs k
def DPut(H:Hp)(a:aB)(y v:V)(H':Hp):Prop :=
 (∃kvs k,H a=some (.dK kvs)/\y=kV k/\kvs.length<sizeLine/\H'=upd H a (.dK (putK kvs k v))) ∨
 ∃kvs k b,H a=some (.dT kvs)/\y=.ref b/\H b=some (.tup (k.map kV))/\kvs.length<sizeLine/\H'=upd H a (.dT (putK kvs k v))
theorem DGet.t{H:Hp}{a b:aB}{kvs:List (List Key×V)}{k:List Key}(e:H a=some (.dT kvs))(eb:H b=some (.tup (k.map kV))):DGet H a (.ref b) (valV kvs k):=.inr ⟨kvs,k,b,.inl e,rfl,eb,rfl⟩
theorem DPut.k{H:Hp}{a:aB}{kvs:List (Key×V)}{k:Key}{v:V}(e:H a=some (.dK kvs))(hl:kvs.length<sizeLine):DPut H a (kV k) v (upd H a (.dK (putK kvs k v))):=.inl ⟨kvs,k,e,rfl,hl,rfl⟩
theorem DPut.t{H:Hp}{a b:aB}{kvs:List (List Key×V)}{k:List Key}{v:V}(e:H a=some (.dT kvs))(eb:H b=some (.tup (k.map kV)))(hl:kvs.length<sizeLine) :
  DPut H a (.ref b) v (upd H a (.dT (putK kvs k v))):=.inr ⟨kvs,k,b,e,rfl,eb,hl,rfl⟩
section
variable{X:Cx}{aE:List (aB×Obj)}{σ : St}{H:Hp}{s:aC}{a:aB}{y v:V}{u r:aA}{o:Option V}{A:bT}{E:aA->aC->Prop}
theorem Inv.big(I:Inv X aE σ H s):gF<s.heap.objs.size:=by
 have h:aS<s.heap.objs.size:=(I.mod.glob.keeps I.bk).lt;exact HH (by decide) h
theorem QT{Q:aA->aC->Prop}(hu:A.units+1<cLine)(I:Inv X aE σ H s)(g:DGet H a y (some v))(ry:RelV y u)(h:∀w' s',Inv X aE σ H s'->RelV v w'->Q w' s') :
  bH (aT X.prog X.w) A (DU (.ref a) u) Q E s:=by
 rcases g with⟨kvs,k,e,ey,l⟩ | ⟨kvs,k,b,e,ey,eb,l⟩
 . subst ey;obtain⟨z,hd,vs,rel,dd⟩:=BM I.hok e;obtain⟨w',hw,rw'⟩:=RelO.some_of (v:=v) (o:=tZ vs k) (by rw[l];exact rel.val k);exact wpAny_getItem_of (FU ry) dd.mapOf hw (h w' _ (I.tok _) rw')
 . subst ey;cases(show u=aA.ref b from ry);obtain⟨z,hd,xs,rel,dd⟩:=BL I.hok e;obtain⟨w',hw,rw'⟩:=RelO.some_of (v:=v) (o:=(HE xs k).map (·.2)) (by rw[l];exact rel.val k);obtain⟨p,hp,hp2⟩:=BV.mp hw;refine wpAny_getItem_heap (mR hu) (kG I.hok eb) dd hp ?_;rw[hp2];exact h w' _ (I.tok _) rw'
theorem d_notIn{Q:aA->aC->Prop}(hu:A.units+1<cLine)(I:Inv X aE σ H s)(g:DGet H a y o)(ry:RelV y u)(h:∀s',Inv X aE σ H s'->Q (.bool (!o.isSome)) s') :
  bH (aT X.prog X.w) A (eE .NotIn u (.ref a)) Q E s:=by
 rcases g with⟨kvs,k,e,ey,l⟩ | ⟨kvs,k,b,e,ey,eb,l⟩
 . subst ey;obtain⟨z,hd,vs,rel,dd⟩:=BM I.hok e;refine wpAny_notIn_of (FU ry) hd dd.mapOf ?_;rw[<- (rel.val k).isSome_eq,<- l];exact h _ (I.tok _)
 . subst ey;cases(show u=aA.ref b from ry);obtain⟨z,hd,xs,rel,dd⟩:=BL I.hok e;refine wpAny_notIn_heap (mR hu) (kG I.hok eb) hd dd ?_;have q:=(rel.val k).isSome_eq;rw[JX] at q;rw[<- q,<- l];exact h _ (I.tok _)
theorem DC{h':Heap}{t':Nat}{ob:HO}(I:Inv X aE σ H s)(mu:Mut (H a))(hs:Heap.SameBut a s.heap h')(he:∃q,h'.get? a=some q)(new:ObjOk X.prog X.w (upd H a ob) h' a ob) :
  Inv X aE σ (upd H a ob) { s with heap:=h',toks:=t' }:=
 I.write (x:=a) (e:=a) mu (.inl rfl) (fun b q hb z=>(hs.2 b hb).trans z) he new
theorem dk_new{P:aX}{w:bW}{H':Hp}{h':Heap}{kvs:List (Key×V)}{vs:List (Key×aA)}(z:kvs.length<=sizeLine)(hd:(a==gF)=false)(rel:KV kvs vs)(dd:h'.DictOf (eW P w) a vs) :
  ObjOk P w H' h' a (.dK kvs):=⟨z,hd,vs,rel,dd⟩
theorem QS{H':Hp}{Q:Unit->aC->Prop}(hu:A.units+1<cLine)(I:Inv X aE σ H s)(g:DPut H a y v H')(ry:RelV y u)(rv:RelV v r)(h:∀s',Inv X aE σ H' s'->Q () s') :
  bH (aT X.prog X.w) A (setItem (.ref a) u r) Q E s:=by
 rcases g with⟨kvs,k,e,ey,l,eH⟩ | ⟨kvs,k,b,e,ey,eb,l,eH⟩
 . subst ey eH;obtain ⟨z,hd,vs,rel,dd⟩:=dk_of I.hok e;have hz:vs.length<=sizeLine:=by rw [<- rel.length]; exact z
   have hl:(putK kvs k v).length<=sizeLine:=by have:=rX kvs k v;omega
   refine wpAny_setItem_pairs (hsz:=hz) (FU ry) dd fun h' dd' hs=>h _ ?_;have he:∃q,h'.get? a=some q:=let ⟨q,_,_,hq,_⟩:=dd';⟨q,hq⟩;exact DC I (by rw[e];exact True.intro) hs he (dk_new hl hd (rel.put k rv) dd')
 . subst ey eH;cases (show u=aA.ref b from ry);obtain ⟨z,hd,xs,rel,dd⟩:=dt_of I.hok e;have hz:xs.length<=sizeLine:=by rw [<- AI.length rel]; exact z
   have hl:(putK kvs k v).length<=sizeLine:=by have:=rX kvs k v;omega
   refine wpAny_setItem_heap (hsz:=hz) (mR hu) (kG I.hok eb) dd fun h' dd' hs=>h _ ?_;obtain⟨q,es,ep,hq,h2,h3,h4,_,h5⟩:=dd';refine DC I (by rw[e];exact True.intro) hs ⟨q,hq⟩ ⟨hl,hd,_,(rel.put k eb rv).keeps fun c ys ec=>?_,q,es,ep,hq,h2,h3,h4,h5⟩;rw[upd_ne (ne_of ec e (fun z=>nomatch z))];exact ec
end
section
variable{X:Cx}{aE:List (aB×Obj)}{σ : St}{H:Hp}{s:aC}{a:aB}{kvs:List (Key×V)}{k:Key}{u:aA}{A:bT}{E:aA->aC->Prop}
end
def NoSl(i:Expr):Prop:=∀ov iv,BU i false ov iv=operate [ov,iv] (DU ov iv)
theorem ZK{prog:aX}{w:bW}{A:bT}{E:aA->aC->Prop}{s:aC}{env:Env}{value slice:Expr}{pos:Pos}{T id:String}{Q:aA->aC->Prop}(hl:sL (.type T) "__getitem__" = pure (some (.builtin id)))(hs:NoSl slice)(h:bH (aT prog w) A (cC value env) (fun o s₁=>bH (aT prog w) A (cC slice env) (fun i s₂=>s₂.TypeIs o T/\bH (aT prog w) A (DU o i) Q E s₂) E s₁) E s) :
  bH (aT prog w) A (cC (.Subscript value slice pos) env) Q E s:=by
 refine Subscript_ (dU h (fun o s₁ h₁=>dU h₁ (fun i s₂ h₂=>?_) fun _ _ x=>x) fun _ _ x=>x);obtain⟨hT,h₂⟩:=h₂;unfold JU;refine aD ?_;rw[getitemInPython_of_ne hT.not_modules];refine aD (iS hT hl ?_)
 have fin:bH (aT prog w) A (BU slice false o i) (fun r s₃=>bH (aT prog w) A (letTemporaryGo value o r >>= fun _=>pure r) Q E s₃) E s₂:=by
  rw[hs o i];exact wpAny_operating (dU h₂ (fun r s₃ h₃=>aD (wpAny_letTemporaryGo (aN h₃))) fun _ _ x=>x)
 first
  |exact aN (aD fin)
  |exact aD (aN (aD fin))
  |exact aD fin
theorem GJ{X:Cx}{aE:List (aB×Obj)}{σ : St}{H:Hp}{s:aC}{a:aB}{y:V}{o:Option V}(I:Inv X aE σ H s)(g:DGet H a y o):s.TypeIs (.ref a) "dict":=by
 rcases g with⟨kvs,k,e,_,_⟩ | ⟨kvs,k,b,e,_,_,_⟩
 . obtain⟨_, _, vs, _, dd⟩ := BM I.hok e;exact dd.typeIs
 . obtain⟨_, _, xs, _, dd⟩ := BL I.hok e;exact dd.typeIs
def tDGet(td ty:TE):TE:=fun σ H Q=>td σ H fun x H1=>ty σ H1 fun y H2=>∃a v,x=.ref a/\DGet H2 a y (some v)/\Q v H2
def ZJ(ty td:TE):TE:=fun σ H Q=>ty σ H fun y H1=>td σ H1 fun x H2=>∃a o,x=.ref a/\DGet H2 a y o/\Q (.bl (!o.isSome)) H2
def sDPut(td ty tv:TE):TS:=fun D σ H=>tv σ H fun v H1=>td σ H1 fun x H2=>ty σ H2 fun y H3=>∃a H4,x=.ref a/\DPut H3 a y v H4/\D.nx σ H4
section
variable{X:Cx}{o i e value:Expr}{pos pos' tpos:Pos}{td ty tv:TE}
theorem pe_dget(hu:X.A.units+1<cLine)(ho:PE X o td)(hi:PE X i ty)(hs:NoSl i):PE X (.Subscript o i pos) (tDGet td ty):=by
 intro aE s σ H Q I h;refine ZK PySem.F.slot_dict_getitem.lookup hs (thn (ho aE s σ H _ I h) fun u s1 ⟨x,H1,I1,rx,q1⟩=>thn (hi aE s1 σ H1 _ I1 q1) fun iv s2 zq=>?_);obtain⟨y,H2,I2,ry,a,v,ex,g,q2⟩:=zq;subst ex;obtain rfl:u=aA.ref a:=rx;exact⟨GJ I2 g,QT hu I2 g ry fun w' s3 I3 rw'=>⟨v,H2,I3,rw',q2⟩⟩
theorem OL(hu:X.A.units+1<cLine)(hi:PE X i ty)(ho:PE X o td):PC X .NotIn i o (ZJ ty td):=by
 intro aE s σ H Q I h;refine thn (hi aE s σ H _ I h) fun iv s1 ⟨y,H1,I1,ry,q1⟩=>thn (ho aE s1 σ H1 _ I1 q1) fun u s2 zq=>?_;obtain⟨x,H2,I2,rx,a,ov,ex,g,q2⟩:=zq;subst ex;obtain rfl:u=aA.ref a:=rx;exact d_notIn hu I2 g ry fun s3 I3=>⟨.bl (!ov.isSome),H2,I3,rfl,q2⟩
theorem LJ(hu:X.A.units+1<cLine)(ho:PE X o td)(hi:PE X i ty)(hv:PE X value tv)(hs:eQ value (some (.Subscript o i pos')) pos.line X.env=pure false) :
  PS X (.Assign [.Subscript o i pos'] value pos) (sDPut td ty tv):=by
 intro aE s σ H D I h;refine wpAny_Assign_Subscript (thn (hv aE s σ H _ I h) fun r s1 ⟨v,H1,I1,rv,q1⟩=>thn (ho aE s1 σ H1 _ I1 q1) fun u s2 ⟨x,H2,I2,rx,q2⟩=>thn (hi aE s2 σ H2 _ I2 q2) fun iv s3 zq=>?_) hs;obtain⟨y,H3,I3,ry,a,H4,ex,g,q3⟩:=zq;subst ex;obtain rfl:u=aA.ref a:=rx;exact QS hu I3 g ry rv fun s4 I4=>⟨σ,H4,I4,q3⟩
end
theorem XS{P:aX}{w:bW}{H:Hp}(h:Heap)(hb:gF<h.objs.size):ObjOk P w H (h.push { cls:=.type "dict",data:=.dict #[] }) h.objs.size (.dK []):=
 ⟨bY _,beq_eq_false_iff_ne.mpr (Ne.symm (bL hb)),[],.nil,Heap.DictOf.new h⟩
def tDNewK:TE:=fun _ H Q=>∀p,H p=none->Q (.ref p) (upd H p (.dK []))
section
variable{X:Cx}{pos:Pos}
theorem UX:PE X (.Dict [] [] pos) tDNewK:=fun aE s σ H Q I h =>
 wpAny_Dict_empty ⟨.ref s.heap.objs.size,_,I.laid (a:=s.heap.objs.size) (o:=.dK []) (t':=s.toks) (fun _ _ q=>aG _ q) (aM _) (XS s.heap I.big),rfl,h _ (I.hok.fresh (aM _))⟩
end
structure M2(X:Cx)(o:Expr)(m:Str)(apos:Pos)(e f:Expr)(cpos:Pos):Prop where
 base:dH o m X.env (cC o X.env)=cC o X.env
 few:((cY cpos (aJ [e,f] X.env)).all (fun x=>!x.1)&&(lY cpos (gD [] X.env)).all (fun x=>x.1.isSome)
  && decide (([e,f]:List Expr).length+([]:List iM).length+(if ([]:List iM).isEmpty then 0 else 1)<30))=true
 line:(apos.endLine==cpos.line)=true
 trees:cY cpos (aJ [e,f] X.env)=[(false,cC e X.env),(false,cC f X.env)]
def IsD(H:Hp)(a:aB):Prop:=(∃kvs,Rd H a (.dK kvs))\/∃kvs,Rd H a (.dT kvs)
theorem isD_at{X:Cx}{aE:List (aB×Obj)}{σ : St}{H:Hp}{s:aC}{a:aB}(I:Inv X aE σ H s)(d:IsD H a) :
  s.TypeIs (.ref a) "dict"/\(∀b,aA.ref a=.ref b->∃ob,s.heap.get? b=some ob/\ob.dict=none)/\(a==gF)=false:=by
 rcases d with⟨kvs,e⟩ | ⟨kvs,e⟩
 . obtain⟨_, hd, vs, _, dd⟩ := BM I.hok e;refine⟨dd.typeIs,fun b q=>?_,hd⟩;cases q;obtain⟨ob,_,_,h1,h2,_⟩:=dd;exact⟨ob,h1,h2.2.1⟩
 . obtain⟨_, hd, xs, _, dd⟩ := BL I.hok e;refine⟨dd.typeIs,fun b q=>?_,hd⟩;cases q;obtain⟨ob,_,_,h1,h2,_⟩:=dd;exact⟨ob,h1,h2.2.1⟩
section
variable{X:Cx}{aE:List (aB×Obj)}{σ : St}{H:Hp}{s:aC}{a:aB}{y d:V}{u r:aA}{o:Option V}{A:bT}{E:aA->aC->Prop}
theorem d_get2{Q:aA->aC->Prop}(hu:A.units+1<cLine)(I:Inv X aE σ H s)(g:DGet H a y o)(ry:RelV y u)(rd:RelV d r)(h:∀w' s',Inv X aE σ H s'->RelV (o.getD d) w'->Q w' s') :
  bH (aT X.prog X.w) A (call (.builtin "dict.get") [.ref a,u,r]) Q E s:=by
 rcases g with⟨kvs,k,e,ey,l⟩ | ⟨kvs,k,b,e,ey,eb,l⟩
 . subst ey;obtain⟨z,hd,vs,rel,dd⟩:=BM I.hok e;refine call_meetsIn nA dd.typeIs AH (uK _ _ _) (meets_dict_get_default (eW X.prog X.w) a (FU ry) hd r) ⟨_,dd.mapOf,h _ _ (I.tok _) ?_⟩;rw[l];exact(rel.val k).getD rd
 . subst ey;cases(show u=aA.ref b from ry);obtain⟨z,hd,xs,rel,dd⟩:=BL I.hok e;refine call_meetsIn nA dd.typeIs AH (uK _ _ _) (meetsH_dict_get_default (rD (eW X.prog X.w)) a b hd r) ⟨mR hu,k,xs,kG I.hok eb,dd,h _ _ (I.tok _) ?_⟩;rw[l];exact(rel.val k).getD rd
end
def tDGet2(td ty tx:TE):TE:=fun σ H Q=>td σ H fun x H1=>∃a,x=.ref a/\IsD H1 a/\ty σ H1 fun y H2=>tx σ H2 fun z H3=>∃o,DGet H3 a y o/\Q (o.getD z) H3
section
variable{X:Cx}{o e f:Expr}{apos cpos:Pos}{td ty tx:TE}
theorem UY(hu:X.A.units+1<cLine)(ho:PE X o td)(he:PE X e ty)(hf:PE X f tx)(m:M2 X o "get" apos e f cpos):PE X (.Call (.Attribute o "get" apos) [e,f] [] cpos) (tDGet2 td ty tx):=by
 intro aE s σ H Q I h;refine wpAny_Call_method m.base m.few m.line PySem.F.plainAttrs_dict nA PySem.F.type_dict_get (thn (ho aE s σ H _ I h) fun u s1 zq=>?_);obtain⟨x,H1,I1,rx,a,ex,d,q1⟩:=zq;subst ex;obtain rfl:u=aA.ref a:=rx;obtain⟨t1,t2,_⟩:=isD_at I1 d;refine⟨t1,t2,?_⟩;rw[m.trees]
 refine Calls.callWith_builtin rfl (Calls.evalArgs_plain (Calls.spliced_cons (thn (he aE s1 σ H1 _ I1 q1) fun iv s2 ⟨y,H2,I2,ry,q2⟩ =>
  Calls.spliced_cons (thn (hf aE s2 σ H2 _ I2 q2) fun fv s3 ⟨z,H3,I3,rz,ov,g,q3⟩=>Calls.spliced_nil ?_))))
 exact d_get2 hu I3 g ry rz fun w' s4 I4 rw'=>⟨_,H3,I4,rw',q3⟩
end
section
variable{X:Cx}{aE:List (aB×Obj)}{σ : St}{H:Hp}{s:aC}{a:aB}{kvs:List (Key×V)}{A:bT}{E:aA->aC->Prop}
end
section
variable{X:Cx}{aE:List (aB×Obj)}{σ : St}{H:Hp}{s:aC}{a:aB}{y:V}{u:aA}{A:bT}{E:aA->aC->Prop}
end
end L2
namespace Att
open PySem PySem.W PySem.Calls PyProof.Rows
theorem sF{P:Params}{h:Heap}:∀(ns:List Int) (vs:List aA),WellAll P h vs (ns.map WData.int)->dY vs ns:=by
 intro ns
 induction ns with
 | nil =>
   intro vs w;rw[dC] at w;cases w;exact .nil
 | cons n ns ih =>
   intro vs w;rw[bA] at w;cases w with
   | cons a b =>
     cases a;exact .cons _ _ (ih _ b)
theorem NV{l:OpenLaw}{n:Nat}(hn:l.most=some n){P:Params}{h:Heap}{args:List WData}{vals:List aA}(hpre:l.row.toRowW.claim.pre args=true)(hwl:WellAll P h vals args) :
  ∃a vs ns,vals=[aA.ref a]/\args=[WData.list (ns.map WData.int)]/\h.get? a=some { cls:=.type "list",data:=.seq vs.toArray }/\dY vs ns/\ns.length<=n:=by
 have hsh:WShape.hasAll [] args [.list .int]=true:=(pre_splitW hpre).1;have hc:l.pre.holds [] { args:=args }=true:=(pre_splitW hpre).2;obtain⟨d,r,rfl,h1,h2⟩:=hasAllW_cons hsh;obtain rfl:=hasAllW_nil h2;obtain⟨xs,rfl,h3⟩:=hasW_list h1;obtain⟨ns,rfl⟩:=items_int h3
 have hlen:ns.length<=n:=by
  unfold OpenLaw.pre at hc
  have h4:(WTm.not (.lt (.lit (.int (n:Int))) (.len (.arg 0)))).holds [] { args:=[.list (ns.map .int)] }=true:=by
   have h4:=(holds_andW hc).1;rw[hn] at h4;exact h4
  have h5:=condW_of h4 (w_not (w_lt w_lit (w_len_list (w_arg rfl))));rw[cB] at h5;refine Nat.le_of_not_lt fun q=>?_;have q':(n:Int)<((ns.length:Nat):Int):=by omega
  first
   |(rw[decide_eq_true q'] at h5;exact absurd h5 (by decide))
   |(simp at h5;omega)
 cases hwl with
 | cons w1 w2 =>
   cases w2;cases w1 with
   |list ho hall=>exact⟨_,_,ns,rfl,rfl,ho,sF ns _ hall,hlen⟩
theorem OI(l:OpenLaw)(args:List WData):l.row.toRowW.claim.post args (.bool true) args=true :=
 postW_of (r:=l.row.toRowW) (X:=(true==true))
  (show WShape.has [] (.bool true) .bool=true by first | rfl | decide | simp[WShape.has,WShape.arms,WShape.armsAll])
  (show(WTm.eq .res (.lit (.bool true))).value [] { args:=args,res:=some (.bool true),after:=args }=some (.bool (true==true)) from w_eq_bool (w_res rfl) w_lit) rfl
section
variable{prog:aX}{w:bW}{A:bT}{E:aA->aC->Prop}{s:aC}{K:Frag}
end
end Att
namespace L2
open PySem PySem.Spec PyProof.Rows
theorem AL:∀{vs:List aA} {ns:List Int},dY vs ns->Vals (ns.map V.int) vs
 |_,_,.nil=>.nil
 |_,_,.cons n t h=>.cons ⟨t,rfl⟩ (AL h)
noncomputable def fT(s:Stmt)(j:Nat):Stmt:=match s with
 | .ClassDef _ _ _ body _ _ _ _ _ _ _=>body.getD j (.Pass ⟨0,0,0,0⟩)
 |_=>.Pass ⟨0,0,0,0⟩
noncomputable def jL(s:Stmt):Arguments:=match s with
 | .FunctionDef _ a _ _ _ _ _ _ _ _=>a
 |_=>{ posonlyargs:=[],args:=[],vararg:=none,kwonlyargs:=[],kw_defaults:=[],kwarg:=none,defaults:=[] }
noncomputable def qT(s:Stmt):List Stmt:=match s with
 | .FunctionDef _ _ b _ _ _ _ _ _ _=>b
 |_=>[]
noncomputable def zH(s:Stmt):Scope:=match s with
 | .FunctionDef _ _ _ _ _ _ sc _ _ _=>sc
 |_=>{ kind:=.function,names:=[],isGenerator:=false,isCoroutine:=false }
abbrev CX0:CXT:=fun _ _ _ _ _ _=>False
abbrev E0:XK:=fun _ _ _=>False
theorem pass0{X:Cx}: tY CX0 X E0:=fun _ _ _ _ _ _ _ h=>h.elim
structure Fun(K:aL)(x qual:Str)(st:Stmt)(f:aB)(fd:bN):Prop where
 ex:∃(oc:aA) (od:Option aB) (kV doc pm:aA) (an:Option aB) (cdv ct:aA) (osl:Array (Option aA)),
  fd=cZ x qual (jL st) (qT st) (zH st) .none kV doc pm an cdv ct/\K.lookup f=some ⟨oc,od,.func fd,osl⟩/\gH K cdv qual=true
 kp:cE K (.ref f)=true
section
variable{P:aX}{w:bW}{K:aL}{mg:Str->Option aA}{base:Heap}
theorem Fun.ok{x qual:Str}{st:Stmt}{f:aB}{fd:bN}{N ps:List Str}{k:Nat}{sp:Sp}(F:Fun K x qual st f fd)(S:FnScope N ps (zH st))(len:∀vs H Q E,sp vs H Q E->vs.length=ps.length)(hbody:∀(cdv:aA) (A:bT) (outer:List Env) (s:aC) (H:Hp) (vs:List V) (Q:VK) (E:XK),Room k (A.deeper (mE qual (zH st) s.heap.objs.size f cdv))->sp vs H Q E →
    ∃t,PSs (cxOf CX0 P w K mg base N qual (zH st) f cdv A outer s H E).nox (qT st) t/\t { nx:=fun _ H'=>Q .non H',rt:=Q } (start N vs) H):FnOk P w K mg base CX0 (k+1) f fd ps sp:=by
 obtain⟨oc,od,kV,doc,pm,an,cdv,ct,osl,rfl,lk,hcd⟩:=F.ex;refine fn_of lk hcd S len fun A outer s H vs Q E hr hsp=>?_;obtain⟨t,h,q⟩:=hbody cdv A outer s H vs Q E hr hsp;exact⟨t,h.nox,q⟩
theorem Fun.binds{x qual:Str}{st:Stmt}{f:aB}{fd:bN}{ps:List Str}(F:Fun K x qual st f fd)(h:∀(kV doc pm:aA) (an:Option aB) (cdv ct:aA) (us:List aA),us.length=ps.length->pX (cZ x qual (jL st) (qT st) (zH st) .none kV doc pm an cdv ct) ⟨us,[]⟩=pure (ps.zip us)):Binds K fd ps []:=by
 obtain⟨oc,od,kV,doc,pm,an,cdv,ct,osl,rfl,lk,hcd⟩:=F.ex;exact .all (h kV doc pm an cdv ct)
theorem JH{x qual:Str}{st:Stmt}{f:aB}{oc:aA}{od an:Option aB}{osl:Array (Option aA)}{kV doc pm cdv ct:aA}(l:K.lookup f=some ⟨oc,od,.func (cZ x qual (jL st) (qT st) (zH st) .none kV doc pm an cdv ct),osl⟩)(c:gH K cdv qual=true)(k:cE K (.ref f)=true):Fun K x qual st f (cZ x qual (jL st) (qT st) (zH st) .none kV doc pm an cdv ct):=⟨⟨oc,od,kV,doc,pm,an,cdv,ct,osl,rfl,l,c⟩,k⟩
end
section
variable{X:Cx}
end
theorem iteF{A B:Prop}(h:B):if false=true then A else B:=by
 rw[if_neg cP];exact h
theorem iteT{A B:Prop}(h:A):if true=true then A else B:=by
 rw[if_pos rfl];exact h
def Same(H H':Hp):Prop:=∀b o,H b=some o->H' b=some o
theorem Same.refl(H:Hp):Same H H:=fun _ _ h=>h
theorem Same.trans{H H1 H2:Hp}(a:Same H H1)(b:Same H1 H2):Same H H2:=fun c o h=>b c o (a c o h)
theorem Same.free{H H':Hp}(e:Same H H'){l:aB}(h:H' l=Option.none):H l=Option.none:=by
 cases q:H l with
 |none=>rfl
 | some o =>
   rw[e l o q] at h;cases h
theorem Same.seq{K:aL}{H H':Hp}{a:aB}{xs:List V}(e:Same H H')(h:SqL K H a xs):SqL K H' a xs:=by
 rcases h with(h | ⟨o,h⟩) | h
 . exact .inl (.inl (e _ _ h))
 . exact .inl (.inr ⟨o,e _ _ h⟩)
 . exact .inr h
section
variable{X:Cx}
end
section
variable{κ : Type}[DecidableEq κ]
end
noncomputable def xT(env:Env):List (Str×iR)->List (Str×aB)->List (Str×aB)
 |[],cs=>cs
 |(n,k)::r,cs=>xT env r (if k==iR.free then (match env.cells.lookup n with | some c=>(n,c)::cs | none=>cs) else cs)
theorem uV{scope:Scope}{env:Env}(h:∀y∈scope.names,y.2=iR.free->∃c,env.cells.lookup y.1=some c):closureFor scope env=pure (xT env scope.names []):=by
 simp only[closureFor];generalize ([]:List (Str×aB))=cs
 revert h cs
 generalize scope.names=l;intro h
 induction l with
 |nil=>intro cs;rfl
 | cons y r ih =>
   intro cs;obtain⟨n,k⟩:=y;have ihr:=ih fun z hz=>h z (aQ _ hz);simp only[List.forIn_cons,xT]
   by_cases hk:k=iR.free
   . obtain ⟨c, hc⟩ := h (n, k) bD hk;have hc':env.cells.lookup n=some c:=hc;have hcell:cellOf env n=pure c:=by unfold cellOf; rw [hc']
     subst hk;simp only[hcell,hc',beq_self_eq_true,if_true,pure_bind,bind_pure_comp,map_pure,bind_assoc]
     first
      |exact ihr _
      |simpa using ihr _
   . have hb : (k == iR.free) = false := by simpa using hk
     simp only[hb,bJ,if_false,pure_bind]
     first
      |exact ihr _
      |simpa using ihr _
theorem tX{env:Env}:∀(l:List (Str×iR)) (cs:List (Str×aB)),(∀x c,cs.lookup x=some c->env.cells.lookup x=some c)->∀x c,(xT env l cs).lookup x=some c->env.cells.lookup x=some c
 |[],_,h=>h
 | (n, k) :: r, cs, h => by
   unfold xT;refine tX r _ fun x c e=>?_
   split at e
   . cases hc : env.cells.lookup n with
     |none=>rw[hc] at e;exact h x c e
     | some c' =>
       rw[hc] at e;simp only[cF] at e
       by_cases hx:x==n
       . rw[hx] at e;cases e;rw[beq_iff_eq] at hx;rw[hx];exact hc
       . have hx' : (x == n) = false := by simpa using hx
         rw[hx'] at e;exact h x c e
   . exact h x c e
theorem tW{env:Env}:∀(l:List (Str×iR)) (cs:List (Str×aB)) (x:Str),(∃c,cs.lookup x=some c)->∃c,(xT env l cs).lookup x=some c
 |[],_,_,h=>h
 | (n, k) :: r, cs, x, h => by
   unfold xT;refine tW r _ x ?_
   split
   . cases hc : env.cells.lookup n with
     |none=>exact h
     | some c' =>
       simp only[cF]
       by_cases hx:x==n
       . rw[hx];exact⟨_,rfl⟩
       . have hx' : (x == n) = false := by simpa using hx
         rw[hx'];exact h
   . exact h
theorem wZ{env:Env}:∀(l:List (Str×iR)) (cs:List (Str×aB)) (x:Str) (c:aB),(x,iR.free)∈l->env.cells.lookup x=some c->∃c,(xT env l cs).lookup x=some c
 |[],_,_,_,h,_=>nomatch h
 | (n, k) :: r, cs, x, c, h, hc => by
   unfold xT;rcases aF.mp h with e | e
   . cases e;refine tW r _ _ ?_;simp only[beq_self_eq_true,if_true,hc,cF];exact⟨_,rfl⟩
   . exact wZ r _ x c e hc
theorem lG{env:Env}:∀{names:List (Str×iR)} {x:Str},names.lookup x=some iR.free →
  (names.map fun(n,k)=>if (k==iR.free&&env.scope.kind==.function&&env.kindOf n==some .cell) then (n,iR.cell) else (n,k)).lookup x=some iR.cell ∨
  (names.map fun(n,k)=>if (k==iR.free&&env.scope.kind==.function&&env.kindOf n==some .cell) then (n,iR.cell) else (n,k)).lookup x=some iR.free
 |[],_,h=>by simp at h
 | (n, k) :: r, x, h => by
   have ih:=@lG env r x;simp only[bA];cases hx:x==n with
   | true =>
     simp only[cF,hx] at h;cases h
     by_cases hc:(iR.free==iR.free&&env.scope.kind==.function&&env.kindOf n==some .cell)=true
     . rw[if_pos hc];left;simp only[cF,hx]
     . rw[if_neg hc];right;simp only[cF,hx]
   | false =>
     simp only[cF,hx] at h
     by_cases hc:(k==iR.free&&env.scope.kind==.function&&env.kindOf n==some .cell)=true
     . rw[if_pos hc];simp only[cF,hx];exact ih h
     . rw[if_neg hc];simp only[cF,hx];exact ih h
theorem xP{env:Env}:∀{names:List (Str×iR)} {x:Str} {k':iR},(∀y∈names,y.2≠iR.cell) →
  (names.map fun(n,k)=>if (k==iR.free&&env.scope.kind==.function&&env.kindOf n==some .cell) then (n,iR.cell) else (n,k)).lookup x=some k'->(k'=iR.cell\/k'=iR.free)->(x,iR.free)∈names
 |[],_,_,_,h,_=>by simp at h
 | (n, k) :: r, x, k', hn, h, hk => by
   have ih:=@xP env r x k' fun y hy=>hn y (aQ _ hy);simp only[bA] at h;cases hx:x==n with
   | true =>
     have ex:x=n:=by simpa using hx
     by_cases hc:(k==iR.free&&env.scope.kind==.function&&env.kindOf n==some .cell)=true
     . have:k=iR.free:=by
        simp only[cG,beq_iff_eq] at hc;exact hc.1.1
       subst this;subst ex;exact bD
     . rw [if_neg hc] at h;simp only [cF,hx] at h;cases h;rcases hk with hk | hk
       . exact absurd hk (hn (n,k) bD)
       . subst hk;subst ex;exact bD
   | false =>
     by_cases hc:(k==iR.free&&env.scope.kind==.function&&env.kindOf n==some .cell)=true
     . rw[if_pos hc] at h;simp only[cF,hx] at h;exact aQ _ (ih h hk)
     . rw[if_neg hc] at h;simp only[cF,hx] at h;exact aQ _ (ih h hk)
section
variable{X:Cx}
structure CI where
 C:aB
 s:aC
 H:Hp
 ex:List aB
noncomputable def jH(X:Cx)(scope:Scope)(NY:List Str)(c:CI):Cx where
 prog:=X.prog
 w:=X.w
 K:=X.K
 mg:=X.mg
 base:=X.base
 A:=X.A
 N:=NY
 s₀:=c.s
 H₀:=c.H
 env:=compEnvC scope (xT X.env scope.names []) c.C X.env
 outer:=X.stack
 stack:=X.stack
 ex:=c.ex
 fn:=fun _=>false
 calm:=X.calm
 pn:=[]
 xe:=fun _ _=>False
theorem Inv.adopt{aE:List (aB×Obj)}{σ : St}{H:Hp}{s:aC}{a:aB}{o:HO}(I:Inv X aE σ H s)(hn:H a=none)(young:X.s₀.heap.objs.size<=a)(hL:a≠X.env.locals)(hc:∀x c,X.env.cells.lookup x=some c->c≠a)(hp:∀p∈X.pn++aE,p.1≠a)(new:ObjOk X.prog X.w (upd H a o) s.heap a o):Inv X aE σ (upd H a o) s:=by
 have ne:∀{b:aB} {u:HO},H b=some u->b≠a:=fun e z=>by rw[z,hn] at e;cases e
 refine⟨I.ok,I.os,I.bare,⟨I.base.keep,I.base.slot,fun b ob q n hx=>?_,I.base.there,fun b xs q=>?_,fun b ob u q=>?_,fun b ps q=>?_⟩,I.loc,I.cell,?_,fun x c e=>?_,fun p hpm=>?_,fun b u e=>?_,I.len⟩
 . rw[upd_ne (bL (bX (aV q) young))];exact I.base.free b ob q n hx
 . have := I.base.tups b xs q;rw[upd_ne (ne this)];exact this
 . have := I.base.frzs b ob u q;rw[upd_ne (ne this)];exact this
 . have := I.base.tbls b ps q;rw[upd_ne (ne this)];exact this
 . rw[upd_ne (Ne.symm hL)];exact I.free
 . have := I.freeC x c e;unfold FreeC at this ⊢;rw[upd_ne (hc x c e)];exact this
 . obtain⟨h1, h2, h3⟩ := I.pin p hpm;exact⟨h1,by rw[upd_ne (hp p hpm)];exact h2,h3⟩
 . by_cases hb : b = a
   . subst hb;rw[zK] at e;cases e;exact new
   . rw[upd_ne hb] at e;exact(I.hok b u e).stay (fun c v _ q=>q) (fun c q=>by rw[upd_ne (ne q)];exact q) fun c xs q=>by rw[upd_ne (ne q)];exact q
def PF(X:Cx)(ifs:List Expr)(t:TT):Prop :=
 ∀(aE:List (aB×Obj)) (s:aC) (σ : St) (H:Hp) (Q:Bool->Hp->Prop),Inv X aE σ H s->t σ H Q →
  bH (aT X.prog X.w) X.A (forIn ifs true fun c r=>if r=true then do let ok <- AB c X.env (cC c X.env);pure (ForInStep.yield ok) else pure (ForInStep.yield r)) (TP X aE σ Q) X.xe s
def tNoIf:TT:=fun _ H Q=>Q true H
theorem pf_nil:PF X [] tNoIf:=fun _ _ _ H _ I h=>wpAny_tests_nil ⟨H,I,h⟩
theorem pf_one{c:Expr}{t:TT}(h:PT X c t):PF X [c] t:=fun aE s σ H Q I q=>wpAny_tests_one (h aE s σ H Q I q)
noncomputable def iH(mp:List (Option Nat))(σ : St):St:=mp.map fun o=>o.bind fun j=>σ[j]?.join
def SV(J:It)(mp:List (Option Nat))(g:CI->TG)(tt:CI->TT)(te:CI->TE)(σ : St)(H1:Hp)(R:List V->Hp->Prop):Prop :=
 ∀c:CI,∃W:Nat->Nat->List V->Hp->Prop,(∃m,W 0 m [] H1)/\∀i m ys H,W i m ys H →
  (J.stop i H/\R ys H) ∨
  (J.go i H/\ys.length<sizeLine/\∀x H',J.yld i H x H'->g c x (iH mp σ) H' fun σ2 H2=>tt c σ2 H2 fun b H3 =>
    if b=true then te c σ2 H3 fun y H4=>∃m',m'<m/\W (i+1) m' (ys++[y]) H4 else ∃m',m'<m/\W (i+1) m' ys H3)
def tComp(wi:TI)(mp:List (Option Nat))(g:CI->TG)(tt:CI->TT)(te:CI->TE):TE:=fun σ H Q=>wi σ H fun J H1 =>
 SV J mp g tt te σ H1 fun ys H'=>ys.length<=sizeLine/\∀p,H' p=none->Q (.ref p) (upd H' p (.lst ys))
structure CompScope(X:Cx)(scope:Scope)(NY:List Str)(mp:List (Option Nat)):Prop where
 kind:scope.kind=.function
 nocell:∀y∈scope.names,y.2≠.cell
 names:∀y∈scope.names,y.2=.local->scope.names.lookup y.1=some .local
 free:∀y∈scope.names,y.2=.free->(X.env.kindOf y.1=some .cell\/X.env.kindOf y.1=some .free)
 len:mp.length=NY.length
 map:∀(i:Nat) (x:Str) (j:Nat),NY[i]?=some x->mp[i]?=some (some j)->X.N[j]?=some x/\scope.names.lookup x=some .free
theorem DD{prog:aX}{w:bW}{A:bT}{R:HF->aC->Prop}{s:aC}{elt target iter:Expr}{ifs:List Expr}{scope:Scope}{pos:Pos}{it acc:aA}{env:Env}{Z:aA->aC->Prop}(hZ:∀e s,Z e s->notedBy (aT prog w) A env (fun x s'=>R (.error x) s') e s)(I:Nat->aC->Prop)(turn:∀n s,I n s->bH (aT prog w) A (HC it) (fun r s₁=>match r with
    |none=>R (.ok .next) s₁
    |some v=>bH (aT prog w) A (pD target it v) (fun _ s₁'=>bH (aT prog w) A (AD target env v) (fun _ s₂ =>
       bH (aT prog w) A (forIn ifs true fun c r=>if r=true then do let ok <- AB c env (cC c env);pure (ForInStep.yield ok) else pure (ForInStep.yield r)) (fun ok s₃ =>
        if ok=true then bH (aT prog w) A (cC elt env) (fun x s₄ =>
         bH (aT prog w) A (call (.builtin "list.append") [acc,x]) (fun _ s₅=>∃m,m<n/\I m s₅) (fun _ _=>False) s₄) Z s₃
        else ∃m,m<n/\I m s₃) (fun _ _=>False) s₂) (fun _ _=>False) s₁') (fun _ _=>False) s₁) (fun _ _=>False) s)(n:Nat)(h:I n s) :
  gZ (aT prog w) A (.compLoop (.ListComp elt [⟨target,iter,ifs,0⟩] scope pos) 0 it acc env) R s:=by
 refine codeAny_loop rfl I (fun n s hI=>?_) n h;show bH _ A ((compTurn (.ListComp elt [⟨target,iter,ifs,0⟩] scope pos) 0 it acc env).onRaise (fun x=>do noteFrame x env;theTreesLotGoes x)) _ _ s;refine wpAny_noted ?_;rw[compTurn_list];refine aD (wpAny_standAt (aD (dU (turn n s hI) (fun r s₁ h₁=>?_) fun _ _ h'=>h'.elim)));cases r with
 |none=>exact aN h₁
 | some v =>
   refine aD (dU h₁ (fun _ s₁' h₁'=>?_) fun _ _ h'=>h'.elim);refine aD (dU h₁' (fun _ s₂ h₂=>aD (dU h₂ (fun ok s₃ h₃=>?_) fun _ _ h'=>h'.elim)) fun _ _ h'=>h'.elim);cases ok with
   |false=>exact aN ⟨rfl,h₃⟩
   | true =>
     exact aD (aD (dU h₃ (fun x s₄ h₄=>aD (dU h₄ (fun _ s₅ h₅=>aN (aN ⟨rfl,h₅⟩)) fun _ _ h'=>h'.elim)) fun e s' h'=>hZ e s' h'))
theorem JS{E:aA->aC->Prop}{scope:Scope}{NY:List Str}{mp:List (Option Nat)}{tg iter elt:Expr}{ifs:List Expr}{pos:Pos}{g:CI->TG}{tt:CI->TT}{te:CI->TE}{aE:List (aB×Obj)}{σ : St}{H:Hp}{s₂ : aC}{J:It}{fp:List aB}{it:aB}{tn:Nat->Heap->Prop}{R:List V->Hp->Prop}{RR:aA->aB->HF->aC->Prop}{WW:CI->aA->aC->Prop}{cm:Cx->Prop}(S:CompScope X scope NY mp)(hc:∀c:CI,c.H=H->cm (jH X scope NY c))(I:Inv X aE σ H s₂)(T:Turn X.prog X.w X.K tg J fp it tn cm)(st:tn 0 s₂.heap)(hf:∀b∈fp,FpOk X aE H b)(hg:∀c,PG (jH X scope NY c) tg (g c))(ht:∀c,PF (jH X scope NY c) ifs (tt c))(he:∀c,PE ((jH X scope NY c).wish (WW c)) elt (te c))(err:∀c:CI,X.s₀.heap.objs.size<=c.C->c.C∉frs X.stack->(∀pl σ' H' s1,Inv (jH X scope NY c) pl σ' H' s1->Inv X aE σ H' s1)->∀e s',WW c e s'->notedBy (aT X.prog X.w) X.A (jH X scope NY c).env (fun x s''=>RR (.ref s₂.heap.objs.size) c.C (.error x) s'') e s')(h:SV J mp g tt te σ H R)(fin:∀(s':aC) (C:aB) (m:Str->Option aA) (ys:List V) (H':Hp),R ys H'->H' s₂.heap.objs.size=none->H' C=none->C≠s₂.heap.objs.size->s'.heap.Ns C m →
    (ys.length<=sizeLine->Inv X aE σ (upd H' s₂.heap.objs.size (.lst ys)) s') →
    (C≠X.env.locals/\X.s₀.heap.objs.size<=C/\(∀x c,X.env.cells.lookup x=some c->c≠C)/\∀p∈X.pn++aE,p.1≠C)->RR (.ref s₂.heap.objs.size) C (.ok .next) s') :
  bH (aT X.prog X.w) X.A (newList []) (fun acc s₃=>bH (aT X.prog X.w) X.A (newFunctionEnv scope X.env.globals (xT X.env scope.names []) [] X.env.qual none .none (some X.env)) (fun cenv s₄ =>
   gZ (aT X.prog X.w) X.A (.compStart (.ListComp elt [⟨tg,iter,ifs,0⟩] scope pos) 0 (.ref it) acc { cenv with scope:=relabel scope X.env }) (RR acc cenv.locals) s₄) E s₃) E s₂:=by
 refine gW (wpAny_newFunctionEnv S.nocell (by intro y hy;simp at hy) (fun h₁ hns₁ hsb₁=>?_) S.kind);dsimp only at hns₁ hsb₁ ⊢;generalize hH2:s₂.heap.push { cls:=.type "list",dict:=none,data:=.seq ([]:List aA).toArray }=H2 at hns₁ hsb₁ ⊢;have hC:(H2.objs.size:Nat)=s₂.heap.objs.size+1:=by rw[<- hH2,uO]
 generalize hDd:s₂.heap.objs.size=D at fin err hC ⊢;generalize hCC:H2.objs.size=C at hns₁ hsb₁ hC ⊢;have hC:(C:Nat)=(D:Nat)+1:=hC;have hDC:D≠C:=fun z=>absurd (z.trans hC) (bL (hU _));have ltC:∀{b:aB},b<D->b≠C:=fun {b} h=>bL (Nat.lt_of_lt_of_eq (fH h) hC.symm);have ltD:∀{b:aB},b<D->b≠D:=fun {b} h=>bL h;have hlt:∀{b:aB} {o:Obj},s₂.heap.get? b=some o->(b:Nat)<D:=fun e=>hDd▸aV e;have k2:∀b o,s₂.heap.get? b=some o->H2.get? b=some o:=fun b o e=>hH2▸aG _ e
 have k1:∀b o,H2.get? b=some o->h₁.get? b=some o:=fun b o e=>by
  have hb:b<C:=hCC▸aV e;exact hsb₁.extBut b o (bL hb) (aG _ e)
 have fr:∀a,D<=a->H a=none:=fun a ha=>I.hok.fresh (hDd▸ha);have accP:h₁.PlainList D #[]:=⟨_,k1 _ _ (by rw[<- hH2,<- hDd];exact aK _ rfl)⟩
 have fpo:∀b∈fp,(b:Nat)<D:=fun b hb=>let ⟨o,e,_⟩:=T.obj 0 _ st b hb;hlt e;have clF:∀x c,(xT X.env scope.names []).lookup x=some c->X.env.cells.lookup x=some c:=tX _ _ fun x c e=>nomatch e
 have cellLt:∀x c,X.env.cells.lookup x=some c->(c:Nat)<D:=fun x c e=>by
  obtain⟨v,o,ho,_⟩:=I.cell x c e;exact hlt ho
 have locLt:(X.env.locals:Nat)<D:=hDd▸I.lt
 have stkLt:∀b∈frs X.stack,(b:Nat)<D:=fun b hb=>by
  obtain⟨_,o,ho,_⟩:=I.stack.mem hb;exact hlt ho
 have fpStk:∀b∈fp,b∉frs X.stack:=fun b hb z=>by
  obtain⟨_,f1,f2,_⟩:=hf b hb;rcases aF.mp (I.stkSub b z) with q | q
  . exact f1 q
  . exact f2 q
 have pinLt:∀p∈X.pn++aE,(p.1:Nat)<D:=fun p hp=>hlt (I.pin p hp).1
 have pinStk:∀p∈X.pn++aE,p.1∉frs X.stack:=fun p hp z=>by
  obtain⟨_,_,f1,f2,_⟩:=I.pin p hp;rcases aF.mp (I.stkSub _ z) with q | q
  . exact f1 q
  . exact f2 q
 let Y:Cx:=jH X scope NY ⟨C,{ s₂ with heap:=H2 },H,D::fp⟩
 obtain⟨W,⟨m0,w0⟩,turn⟩:=h ⟨C,{ s₂ with heap:=H2 },H,D::fp⟩
 have okY:Y.Ok:=by
  refine⟨I.ok.mod,S.kind,I.ok.glob,I.ok.blt,nJ hCC,fun x y c h1 h2=>I.ok.inj x y c (clF _ _ h1) (clF _ _ h2),fun x hx=>?_,fun x c hfn=>absurd hfn (by intro z;cases z),I.ok.hd,I.ok.frames,.inl rfl,fun b hb=>?_,fun b o e=>?_,?_,fun b o e=>?_,fun b hb=>?_,?_,I.stkFree⟩
  . have hx':(x,iR.free)∈scope.names:=by
     rcases hx with hx | hx
     . exact xP S.nocell hx (.inl rfl)
     . exact xP S.nocell hx (.inr rfl)
    obtain⟨c,e⟩:=I.ok.has x (S.free _ hx' rfl);exact wZ _ _ x c hx' e
  . rcases aF.mp hb with z | z
    . subst z;exact⟨hDC,fun x c e q=>absurd (cellLt x c (clF x c e)) (by rw[q];exact cR _)⟩
    . have := fpo b z;exact⟨ltC this,fun x c e q=>(hf b z).2.2.2.2.1 x c (clF x c e) q⟩
  . have := I.bs b o e;exact⟨k2 b o this.1,this.2⟩
  . refine⟨?_, I.tabsH⟩;show(X.base.objs.size:Nat)<=H2.objs.size;have h1:(X.base.objs.size:Nat)<=s₂.heap.objs.size:=cT I.ok.bsz.1 I.sz;have h2:(H2.objs.size:Nat)=C:=hCC;have h3:(s₂.heap.objs.size:Nat)=D:=hDd;omega
  . have hb := I.bs b o e;have hb':=hlt hb.1;intro z;rcases aF.mp z with z | z
    . rw[z] at hb';exact cR _ hb'
    . rcases (hf b z).2.2.2.1 with q | q
      . exact I.ok.noex b o e q
      . exact absurd (bX (aV (I.ok.bs b o e).1) q) (cR _)
  . rcases aF.mp hb with z | z
    . subst z;exact fun q=>absurd (stkLt _ q) (cR _)
    . exact fpStk b z
  . exact I.stack.of_keeps fun b o e _=>⟨o,k2 b o e,rfl⟩
 have capt:∀(i:Nat) (x:Str) (v:V),NY[i]?=some x->(iH mp σ)[i]?=some (some v)->∃u c,RelV v u/\(Y.env.kindOf x=some .cell\/Y.env.kindOf x=some .free)/\Y.env.cells.lookup x=some c/\H2.IsCell c (some u)/\(H c=none\/∃o u,H c=some (.frz o u))/\c∉D::fp:=by
  intro i x v e1 e2
  have e2':(mp[i]?.map fun o=>o.bind fun j=>σ[j]?.join)=some (some v):=by
   unfold iH at e2
   rwa [bK] at e2
  cases hm:mp[i]? with
  |none=>rw[hm] at e2';cases e2'
  | some o =>
    rw[hm] at e2';cases o with
    |none=>simp at e2'
    | some j =>
      simp only[cQ,bG,Option.some.injEq] at e2'
      have e4 : σ[j]?=some (some v):=by
       cases hs : σ[j]? with
       |none=>rw[hs] at e2';cases e2'
       |some q=>rw[hs] at e2';simp at e2';rw[e2']
      obtain⟨hXj,hfr⟩:=S.map i x j e1 hm;have hmem:(x,iR.free)∈scope.names:=fM hfr;have hk:=S.free _ hmem rfl;obtain⟨m,hn,hl⟩:=I.loc;obtain⟨u,ru,l⟩:=hl j x v hXj e4 (hk.elim (fun z=>.inr (.inl z)) fun z=>.inr (.inr z))
      have hlook:∃c,X.env.cells.lookup x=some c/\s₂.heap.IsCell c (some u):=by
       rcases l with⟨kl,_⟩ | ⟨_,c,ec,hcell⟩
       . rcases hk with q | q
         . exact absurd (kl.symm.trans q) (by intro z;cases z)
         . exact absurd (kl.symm.trans q) (by intro z;cases z)
       . exact⟨c,ec,hcell⟩
      obtain⟨c,ec,oc,hoc,hocd⟩:=hlook;obtain⟨c',ec'⟩:=wZ (env:=X.env) scope.names [] x c hmem ec;have:c'=c:=Option.some.inj ((clF x c' ec').symm.trans ec);subst this;refine⟨u,c',ru,lG hfr,ec',⟨oc,k2 _ _ hoc,hocd⟩,(I.freeC x c' ec).imp id And.right,fun z=>?_⟩;rcases aF.mp z with z | z
      . have:=cellLt x c' ec;rw[z] at this;exact cR _ this
      . exact(hf c' z).2.2.2.2.1 x c' ec rfl
 have lenY:(iH mp σ).length=NY.length:=by
  unfold iH;rw[cB];exact S.len
 have I0:∀tk,Inv Y [] (iH mp σ) H { s₂ with heap:=h₁,toks:=tk }:=by
  intro tk;refine⟨okY,rfl,I.bare,Un.kept k1,⟨_,hns₁,fun i x v e1 e2 e3=>?_⟩,fun x c e=>?_,fr C (by show(D:Nat)<=C;omega),fun x c e=>(I.freeC x c (clF x c e)).imp id fun z=>⟨rfl,z.2⟩,fun p hp=>absurd (show p∈([]:List (aB×Obj)) from hp) (by simp),I.hok.kept fun b o e=>k1 b o (k2 b o e),lenY⟩
  . obtain⟨u, c, ru, hk, ec, ⟨oc, hoc, hocd⟩, _⟩ := capt i x v e1 e2;exact⟨u,ru,.inr ⟨hk,c,ec,oc,k1 _ _ hoc,hocd⟩⟩
  . obtain⟨v, o, ho, hd⟩ := I.cell x c (clF x c e);exact⟨v,o,k1 _ _ (k2 _ _ ho),hd⟩
 have stat:∀{H':Hp} {pl:List (aB×Obj)},(∀p∈pl,p.1∉fp)->(∀b∈fp,H' b=none)->∀b∈fp,FpOk Y pl H' b:=fun hpl hn b hb=>by
  have hbD:=fpo b hb;refine⟨hn b hb,ltC hbD,fpStk b hb,.inl (aQ _ hb),fun x c e=>(hf b hb).2.2.2.2.1 x c (clF x c e),fun p hp z=>hpl p (show p∈_ from hp) (z▸hb)⟩
 have dN:D∉Y.fs:=fun q=>absurd (stkLt _ q) (cR _);have dFp:D∉fp:=fun q=>absurd (fpo _ q) (cR _)
 have plD:∀(o:Obj),∀p∈[(D,o)],p.1∉fp:=fun o p hp=>by
  have e:p=(D,o):=by simpa using hp
  rw[e];exact dFp
 have toX:∀pl σ' H3 s4,Inv Y pl σ' H3 s4->Inv X aE σ H3 s4:=fun pl σ' H3 s4 I4=>by
  have u:Un (frs X.stack) fp H H3 s₂.heap s4.heap:=by
   have B:Un (frs X.stack) (D::fp) H H3 H2 s4.heap:=I4.base
   have nx:∀{b:aB} {o:Obj},s₂.heap.get? b=some o->b∉fp->b∉D::fp:=fun e hb z=>by
    rcases aF.mp z with z | z
    . have:=hlt e;rw[z] at this;exact cR _ this
    . exact hb z
   exact⟨fun b o q n hb hx=>B.keep b o (k2 b o q) n hb (nx q hx),fun b o q n hb hx=>B.slot b o (k2 b o q) n hb (nx q hx),fun b o q n hx=>B.free b o (k2 b o q) n (nx q hx),fun b o q hx=>B.there b o (k2 b o q) (nx q hx),B.tups,B.frzs,B.tbls⟩
  exact I.call' I4.os u I4.hok I4.bare fun b hb=>⟨(hf b hb).2.2.2.1,(hf b hb).2.1,(hf b hb).2.2.2.2.1,(hf b hb).2.2.2.2.2⟩
 have keyC:∀(tk:Nat) (it':aA),it'=.ref it->gZ (aT X.prog X.w) X.A (.compLoop (.ListComp elt [⟨tg,iter,ifs,0⟩] scope pos) 0 it' (.ref D) Y.env) (RR (.ref D) C) { s₂ with heap:=h₁,toks:=tk }:=by
  rintro tk _ rfl
  refine DD (Z:=WW ⟨C,{ s₂ with heap:=H2 },H,D::fp⟩) (fun e s' z=>err ⟨C,{ s₂ with heap:=H2 },H,D::fp⟩ (by have:(X.s₀.heap.objs.size:Nat)<=D:=hDd▸I.sz;show(X.s₀.heap.objs.size:Nat)<=C;omega) (fun q=>absurd (stkLt _ q) (by show ¬(C:Nat)<D;omega)) toX e s' z) (fun n s'=>∃i ys H' its,Inv Y [] (iH mp σ) H' s'/\tn i s'.heap/\(∀b∈fp,H' b=none)/\H' D=none/\s'.heap.PlainList D its/\Vals ys its.toList/\W i n ys H') ?_ m0
   ⟨0,[],H,#[],I0 tk,T.keep 0 _ _ st fun b _ o e=>k1 b o (k2 b o e),fun b hb=>(hf b hb).1,fr D (aM _),accP,.nil,w0⟩
  rintro n s3 ⟨i,ys,H3,its,I3,st3,fr3,d3,⟨kk,pl3⟩,rv3,w3⟩
  have I3':Inv Y [(D,{ cls:=.type "list",data:=.seq its kk })] (iH mp σ) H3 s3:=I3.pins_of fun p hp=>by
   have e:p=(D,{ cls:=.type "list",data:=.seq its kk }):=by simpa using hp
   subst e;exact⟨pl3,d3,hDC,dN,fun v z=>nomatch (show Data.seq its kk=Data.cell v from z)⟩
  rcases turn i n ys H3 w3 with⟨stop,qn⟩ | ⟨go,hsz,step⟩
  . refine thn (T.done Y rfl rfl rfl (hc ⟨C, { s₂ with heap := H2 }, H, D :: fp⟩ rfl) i _ s3 _ H3 _ I3' (stat (plD _) fr3) st3 stop) fun r s4 zq => ?_;obtain ⟨hr,I4⟩:=zq;subst hr;have hD4:s4.heap.get? D=some { cls:=.type "list",data:=.seq its kk }:=(I4.pin (D,_) (by simp)).1;have J4:Inv X aE σ H3 s4:=toX _ _ _ _ I4;obtain ⟨m4,hn4,_⟩:=I4.loc;refine fin s4 C m4 ys H3 qn d3 I4.free (Ne.symm hDC) hn4 (fun hz=>?_) ⟨(ltC locLt).symm,?_,fun x c e=>?_,fun p hp=>?_⟩
    . refine J4.adopt d3 ?_ (ltD locLt).symm (fun x c e => ?_) (fun p hp => ?_) ⟨hz, its.toList, kk, rv3, hD4⟩
      . exact hDd▸I.sz
      . exact ltD (cellLt x c e)
      . exact ltD (pinLt p hp)
    . have : (X.s₀.heap.objs.size : Nat)<=D := hDd▸I.sz;show(X.s₀.heap.objs.size:Nat)<=C;omega
    . exact ltC (cellLt x c e)
    . exact ltC (pinLt p hp)
  . refine thn (T.item Y rfl rfl rfl (hc ⟨C, { s₂ with heap := H2 }, H, D :: fp⟩ rfl) i _ s3 _ H3 _ I3' (stat (plD _) fr3) st3 go) fun r s4 zq => ?_;obtain ⟨u,hr,h4⟩:=zq;subst hr;refine thn h4 fun _ s5 zq=>?_;obtain ⟨x,H5,I5,r5,y5,st5,fr5⟩:=zq;have I5':=I5.pinned (stat (plD _) fr5) (T.obj _ _ st5);refine thn (hg _ _ s5 _ H5 x u _ I5' r5 (step x H5 y5)) fun _ s6 zq=>?_;obtain ⟨σ6,H6,I6,q6⟩:=zq;refine thn (ht _ _ s6 σ6 H6 _ I6 q6) fun ok s7 zq=>?_;obtain ⟨H7,I7,q7⟩:=zq
    have back:∀{s8:aC} {σ8:St} {H8:Hp},Inv Y ([(D,{ cls:=.type "list",data:=.seq its kk })]++tI fp s5.heap) σ8 H8 s8 →
      tn (i+1) s8.heap/\(∀b∈fp,H8 b=none)/\H8 D=none/\s8.heap.get? D=some { cls:=.type "list",data:=.seq its kk }:=fun {s8 σ8 H8} I8=>by
     refine⟨T.keep _ _ _ st5 fun b hb o e=>(I8.pin (b,o) (aI _ (aI _ (yO hb e)))).1,fun b hb=>?_,?_,?_⟩
     . obtain⟨o, e, d⟩ := T.obj _ _ st5 b hb;exact(I8.pin (b,o) (aI _ (aI _ (yO hb e)))).2.1
     . exact(I8.pin (D,_) (aI _ (bE _ (aP.mpr rfl)))).2.1
     . exact(I8.pin (D,_) (aI _ (bE _ (aP.mpr rfl)))).1
    have drop:∀{s8:aC} {σ8:St} {H8:Hp} {pl:List (aB×Obj)},Inv Y pl σ8 H8 s8->Inv Y [] (iH mp σ) H8 s8:=fun {s8 σ8 H8 pl} I8=>by
     obtain⟨m8,hn8,_⟩:=I8.loc;refine⟨I8.ok,I8.os,I8.bare,I8.base,⟨m8,hn8,fun i x v e1 e2 e3=>?_⟩,I8.cell,I8.free,I8.freeC,fun p hp=>absurd (show p∈([]:List (aB×Obj)) from hp) (by simp),I8.hok,lenY⟩;obtain⟨u,c,ru,hk,ec,⟨oc,hoc,hocd⟩,hn,hx⟩:=capt i x v e1 e2;rcases hn with hn | ⟨ob,ub,hn⟩
     . obtain⟨sl, e⟩ := I8.base.any hoc hn hx;exact⟨u,ru,.inr ⟨hk,c,ec,_,e,hocd⟩⟩
     . obtain⟨e1, _⟩ := I.hok c _ hn;obtain⟨e2,_⟩:=I8.hok c _ (I8.base.frzs c ob ub hn);have e3:=k2 _ _ e1;rw[hoc] at e3;cases e3;exact⟨u,ru,.inr ⟨hk,c,ec,oc,e2,hocd⟩⟩
    cases ok with
    | false =>
      obtain⟨m',hm',w'⟩:=q7;obtain⟨b1,b2,b3,b4⟩:=back I7;exact⟨m',hm',i+1,ys,H7,its,drop I7,b1,b2,b3,⟨kk,b4⟩,rv3,w'⟩
    | true =>
      refine thn (he _ _ s7 σ6 H7 _ (I7.wish _) q7) fun y s8 zq=>?_;obtain⟨yv,H8,I8w,r8,q8⟩:=zq;have I8:=I8w.unwish;obtain⟨b1,b2,b3,b4⟩:=back I8;have hl:ys.length=its.size:=by simpa using rv3.length
      refine wpAny_list_append_plain (items:=its) ⟨kk,b4⟩ (fun h' pl' sb=>?_) (by omega);obtain⟨m',hm',w'⟩:=q8;have I9:Inv Y [] (iH mp σ) H8 { s8 with heap:=h' }:=(drop I8).turned (it:=D) (t':=s8.toks) (fun b o hb e=>(sb.2 b hb).trans e) b3 hDC (.inl bD) (fun x c e=>ltD (cellLt x c (clF x c e))) fun p hp=>absurd (show p∈([]:List (aB×Obj)) from hp) (by simp);refine⟨m',hm',i+1,ys++[yv],H8,its.push y,I9,?_,b2,b3,pl',?_,w'⟩
      . exact T.keep _ _ _ b1 fun b hb o e=>(sb.2 b (fun z=>dFp (z▸hb))).trans e
      . rw[dO];exact rv3.append (.cons r8 .nil)
 exact codeAny_compStart_list (keyC _ _ rfl) (T.self _ 0 _ _ _ (T.keep 0 _ _ st fun b _ o e=>k1 b o (k2 b o e)) (keyC _ _ rfl))
theorem UZ{scope:Scope}{NY:List Str}{mp:List (Option Nat)}{tg iter elt:Expr}{ifs:List Expr}{pos:Pos}{wi:TI}{g:CI->TG}{tt:CI->TT}{te:CI->TE}{cm:Cx->Prop}(S:CompScope X scope NY mp)(hc:∀aE σ H s,Inv X aE σ H s->∀c:CI,c.H=H->cm (jH X scope NY c))(hi:PI X tg iter wi cm)(hg:∀c,PG (jH X scope NY c) tg (g c))(ht:∀c,PF (jH X scope NY c) ifs (tt c))(he:∀c,PE (jH X scope NY c) elt (te c))(hs:∀x,gY iter X.env x=pure x:=by intro _;rfl):PE X (.ListComp elt [⟨tg,iter,ifs,0⟩] scope pos) (tComp wi mp g tt te):=by
 intro aE s σ H Q I h;rw[eval_ListComp];refine wpAny_comprehension_free (use:=none) rfl hs (uV fun y hy hk=>I.ok.has y.1 (S.free y hy hk)) S.kind S.names (thn (hi aE s σ H _ I h) fun v s1 h1=>thn h1 fun itv s2 h2=>?_);obtain⟨it,fp,tn,J,H2,e,I2,T,st2,f2,hk⟩:=h2;subst e;refine JS (RR:=fun acc C=>compPost (aT X.prog X.w) X.A X.xe none (EP X aE σ Q) acc C) (WW:=fun _ _ _=>False) S (hc _ _ _ _ I2) I2 T st2 f2 hg ht he (fun _ _ _ _ _ _ z=>z.elim) hk ?_;intro s' C m ys H' q hD hC hCD hn hI hct;refine⟨m,hn,fun h' sb=>?_⟩;have J':=hI q.1;refine⟨.ref s2.heap.objs.size,_,J'.turned (it:=C) (t':=s'.toks) (fun b o hb e=>(sb.2 b hb).trans e) (by rw[upd_ne hCD];exact hC) hct.1 (.inr hct.2.1) hct.2.2.1 hct.2.2.2,rfl,q.2 _ hD⟩
theorem LN{scope:Scope}{NY:List Str}{mp:List (Option Nat)}{tg iter elt:Expr}{ifs:List Expr}{pos:Pos}{wi:TI}{g:CI->TG}{tt:CI->TT}{te:CI->TE}(S:CompScope X scope NY mp)(hc:X.calm=true)(hi:PI X tg iter wi)(hg:∀c,PG (jH X scope NY c) tg (g c))(ht:∀c,PF (jH X scope NY c) ifs (tt c))(he:∀c,PE (jH X scope NY c) elt (te c))(hs:∀x,gY iter X.env x=pure x:=by intro _;rfl):PE X (.ListComp elt [⟨tg,iter,ifs,0⟩] scope pos) (tComp wi mp g tt te):=UZ S (fun _ _ _ _ _ _ _=>hc) hi hg ht he hs
end
end L2
namespace TS
open PySem PyProof.Rows
set_option autoImplicit false
noncomputable def ky(p:Keyed):Int:=numOf p.1
def IsI(p:Keyed):Prop:=∃n t,p.1=.int n t
structure TB(a₀ : Array Keyed)(st:SortSt):Prop where
 pm:(bO st).Perm a₀
 kd:kindOf st=gP
 nf:pW st=none
def Seg(xs:Array Keyed)(i j:Nat):Prop:=∀p q,i<=p->p<=q->q<j->K xs p<=K xs q
def Dsc(xs:Array Keyed)(i j:Nat):Prop:=∀p q,i<=p->p<=q->q<j->K xs q<=K xs p
def Ch(xs ys:Array Keyed)(i j:Nat):Prop:=xs.Perm ys/\∀k,(k<i\/j<=k)->K xs k=K ys k
theorem Ch.rfl'{xs:Array Keyed}{i j:Nat}: Ch xs xs i j:=⟨kP _,fun _ _=>rfl⟩
theorem Ch.tr{xs ys zs:Array Keyed}{i j:Nat}(a:Ch xs ys i j)(b:Ch ys zs i j):Ch xs zs i j :=
 ⟨a.1.trans b.1,fun k hk=>(a.2 k hk).trans (b.2 k hk)⟩
theorem Ch.wide{xs ys:Array Keyed}{i j i' j':Nat}(a:Ch xs ys i j)(h1:i'<=i)(h2:j<=j'):Ch xs ys i' j' :=
 ⟨a.1,fun k hk=>a.2 k (by omega)⟩
theorem TB.arr{a₀ : Array Keyed}{st:SortSt}(h:TB a₀ st){xs:Array Keyed}(hp:xs.Perm (bO st)):TB a₀ (eC st xs):=⟨hp.trans h.pm,h.kd,h.nf⟩
theorem TB.sz{a₀ : Array Keyed}{st:SortSt}(h:TB a₀ st):(bO st).size=a₀.size:=h.pm.size_eq
theorem YG{a₀ xs:Array Keyed}(hp:xs.Perm a₀)(h0:IntKeys a₀){i:Nat}(hi:i<a₀.size):∃t q,xs[i]?=some (.int (K xs i) t,q):=by
 have hi':i<xs.size:=by rw[hp.size_eq];exact hi
 obtain⟨n,t,hn⟩:=h0 _ ((lZ.mp hp).mem_iff.mp (show xs[i]∈xs.toList by simp));have e:xs[i]?=some xs[i]:=getElem?_pos _ i hi';refine⟨t,xs[i].2,?_⟩;unfold K;rw[e];simp only[hn,numOf];exact congrArg some (Prod.ext hn rfl)
section
variable{prog:aX}{w:bW}{A:bT}{E:aA->aC->Prop}{s:aC}{a₀ : Array Keyed}
theorem WF{st:SortSt}{i j:Nat}{Q:Option Bool->SortSt->Prop}(hB:TB a₀ st)(h0:IntKeys a₀)(hi:i<a₀.size)(hj:j<a₀.size)(told:Q (some (decide (K (bO st) i<K (bO st) j))) st):wpS (aT prog w) A E s (NB i j) Q st:=by
 obtain⟨t,p,e1⟩:=YG hB.pm h0 hi;obtain⟨u,q,e2⟩:=YG hB.pm h0 hj;exact wpS_ltAt hB.kd e1 e2 told
theorem WE{st:SortSt}{xs:Array Keyed}{i j:Nat}{Q:Option Bool->SortSt->Prop}(hB:TB a₀ (eC st xs))(h0:IntKeys a₀)(hi:i<a₀.size)(hj:j<a₀.size)(h:Q (some (decide (K xs i<K xs j))) (eC st xs)):wpS (aT prog w) A E s (NB i j) Q (eC st xs):=WF hB h0 hi hj h
theorem ML{st:SortSt}{i j:Nat}{Q:Unit->SortSt->Prop}(hj:j<=(bO st).size)(h:∀xs,Ch xs (bO st) i j->(∀k,i<=k->k<j->K xs k=K (bO st) (i+j-1-k))->Q () (eC st xs)) :
  wpS (aT prog w) A E s (lU i j) Q st:=by
 rw[reverseSlice'_eq];refine iW (h _ ⟨mirror_perm _ _ _ _,fun k hk=>?_⟩ fun k h1 h2=>?_)
 . rw[K_mirror hj,if_neg (by omega)]
 . rw[K_mirror hj,if_pos ⟨h1,h2⟩]
theorem vA{st:SortSt}{i j:Nat}{Q:Unit->SortSt->Prop}(hj:j<=(bO st).size)(he:∀k,i<=k->k<j->K (bO st) k=K (bO st) (j-1))(h:∀xs,xs.Perm (bO st)->(∀k,K xs k=K (bO st) k)->Q () (eC st xs)) :
  wpS (aT prog w) A E s (lU i j) Q st:=by
 refine ML hj fun xs c hk=>h xs c.1 fun k=>?_
 by_cases hh:i<=k/\k<j
 . rw[hk k hh.1 hh.2,he _ (by omega) (by omega),he k hh.1 hh.2]
 . exact c.2 k (by omega)
noncomputable def dTail(lo m0 nrem:Nat):StateT SortSt Sem (Option Nat):=do
 let mut m:=m0
 lU lo (lo+m)
 for _ in [m:nrem] do
  let some less <- NB (lo+m) (lo+m-1) | return none
  if less then break
  m:=m+1
 return some m
noncomputable def dPart(lo m0 nrem:Nat):StateT SortSt Sem (Option Nat):=do
 let mut m:=m0
 rule "list.sort.descending-run"
 m:=m+1
 let mut q:=0
 for _ in [m:nrem] do
  let some less <- NB (lo+m) (lo+m-1) | return none
  if less then
   if q>0 then lU (lo+m-(q+1)) (lo+m)
   q:=0
  else
   let some more <- NB (lo+m-1) (lo+m) | return none
   if more then break
   q:=q+1
  m:=m+1
 if q>0 then lU (lo+m-(q+1)) (lo+m)
 dTail lo m nrem
noncomputable def cRun(lo nrem:Nat):StateT SortSt Sem (Option Nat):=do
 let mut m:=1
 for _ in [1:nrem] do
  let some less <- NB (lo+m) (lo+m-1) | return none
  if less then break
  m:=m+1
 if m==nrem then return some m
 if m>1 then
  let some more <- NB lo (lo+m-1) | return none
  if more then return some m
  lU lo (lo+m)
 dPart lo m nrem
theorem GN(lo nrem:Nat):countRun' lo nrem=cRun lo nrem:=by
 rw[countRun'_eq];rfl
theorem TD{xs:Array Keyed}{i j:Nat}(hs:Seg xs i j)(h:i<j->K xs (j-1)<=K xs j):Seg xs i (j+1):=by
 intro p q h1 h2 h3
 by_cases hq:q<j
 . exact hs p q h1 h2 hq
 . have : q = j := by omega
   subst this
   by_cases hp:p=q
   . subst hp;exact eU _
   . exact eR (hs p (q-1) h1 (by omega) (by omega)) (h (by omega))
theorem wF{xs:Array Keyed}{i j:Nat}(hs:Dsc xs i j)(h:i<j->K xs j<=K xs (j-1)):Dsc xs i (j+1):=by
 intro p q h1 h2 h3
 by_cases hq:q<j
 . exact hs p q h1 h2 hq
 . have : q = j := by omega
   subst this
   by_cases hp:p=q
   . subst hp;exact eU _
   . exact eR (h (by omega)) (hs p (q-1) h1 (by omega) (by omega))
theorem vV{xs ys:Array Keyed}{i j:Nat}(hs:Dsc xs i j)(h:∀k,K ys k=K xs k):Dsc ys i j:=by
 intro p q h1 h2 h3;rw[h,h];exact hs p q h1 h2 h3
theorem GX{st:SortSt}{lo a nrem:Nat}{R:Option (Option Nat)×Nat->SortSt->Prop}(h0:IntKeys a₀)(hn:lo+nrem<=a₀.size)(ha:1<=a)(han:a<=nrem)(hB:TB a₀ st)(hs:Seg (bO st) lo (lo+a))(h:∀n,a<=n->n<=nrem->Seg (bO st) lo (lo+n)->(n=nrem\/K (bO st) (lo+n)<K (bO st) (lo+n-1))->R (none,n) st) :
  wpS (aT prog w) A E s (forIn [a:nrem] ((none,a):Option (Option Nat)×Nat) fun _ c=>do
        let x <- NB (lo+c.snd) (lo+c.snd-1)
        match x with
         |some less=>if less=true then pure (ForInStep.done (none,c.snd)) else pure (ForInStep.yield (none,c.snd+1))
         |_=>pure (ForInStep.done (some none,c.snd))) R st:=by
 refine cW (I:=fun x c z=>z=st/\c=(none,x)/\Seg (bO st) lo (lo+x)) ?_ ?_ ⟨rfl,rfl,hs⟩
 . rintro x c z hax hxn ⟨rfl, rfl, hz⟩;dsimp only;refine aR (WF hB h0 (by omega) (by omega) ?_)
   by_cases hl:K (bO z) (lo+x)<K (bO z) (lo+x-1)
   . simp only[hl, decide_true, if_true];exact aW (h x hax (by omega) hz (.inr hl))
   . simp only[hl, decide_false, bJ, if_false];exact aW ⟨rfl,rfl,TD hz fun _=>nN.mp hl⟩
 . rintro c z ⟨rfl, rfl, hz⟩;rw[show max a nrem=nrem by omega] at hz ⊢;exact h nrem han (aM _) hz (.inl rfl)
theorem ZD{st:SortSt}{lo n nrem:Nat}{Q:Option Nat->SortSt->Prop}(h0:IntKeys a₀)(hn:lo+nrem<=a₀.size)(h1:1<=n)(hnn:n<=nrem)(hB:TB a₀ st)(hs:Dsc (bO st) lo (lo+n))(h:∀m xs,Ch xs (bO st) lo (lo+nrem)->1<=m->m<=nrem->Seg xs lo (lo+m)->Q (some m) (eC st xs)) :
  wpS (aT prog w) A E s (dTail lo n nrem) Q st:=by
 unfold dTail;refine aR (ML (by rw[hB.sz];omega) fun xs c hk=>?_);refine aR (GX h0 hn h1 hnn (hB.arr c.1) ?_ fun m hm1 hm2 hsm _=>aW (h m xs (c.wide (aM _) (by omega)) (by omega) hm2 hsm));intro p q g1 g2 g3;show K xs p<=K xs q;rw[hk p g1 (by omega),hk q (by omega) g3];exact hs _ _ (by omega) (by omega) (by omega)
theorem JZ{st:SortSt}{lo n nrem:Nat}{Q:Option Nat->SortSt->Prop}(h0:IntKeys a₀)(hn:lo+nrem<=a₀.size)(hnn:n+1<=nrem)(hB:TB a₀ st)(hs:Dsc (bO st) lo (lo+(n+1)))(h:∀m xs,Ch xs (bO st) lo (lo+nrem)->1<=m->m<=nrem->Seg xs lo (lo+m)->Q (some m) (eC st xs)) :
  wpS (aT prog w) A E s (dPart lo n nrem) Q st:=by
 unfold dPart;refine aR (pU (iX ⟨rfl,?_⟩))
 refine aR (fY (cW
  (I:=fun x c z=>∃q xs,c=(none,x,q)/\z=eC st xs/\xs.Perm (bO st)/\(∀k,K xs k=K (bO st) k)/\Dsc xs lo (lo+x)/\q+1<=x/\∀i,lo+x-(q+1)<=i->i<lo+x->K xs i=K xs (lo+x-1))
  (Q:=fun c z=>∃x q xs,n+1<=x/\x<=nrem/\c=(none,x,q)/\z=eC st xs/\xs.Perm (bO st)/\(∀k,K xs k=K (bO st) k)/\Dsc xs lo (lo+x)/\q+1<=x/\∀i,lo+x-(q+1)<=i->i<lo+x->K xs i=K xs (lo+x-1))
  ?step ?fin ⟨0,bO st,rfl,rfl,kP _,fun _=>rfl,hs,by omega,fun i _ _=>by congr 1;omega⟩) ?post)
 case fin =>
  rintro c z ⟨q,xs,e1,e2,e3,e4,e5,e6,e7⟩;rw[show max (n+1) nrem=nrem by omega] at e1 e5 e6 e7;exact⟨nrem,q,xs,hnn,aM _,e1,e2,e3,e4,e5,e6,e7⟩
 case step =>
  rintro x c z hax hxn ⟨q,xs,rfl,rfl,hp,hk,hd,hq,he⟩;have hB':TB a₀ (eC st xs):=hB.arr hp;have hsz:lo+x<=(bO (eC st xs)).size:=by rw[hB'.sz];omega
  dsimp only;refine aR (WE hB' h0 (by omega) (by omega) ?_)
  by_cases hl:K xs (lo+x)<K xs (lo+x-1)
  . simp only [hl, decide_true, if_true];have hd1:Dsc xs lo (lo+x+1):=wF hd fun _=>dQ hl
    by_cases hq0:q>0
    . rw[if_pos hq0];refine aR (vA hsz he fun ys y1 y2=>aW ?_);exact⟨0,ys,rfl,rfl,y1.trans hp,fun k=>(y2 k).trans (hk k),vV hd1 y2,by omega,fun i _ _=>by congr 1;omega⟩
    . rw[if_neg hq0];exact aW ⟨0,xs,rfl,rfl,hp,hk,hd1,by omega,fun i _ _=>by congr 1;omega⟩
  . simp only [hl, decide_false, bJ, if_false];refine aR (WE hB' h0 (by omega) (by omega) ?_)
    by_cases hm:K xs (lo+x-1)<K xs (lo+x)
    . simp only[hm, decide_true, if_true];exact aW ⟨x,q,xs,hax,by omega,rfl,rfl,hp,hk,hd,hq,he⟩
    . simp only [hm, decide_false, bJ, if_false];have eq:K xs (lo+x)=K xs (lo+x - 1):=by omega
      refine aW ⟨q+1,xs,rfl,rfl,hp,hk,wF hd fun _=>Int.le_of_eq eq,by omega,fun i g1 g2=>?_⟩;rw[show lo+(x+1)-1=lo+x by omega]
      by_cases hi:i=lo+x
      . rw[hi]
      . rw[eq];exact he i (by omega) (by omega)
 case post =>
  rintro c z ⟨x,q,xs,hx1,hx2,rfl,rfl,hp,hk,hd,hq,he⟩;have hB':TB a₀ (eC st xs):=hB.arr hp;have hsz:lo+x<=(bO (eC st xs)).size:=by rw[hB'.sz];omega
  have fin:∀ys:Array Keyed,ys.Perm xs->(∀k,K ys k=K xs k)->wpS (aT prog w) A E s (dTail lo x nrem) Q (eC st ys):=fun ys y1 y2 =>
   ZD (st:=eC st ys) h0 hn (by omega) hx2 (hB.arr (y1.trans hp)) (vV hd y2) fun m zs c z1 z2 z3 =>
    h m zs (c.tr ⟨y1.trans hp,fun k _=>(y2 k).trans (hk k)⟩) z1 z2 z3
  dsimp only
  by_cases hq0:q>0
  . rw[if_pos hq0];exact aR (vA hsz he fun ys y1 y2=>fin ys y1 y2)
  . rw[if_neg hq0];exact fin xs (kP _) fun _=>rfl
theorem wp_run{st:SortSt}{lo nrem:Nat}{Q:Option Nat->SortSt->Prop}(h0:IntKeys a₀)(hn:lo+nrem<=a₀.size)(h1:1<=nrem)(hB:TB a₀ st)(h:∀m xs,Ch xs (bO st) lo (lo+nrem)->1<=m->m<=nrem->Seg xs lo (lo+m)->Q (some m) (eC st xs)) :
  wpS (aT prog w) A E s (countRun' lo nrem) Q st:=by
 rw[GN];unfold cRun;refine aR (GX h0 hn (aM 1) h1 hB (fun p q _ _ _=>by rw[show p=q by omega];exact eU _) fun n g1 g2 hs hor=>?_);dsimp only
 by_cases hnn:n=nrem
 . rw[if_pos (by simpa using hnn)];exact aW (h n _ Ch.rfl' g1 g2 hs)
 rw[if_neg (by simpa using hnn)];have hl:=hor.resolve_left hnn
 by_cases hgt:n>1
 . rw [if_pos hgt];refine aR (WF hB h0 (by omega) (by omega) ?_)
   by_cases hr:K (bO st) lo<K (bO st) (lo+n-1)
   . simp only[hr, decide_true, if_true];exact aW (h n _ Ch.rfl' g1 g2 hs)
   . simp only [hr, decide_false, bJ, if_false]
     have hall:∀k,lo<=k->k<lo+n->K (bO st) k=K (bO st) (lo+n-1):=fun k k1 k2=>by
      have a1:=hs lo k (aM _) k1 k2;have a2:=hs k (lo+n-1) k1 (by omega) (by omega);omega
     refine aR (vA (by rw[hB.sz];omega) hall fun ys y1 y2=>?_);refine JZ (st:=eC st ys) h0 hn (by omega) (hB.arr y1) ?_ fun m zs c z1 z2 z3=>h m zs (c.tr ⟨y1,fun k _=>y2 k⟩) z1 z2 z3;refine vV (xs:=bO st) ?_ y2;show Dsc (bO st) lo (lo+n+1);refine wF (fun p q k1 k2 k3=>?_) fun _=>dQ hl;rw[hall p k1 (by omega),hall q (by omega) k3];exact eU _
 . rw [if_neg hgt];have e:n=1:=by omega
   subst e;refine JZ h0 hn (by omega) hB ?_ h;exact wF (fun p q _ _ _=>by rw[show p=q by omega];exact eU _) fun _=>dQ hl
theorem wp_ins{st:SortSt}{lo n ok:Nat}{Q:Bool->SortSt->Prop}(h0:IntKeys a₀)(hn:lo+n<=a₀.size)(hok:ok<=n)(hB:TB a₀ st)(hs:Seg (bO st) lo (lo+ok))(h:∀xs,Ch xs (bO st) lo (lo+n)->Seg xs lo (lo+n)->Q true (eC st xs)):wpS (aT prog w) A E s (binarySort' lo n ok) Q st:=by
 rw[binarySort'_eq]
 refine aR (fY (cW (I:=fun k c z=>∃xs,c=(none,())/\z=eC st xs/\Ch xs (bO st) lo (lo+n)/\Seg xs lo (lo+min k n))
  (Q:=fun c z=>∃xs,c=(none,())/\z=eC st xs/\Ch xs (bO st) lo (lo+n)/\Seg xs lo (lo+n)) ?step ?fin ?init) ?post)
 case post =>
  rintro c z ⟨xs,rfl,rfl,c,hz⟩;exact aW (h xs c hz)
 case init =>
  refine⟨bO st,rfl,rfl,Ch.rfl',fun p q k1 k2 k3=>?_⟩
  by_cases g:ok=0
  . have e : p = q := by omega
    rw[e];exact eU _
  . exact hs p q k1 k2 (by omega)
 case fin =>
  rintro c z ⟨xs,e1,e2,e3,e4⟩;refine⟨xs,e1,e2,e3,?_⟩
  rwa [show min (max (max ok 1) n) n=n by omega] at e4
 case step =>
  rintro k c z hak hkn ⟨xs,rfl,rfl,c,hz⟩;rw[show min k n=k by omega] at hz;have hB':TB a₀ (eC st xs):=hB.arr c.1
  refine aR (fY (cW (I:=fun x e y=>y=eC st xs/\∃l r,e=(none,l,r)/\l<=r/\r<=k/\r-l<=k-x ∧
    (∀i,i<l->K xs (lo+i)<=K xs (lo+k))/\(∀i,r<=i->i<k->K xs (lo+k)<K xs (lo+i)))
   (Q:=fun e y=>y=eC st xs/\∃l r,e=(none,l,r)/\l<=k ∧
     (∀i,i<l->K xs (lo+i)<=K xs (lo+k))/\(∀i,l<=i->i<k->K xs (lo+k)<K xs (lo+i))) ?a ?b ?c) ?d)
  case c=>exact⟨rfl,0,k,rfl,by omega,by omega,by omega,fun i hi=>by omega,fun i _ _=>by omega⟩
  case b =>
   rintro e y ⟨rfl,l,r,rfl,g1,g2,g3,g4,g5⟩;have e:l=r:=by omega
   subst e;exact⟨rfl,l,l,rfl,g2,g4,g5⟩
  case a =>
   rintro x e y _ hx ⟨rfl,l,r,rfl,g1,g2,g3,g4,g5⟩;dsimp only
   by_cases hge:l≥r
   . rw [if_pos hge];have e:l=r:=by omega
     subst e;exact aW ⟨rfl,l,l,rfl,g2,g4,g5⟩
   . rw [if_neg hge];refine aR (WE hB' h0 (by omega) (by omega) ?_)
     by_cases hl:K xs (lo+k)<K xs (lo+(l+r)/2)
     . simp only[hl, decide_true, if_true];exact aW ⟨rfl,l,(l+r)/2,rfl,by omega,by omega,by omega,g4,fun i k1 k2=>Int.lt_of_lt_of_le hl (hz _ _ (by omega) (by omega) (by omega))⟩
     . simp only[hl, decide_false, bJ, if_false];exact aW ⟨rfl,(l+r)/2+1,r,rfl,by omega,by omega,by omega,fun i k1=>eR (hz (lo+i) (lo+(l+r)/2) (by omega) (by omega) (by omega)) (nN.mp hl),g5⟩
  case d =>
   rintro e y ⟨rfl,l,r,rfl,g1,g2,g3⟩;show wpS _ _ _ _ (do moveDown' (lo+k) (lo+l);pure (ForInStep.yield (none,()))) _ _;rw[moveDown'_eq];have hks:lo+k<xs.size:=by have:=hB'.sz;change xs.size=_ at this;omega
   have hkk:∀i,K (bubble xs (lo+k) (lo+k-(lo+l))) i=if i=lo+l then K xs (lo+k) else if lo+l<i/\i<=lo+k then K xs (i-1) else K xs i:=fun i=>by
    rw[K_bubble hks (by omega),show lo+k-(lo+k-(lo+l))=lo+l by omega]
   refine aR (iW (aW ⟨_,rfl,rfl,⟨(bubble_perm _ _ _).trans c.1,fun i hi=>?_⟩,?_⟩))
   . show K (bubble xs (lo + k) (lo + k-(lo + l))) i=_;rw[hkk,if_neg (by omega),if_neg (by omega)];exact c.2 i hi
   . rw [show min (k + 1) n = k + 1 by omega];intro p q k1 k2 k3;show K (bubble xs (lo+k) (lo+k - (lo+l))) p<=K (bubble xs (lo+k) (lo+k - (lo+l))) q;rw [hkk,hkk];have lo':∀ i,lo<=i->i < lo+l->K xs i<=K xs (lo+k):=fun i a b=>by have:=g2 (i - lo) (by omega); rwa [show lo+(i - lo)=i by omega] at this
     have hi':∀i,lo+l<=i->i<lo+k->K xs (lo+k)<=K xs i:=fun i a b=>by have:=g3 (i-lo) (by omega) (by omega);rw[show lo+(i-lo)=i by omega] at this;exact dQ this
     repeat' split
     all_goals first
      |(exfalso;omega)
      |exact eU _
      |exact lo' _ (by omega) (by omega)
      |exact hi' _ (by omega) (by omega)
      |exact hz _ _ (by omega) (by omega) (by omega)
end
set_option autoImplicit false
noncomputable def mH:Bool->Keyed->Array Keyed->Nat->Nat->Nat->StateT SortSt Sem (Option Nat):=sortPriv% PySem.Builtin.gallop
noncomputable def galB(ask:Nat->StateT SortSt Sem (Option Bool))(n l₀ h₀ : Nat):StateT SortSt Sem (Option Nat):=do
 let mut lo:=l₀
 let mut hi:=h₀
 for _ in [0:n] do
  if lo≥hi then break
  let mid:=lo+(hi-lo)/2
  let some yes <- ask mid | return none
  if yes then lo:=mid+1 else hi:=mid
 return some hi
noncomputable def gal(ask:Nat->StateT SortSt Sem (Option Bool))(n hint:Nat):StateT SortSt Sem (Option Nat):=do
 let mut last:=0
 let mut off:=1
 let mut lo:=0
 let mut hi:=0
 let some right <- ask hint | return none
 if right then
  let top:=n-hint
  for _ in [0:n] do
   if off≥top then break
   let some yes <- ask (hint+off) | return none
   if !yes then break
   last:=off
   off:=2*off+1
  lo:=hint+last+1
  hi:=hint+min off top
 else
  let top:=hint+1
  for _ in [0:n] do
   if off≥top then break
   let some yes <- ask (hint-off) | return none
   if yes then break
   last:=off
   off:=2*off+1
  lo:=hint+1-min off top
  hi:=hint-last
 galB ask n lo hi
theorem QI(left:Bool)(key:Keyed)(arr:Array Keyed)(base n hint:Nat):mH left key arr base n hint=gal (fun i=>do
  let x <- kO arr (base+i)
  if left then lt' x key else return (<- lt' key x).map (!·)) n hint:=rfl
section
variable{prog:aX}{w:bW}{A:bT}{E:aA->aC->Prop}{s:aC}
def Cut(g:Nat->Bool)(n r:Nat):Prop:=r<=n/\(∀i,i<r->g i=true)/\∀i,r<=i->i<n->g i=false
variable{st:SortSt}{ask:Nat->StateT SortSt Sem (Option Bool)}{g:Nat->Bool}{n:Nat}(hask:∀(i:Nat) (R:Option Bool->SortSt->Prop),i<n->R (some (g i)) st->wpS (aT prog w) A E s (ask i) R st)(mono:∀i j,i<=j->j<n->g j=true->g i=true)
include hask mono
theorem KC{l₀ h₀ : Nat}{Q:Option Nat->SortSt->Prop}(hle:l₀<=h₀)(hh:h₀<=n)(hl:∀i,i<l₀->g i=true)(hg:∀i,h₀<=i->i<n->g i=false)(h:∀r,Cut g n r->Q (some r) st):wpS (aT prog w) A E s (galB ask n l₀ h₀) Q st:=by
 unfold galB
 refine aR (fY (cW
  (I:=fun x c z=>z=st/\∃l r,c=(none,l,r)/\l<=r/\r<=n/\r-l<=n-x/\(∀i,i<l->g i=true)/\(∀i,r<=i->i<n->g i=false))
  (Q:=fun c z=>z=st/\∃l,∃r,c=(none,l,r)/\Cut g n r) ?a ?b ⟨rfl,l₀,h₀,rfl,hle,hh,by omega,hl,hg⟩) ?c)
 case c =>
  rintro c z ⟨rfl,l,r,rfl,hc⟩;exact aW (h r hc)
 case b =>
  rintro c z ⟨rfl,l,r,rfl,g1,g2,g3,g4,g5⟩;have e:l=r:=by omega
  subst e;exact⟨rfl,l,l,rfl,g2,g4,g5⟩
 case a =>
  rintro x c z _ hx ⟨rfl,l,r,rfl,g1,g2,g3,g4,g5⟩;dsimp only
  by_cases hge:l≥r
  . rw [if_pos hge];have e:l=r:=by omega
    subst e;exact aW ⟨rfl,l,l,rfl,g2,g4,g5⟩
  . rw [if_neg hge];refine aR (hask _ _ (by omega) ?_);dsimp only;cases hy:g (l+(r - l) / 2) with
    | true =>
      simp only[if_true];exact aW ⟨rfl,l+(r-l)/2+1,r,rfl,by omega,g2,by omega,fun i hi=>mono i _ (by omega) (by omega) hy,g5⟩
    | false =>
      simp only[bJ,if_false];refine aW ⟨rfl,l,l+(r-l)/2,rfl,by omega,by omega,by omega,g4,fun i h1 h2=>?_⟩;cases hi:g i with
      |false=>rfl
      |true=>rw[mono _ i h1 h2 hi] at hy;cases hy
theorem wp_gal{hint:Nat}{Q:Option Nat->SortSt->Prop}(hhint:hint<n)(h:∀r,Cut g n r->Q (some r) st):wpS (aT prog w) A E s (gal ask n hint) Q st:=by
 unfold gal;refine aR (hask _ _ hhint ?_);dsimp only;cases hr:g hint with
 | true =>
   simp only[if_true]
   refine aR (fY (cW
    (I:=fun x c z=>z=st/\∃l o,c=(none,l,o)/\l<o/\x+1<=o/\hint+l<n/\g (hint+l)=true)
    (Q:=fun c z=>z=st/\∃l o,c=(none,l,o)/\l<o/\hint+l<n/\g (hint+l)=true/\(n-hint<=o\/(hint+o<n/\g (hint+o)=false))) ?a ?b ⟨rfl,0,1,rfl,by omega,by omega,hhint,hr⟩) ?c)
   case c =>
    rintro c z ⟨rfl,l,o,rfl,h1,h2,h3,h4⟩;dsimp only;refine KC hask mono (by omega) (by omega) (fun i hi=>mono i _ (by omega) h2 h3) (fun i i1 i2=>?_) h;rcases h4 with h4 | ⟨h4,h5⟩
    . omega
    . cases hi : g i with
      |false=>rfl
      |true=>rw[mono _ i (by omega) i2 hi] at h5;cases h5
   case b =>
    rintro c z ⟨rfl,l,o,rfl,h1,h2,h3,h4⟩;exact⟨rfl,l,o,rfl,h1,h3,h4,.inl (by omega)⟩
   case a =>
    rintro x c z _ hx ⟨rfl,l,o,rfl,h1,h2,h3,h4⟩;dsimp only
    by_cases hge:o≥n-hint
    . rw[if_pos hge];exact aW ⟨rfl,l,o,rfl,h1,h3,h4,.inl hge⟩
    . rw [if_neg hge];refine aR (hask _ _ (by omega) ?_);dsimp only;cases hy:g (hint+o) with
      | true =>
        simp only[mP,bJ,if_false];exact aW ⟨rfl,o,2*o+1,rfl,by omega,by omega,by omega,hy⟩
      | false =>
        simp only[Bool.not_false,if_true];exact aW ⟨rfl,l,o,rfl,h1,h3,h4,.inr ⟨by omega,hy⟩⟩
 | false =>
   simp only[bJ,if_false]
   refine aR (fY (cW
    (I:=fun x c z=>z=st/\∃l o,c=(none,l,o)/\l<o/\x+1<=o/\l<=hint/\g (hint-l)=false)
    (Q:=fun c z=>z=st/\∃l o,c=(none,l,o)/\l<o/\l<=hint/\g (hint-l)=false/\(hint+1<=o\/(o<=hint/\g (hint-o)=true))) ?a ?b ⟨rfl,0,1,rfl,by omega,by omega,by omega,hr⟩) ?c)
   case c =>
    rintro c z ⟨rfl,l,o,rfl,h1,h2,h3,h4⟩;dsimp only;refine KC hask mono (by omega) (by omega) (fun i hi=>?_) (fun i i1 i2=>?_) h
    . rcases h4 with h4 | ⟨h4, h5⟩
      . omega
      . exact mono i _ (by omega) (by omega) h5
    . cases hi : g i with
      |false=>rfl
      |true=>rw[mono _ i i1 i2 hi] at h3;cases h3
   case b =>
    rintro c z ⟨rfl,l,o,rfl,h1,h2,h3,h4⟩;exact⟨rfl,l,o,rfl,h1,h3,h4,.inl (by omega)⟩
   case a =>
    rintro x c z _ hx ⟨rfl,l,o,rfl,h1,h2,h3,h4⟩;dsimp only
    by_cases hge:o≥hint+1
    . rw[if_pos hge];exact aW ⟨rfl,l,o,rfl,h1,h3,h4,.inl hge⟩
    . rw [if_neg hge];refine aR (hask _ _ (by omega) ?_);dsimp only;cases hy:g (hint - o) with
      | true =>
        simp only[if_true];exact aW ⟨rfl,l,o,rfl,h1,h3,h4,.inr ⟨by omega,hy⟩⟩
      | false =>
        simp only[bJ,if_false];exact aW ⟨rfl,o,2*o+1,rfl,by omega,by omega,by omega,hy⟩
end
section
variable{prog:aX}{w:bW}{A:bT}{E:aA->aC->Prop}{s:aC}{st:SortSt}
theorem KA{x y:Keyed}{Q:Option Bool->SortSt->Prop}(hk:kindOf st=gP)(hx:IsI x)(hy:IsI y)(h:Q (some (decide (ky x<ky y))) st) :
  wpS (aT prog w) A E s (lt' x y) Q st:=by
 obtain⟨x1,x2⟩:=x;obtain⟨y1,y2⟩:=y;obtain⟨a,t,ha⟩:=hx;obtain⟨b,u,hb⟩:=hy;simp only at ha hb;subst ha hb;rw[lt'_eq];refine aR (oJ ?_);rw[hk,keyLt'_oneType];refine aR (pU (wpAny_attempt (oneLt_int ⟨rfl,?_⟩)));exact aW h
theorem qG{arr:Array Keyed}{i:Nat}{p:Keyed}{Q:Keyed->SortSt->Prop}(hp:arr[i]?=some p)(h:Q p st):wpS (aT prog w) A E s (kO arr i) Q st:=by
 rw[elem'_eq,hp];exact aW h
theorem jY{left:Bool}{key:Keyed}{arr:Array Keyed}{base n hint:Nat}{Q:Option Nat->SortSt->Prop}(hk:kindOf st=gP)(hkey:IsI key)(hI:∀p∈arr.toList,IsI p)(hb:base+n<=arr.size)(hs:Seg arr base (base+n))(hhint:hint<n)(h:∀r,r<=n->(∀i,base<=i->i<base+r->if left then K arr i<ky key else K arr i<=ky key)->(∀i,base+r<=i->i<base+n->if left then ky key<=K arr i else ky key<K arr i)->Q (some r) st) :
  wpS (aT prog w) A E s (mH left key arr base n hint) Q st:=by
 rw[QI];refine wp_gal (g:=fun i=>if left then decide (K arr (base+i)<ky key) else decide (K arr (base+i)<=ky key)) ?_ ?_ hhint ?_
 . intro i R hi hR;have hi':base+i < arr.size:=by omega
   have e:arr[base+i]?=some arr[base+i]:=getElem?_pos arr (base+i) hi';have hp:IsI arr[base+i]:=hI _ (by simp);have eK:K arr (base+i)=ky arr[base+i]:=K_eq hi';refine aR (qG e ?_);cases left with
   | true =>
     simp only[if_true] at hR ⊢;refine KA hk hp hkey ?_;rw[<- eK];exact hR
   | false =>
     simp only[bJ,if_false] at hR ⊢;refine aR (KA hk hkey hp ?_);refine aW ?_
     have:(Option.map (fun x=>!x) (some (decide (ky key<ky arr[base+i]))))=some (decide (K arr (base+i)<=ky key)):=by
      rw[eK];simp only[cQ,Option.some.injEq]
      by_cases hlt:ky key<ky arr[base+i]
      . simp[hlt,Int.not_le.mpr hlt]
      . simp[hlt,nN.mp hlt]
     rw[this];exact hR
 . intro i j hij hj hg;have:=hs (base+i) (base+j) (by omega) (by omega) (by omega);cases left<;>simp only[bJ,if_false,if_true,decide_eq_true_eq] at hg ⊢<;>omega
 . rintro r ⟨h1, h2, h3⟩;refine h r h1 (fun i i1 i2=>?_) fun i i1 i2=>?_
   . have := h2 (i-base) (by omega);dsimp only at this;rw[show base+(i-base)=i by omega] at this;cases left<;>simpa using this
   . have := h3 (i-base) (by omega) (by omega);dsimp only at this;rw[show base+(i-base)=i by omega] at this;cases left<;>simpa using this
end
set_option autoImplicit false
def Sd(l:List Keyed):Prop:=l.Pairwise fun p q=>ky p<=ky q
theorem Sd.app{l r:List Keyed}: Sd (l++r)↔Sd l/\Sd r/\∀p∈l,∀q∈r,ky p<=ky q:=by
 unfold Sd;rw[oA]
theorem vD{a:Array Keyed}(h:Sd a.toList){i j:Nat}(hj:j<=a.size):Seg a i j:=by
 intro p q h1 h2 h3;rw[K_eq (show p<a.size by omega),K_eq (show q<a.size by omega)]
 by_cases e:p=q
 . subst e;exact eU _
 . have := cO.mp h p q (by simp;omega) (by simp;omega) (by omega);simpa[ky] using this
theorem jO{a:Array Keyed}{i:Nat}{p:Keyed}(h:a.toList[i]?=some p):i<a.size/\K a i=ky p:=by
 obtain⟨h1,h2⟩:=bF.mp h;have h1':i<a.size:=by simpa using h1
 refine⟨h1',?_⟩;rw[K_eq h1',<- h2];simp[ky]
theorem vK{l:List Keyed}{x:Nat}{p:Keyed}(h:p∈l.drop x):∃i,x<=i/\l[i]?=some p:=by
 obtain⟨i,hi,e⟩:=iA h;refine⟨x+i,by omega,?_⟩;rw[<- mC,aZ hi,e]
theorem jJ{l:List Keyed}{x k:Nat}{p:Keyed}(h:p∈(l.drop x).take k):∃i,x<=i/\i<x+k/\l[i]?=some p:=by
 obtain⟨i,hi,e⟩:=iA h;have hk:i<k:=by rw[fQ] at hi;omega
 refine⟨x+i,by omega,by omega,?_⟩;rw[<- mC,<- iG hk,aZ hi,e]
theorem xY{l:List Keyed}{k:Nat}{p:Keyed}(h:p∈l.take k):∃i,i<k/\l[i]?=some p:=by
 obtain⟨i,hi,e⟩:=iA h;have hk:i<k:=by rw[fQ] at hi;omega
 exact⟨i,hk,by rw[<- iG hk,aZ hi,e]⟩
theorem kF{a:Array Keyed}(h:Sd a.toList){x:Nat}{p:Keyed}(hp:a.toList[x]?=some p):∀q∈a.toList.drop x,ky p<=ky q:=by
 intro q hq;obtain⟨i,h1,h2⟩:=vK hq;obtain⟨g1,g2⟩:=jO hp;obtain⟨g3,g4⟩:=jO h2;rw[<- g2,<- g4];exact vD h (aM _) x i (aM _) h1 g3
theorem ZR{a:Array Keyed}(h:Sd a.toList){x:Nat}{p:Keyed}(hp:a.toList[x]?=some p):∀q∈a.toList.take (x+1),ky q<=ky p:=by
 intro q hq;obtain⟨i,h1,h2⟩:=xY hq;obtain⟨g1,g2⟩:=jO hp;obtain⟨g3,g4⟩:=jO h2;rw[<- g2,<- g4];exact vD h (aM _) i x (bY _) (by omega) g1
structure Mg(a b:List Keyed)(o:List Keyed)(x y:Nat):Prop where
 xa:x<=a.length
 yb:y<=b.length
 pm:(o++(a.drop x++b.drop y)).Perm (a++b)
 sd:Sd o
 le:∀p∈o,∀q,(q∈a.drop x\/q∈b.drop y)->ky p<=ky q
theorem Mg.stepA{a b o:List Keyed}{x y:Nat}(m:Mg a b o x y)(ha:Sd a)(t:List Keyed)(k:Nat)(ht:t=(a.drop x).take k)(hk:x+k<=a.length)(h:∀p∈t,∀q∈b.drop y,ky p<=ky q) :
  Mg a b (o++t) (x+k) y:=by
 have e:a.drop x=t++a.drop (x+k):=by rw[ht,<- oF,gE]
 have hs:Sd (t++a.drop (x+k)):=by rw[<- e];exact bZ (gJ ..) ha
 obtain⟨s1,s2,s3⟩:=Sd.app.mp hs;refine⟨hk,m.yb,?_,?_,?_⟩
 . have := m.pm;rw[e] at this;rw[bR,<- bR t];exact this
 . exact Sd.app.mpr ⟨m.sd,s1,fun p hp q hq=>m.le p hp q (.inl (by rw[e];exact bE _ hq))⟩
 . intro p hp q hq;rcases bM.mp hp with hp | hp
   . refine m.le p hp q ?_;rcases hq with hq | hq
     . exact .inl (by rw[e];exact aI _ hq)
     . exact .inr hq
   . rcases hq with hq | hq
     . exact s3 p hp q hq
     . exact h p hp q hq
theorem Mg.stepB{a b o:List Keyed}{x y:Nat}(m:Mg a b o x y)(hb:Sd b)(t:List Keyed)(k:Nat)(ht:t=(b.drop y).take k)(hk:y+k<=b.length)(h:∀p∈t,∀q∈a.drop x,ky p<=ky q) :
  Mg a b (o++t) x (y+k):=by
 have e:b.drop y=t++b.drop (y+k):=by rw[ht,<- oF,gE]
 have hs:Sd (t++b.drop (y+k)):=by rw[<- e];exact bZ (gJ ..) hb
 obtain⟨s1,s2,s3⟩:=Sd.app.mp hs;refine⟨m.xa,hk,?_,?_,?_⟩
 . refine List.Perm.trans ?_ m.pm;rw[e,bR];refine fU _ ?_;rw[<- bR,<- bR];exact iL _ kR
 . exact Sd.app.mpr ⟨m.sd,s1,fun p hp q hq=>m.le p hp q (.inr (by rw[e];exact bE _ hq))⟩
 . intro p hp q hq;rcases bM.mp hp with hp | hp
   . refine m.le p hp q ?_;rcases hq with hq | hq
     . exact .inl hq
     . exact .inr (by rw[e];exact aI _ hq)
   . rcases hq with hq | hq
     . exact h p hp q hq
     . exact s3 p hp q hq
def Dn(a b:List Keyed)(r:List Keyed):Prop:=r.Perm (a++b)/\Sd r
theorem Mg.endF{a b o:List Keyed}{x y:Nat}(m:Mg a b o x y)(ha:Sd a)(hb:Sd b)(h:x=a.length\/y=b.length):Dn a b (o++a.drop x++b.drop y):=by
 refine⟨by rw[bR];exact m.pm,?_⟩;rw[bR];refine Sd.app.mpr ⟨m.sd,?_,fun p hp q hq=>m.le p hp q (bM.mp hq)⟩;rcases h with h | h
 . rw[h,kT,fZ];exact bZ (gJ ..) hb
 . rw[h,kT,fC];exact bZ (gJ ..) ha
theorem Mg.endA{a b o:List Keyed}{x y:Nat}(m:Mg a b o x y)(hb:Sd b)(h:x+1=a.length)(hl:∀q∈b,∀p,a[a.length-1]?=some p->ky q<=ky p):Dn a b (o++b.drop y++a.drop x):=by
 obtain⟨p,hp⟩:∃p,a.drop x=[p]:=by
  have hl:(a.drop x).length=1:=by rw[sD];omega
  match he:a.drop x,hl with
  |[p],_=>exact⟨p,rfl⟩
 have hp':a[a.length-1]?=some p:=by
  have:=mC (xs:=a) (i:=x) (j:=0);rw[hp] at this;rw[show a.length-1=x+0 by omega,<- this];rfl
 refine⟨?_,?_⟩
 . refine List.Perm.trans ?_ m.pm;rw[bR];exact fU _ kR
 . rw [bR];refine Sd.app.mpr ⟨m.sd,Sd.app.mpr ⟨bZ (gJ ..) hb,?_,?_⟩,?_⟩
   . rw[hp];exact eG _ _
   . intro q hq r hr;rw[hp] at hr;rw[aP.mp hr];exact hl q (oE hq) p hp'
   . intro q hq r hr;rcases bM.mp hr with hr | hr
     . exact m.le q hq r (.inr hr)
     . exact m.le q hq r (.inl hr)
noncomputable def tK:Array Keyed->Array Keyed->StateT SortSt Sem (Array Keyed):=sortPriv% PySem.Builtin.mergeLo
noncomputable def tL:Array Keyed->Array Keyed->StateT SortSt Sem (Array Keyed):=sortPriv% PySem.Builtin.mergeHi
noncomputable def setMG(g:Nat):StateT SortSt Sem Unit:=(sortPriv% PySem.Builtin.setMinGallop) g
abbrev gst(z:SortSt)(g:Nat):SortSt:=SortSt.mk' (kindOf z) (bO z) (bQ z) g (pW z)
theorem wB(g:Nat):setMG g=modify fun z=>gst z g:=rfl
abbrev GS:=Option (Array Keyed)×Array Keyed×Nat×Nat×Nat×Nat×Nat
abbrev OS:=Option (Array Keyed)×Array Keyed×Nat×Nat×Nat×Nat
abbrev TSt:=Option (Array Keyed)×Array Keyed×Nat×Nat×Nat
noncomputable def fin(a b o:Array Keyed)(x y:Nat):Array Keyed:=o++a.extract x a.size++b.extract y b.size
noncomputable def finA(a b o:Array Keyed)(x y:Nat):Array Keyed:=o++b.extract y b.size++a.extract x a.size
noncomputable def lo3(a b o:Array Keyed)(x y mg ca cb:Nat):StateT SortSt Sem (ForInStep GS):=do
 let p <- kO a x
 if (x+1+1==a.size)=true then pure (ForInStep.done (some (finA a b (o.push p) (x+1) y),o.push p,x+1,y,mg,ca,cb))
 else if (decide (ca<7)&&decide (cb<7))=true then pure (ForInStep.done (none,o.push p,x+1,y,mg,ca,cb))
 else pure (ForInStep.yield (none,o.push p,x+1,y,mg,ca,cb))
noncomputable def lo2(a b o:Array Keyed)(x y mg ca cb:Nat):StateT SortSt Sem (ForInStep GS):=do
 let p <- kO b y
 if (y+1==b.size)=true then pure (ForInStep.done (some (fin a b (o.push p) x (y+1)),o.push p,x,y+1,mg,ca,cb))
 else do
  let q <- kO a x
  let r <- mH true q b (y+1) (b.size-(y+1)) 0
  match r with
   | some k =>
     if k>0 then
      if (y+1+k==b.size)=true then pure (ForInStep.done (some (fin a b (o.push p++b.extract (y+1) (y+1+k)) x (y+1+k)),o.push p++b.extract (y+1) (y+1+k),x,y+1+k,mg,ca,k))
      else lo3 a b (o.push p++b.extract (y+1) (y+1+k)) x (y+1+k) mg ca k
     else lo3 a b (o.push p) x (y+1) mg ca k
   |_=>pure (ForInStep.done (some (fin a b (o.push p) x (y+1)),o.push p,x,y+1,mg,ca,cb))
noncomputable def lo1(a b o:Array Keyed)(x y mg ca cb:Nat):StateT SortSt Sem (ForInStep GS):=do
 setMG mg
 let q <- kO b y
 let r <- mH false q a x (a.size-x) 0
 match r with
  | some k =>
    if k>0 then
     if (x+k+1==a.size)=true then pure (ForInStep.done (some (finA a b (o++a.extract x (x+k)) (x+k) y),o++a.extract x (x+k),x+k,y,mg,k,cb))
     else if (x+k==a.size)=true then pure (ForInStep.done (some (fin a b (o++a.extract x (x+k)) (x+k) y),o++a.extract x (x+k),x+k,y,mg,k,cb))
     else lo2 a b (o++a.extract x (x+k)) (x+k) y mg k cb
    else lo2 a b o x y mg k cb
  |_=>pure (ForInStep.done (some (fin a b o x y),o,x,y,mg,ca,cb))
noncomputable def loO(a b:Array Keyed)(mg:Nat)(c:OS):StateT SortSt Sem (ForInStep OS):=do
 let p <- kO b c.2.2.2.1
 let q <- kO a c.2.2.1
 let r <- lt' p q
 match r with
  | some bw =>
    if bw=true then do
     let p <- kO b c.2.2.2.1
     if (c.2.2.2.1+1==b.size)=true then pure (ForInStep.done (some (fin a b (c.2.1.push p) c.2.2.1 (c.2.2.2.1+1)),c.2.1.push p,c.2.2.1,c.2.2.2.1+1,0,c.2.2.2.2.2+1))
     else if c.2.2.2.2.2+1≥mg then pure (ForInStep.done (none,c.2.1.push p,c.2.2.1,c.2.2.2.1+1,0,c.2.2.2.2.2+1))
     else pure (ForInStep.yield (none,c.2.1.push p,c.2.2.1,c.2.2.2.1+1,0,c.2.2.2.2.2+1))
    else do
     let p <- kO a c.2.2.1
     if (c.2.2.1+1+1==a.size)=true then pure (ForInStep.done (some (finA a b (c.2.1.push p) (c.2.2.1+1) c.2.2.2.1),c.2.1.push p,c.2.2.1+1,c.2.2.2.1,c.2.2.2.2.1+1,0))
     else if c.2.2.2.2.1+1≥mg then pure (ForInStep.done (none,c.2.1.push p,c.2.2.1+1,c.2.2.2.1,c.2.2.2.2.1+1,0))
     else pure (ForInStep.yield (none,c.2.1.push p,c.2.2.1+1,c.2.2.2.1,c.2.2.2.2.1+1,0))
  |_=>pure (ForInStep.done (some (fin a b c.2.1 c.2.2.1 c.2.2.2.1),c.2.1,c.2.2.1,c.2.2.2.1,c.2.2.2.2.1,c.2.2.2.2.2))
noncomputable def loT(a b:Array Keyed)(c:TSt):StateT SortSt Sem (ForInStep TSt):=do
 let d <- forIn [0:a.size+b.size] ((none,c.2.1,c.2.2.1,c.2.2.2.1,0,0):OS) fun _ d=>loO a b c.2.2.2.2 d
 match d.1 with
  |some r=>pure (ForInStep.done (some r,d.2.1,d.2.2.1,d.2.2.2.1,c.2.2.2.2))
  | none => do
    liftM (rule "list.sort.gallop")
    let e <- forIn [0:a.size+b.size] ((none,d.2.1,d.2.2.1,d.2.2.2.1,c.2.2.2.2+1,d.2.2.2.2.1,d.2.2.2.2.2):GS) fun _ e =>
     if e.2.2.2.2.1>1 then lo1 a b e.2.1 e.2.2.1 e.2.2.2.1 (e.2.2.2.2.1-1) e.2.2.2.2.2.1 e.2.2.2.2.2.2 else lo1 a b e.2.1 e.2.2.1 e.2.2.2.1 e.2.2.2.2.1 e.2.2.2.2.2.1 e.2.2.2.2.2.2
    match e.1 with
     |some r=>pure (ForInStep.done (some r,e.2.1,e.2.2.1,e.2.2.2.1,e.2.2.2.2.1))
     | none => do
       setMG (e.2.2.2.2.1+1)
       pure (ForInStep.yield (none,e.2.1,e.2.2.1,e.2.2.2.1,e.2.2.2.2.1+1))
noncomputable def mLo(a b:Array Keyed):StateT SortSt Sem (Array Keyed):=do
 liftM (rule "list.sort.merge-lo")
 let p <- kO b 0
 if (1==b.size)=true then pure (fin a b #[p] 0 1)
 else if (0+1==a.size)=true then pure (finA a b #[p] 0 1)
 else do
  let z <- get
  let c <- forIn [0:a.size+b.size] ((none,#[p],0,1,nX z):TSt) fun _ c=>loT a b c
  match c.1 with
   |some r=>pure r
   |none=>liftM (unsupported "internal:list.sort.merge-bound" : Sem (Array Keyed))
theorem IU(a b:Array Keyed):tK a b=mLo a b:=by kernel_rfl
structure Two(a b:Array Keyed):Prop where
 sa:Sd a.toList
 sb:Sd b.toList
 ia:∀p∈a.toList,IsI p
 ib:∀p∈b.toList,IsI p
 na:1<=a.size
 nb:1<=b.size
 fst:∀p∈a.toList,∀q,b.toList[0]?=some q->ky q<=ky p
 lst:∀q∈b.toList,∀p,a.toList[a.toList.length-1]?=some p->ky q<=ky p
theorem XB(a b o:Array Keyed)(x y:Nat):(fin a b o x y).toList=o.toList++a.toList.drop x++b.toList.drop y:=by
 unfold fin;simp only[cX,eD,List.extract_eq_drop_take];congr 1
 . congr 1;rw[dP (by simp)]
 . rw[dP (by simp)]
theorem QK(a b o:Array Keyed)(x y:Nat):(finA a b o x y).toList=o.toList++b.toList.drop y++a.toList.drop x:=by
 unfold finA;simp only[cX,eD,List.extract_eq_drop_take];congr 1
 . congr 1;rw[dP (by simp)]
 . rw[dP (by simp)]
theorem wC(a:Array Keyed)(x k:Nat):(a.extract x (x+k)).toList=(a.toList.drop x).take k:=by
 simp only[eD,List.extract_eq_drop_take];congr 1;omega
theorem wH{l:List Keyed}{x:Nat}{p:Keyed}(h:l[x]?=some p):[p]=(l.drop x).take 1:=by
 obtain⟨h1,h2⟩:=bF.mp h;rw[dX h1,h2];rfl
theorem jB{a:Array Keyed}{x:Nat}(h:x<a.size):∃p,a[x]?=some p/\a.toList[x]?=some p/\p∈a.toList :=
 ⟨a[x],getElem?_pos a x h,by rw[cD];exact getElem?_pos a x h,by simp⟩
section
variable{prog:aX}{w:bW}{A:bT}{E:aA->aC->Prop}{s:aC}{a b:Array Keyed}
structure In(a b o:Array Keyed)(x y:Nat):Prop where
 mg:Mg a.toList b.toList o.toList x y
 x1:x+1<a.size
 y1:y<b.size
def Told(a b:Array Keyed)(r:Array Keyed):Prop:=Dn a.toList b.toList r.toList
theorem Mg.pushA{o:Array Keyed}{x y:Nat}{p:Keyed}(T:Two a b)(m:Mg a.toList b.toList o.toList x y)(hp:a.toList[x]?=some p)(h:∀q∈b.toList.drop y,ky p<=ky q) :
  Mg a.toList b.toList (o.push p).toList (x+1) y:=by
 rw[dO];refine m.stepA T.sa [p] 1 (wH hp) ?_ fun q hq=>by rw[aP.mp hq];exact h
 obtain⟨h1,_⟩:=bF.mp hp;omega
theorem Mg.pushB{o:Array Keyed}{x y:Nat}{p:Keyed}(T:Two a b)(m:Mg a.toList b.toList o.toList x y)(hp:b.toList[y]?=some p)(h:∀q∈a.toList.drop x,ky p<=ky q) :
  Mg a.toList b.toList (o.push p).toList x (y+1):=by
 rw[dO];refine m.stepB T.sb [p] 1 (wH hp) ?_ fun q hq=>by rw[aP.mp hq];exact h
 obtain⟨h1,_⟩:=bF.mp hp;omega
theorem Mg.told{o:Array Keyed}{x y:Nat}(T:Two a b)(m:Mg a.toList b.toList o.toList x y)(h:x=a.size\/y=b.size):Told a b (fin a b o x y):=by
 unfold Told;rw[XB];exact m.endF T.sa T.sb (by simpa using h)
theorem Mg.toldA{o:Array Keyed}{x y:Nat}(T:Two a b)(m:Mg a.toList b.toList o.toList x y)(h:x+1=a.size):Told a b (finA a b o x y):=by
 unfold Told;rw[QK];exact m.endA T.sb (by simpa using h) T.lst
def GOk(a b:Array Keyed)(st:SortSt)(n:Nat)(c:GS)(z:SortSt):Prop :=
 (∃g,z=gst st g)/\((∃r o x y mg ca cb,c=(some r,o,x,y,mg,ca,cb)/\Told a b r)\/∃o x y mg ca cb,c=(none,o,x,y,mg,ca,cb)/\In a b o x y/\n<=x+y)
def OOk(a b:Array Keyed)(st:SortSt)(n:Nat)(c:OS)(z:SortSt):Prop :=
 (∃g,z=gst st g)/\((∃r o x y ca cb,c=(some r,o,x,y,ca,cb)/\Told a b r)\/∃o x y ca cb,c=(none,o,x,y,ca,cb)/\In a b o x y/\n<=x+y)
theorem SF{st:SortSt}{o:Array Keyed}{x y mg ca cb g n:Nat}{Q:ForInStep GS->SortSt->Prop}(T:Two a b)(m:In a b o x y)(hn:n<=x+y+1)(hle:∀p,a.toList[x]?=some p->∀q∈b.toList.drop y,ky p<=ky q)(hd:∀c,GOk a b st n c (gst st g)->Q (.done c) (gst st g))(hy:∀o x y mg ca cb,In a b o x y->n<=x+y->Q (.yield (none,o,x,y,mg,ca,cb)) (gst st g)) :
  wpS (aT prog w) A E s (lo3 a b o x y mg ca cb) Q (gst st g):=by
 obtain⟨p,p1,p2,p3⟩:=jB (a:=a) (x:=x) (by have:=m.x1;omega);have m':=m.mg.pushA T p2 (hle p p2);unfold lo3;refine aR (qG p1 ?_)
 by_cases h1:x+1+1=a.size
 . rw[if_pos (by simpa using h1)];exact aW (hd _ ⟨⟨g,rfl⟩,.inl ⟨_,_,_,_,_,_,_,rfl,m'.toldA T h1⟩⟩)
 . rw [if_neg (by simpa using h1)];have hin:In a b (o.push p) (x+1) y:=⟨m',by have:=m.x1; omega,m.y1⟩
   split
   . exact aW (hd _ ⟨⟨g,rfl⟩,.inr ⟨_,_,_,_,_,_,rfl,hin,by omega⟩⟩)
   . exact aW (hy _ _ _ _ _ _ hin (by omega))
theorem SG{st:SortSt}{o:Array Keyed}{x y mg ca cb g n:Nat}{Q:ForInStep GS->SortSt->Prop}(hk:kindOf st=gP)(T:Two a b)(m:In a b o x y)(hn:n<=x+y+1)(hle:∀p,b.toList[y]?=some p->∀q∈a.toList.drop x,ky p<=ky q)(hd:∀c,GOk a b st n c (gst st g)->Q (.done c) (gst st g))(hy:∀o x y mg ca cb,In a b o x y->n<=x+y->Q (.yield (none,o,x,y,mg,ca,cb)) (gst st g)) :
  wpS (aT prog w) A E s (lo2 a b o x y mg ca cb) Q (gst st g):=by
 obtain⟨p,p1,p2,p3⟩:=jB (a:=b) (x:=y) m.y1;obtain⟨q,q1,q2,q3⟩:=jB (a:=a) (x:=x) (by have:=m.x1;omega);have m':=m.mg.pushB T p2 (hle p p2);unfold lo2;refine aR (qG p1 ?_)
 by_cases h1:y+1=b.size
 . rw[if_pos (by simpa using h1)];exact aW (hd _ ⟨⟨g,rfl⟩,.inl ⟨_,_,_,_,_,_,_,rfl,m'.told T (.inr h1)⟩⟩)
 . rw [if_neg (by simpa using h1)];have hy1:y+1 < b.size:=by have:=m.y1; omega
   refine aR (qG q1 ?_);refine aR (jY hk (T.ia q q3) T.ib (by omega) (vD T.sb (by omega)) (by omega) fun k k1 k2 k3=>?_);simp only[if_true] at k2 k3;dsimp only
   have hrest:∀j,j=y+1+k->∀p',a.toList[x]?=some p'->∀u∈b.toList.drop j,ky p'<=ky u:=by
    rintro j rfl p' hp' u hu;rw[q2] at hp';cases hp';obtain⟨i,i1,i2⟩:=vK hu;obtain⟨i3,i4⟩:=jO i2;rw[<- i4];exact k3 i i1 (by omega)
   by_cases hk0:k>0
   . rw [if_pos hk0]
     have m2:Mg a.toList b.toList (o.push p++b.extract (y+1) (y+1+k)).toList x (y+1+k):=by
      rw[cX];refine m'.stepB T.sb _ k (wC b (y+1) k) (by rw[bB];omega) fun u hu v hv=>?_;rw[wC] at hu;obtain⟨i,i1,i2,i3⟩:=jJ hu;obtain⟨i4,i5⟩:=jO i3;have:=k2 i i1 i2;have h2:=kF T.sa q2 v hv;omega
     by_cases h2:y+1+k=b.size
     . rw[if_pos (by simpa using h2)];exact aW (hd _ ⟨⟨g,rfl⟩,.inl ⟨_,_,_,_,_,_,_,rfl,m2.told T (.inr h2)⟩⟩)
     . rw[if_neg (by simpa using h2)];exact SF T ⟨m2,m.x1,by omega⟩ (by omega) (hrest _ rfl) hd hy
   . rw[if_neg hk0];exact SF T ⟨m',m.x1,hy1⟩ (by omega) (hrest _ (by omega)) hd hy
theorem SH{st:SortSt}{o:Array Keyed}{x y mg ca cb g n:Nat}{Q:ForInStep GS->SortSt->Prop}(hk:kindOf st=gP)(T:Two a b)(m:In a b o x y)(hn:n<=x+y+1)(hd:∀c z,GOk a b st n c z->Q (.done c) z)(hy:∀o x y mg ca cb g,In a b o x y->n<=x+y->Q (.yield (none,o,x,y,mg,ca,cb)) (gst st g)) :
  wpS (aT prog w) A E s (lo1 a b o x y mg ca cb) Q (gst st g):=by
 obtain⟨p,p1,p2,p3⟩:=jB (a:=b) (x:=y) m.y1;have hx1:=m.x1;unfold lo1;rw[wB];refine aR (iW ?_);show wpS (aT prog w) A E s _ _ (gst st mg);refine aR (qG p1 ?_);refine aR (jY hk (T.ib p p3) T.ia (by omega) (vD T.sa (by omega)) (by omega) fun k k1 k2 k3=>?_);simp only[bJ,if_false] at k2 k3;dsimp only
 have hrest:∀j,j=x+k->∀p',b.toList[y]?=some p'->∀u∈a.toList.drop j,ky p'<=ky u:=by
  rintro j rfl p' hp' u hu;rw[p2] at hp';cases hp';obtain⟨i,i1,i2⟩:=vK hu;obtain⟨i3,i4⟩:=jO i2;rw[<- i4];exact dQ (k3 i i1 (by omega))
 by_cases hk0:k>0
 . rw [if_pos hk0]
   have m2:Mg a.toList b.toList (o++a.extract x (x+k)).toList (x+k) y:=by
    rw[cX];refine m.mg.stepA T.sa _ k (wC a x k) (by rw[bB];omega) fun u hu v hv=>?_;rw[wC] at hu;obtain⟨i,i1,i2,i3⟩:=jJ hu;obtain⟨i4,i5⟩:=jO i3;have:=k2 i i1 i2;have h2:=kF T.sb p2 v hv;omega
   by_cases h1:x+k+1=a.size
   . rw[if_pos (by simpa using h1)];exact aW (hd _ _ ⟨⟨_,rfl⟩,.inl ⟨_,_,_,_,_,_,_,rfl,m2.toldA T h1⟩⟩)
   rw[if_neg (by simpa using h1)]
   by_cases h2:x+k=a.size
   . rw[if_pos (by simpa using h2)];exact aW (hd _ _ ⟨⟨_,rfl⟩,.inl ⟨_,_,_,_,_,_,_,rfl,m2.told T (.inl h2)⟩⟩)
   rw[if_neg (by simpa using h2)];exact SG hk T ⟨m2,by omega,m.y1⟩ (by omega) (hrest _ rfl) (fun c h=>hd c _ h) fun o x y mg' ca cb=>hy o x y mg' ca cb mg
 . rw[if_neg hk0];exact SG hk T m hn (hrest _ (by omega)) (fun c h=>hd c _ h) fun o x y mg' ca cb=>hy o x y mg' ca cb mg
theorem wp_loO{st:SortSt}{o:Array Keyed}{x y ca cb mg g n:Nat}{Q:ForInStep OS->SortSt->Prop}(hk:kindOf st=gP)(T:Two a b)(m:In a b o x y)(hn:n<=x+y+1)(hd:∀c,OOk a b st n c (gst st g)->Q (.done c) (gst st g))(hy:∀o x y ca cb,In a b o x y->n<=x+y->Q (.yield (none,o,x,y,ca,cb)) (gst st g)) :
  wpS (aT prog w) A E s (loO a b mg (none,o,x,y,ca,cb)) Q (gst st g):=by
 obtain⟨p,p1,p2,p3⟩:=jB (a:=b) (x:=y) m.y1;obtain⟨q,q1,q2,q3⟩:=jB (a:=a) (x:=x) (by have:=m.x1;omega);have hx1:=m.x1;have hy1:=m.y1;unfold loO;dsimp only;refine aR (qG p1 (aR (qG q1 ?_)));refine aR (KA hk (T.ib p p3) (T.ia q q3) ?_);dsimp only
 by_cases hl:ky p<ky q
 . rw [if_pos (by simpa using hl)];have m':=m.mg.pushB T p2 fun u hu=>eR (dQ hl) (kF T.sa q2 u hu);refine aR (qG p1 ?_)
   by_cases h1:y+1=b.size
   . rw[if_pos (by simpa using h1)];exact aW (hd _ ⟨⟨_,rfl⟩,.inl ⟨_,_,_,_,_,_,rfl,m'.told T (.inr h1)⟩⟩)
   rw[if_neg (by simpa using h1)];have hin:In a b (o.push p) x (y+1):=⟨m',hx1,by omega⟩
   split
   . exact aW (hd _ ⟨⟨_,rfl⟩,.inr ⟨_,_,_,_,_,rfl,hin,by omega⟩⟩)
   . exact aW (hy _ _ _ _ _ hin (by omega))
 . rw [if_neg (by simpa using hl)];have m':=m.mg.pushA T q2 fun u hu=>eR (nN.mp hl) (kF T.sb p2 u hu);refine aR (qG q1 ?_)
   by_cases h1:x+1+1=a.size
   . rw[if_pos (by simpa using h1)];exact aW (hd _ ⟨⟨_,rfl⟩,.inl ⟨_,_,_,_,_,_,rfl,m'.toldA T h1⟩⟩)
   rw[if_neg (by simpa using h1)];have hin:In a b (o.push q) (x+1) y:=⟨m',by omega,hy1⟩
   split
   . exact aW (hd _ ⟨⟨_,rfl⟩,.inr ⟨_,_,_,_,_,rfl,hin,by omega⟩⟩)
   . exact aW (hy _ _ _ _ _ hin (by omega))
theorem wp_loT{st:SortSt}{o:Array Keyed}{x y mg g:Nat}{Q:ForInStep TSt->SortSt->Prop}(hk:kindOf st=gP)(T:Two a b)(m:In a b o x y)(hd:∀r o x y mg g,Told a b r->Q (.done (some r,o,x,y,mg)) (gst st g))(hy:∀o' x' y' mg g,In a b o' x' y'->x+y+1<=x'+y'->Q (.yield (none,o',x',y',mg)) (gst st g)) :
  wpS (aT prog w) A E s (loT a b (none,o,x,y,mg)) Q (gst st g):=by
 have hna:=T.na;have hnb:=T.nb;unfold loT;dsimp only
 refine aR (fY (cW (I:=fun i c z=>∃o' x' y' ca cb g,c=(none,o',x',y',ca,cb)/\z=gst st g/\In a b o' x' y'/\x+y+i<=x'+y')
  (Q:=fun c z=>OOk a b st (x+y+1) c z) ?s1 ?s2 ⟨o,x,y,0,0,g,rfl,rfl,m,by omega⟩) ?s3)
 case s2 =>
  rintro c z ⟨o',x',y',ca,cb,g',rfl,rfl,m',hle⟩;exact⟨⟨_,rfl⟩,.inr ⟨_,_,_,_,_,rfl,m',by omega⟩⟩
 case s1 =>
  rintro i c z _ hi ⟨o',x',y',ca,cb,g',rfl,rfl,m',hle⟩;refine wp_loO (n:=x+y+(i+1)) hk T m' (by omega) (fun c hc=>?_) fun o2 x2 y2 ca cb m2 h2=>⟨o2,x2,y2,ca,cb,g',rfl,rfl,m2,h2⟩
  obtain⟨h1,h2⟩:=hc;refine⟨h1,?_⟩;rcases h2 with h2 | ⟨o2,x2,y2,ca,cb,e,m2,h2⟩
  . exact .inl h2
  . exact .inr ⟨o2,x2,y2,ca,cb,e,m2,by omega⟩
 case s3 =>
  rintro c z ⟨⟨g',rfl⟩,hc⟩;rcases hc with⟨r,o2,x2,y2,ca,cb,rfl,hr⟩ | ⟨o2,x2,y2,ca,cb,rfl,m2,h2⟩
  . dsimp only;exact aW (hd _ _ _ _ _ _ hr)
  . dsimp only;refine aR (pU (iX ⟨rfl,?_⟩))
    refine aR (fY (cW (I:=fun i c z=>∃o' x' y' mg ca cb g,c=(none,o',x',y',mg,ca,cb)/\z=gst st g/\In a b o' x' y'/\x+y+1<=x'+y')
     (Q:=fun c z=>GOk a b st (x+y+1) c z) ?s4 ?s5 ⟨o2,x2,y2,mg+1,ca,cb,g',rfl,rfl,m2,h2⟩) ?s6)
    case s5 =>
     rintro c z ⟨o',x',y',mg',ca,cb,g',rfl,rfl,m',hle⟩;exact⟨⟨_,rfl⟩,.inr ⟨_,_,_,_,_,_,rfl,m',by omega⟩⟩
    case s4 =>
     rintro i c z _ hi ⟨o',x',y',mg',ca,cb,g',rfl,rfl,m',hle⟩;dsimp only
     split
     . exact SH (n:=x+y+1) hk T m' (by omega) (fun c z hc=>hc) fun o2 x2 y2 mg ca cb g m2 h2=>⟨o2,x2,y2,mg,ca,cb,g,rfl,rfl,m2,h2⟩
     . exact SH (n:=x+y+1) hk T m' (by omega) (fun c z hc=>hc) fun o2 x2 y2 mg ca cb g m2 h2=>⟨o2,x2,y2,mg,ca,cb,g,rfl,rfl,m2,h2⟩
    case s6 =>
     rintro c z ⟨⟨g',rfl⟩,hc⟩;rcases hc with⟨r,o2,x2,y2,mg',ca,cb,rfl,hr⟩ | ⟨o2,x2,y2,mg',ca,cb,rfl,m2,h2⟩
     . dsimp only;exact aW (hd _ _ _ _ _ _ hr)
     . dsimp only;rw[wB];exact aR (iW (aW (hy _ _ _ _ _ m2 h2)))
theorem HQ{st:SortSt}{Q:Array Keyed->SortSt->Prop}(hk:kindOf st=gP)(T:Two a b)(h:∀r g,Told a b r->Q r (gst st g)) :
  wpS (aT prog w) A E s (tK a b) Q st:=by
 have hna:=T.na;have hnb:=T.nb;obtain⟨p,p1,p2,p3⟩:=jB (a:=b) (x:=0) (by omega);have m0:Mg a.toList b.toList [] 0 0:=⟨bY _,bY _,by simp,List.Pairwise.nil,fun p hp=>absurd hp (by simp)⟩
 have m1:Mg a.toList b.toList (#[]:Array Keyed).toList 0 0:=m0;have m:Mg a.toList b.toList (#[p]:Array Keyed).toList 0 1:=m1.pushB T p2 fun q hq=>T.fst q (oE hq) p p2;rw[IU];unfold mLo;refine aR (pU (iX ⟨rfl,?_⟩));refine aR (qG p1 ?_)
 by_cases h1:1=b.size
 . rw[if_pos (by simpa using h1)];exact aW (h _ (nX st) (m.told T (.inr h1)))
 rw[if_neg (by simpa using h1)]
 by_cases h2:0+1=a.size
 . rw[if_pos (by simpa using h2)];exact aW (h _ (nX st) (m.toldA T h2))
 rw[if_neg (by simpa using h2)];refine aR (oJ ?_)
 refine aR (fY (cW (I:=fun i c z=>∃o x y mg g,c=(none,o,x,y,mg)/\z=gst st g/\In a b o x y/\i+1<=x+y)
  (Q:=fun c z=>∃r o x y mg g,c=(some r,o,x,y,mg)/\z=gst st g/\Told a b r) ?s1 ?s2 ⟨#[p],0,1,_,nX st,rfl,rfl,⟨m,by omega,by omega⟩,by omega⟩) ?s3)
 case s2 =>
  rintro c z ⟨o,x,y,mg,g,rfl,rfl,m,hle⟩;have:=m.x1;have:=m.y1;omega
 case s1 =>
  rintro i c z _ hi ⟨o,x,y,mg,g,rfl,rfl,m,hle⟩;exact wp_loT hk T m (fun r o x y mg g hr=>⟨r,o,x,y,mg,g,rfl,rfl,hr⟩) fun o x y mg g m h=>⟨o,x,y,mg,g,rfl,rfl,m,by omega⟩
 case s3 =>
  rintro c z ⟨r,o,x,y,mg,g,rfl,rfl,hr⟩;exact aW (h r g hr)
end
set_option autoImplicit false
noncomputable def fiH(a b o:Array Keyed)(x y:Nat):Array Keyed:=a.extract 0 x++b.extract 0 y++o.reverse
noncomputable def fiB(a b o:Array Keyed)(x y:Nat):Array Keyed:=b.extract 0 y++a.extract 0 x++o.reverse
abbrev GH:=Option (Array Keyed)×Nat×Nat×Array Keyed×Nat×Nat×Nat
abbrev OH:=Option (Array Keyed)×Nat×Nat×Array Keyed×Nat×Nat
abbrev TH:=Option (Array Keyed)×Nat×Nat×Array Keyed×Nat
noncomputable def hi3(a b o:Array Keyed)(x y mg ca cb:Nat):StateT SortSt Sem (ForInStep GH):=do
 let p <- kO a (x-1)
 if (x-1==0)=true then pure (ForInStep.done (some (fiH a b (o.push p) (x-1) y),x-1,y,o.push p,mg,ca,cb))
 else if (decide (ca<7)&&decide (cb<7))=true then pure (ForInStep.done (none,x-1,y,o.push p,mg,ca,cb))
 else pure (ForInStep.yield (none,x-1,y,o.push p,mg,ca,cb))
noncomputable def hi2(a b o:Array Keyed)(x y mg ca cb:Nat):StateT SortSt Sem (ForInStep GH):=do
 let p <- kO b (y-1)
 if (y-1==1)=true then pure (ForInStep.done (some (fiB a b (o.push p) x (y-1)),x,y-1,o.push p,mg,ca,cb))
 else do
  let q <- kO a (x-1)
  let r <- mH true q b 0 (y-1) (y-1-1)
  match r with
   | some t =>
     if y-1-t>0 then
      if (t==1)=true then pure (ForInStep.done (some (fiB a b (o.push p++(b.extract t (y-1)).reverse) x t),x,t,o.push p++(b.extract t (y-1)).reverse,mg,ca,y-1-t))
      else if (t==0)=true then pure (ForInStep.done (some (fiH a b (o.push p++(b.extract t (y-1)).reverse) x t),x,t,o.push p++(b.extract t (y-1)).reverse,mg,ca,y-1-t))
      else hi3 a b (o.push p++(b.extract t (y-1)).reverse) x t mg ca (y-1-t)
     else hi3 a b (o.push p) x (y-1) mg ca (y-1-t)
   |_=>pure (ForInStep.done (some (fiH a b (o.push p) x (y-1)),x,y-1,o.push p,mg,ca,cb))
noncomputable def hi1(a b o:Array Keyed)(x y mg ca cb:Nat):StateT SortSt Sem (ForInStep GH):=do
 setMG mg
 let q <- kO b (y-1)
 let r <- mH false q a 0 x (x-1)
 match r with
  | some t =>
    if x-t>0 then
     if (t==0)=true then pure (ForInStep.done (some (fiH a b (o++(a.extract t x).reverse) t y),t,y,o++(a.extract t x).reverse,mg,x-t,cb))
     else hi2 a b (o++(a.extract t x).reverse) t y mg (x-t) cb
    else hi2 a b o x y mg (x-t) cb
  |_=>pure (ForInStep.done (some (fiH a b o x y),x,y,o,mg,ca,cb))
noncomputable def hiO(a b:Array Keyed)(mg:Nat)(c:OH):StateT SortSt Sem (ForInStep OH):=do
 let p <- kO b (c.2.2.1-1)
 let q <- kO a (c.2.1-1)
 let r <- lt' p q
 match r with
  | some aw =>
    if aw=true then do
     let p <- kO a (c.2.1-1)
     if (c.2.1-1==0)=true then pure (ForInStep.done (some (fiH a b (c.2.2.2.1.push p) (c.2.1-1) c.2.2.1),c.2.1-1,c.2.2.1,c.2.2.2.1.push p,c.2.2.2.2.1+1,0))
     else if c.2.2.2.2.1+1≥mg then pure (ForInStep.done (none,c.2.1-1,c.2.2.1,c.2.2.2.1.push p,c.2.2.2.2.1+1,0))
     else pure (ForInStep.yield (none,c.2.1-1,c.2.2.1,c.2.2.2.1.push p,c.2.2.2.2.1+1,0))
    else do
     let p <- kO b (c.2.2.1-1)
     if (c.2.2.1-1==1)=true then pure (ForInStep.done (some (fiB a b (c.2.2.2.1.push p) c.2.1 (c.2.2.1-1)),c.2.1,c.2.2.1-1,c.2.2.2.1.push p,0,c.2.2.2.2.2+1))
     else if c.2.2.2.2.2+1≥mg then pure (ForInStep.done (none,c.2.1,c.2.2.1-1,c.2.2.2.1.push p,0,c.2.2.2.2.2+1))
     else pure (ForInStep.yield (none,c.2.1,c.2.2.1-1,c.2.2.2.1.push p,0,c.2.2.2.2.2+1))
  |_=>pure (ForInStep.done (some (fiH a b c.2.2.2.1 c.2.1 c.2.2.1),c.2.1,c.2.2.1,c.2.2.2.1,c.2.2.2.2.1,c.2.2.2.2.2))
noncomputable def hiT(a b:Array Keyed)(c:TH):StateT SortSt Sem (ForInStep TH):=do
 let d <- forIn [0:a.size+b.size] ((none,c.2.1,c.2.2.1,c.2.2.2.1,0,0):OH) fun _ d=>hiO a b c.2.2.2.2 d
 match d.1 with
  |some r=>pure (ForInStep.done (some r,d.2.1,d.2.2.1,d.2.2.2.1,c.2.2.2.2))
  | none => do
    liftM (rule "list.sort.gallop")
    let e <- forIn [0:a.size+b.size] ((none,d.2.1,d.2.2.1,d.2.2.2.1,c.2.2.2.2+1,d.2.2.2.2.1,d.2.2.2.2.2):GH) fun _ e =>
     if e.2.2.2.2.1>1 then hi1 a b e.2.2.2.1 e.2.1 e.2.2.1 (e.2.2.2.2.1-1) e.2.2.2.2.2.1 e.2.2.2.2.2.2 else hi1 a b e.2.2.2.1 e.2.1 e.2.2.1 e.2.2.2.2.1 e.2.2.2.2.2.1 e.2.2.2.2.2.2
    match e.1 with
     |some r=>pure (ForInStep.done (some r,e.2.1,e.2.2.1,e.2.2.2.1,e.2.2.2.2.1))
     | none => do
       setMG (e.2.2.2.2.1+1)
       pure (ForInStep.yield (none,e.2.1,e.2.2.1,e.2.2.2.1,e.2.2.2.2.1+1))
noncomputable def mHi(a b:Array Keyed):StateT SortSt Sem (Array Keyed):=do
 liftM (rule "list.sort.merge-hi")
 let p <- kO a (a.size-1)
 if (a.size-1==0)=true then pure (fiH a b #[p] (a.size-1) b.size)
 else if (b.size==1)=true then pure (fiB a b #[p] (a.size-1) b.size)
 else do
  let z <- get
  let c <- forIn [0:a.size+b.size] ((none,a.size-1,b.size,#[p],nX z):TH) fun _ c=>hiT a b c
  match c.1 with
   |some r=>pure r
   |none=>liftM (unsupported "internal:list.sort.merge-bound" : Sem (Array Keyed))
theorem IV(a b:Array Keyed):tL a b=mHi a b:=by kernel_rfl
structure Mh(a b:List Keyed)(o:List Keyed)(x y:Nat):Prop where
 xa:x<=a.length
 yb:y<=b.length
 pm:((a.take x++b.take y)++o.reverse).Perm (a++b)
 sd:Sd o.reverse
 le:∀p∈o,∀q,(q∈a.take x\/q∈b.take y)->ky q<=ky p
theorem EC(l:List Keyed){j x:Nat}(h:j<=x):l.take x=l.take j++(l.drop j).take (x-j):=by
 conv=>lhs;rw[show x=j+(x-j) by omega,List.take_add]
theorem Mh.stepA{a b o:List Keyed}{x y:Nat}(m:Mh a b o x y)(ha:Sd a)(t:List Keyed)(j:Nat)(ht:t=(a.drop j).take (x-j))(hj:j<=x)(h:∀p∈t,∀q∈b.take y,ky q<=ky p) :
  Mh a b (o++t.reverse) j y:=by
 have e:a.take x=a.take j++t:=by rw[ht];exact EC a hj
 have hs:Sd (a.take j++t):=by rw[<- e];exact bZ (fF ..) ha
 obtain⟨s1,s2,s3⟩:=Sd.app.mp hs;refine⟨cT hj m.xa,m.yb,?_,?_,?_⟩
 . refine List.Perm.trans ?_ m.pm;rw[e,hW,kZ,<- bR];refine iL _ ?_;rw[bR,bR];exact fU _ kR
 . rw[hW, kZ];exact Sd.app.mpr ⟨s2,m.sd,fun q hq p hp=>m.le p (cJ.mp hp) q (.inl (by rw[e];exact aI _ hq))⟩
 . intro p hp q hq;rcases bM.mp hp with hp | hp
   . refine m.le p hp q ?_;rcases hq with hq | hq
     . exact .inl (by rw[e];exact bE _ hq)
     . exact .inr hq
   . rcases hq with hq | hq
     . exact s3 q hq p (cJ.mp hp)
     . exact h p (cJ.mp hp) q hq
theorem Mh.stepB{a b o:List Keyed}{x y:Nat}(m:Mh a b o x y)(hb:Sd b)(t:List Keyed)(j:Nat)(ht:t=(b.drop j).take (y-j))(hj:j<=y)(h:∀p∈t,∀q∈a.take x,ky q<=ky p) :
  Mh a b (o++t.reverse) x j:=by
 have e:b.take y=b.take j++t:=by rw[ht];exact EC b hj
 have hs:Sd (b.take j++t):=by rw[<- e];exact bZ (fF ..) hb
 obtain⟨s1,s2,s3⟩:=Sd.app.mp hs;refine⟨m.xa,cT hj m.yb,?_,?_,?_⟩
 . refine List.Perm.trans ?_ m.pm;rw[e,hW,kZ,<- bR,<- bR]
 . rw[hW, kZ];exact Sd.app.mpr ⟨s2,m.sd,fun q hq p hp=>m.le p (cJ.mp hp) q (.inr (by rw[e];exact aI _ hq))⟩
 . intro p hp q hq;rcases bM.mp hp with hp | hp
   . refine m.le p hp q ?_;rcases hq with hq | hq
     . exact .inl hq
     . exact .inr (by rw[e];exact bE _ hq)
   . rcases hq with hq | hq
     . exact h p (cJ.mp hp) q hq
     . exact s3 q hq p (cJ.mp hp)
theorem Mh.endF{a b o:List Keyed}{x y:Nat}(m:Mh a b o x y)(ha:Sd a)(hb:Sd b)(h:x=0\/y=0):Dn a b (a.take x++b.take y++o.reverse):=by
 refine⟨m.pm,Sd.app.mpr ⟨?_,m.sd,fun q hq p hp=>m.le p (cJ.mp hp) q (bM.mp hq)⟩⟩;rcases h with h | h
 . rw[h,YY,fZ];exact bZ (fF ..) hb
 . rw[h,YY,fC];exact bZ (fF ..) ha
theorem Mh.endB{a b o:List Keyed}{x y:Nat}(m:Mh a b o x y)(ha:Sd a)(h:y=1)(hf:∀p∈a,∀q,b[0]?=some q->ky q<=ky p):Dn a b (b.take y++a.take x++o.reverse):=by
 subst h;refine⟨?_,Sd.app.mpr ⟨Sd.app.mpr ⟨?_,bZ (fF ..) ha,?_⟩,m.sd,?_⟩⟩
 . refine List.Perm.trans ?_ m.pm;exact iL _ kR
 . match b with
   |[]=>exact List.Pairwise.nil
   |q::r=>exact eG _ _
 . intro q hq p hp;obtain ⟨i,i1,i2⟩:=xY hq;have:i=0:=by omega
   subst this;exact hf p (oC hp) q i2
 . intro q hq p hp;refine m.le p (cJ.mp hp) q ?_;rcases bM.mp hq with h | h
   . exact .inr h
   . exact .inl h
theorem XC(a b o:Array Keyed)(x y:Nat):(fiH a b o x y).toList=a.toList.take x++b.toList.take y++o.toList.reverse:=by
 unfold fiH;simp only[cX,eD,List.extract_eq_drop_take,kX,uN,HG]
theorem XD(a b o:Array Keyed)(x y:Nat):(fiB a b o x y).toList=b.toList.take y++a.toList.take x++o.toList.reverse:=by
 unfold fiB;simp only[cX,eD,List.extract_eq_drop_take,kX,uN,HG]
theorem jQ(a:Array Keyed)(j x:Nat):(a.extract j x).toList=(a.toList.drop j).take (x-j):=by
 simp only[eD,List.extract_eq_drop_take]
section
variable{prog:aX}{w:bW}{A:bT}{E:aA->aC->Prop}{s:aC}{a b:Array Keyed}
structure InH(a b o:Array Keyed)(x y:Nat):Prop where
 mh:Mh a.toList b.toList o.toList x y
 x1:1<=x
 y1:2<=y
theorem Mh.pushA{o:Array Keyed}{x y:Nat}{p:Keyed}(T:Two a b)(m:Mh a.toList b.toList o.toList x y)(hx:1<=x)(hp:a.toList[x-1]?=some p)(h:∀q∈b.toList.take y,ky q<=ky p) :
  Mh a.toList b.toList (o.push p).toList (x-1) y:=by
 rw[dO];exact m.stepA T.sa [p] (x-1) (by rw[show x-(x-1)=1 by omega];exact wH hp) (by omega) fun q hq=>by rw[aP.mp hq];exact h
theorem Mh.pushB{o:Array Keyed}{x y:Nat}{p:Keyed}(T:Two a b)(m:Mh a.toList b.toList o.toList x y)(hy:1<=y)(hp:b.toList[y-1]?=some p)(h:∀q∈a.toList.take x,ky q<=ky p) :
  Mh a.toList b.toList (o.push p).toList x (y-1):=by
 rw[dO];exact m.stepB T.sb [p] (y-1) (by rw[show y-(y-1)=1 by omega];exact wH hp) (by omega) fun q hq=>by rw[aP.mp hq];exact h
theorem Mh.told{o:Array Keyed}{x y:Nat}(T:Two a b)(m:Mh a.toList b.toList o.toList x y)(h:x=0\/y=0):Told a b (fiH a b o x y):=by
 unfold Told;rw[XC];exact m.endF T.sa T.sb h
theorem Mh.toldB{o:Array Keyed}{x y:Nat}(T:Two a b)(m:Mh a.toList b.toList o.toList x y)(h:y=1):Told a b (fiB a b o x y):=by
 unfold Told;rw[XD];exact m.endB T.sa h T.fst
def GHok(a b:Array Keyed)(st:SortSt)(n:Nat)(c:GH)(z:SortSt):Prop :=
 (∃g,z=gst st g)/\((∃r x y o mg ca cb,c=(some r,x,y,o,mg,ca,cb)/\Told a b r)\/∃x y o mg ca cb,c=(none,x,y,o,mg,ca,cb)/\InH a b o x y/\x+y<=n)
def OHok(a b:Array Keyed)(st:SortSt)(n:Nat)(c:OH)(z:SortSt):Prop :=
 (∃g,z=gst st g)/\((∃r x y o ca cb,c=(some r,x,y,o,ca,cb)/\Told a b r)\/∃x y o ca cb,c=(none,x,y,o,ca,cb)/\InH a b o x y/\x+y<=n)
theorem InH.xs{o:Array Keyed}{x y:Nat}(m:InH a b o x y):x-1<a.size:=by have:=m.mh.xa;have:=m.x1;rw[bB] at *;omega
theorem InH.ys{o:Array Keyed}{x y:Nat}(m:InH a b o x y):y-1<b.size:=by have:=m.mh.yb;have:=m.y1;rw[bB] at *;omega
theorem BY{c:Array Keyed}(h:Sd c.toList){x:Nat}{p:Keyed}(hx:1<=x)(hp:c.toList[x-1]?=some p):∀q∈c.toList.take x,ky q<=ky p:=by
 have:=ZR h hp
 rwa [show x-1+1=x by omega] at this
theorem SJ{st:SortSt}{o:Array Keyed}{x y mg ca cb g n:Nat}{Q:ForInStep GH->SortSt->Prop}(T:Two a b)(m:InH a b o x y)(hn:x+y<=n+1)(hle:∀p,a.toList[x-1]?=some p->∀q∈b.toList.take y,ky q<=ky p)(hd:∀c,GHok a b st n c (gst st g)->Q (.done c) (gst st g))(hy:∀x y o mg ca cb,InH a b o x y->x+y<=n->Q (.yield (none,x,y,o,mg,ca,cb)) (gst st g)) :
  wpS (aT prog w) A E s (hi3 a b o x y mg ca cb) Q (gst st g):=by
 obtain⟨p,p1,p2,p3⟩:=jB (a:=a) (x:=x-1) m.xs;have hx:=m.x1;have m':=m.mh.pushA T hx p2 (hle p p2);unfold hi3;refine aR (qG p1 ?_)
 by_cases h1:x-1=0
 . rw[if_pos (by simpa using h1)];exact aW (hd _ ⟨⟨g,rfl⟩,.inl ⟨_,_,_,_,_,_,_,rfl,m'.told T (.inl h1)⟩⟩)
 . rw [if_neg (by simpa using h1)];have hin:InH a b (o.push p) (x - 1) y:=⟨m',by omega,m.y1⟩
   split
   . exact aW (hd _ ⟨⟨g,rfl⟩,.inr ⟨_,_,_,_,_,_,rfl,hin,by omega⟩⟩)
   . exact aW (hy _ _ _ _ _ _ hin (by omega))
theorem SK{st:SortSt}{o:Array Keyed}{x y mg ca cb g n:Nat}{Q:ForInStep GH->SortSt->Prop}(hk:kindOf st=gP)(T:Two a b)(m:InH a b o x y)(hn:x+y<=n+1)(hle:∀p,b.toList[y-1]?=some p->∀q∈a.toList.take x,ky q<=ky p)(hd:∀c,GHok a b st n c (gst st g)->Q (.done c) (gst st g))(hy:∀x y o mg ca cb,InH a b o x y->x+y<=n->Q (.yield (none,x,y,o,mg,ca,cb)) (gst st g)) :
  wpS (aT prog w) A E s (hi2 a b o x y mg ca cb) Q (gst st g):=by
 obtain⟨p,p1,p2,p3⟩:=jB (a:=b) (x:=y-1) m.ys;obtain⟨q,q1,q2,q3⟩:=jB (a:=a) (x:=x-1) m.xs;have hx:=m.x1;have hy2:=m.y1;have hys:=m.ys;have m':=m.mh.pushB T (by omega) p2 (hle p p2);unfold hi2;refine aR (qG p1 ?_)
 by_cases h1:y-1=1
 . rw[if_pos (by simpa using h1)];exact aW (hd _ ⟨⟨g,rfl⟩,.inl ⟨_,_,_,_,_,_,_,rfl,m'.toldB T h1⟩⟩)
 . rw [if_neg (by simpa using h1)];refine aR (qG q1 ?_);refine aR (jY hk (T.ia q q3) T.ib (by omega) (vD T.sb (by omega)) (by omega) fun t k1 k2 k3=>?_);simp only [if_true,Nat.zero_add] at k2 k3;dsimp only
   have hrest:∀j,j=t->∀p',a.toList[x-1]?=some p'->∀u∈b.toList.take j,ky u<=ky p':=by
    rintro j rfl p' hp' u hu;rw[q2] at hp';cases hp';obtain⟨i,i1,i2⟩:=xY hu;obtain⟨i3,i4⟩:=jO i2;rw[<- i4];exact dQ (k2 i (bY _) i1)
   by_cases hk0:y-1-t>0
   . rw [if_pos hk0]
     have m2:Mh a.toList b.toList (o.push p++(b.extract t (y-1)).reverse).toList x t:=by
      rw[cX,kX];refine m'.stepB T.sb _ t (jQ b t (y-1)) k1 fun u hu v hv=>?_;rw[jQ] at hu;obtain⟨i,i1,i2,i3⟩:=jJ hu;obtain⟨i4,i5⟩:=jO i3;have:=k3 i i1 (by omega);have h2:=BY T.sa hx q2 v hv;omega
     by_cases h2:t=1
     . rw[if_pos (by simpa using h2)];exact aW (hd _ ⟨⟨g,rfl⟩,.inl ⟨_,_,_,_,_,_,_,rfl,m2.toldB T h2⟩⟩)
     rw[if_neg (by simpa using h2)]
     by_cases h3:t=0
     . rw[if_pos (by simpa using h3)];exact aW (hd _ ⟨⟨g,rfl⟩,.inl ⟨_,_,_,_,_,_,_,rfl,m2.told T (.inr h3)⟩⟩)
     rw[if_neg (by simpa using h3)];exact SJ T ⟨m2,hx,by omega⟩ (by omega) (hrest _ rfl) hd hy
   . rw[if_neg hk0];exact SJ T ⟨m',hx,by omega⟩ (by omega) (hrest _ (by omega)) hd hy
theorem SM{st:SortSt}{o:Array Keyed}{x y mg ca cb g n:Nat}{Q:ForInStep GH->SortSt->Prop}(hk:kindOf st=gP)(T:Two a b)(m:InH a b o x y)(hn:x+y<=n+1)(hd:∀c z,GHok a b st n c z->Q (.done c) z)(hy:∀x y o mg ca cb g,InH a b o x y->x+y<=n->Q (.yield (none,x,y,o,mg,ca,cb)) (gst st g)) :
  wpS (aT prog w) A E s (hi1 a b o x y mg ca cb) Q (gst st g):=by
 obtain⟨p,p1,p2,p3⟩:=jB (a:=b) (x:=y-1) m.ys;have hx:=m.x1;have hy2:=m.y1;have hxs:=m.xs;unfold hi1;rw[wB];refine aR (iW ?_);show wpS (aT prog w) A E s _ _ (gst st mg);refine aR (qG p1 ?_);refine aR (jY hk (T.ib p p3) T.ia (by omega) (vD T.sa (by omega)) (by omega) fun t k1 k2 k3=>?_);simp only[bJ,if_false,Nat.zero_add] at k2 k3;dsimp only
 have hrest:∀j,j=t->∀p',b.toList[y-1]?=some p'->∀u∈a.toList.take j,ky u<=ky p':=by
  rintro j rfl p' hp' u hu;rw[p2] at hp';cases hp';obtain⟨i,i1,i2⟩:=xY hu;obtain⟨i3,i4⟩:=jO i2;rw[<- i4];exact k2 i (bY _) i1
 by_cases hk0:x-t>0
 . rw [if_pos hk0]
   have m2:Mh a.toList b.toList (o++(a.extract t x).reverse).toList t y:=by
    rw[cX,kX];refine m.mh.stepA T.sa _ t (jQ a t x) k1 fun u hu v hv=>?_;rw[jQ] at hu;obtain⟨i,i1,i2,i3⟩:=jJ hu;obtain⟨i4,i5⟩:=jO i3;have:=k3 i i1 (by omega);have h2:=BY T.sb (by omega) p2 v hv;omega
   by_cases h1:t=0
   . rw[if_pos (by simpa using h1)];exact aW (hd _ _ ⟨⟨_,rfl⟩,.inl ⟨_,_,_,_,_,_,_,rfl,m2.told T (.inl h1)⟩⟩)
   rw[if_neg (by simpa using h1)];exact SK hk T ⟨m2,by omega,hy2⟩ (by omega) (hrest _ rfl) (fun c h=>hd c _ h) fun x y o mg' ca cb=>hy x y o mg' ca cb mg
 . rw[if_neg hk0];exact SK hk T m hn (hrest _ (by omega)) (fun c h=>hd c _ h) fun x y o mg' ca cb=>hy x y o mg' ca cb mg
theorem wp_hiO{st:SortSt}{o:Array Keyed}{x y ca cb mg g n:Nat}{Q:ForInStep OH->SortSt->Prop}(hk:kindOf st=gP)(T:Two a b)(m:InH a b o x y)(hn:x+y<=n+1)(hd:∀c,OHok a b st n c (gst st g)->Q (.done c) (gst st g))(hy:∀x y o ca cb,InH a b o x y->x+y<=n->Q (.yield (none,x,y,o,ca,cb)) (gst st g)) :
  wpS (aT prog w) A E s (hiO a b mg (none,x,y,o,ca,cb)) Q (gst st g):=by
 obtain⟨p,p1,p2,p3⟩:=jB (a:=b) (x:=y-1) m.ys;obtain⟨q,q1,q2,q3⟩:=jB (a:=a) (x:=x-1) m.xs;have hx:=m.x1;have hy2:=m.y1;unfold hiO;dsimp only;refine aR (qG p1 (aR (qG q1 ?_)));refine aR (KA hk (T.ib p p3) (T.ia q q3) ?_);dsimp only
 by_cases hl:ky p<ky q
 . rw [if_pos (by simpa using hl)];have m':=m.mh.pushA T hx q2 fun u hu=>eR (BY T.sb (by omega) p2 u hu) (dQ hl);refine aR (qG q1 ?_)
   by_cases h1:x-1=0
   . rw[if_pos (by simpa using h1)];exact aW (hd _ ⟨⟨_,rfl⟩,.inl ⟨_,_,_,_,_,_,rfl,m'.told T (.inl h1)⟩⟩)
   rw[if_neg (by simpa using h1)];have hin:InH a b (o.push q) (x-1) y:=⟨m',by omega,hy2⟩
   split
   . exact aW (hd _ ⟨⟨_,rfl⟩,.inr ⟨_,_,_,_,_,rfl,hin,by omega⟩⟩)
   . exact aW (hy _ _ _ _ _ hin (by omega))
 . rw [if_neg (by simpa using hl)];have m':=m.mh.pushB T (by omega) p2 fun u hu=>eR (BY T.sa hx q2 u hu) (nN.mp hl);refine aR (qG p1 ?_)
   by_cases h1:y-1=1
   . rw[if_pos (by simpa using h1)];exact aW (hd _ ⟨⟨_,rfl⟩,.inl ⟨_,_,_,_,_,_,rfl,m'.toldB T h1⟩⟩)
   rw[if_neg (by simpa using h1)];have hin:InH a b (o.push p) x (y-1):=⟨m',hx,by omega⟩
   split
   . exact aW (hd _ ⟨⟨_,rfl⟩,.inr ⟨_,_,_,_,_,rfl,hin,by omega⟩⟩)
   . exact aW (hy _ _ _ _ _ hin (by omega))
theorem wp_hiT{st:SortSt}{o:Array Keyed}{x y mg g:Nat}{Q:ForInStep TH->SortSt->Prop}(hk:kindOf st=gP)(T:Two a b)(m:InH a b o x y)(hd:∀r x y o mg g,Told a b r->Q (.done (some r,x,y,o,mg)) (gst st g))(hy:∀x' y' o' mg g,InH a b o' x' y'->x'+y'+1<=x+y->Q (.yield (none,x',y',o',mg)) (gst st g)) :
  wpS (aT prog w) A E s (hiT a b (none,x,y,o,mg)) Q (gst st g):=by
 have hna:=T.na;have hnb:=T.nb;have hx:=m.x1;unfold hiT;dsimp only
 refine aR (fY (cW (I:=fun i c z=>∃x' y' o' ca cb g,c=(none,x',y',o',ca,cb)/\z=gst st g/\InH a b o' x' y'/\x'+y'+i<=x+y)
  (Q:=fun c z=>OHok a b st (x+y-1) c z) ?s1 ?s2 ⟨x,y,o,0,0,g,rfl,rfl,m,by omega⟩) ?s3)
 case s2 =>
  rintro c z ⟨x',y',o',ca,cb,g',rfl,rfl,m',hle⟩;exact⟨⟨_,rfl⟩,.inr ⟨_,_,_,_,_,rfl,m',by omega⟩⟩
 case s1 =>
  rintro i c z _ hi ⟨x',y',o',ca,cb,g',rfl,rfl,m',hle⟩;have h1':=m'.x1;refine wp_hiO (n:=x'+y'-1) hk T m' (by omega) (fun c hc=>?_) fun x2 y2 o2 ca cb m2 h2=>⟨x2,y2,o2,ca,cb,g',rfl,rfl,m2,by omega⟩
  obtain⟨h1,h2⟩:=hc;refine⟨h1,?_⟩;rcases h2 with h2 | ⟨x2,y2,o2,ca,cb,e,m2,h2⟩
  . exact .inl h2
  . exact .inr ⟨x2,y2,o2,ca,cb,e,m2,by omega⟩
 case s3 =>
  rintro c z ⟨⟨g',rfl⟩,hc⟩;rcases hc with⟨r,x2,y2,o2,ca,cb,rfl,hr⟩ | ⟨x2,y2,o2,ca,cb,rfl,m2,h2⟩
  . dsimp only;exact aW (hd _ _ _ _ _ _ hr)
  . dsimp only;refine aR (pU (iX ⟨rfl,?_⟩))
    refine aR (fY (cW (I:=fun i c z=>∃x' y' o' mg ca cb g,c=(none,x',y',o',mg,ca,cb)/\z=gst st g/\InH a b o' x' y'/\x'+y'<=x+y-1)
     (Q:=fun c z=>GHok a b st (x+y-1) c z) ?s4 ?s5 ⟨x2,y2,o2,mg+1,ca,cb,g',rfl,rfl,m2,h2⟩) ?s6)
    case s5 =>
     rintro c z ⟨x',y',o',mg',ca,cb,g',rfl,rfl,m',hle⟩;exact⟨⟨_,rfl⟩,.inr ⟨_,_,_,_,_,_,rfl,m',by omega⟩⟩
    case s4 =>
     rintro i c z _ hi ⟨x',y',o',mg',ca,cb,g',rfl,rfl,m',hle⟩;dsimp only
     split
     . exact SM (n:=x+y-1) hk T m' (by omega) (fun c z hc=>hc) fun x2 y2 o2 mg ca cb g m2 h2=>⟨x2,y2,o2,mg,ca,cb,g,rfl,rfl,m2,h2⟩
     . exact SM (n:=x+y-1) hk T m' (by omega) (fun c z hc=>hc) fun x2 y2 o2 mg ca cb g m2 h2=>⟨x2,y2,o2,mg,ca,cb,g,rfl,rfl,m2,h2⟩
    case s6 =>
     rintro c z ⟨⟨g',rfl⟩,hc⟩;rcases hc with⟨r,x2,y2,o2,mg',ca,cb,rfl,hr⟩ | ⟨x2,y2,o2,mg',ca,cb,rfl,m2,h2⟩
     . dsimp only;exact aW (hd _ _ _ _ _ _ hr)
     . dsimp only;rw[wB];exact aR (iW (aW (hy _ _ _ _ _ m2 (by omega))))
theorem HR{st:SortSt}{Q:Array Keyed->SortSt->Prop}(hk:kindOf st=gP)(T:Two a b)(h:∀r g,Told a b r->Q r (gst st g)) :
  wpS (aT prog w) A E s (tL a b) Q st:=by
 have hna:=T.na;have hnb:=T.nb;obtain⟨p,p1,p2,p3⟩:=jB (a:=a) (x:=a.size-1) (by omega)
 have m1:Mh a.toList b.toList (#[]:Array Keyed).toList a.size b.size:=by
  refine⟨by simp,by simp,?_,List.Pairwise.nil,fun p hp=>absurd hp (by simp)⟩;rw[dP (by simp),dP (by simp)];simp
 have m:Mh a.toList b.toList (#[p]:Array Keyed).toList (a.size-1) b.size:=m1.pushA T (by omega) p2 fun q hq=>T.lst q (oC hq) p (by rw[bB];exact p2);rw[IV];unfold mHi;refine aR (pU (iX ⟨rfl,?_⟩));refine aR (qG p1 ?_)
 by_cases h1:a.size-1=0
 . rw[if_pos (by simpa using h1)];exact aW (h _ (nX st) (m.told T (.inl h1)))
 rw[if_neg (by simpa using h1)]
 by_cases h2:b.size=1
 . rw[if_pos (by simpa using h2)];exact aW (h _ (nX st) (m.toldB T h2))
 rw[if_neg (by simpa using h2)];refine aR (oJ ?_)
 refine aR (fY (cW (I:=fun i c z=>∃x y o mg g,c=(none,x,y,o,mg)/\z=gst st g/\InH a b o x y/\x+y+i+1<=a.size+b.size)
  (Q:=fun c z=>∃r x y o mg g,c=(some r,x,y,o,mg)/\z=gst st g/\Told a b r) ?s1 ?s2 ⟨a.size-1,b.size,#[p],_,nX st,rfl,rfl,⟨m,by omega,by omega⟩,by omega⟩) ?s3)
 case s2 =>
  rintro c z ⟨x,y,o,mg,g,rfl,rfl,m,hle⟩;have:=m.x1;have:=m.y1;omega
 case s1 =>
  rintro i c z _ hi ⟨x,y,o,mg,g,rfl,rfl,m,hle⟩;exact wp_hiT hk T m (fun r x y o mg g hr=>⟨r,x,y,o,mg,g,rfl,rfl,hr⟩) fun x y o mg g m h=>⟨x,y,o,mg,g,rfl,rfl,m,by omega⟩
 case s3 =>
  rintro c z ⟨r,x,y,o,mg,g,rfl,rfl,hr⟩;exact aW (h r g hr)
end
set_option autoImplicit false
noncomputable def mAt(i:Nat):StateT SortSt Sem Bool:=do
 let z <- get
 let (some (sa,na,pw),some (sb,nb,_)):=((bQ z)[i]?,(bQ z)[i+1]?) | unsupported "internal:list.sort.pending"
 set (iE z (((bQ z).setIfInBounds i (sa,na+nb,pw)).eraseIdxIfInBounds (i+1)))
 let some k <- mH false (<- kO (bO z) sb) (bO z) sa na 0 | return false
 let (sa,na):=(sa+k,na-k)
 if na==0 then return true
 let some nb <- mH true (<- kO (bO z) (sa+na-1)) (bO z) sb nb (nb-1) | return false
 if nb==0 then return true
 let x:=(bO z).extract sa sb
 let y:=(bO z).extract sb (sb+nb)
 let r <- if na<=nb then tK x y else tL x y
 modify fun z=>eC z (r.toList.zipIdx.foldl (fun a (p,j)=>a.setIfInBounds (sa+j) p) (bO z))
 return (pW (<- get)).isNone
theorem IW(i:Nat):HD i=mAt i:=by kernel_rfl
noncomputable def lay(xs:Array Keyed)(sa:Nat)(r:List Keyed):Array Keyed:=r.zipIdx.foldl (fun a (p,j)=>a.setIfInBounds (sa+j) p) xs
theorem ME(sa i:Nat):∀(r:List Keyed) (n:Nat) (xs:Array Keyed),sa+n+r.length<=xs.size →
  ((r.zipIdx n).foldl (fun a (p,j)=>a.setIfInBounds (sa+j) p) xs)[i]?=if sa+n<=i/\i<sa+n+r.length then r[i-(sa+n)]? else xs[i]?
 | [], n, xs, h => by
   rw[if_neg (by simp)];rfl
 | p :: r, n, xs, h => by
   rw[List.zipIdx_cons,nL];have h':sa+(n+1)+r.length<=(xs.setIfInBounds (sa+n) p).size:=by simp only[Array.size_setIfInBounds];simp only[aO] at h;omega
   rw[ME sa i r (n+1) _ h',Array.getElem?_setIfInBounds];simp only[aO] at h ⊢
   by_cases h1:sa+n=i
   . subst h1;rw[if_neg (by omega),if_pos rfl,if_pos (by omega),if_pos (by omega)];simp
   . by_cases h2 : sa + (n + 1) <= i /\ i < sa + (n + 1) + r.length
     . rw[if_pos h2,if_pos (by omega),show i-(sa+n)=(i-(sa+(n+1)))+1 by omega,cU]
     . rw[if_neg h2,if_neg h1,if_neg (by omega)]
theorem WL{xs:Array Keyed}{sa:Nat}{r:List Keyed}(h:sa+r.length<=xs.size)(i:Nat):(lay xs sa r)[i]?=if sa<=i/\i<sa+r.length then r[i-sa]? else xs[i]? :=
 ME sa i r 0 xs h
theorem WK{xs:Array Keyed}{sa:Nat}{r:List Keyed}(h:sa+r.length<=xs.size):(lay xs sa r).toList=xs.toList.take sa++r++xs.toList.drop (sa+r.length):=by
 apply iV;intro i;rw[cD,WL h,bR];have hl:(xs.toList.take sa).length=sa:=by rw[fQ,bB];omega
 by_cases h1:i<sa
 . rw[if_neg (by omega),bV (by omega),iG h1,cD]
 . rw [cH (by omega), hl]
   by_cases h2:i<sa+r.length
   . rw[if_pos ⟨by omega,h2⟩,bV (by omega)]
   . rw[if_neg (by omega), cH (by omega), mC, cD];congr 1;omega
theorem WJ{xs:Array Keyed}{sa:Nat}{r:List Keyed}(h:sa+r.length<=xs.size)(hp:r.Perm ((xs.toList.drop sa).take r.length)):(lay xs sa r).Perm xs:=by
 rw[lZ,WK h]
 have e:xs.toList=xs.toList.take sa++(xs.toList.drop sa).take r.length++xs.toList.drop (sa+r.length):=by
  rw[bR,<- oF,gE,gE]
 conv=>rhs;rw[e]
 exact iL _ (fU _ hp)
theorem lay_K{xs:Array Keyed}{sa:Nat}{r:List Keyed}(h:sa+r.length<=xs.size){i:Nat}:(sa<=i->i<sa+r.length->∃p,r[i-sa]?=some p/\K (lay xs sa r) i=ky p)/\((i<sa\/sa+r.length<=i)->K (lay xs sa r) i=K xs i):=by
 have e:=WL h i;refine⟨fun h1 h2=>?_,fun h1=>?_⟩
 . rw[if_pos ⟨h1, h2⟩] at e;refine⟨r[i-sa],aZ (by omega),?_⟩;unfold K;rw[e,aZ (by omega)];rfl
 . rw[if_neg (by omega)] at e;exact K_congr e
theorem EI{xs:Array Keyed}{i j k:Nat}(h1:Seg xs i j)(h2:Seg xs j k)(h:i<j->j<k->K xs (j-1)<=K xs j):Seg xs i k:=by
 intro p q a b c
 by_cases hp:p<j
 . by_cases hq : q < j
   . exact h1 p q a b hq
   . exact eR (h1 p (j-1) a (by omega) (by omega)) (eR (h (by omega) (by omega)) (h2 j q (aM _) (by omega) c))
 . exact h2 p q (by omega) b c
theorem TF{xs:Array Keyed}{i j:Nat}(h:Seg xs i j)(hj:j<=xs.size):Sd (xs.extract i j).toList:=by
 refine cO.mpr fun p q h1 h2 hpq=>?_;rw[bB,fV] at h1 h2;have:=h (i+p) (i+q) (by omega) (by omega) (by omega);rw[K_eq (show i+p<xs.size by omega),K_eq (show i+q<xs.size by omega)] at this;simpa[ky] using this
theorem xS{xs:Array Keyed}{i j:Nat}{p:Keyed}(hj:j<=xs.size)(h:p∈(xs.extract i j).toList):∃k,i<=k/\k<j/\K xs k=ky p/\p∈xs.toList:=by
 rw[jQ] at h;obtain⟨k,k1,k2,k3⟩:=jJ h;exact⟨k,k1,by omega,(jO k3).2,lA k3⟩
section
variable{prog:aX}{w:bW}{A:bT}{E:aA->aC->Prop}{s:aC}{a₀ : Array Keyed}
theorem ZE{σ : Type}{M:uG}{x : σ}{Q:PUnit->σ->Prop}{st : σ}(h:Q ⟨⟩ x):wpS M A E s (set x:StateT σ Sem PUnit) Q st:=by
 unfold wpS;rw[StateT.run_set];exact aN ⟨rfl,h⟩
theorem pend_at{P:Array (Nat×Nat×Nat)}{pre post:List (Nat×Nat×Nat)}{u v:Nat×Nat×Nat}(h:P.toList=pre++u::v::post)(c:Nat×Nat×Nat) :
  P[pre.length]?=some u/\P[pre.length+1]?=some v/\((P.setIfInBounds pre.length c).eraseIdxIfInBounds (pre.length+1)).toList=pre++c::post:=by
 obtain⟨l⟩:=P;simp only at h;subst h;refine⟨by simp,by simp,?_⟩;simp[Array.eraseIdxIfInBounds,List.eraseIdx_append_of_length_le]
theorem HS{st:SortSt}{i sa na pw sb nb pw2:Nat}{pre post:List (Nat×Nat×Nat)}{Q:Bool->SortSt->Prop}(h0:IntKeys a₀)(hB:TB a₀ st)(hP:(bQ st).toList=pre++(sa,na,pw)::(sb,nb,pw2)::post)(hi:i=pre.length)(hsb:sb=sa+na)(hna:1<=na)(hnb:1<=nb)(hsz:sb+nb<=a₀.size)(s1:Seg (bO st) sa sb)(s2:Seg (bO st) sb (sb+nb))(h:∀st',TB a₀ st'->(bQ st').toList=pre++(sa,na+nb,pw)::post->(∀k,(k<sa\/sb+nb<=k)->K (bO st') k=K (bO st) k)->Seg (bO st') sa (sb+nb)->Q true st') :
  wpS (aT prog w) A E s (HD i) Q st:=by
 subst hi;obtain⟨e1,e2,e3⟩:=pend_at hP (sa,na+nb,pw);have hs:=hB.sz;have hI:∀p∈(bO st).toList,IsI p:=fun p hp=>h0 p ((lZ.mp hB.pm).mem_iff.mp hp);rw[IW];unfold mAt;refine aR (oJ ?_);rw[e1,e2];dsimp only;refine aR (ZE ?_);generalize hP':((bQ st).setIfInBounds pre.length (sa,na+nb,pw)).eraseIdxIfInBounds (pre.length+1)=P' at e3 ⊢;have hB1:TB a₀ (iE st P'):=⟨hB.pm,hB.kd,hB.nf⟩
 obtain⟨p,p1,p2,p3⟩:=jB (a:=bO st) (x:=sb) (by omega);have pK:K (bO st) sb=ky p:=(jO p2).2;refine aR (qG p1 ?_);refine aR (jY (st:=iE st P') hB.kd (hI p p3) hI (by omega) (by rw[<- hsb];exact s1) (by omega) fun k k1 k2 k3=>?_);simp only[bJ,if_false] at k2 k3;dsimp only
 by_cases hz:na-k=0
 . rw[if_pos (by simpa using hz)];refine aW (h _ hB1 e3 (fun _ _=>rfl) (EI s1 s2 fun _ _=>?_));show K (bO st) (sb-1)<=K (bO st) sb;rw[pK];exact k2 _ (by omega) (by omega)
 rw[if_neg (by simpa using hz)];have hlast:sa+k+(na-k)-1=sb-1:=by omega
 obtain⟨q,q1,q2,q3⟩:=jB (a:=bO st) (x:=sb-1) (by omega);have qK:K (bO st) (sb-1)=ky q:=(jO q2).2;rw[hlast];refine aR (qG q1 ?_);refine aR (jY (st:=iE st P') hB.kd (hI q q3) hI (by omega) s2 (by omega) fun m m1 m2 m3=>?_);simp only[if_true] at m2 m3;dsimp only
 by_cases hm:m=0
 . rw[if_pos (by simpa using hm)];refine aW (h _ hB1 e3 (fun _ _=>rfl) (EI s1 s2 fun _ _=>?_));show K (bO st) (sb-1)<=K (bO st) sb;rw[qK];exact m3 _ (by omega) (by omega)
 rw[if_neg (by simpa using hm)]
 have T:Two ((bO st).extract (sa+k) sb) ((bO st).extract sb (sb+m)):=by
  refine⟨TF (fun a b c d e=>s1 a b (by omega) d e) (by omega),TF (fun a b c d e=>s2 a b (by omega) d (by omega)) (by omega),fun u hu=>?_,fun u hu=>?_,?_,?_,fun u hu v hv=>?_,fun u hu v hv=>?_⟩
  . obtain⟨_,_,_,_,hh⟩:=xS (by omega) hu;exact hI u hh
  . obtain⟨_,_,_,_,hh⟩:=xS (by omega) hu;exact hI u hh
  . rw[fV];omega
  . rw[fV];omega
  . obtain⟨j, j1, j2, j3, _⟩ := xS (by omega) hu;rw[cD,DQ] at hv;rw[if_pos (by omega),Nat.add_zero,p1] at hv;cases hv;rw[<- j3];exact dQ (k3 j j1 (by omega))
  . obtain⟨j, j1, j2, j3, _⟩ := xS (by omega) hu;rw[cD,bB,fV,DQ] at hv;rw[if_pos (by omega),show sa+k+(min sb (bO st).size-(sa+k)-1)=sb-1 by omega,q1] at hv;cases hv;rw[<- j3];exact dQ (m2 j j1 j2)
 have fin:∀r g,Told ((bO st).extract (sa+k) sb) ((bO st).extract sb (sb+m)) r →
   wpS (aT prog w) A E s (do
    modify fun z=>eC z (r.toList.zipIdx.foldl (fun a (p,j)=>a.setIfInBounds (sa+k+j) p) (bO z))
    return (pW (<- get)).isNone) Q (gst (iE st P') g):=by
  rintro r g ⟨r1,r2⟩
  have hlen:r.toList.length=sb+m-(sa+k):=by
   rw[r1.length_eq,cA,bB,bB,fV,fV];omega
  have hfit:sa+k+r.toList.length<=(bO st).size:=by omega
  have hpm:(lay (bO st) (sa+k) r.toList).Perm (bO st):=by
   refine WJ hfit (r1.trans (HP ?_));rw[jQ,jQ,hlen,show sb+m-(sa+k)=(sb-(sa+k))+m by omega,List.take_add,oF,show sa+k+(sb-(sa+k))=sb by omega,show sb+m-sb=m by omega]
  have rmem:∀u∈r.toList,K (bO st) sb<=ky u/\ky u<=K (bO st) (sb-1):=fun u hu=>by
   rcases bM.mp (r1.mem_iff.mp hu) with hu | hu
   . obtain⟨j, j1, j2, j3, _⟩ := xS (by omega) hu;rw[<- j3];have a1:=k3 j j1 (by omega);have a2:=s1 j (sb-1) (by omega) (by omega) (by omega);omega
   . obtain⟨j, j1, j2, j3, _⟩ := xS (by omega) hu;rw[<- j3];have a1:=m2 j j1 j2;have a2:=s2 sb j (aM _) j1 (by omega);omega
  refine aR (iW (aR (oJ (aW ?_))));show Q (pW st).isNone (eC (gst (iE st P') g) (lay (bO st) (sa+k) r.toList));rw[hB.nf];have hin:∀i,sa+k<=i->i<sb+m->∃u,r.toList[i-(sa+k)]?=some u/\K (lay (bO st) (sa+k) r.toList) i=ky u:=fun i i1 i2=>(lay_K hfit).1 i1 (by omega);have hout:∀i,(i<sa+k\/sb+m<=i)->K (lay (bO st) (sa+k) r.toList) i=K (bO st) i:=fun i i1=>(lay_K hfit).2 (by omega);refine h _ ⟨hpm.trans hB.pm,hB.kd,hB.nf⟩ e3 (fun j hj=>hout j (by omega)) ?_;intro x y x1 xy y1;show K (lay (bO st) (sa+k) r.toList) x<=K (lay (bO st) (sa+k) r.toList) y
  by_cases hx1:x<sa+k
  . rw [hout x (.inl hx1)]
    by_cases hy1:y<sa+k
    . rw[hout y (.inl hy1)];exact s1 x y x1 xy (by omega)
    . have hxk := k2 x x1 hx1
      by_cases hy2:y<sb+m
      . obtain⟨u, u1, u2⟩ := hin y (by omega) hy2;rw[u2];have:=(rmem u (lA u1)).1;omega
      . rw[hout y (.inr (by omega))];have:=s2 sb y (aM _) (by omega) y1;omega
  . by_cases hx2 : x < sb + m
    . obtain ⟨u, u1, u2⟩ := hin x (by omega) hx2;rw [u2]
      by_cases hy2:y<sb+m
      . obtain ⟨v, v1, v2⟩ := hin y (by omega) hy2;rw [v2]
        by_cases hxy:x=y
        . subst hxy;rw[u1] at v1;cases v1;exact eU _
        . obtain ⟨g1, g2⟩ := bF.mp u1;obtain ⟨g3,g4⟩:=bF.mp v1;have:=cO.mp r2 _ _ g1 g3 (by omega)
          rwa [g2,g4] at this
      . rw[hout y (.inr (by omega))];have a1:=(rmem u (lA u1)).2;have a2:=m3 y (by omega) y1;omega
    . rw[hout x (.inr (by omega)), hout y (.inr (by omega))];exact s2 x y (by omega) xy y1
 split
 . exact aR (HQ hB.kd T fun r g hr=>fin r g hr)
 . exact aR (HR hB.kd T fun r g hr=>fin r g hr)
end
set_option autoImplicit false
abbrev PQ:=Nat×Nat×Nat
noncomputable def Rn(xs:Array Keyed):List PQ->Nat->Nat->Prop
 |[],s,e=>s=e
 |(a,n,_)::r,s,e=>a=s/\1<=n/\Seg xs s (s+n)/\Rn xs r (s+n) e
theorem pE{xs:Array Keyed}{r:List PQ}{e:Nat}:∀{l:List PQ} {s:Nat},Rn xs (l++r) s e↔∃m,Rn xs l s m/\Rn xs r m e
 |[],s=>⟨fun h=>⟨s,rfl,h⟩,fun⟨m,h1,h2⟩=>by cases h1;exact h2⟩
 | (a, n, p) :: l, s => by
   constructor
   . rintro⟨h1, h2, h3, h4⟩;obtain⟨m,g1,g2⟩:=pE.mp h4;exact⟨m,⟨h1,h2,h3,g1⟩,g2⟩
   . rintro⟨m, ⟨h1, h2, h3, g1⟩, g2⟩;exact⟨h1,h2,h3,pE.mpr ⟨m,g1,g2⟩⟩
theorem KR{xs:Array Keyed}{e:Nat}:∀{l:List PQ} {s:Nat},Rn xs l s e->s+l.length<=e
 |[],s,h=>by cases h;simp
 |(a,n,p)::l,s,⟨h1,h2,h3,h4⟩=>by have:=KR h4;simp only[aO];omega
theorem wT{xs ys:Array Keyed}{e:Nat}:∀{l:List PQ} {s:Nat},Rn xs l s e->(∀k,s<=k->k<e->K ys k=K xs k)->Rn ys l s e
 |[],s,h,_=>h
 | (a, n, p) :: l, s, ⟨h1, h2, h3, h4⟩, h => by
   have hle:=KR h4;exact⟨h1,h2,fun i j a b c=>by rw[h i a (by omega),h j (by omega) (by omega)];exact h3 i j a b c,wT h4 fun k k1 k2=>h k (by omega) k2⟩
noncomputable def rsOld(pw:Nat)(_:Option Unit×Unit):StateT SortSt Sem (ForInStep (Option Unit×Unit)):=do
 let z <- get
 match if (bQ z).size>1 then (bQ z)[(bQ z).size-2]? else none with
  | some (_, _, older) =>
    if older<=pw then pure (ForInStep.done (none,()))
    else do
     let b <- HD ((bQ z).size-2)
     if (!b)=true then pure (ForInStep.done (some (),())) else pure (ForInStep.yield (none,()))
  |_=>pure (ForInStep.done (none,()))
noncomputable def CA(size lo n:Nat):StateT SortSt Sem (ForInStep (Option Unit×Nat)):=do
 let z <- get
 match (bQ z).back? with
  | some (s1, n1, _) => do
    let c <- forIn [0:size] (none,()) fun _ c=>rsOld (power' size (2*s1+n1) (2*s1+n1+n1+n) size) c
    match c.1 with
     |some r=>pure (ForInStep.done (some r,lo))
     | none => do
       modify fun z=>iE z ((bQ z).modify ((bQ z).size-1) fun x=>match x with | (a,l,_)=>(a,l,power' size (2*s1+n1) (2*s1+n1+n1+n) size))
       modify fun z=>iE z ((bQ z).push (lo,n,0))
       pure (ForInStep.yield (none,lo+n))
  | _ => do
    modify fun z=>iE z ((bQ z).push (lo,n,0))
    pure (ForInStep.yield (none,lo+n))
noncomputable def IE(size mr:Nat)(c:Option Unit×Nat):StateT SortSt Sem (ForInStep (Option Unit×Nat)):=
 if c.2≥size then pure (ForInStep.done (none,c.2))
 else do
  let x <- countRun' c.2 (size-c.2)
  match x with
   | some n =>
     if n<mr then do
      liftM (rule "list.sort.binary-insertion")
      let b <- binarySort' c.2 (min (size-c.2) mr) n
      if (!b)=true then pure (ForInStep.done (some (),c.2)) else CA size c.2 (min (size-c.2) mr)
     else CA size c.2 n
   |_=>pure (ForInStep.done (some (),c.2))
noncomputable def pick(p:Array PQ):Nat :=
 if Option.any (fun x=>decide (x<p[p.size-2+1]?.elim 0 fun x=>x.2.1)) (if p.size-2>0 then Option.map (fun x=>x.2.1) p[p.size-2-1]? else none)=true then p.size-2-1 else p.size-2
noncomputable def rsEnd(_:Option Unit×Unit):StateT SortSt Sem (ForInStep (Option Unit×Unit)):=do
 let z <- get
 if (bQ z).size<=1 then pure (ForInStep.done (none,()))
 else do
  let b <- HD (pick (bQ z))
  if (!b)=true then pure (ForInStep.done (some (),())) else pure (ForInStep.yield (none,()))
noncomputable def sR:StateT SortSt Sem Unit:=do
 let z <- get
 let c <- forIn [0:(bO z).size] (none,0) fun _ c=>IE (bO z).size (minRun' (bO z).size (bO z).size 0) c
 match c.1 with
  |some r=>pure r
  | none => do
    let d <- forIn [0:(bO z).size] (none,()) fun _ d=>rsEnd d
    match d.1 with
     |some r=>pure r
     |none=>pure ()
theorem EG:sortRuns'=sR:=by kernel_rfl
section
variable{prog:aX}{w:bW}{A:bT}{E:aA->aC->Prop}{s:aC}{a₀ : Array Keyed}
structure RS(a₀ : Array Keyed)(st:SortSt)(lo:Nat):Prop where
 tb:TB a₀ st
 rn:Rn (bO st) (bQ st).toList 0 lo
 le:lo<=a₀.size
theorem sY{st:SortSt}{lo i:Nat}{Q:Bool->SortSt->Prop}(h0:IntKeys a₀)(R:RS a₀ st lo)(hi:i+1<(bQ st).size)(h:∀st',RS a₀ st' lo->(bQ st').size+1=(bQ st).size->(∀k,lo<=k->K (bO st') k=K (bO st) k)->Q true st'):wpS (aT prog w) A E s (HD i) Q st:=by
 have hlen:(bQ st).toList.length=(bQ st).size:=bB
 obtain⟨pre,u,v,post,e,hpl⟩:∃pre u v post,(bQ st).toList=pre++u::v::post/\pre.length=i:=by
  refine⟨(bQ st).toList.take i,(bQ st).toList[i]'(by omega),(bQ st).toList[i+1]'(by omega),(bQ st).toList.drop (i+2),?_,by rw[fQ];omega⟩
  conv=>lhs;rw[<- gE i (bQ st).toList]
  rw[dX (by omega),dX (by omega)]
 have hr:=R.rn;obtain⟨sa,na,pw⟩:=u;obtain⟨sb,nb,pw2⟩:=v;rw[e] at hr;obtain⟨m,g1,g2,g3,g4,g5,g6,g7,g8⟩:=pE.mp hr;subst g2;have hle:=KR g8;have hlo:=R.le;refine HS (sb:=sb) h0 R.tb e hpl.symm g5 g3 g6 (by omega) (by rw[g5];exact g4) (by rw[g5];exact g7) fun st' b1 b2 b3 b4=>h st' ⟨b1,?_,hlo⟩ ?_ fun k hk=>b3 k (.inr (by omega))
 . rw[b2];refine pE.mpr ⟨sa,wT g1 fun k _ k2=>b3 k (.inl k2),rfl,by omega,by rw[<- Nat.add_assoc,<- g5];exact b4,?_⟩;rw[<- Nat.add_assoc];exact wT g8 fun k k1 _=>b3 k (.inr (by omega))
 . have l1 : (bQ st').toList.length=(bQ st').size := bB;rw[b2] at l1;rw[e] at hlen;simp only[cA,aO] at l1 hlen;omega
theorem pick_lt{p:Array PQ}(h:2<=p.size):pick p+1<p.size:=by
 have:∀c:Bool,(if c=true then p.size-2-1 else p.size-2)+1<p.size:=fun c=>by cases c<;>simp<;>omega
 exact this _
theorem FK(f:PQ->PQ):∀(l:List PQ) (u:PQ),(l++[u]).modify l.length f=l++[f u]
 |[],u=>rfl
 | a :: l, u => by
   rw[eS,aO,List.modify_succ_cons,FK f l u];rfl
theorem JY{st:SortSt}{lo n:Nat}{Q:ForInStep (Option Unit×Nat)->SortSt->Prop}(h0:IntKeys a₀)(R:RS a₀ st lo)(hn:1<=n)(hle:lo+n<=a₀.size)(hs:Seg (bO st) lo (lo+n))(h:∀st',RS a₀ st' (lo+n)->Q (.yield (none,lo+n)) st'):wpS (aT prog w) A E s (CA a₀.size lo n) Q st:=by
 have fin:∀st':SortSt,TB a₀ st'->Rn (bO st') (bQ st').toList 0 lo->(∀k,lo<=k->K (bO st') k=K (bO st) k) →
   wpS (aT prog w) A E s (do
    modify fun z=>iE z ((bQ z).push (lo,n,0))
    pure (ForInStep.yield ((none,lo+n):Option Unit×Nat))) Q st':=fun st' tb rn kk=>by
  refine aR (iW (aW (h _ ⟨⟨tb.pm,tb.kd,tb.nf⟩,?_,hle⟩)));show Rn (bO st') ((bQ st').push (lo,n,0)).toList 0 (lo+n);rw[dO];exact pE.mpr ⟨lo,rn,rfl,hn,fun i j a b c=>by rw[kk i a,kk j (by omega)];exact hs i j a b c,rfl⟩
 unfold CA;refine aR (oJ ?_);cases hb:(bQ st).back? with
 |none=>exact fin st R.tb R.rn fun _ _=>rfl
 | some u =>
   obtain⟨s1,n1,u3⟩:=u;dsimp only;generalize power' a₀.size (2*s1+n1) (2*s1+n1+n1+n) a₀.size=pw
   refine aR (fY (cW (I:=fun _ c z=>c=(none,())/\RS a₀ z lo/\(∀k,lo<=k->K (bO z) k=K (bO st) k))
    (Q:=fun c z=>c=(none,())/\RS a₀ z lo/\(∀k,lo<=k->K (bO z) k=K (bO st) k)) ?s1 (fun _ _ hh=>hh) ⟨rfl,R,fun _ _=>rfl⟩) ?s3)
   case s1 =>
    rintro i c z _ _ ⟨rfl,Rz,kz⟩;unfold rsOld;refine aR (oJ ?_)
    by_cases hsz:(bQ z).size>1
    . rw [if_pos hsz, getElem?_pos (bQ z) ((bQ z).size - 2) (by omega)];dsimp only
      split
      . exact aW ⟨rfl,Rz,kz⟩
      . refine aR (sY h0 Rz (by omega) fun st' R' _ k' => ?_);simp only[mP,bJ,if_false];exact aW ⟨rfl,R',fun k hk=>(k' k hk).trans (kz k hk)⟩
    . rw[if_neg hsz];exact aW ⟨rfl,Rz,kz⟩
   case s3 =>
    rintro c z ⟨rfl,Rz,kz⟩;dsimp only;refine aR (iW ?_);refine fin _ ⟨Rz.tb.pm,Rz.tb.kd,Rz.tb.nf⟩ ?_ kz;show Rn (bO z) ((bQ z).modify ((bQ z).size-1) _).toList 0 lo;have hr:=Rz.rn
    have e:∀(P:Array PQ) (pw:Nat),Rn (bO z) P.toList 0 lo->Rn (bO z) (P.modify (P.size-1) fun x=>match x with | (a,l,_)=>(a,l,pw)).toList 0 lo:=by
     rintro⟨l⟩ pw hl;simp only[aU] at hl ⊢;rcases List.eq_nil_or_concat l with rfl | ⟨l',u,rfl⟩
     . simpa using hl
     . obtain ⟨u1, u2, u3⟩ := u;rw [List.concat_eq_append] at hl ⊢;obtain ⟨m,m1,m2,m3,m4,m5⟩:=pE.mp hl
       have e2:(Array.modify (l'++[(u1,u2,u3)]).toArray ((l'++[(u1,u2,u3)]).length-1) fun x=>match x with | (a,l,_)=>(a,l,pw)).toList=l'++[(u1,u2,pw)]:=by
        simp[FK]
       simp only at e2 ⊢;rw[e2];exact pE.mpr ⟨m,m1,m2,m3,m4,m5⟩
    exact e _ _ hr
theorem ZC{st:SortSt}{lo mr:Nat}{Q:ForInStep (Option Unit×Nat)->SortSt->Prop}(h0:IntKeys a₀)(R:RS a₀ st lo)(hd:lo=a₀.size->Q (.done (none,lo)) st)(h:∀st' lo',lo+1<=lo'->RS a₀ st' lo'->Q (.yield (none,lo')) st'):wpS (aT prog w) A E s (IE a₀.size mr (none,lo)) Q st:=by
 unfold IE;dsimp only;have hlo:=R.le
 by_cases hge:lo≥a₀.size
 . rw[if_pos hge];exact aW (hd (by omega))
 rw[if_neg hge];refine aR (wp_run h0 (by omega) (by omega) R.tb fun n xs c n1 n2 sg=>?_);have R':RS a₀ (eC st xs) lo:=⟨R.tb.arr c.1,wT R.rn fun k _ k2=>c.2 k (.inl k2),hlo⟩
 dsimp only
 split
 . refine aR (pU (iX ⟨rfl, ?_⟩));refine aR (wp_ins h0 (by omega) (by omega) R'.tb sg fun ys c2 sg2=>?_);simp only[mP,bJ,if_false];refine JY h0 (⟨R'.tb.arr c2.1,wT R'.rn fun k _ k2=>c2.2 k (.inl k2),hlo⟩:RS a₀ (eC (eC st xs) ys) lo) (by omega) (by omega) sg2 fun st' r'=>h st' _ (by omega) r'
 . exact JY h0 R' n1 (by omega) sg fun st' r'=>h st' _ (by omega) r'
theorem DW{st:SortSt}{Q:Unit->SortSt->Prop}(h0:IntKeys a₀)(hB:TB a₀ st)(hp:bQ st=#[])(h:∀st',(bO st').Perm a₀->pW st'=none->Seg (bO st') 0 a₀.size->Q () st'):wpS (aT prog w) A E s sortRuns' Q st:=by
 rw[EG];unfold sR;refine aR (oJ ?_);rw[hB.sz];have R0:RS a₀ st 0:=⟨hB,by rw[hp];rfl,bY _⟩
 refine aR (fY (cW (I:=fun i c z=>∃lo,c=(none,lo)/\i<=lo/\RS a₀ z lo) (Q:=fun c z=>c=(none,a₀.size)/\RS a₀ z a₀.size) ?s1 ?s2 ⟨0,rfl,aM _,R0⟩) ?s3)
 case s2 =>
  rintro c z ⟨lo,rfl,h1,R⟩;have:=R.le;have e:lo=a₀.size:=by omega
  subst e;exact⟨rfl,R⟩
 case s1 =>
  rintro i c z _ hi ⟨lo,rfl,h1,R⟩;refine ZC h0 R (fun e=>?_) fun st' lo' h2 R'=>⟨lo',rfl,by omega,R'⟩
  subst e;exact⟨rfl,R⟩
 case s3 =>
  rintro c z ⟨rfl,R⟩;dsimp only;have hfirst:=KR R.rn;rw[bB] at hfirst
  refine aR (fY (cW (I:=fun i c z=>c=(none,())/\RS a₀ z a₀.size/\(bQ z).size+i<=a₀.size+1/\(bQ z).size+i<=max a₀.size (1+i))
   (Q:=fun c z=>c=(none,())/\RS a₀ z a₀.size/\(bQ z).size<=1) ?s4 ?s5 ⟨rfl,R,by omega,by omega⟩) ?s6)
  case s5 =>
   rintro c z ⟨rfl,R,h1,h2⟩;exact⟨rfl,R,by omega⟩
  case s4 =>
   rintro i c z _ hi ⟨rfl,R,h1,h2⟩;unfold rsEnd;refine aR (oJ ?_)
   by_cases hsz:(bQ z).size<=1
   . rw[if_pos hsz];exact aW ⟨rfl,R,hsz⟩
   . rw[if_neg hsz];refine aR (sY h0 R (pick_lt (by omega)) fun st' R' e' _=>?_);simp only[mP,bJ,if_false];exact aW ⟨rfl,R',by omega,by omega⟩
  case s6 =>
   rintro c z ⟨rfl,R,h1⟩;dsimp only;refine aW (h z R.tb.pm R.tb.nf ?_);have hr:=R.rn;rw[<- bB] at h1
   match hl:(bQ z).toList,h1 with
   | [], _ =>
     rw[hl] at hr;have e:0=a₀.size:=hr;intro i j _ _ hj;omega
   | [(u, n, v)], _ =>
     rw[hl] at hr;obtain⟨g1,g2,g3,g4⟩:=hr;have e:0+n=a₀.size:=g4;rw[e] at g3;exact g3
end
section
variable{prog:aX}{w:bW}{A:bT}{E:aA->aC->Prop}{s:aC}
theorem SY{a:aB}{vs:List aA}{ns:List Int}{n:Nat}{R:PySem.Fin->aC->Prop}(ho:s.heap.get? a=some (fR "list" vs.toArray n))(hI:dY vs ns)(hsl:vs.length<=sizeLine)(h:∀(us:Array aA) (ms:List Int),dY us.toList ms->ms.Perm ns->ms.Pairwise (·<=·)->R (.done (.ret .none)) { s with heap:=HB s.heap a vs us }) :
  bH (aT prog w) A (Builtin.«list.sort» ⟨[.ref a],[]⟩) R E s:=by
 rw[list_sort_plain];have ha:a<s.heap.objs.size:=aV ho;have hsz:vs.toArray.size=vs.length:=by simp
 refine aD (listItems_at ho rfl ?_);refine aD (JV ho rfl ?_ (by rw[hsz];exact hsl) (bY _));obtain⟨ep,ho1⟩:∃ep,(s.heap.update a (Obj.mapSeq fun _=>#[])).get? a=some (fR "list" #[] ep):=⟨_,get?_update_seq ho (fun _=>#[])⟩
 refine aD (YK ho1 rfl (aD (wpAny_newTuple (aD (JT (dS ?_))))))
 have ho6:(((s.heap.update a (Obj.mapSeq fun _=>#[])).push (fR "tuple" vs.toArray 0)).push (fR "list" #[] 0)).get? a=some (fR "list" #[] ep):=by
  have h1:=aG (fR "tuple" vs.toArray 0) ho1;exact aG (fR "list" #[] 0) h1
 change bH (aT prog w) A _ R E { s with heap:=((s.heap.update a (Obj.mapSeq fun _=>#[])).push (fR "tuple" vs.toArray 0)).push (fR "list" #[] 0) };dsimp only
 have last:∀z:SortSt,(bO z).Perm (DT vs)->Seg (bO z) 0 (DT vs).size->R (.done (.ret .none)) { s with heap:=HB s.heap a vs ((bO z).map (·.2)) }:=fun z g1 g2=>by
  obtain⟨ns',u1,u2,u3⟩:=sorted_out hI g1 fun i j hij hj=>g2 i j (bY _) hij hj;exact h _ ns' u1 u2 u3
 by_cases hlt:vs.toArray.size<2
 . rw [if_pos hlt, if_pos hlt];refine aD (aN ?_);rw [StateT.run_pure];refine aD (aN ?_);dsimp only;refine aD (YK ho6 rfl (aD (JV ho6 rfl ?_ (bY _) ?_)))
   . simp only [bne_self_eq_false, bJ, if_false];refine aN (last (SortSt.mk' general' (vs.toArray.zip vs.toArray) #[] 7 none) (kP _) ?_);intro i j _ hij hj;rw [RG] at hj;have e:i=j:=by omega
     rw[e];exact eU _
   . rw[YQ];show(DT vs).size<=_;rw[RG];omega
 . rw [if_neg hlt, if_neg hlt]
   obtain⟨x,y,r,rfl⟩:∃x y r,vs=x::y::r:=by
    match vs,hsz,hlt with
    |[],_,h2=>simp at h2
    |[_],_,h2=>simp at h2
    |x::y::r,_,_=>exact⟨x,y,r,rfl⟩
   rw[keyKind_ints hI];refine aD (aN ?_)
   refine aD (dU (DW (a₀:=DT (x::y::r)) (st:=SortSt.mk' gP ((x::y::r).toArray.zip (x::y::r).toArray) #[] 7 none)
    (Q:=fun _ z=>(bO z).Perm (DT (x::y::r))/\pW z=none/\Seg (bO z) 0 (DT (x::y::r)).size)
    hI.intKeys ⟨kP _,rfl,rfl⟩ rfl fun z g1 g2 g3=>⟨g1,g2,g3⟩) ?_ fun _ _ e=>e)
   rintro⟨⟨⟩,z⟩ s' ⟨rfl,hp,hf,hs⟩;dsimp only;refine aD (YK ho6 rfl (aD (JV ho6 rfl ?_ (bY _) ?_)))
   . rw[hf];simp only[bne_self_eq_false,bJ,if_false];exact aN (last z hp hs)
   . refine cT (nJ ((YQ ..).trans (hp.size_eq.trans (RG _)))) (by omega)
end
set_option autoImplicit false
def Rise(xs:Array Nat):Prop:=xs.toList.Pairwise (· < ·)
theorem Rise.lt{xs:Array Nat}(h:Rise xs){i k:Nat}(hik:i<k)(hk:k<xs.size)(d:Nat):xs.getD i d<xs.getD k d:=by
 have:=cO.mp h i k (by simp;omega) (by simpa using hk) hik;simp only[dL,getElem?_pos xs i (by omega),getElem?_pos xs k hk,mO];simpa using this
theorem kA{xs:Array Nat}{j:Nat}(hr:Rise xs):∀(fuel lo hi:Nat),lo<=hi->hi<=xs.size->hi-lo<=fuel->(∀i,i<lo->xs.getD i j<j)->(∀i,hi<=i->i<xs.size->j<=xs.getD i j) →
  fO.below.go xs j fuel lo hi<=xs.size/\(∀i,i<fO.below.go xs j fuel lo hi->xs.getD i j<j)/\∀i,fO.below.go xs j fuel lo hi<=i->i<xs.size->j<=xs.getD i j
 | 0, lo, hi, h1, h2, h3, h4, h5 => by
   unfold fO.below.go;have e:lo=hi:=by omega
   subst e;exact⟨h2,h4,h5⟩
 | fuel + 1, lo, hi, h1, h2, h3, h4, h5 => by
   unfold fO.below.go
   by_cases hlt:lo<hi
   . rw [if_pos hlt];dsimp only
     by_cases hm:xs.getD ((lo+hi)/2) j<j
     . rw [if_pos hm];refine kA hr fuel _ hi (by omega) h2 (by omega) (fun i hi'=>?_) h5
       by_cases e:i=(lo+hi)/2
       . rw[e];exact hm
       . exact HH (hr.lt (by omega) (by omega) j) hm
     . rw [if_neg hm];refine kA hr fuel lo _ (by omega) (by omega) (by omega) h4 fun i i1 i2=>?_
       by_cases e:i=(lo+hi)/2
       . rw[e];omega
       . have := hr.lt (show(lo + hi)/2<i by omega) i2 j;omega
   . rw [if_neg hlt];have e:lo=hi:=by omega
     subst e;exact⟨h2,h4,h5⟩
theorem GW{xs:Array Nat}(hr:Rise xs)(j:Nat) :
  fO.below xs j<=xs.size/\(∀i,i<fO.below xs j->xs.getD i j<j)/\∀i,fO.below xs j<=i->i<xs.size->j<=xs.getD i j :=
 kA hr xs.size 0 xs.size (bY _) (aM _) (by omega) (fun i hi=>absurd hi (Nat.not_lt_zero _)) fun i i1 i2=>by omega
def Tidy(t:fO):Prop:=Rise t.place/\t.dummies=#[]
theorem FZ{α : Type}(xs:Array α)(p:Nat)(x : α):(fO.insertAt xs p x).toList=xs.toList.take p++x::xs.toList.drop p:=by
 unfold fO.insertAt;simp only[cX,dO,eD,List.extract_eq_drop_take,uN,HG,bR,List.singleton_append];congr 2;rw[dP (by simp)]
theorem UE{t:fO}(h:Tidy t){j:Nat}(hj:t.place[fO.below t.place j]?≠some j):Tidy (t.put j).1:=by
 obtain⟨b1,b2,b3⟩:=GW h.1 j;refine⟨?_,?_⟩
 . show Rise (fO.insertAt t.place (fO.below t.place j) j);unfold Rise;rw [FZ,oA]
   have gt:∀q∈t.place.toList.drop (fO.below t.place j),j<q:=fun q hq=>by
    obtain⟨i,hi,e⟩:=iA hq;rw[sD,bB] at hi;have hlt:fO.below t.place j+i<t.place.size:=by omega
    have eq:t.place.getD (fO.below t.place j+i) j=q:=by
     rw[<- e,dL,getElem?_pos t.place (fO.below t.place j+i) hlt];simp
    have h3:=b3 (fO.below t.place j+i) (by omega) hlt;rw[eq] at h3
    by_cases hi0:i=0
    . subst hi0;rw[getElem?_pos t.place (fO.below t.place j) (by omega)] at hj;rw[dL,Nat.add_zero,getElem?_pos t.place (fO.below t.place j) (by omega)] at eq;simp only[mO] at eq;rw[eq] at hj;have:q≠j:=fun z=>hj (by rw[z]);omega
    . have h4 := h.1.lt (i := fO.below t.place j) (k := fO.below t.place j + i) (by omega) hlt j;rw[eq] at h4;have h5:=b3 (fO.below t.place j) (aM _) (by omega);omega
   have lt:∀q∈t.place.toList.take (fO.below t.place j),q<j:=fun q hq=>by
    obtain⟨i,hi,e⟩:=iA hq;rw[fQ,bB] at hi
    have eq:t.place.getD i j=q:=by
     rw[<- e,dL,getElem?_pos t.place i (by omega)];simp
    rw[<- eq];exact b2 i (by omega)
   refine⟨bZ (fF ..) h.1,bP.mpr ⟨gt,bZ (gJ ..) h.1⟩,fun a ha b hb=>?_⟩;rcases aF.mp hb with rfl | hb
   . exact lt a ha
   . exact HH (lt a ha) (gt b hb)
 . show(if fO.has t.dummies j then fO.eraseAt t.dummies (fO.below t.dummies j) else t.dummies)=#[];rw[h.2];rw[if_neg];unfold fO.has;simp
theorem EZ{t:fO}(h:t.dummies=#[])(f:Nat->Int)(hs:Int):∀(fuel:Nat) (p:fO.Probe),p.dummy=none->∀j d,fO.probe.go t f hs fuel p=some (.empty j d)->d=none/\t.slot j=.empty
 |0,p,_,j,d,e=>by unfold fO.probe.go at e;cases e
 | fuel + 1, p, hp, j, d, e => by
   have ha:∀q:fO.Probe,(t.advance q).dummy=q.dummy:=fun q=>by
    unfold fO.advance
    split<;>rfl
   unfold fO.probe.go at e;cases hsl:t.slot p.j with
   | empty =>
     rw[hsl] at e;simp only[Option.some.injEq,fO.Met.empty.injEq] at e;obtain⟨rfl,rfl⟩:=e;exact⟨hp,hsl⟩
   | dummy =>
     exfalso;unfold fO.slot at hsl;dsimp only at hsl
     split at hsl
     . cases hsl
     . rw [h] at hsl
       split at hsl
       . rename_i hh;unfold fO.has at hh;simp at hh
       . cases hsl
   | live i =>
     rw[hsl] at e;dsimp only at e
     split at e
     . cases e
     . exact EZ h f hs fuel _ (by rw[ha];exact hp) j d e
theorem IB{t:fO}{j:Nat}(h:t.slot j=.empty):t.place[fO.below t.place j]?≠some j:=by
 intro hh;unfold fO.slot at h;dsimp only at h;rw[if_pos (by rw[hh];simp)] at h;cases h
theorem free_is{t:fO}(h:Tidy t){hs:Int}{j:Nat}{d:Bool}(e:t.freeSlot hs=some (j,d)):t.place[fO.below t.place j]?≠some j:=by
 unfold fO.freeSlot at e
 split at e
 . rename_i j' d' he;obtain⟨rfl,h2⟩:=EZ h.2 _ hs _ _ rfl j' d' he;simp only[Option.some.injEq,Prod.mk.injEq] at e;obtain⟨rfl,rfl⟩:=e;exact IB h2
 . cases e
def Okt(bt:Bool)(t:fO):Prop:=t.led=!bt/\(t.plain=true->Tidy t)
theorem JA{bt:Bool}{t:fO}(h:Okt bt t)(es:Array (Int×aA))(hs:Int)(x:aA):Okt bt (layNew t es hs x).2.1:=by
 unfold layNew
 split
 . rename_i j d he;dsimp only;unfold fO.orStandIn
   split
   . exact⟨h.1,fun hp=>UE (h.2 hp) (free_is (h.2 hp) he)⟩
   . exact⟨h.1,fun hp=>by cases hp⟩
 . exact⟨h.1,fun hp=>by cases hp⟩
theorem WN{bt:Bool}{mask finger moves:Nat}{led plain:Bool}{hs:Array Int}{t:fO}{o:Array Nat}(hl:led=!bt)(e:fO.laid mask finger moves led plain hs=some (t,o)):Okt bt t:=by
 unfold fO.laid at e;cases ho:fO.layClean mask hs with
 |none=>rw[ho] at e;cases e
 | some owner =>
   rw[ho] at e;simp only[Option.bind_eq_bind,bG,Option.pure_def,Option.some.injEq,Prod.mk.injEq] at e;obtain⟨rfl,rfl⟩:=e;refine⟨hl,fun _=>⟨?_,rfl⟩⟩;unfold Rise;simp only
   have key:∀l:List Nat,l.Pairwise (· < ·)->((l.filterMap fun j=>(owner.getD j none).map (j,·)).map (·.1)).Pairwise (· < ·):=by
    intro l hl;refine bZ (?_:List.Sublist _ l) hl;clear hl
    induction l with
    |nil=>exact List.Sublist.refl _
    | cons a l ih =>
      rw[iB];cases owner.getD a none with
      |none=>exact List.Sublist.cons _ ih
      |some b=>exact List.Sublist.cons₂ _ ih
   exact key _ List.pairwise_lt_range
theorem CB{bt:Bool}{t:fO}(h:Okt bt t)(es:Array (Int×aA))(n:Nat):Okt bt (uB t es n).2.1:=by
 unfold uB
 split
 . rename_i t' o he;dsimp only
   split
   . exact WN h.1 he
   . exact⟨h.1,fun hp=>by cases hp⟩
 . exact⟨h.1,fun hp=>by cases hp⟩
section
variable{prog:aX}{w:bW}{A:bT}{E:aA->aC->Prop}{s:aC}
noncomputable def bt(w:bW):Bool:=w.params.followText "set-order"
def SI(prog:aX)(w:bW)(h:Heap)(a:aB)(ns:List Int):Prop :=
 ∃o es ep t ks,h.get? a=some o/\o.ExactSet/\o.data=.set es ep t/\ElemsOf (nF prog w) es.toList/\dY (es.toList.map (·.2)) ks/\ks.Nodup/\(∀k,k∈ks↔k∈ns)
  /\ es.size<scanBound/\t.fits es.size=true/\Okt (bt w) t
theorem BG:∀{us vs:List aA} {ns:List Int},dY vs ns->us.Perm vs->∃ms,dY us ms/\ms.Perm ns:=by
 intro us vs ns hI hp;refine⟨us.map numOf,intsAre_map us fun v hv=>hI.all v (hp.mem_iff.mp hv),?_⟩;have:=hp.map numOf
 rwa [hI.nums] at this
theorem BF:∀{vs:List aA} {ns:List Int},dY vs ns->∀(k:Int) (t:Tok),dY (vs++[.int k t]) (ns++[k])
 |_,_,.nil,k,t=>.cons k t .nil
 |_,_,.cons n u h,k,t=>.cons n u (BF h k t)
theorem FY:∀{vs:List aA} {ns:List Int},dY vs ns->∀k,k∈ns↔∃v∈vs,aA.isInt k v=true
 |_,_,.nil,k=>by simp
 | _, _, .cons n u h, k => by
   rw[aF,FY h k];constructor
   . rintro (rfl | ⟨v, h1, h2⟩)
     . exact⟨_,.head _,by simp[aA.isInt]⟩
     . exact⟨v,.tail _ h1,h2⟩
   . rintro ⟨v, h1, h2⟩;rcases aF.mp h1 with rfl | h1
     . have e : n = k := by simpa [aA.isInt] using h2
       exact .inl e.symm
     . exact .inr ⟨v,h1,h2⟩
theorem add_one{a:aB}{ns:List Int}{k:Int}{tk:Tok}{Q:Bool->aC->Prop}(hS:SI prog w s.heap a ns)(hroom:∀o es ep t,s.heap.get? a=some o->o.data=.set es ep t->es.size+1<scanBound)(h:∀h' b,Heap.SameBut a s.heap h'->SI prog w h' a (ns++[k])->(∀o es ep t o' es' ep' t',s.heap.get? a=some o->o.data=.set es ep t->h'.get? a=some o'->o'.data=.set es' ep' t'->es'.size<=es.size+1)->Q b { s with heap:=h' }) :
  bH (aT prog w) A (setAddHashed a (.int k tk) (oN k)) Q E s:=by
 obtain⟨o,es,ep,t,ks,ho,hex,hd,hel,hI,hnd,hmem,hb,hf,hok⟩:=hS;have hb1:es.size+1<scanBound:=hroom o es ep t ho hd;have hkey:(nF prog w).is k (.int k tk)=true:=intKind_is _ _ _ _
 have old:∀o₂ es₂ ep₂ t₂,s.heap.get? a=some o₂->o₂.data=.set es₂ ep₂ t₂->es₂=es:=fun o₂ es₂ ep₂ t₂ e1 e2=>by
  rw[ho] at e1;cases e1;rw[hd] at e2;cases e2;rfl
 unfold setAddHashed setAddHashedIn;refine dS (aD (gU ho hd hf ?_));dsimp only;rw[byScan_of (knd:=nF prog w) rfl hb hel];simp only[↓reduceIte];unfold setAddByScan;refine aD (aD (iX (aD (wpAny_setScan_of (knd:=nF prog w) hkey ho hd hf hel ?_))))
 have hks:k∈ks↔∃e∈es.toList,(nF prog w).is k e.2=true:=by
  rw[FY hI k];constructor
  . rintro⟨v, h1, h2⟩;obtain⟨e,he,rfl⟩:=cM.mp h1;exact⟨e,he,h2⟩
  . rintro⟨e, he, h2⟩;exact⟨e.2,cM.mpr ⟨e,he,rfl⟩,h2⟩
 cases hr:List.findIdx? (fun e=>(nF prog w).is k e.2) es.toList with
 | some j =>
   dsimp only;obtain⟨hj,hpj,_⟩:=List.findIdx?_eq_some_iff_getElem.mp hr;have hin:k∈ks:=hks.mpr ⟨es.toList[j],sE hj,hpj⟩;refine aN (aN ?_)
   have:=h s.heap false (Heap.SameBut.refl a s.heap) ⟨o,es,ep,t,ks,ho,hex,hd,hel,hI,hnd,fun z=>?_,hb,hf,hok⟩ fun o₁ es₁ ep₁ t₁ o₂ es₂ ep₂ t₂ e1 e2 e3 e4=>by
    rw[old _ _ _ _ e1 e2,old _ _ _ _ e3 e4];omega
   . exact this
   . rw[bM, aP, <- hmem z];exact⟨.inl,fun q=>q.elim id fun e=>e▸hin⟩
 | none =>
   dsimp only
   have hout:k∉ks:=fun hin=>by
    obtain⟨e,he,hp⟩:=hks.mp hin;have:=List.findIdx?_eq_none_iff.mp hr e he;rw[hp] at this;cases this
   have said:∀(way:Bool) {z:aC} {T:Unit->aC->Prop},T () z->bH (aT prog w) A (match way with | true=>rule "set.scan.the-table-gave-way" | false=>pure ()) T E z:=fun way z T q=>match way with
    |true=>iX q
    |false=>aN q
   have hperm:=layNew_perm t es (oN k) (.int k tk);have hfits:=layNew_fits t es (oN k) (.int k tk);have hokt:=JA hok es (oN k) (.int k tk)
   change bH (aT prog w) A (do
    let x:=layNew t es (oN k) (.int k tk)
    _) _ _ _
   generalize hL:layNew t es (oN k) (.int k tk)=L at hperm hfits hokt ⊢;obtain⟨es1,t1,wd,gave⟩:=L;dsimp only at hperm hfits hokt ⊢;rw[dO] at hperm
   have mk:∀es2:Array (Int×aA),es2.toList.Perm es1.toList->ElemsOf (nF prog w) es2.toList/\(∃ks2,dY (es2.toList.map (·.2)) ks2/\ks2.Nodup/\∀z,z∈ks2↔z∈ns++[k])/\es2.size=es.size+1:=fun es2 hp2=>by
    have hp3:=hp2.trans hperm;refine⟨(hel.push (knd:=nF prog w) hkey rfl).perm hp3,?_,?_⟩
    . have e1:dY ((es.toList++[(oN k,aA.int k tk)]).map (·.2)) (ks++[k]):=by
       rw[dD];exact BF hI k tk
      obtain⟨ks2,g1,g2⟩:=BG e1 (hp3.map (·.2));refine⟨ks2,g1,g2.nodup_iff.mpr ?_,fun z=>?_⟩
      . rw[cS];exact⟨hnd,by simp,fun x hx y hy=>by rw[aP.mp hy];exact fun e=>hout (e▸hx)⟩
      . rw[g2.mem_iff,bM,bM,hmem z]
    . have := hp3.length_eq;simpa using this
   obtain⟨hel1,⟨ks1,hI1,hnd1,hm1⟩,hsz1⟩:=mk es1 (gB _);refine aD (said _ ?_)
   have fin:∀(t2:fO),t2.fits es1.size=true->Okt (bt w) t2->bH (aT prog w) A (do
     storeSet a es1 t2
     if (!wd && t2.tooFull) = true then do
         (match (uB t2 es1 (fO.grown es1.size)).2.2 with | true=>rule "set.scan.the-table-gave-way" | false=>pure ():Sem Unit)
         storeSet a (uB t2 es1 (fO.grown es1.size)).1 (uB t2 es1 (fO.grown es1.size)).2.1;pure (some true)
      else pure (some true)) (fun r s'=>bH (aT prog w) A (match r with | some added=>pure added | none=>setAddHashedIn a (.int k tk) (oN k) 99999) Q E s') E s:=fun t2 hf2 ok2=>by
    refine aD (wpAny_storeSet_of ho hd ?_ (nG (by omega)))
    have hg1:(s.heap.update a (Obj.putSet es1 t2)).get? a=some { o with data:=.set es1 (ep+1) t2 }:=by
     have:=dB (Obj.putSet es1 t2) ho (by rw[MZ es1 t2 hd];rfl);rw[MZ es1 t2 hd] at this;exact this
    have sb1:=uH s.heap a (Obj.putSet es1 t2)
    split
    . have hp := relayAll_perm t2 es1 (fO.grown es1.size);have hfr:=relayAll_fits t2 es1 (fO.grown es1.size);have hor:=CB ok2 es1 (fO.grown es1.size);generalize uB t2 es1 (fO.grown es1.size)=Rl at hp hfr hor ⊢;obtain ⟨es2,t3,g2⟩:=Rl;dsimp only at hp hfr hor ⊢;obtain ⟨hel2,⟨ks2,hI2,hnd2,hm2⟩,hsz2⟩:=mk es2 hp;refine aD (said _ ?_);refine aD (wpAny_storeSet_of hg1 rfl ?_ (nG (by omega)))
      have hg2:((s.heap.update a (Obj.putSet es1 t2)).update a (Obj.putSet es2 t3)).get? a=some { o with data:=.set es2 (ep+1+1) t3 }:=by
       have:=dB (Obj.putSet es2 t3) hg1 (by rw[MZ es2 t3 rfl];rfl);rw[MZ es2 t3 rfl] at this;exact this
      refine aN (aN (h _ true (sb1.trans (uH _ a _)) ⟨_,es2,_,t3,ks2,hg2,hex,rfl,hel2,hI2,hnd2,hm2,by omega,hfr,hor⟩ fun o₁ es₁ ep₁ t₁ o₂ es₂ ep₂ t₂ e1 e2 e3 e4=>?_));rw[old _ _ _ _ e1 e2];rw[hg2] at e3;cases e3;cases e4;omega
    . refine aN (aN (h _ true sb1 ⟨_, es1, _, t2, ks1, hg1, hex, rfl, hel1, hI1, hnd1, hm1, by omega, hf2, ok2⟩ fun o₁ es₁ ep₁ t₁ o₂ es₂ ep₂ t₂ e1 e2 e3 e4 => ?_));rw[old _ _ _ _ e1 e2];rw[hg1] at e3;cases e3;cases e4;omega
   split
   . refine aD ?_;rw[hashByValue_scannable 8 rfl];refine aN ?_;exact fin t1 hfits hokt
   . refine aD (aN ?_);exact fin t1 hfits hokt
end
set_option autoImplicit false
section
variable{prog:aX}{w:bW}
def SIm(prog:aX)(w:bW)(h:Heap)(a:aB)(ns:List Int)(m:Nat):Prop :=
 SI prog w h a ns/\∀o es ep t,h.get? a=some o->o.data=.set es ep t->es.size<=m
theorem SIm.at{h h':Heap}{a:aB}{ns:List Int}{m:Nat}(hS:SIm prog w h a ns m)(k:∀o,h.get? a=some o->h'.get? a=some o):SIm prog w h' a ns m:=by
 obtain⟨⟨o,es,ep,t,ks,ho,r⟩,hm⟩:=hS;refine⟨⟨o,es,ep,t,ks,k o ho,r⟩,fun o' es' ep' t' e1 e2=>?_⟩;rw[k o ho] at e1;cases e1;exact hm o es' ep' t' ho e2
section
variable{A:bT}{R:HF->aC->Prop}{J:aB}{feet hand:List aB}{G:Array nZ->Array nZ->Prop}{n:Nat}{P:Nat->aA->Prop}{Z:Nat->aC->Prop}
theorem wD{c:aB}{z:aC}(h:bH (aT prog w) A.in1 (HC (.ref J)) (fun r z'=>match r with
   |none=>R (.ok (.ret .none)) z'
   |some v=>bH (aT prog w) A.in1 (setAdd c v) (fun _ z2=>gZ (aT prog w) A (.builtin "set.update.loop" ⟨[.ref c,.ref J],[]⟩) R z2) (fun e z2=>R (.error e) z2) z') (fun e z2=>R (.error e) z2) z) :
  gZ (aT prog w) A (.builtin "set.update.loop" ⟨[.ref c,.ref J],[]⟩) R z:=by
 have pl:=F.plain_set_update_loop;refine iU F.entry_set_update_loop (Eq.mpr (congrArg (fun B=>bH _ B _ _ _ z) (bT.under_plainId pl _)) ?_);show bH _ A.in1 (HC (.ref J) >>= _) _ _ z;refine aD (dU h (fun r z' q=>?_) fun _ _ q=>q);cases r with
 |none=>exact aN q
 | some v =>
   show bH _ A.in1 (gX [v] (setAdd c v) >>= _) _ _ z';exact aD (dS (dU q (fun _ z2 q2=>aN ⟨nH pl _,q2⟩) fun _ _ q2=>q2))
theorem SO(W:WalksS prog w A.in1 J feet hand G n P Z)(c:aB)(off:c∉feet)(num:Nat->Int)(isn:∀i v,P i v->∃t,v=.int (num i) t)(few:n+1<scanBound) :
  ∀(k i:Nat) (z:aC),n-i=k->i<=n->Z i z->SIm prog w z.heap c ((List.range i).map num) i →
   (∀z',Moved (c::hand) G z z'->SIm prog w z'.heap c ((List.range n).map num) n->R (.ok (.ret .none)) z') →
   gZ (aT prog w) A (.builtin "set.update.loop" ⟨[.ref c,.ref J],[]⟩) R z:=by
 have away:c∉hand:=fun q=>off (W.sub c q);have more:∀b,b∈hand->b∈c::hand:=fun b q=>.tail _ q;intro k
 induction k with
 | zero =>
   intro i z hk hi here hS done;have e:i=n:=by omega
   subst e;refine wD (W.done z _ _ here fun z' mv=>?_);exact done z' (mv.mono more) (hS.at fun o e=>mv.heap c o away e)
 | succ k ih =>
   intro i z hk hi here hS done;have hlt:i<n:=by omega
   refine wD (W.item i z _ _ hlt here fun v z' hv here' mv=>?_);obtain⟨t,rfl⟩:=isn i v hv;have hS':=hS.at fun o e=>mv.heap c o away e;dsimp only;unfold setAdd;refine dS (aD ((nF prog w).pyHash (k:=num i) (intKind_is _ _ _ _) ?_));refine add_one (s:={ z' with toks:=z'.toks+1 }) hS'.1 (fun o es ep t e1 e2=>?_) fun h' b same hS2 hsz=>?_
   . have := hS'.2 o es ep t e1 e2;omega
   have rest:∀b,b≠c->h'.get? b=z'.heap.get? b:=same.2
   have hS3:SIm prog w h' c ((List.range (i+1)).map num) (i+1):=by
    refine⟨by rw[nK,dD];exact hS2,fun o es ep t e1 e2=>?_⟩;obtain⟨⟨o₀,es₀,ep₀,t₀,_,ho₀,_,hd₀,_⟩,hm₀⟩:=hS';have:=hsz o₀ es₀ ep₀ t₀ o es ep t ho₀ hd₀ e1 e2;have:=hm₀ o₀ es₀ ep₀ t₀ ho₀ hd₀;omega
   refine ih (i+1) _ (by omega) hlt (W.frame _ z' _ _ here' (lF _) fun b q o e=>(rest b fun y=>off (y▸q)).trans e) hS3 fun z2 mv2 hS4=>done z2 (Moved.trans W.gtrans ((mv.mono more).then_heap (lF _) fun b o q e=>(rest b fun y=>q (y▸.head _)).trans e) mv2) hS4
end
section
variable{A:bT}{E:aA->aC->Prop}{s:aC}
abbrev nset(led:Bool):Obj:={ cls:=.type "set",dict:=none,data:=.set #[] 0 (.fresh 0 0 led) }
theorem FJ(x:aA){Q:aA->aC->Prop}(h:Q (.ref s.heap.objs.size) { s with heap:=s.heap.push (nset (!bt w)) }) :
  gZ (aT prog w) A (.call (.builtin "set.__new__") ⟨[.type "set",x],[]⟩) (wants Q E) s:=by
 have own:=sub_set_self;have pl:=PySem.F.plain_set_new;refine DN ?_;show bH _ A.in1 (checkBuiltinCall "set.__new__" ⟨[.type "set",x],[]⟩ >>= fun _=>again (.builtin "set.__new__" ⟨[.type "set",x],[]⟩)) _ _ s;refine aD (wpAny_of_eq (PySem.F.newCall_set_1 x) (aN ⟨nH pl _,iU PySem.F.entry_set_new ?_⟩));rw[bT.under_plainId pl _];obtain⟨hp,gens,dr,toks,sys⟩:=s;unfold Builtin.«set.__new__»;unfold Builtin.Frozenset.newClass
 wp_walk
 exact uY (aN (aD (wpAny_alloc (aN (aN h)))))
theorem si_new(h:Heap):SIm prog w (h.push (nset (!bt w))) h.objs.size [] 0:=by
 have hg:(h.push (nset (!bt w))).get? h.objs.size=some (nset (!bt w)):=aK _ rfl;refine⟨⟨_,#[],0,_,[],hg,⟨rfl,rfl,rfl⟩,rfl,fun e he=>by simp at he,.nil,YZ,fun _=>Iff.rfl,by decide,by rfl,rfl,fun _=>⟨List.Pairwise.nil,rfl⟩⟩,fun o es ep t e1 e2=>?_⟩;rw[hg] at e1;cases e1;cases e2;exact aM _
theorem VL{items:Array aA}{ns:List Int}(hi:dY items.toList ns):(List.range items.size).map (fun i=>ns.getD i 0)=ns:=by
 have hlen:items.size=ns.length:=by rw[<- dY.length hi,bB]
 apply iV;intro i;rw[bK]
 by_cases hi':i<ns.length
 . rw[lM (by omega)];simp[eY,aZ hi']
 . rw[bC (by simp;omega),bC (by omega)];rfl
theorem WR{l:aB}{items:Array aA}{ns:List Int}{Q:aA->aC->Prop}(free:A.handled=none)(hl:s.heap.IsList l items)(hi:dY items.toList ns)(few:items.size+1<scanBound)(h:∀(h':Heap) (tk:Nat),SIm prog w h' s.heap.objs.size ns items.size->(∀b o,s.heap.get? b=some o->h'.get? b=some o)->Q .none { s with heap:=h',toks:=tk }) :
  gZ (aT prog w) A (.call (.builtin "set.__init__") ⟨[.ref s.heap.objs.size,.ref l],[]⟩) (wants Q E) { s with heap:=s.heap.push (nset (!bt w)) }:=by
 have hS:(s.heap.push (nset (!bt w))).get? s.heap.objs.size=some (nset (!bt w)):=aK _ rfl;refine codeAny_call_builtin lL.init.plain AG (check_set_init_1 ⟨_,hS,rfl⟩ ?_);obtain⟨lo,hlo,c1,nl,d1⟩:=hl;obtain⟨k1,k2,k3,k4⟩:=lo;cases c1;cases d1;have old:(s.heap.push (nset (!bt w))).get? l=some { cls:=.type "list",dict:=k2,data:=.seq items nl,slots:=k4 }:=aG _ hlo;have no1:=DO;have no2:=sS;have no3:(aA.type "list"==aA.type "dict")=false:=rfl;have hl1:(s.heap.push (nset (!bt w))).IsList l items:=⟨_,old,rfl,nl,rfl⟩
 have lS:=aV hlo;have sz:(s.heap.push (nset (!bt w))).objs.size=s.heap.objs.size+1:=oM _ _;have far:∀b:aB,b<s.heap.objs.size->b≠(s.heap.push (nset (!bt w))).objs.size:=fun b hb=>by rw[sz];exact bL (fH hb)
 unfold Builtin.«set.__init__» noKeywords;unfold Builtin.Frozenset.updateFrom;generalize walker:AA=PI
 wp_walk
 subst walker;refine nE hl1 (aD (GZ ?_))
 refine SO ((Walks.list (by simp[free]) _ l (far l lS) items).toS) s.heap.objs.size ?off (fun i=>ns.getD i 0) (fun i v hv=>dY.int_at hi i v (by rw[cD];exact hv)) few items.size 0 _ rfl (bY _)
  ⟨⟨_,aK _ rfl,rfl,rfl⟩,hl1.push _⟩ ((si_new s.heap).at fun o e=>aG _ e) ?fin
 case off =>
  rw[sz];intro q;rcases aF.mp q with e | q
  . exact bL (hU _) e
  . exact iZ lS (aP.mp q)
 case fin =>
  rintro⟨h2,g2,d2,t2,s2⟩ mv full;have eg:g2=s.gens:=mv.gens;have ed:d2=s.drawn:=mv.drawn;have es:s2=s.os:=mv.os;rw[VL hi] at full;subst eg ed es;refine aN (aN (h h2 t2 full fun b o e=>?_));have hb:=aV e;refine mv.heap b o (fun q=>?_) (aG _ (aG _ e));rcases aF.mp q with y | q
  . exact bL hb y
  . exact far b hb (aP.mp q)
set_option maxHeartbeats 4000000 in
theorem call_set{l:aB}{items:Array aA}{ns:List Int}{Q:aA->aC->Prop}(free:A.handled=none)(hl:s.heap.IsList l items)(hi:dY items.toList ns)(few:items.size+1<scanBound)(h:∀(h':Heap) (tk:Nat),SIm prog w h' s.heap.objs.size ns items.size->(∀b o,s.heap.get? b=some o->h'.get? b=some o)->Q (.ref s.heap.objs.size) { s with heap:=h',toks:=tk }) :
  bH (aT prog w) A (call (.type "set") [.ref l]) Q E s:=by
 have C:=lL;obtain⟨top,above,order⟩:=C.mro;have made:=C.made;have below:=C.sub;have nt:=C.notType;have can:=C.canCreate;have fits:=AF (.ref l);refine HA (DN (show bH _ _ (callAny (.type "set") _) _ _ _ from aN ⟨Code.quiet_builtin _ (by decide +kernel),iU uJ ?_⟩));rw[bT.under_plain (weight_type_call_type _ _ _) rfl]
 repeat (any_goals first | assumption | wp_step)
 refine iK (FJ (.ref l) (E:=E) (Q:=fun v z=>v=.ref s.heap.objs.size/\z={ s with heap:=s.heap.push (nset (!bt w)) }) ⟨rfl,rfl⟩) fun r z q=>?_;rcases r with e | fl
 . exact q
 cases fl<;>try exact q.elim
 obtain⟨rfl,rfl⟩:=q;have at':aC.TypeIs { s with heap:=s.heap.push (nset (!bt w)) } (.ref s.heap.objs.size) "set":=⟨_,aK _ rfl,rfl⟩
 have look:=C.init.lookup;have bound:=C.init.bind (.ref s.heap.objs.size)
 repeat (any_goals first | assumption | wp_step)
 refine iK (WR (E:=E) (Q:=fun v z=>v=.none/\∃h' tk,z={ s with heap:=h',toks:=tk }/\SIm prog w h' s.heap.objs.size ns items.size/\∀b o,s.heap.get? b=some o->h'.get? b=some o) (by simp[free]) hl hi few
  fun h' tk q1 q2=>⟨rfl,h',tk,rfl,q1,q2⟩) fun r z q=>?_
 rcases r with e | fl
 . exact q
 cases fl<;>try exact q.elim
 obtain⟨rfl,h',tk,rfl,q1,q2⟩:=q
 repeat (any_goals first | assumption | wp_step)
 exact h h' tk q1 q2
end
end
set_option autoImplicit false
theorem oU:Slot "set" "__iter__" "set.__iter__" :=
 .of (owner:="set") (n:="__iter__") (by rw[iT,fE];kernel_rfl) (by decide +kernel) (by decide +kernel) (by decide +kernel) (by first | exact .inl (by decide +kernel) | exact .inr (by decide +kernel)) (by rw[pV];kernel_rfl)
theorem fX:Slot "set_iterator" "__next__" "set_iterator.__next__" :=
 .of (owner:="set_iterator") (n:="__next__") (by rw[iT,fE];kernel_rfl) (by decide +kernel) (by decide +kernel) (by decide +kernel) (by first | exact .inl (by decide +kernel) | exact .inr (by decide +kernel)) (by rw[pV];kernel_rfl)
theorem nC:Slot "set_iterator" "__iter__" "set_iterator.__iter__" :=
 .of (owner:="set_iterator") (n:="__iter__") (by rw[iT,fE];kernel_rfl) (by decide +kernel) (by decide +kernel) (by decide +kernel) (by first | exact .inl (by decide +kernel) | exact .inr (by decide +kernel)) (by rw[pV];kernel_rfl)
theorem tU:entryFor table "set.__iter__" = some Builtin.«frozenset.__iter__»:=entryFor_alias (id':="frozenset.__iter__") (by kernel_rfl) rfl (by decide +kernel) (by kernel_rfl)
theorem rG:entryFor table "set_iterator.__iter__" = some Builtin.«dict_keyiterator.__iter__»:=entryFor_alias (id':="dict_keyiterator.__iter__") (by kernel_rfl) rfl (by decide +kernel) (by kernel_rfl)
theorem sK(a:aA):RH "set_iterator.__iter__" ⟨[a],[]⟩:=by unfold RH;kernel_rfl
theorem xJ{α : Type}:∀{l:List α} {i:Nat} (h:i<l.length),(l[i]::l.eraseIdx i).Perm l
 |a::l,0,h=>gB _
 | a :: l, i + 1, h => by
   rw[List.eraseIdx_cons_succ,List.getElem_cons_succ];exact(List.Perm.swap _ _ _).trans (List.Perm.cons _ (xJ (by simpa using h)))
theorem rF:entryFor table "set_iterator.__next__" = some Builtin.«set_iterator.__next__»:=entryFor_of_fast (by kernel_rfl)
theorem uW(a:aA):RH "set.__iter__" ⟨[a],[]⟩:=by unfold RH;kernel_rfl
theorem sJ(a:aA):RH "set_iterator.__next__" ⟨[a],[]⟩:=by unfold RH;kernel_rfl
theorem EH:sL (.type "set") "__len__" = pure (some (.builtin "set.__len__")):=by rw[iT,fE];kernel_rfl
theorem LL{α : Type}(next:Nat->Nat):∀(fuel k:Nat) (left:List α) (out:Array α),left.length=fuel->(NA.go next fuel k left out).toList.Perm (out.toList++left)
 | 0, k, left, out, h => by
   have e:left=[]:=DP.mp h;subst e;unfold NA.go;simp
 | fuel + 1, k, left, out, h => by
   unfold NA.go;have hi:next k%left.length<left.length:=Nat.mod_lt _ (by omega);rw[aZ hi];dsimp only;refine(LL next fuel (k+1) _ _ (by rw[uM hi];omega)).trans ?_;rw[dO,bR];exact fU _ (xJ hi)
theorem OJ{α : Type}(next:Nat->Nat)(xs:Array α):(NA next xs).toList.Perm xs.toList:=by
 have:=LL next xs.size 0 xs.toList #[] (by simp);simpa[NA] using this
section
variable{prog:aX}{w:bW}{A:bT}{E:aA->aC->Prop}{s:aC}
theorem NI{M:uG}{src:Source}{n:Nat}{Q:Nat->aC->Prop}(hn:n≠0)(h:∀i d,i<n->Q i { s with drawn:=d }):bH M A (choose src n) Q E s:=by
 intro Γ p hΓ;unfold choose;rw[Sem.wp];refine⟨hn,?_⟩;rw[Sem.wp];exact h _ _ (Nat.mod_lt _ (by omega))
theorem KD{α : Type}{M:uG}:∀(n:Nat) (xs:List α) (z:aC) {Q:List α->aC->Prop},xs.length=n->(∀ys d,ys.Perm xs->Q ys { z with drawn:=d })->bH M A (drawOrder n xs) Q E z
 | 0, xs, z, Q, hl, h => by
   have e:xs=[]:=DP.mp hl;subst e;unfold drawOrder;exact aN (h [] z.drawn (gB _))
 |n+1,[],z,Q,hl,h=>by simp at hl
 | n + 1, x :: xs, z, Q, hl, h => by
   unfold drawOrder;refine aD (NI (by simp) fun i d hi=>?_);rw[aZ hi];dsimp only;refine aD (KD n _ _ (by rw[uM hi,hl];rfl) fun ys d' hp=>aN ?_);exact h _ d' ((List.Perm.cons _ hp).trans (xJ hi))
theorem xG{Q:Bool->aC->Prop}(h:Q (bt w) s):bH (aT prog w) A setsByText Q E s:=by
 unfold setsByText;exact aD (uY (aN h))
abbrev sit(f:aA)(i:Nat)(a:aB)(n ep:Nat):Obj:={ cls:=.type "set_iterator",data:=.fields #[f,.int i 0,.ref a,.int n 0,.int ep 0] }
theorem EF{M:uG}{it:aB}{Q:aA->aC->Prop}(hh:A.handled=none)(h:∀h' e,(∀b o,s.heap.get? b=some o->h'.get? b=some o)->aC.TypeIs { s with heap:=h' } e "StopIteration"->E e { s with heap:=h' }) :
  bH M A (do YL (<- newExc (.type "StopIteration") []):Sem PySem.Fin) (fun r s'=>∃v,r=.done (.ret v)/\Q v s') E s:=by
 refine aD ?_;simp only[newExc,newTuple];refine aD (gW ?_ (by size_fits));refine aD (m:=firstArgMember _ _) (wpAny_of_eq (a:=aA.none) rfl ?_);refine gW ?_ (by size_fits);simp only[YL];refine aD (wpAny_handled ?_);rw[hh];refine aD (aN (wpAny_throw ?_));refine h _ _ (fun b o e=>aG _ (aG _ e)) ⟨_,aK _ rfl,rfl⟩
theorem wA{it a:aB}{f:aA}{i n ep:Nat}{Q:Option aA->aC->Prop}(hit:s.heap.get? it=some (sit f i a n ep))(h:bH (aT prog w) A.in1 (Builtin.«set_iterator.__next__» ⟨[.ref it],[]⟩) (fun r s'=>∃v,r=.done (.ret v)/\Q (some v) s')
    (fun e s'=>s'.TypeIs e "StopIteration"/\Q none s') s):bH (aT prog w) A (HC (.ref it)) Q E s:=by
 unfold HC
 refine aD (wpAny_attempt (wpAny_callSpecial?_slot (name:=Str.ofString "__next__") ⟨_,hit,rfl⟩ fX
  (iJ fX ⟨_,hit,rfl⟩ rF (dU h (fun r s' ⟨v,e,q⟩=>⟨v,e,aN q⟩) fun e s' ⟨ht,q⟩=>?_) (sJ _))))
 refine aD (uX (T:="StopIteration") (b:=true) ht isSubtype_stop ?_);exact aN q
theorem vT{it a:aB}{o:Obj}{f:aA}{es:Array (Int×aA)}{i n ep:Nat}{t:fO}{Q:PySem.Fin->aC->Prop}{E':aA->aC->Prop}(hit:s.heap.get? it=some (sit f i a n ep))(ho:s.heap.get? a=some o)(hd:o.data=.set es ep t)(hf:t.fits es.size=true)(hn:es.size=n)(h:bH (aT prog w) A (
    if let .int slot _:=f then do
     match <- DR a slot.toNat i ep with
     | some (x, next) =>
       uA (.ref it) 0 (mS next)
       uA (.ref it) 1 (mS ((i:Int)+1))
       ret x
     |none=>uA (.ref it) 2 .none;YL (<- newExc (.type "StopIteration") [])
    else do
     let some places <- seqItems? f | unsupported "internal:set_iterator"
     match places[i]? with
     | some (.int place _) =>
       let x <- setNextDrawn a place.toNat ep
       uA (.ref it) 1 (mS ((i:Int)+1))
       ret x
     |some _=>unsupported "internal:set_iterator"
     |none=>uA (.ref it) 0 (mS 0);uA (.ref it) 2 .none;YL (<- newExc (.type "StopIteration") [])) Q E' s) :
  bH (aT prog w) A (Builtin.«set_iterator.__next__» ⟨[.ref it],[]⟩) Q E' s:=by
 unfold Builtin.«set_iterator.__next__»;show bH (aT prog w) A (fieldsOf (.ref it) >>= _) Q E' s;unfold fieldsOf;refine aD (aD (wpAny_load hit (aN ?_)));dsimp only;refine aD (wpAny_setEntries_of ho hd hf ?_);rw[if_neg (by simp[hn])];exact h
theorem tM{it a:aB}{f:aA}{i n ep:Nat}{Q:aA->aC->Prop}(hit:s.heap.get? it=some (sit f i a n ep))(h:Q (.ref it) s):bH (aT prog w) A (AA (.ref it)) Q E s:=by
 refine wpAny_pyIter_slot ⟨_,hit,rfl⟩ nC (iJ nC ⟨_,hit,rfl⟩ rG ?_ (sK _));unfold Builtin.«dict_keyiterator.__iter__»;exact aN ⟨_,rfl,"set_iterator",_,⟨_,hit,rfl⟩,fX.lookup,h⟩
theorem KN{h:Heap}{it a:aB}{f g:aA}{i n ep:Nat}(hit:h.get? it=some (sit f i a n ep)):(h.update it (Obj.mapFields (·.setIfInBounds 0 g))).get? it=some (sit g i a n ep):=
 dB _ hit rfl
theorem KL{h:Heap}{it a:aB}{f:aA}{i n ep:Nat}(hit:h.get? it=some (sit f i a n ep)):(h.update it (Obj.mapFields (·.setIfInBounds 1 (mS ((i:Int)+1))))).get? it=some (sit f (i+1) a n ep):=by
 have:=dB (Obj.mapFields (·.setIfInBounds 1 (mS ((i:Int)+1)))) hit rfl;rw[this];have e:((i+1:Nat):Int)=(i:Int)+1:=by omega
 unfold sit;rw[e];rfl
theorem DX{it a:aB}{o:Obj}{es:Array (Int×aA)}{ep:Nat}{t:fO}{sl:Nat->Nat}{ord:List aA}(hh:A.in1.handled=none)(hne:a≠it)(hd:o.data=.set es ep t)(hf:t.fits es.size=true)(hn:ord.length=es.size)(hx:∀(i:Nat) (z:aC) (Q:Option (aA×Nat)->aC->Prop) (E:aA->aC->Prop),z.heap.get? a=some o->i<=es.size->Q (ord[i]?.map fun x=>(x,sl (i+1))) z->bH (aT prog w) A.in1 (DR a (sl i) i ep) Q E z) :
  WalksS prog w A it [it,a] [it] (fun a b=>b=a) es.size (fun i v=>ord[i]?=some v) (fun i z=>z.heap.get? it=some (sit (.int (sl i) 0) i a es.size ep)/\z.heap.get? a=some o) where
 sub:=fun b hb=>by simp at hb;simp[hb]
 grefl:=fun _=>rfl
 gtrans:=fun _ _ _ h1 h2=>h2.trans h1
 frame:=fun i z h' tk st _ hk=>⟨hk it (by simp) _ st.1,hk a (by simp) _ st.2⟩
 self:=fun i z Q E st h=>tM st.1 h
 item:=fun i z Q E hi st h=>by
  refine wA st.1 (vT st.1 st.2 hd hf rfl ?_);dsimp only;refine aD (hx i z _ _ st.2 (by omega) ?_);rw[aZ (by omega)];dsimp only[cQ];refine aD (kU st.1 rfl (by simp) ?_);have s1:=KN (g:=mS (sl (i+1):Int)) st.1;refine aD (kU s1 rfl (by simp) (aN ⟨_,rfl,?_⟩));have s2:=KL s1;refine h _ _ (aZ (by omega)) ⟨s2,?_⟩ ⟨fun b o' hb e=>?_,rfl,rfl,rfl,aM _⟩
  . exact(bS _ _ (Ne.symm hne)).trans ((bS _ _ (Ne.symm hne)).trans st.2)
  . have hb' : it ≠ b := fun z => hb (by simp[z]);exact(bS _ _ hb').trans ((bS _ _ hb').trans e)
 done:=fun z Q E st h=>by
  refine wA st.1 (vT st.1 st.2 hd hf rfl ?_);dsimp only;refine aD (hx es.size z _ _ st.2 (aM _) ?_);rw[bC (by omega)];dsimp only[Option.map_none];refine aD (kU st.1 rfl (by simp) ?_);refine EF (it:=it) hh fun h' e hk ht=>⟨ht,h _ ⟨fun b o' hb e=>hk b o' ?_,rfl,rfl,rfl,aM _⟩⟩
  exact(bS _ _ (fun z=>hb (by simp[z]))).trans e
theorem HU{it a T:aB}{o oT:Obj}{es:Array (Int×aA)}{ep:Nat}{t:fO}{pl:List Nat}{n0:Nat}(hh:A.in1.handled=none)(hne:a≠it)(hnT:T≠it)(hd:o.data=.set es ep t)(hf:t.fits es.size=true)(hT:oT=fR "tuple" (pl.map fun(i:Nat)=>mS i).toArray n0)(hp:pl.Perm (List.range es.size)) :
  WalksS prog w A it [it,a,T] [it] (fun a b=>b=a) es.size (fun i v=>((pl.map fun i=>(es.toList.map (·.2)).getD i .none))[i]?=some v)
   (fun i z=>z.heap.get? it=some (sit (.ref T) i a es.size ep)/\z.heap.get? a=some o/\z.heap.get? T=some oT) where
 sub:=fun b hb=>by simp at hb;simp[hb]
 grefl:=fun _=>rfl
 gtrans:=fun _ _ _ h1 h2=>h2.trans h1
 frame:=fun i z h' tk st _ hk=>⟨hk it (by simp) _ st.1,hk a (by simp) _ st.2.1,hk T (by simp) _ st.2.2⟩
 self:=fun i z Q E st h=>tM st.1 h
 item:=fun i z Q E hi st h=>by
  have hl:pl.length=es.size:=by rw[hp.length_eq];simp
  have hpi:pl[i]?=some (pl[i]'(by omega)):=aZ (by omega);have hlt:pl[i]'(by omega)<es.size:=oB.mp (hp.mem_iff.mp (sE _));refine wA st.1 (vT st.1 st.2.1 hd hf rfl ?_);dsimp only;refine aD (GY st.2.2 (by rw[hT]) ?_);dsimp only
  have e1:(pl.map fun(i:Nat)=>mS i).toArray[i]?=some (mS (pl[i]'(by omega):Int)):=by
   rw[nS,bK,hpi];rfl
  rw[e1];dsimp only[mS];unfold setNextDrawn;refine aD (aD (gU st.2.1 hd hf ?_));dsimp only;rw[if_neg (by simp)];rw[Int.toNat_natCast,getElem?_pos es (pl[i]'(by omega)) hlt];dsimp only;refine aN (aD (kU st.1 rfl (by simp) (aN ⟨_,rfl,?_⟩)));refine h _ _ ?_ ⟨KL st.1,(bS _ _ (Ne.symm hne)).trans st.2.1,(bS _ _ (Ne.symm hnT)).trans st.2.2⟩ ⟨fun b o' hb e=>(bS _ _ (fun z=>hb (by simp[z]))).trans e,rfl,rfl,rfl,aM _⟩;rw[bK,hpi];simp[eY,hlt]
 done:=fun z Q E st h=>by
  have hl:pl.length=es.size:=by rw[hp.length_eq];simp
  refine wA st.1 (vT st.1 st.2.1 hd hf rfl ?_);dsimp only;refine aD (GY st.2.2 (by rw[hT]) ?_);dsimp only
  have e1:(pl.map fun(i:Nat)=>mS i).toArray[es.size]?=none:=by
   rw[nS,bC (by simp;omega)]
  rw[e1];dsimp only;refine aD (kU st.1 rfl (by simp) ?_);refine aD (kU (KN st.1) rfl (by simp) ?_);refine EF (it:=it) hh fun h' e hk ht=>⟨ht,h _ ⟨fun b o' hb e=>hk b o' ?_,rfl,rfl,rfl,aM _⟩⟩
  have hb':it≠b:=fun z=>hb (by simp[z]);exact(bS _ _ hb').trans ((bS _ _ hb').trans e)
end
set_option autoImplicit false
section
variable{prog:aX}{w:bW}{A:bT}{E:aA->aC->Prop}{s:aC}
noncomputable def slOf(pl:Array Nat)(i:Nat):Nat:=if i=0 then 0 else pl.getD (i-1) 0+1
theorem YD{pl:Array Nat}(h:Rise pl){i:Nat}(hi:i<=pl.size):fO.below pl (slOf pl i)=i:=by
 obtain⟨b1,b2,b3⟩:=GW h (slOf pl i)
 have gd:∀k d d',k<pl.size->pl.getD k d=pl.getD k d':=fun k d d' hk=>by
  simp only[dL,getElem?_pos pl k hk,mO]
 rcases rN (fO.below pl (slOf pl i)) i with hlt | he | hgt
 . exfalso;have h3:=b3 (i-1) (by omega) (by omega);rw[gd (i-1) _ 0 (by omega)] at h3;unfold slOf at h3;rw[if_neg (by omega)] at h3;omega
 . exact he
 . exfalso;have h2:=b2 i hgt
   by_cases hi0:i=0
   . subst hi0;unfold slOf at h2;simp at h2
   . have h4 := h.lt (i := i-1) (k := i) (by omega) (by omega) 0;rw[gd i _ 0 (by omega)] at h2;unfold slOf at h2;rw[if_neg hi0] at h2;omega
theorem OV{a:aB}{o:Obj}{es:Array (Int×aA)}{ep:Nat}{t:fO}(hd:o.data=.set es ep t)(hf:t.fits es.size=true)(hb:bt w=true)(i:Nat)(z:aC)(Q:Option (aA×Nat)->aC->Prop)(E:aA->aC->Prop)(ho:z.heap.get? a=some o)(h:Q ((((NA (w.params.setOrder a ep) es).toList.map (·.2))[i]?).map fun x=>(x,0)) z):bH (aT prog w) A (DR a 0 i ep) Q E z:=by
 unfold DR;refine aD (gU ho hd hf ?_);dsimp only;refine aD (xG ?_);rw[hb];simp only[if_true,bne_self_eq_false,bJ,if_false];unfold setWalk;refine aD (aD (gU ho hd hf ?_));dsimp only;refine aD (xG ?_);rw[hb];simp only[if_true];refine aD (uY (aN (aN ?_)));rw[bK,cD,Option.map_map] at h;exact h
theorem IN{a:aB}{o:Obj}{es:Array (Int×aA)}{ep:Nat}{t:fO}(hd:o.data=.set es ep t)(hf:t.fits es.size=true)(hb:bt w=false)(hl:t.led=true)(hnd:(!t.plain&&decide (es.size>1))=false)(hr:Rise t.place)(i:Nat)(z:aC)(Q:Option (aA×Nat)->aC->Prop)(E:aA->aC->Prop)(ho:z.heap.get? a=some o)(hi:i<=es.size)(h:Q (((es.toList.map (·.2))[i]?).map fun x=>(x,slOf t.place (i+1))) z):bH (aT prog w) A (DR a (slOf t.place i) i ep) Q E z:=by
 have hps:t.place.size=es.size:=by
  simp only[fO.fits,cG,beq_iff_eq] at hf;exact hf.1
 unfold DR;refine aD (gU ho hd hf ?_);dsimp only;refine aD (xG ?_);rw[hb];simp only[bJ,if_false]
 split
 . rename_i hh;have hh':(!t.plain&&decide (es.size>1))=true:=hh;rw[hnd] at hh';cases hh'
 . refine aD ?_;show bH (aT prog w) A (if (!t.led && !es.isEmpty)=true then unsupported "set:maker-not-led" else pure ()) _ _ _;rw [hl];simp only [mP,ZB,bJ,if_false];refine aN (aN ?_);rw [YD hr (by omega)]
   by_cases hlt:i<es.size
   . rw [getElem?_pos es i hlt, getElem?_pos t.place i (by omega)];rw [aZ (by simpa using hlt)] at h
     have e:slOf t.place (i+1)=t.place[i]+1:=by
      unfold slOf;rw[if_neg (by omega),Nat.add_sub_cancel,dL,getElem?_pos t.place i (by omega)];rfl
     rw[e] at h;simpa using h
   . rw[getElem?_neg es i hlt, getElem?_neg t.place i (by omega)];rw[bC (by simp;omega)] at h;exact h
theorem WP{a:aB}{o:Obj}{es:Array (Int×aA)}{ep:Nat}{t:fO}{Q:aA->aC->Prop}(hh:A.in1.handled=none)(ho:s.heap.get? a=some o)(hex:o.ExactSet)(hd:o.data=.set es ep t)(hf:t.fits es.size=true)(hok:Okt (bt w) t)(hb:es.size<scanBound)(h:∀(I:aB) (fp:List aB) (ord:List aA) (St:Nat->aC->Prop) (h':Heap) (d:NH),WalksS prog w A I fp [I] (fun a b=>b=a) es.size (fun i v=>ord[i]?=some v) St->St 0 { s with heap:=h',drawn:=d } →
    ord.length=es.size->ord.Perm (es.toList.map (·.2))->s.heap.objs.size<=I->(∀b∈fp,b=a\/s.heap.objs.size<=b)->(∀b u,s.heap.get? b=some u->h'.get? b=some u)->Q (.ref I) { s with heap:=h',drawn:=d }) :
  bH (aT prog w) A (AA (.ref a)) Q E s:=by
 have haL:=aV ho
 have hps:t.place.size=es.size:=by
  have hf':=hf;simp only[fO.fits,cG,beq_iff_eq] at hf';exact hf'.1
 refine wpAny_pyIter_slot ⟨_,ho,hex.1⟩ oU (iJ oU ⟨_,ho,hex.1⟩ tU ?_ (uW _));unfold Builtin.«frozenset.__iter__»;show bH (aT prog w) A.in1 (Builtin.Frozenset.sizeOf a >>= _) _ _ s;unfold Builtin.Frozenset.sizeOf;refine aD (aD (wpAny_setEntries_of ho hd hf (aN ?_)));refine aD ?_;unfold setDrawn;refine aD (gU ho hd hf ?_);dsimp only;refine aD (xG (aN ?_));have hlen:(es.toList.map (·.2)).length=es.size:=by simp
 split
 . rename_i hD;refine aD (KD es.size (List.range es.size) s (by simp) fun pl d hp=>?_);refine aD (wpAny_newTuple ?_ (hsz:=by rw [cB,hp.length_eq,RK]; exact nG hb));refine aD (wpAny_setEpoch_of (o:=o) (es:=es) (ep:=ep) (t:=t) (aG _ ho) hd hf ?_);refine aD (gW (aN ⟨_,rfl,"set_iterator",_,⟨_,aK _ rfl,rfl⟩,fX.lookup,?_⟩));have hsz1:∀ u:Obj,(s.heap.push u).objs.size=s.heap.objs.size+1:=fun u=>oM _ _;refine h _ _ _ _ _ d (HU (prog:=prog) (w:=w) (A:=A) (a:=a) (T:=s.heap.objs.size) (o:=o) (es:=es) (ep:=ep) (t:=t) (pl:=pl) (n0:=0) hh ?_ ?_ hd hf rfl hp) ⟨aK _ rfl,?_,?_⟩ ?_ ?_ ?_ ?_ ?_
   . dsimp only;rw[hsz1];exact bL (fH haL)
   . dsimp only;rw[hsz1];exact bL (hU _)
   . exact aG _ (aG _ ho)
   . exact aG _ (aK _ rfl)
   . rw[cB,hp.length_eq];simp
   . refine (hp.map _).trans (HP ?_);apply iV;intro i;rw [bK]
     by_cases hi:i<es.size
     . rw[lM hi, aZ (by simpa using hi)];simp[eY,hi]
     . rw[bC (by simp;omega),bC (by simp;omega)];rfl
   . dsimp only;rw[hsz1];exact lF _
   . intro b hb;dsimp only at hb;rw [hsz1] at hb;simp only [aF,mY,or_false] at hb;rcases hb with rfl | rfl | rfl
     . exact .inr (lF _)
     . exact .inl rfl
     . exact .inr (aM _)
   . exact fun b u e=>aG _ (aG _ e)
 . rename_i hD;have hD' : ¬ ((!bt w && (!t.plain && decide (es.size > 1)))=true):=hD;refine aD (aN ?_);refine aD (wpAny_setEpoch_of (o:=o) (es:=es) (ep:=ep) (t:=t) ho hd hf ?_);refine aD (gW (aN ⟨_,rfl,"set_iterator",_,⟨_,aK _ rfl,rfl⟩,fX.lookup,?_⟩))
   have hfp:∀b∈[s.heap.objs.size,a],b=a\/s.heap.objs.size<=b:=fun b hb=>by
    simp only[aF,mY,or_false] at hb;rcases hb with rfl | rfl
    . exact .inr (aM _)
    . exact .inl rfl
   cases hb:bt w with
   | true =>
     have hpk:=OJ (w.params.setOrder a ep) es
     refine h _ _ _ _ _ s.drawn (DX (prog:=prog) (w:=w) (A:=A) (it:=s.heap.objs.size) (a:=a) (o:=o) (es:=es) (ep:=ep) (t:=t) (sl:=fun _=>0) (ord:=(NA (w.params.setOrder a ep) es).toList.map (·.2)) hh (bL haL) hd hf (by rw[cB,hpk.length_eq,bB])
      fun i z Q' E' hz _ hq=>OV hd hf hb i z Q' E' hz hq) ⟨aK _ rfl,aG _ ho⟩ ?_ (hpk.map _) (aM _) hfp fun b u e=>aG _ e
     rw[cB,hpk.length_eq,bB]
   | false =>
     have hnd:(!t.plain&&decide (es.size>1))=false:=by
      rw[hb] at hD';simpa using hD'
     have hr:Rise t.place:=by
      cases hp:t.plain with
      |true=>exact(hok.2 hp).1
      | false =>
        have h1:es.size<=1:=by
         rw[hp] at hnd;simpa using hnd
        unfold Rise;have hl:t.place.toList.length<=1:=by rw[bB];omega
        match t.place.toList,hl with
        |[],_=>exact List.Pairwise.nil
        |[x],_=>exact eG _ _
     refine h _ _ _ _ _ s.drawn (DX (prog:=prog) (w:=w) (A:=A) (it:=s.heap.objs.size) (a:=a) (o:=o) (es:=es) (ep:=ep) (t:=t) (sl:=slOf t.place) (ord:=es.toList.map (·.2)) hh (bL haL) hd hf hlen
      fun i z Q' E' hz hi hq=>IN hd hf hb (by rw[hok.1,hb];rfl) hnd hr i z Q' E' hz hi hq) ⟨aK _ rfl,aG _ ho⟩ hlen (gB _) (aM _) hfp fun b u e=>aG _ e
theorem QA{ord:List aA}{acc:Array aA}{n:Nat}(h:ItemsOf (fun i v=>ord[i]?=some v) acc n)(hl:ord.length=n):acc.toList=ord:=by
 apply iV;intro i
 by_cases hi:i<n
 . have hi' : i < acc.size := by rw [h.1]; exact hi
   have e:acc.toList[i]?=some acc[i]:=by rw[cD];exact getElem?_pos acc i hi'
   rw[e];exact(h.2 i acc[i] (getElem?_pos acc i hi')).symm
 . rw[bC (by rw[bB,h.1];omega),bC (by omega)]
theorem wp_if{α : Type}{M:uG}{c:Prop}[Decidable c]{x y:Sem α}{Q : α->aC->Prop}(hc:c)(h:bH M A x Q E s):bH M A (if c then x else y) Q E s:=by
 rw[if_pos hc];exact h
theorem uP:splitId "set.__len__" = some ("set","__len__"):=by kernel_rfl
theorem GO{a:aB}{ns:List Int}{m:Nat}{Q:List aA->aC->Prop}(hh:A.handled=none)(hS:SIm prog w s.heap a ns m)(h:∀h' d tk ord ks,dY ord ks->ks.Nodup->(∀k,k∈ks↔k∈ns)->ord.length<=m->(∀b o,s.heap.get? b=some o->h'.get? b=some o)->Q ord { s with heap:=h',drawn:=d,toks:=tk }) :
  bH (aT prog w) A (collect (.ref a)) Q E s:=by
 obtain⟨⟨o,es,ep,t,ks,ho,hex,hd,hel,hI,hnd,hmem,hb,hf,hok⟩,hm⟩:=hS;have hsz:=hm o es ep t ho hd;have haL:=aV ho;have hline:es.size<=sizeLine:=nG hb;unfold collect;refine aD (GZ (iU PySem.F.entry_proto_collect ?_));rw[bT.under_plainId PySem.F.plain_proto_collect _];show bH _ A.in1 (newList [] >>= fun l=>again (.builtin "list.__iadd__" ⟨[l,.ref a],[]⟩)) _ _ s;refine aD (gW ?_);refine aN ⟨nH uI _,iU PySem.F.entry_list_iadd ?_⟩;rw[bT.under_plainId uI _];generalize hL:s.heap.objs.size=L;have hLs:s.heap.objs.size=L:=hL;show bH _ A.in1 (Builtin.List.listExtendWith (.ref L) (.ref a) (.ref L)) _ _ { s with heap:=s.heap.push { cls:=.type "list",data:=.seq ([]:List aA).toArray } };unfold Builtin.List.listExtendWith;have ho1:(s.heap.push { cls:=.type "list",data:=.seq ([]:List aA).toArray }).get? a=some o:=aG _ ho;have hL1:(s.heap.push { cls:=.type "list",data:=.seq ([]:List aA).toArray }).get? L=some { cls:=.type "list",data:=.seq ([]:List aA).toArray }:=by rw[<- hL];exact aK _ rfl
 have hz1:(s.heap.push { cls:=.type "list",data:=.seq ([]:List aA).toArray }).objs.size=L+1:=by rw[oM,hL]
 refine aD (RD (T:="set") ⟨_,ho1,hex.1⟩ ?_);have g1:Builtin.List.listSameRef (.ref L) (.ref a)=false:=by simp[Builtin.List.listSameRef];rw[<- hL];exact iZ haL
 have g2:(aA.type "set"==aA.type "list")=false:=by decide
 have g3:(aA.type "set"==aA.type "tuple")=false:=by decide
 simp only[g1,g2,g3,Bool.or_false,bJ,if_false];refine aD (WP (s:={ s with heap:=s.heap.push { cls:=.type "list",data:=.seq ([]:List aA).toArray } }) (by simp[hh]) ho1 hex hd hf hok hb fun I fp ord St h1 d W st0 hlo hpo hI1 hfp hk1=>?_);dsimp only at hI1 hfp hk1;rw[hz1] at hI1;have hoz:=hk1 _ _ ho1;have hLz:=hk1 _ _ hL1
 have hSf:L∉fp:=fun z=>by
  rw[hz1] at hfp;rcases hfp L z with e | e
  . rw[<- e, <- hL] at haL;exact cR _ haL
  . exact cR _ e
 refine aD (dS ?_);unfold Builtin.List.listLengthHint;refine aD (iS (T:="set") ⟨_,hoz,hex.1⟩ EH ?_);dsimp only;rw[uP];dsimp only;refine aD (uX (T:="set") ⟨_,hoz,hex.1⟩ sub_set_self ?_);rw[if_neg (show ¬((!true)=true) by decide)];refine wp_if (by kernel_rfl) ?_;refine aD (RD (T:="set") ⟨_,hoz,hex.1⟩ (aN ?_));refine wp_if (by kernel_rfl) ?_;refine aD (iX ?_);refine aD ?_;show bH _ A.in1 (updateSeq L (·.push .none) >>= fun _=>updateSeq L (·.pop)) _ _ _;refine aD (DL hLz rfl ?_);have hL2:=dB (Obj.mapSeq (·.push aA.none)) hLz rfl;refine DL hL2 rfl ?_;have hL3:=dB (Obj.mapSeq (·.pop)) hL2 rfl
 have oth:∀b u,b≠L->h1.get? b=some u->((h1.update L (Obj.mapSeq (·.push aA.none))).update L (Obj.mapSeq (·.pop))).get? b=some u :=
  fun b u hb e=>(bS _ _ (Ne.symm hb)).trans ((bS _ _ (Ne.symm hb)).trans e)
 refine aN ⟨nH sV _,codeAny_extend_loopS W hline _ hSf _ es.size 0 _ _ _ rfl (bY _)
  (W.frame 0 ({ s with heap:=h1,drawn:=d }: aC) _ s.toks st0 (aM _) fun b hb u e=>oth b u (fun z=>hSf (z▸hb)) e) hL3 (ItemsOf.nil _) fun z' acc c' hmv hS' hacc=>?_⟩
 show bH _ A (load L >>= _) _ _ z';refine aD (wpAny_load hS' (aN ?_));rw[QA hacc hlo];obtain⟨h2,gs,d2,tk,os2⟩:=z';have eg:gs=s.gens:=hmv.gens;have ed:d2=d:=hmv.drawn;have eo:os2=s.os:=hmv.os;subst eg ed eo;obtain⟨kk,q1,q2⟩:=BG hI hpo;refine h h2 d2 tk ord kk q1 (q2.nodup_iff.mpr hnd) (fun k=>q2.mem_iff.trans (hmem k)) (by omega) fun b u e=>?_;have hbs:b<s.heap.objs.size:=aV e;have hbL:b≠L:=by rw[<- hL];exact bL hbs
 have hbI:b≠I:=bL (bX (by rw[<- hL];exact fH hbs) hI1);exact hmv.heap b u (by simp[hbL,hbI]) (oth b u hbL (hk1 b u (aG _ e)))
theorem IA{vs:List aA}{ns:List Int}{Q:aA->aC->Prop}(hI:dY vs ns)(hsl:vs.length<=sizeLine)(h:∀(h2:Heap) (vs':List aA) (ns':List Int) (e:Nat),(∀b o,s.heap.get? b=some o->h2.get? b=some o)->h2.get? s.heap.objs.size=some (fR "list" vs'.toArray e)->dY vs' ns'->ns'.Perm ns->ns'.Pairwise (·<=·) →
    Q (.ref s.heap.objs.size) { s with heap:=h2 }) :
  bH (aT prog w) A.in1 (do
   let l <- newList vs
   let _ <- gX [l] (call (.builtin "list.sort") [l] [])
   ret l) (fun r z=>∃v,r=.done (.ret v)/\Q v z) E s:=by
 refine aD (JT ?_ (hsz:=hsl));have hoL:(s.heap.push (fR "list" vs.toArray 0)).get? s.heap.objs.size=some (fR "list" vs.toArray 0):=aK _ rfl;refine aD (dS (iJ slot_list_sort ⟨_,hoL,rfl⟩ entry_list_sort (SY hoL hI hsl fun out ns' a1 a2 a3=>⟨_,rfl,?_⟩) (args_list_sort _)));obtain⟨e,he⟩:=sortedHeap_at (out:=out) hoL;refine aN ⟨_,rfl,h _ out.toList ns' e (fun b o q=>?_) (by simpa using he) a1 a2 a3⟩;have hb:=aV q;have q1:=aG (fR "list" vs.toArray 0) q;show(HB (s.heap.push (fR "list" vs.toArray 0)) s.heap.objs.size vs out).get? b=some o;rw[sortedHeap_old (bL hb) (by rw[oM];exact fH hb)];exact q1
theorem sorted_set{a:aB}{ns:List Int}{m:Nat}{Q:aA->aC->Prop}(hh:A.handled=none)(hS:SIm prog w s.heap a ns m)(hm:m<=sizeLine)(h:∀(h1 h2:Heap) (d:NH) (tk:Nat) (vs:List aA) (ks:List Int) (e:Nat),(∀b o,s.heap.get? b=some o->h1.get? b=some o)->(∀b o,h1.get? b=some o->h2.get? b=some o)->h2.get? h1.objs.size=some (fR "list" vs.toArray e) →
    dY vs ks->ks.Pairwise (· < ·)->(∀k,k∈ks↔k∈ns)->vs.length<=m->Q (.ref h1.objs.size) { s with heap:=h2,drawn:=d,toks:=tk }) :
  bH (aT prog w) A (call (.builtin "sorted") [.ref a]) Q E s:=by
 refine Calls.call_function_entry (A:=A) kind_sorted plain_sorted entry_sorted (args_sorted1 _) ?_;show bH _ _ (checkCount "sorted" 1 1 1 >>= _) _ _ s;refine aD (aN (aD (GO (by simp[hh]) hS fun h1 d tk ord ks q1 q2 q3 q4 q5=>?_)));refine IA (s:={ s with heap:=h1,drawn:=d,toks:=tk }) q1 (cT q4 hm) fun h2 vs ks' e p1 p2 p3 p4 p5=>?_
 have hlt:ks'.Pairwise (· < ·):=by
  have hnd:ks'.Nodup:=p4.nodup_iff.mpr q2;exact List.Pairwise.imp₂ (fun a b h1 h2=>Int.lt_iff_le_and_ne.mpr ⟨h1,h2⟩) p5 hnd
 refine h h1 h2 d tk vs ks' e q5 p1 p2 p3 hlt (fun k=>p4.mem_iff.trans (q3 k)) ?_;have l1:=dY.length p3;have l2:=dY.length q1;have l3:=p4.length_eq;omega
end
end TS
namespace TU
open PySem PyProof.Rows
set_option autoImplicit false
variable{prog:aX}{w:bW}{A:bT}{E:aA->aC->Prop}{s:aC}
theorem sorted_endS{vs:List aA}{ss:List Str}{Q:aA->aC->Prop}(hI:oO vs ss)(h64:vs.length<64)(h:∀(h2:Heap) (vs':List aA) (ns':List Str) (e:Nat),(∀b o,s.heap.get? b=some o->h2.get? b=some o)->h2.get? s.heap.objs.size=some (fR "list" vs'.toArray e)->oO vs' ns'->ns'.Perm ss->sortedS ns'=true →
    Q (.ref s.heap.objs.size) { s with heap:=h2 }) :
  bH (aT prog w) A.in1 (do
   let l <- newList vs
   let _ <- gX [l] (call (.builtin "list.sort") [l] [])
   ret l) (fun r z=>∃v,r=.done (.ret v)/\Q v z) E s:=by
 refine aD (JT ?_ (hsz:=by rw[iD];omega));have hoL:(s.heap.push (fR "list" vs.toArray 0)).get? s.heap.objs.size=some (fR "list" vs.toArray 0):=aK _ rfl;refine aD (dS (iJ slot_list_sort ⟨_,hoL,rfl⟩ entry_list_sort (list_sort_treeK strKind_oneLt hoL hI.keysOf (fun v₁ v₂ rest e=>keyKind_strs (by rw[<- e];exact hI)) h64 fun st' hp hs=>⟨_,rfl,?_⟩) (args_list_sort _)));obtain⟨ns',a1,a2,a3⟩:=sorted_out_str hI hp hs;generalize (bO st').map (·.2)=out at *;obtain⟨e,he⟩:=sortedHeap_at (out:=out) hoL;refine aN ⟨_,rfl,h _ out.toList ns' e (fun b o q=>?_) (by simpa using he) a1 a2 a3⟩;have hb:=aV q;have q1:=aG (fR "list" vs.toArray 0) q;show(HB (s.heap.push (fR "list" vs.toArray 0)) s.heap.objs.size vs out).get? b=some o;rw[sortedHeap_old (bL hb) (by rw[oM];exact fH hb)];exact q1
end TU
namespace FL
open PySem PySem.Spec PyProof.Rows L2
abbrev Frag:=aL
def KLst(K:Frag)(a:aB)(xs:List V):Prop:=∃(o:Obj) (its:Array aA) (n:Nat),K.lookup a=some o/\o.cls=.type "list"/\o.dict=none/\o.data=.seq its n/\its.size<=sizeLine/\Vals xs its.toList
def KTup(K:Frag)(a:aB)(xs:List V):Prop:=∃(o:Obj) (its:Array aA) (n:Nat),K.lookup a=some o/\o.cls=.type "tuple"/\o.data=.seq its n/\its.size<=sizeLine/\Vals xs its.toList
structure LamT where
 qual:Str
 params:Arguments
 body:FuncBody
 scope:Scope
noncomputable def lamsE(q:Str):Nat->Expr->List LamT
 |0,_=>[]
 | n + 1, e => match e with
   | .Lambda a b sc _=>[⟨q++"<lambda>",a,.expr b,sc⟩]
   | .Call _ as _ _=>as.flatMap (lamsE q n)
   | .Compare l _ cs _=>lamsE q n l++cs.flatMap (lamsE q n)
   | .BoolOp _ vs _=>vs.flatMap (lamsE q n)
   | .UnaryOp _ o _=>lamsE q n o
   | .BinOp l _ r _=>lamsE q n l++lamsE q n r
   | .IfExp t b o _=>lamsE q n t++(lamsE q n b++lamsE q n o)
   | .List es _=>es.flatMap (lamsE q n)
   | .Tuple es _ _=>es.flatMap (lamsE q n)
   | .Subscript v i _=>lamsE q n v++lamsE q n i
   |_=>[]
noncomputable def lamsS(q:Str):Nat->Stmt->List LamT
 |0,_=>[]
 | n + 1, s => match s with
   | .FunctionDef x a b _ _ _ sc _ _ _=>[⟨q++x,a,.stmts b,sc⟩]
   | .Assign _ e _=>lamsE q 12 e
   | .Return (some e) _=>lamsE q 12 e
   | .Expr e _=>lamsE q 12 e
   | .If t a b _=>lamsE q 12 t++(a.flatMap (lamsS q n)++b.flatMap (lamsS q n))
   | .For _ _ a _ _=>a.flatMap (lamsS q n)
   | .While _ a _ _=>a.flatMap (lamsS q n)
   |_=>[]
noncomputable def lamsOf(x:Str)(b:List Stmt):List LamT:=b.flatMap (lamsS (x++".<locals>.") 8)
noncomputable def textIn(K:aL)(m n:Nat):Option LamT:=(makers[m]?).bind fun x=>match aY K aS x with
 | some (some (.ref f)) => (match K.lookup f with
   | some ⟨_, _, .func fd, _⟩ => (match fd.body with
     | .stmts b=>(lamsOf x b)[n]?
     |_=>none)
   |_=>none)
 |_=>none
noncomputable def freeR(l:List (Str×iR)):List Str:=((l.filter fun y=>y.2==iR.free).map (·.1)).reverse
inductive ClosOk(H:Hp)(O:aB->Prop):List (Str×aB)->List V->Prop
 |nil:ClosOk H O [] []
 |cons {n:Str} {c:aB} {o:Obj} {u:HO} {w:aA} {x:V} {cl:List (Str×aB)} {xs:List V} (no : ¬O c) (h:H c=some (.frz o u)) (d:o.data=.cell (some w)) (r:RelV x w) (t:ClosOk H O cl xs):ClosOk H O ((n,c)::cl) (x::xs)
def LamAt(H:Hp)(O:aB->Prop)(f:aB)(t:LamT)(cl:List (Str×aB)):Prop:=¬O f/\∃(o oc:Obj) (u uc:HO) (fd:bN) (c:aB) (vs:Array aA) (tq:Tok),
 H f=some (.frz o u)/\o.cls=.type "function"/\o.data=.func fd/\fd.qualname=t.qual/\fd.params=t.params/\fd.body=t.body/\fd.scope=t.scope/\fd.globals=aS/\fd.closure=cl/\fd.defaults=.none/\fd.kwdefaults=.none/\fd.code=.ref c/\fd.builtins=sM ∧
 ¬O c/\H c=some (.frz oc uc)/\oc.data=.fields vs/\vs[1]?=some (.str t.qual tq)
mutual
inductive Rep(K:Frag)(H:Hp)(O:aB->Prop):V->D->Prop
 |non:Rep K H O .non .non
 |bl (b:Bool):Rep K H O (.bl b) (.bl b)
 |int (i:Int):Rep K H O (.int i) (.int i)
 |str (x:Str):Rep K H O (.str x) (.str x)
 |tup {a:aB} {xs:List V} {ds:List D} (n : ¬O a) (h:Rd H a (.tup xs)) (r:Reps K H O xs ds):Rep K H O (.ref a) (.tup ds)
 |tupK {a:aB} {xs:List V} {ds:List D} (h:KTup K a xs) (r:Reps K H O xs ds):Rep K H O (.ref a) (.tup ds)
 |lst {a:aB} {xs:List V} {ds:List D} (n : ¬O a) (h:Rd H a (.lst xs)) (r:Reps K H O xs ds):Rep K H O (.ref a) (.lst ds)
 |lstK {a:aB} {xs:List V} {ds:List D} (h:KLst K a xs) (r:Reps K H O xs ds):Rep K H O (.ref a) (.lst ds)
 |dct {a:aB} {kvs:List (Key×V)} {ks:List Key} {ds:List D} (n : ¬O a) (h:H a=some (.dK kvs)) (e:kvs.map (·.1)=ks) (r:Reps K H O (kvs.map (·.2)) ds):Rep K H O (.ref a) (.dct ks ds)
 |dcf {a:aB} {o:Obj} {kvs:List (Key×V)} {ks:List Key} {ds:List D} (n : ¬O a) (h:H a=some (.frz o (.dK kvs))) (e:kvs.map (·.1)=ks) (r:Reps K H O (kvs.map (·.2)) ds):Rep K H O (.ref a) (.dcf ks ds)
 |ins {a C dx:aB} {t:Nat} {kvs:List (Str×V)} {ds:List D} (c:aY K aS (eB t)=some (some (.ref C))) (n : ¬O a) (h:H a=some (.ins C dx kvs)) (e:kvs.map (·.1)=eO t) (r:Reps K H O (kvs.map (·.2)) ds):Rep K H O (.ref a) (.ins t ds)
 |clo {f:aB} {m n:Nat} {t:LamT} {cl:List (Str×aB)} {xs:List V} {ds:List D} (tx:textIn K m n=some t) (h:LamAt H O f t cl) (e:cl.map (·.1)=freeR t.scope.names) (nd:(cl.map (·.2)).Nodup) (c:ClosOk H O cl xs) (r:Reps K H O xs ds):Rep K H O (.ref f) (.clo m n ds)
 |fnK {f:aB} {k:Nat} (h:aY K aS (fnName k)=some (some (.ref f))):Rep K H O (.ref f) (.clo 1000 k [])
inductive Reps(K:Frag)(H:Hp)(O:aB->Prop):List V->List D->Prop
 |nil:Reps K H O [] []
 |cons {x:V} {d:D} {xs:List V} {ds:List D} (h:Rep K H O x d) (t:Reps K H O xs ds):Reps K H O (x::xs) (d::ds)
end
section
variable{K:Frag}{H H':Hp}{O O':aB->Prop}
def Keep(O:aB->Prop)(H H':Hp):Prop:=∀b o,¬O b->H b=some o->H' b=some o
theorem Keep.of_same(h:Same H H'):Keep O H H':=fun b o _ e=>h b o e
theorem Keep.rd{a:aB}{u:HO}(k:Keep O H H')(n : ¬O a)(h:Rd H a u):Rd H' a u:=by
 rcases h with h | ⟨o,h⟩
 . exact .inl (k _ _ n h)
 . exact .inr ⟨o,k _ _ n h⟩
def Kp(O O':aB->Prop)(H H':Hp):Prop:=∀b o,¬O b->H b=some o->¬O' b/\H' b=some o
theorem Kp.rd{a:aB}{u:HO}(k:Kp O O' H H')(n : ¬O a)(h:Rd H a u):¬O' a/\Rd H' a u:=by
 rcases h with h | ⟨o,h⟩
 . exact⟨(k _ _ n h).1,.inl (k _ _ n h).2⟩
 . exact⟨(k _ _ n h).1,.inr ⟨o,(k _ _ n h).2⟩⟩
theorem ClosOk.gen(k:Kp O O' H H'){cl:List (Str×aB)}{xs:List V}(h:ClosOk H O cl xs):ClosOk H' O' cl xs:=by
 induction h with
 |nil=>exact .nil
 |cons no h d r _ ih=>exact .cons (k _ _ no h).1 (k _ _ no h).2 d r ih
theorem LamAt.gen{f:aB}{t:LamT}{cl:List (Str×aB)}(k:Kp O O' H H')(h:LamAt H O f t cl):LamAt H' O' f t cl:=by
 obtain⟨n,o,oc,u,uc,fd,c,vs,tq,h1,h2,h3,h4,h5,h6,h7,h8,h9,h10,h11,h12,h13,h14,h15,h16,h17⟩:=h;exact⟨(k _ _ n h1).1,o,oc,u,uc,fd,c,vs,tq,(k _ _ n h1).2,h2,h3,h4,h5,h6,h7,h8,h9,h10,h11,h12,h13,(k _ _ h14 h15).1,(k _ _ h14 h15).2,h16,h17⟩
theorem Kp.of(k:Keep O H H'):Kp O O H H':=fun b o n e=>⟨n,k b o n e⟩
theorem Kp.less(k:∀a,O' a->O a):Kp O O' H H:=fun b o n e=>⟨fun z=>n (k _ z),e⟩
theorem ClosOk.keep(k:Keep O H H'){cl:List (Str×aB)}{xs:List V}(h:ClosOk H O cl xs):ClosOk H' O cl xs:=h.gen (.of k)
theorem LamAt.keep{f:aB}{t:LamT}{cl:List (Str×aB)}(k:Keep O H H')(h:LamAt H O f t cl):LamAt H' O f t cl:=h.gen (.of k)
theorem ClosOk.of(k:∀a o u,H a=some (.frz o u)->¬O' a):∀{cl:List (Str×aB)} {xs:List V},ClosOk H O cl xs->ClosOk H O' cl xs
 |_,_,.nil=>.nil
 |_,_,.cons no h d r t=>.cons (k _ _ _ h) h d r (ClosOk.of k t)
theorem LamAt.of{f:aB}{t:LamT}{cl:List (Str×aB)}(k:∀a o u,H a=some (.frz o u)->¬O' a)(h:LamAt H O f t cl):LamAt H O' f t cl:=by
 obtain⟨n,o,oc,u,uc,fd,c,vs,tq,h1,h2,h3,h4,h5,h6,h7,h8,h9,h10,h11,h12,h13,h14,h15,h16,h17⟩:=h;exact⟨k _ _ _ h1,o,oc,u,uc,fd,c,vs,tq,h1,h2,h3,h4,h5,h6,h7,h8,h9,h10,h11,h12,h13,k _ _ _ h15,h15,h16,h17⟩
def ins1(p:aB)(O:aB->Prop):aB->Prop:=fun b=>b=p\/O b
theorem Kp.ins{p:aB}(hp:H p=none):Kp O (ins1 p O) H H:=fun b o n e=>⟨fun z=>z.elim (fun q=>by rw[q,hp] at e;cases e) n,e⟩
mutual
theorem Rep.gen(k:Kp O O' H H'):∀{v:V} {d:D},Rep K H O v d->Rep K H' O' v d
 |_,_,.non=>.non
 |_,_,.bl b=>.bl b
 |_,_,.int i=>.int i
 |_,_,.str x=>.str x
 |_,_,.tup n h r=>.tup (k.rd n h).1 (k.rd n h).2 (Reps.gen k r)
 |_,_,.tupK h r=>.tupK h (Reps.gen k r)
 |_,_,.lst n h r=>.lst (k.rd n h).1 (k.rd n h).2 (Reps.gen k r)
 |_,_,.lstK h r=>.lstK h (Reps.gen k r)
 |_,_,.dct n h e r=>.dct (k _ _ n h).1 (k _ _ n h).2 e (Reps.gen k r)
 |_,_,.dcf n h e r=>.dcf (k _ _ n h).1 (k _ _ n h).2 e (Reps.gen k r)
 |_,_,.ins c n h e r=>.ins c (k _ _ n h).1 (k _ _ n h).2 e (Reps.gen k r)
 |_,_,.clo tx h e nd c r=>.clo tx (h.gen k) e nd (c.gen k) (Reps.gen k r)
 |_,_,.fnK h=>.fnK h
theorem Reps.gen(k:Kp O O' H H'):∀{vs:List V} {ds:List D},Reps K H O vs ds->Reps K H' O' vs ds
 |_,_,.nil=>.nil
 |_,_,.cons h t=>.cons (Rep.gen k h) (Reps.gen k t)
end
theorem Rep.keep(k:Keep O H H'){v:V}{d:D}(h:Rep K H O v d):Rep K H' O v d:=h.gen (.of k)
theorem Reps.keep(k:Keep O H H'){v:List V}{d:List D}(h:Reps K H O v d):Reps K H' O v d:=h.gen (.of k)
theorem Rep.mono(k:Same H H'){v:V}{d:D}(h:Rep K H O v d):Rep K H' O v d:=h.keep (.of_same k)
theorem Reps.mono(k:Same H H'){v:List V}{d:List D}(h:Reps K H O v d):Reps K H' O v d:=h.keep (.of_same k)
theorem Rep.less(k:∀a,O' a->O a){v:V}{d:D}(h:Rep K H O v d):Rep K H O' v d:=h.gen (.less k)
theorem Reps.less(k:∀a,O' a->O a){v:List V}{d:List D}(h:Reps K H O v d):Reps K H O' v d:=h.gen (.less k)
theorem Rd.some{a:aB}{u:HO}(h:Rd H a u):H a≠none:=by
 rcases h with h | ⟨o,h⟩<;>(rw[h];simp)
theorem Rep.more{p:aB}(hp:H p=none){v:V}{d:D}(h:Rep K H O v d):Rep K H (ins1 p O) v d:=h.gen (.ins hp)
theorem Reps.more{p:aB}(hp:H p=none){v:List V}{d:List D}(h:Reps K H O v d):Reps K H (ins1 p O) v d:=h.gen (.ins hp)
noncomputable def mutO:HO->Bool
 | .lst _ | .dK _ | .dT _ | .set _ _ | .ins _ _ _=>true
 |_=>false
noncomputable def MutHO:={ u:HO // mutO u=true }
def Old(H:Hp):aB->Prop:=fun a=>∃o,H a=some o/\mutO o=true
theorem Old.mono(k:Same H H'){a:aB}(h:Old H a):Old H' a:=let ⟨o,e,m⟩:=h;⟨o,k _ _ e,m⟩
def yF:aB->Prop:=fun _=>False
mutual
theorem Rep.flattn(ho:∀a,O a->Old H a):∀{v:V} {d:D},Rep K H O' v d->flat d=true->Rep K H O v d
 |_,_,.non=>fun _=>.non
 |_,_,.bl b=>fun _=>.bl b
 |_,_,.int i=>fun _=>.int i
 |_,_,.str x=>fun _=>.str x
 |_,_,.tup n h r=>fun f=>.tup (fun z=>by
    obtain⟨u,e,m⟩:=ho _ z;rcases h with h | ⟨o,h⟩
    . rw[e] at h;cases h;cases m
    . rw[e] at h;cases h;cases m) h (Reps.flattn ho r (by simpa[flat] using f))
 |_,_,.tupK h r=>fun f=>.tupK h (Reps.flattn ho r (by simpa[flat] using f))
 |_,_,.lst _ _ _=>fun f=>by simp[flat] at f
 |_,_,.lstK _ _=>fun f=>by simp[flat] at f
 |_,_,.dct _ _ _ _=>fun f=>by simp[flat] at f
 |_,_,.dcf _ _ _ _=>fun f=>by simp[flat] at f
 |_,_,.ins _ _ _ _ _=>fun f=>by simp[flat] at f
 |_,_,.clo _ _ _ _ _ _=>fun f=>by simp[flat] at f
 |_,_,.fnK _=>fun f=>by simp[flat] at f
theorem Reps.flattn(ho:∀a,O a->Old H a):∀{vs:List V} {ds:List D},Reps K H O' vs ds->flats ds=true->Reps K H O vs ds
 |_,_,.nil=>fun _=>.nil
 | _, _, .cons h t => fun f => by
   simp only[flats,cG] at f;exact .cons (Rep.flattn ho h f.1) (Reps.flattn ho t f.2)
end
theorem Rep.flatten(ho:∀a,O a->Old H a){v:V}{d:D}(f:flat d=true)(r:Rep K H O' v d):Rep K H O v d:=r.flattn ho f
theorem Reps.flatten(ho:∀a,O a->Old H a){v:List V}{d:List D}(f:flats d=true)(r:Reps K H O' v d):Reps K H O v d:=r.flattn ho f
theorem Reps.length:∀{vs:List V} {ds:List D},Reps K H O vs ds->vs.length=ds.length
 |_,_,.nil=>rfl
 |_,_,.cons _ t=>by simp[Reps.length t]
theorem Reps.get:∀{vs:List V} {ds:List D} {i:Nat} {d:D},Reps K H O vs ds->ds[i]?=some d->∃v,vs[i]?=some v/\Rep K H O v d
 |_,_,_,_,.nil,e=>by simp at e
 |_,_,0,_,.cons h _,e=>by simp at e;subst e;exact⟨_,rfl,h⟩
 | _, _, i + 1, d, .cons _ t, e => by
   obtain⟨v,h1,h2⟩:=Reps.get (i:=i) (d:=d) t (by simpa using e);exact⟨v,by simpa using h1,h2⟩
theorem Reps.append:∀{xs ys:List V} {ds es:List D},Reps K H O xs ds->Reps K H O ys es->Reps K H O (xs++ys) (ds++es)
 |_,_,_,_,.nil,s=>s
 |_,_,_,_,.cons r t,s=>.cons r (Reps.append t s)
theorem Reps.set{x:V}{d:D}(r:Rep K H O x d):∀{xs:List V} {ds:List D} (i:Nat),Reps K H O xs ds->Reps K H O (xs.set i x) (ds.set i d)
 |_,_,_,.nil=>.nil
 |_,_,0,.cons _ t=>.cons r t
 |_,_,i+1,.cons q t=>.cons q (Reps.set r i t)
theorem Reps.drop:∀{xs:List V} {ds:List D} (n:Nat),Reps K H O xs ds->Reps K H O (xs.drop n) (ds.drop n)
 |_,_,0,r=>r
 |_,_,_+1,.nil=>.nil
 |_,_,n+1,.cons _ t=>Reps.drop n t
theorem Reps.take:∀{xs:List V} {ds:List D} (n:Nat),Reps K H O xs ds->Reps K H O (xs.take n) (ds.take n)
 |_,_,0,_=>.nil
 |_,_,_+1,.nil=>.nil
 |_,_,n+1,.cons r t=>.cons r (Reps.take n t)
theorem Reps.ints:∀(ns:List Int),Reps K H O (ns.map V.int) (ns.map D.int)
 |[]=>.nil
 |n::r=>.cons (.int n) (Reps.ints r)
def WRep(K:Frag)(H:Hp)(O:aB->Prop)(v:V)(d:D):Prop:=Rep K H O v d\/∃a xs l,v=.ref a/\d=.lst l/\O a/\H a=some (.lst xs)/\Reps K H O xs l
theorem WRep.mono(k:Same H H'){v:V}{d:D}(h:WRep K H O v d):WRep K H' O v d:=by
 rcases h with h | ⟨a,xs,l,e1,e2,ho,h,r⟩
 . exact .inl (h.mono k)
 . exact .inr ⟨a,xs,l,e1,e2,ho,k _ _ h,r.mono k⟩
theorem WRep.any{v:V}{d:D}(h:WRep K H O v d):Rep K H yF v d:=by
 rcases h with h | ⟨a,xs,l,rfl,rfl,ho,h,r⟩
 . exact h.less (fun _ z=>z.elim)
 . exact .lst (fun z=>z.elim) (.inl h) (r.less fun _ z=>z.elim)
theorem WRep.seqL{v:V}{l:List D}(h:WRep K H O v (.lst l)):∃a xs,v=.ref a/\SqL K H a xs/\Reps K H O xs l:=by
 rcases h with h | ⟨a,xs,l',rfl,e,ho,h,r⟩
 . cases h with
   |lst n h r=>exact⟨_,_,rfl,.inl h,r⟩
   |lstK h r=>exact⟨_,_,rfl,.inr h,r⟩
 . cases e;exact⟨a,xs,rfl,.inl (.inl h),r⟩
theorem WRep.seqT{v:V}{l:List D}(h:WRep K H O v (.tup l)):∃a xs,v=.ref a/\SqT K H a xs/\Reps K H O xs l:=by
 rcases h with h | ⟨a,xs,l',rfl,e,ho,h,r⟩
 . cases h with
   |tup n h r=>exact⟨_,_,rfl,.inl h,r⟩
   |tupK h r=>exact⟨_,_,rfl,.inr h,r⟩
 . cases e
theorem WRep.int'{v:V}{i:Int}(h:WRep K H O v (.int i)):v=.int i:=by
 rcases h with h | ⟨a,xs,l',rfl,e,_⟩
 . cases h;rfl
 . cases e
theorem WRep.bl'{v:V}{i:Bool}(h:WRep K H O v (.bl i)):v=.bl i:=by
 rcases h with h | ⟨a,xs,l',rfl,e,_⟩
 . cases h;rfl
 . cases e
theorem WRep.str'{v:V}{i:Str}(h:WRep K H O v (.str i)):v=.str i:=by
 rcases h with h | ⟨a,xs,l',rfl,e,_⟩
 . cases h;rfl
 . cases e
end
mutual
inductive RepO(K:Frag)(H:Hp)(O:aB->Prop):V->OT->List aB->Prop
 |val {v:V} {d:D} (r:Rep K H O v d):RepO K H O v (.val d) []
 |lst {a:aB} {xs:List V} {ts:List OT} {fs:List aB} (n:O a) (h:H a=some (.lst xs)) (r:RepsO K H O xs ts fs):RepO K H O (.ref a) (.lst ts) (a::fs)
 |tup {a:aB} {xs:List V} {ts:List OT} {fs:List aB} (n : ¬O a) (h:Rd H a (.tup xs)) (r:RepsO K H O xs ts fs):RepO K H O (.ref a) (.tup ts) fs
 |dct {a:aB} {kvs:List (Key×V)} {ks:List Key} {ts:List OT} {fs:List aB} (n:O a) (h:H a=some (.dK kvs)) (e:kvs.map (·.1)=ks) (r:RepsO K H O (kvs.map (·.2)) ts fs):RepO K H O (.ref a) (.dct ks ts) (a::fs)
 |ins {a C dx:aB} {t:Nat} {kvs:List (Str×V)} {ts:List OT} {fs:List aB} (c:aY K aS (eB t)=some (some (.ref C))) (n:O a) (h:H a=some (.ins C dx kvs)) (e:kvs.map (·.1)=eO t) (r:RepsO K H O (kvs.map (·.2)) ts fs):RepO K H O (.ref a) (.ins t ts) (a::fs)
inductive RepsO(K:Frag)(H:Hp)(O:aB->Prop):List V->List OT->List aB->Prop
 |nil:RepsO K H O [] [] []
 |cons {x:V} {t:OT} {xs:List V} {ts:List OT} {fs gs:List aB} (h:RepO K H O x t fs) (r:RepsO K H O xs ts gs):RepsO K H O (x::xs) (t::ts) (fs++gs)
end
section
variable{K:Frag}{H H':Hp}{O O':aB->Prop}
mutual
theorem RepO.gen(k:Kp O O' H H'):∀{v:V} {t:OT} {fs:List aB},RepO K H O v t fs->(∀b∈fs,∀u,O b->H b=some u->O' b/\H' b=some u)->RepO K H' O' v t fs
 |_,_,_,.val r=>fun _=>.val (r.gen k)
 |_,_,_,.lst n h r=>fun hb=>.lst (hb _ (.head _) _ n h).1 (hb _ (.head _) _ n h).2 (RepsO.gen k r fun b z=>hb b (.tail _ z))
 |_,_,_,.tup n h r=>fun hb=>.tup (k.rd n h).1 (k.rd n h).2 (RepsO.gen k r hb)
 |_,_,_,.dct n h e r=>fun hb=>.dct (hb _ (.head _) _ n h).1 (hb _ (.head _) _ n h).2 e (RepsO.gen k r fun b z=>hb b (.tail _ z))
 |_,_,_,.ins c n h e r=>fun hb=>.ins c (hb _ (.head _) _ n h).1 (hb _ (.head _) _ n h).2 e (RepsO.gen k r fun b z=>hb b (.tail _ z))
theorem RepsO.gen(k:Kp O O' H H'):∀{v:List V} {t:List OT} {fs:List aB},RepsO K H O v t fs->(∀b∈fs,∀u,O b->H b=some u->O' b/\H' b=some u)->RepsO K H' O' v t fs
 |_,_,_,.nil=>fun _=>.nil
 |_,_,_,.cons h r=>fun hb=>.cons (RepO.gen k h fun b z=>hb b (bE _ z)) (RepsO.gen k r fun b z=>hb b (aI _ z))
end
theorem RepO.keep(k:Keep O H H'){v:V}{t:OT}{fs:List aB}(h:RepO K H O v t fs)(hb:∀b∈fs,∀u,H b=some u->H' b=some u):RepO K H' O v t fs:=h.gen (.of k) fun b z u o e=>⟨o,hb b z u e⟩
theorem RepsO.keep(k:Keep O H H'){v:List V}{t:List OT}{fs:List aB}(h:RepsO K H O v t fs)(hb:∀b∈fs,∀u,H b=some u->H' b=some u):RepsO K H' O v t fs:=h.gen (.of k) fun b z u o e=>⟨o,hb b z u e⟩
theorem RepO.mono(k:Same H H'){v:V}{t:OT}{fs:List aB}(h:RepO K H O v t fs):RepO K H' O v t fs:=h.keep (.of_same k) fun b _ u e=>k b u e
theorem RepsO.mono(k:Same H H'){v:List V}{t:List OT}{fs:List aB}(h:RepsO K H O v t fs):RepsO K H' O v t fs:=h.keep (.of_same k) fun b _ u e=>k b u e
theorem RepO.less(k:∀a,O' a->O a){v:V}{t:OT}{fs:List aB}(h:RepO K H O v t fs)(hb:∀b∈fs,O' b):RepO K H O' v t fs:=h.gen (.less k) fun b z _ _ e=>⟨hb b z,e⟩
theorem RepsO.less(k:∀a,O' a->O a){v:List V}{t:List OT}{fs:List aB}(h:RepsO K H O v t fs)(hb:∀b∈fs,O' b):RepsO K H O' v t fs:=h.gen (.less k) fun b z _ _ e=>⟨hb b z,e⟩
theorem RepO.more{p:aB}(hp:H p=none){v:V}{t:OT}{fs:List aB}(h:RepO K H O v t fs):RepO K H (ins1 p O) v t fs:=h.gen (.ins hp) fun _ _ _ o e=>⟨.inr o,e⟩
theorem RepsO.more{p:aB}(hp:H p=none){v:List V}{t:List OT}{fs:List aB}(h:RepsO K H O v t fs):RepsO K H (ins1 p O) v t fs:=h.gen (.ins hp) fun _ _ _ o e=>⟨.inr o,e⟩
mutual
theorem RepO.owns:∀{v:V} {t:OT} {fs:List aB},RepO K H O v t fs->∀b∈fs,O b/\∃u:MutHO,H b=some u.1
 |_,_,_,.val r=>fun b z=>nomatch z
 |_,_,_,.lst n h r=>fun b z=>(aF.mp z).elim (fun q=>q▸⟨n,⟨_,rfl⟩,h⟩) (RepsO.owns r b)
 |_,_,_,.tup n h r=>RepsO.owns r
 |_,_,_,.dct n h e r=>fun b z=>(aF.mp z).elim (fun q=>q▸⟨n,⟨_,rfl⟩,h⟩) (RepsO.owns r b)
 |_,_,_,.ins c n h e r=>fun b z=>(aF.mp z).elim (fun q=>q▸⟨n,⟨_,rfl⟩,h⟩) (RepsO.owns r b)
theorem RepsO.owns:∀{v:List V} {t:List OT} {fs:List aB},RepsO K H O v t fs->∀b∈fs,O b/\∃u:MutHO,H b=some u.1
 |_,_,_,.nil=>fun b z=>nomatch z
 |_,_,_,.cons h r=>fun b z=>(bM.mp z).elim (RepO.owns h b) (RepsO.owns r b)
end
mutual
theorem RepO.val':∀{v:V} {t:OT} {fs:List aB},RepO K H O v t fs->(∀a,O' a->O a/\a∉fs)->Rep K H O' v (otD t)
 |_,_,_,.val r=>fun k=>r.less fun a z=>(k a z).1
 |_,_,_,.lst n h r=>fun k=>by unfold otD;exact .lst (fun z=>(k _ z).2 (.head _)) (.inl h) (RepsO.val' r fun a z=>⟨(k a z).1,fun q=>(k a z).2 (.tail _ q)⟩)
 |_,_,_,.tup n h r=>fun k=>by unfold otD;exact .tup (fun z=>n (k _ z).1) h (RepsO.val' r k)
 |_,_,_,.dct n h e r=>fun k=>by unfold otD;exact .dct (fun z=>(k _ z).2 (.head _)) h e (RepsO.val' r fun a z=>⟨(k a z).1,fun q=>(k a z).2 (.tail _ q)⟩)
 |_,_,_,.ins c n h e r=>fun k=>by unfold otD;exact .ins c (fun z=>(k _ z).2 (.head _)) h e (RepsO.val' r fun a z=>⟨(k a z).1,fun q=>(k a z).2 (.tail _ q)⟩)
theorem RepsO.val':∀{v:List V} {t:List OT} {fs:List aB},RepsO K H O v t fs->(∀a,O' a->O a/\a∉fs)->Reps K H O' v (otDs t)
 |_,_,_,.nil=>fun _=>by unfold otDs;exact .nil
 |_,_,_,.cons h r=>fun k=>by unfold otDs;exact .cons (RepO.val' h fun a z=>⟨(k a z).1,fun q=>(k a z).2 (bE _ q)⟩) (RepsO.val' r fun a z=>⟨(k a z).1,fun q=>(k a z).2 (aI _ q)⟩)
end
theorem RepO.any{v:V}{t:OT}{fs:List aB}(h:RepO K H O v t fs):Rep K H yF v (otD t):=h.val' fun _ z=>z.elim
end
noncomputable def SlOk(K:Frag)(H₀ H:Hp)(O:aB->Prop):Option V->Sl->Prop
 |_,.no=>True
 |some x,.v d=>Rep K H O x d
 |some (.ref a),.own l=>O a/\∃xs,H a=some (.lst xs)/\Reps K H O xs l
 |some (.ref a),.fr l=>¬O a/\H₀ a=none/\∃xs,H a=some (.lst xs)/\Reps K H O xs l
 |_,.ob _ _=>True
 |some (.ref a),.exc t=>∃C o u,aY K aS (xName t)=some (some (.ref C))/\H a=some (.frz o u)/\o.cls=.ref C
 |_,_=>False
def IsOwn(ds:List Sl)(i:Nat):Prop:=∃l,ds[i]?=some (.own l)
inductive HI where
 |rep (v:V) (d:D) | base (B:aB->Prop) | root (k a:Nat) | fz (a:aB) (o:Obj) (kvs:List (Key×V)) (l:List D)
abbrev Hold:=List HI
noncomputable def HOk(K:Frag)(H₀ H:Hp)(O:aB->Prop):HI->Prop
 | .rep v d=>Rep K H O v d
 | .base B=>∀a,B a->O a/\H₀ a≠none
 | .root _ _=>True
 | .fz a o kvs l=>¬O a/\H a=some (.frz o (.dK kvs))/\Reps K H O (kvs.map (·.2)) l
def Obs(K:Frag)(H₀ H:Hp)(O:aB->Prop)(σ : L2.St)(ds:List Sl)(hd:Hold):Prop:=∃F:Nat->List aB,∀(i:Nat) (r:Option Nat) (t:OT),ds[i]?=some (.ob r t)->∃v,σ[i]?=some (some v)/\RepO K H O v t (F i)/\(∀k a,r=some k->HI.root k a∈hd->v=.ref a)/\(F i).Nodup ∧
 ∀b∈F i,H₀ b=none/\(∀j r' t',j≠i->ds[j]?=some (.ob r' t')->b∉F j)/\∀j,IsOwn ds j->σ[j]?≠some (some (.ref b))
structure Ok(K:Frag)(H₀ H:Hp)(O:aB->Prop)(σ : L2.St)(ds:List Sl)(hd:Hold):Prop where
 same:Same H₀ H
 fresh:∀(i:Nat) (l:List D) (a:aB),ds[i]?=some (.own l)->σ[i]?=some (some (.ref a))->H₀ a=none
 dom:∀a,O a->∃u:MutHO,H a=some u.1
 len : σ.length=ds.length
 sl:∀(i:Nat) (s:Sl),ds[i]?=some s->SlOk K H₀ H O (σ[i]?.join) s
 apart:∀(i j:Nat) (a:aB),i≠j->IsOwn ds i->IsOwn ds j->σ[i]?=some (some (.ref a))->σ[j]?=some (some (.ref a))->False
 hold:∀p∈hd,HOk K H₀ H O p
 obs:Obs K H₀ H O σ ds hd
section
variable{K:Frag}{H₀ H H':Hp}{O O':aB->Prop}{σ : L2.St}{ds:List Sl}{hd:Hold}
theorem HOk.mono(k:Same H H'):∀{p:HI},HOk K H₀ H O p->HOk K H₀ H' O p
 | .rep _ _,h=>Rep.mono k h
 | .base _,h=>h
 | .root _ _,h=>h
 | .fz _ _ _ _,h=>⟨h.1,k _ _ h.2.1,Reps.mono k h.2.2⟩
theorem HOk.keep(k:Keep O H H'):∀{p:HI},HOk K H₀ H O p->HOk K H₀ H' O p
 | .rep _ _,h=>Rep.keep k h
 | .base _,h=>h
 | .root _ _,h=>h
 | .fz _ _ _ _,h=>⟨h.1,k _ _ h.1 h.2.1,Reps.keep k h.2.2⟩
theorem Obs.tr{σ':L2.St}{ds':List Sl}(h:Obs K H₀ H O σ ds hd)(tr:∀v t fs,RepO K H O v t fs->(∀b∈fs,H₀ b=none/\∀j,IsOwn ds j->σ[j]?≠some (some (.ref b)))->RepO K H' O' v t fs)(hob:∀(i:Nat) (r:Option Nat) (t:OT),ds'[i]?=some (.ob r t)->ds[i]?=some (.ob r t)/\σ'[i]?=σ[i]?)(hown:∀(j:Nat) (b:aB),IsOwn ds' j->σ'[j]?=some (some (.ref b))->(IsOwn ds j/\σ[j]?=some (some (.ref b)))\/H b=none):Obs K H₀ H' O' σ' ds' hd:=by
 obtain⟨F,hF⟩:=h;refine⟨F,fun i r t e=>?_⟩;obtain⟨e1,e2⟩:=hob i r t e;obtain⟨v,h1,h2,h3,h4,h5⟩:=hF i r t e1;refine⟨v,e2.trans h1,tr v t _ h2 fun b hb=>⟨(h5 b hb).1,(h5 b hb).2.2⟩,h3,h4,fun b hb=>⟨(h5 b hb).1,fun j r' t' hj ej=>(h5 b hb).2.1 j r' t' hj (hob j r' t' ej).1,fun j oj ej=>?_⟩⟩;rcases hown j b oj ej with⟨o1,o2⟩ | hn
 . exact(h5 b hb).2.2 j o1 o2
 . obtain⟨_, xs, z⟩ := h2.owns b hb;rw[hn] at z;cases z
theorem Obs.no(h:∀(i:Nat) (r:Option Nat) (t:OT),ds[i]?≠some (.ob r t)):Obs K H₀ H O σ ds hd:=⟨fun _=>[],fun i r t e=>(h i r t e).elim⟩
theorem Obs.mono(k:Same H H')(h:Obs K H₀ H O σ ds hd):Obs K H₀ H' O σ ds hd:=h.tr (fun _ _ _ r _=>r.mono k) (fun _ _ _ e=>⟨e,rfl⟩) fun _ _ o e=>.inl ⟨o,e⟩
theorem wX{i:Nat}{s:Sl}(hs:∀r t,s≠.ob r t){j:Nat}{r:Option Nat}{t:OT}(e:(ds.set i s)[j]?=some (.ob r t)):ds[j]?=some (.ob r t)/\j≠i:=by
 by_cases hj:j=i
 . subst hj
   by_cases hl:j<ds.length
   . rw[bI hl] at e;cases e;exact(hs r t rfl).elim
   . rw[bC (by simpa using hl)] at e;cases e
 . rw[aH (Ne.symm hj)] at e;exact⟨e,hj⟩
theorem wR{i:Nat}{s:Sl}(hs:∀l,s≠.own l){j:Nat}(e:IsOwn (ds.set i s) j):IsOwn ds j/\j≠i:=by
 obtain⟨l,e⟩:=e
 by_cases hj:j=i
 . subst hj
   by_cases hl:j<ds.length
   . rw[bI hl] at e;cases e;exact(hs l rfl).elim
   . rw[bC (by simpa using hl)] at e;cases e
 . rw[aH (Ne.symm hj)] at e;exact⟨⟨l,e⟩,hj⟩
theorem SlOk.mono(k:Same H H'):∀{x:Option V} {s:Sl},SlOk K H₀ H O x s->SlOk K H₀ H' O x s
 |none,.no,_=>trivial
 |some (.ref _),.no,_=>trivial
 |some _,.no,_=>by simp[SlOk]
 | x, .ob _ _, _ => by cases x with
   |none=>trivial
   |some x=>cases x<;>trivial
 | some x, .v d, h => by
   have h:Rep K H O x d:=by cases x<;>exact h
   show SlOk K H₀ H' O (some x) (.v d);have:=h.mono k;cases x<;>exact this
 |some (.ref a),.own l,⟨ho,xs,h,r⟩=>⟨ho,xs,k _ _ h,r.mono k⟩
 |some (.ref a),.fr l,⟨ho,h0,xs,h,r⟩=>⟨ho,h0,xs,k _ _ h,r.mono k⟩
 |some (.ref a),.exc t,⟨C,o,u,h1,h2,h3⟩=>⟨C,o,u,h1,k _ _ h2,h3⟩
theorem Ok.old(o:Ok K H₀ H O σ ds hd){a:aB}(h:O a):Old H a:=let ⟨xs,e⟩:=o.dom a h;⟨_,e,xs.2⟩
theorem Ok.mono(k:Same H H')(o:Ok K H₀ H O σ ds hd):Ok K H₀ H' O σ ds hd :=
 ⟨o.same.trans k,o.fresh,fun a h=>let ⟨xs,e⟩:=o.dom a h;⟨xs,k _ _ e⟩,o.len,fun i s e=>(o.sl i s e).mono k,o.apart,fun p hp=>(o.hold p hp).mono k,o.obs.mono k⟩
theorem Ok.free{p:aB}(o:Ok K H₀ H O σ ds hd)(h:H p=none):¬O p:=fun z=>by
 obtain⟨xs,e⟩:=o.dom p z;rw[h] at e;cases e
theorem Ok.read{i:Nat}{d:D}(o:Ok K H₀ H O σ ds hd)(e:ds[i]?=some (.v d)):∃v,σ[i]?=some (some v)/\Rep K H O v d:=by
 have h:=o.sl i _ e;cases q : σ[i]? with
 |none=>rw[q] at h;exact h.elim
 | some x =>
   rw[q] at h;cases x with
   |none=>exact h.elim
   |some x=>exact⟨x,rfl,by cases x<;>exact h⟩
theorem Ok.readO{i:Nat}{l:List D}(o:Ok K H₀ H O σ ds hd)(e:ds[i]?=some (.own l)):∃a xs,σ[i]?=some (some (.ref a))/\O a/\H a=some (.lst xs)/\Reps K H O xs l:=by
 have h:=o.sl i _ e;cases q : σ[i]? with
 |none=>rw[q] at h;exact h.elim
 | some x =>
   rw[q] at h;cases x with
   |none=>exact h.elim
   | some x =>
     cases x with
     |ref a=>obtain⟨ho,xs,h1,h2⟩:=h;exact⟨a,xs,rfl,ho,h1,h2⟩
     |_=>exact h.elim
theorem Ok.readX{i t:Nat}(o:Ok K H₀ H O σ ds hd)(e:ds[i]?=some (.exc t)):∃a C ob u,σ[i]?=some (some (.ref a))/\aY K aS (xName t)=some (some (.ref C))/\H a=some (.frz ob u)/\ob.cls=.ref C:=by
 have h:=o.sl i _ e;cases q : σ[i]? with
 |none=>rw[q] at h;exact h.elim
 | some x =>
   rw[q] at h;cases x with
   |none=>exact h.elim
   | some x =>
     cases x with
     |ref a=>obtain⟨C,ob,u,h1,h2,h3⟩:=h;exact⟨a,C,ob,u,rfl,h1,h2,h3⟩
     |_=>exact h.elim
theorem Ok.readF{i:Nat}{l:List D}(o:Ok K H₀ H O σ ds hd)(e:ds[i]?=some (.fr l)):∃a xs,σ[i]?=some (some (.ref a))/\¬O a/\H₀ a=none/\H a=some (.lst xs)/\Reps K H O xs l:=by
 have h:=o.sl i _ e;cases q : σ[i]? with
 |none=>rw[q] at h;exact h.elim
 | some x =>
   rw[q] at h;cases x with
   |none=>exact h.elim
   | some x =>
     cases x with
     |ref a=>obtain⟨ho,h0,xs,h1,h2⟩:=h;exact⟨a,xs,rfl,ho,h0,h1,h2⟩
     |_=>exact h.elim
theorem jC{x:Option V}: SlOk K H₀ H O x .no:=by
 cases x with
 |none=>trivial
 |some x=>cases x<;>trivial
theorem jU{x:Option V}{r:Option Nat}{t:OT}: SlOk K H₀ H O x (.ob r t):=by
 cases x with
 |none=>trivial
 |some x=>cases x<;>trivial
theorem jZ{x:V}{d:D}(h:Rep K H O x d):SlOk K H₀ H O (some x) (.v d):=by
 cases x<;>exact h
theorem Ok.set{i:Nat}{v:V}{d:D}(o:Ok K H₀ H O σ ds hd)(r:Rep K H O v d):Ok K H₀ H O (σ.set i (some v)) (ds.set i (.v d)) hd:=by
 have own':∀{j:Nat},IsOwn (ds.set i (.v d)) j->j≠i/\IsOwn ds j:=fun {j} ⟨l,e⟩=>by
  by_cases hj:j=i
  . subst hj
    by_cases hl:j<ds.length
    . rw[bI hl] at e;cases e
    . rw[bC (by simpa using hl)] at e;cases e
  . rw[aH (Ne.symm hj)] at e;exact⟨hj,l,e⟩
 refine⟨o.same,fun j l a e1 e2=>?_,o.dom,by simpa using o.len,fun j s e=>?_,fun j k a hjk hj hk e1 e2=>?_,o.hold,o.obs.tr (fun _ _ _ r _=>r) (fun j r t e=>by
  obtain⟨e1,hj⟩:=wX (fun r t=>by intro z;cases z) e
  exact⟨e1,by rw[aH (Ne.symm hj)]⟩) (fun j b oj ej=>by
  obtain⟨o1,hj⟩:=wR (fun l=>by intro z;cases z) oj;rw[aH (Ne.symm hj)] at ej
  exact .inl ⟨o1,ej⟩)⟩
 . obtain⟨n1, h1⟩ := own' ⟨l, e1⟩;rw[aH (Ne.symm n1)] at e1 e2;exact o.fresh j l a e1 e2
 . by_cases hj : j = i
   . subst hj
     by_cases hl:j<ds.length
     . rw[bI hl] at e;cases e;rw[bI (by rw[o.len];exact hl)];exact jZ r
     . rw[bC (by simpa using hl)] at e;cases e
   . rw[aH (Ne.symm hj)] at e;rw[aH (Ne.symm hj)];exact o.sl j s e
 . obtain⟨n1, h1⟩ := own' hj;obtain⟨n2,h2⟩:=own' hk;rw[aH (Ne.symm n1)] at e1;rw[aH (Ne.symm n2)] at e2;exact o.apart j k a hjk h1 h2 e1 e2
theorem Ok.setO{i:Nat}{a:aB}{xs:List V}{l:List D}(o:Ok K H₀ H O σ ds hd)(k:Same H H')(hn:H a=none)(e:H' a=some (.lst xs))(r:Reps K H' (ins1 a O) xs l) :
  Ok K H₀ H' (ins1 a O) (σ.set i (some (.ref a))) (ds.set i (.own l)) hd:=by
 have up:∀{v:V} {d:D},Rep K H O v d->Rep K H' (ins1 a O) v d:=fun h=>(h.more hn).mono k;have ups:∀{v:List V} {d:List D},Reps K H O v d->Reps K H' (ins1 a O) v d:=fun h=>(h.more hn).mono k
 have other:∀j:Nat,IsOwn ds j->σ[j]?=some (some (.ref a))->False:=fun j ⟨l',e'⟩ q=>by
  obtain⟨b,ys,h1,h2,h3,_⟩:=o.readO e';rw[q] at h1;cases h1;rw[hn] at h3;cases h3
 have own':∀{j:Nat},j≠i->IsOwn (ds.set i (.own l)) j->IsOwn ds j:=fun {j} hj ⟨l',e'⟩=>⟨l',by rwa [aH (Ne.symm hj)] at e'⟩
 refine⟨o.same.trans k,fun j l' b e1 e2=>?_,fun b hb=>?_,by simpa using o.len,fun j s es=>?_,fun j m b hjm hj hm e1 e2=>?_,fun p hp=>?_,o.obs.tr (fun _ _ _ r _=>(r.more hn).mono k) (fun j r t e=>by
  obtain⟨e1,hj⟩:=wX (fun r t=>by intro z;cases z) e
  exact⟨e1,by rw[aH (Ne.symm hj)]⟩) (fun j b oj ej=>by
  by_cases hj:j=i
  . subst hj
    by_cases hl:j<σ.length
    . rw[bI hl] at ej;cases ej;exact .inr hn
    . rw[bC (by simpa using hl)] at ej;cases ej
  . rw [aH (Ne.symm hj)] at ej;obtain ⟨l',e'⟩:=oj;rw [aH (Ne.symm hj)] at e'
    exact .inl ⟨⟨l',e'⟩,ej⟩)⟩
 rotate_left 4
 . have := o.hold p hp;cases p with
   |rep v d=>exact up this
   |base B=>exact fun b hb=>⟨.inr (this b hb).1,(this b hb).2⟩
   |root k a=>exact True.intro
   |fz a' o' kvs' l'=>exact⟨fun z=>z.elim (fun z=>by have:=this.2.1;rw[z,hn] at this;cases this) this.1,k _ _ this.2.1,(Reps.more hn this.2.2).mono k⟩
 . by_cases hj : j = i
   . subst hj
     by_cases hl:j<σ.length
     . rw[bI hl] at e2;cases e2;exact o.same.free hn
     . rw[bC (by simpa using hl)] at e2;cases e2
   . rw[aH (Ne.symm hj)] at e1 e2;exact o.fresh j l' b e1 e2
 . rcases hb with rfl | hb
   . exact⟨⟨.lst xs,rfl⟩,e⟩
   . obtain⟨ys, q⟩ := o.dom b hb;exact⟨ys,k _ _ q⟩
 . by_cases hj : j = i
   . subst hj
     by_cases hl:j<ds.length
     . rw[bI hl] at es;cases es;rw[bI (by rw[o.len];exact hl)];exact⟨.inl rfl,xs,e,r⟩
     . rw[bC (by simpa using hl)] at es;cases es
   . rw [aH (Ne.symm hj)] at es;rw [aH (Ne.symm hj)];cases s with
     |no=>exact jC
     |ob r t=>exact jU
     | exc t =>
       obtain⟨a',C',ob',u',q1,q2,q3,q4⟩:=o.readX es;rw[q1];exact⟨C',ob',u',q2,k _ _ q3,q4⟩
     | fr l' =>
       obtain⟨a',xs',q1,q2,q0,q3,q4⟩:=o.readF es;rw[q1];exact⟨fun z=>z.elim (fun e'=>by rw[e',hn] at q3;cases q3) q2,q0,xs',k _ _ q3,ups q4⟩
     | v d =>
       obtain⟨v,h1,h2⟩:=o.read es;rw[h1];exact jZ (up h2)
     | own l' =>
       obtain⟨b,ys,h1,h2,h3,h4⟩:=o.readO es;rw[h1];exact⟨.inr h2,ys,k _ _ h3,ups h4⟩
 . have hs:∀{q:Nat},q=i->(σ.set i (some (V.ref a)))[q]?=some (some (.ref b))->b=a:=fun {q} hq eq=>by
    subst hq
    by_cases hl:q<σ.length
    . rw[bI hl] at eq;cases eq;rfl
    . rw[bC (by simpa using hl)] at eq;cases eq
   by_cases h1:j=i
   . have hb := hs h1 e1;have h2:m≠i:=fun z=>hjm (h1.trans z.symm);rw[aH (Ne.symm h2),hb] at e2;exact other m (own' h2 hm) e2
   . by_cases h2 : m = i
     . have hb := hs h2 e2;rw[aH (Ne.symm h1),hb] at e1;exact other j (own' h1 hj) e1
     . rw[aH (Ne.symm h1)] at e1;rw[aH (Ne.symm h2)] at e2;exact o.apart j m b hjm (own' h1 hj) (own' h2 hm) e1 e2
theorem Ok.modify{i:Nat}{l l':List D}{a:aB}{xs':List V}(o:Ok K H₀ H O σ ds hd)(e:ds[i]?=some (.own l))(ea : σ[i]?=some (some (.ref a)))(r:Reps K H O xs' l') :
  Ok K H₀ (upd H a (.lst xs')) O σ (ds.set i (.own l')) hd:=by
 obtain⟨a',xs,h1,h2,h3,h4⟩:=o.readO e;rw[ea] at h1;cases h1;have hl:i<ds.length:=(bF.mp e).1
 have k:Keep O H (upd H a (.lst xs')):=fun b u hb eb=>by
  rw[upd_ne (fun(z:b=a)=>hb (z.symm▸h2))];exact eb
 refine⟨fun b u eb=>?_,fun j l2 b e1 e2=>?_,fun b hb=>?_,by simpa using o.len,fun j s es=>?_,fun j m b hjm hj hm e1 e2=>?_,fun p hp=>(o.hold p hp).keep k,o.obs.tr (fun _ _ _ r hb=>r.keep k fun b z u eu=>by rw[upd_ne (fun q=>(hb b z).2 i ⟨l,e⟩ (by rw[q];exact ea))];exact eu) (fun j r t ej=>by
  obtain⟨e1,hj⟩:=wX (fun r t=>by intro z;cases z) ej
  exact⟨e1,rfl⟩) (fun j b oj ej=>by
  by_cases hj:j=i
  . subst hj;exact .inl ⟨⟨l,e⟩,ej⟩
  . obtain ⟨l', e'⟩ := oj;rw [aH (Ne.symm hj)] at e'
    exact .inl ⟨⟨l',e'⟩,ej⟩)⟩
 rotate_left 1
 . by_cases hj : j = i
   . subst hj;exact o.fresh j l b e e2
   . rw[aH (Ne.symm hj)] at e1;exact o.fresh j l2 b e1 e2
 rotate_right 1
 . rw[upd_ne (fun z => by rw[z, o.fresh i l a e ea] at eb;cases eb)];exact o.same b u eb
 . by_cases hba : b = a
   . subst hba;exact⟨⟨.lst xs',rfl⟩,zK⟩
   . rw[upd_ne hba];exact o.dom b hb
 . by_cases hj : j = i
   . subst hj;rw[bI hl] at es;cases es;rw[ea];exact⟨h2,xs',zK,r.keep k⟩
   . rw [aH (Ne.symm hj)] at es;cases s with
     |no=>exact jC
     |ob r t=>exact jU
     | exc t =>
       obtain⟨a',C',ob',u',q1,q2,q3,q4⟩:=o.readX es;rw[q1];exact⟨C',ob',u',q2,by rw[upd_ne (fun z=>by rw[z,h3] at q3;cases q3)];exact q3,q4⟩
     | fr l' =>
       obtain⟨a',xs'',q1,q2,q0,q3,q4⟩:=o.readF es;rw[q1];exact⟨q2,q0,xs'',by rw[upd_ne (fun z=>q2 (by rw[z];exact h2))];exact q3,q4.keep k⟩
     | v d =>
       obtain⟨v,q1,q2⟩:=o.read es;rw[q1];exact jZ (q2.keep k)
     | own l'' =>
       obtain⟨b,ys,q1,q2,q3,q4⟩:=o.readO es;rw[q1];refine⟨q2,ys,?_,q4.keep k⟩;rw[upd_ne (fun z=>?_)]
       . exact q3
       . subst z;exact o.apart j i b hj ⟨_,es⟩ ⟨l,e⟩ q1 ea
 . have own':∀{j:Nat},IsOwn (ds.set i (.own l')) j->IsOwn ds j:=fun {j} ⟨l'',e'⟩=>by
    by_cases hj:j=i
    . subst hj;exact⟨l,e⟩
    . rw[aH (Ne.symm hj)] at e';exact⟨l'',e'⟩
   exact o.apart j m b hjm (own' hj) (own' hm) e1 e2
theorem Ok.holdMore{p:HI}(o:Ok K H₀ H O σ ds hd)(r:HOk K H₀ H O p)(hp:∀k a,HI.root k a≠p:=by intro _ _ z;cases z):Ok K H₀ H O σ ds (p::hd):=
 ⟨o.same,o.fresh,o.dom,o.len,o.sl,o.apart,fun q hq=>(aF.mp hq).elim (fun e=>e▸r) (o.hold q),let ⟨F,hF⟩:=o.obs;⟨F,fun i r t e=>let ⟨v,h1,h2,h3,h4⟩:=hF i r t e;⟨v,h1,h2,fun k a z y=>(aF.mp y).elim (fun y=>(hp k a y).elim) (h3 k a z),h4⟩⟩⟩
theorem Ok.holdLess{p:HI}(o:Ok K H₀ H O σ ds (p::hd)):Ok K H₀ H O σ ds hd :=
 ⟨o.same,o.fresh,o.dom,o.len,o.sl,o.apart,fun q hq=>o.hold q (aQ _ hq),let ⟨F,hF⟩:=o.obs;⟨F,fun i r t e=>let ⟨v,h1,h2,h3,h4⟩:=hF i r t e;⟨v,h1,h2,fun k a z y=>h3 k a z (aQ _ y),h4⟩⟩⟩
end
section
variable(X:Cx)
def PV(e:Expr)(f:FE):Prop:=∃t,PE X e t/\∀H₀ H O σ ds hd d Q,Ok X.K H₀ H O σ ds hd->f ds=some d->(∀v H',Same H H'->Rep X.K H' O v d->Q v H')->t σ H Q
def PVw(e:Expr)(f:FE):Prop:=∃t,PE X e t/\∀H₀ H O σ ds hd d Q,Ok X.K H₀ H O σ ds hd->f ds=some d->(∀v H',Same H H'->WRep X.K H' O v d->Q v H')->t σ H Q
def PVf(e:Expr)(f:FA):Prop:=∃t,PE X e t/\∀H₀ H O σ ds hd l Q,Ok X.K H₀ H O σ ds hd->f ds=some l →
 (∀a xs H',Same H H'->H a=none->H' a=some (.lst xs)->Reps X.K H' (ins1 a O) xs l->Q (.ref a) H')->t σ H Q
def PTv(e:Expr)(c:FT):Prop:=∃t,PT X e t/\∀H₀ H O σ ds hd b Q,Ok X.K H₀ H O σ ds hd->c ds=some b->(∀H',Same H H'->Q b H')->t σ H Q
def PWv(e:Expr)(c:FT):Prop:=∃t,PW X e t/\∀H₀ H O σ ds hd b Q,Ok X.K H₀ H O σ ds hd->c ds=some b->(∀H',Same H H'->Q b H')->t σ H Q
def PAv(es:List Expr)(f:FA):Prop:=∃t,PA X es t/\∀H₀ H O σ ds hd l Q,Ok X.K H₀ H O σ ds hd->f ds=some l->(∀vs H',Same H H'->AI (WRep X.K H' O) vs l->Q vs H')->t σ H Q
def PAs(es:List Expr)(f:FA):Prop:=∃t,PA X es t/\∀H₀ H O σ ds hd l Q,Ok X.K H₀ H O σ ds hd->f ds=some l->(∀vs H',Same H H'->Reps X.K H' O vs l->Q vs H')->t σ H Q
end
section
variable{X:Cx}
theorem PV.w{e:Expr}{f:FE}(h:PV X e f):PVw X e f:=by
 obtain⟨t,ht,hf⟩:=h;exact⟨t,ht,fun H₀ H O σ ds hd d Q o e q=>hf H₀ H O σ ds hd d Q o e fun v H' s r=>q v H' s (.inl r)⟩
theorem PVf.s{e:Expr}{f:FA}(h:PVf X e f):PV X e (mkL f):=by
 obtain⟨t,ht,hf⟩:=h;refine⟨t,ht,fun H₀ H O σ ds hd d Q o e q=>?_⟩;unfold mkL at e;obtain⟨l,hl,rfl⟩:=mpd e;rw[hl] at e;cases e;refine hf H₀ H O σ ds hd l Q o hl fun a xs H' s hn he r=>q _ _ s ?_;exact .lst (o.free hn) (.inl he) (r.less fun _ z=>.inr z)
theorem zL(i:Nat){x:Str}{pos:Pos}(hN:X.N[i]?=some x:=by rfl)(hv:Vis X.env.scope x:=by first | exact Or.inl rfl | exact Or.inr (Or.inl rfl) | exact Or.inr (Or.inr rfl))(hd:(x==("__debug__" : Str))=false:=by decide)(hcd:(x==("__classdict__" : Str))=false:=by decide):PV X (.Name x pos) (qF i):=by
 refine⟨_,xD hN hv hd hcd,fun H₀ H O σ ds hd d Q o e q=>?_⟩;unfold qF at e;cases hs:ds[i]? with
 |none=>rw[hs] at e;cases e
 | some s =>
   rw[hs] at e;cases s with
   | v d' =>
     cases e;obtain⟨v,h1,h2⟩:=o.read hs;exact⟨v,h1,q v H (Same.refl _) h2⟩
   |no=>cases e
   |exc _=>cases e
   |fr _=>cases e
   |ob _ _=>cases e
   |own l=>cases e
theorem zB(i:Nat){x:Str}{pos:Pos}(hN:X.N[i]?=some x:=by rfl)(hv:Vis X.env.scope x:=by first | exact Or.inl rfl | exact Or.inr (Or.inl rfl) | exact Or.inr (Or.inr rfl))(hd:(x==("__debug__" : Str))=false:=by decide)(hcd:(x==("__classdict__" : Str))=false:=by decide):PVw X (.Name x pos) (zI i):=by
 refine⟨_,xD hN hv hd hcd,fun H₀ H O σ ds hd d Q o e q=>?_⟩;unfold zI at e;cases hs:ds[i]? with
 |none=>rw[hs] at e;cases e
 | some s =>
   rw[hs] at e;cases s with
   | v d' =>
     cases e;obtain⟨v,h1,h2⟩:=o.read hs;exact⟨v,h1,q v H (Same.refl _) (.inl h2)⟩
   |no=>cases e
   |exc _=>cases e
   |fr _=>cases e
   |ob _ _=>cases e
   | own l =>
     cases e;obtain⟨a,xs,h1,h2,h3,h4⟩:=o.readO hs;exact⟨.ref a,h1,q _ H (Same.refl _) (.inr ⟨a,xs,l,rfl,rfl,h2,h3,h4⟩)⟩
theorem yA{i:Int}{j pos}: PV X (.Constant (.int i) j pos) (zA (.int i)):=⟨_,pe_int,fun _ H _ _ _ _ _ _ _ e q=>by cases e;exact q _ H (Same.refl _) (.int i)⟩
theorem vS{b:Bool}{j pos}: PV X (.Constant (.bool b) j pos) (zA (.bl b)):=⟨_,pe_bl,fun _ H _ _ _ _ _ _ _ e q=>by cases e;exact q _ H (Same.refl _) (.bl b)⟩
theorem qX{j pos}: PV X (.Constant .none j pos) (zA .non):=⟨_,pe_non,fun _ H _ _ _ _ _ _ _ e q=>by cases e;exact q _ H (Same.refl _) .non⟩
theorem TX{x:Str}{j pos}: PV X (.Constant (.str x) j pos) (zA (.str x)):=⟨_,pe_str,fun _ H _ _ _ _ _ _ _ e q=>by cases e;exact q _ H (Same.refl _) (.str x)⟩
theorem LB{x:Str}{v:V}{u:aA}{d:D}{pos:Pos}(hg:Gl X x)(hm:X.mg x=some u)(r:RelV v u)(hr:∀H O,Rep X.K H O v d)(hd:(x==("__debug__" : Str))=false:=by decide):PV X (.Name x pos) (zA d):=
 ⟨_,pe_glob hg hm r hd,fun _ H O _ _ _ _ _ _ e q=>by cases e;exact q _ H (Same.refl _) (hr H O)⟩
def OpS(X:Cx)(r:R2)(op:D->D->Option D):Prop:=∀H O x y dx dy d Q,(∀a,O a->∃u:MutHO,H a=some u.1)->WRep X.K H O x dx->WRep X.K H O y dy->op dx dy=some d->(∀v H',Same H H'->Rep X.K H' O v d->Q v H')->r x y H Q
theorem CF{r:R2}{op:D->D->Option D}(hs:OpS X r op){a b:Expr}{fa fb:FE}{ta tb:TE}(ha:∀H₀ H O σ ds hd d Q,Ok X.K H₀ H O σ ds hd->fa ds=some d->(∀v H',Same H H'->WRep X.K H' O v d->Q v H')->ta σ H Q)(hb:∀H₀ H O σ ds hd d Q,Ok X.K H₀ H O σ ds hd->fb ds=some d->(∀v H',Same H H'->WRep X.K H' O v d->Q v H')->tb σ H Q) :
  ∀H₀ H O σ ds hd d Q,Ok X.K H₀ H O σ ds hd->zF op fa fb ds=some d->(∀v H',Same H H'->Rep X.K H' O v d->Q v H')->tOp r ta tb σ H Q:=by
 intro H₀ H O σ ds hd d Q o e q;unfold zF at e;obtain⟨dx,h1,e⟩:=bnd e;obtain⟨dy,h2,e⟩:=bnd e;refine ha H₀ H O σ ds hd dx _ o h1 fun x H1 s1 r1=>?_;refine hb H₀ H1 O σ ds hd dy _ (o.mono s1) h2 fun y H2 s2 r2=>?_;exact hs H2 O x y dx dy d Q ((o.mono s1).mono s2).dom (r1.mono s2) r2 e fun v H' s r=>q v H' ((s1.trans s2).trans s) r
theorem vC{op:Operator}{r:R2}{opD:D->D->Option D}{a b:Expr}{fa fb:FE}{pos:Pos}(ho:OpR X (kW op) r)(hs:OpS X r opD)(ha:PVw X a fa)(hb:PVw X b fb):PV X (.BinOp a op b pos) (zF opD fa fb):=by
 obtain⟨ta,pa,ha⟩:=ha;obtain⟨tb,pb,hb⟩:=hb;exact⟨_,pe_op ho pa pb,CF hs (a:=a) (b:=b) ha hb⟩
theorem CL{op:BW}{r:R2}{opD:D->D->Option D}{a b:Expr}{fa fb:FE}{pos:Pos}(ho:OpR X (eE op) r)(hs:OpS X r opD)(ha:PVw X a fa)(hb:PVw X b fb)(hm:dG op b=false):PV X (.Compare a [op] [b] pos) (zF opD fa fb):=by
 obtain⟨ta,pa,ha⟩:=ha;obtain⟨tb,pb,hb⟩:=hb;exact⟨_,LO ho pa pb hm,CF hs (a:=a) (b:=b) ha hb⟩
theorem LF{op:BW}{r:R2}{opD:D->D->Option D}{a b:Expr}{fa fb:FE}{pos:Pos}(ho:OpR X (eE op) r)(hs:OpS X r opD)(ha:PVw X a fa)(hb:PVw X b fb)(hm:dG op b=false):PTv X (.Compare a [op] [b] pos) (zV (zF opD fa fb)):=by
 obtain⟨ta,pa,ha⟩:=ha;obtain⟨tb,pb,hb⟩:=hb;refine⟨_,LG ho pa pb hm,fun H₀ H O σ ds hd k Q o e q=>?_⟩;unfold zV at e;obtain⟨d,h,e⟩:=bnd e;refine CF hs (a:=a) (b:=b) ha hb H₀ H O σ ds hd d _ o h fun v H' s r=>?_;cases d with
 |bl c=>cases e;cases r;exact⟨_,rfl,q H' s⟩
 |_=>cases e
theorem os_add:OpS X (fun x y H Q=>rI0 (fun i j=>.int (i+j)) x y H Q\/∃i j,x=.str i/\y=.str j/\i.length+j.length<=sizeLine/\Q (.str (i++j)) H) yN:=by
 intro H O x y dx dy d Q ho rx ry e q;cases dx<;>cases dy<;>first | (simp[yN] at e;done) | skip
 . cases e;rw[rx.int',ry.int'];exact .inl ⟨_,_,rfl,rfl,q _ H (Same.refl _) (.int _)⟩
 . rename_i x y;simp only [yN] at e
   split at e
   . rename_i hl;cases e;rw[rx.str',ry.str'];exact .inr ⟨_,_,rfl,rfl,hl,q _ H (Same.refl _) (.str _)⟩
   . cases e
theorem op_addU:OpR X (kW .Add) (fun x y H Q=>rI0 (fun i j=>.int (i+j)) x y H Q\/∃i j,x=.str i/\y=.str j/\i.length+j.length<=sizeLine/\Q (.str (i++j)) H):=op_add.or IM
theorem os_sub:OpS X (rI0 fun i j=>.int (i-j)) subD:=by
 intro H O x y dx dy d Q ho rx ry e q;cases dx<;>cases dy<;>first | (simp[subD] at e;done) | skip
 cases e;rw[rx.int',ry.int'];exact⟨_,_,rfl,rfl,q _ H (Same.refl _) (.int _)⟩
def CDivB(i j:Int):Prop:=divOk j
theorem VF:OpR X (kW .FloorDiv) (rI CDivB fun i j=>.int (i/j)):=opI fun i j _ _ _ _ _ hc q=>by
 have e:i.fdiv j=i/j:=Int.fdiv_eq_ediv_of_nonneg _ (dQ hc.1);refine floordiv_int (by have:=hc.1;omega) ?_ (.inl (PyProof.noPylong_of_log2 hc.2));rw[e];exact q
theorem os_fdiv:OpS X (rI CDivB fun i j=>.int (i/j)) qO:=by
 intro H O x y dx dy d Q ho rx ry e q;cases dx<;>cases dy<;>first | (simp[qO] at e;done) | skip
 simp only[qO] at e
 split at e
 . rename_i hc;cases e;rw[rx.int',ry.int'];exact⟨_,_,rfl,rfl,hc,q _ H (Same.refl _) (.int _)⟩
 . cases e
theorem os_mod:OpS X (rI (fun _ j=>0<j) fun i j=>.int (i%j)) qY:=by
 intro H O x y dx dy d Q ho rx ry e q;cases dx<;>cases dy<;>first | (simp[qY] at e;done) | skip
 simp only[qY] at e
 split at e
 . rename_i hc;cases e;rw[rx.int',ry.int'];exact⟨_,_,rfl,rfl,hc,q _ H (Same.refl _) (.int _)⟩
 . cases e
theorem wL{p:Int->Int->Bool}: OpS X (rI0 fun i j=>.bl (p i j)) (cmpI p):=by
 intro H O x y dx dy d Q ho rx ry e q;cases dx<;>cases dy<;>first | (simp[cmpI] at e;done) | skip
 cases e;rw[rx.int',ry.int'];exact⟨_,_,rfl,rfl,q _ H (Same.refl _) (.bl _)⟩
end
section
variable{X:Cx}
theorem PV.t{e:Expr}{f:FE}(h:PV X e f)(he:∀whole,AB e X.env whole=(do let v <- whole;oK e.pos;gX [v] (truthy v)):=by intro _;rfl):PTv X e (zV f):=by
 obtain⟨t,ht,hf⟩:=h;refine⟨_,pt_val ht he,fun H₀ H O σ ds hd k Q o e q=>?_⟩;unfold zV at e;obtain⟨d,h,e⟩:=bnd e;refine hf H₀ H O σ ds hd d _ o h fun v H' s r=>?_;cases d with
 |bl c=>cases e;cases r;exact⟨_,rfl,q H' s⟩
 |_=>cases e
theorem wG{a:Expr}{pos:Pos}{c:FT}(ha:PTv X a c):PWv X (.BoolOp .And [a] pos) c:=by
 obtain⟨t,ht,hf⟩:=ha;exact⟨_,ZY ht,hf⟩
theorem CC{a:Expr}{pos:Pos}{c:FT}(ha:PTv X a c):PWv X (.BoolOp .Or [a] pos) c:=by
 obtain⟨t,ht,hf⟩:=ha;exact⟨_,pw_or1 ht,hf⟩
theorem wW{a b:Expr}{rest:List Expr}{pos:Pos}{c d:FT}(ha:PTv X a c)(hb:PWv X (.BoolOp .And (b::rest) pos) d):PWv X (.BoolOp .And (a::b::rest) pos) (andT c d):=by
 obtain⟨t,ht,hf⟩:=ha;obtain⟨u,hu,hg⟩:=hb;refine⟨_,pw_and ht hu,fun H₀ H O σ ds hd k Q o e q=>?_⟩;unfold andT at e;obtain⟨b,h,e⟩:=bnd e;refine hf H₀ H O σ ds hd b _ o h fun H' s=>?_;cases b with
 |true=>exact iteT (hg H₀ H' O σ ds hd k Q (o.mono s) (by simpa using e) fun H'' s'=>q H'' (s.trans s'))
 | false =>
   have:false=k:=by simpa using e
   subst this;exact iteF (q H' s)
theorem IG{a b:Expr}{rest:List Expr}{pos:Pos}{c d:FT}(ha:PTv X a c)(hb:PWv X (.BoolOp .Or (b::rest) pos) d):PWv X (.BoolOp .Or (a::b::rest) pos) (orT c d):=by
 obtain⟨t,ht,hf⟩:=ha;obtain⟨u,hu,hg⟩:=hb;refine⟨_,pw_or ht hu,fun H₀ H O σ ds hd k Q o e q=>?_⟩;unfold orT at e;obtain⟨b,h,e⟩:=bnd e;refine hf H₀ H O σ ds hd b _ o h fun H' s=>?_;cases b with
 |false=>exact iteF (hg H₀ H' O σ ds hd k Q (o.mono s) (by simpa using e) fun H'' s'=>q H'' (s.trans s'))
 | true =>
   have:true=k:=by simpa using e
   subst this;exact iteT (q H' s)
theorem PWv.t{e:Expr}{c:FT}(h:PWv X e c):PTv X e c:=by
 obtain⟨t,ht,hf⟩:=h;exact⟨t,ht.pt,hf⟩
theorem xQ{a:Expr}{pos:Pos}{c:FT}(ha:PTv X a c):PTv X (.UnaryOp .Not a pos) (notT c):=by
 obtain⟨t,ht,hf⟩:=ha;refine⟨_,pt_not ht,fun H₀ H O σ ds hd k Q o e q=>?_⟩;unfold notT at e;obtain⟨b,h,rfl⟩:=mpd e;exact hf H₀ H O σ ds hd b _ o h fun H' s=>q H' s
theorem yX{a:Expr}{op}{pos:Pos}{f:FE}(ha:PV X a f):PV X (.BoolOp op [a] pos) f:=by
 obtain⟨t,ht,hf⟩:=ha;exact⟨_,pe_one ht,hf⟩
theorem wP{a b:Expr}{rest:List Expr}{pos:Pos}{f g:FE}(ha:PV X a f)(hb:PV X (.BoolOp .And (b::rest) pos) g):PV X (.BoolOp .And (a::b::rest) pos) (andV f g):=by
 obtain⟨t,ht,hf⟩:=ha;obtain⟨u,hu,hg⟩:=hb;refine⟨_,pe_and ht hu,fun H₀ H O σ ds hd d Q o e q=>?_⟩;unfold andV at e;obtain⟨dd,h,e⟩:=bnd e;refine hf H₀ H O σ ds hd dd _ o h fun v H' s r=>?_;cases dd with
 | bl c =>
   cases r;cases c with
   |true=>exact⟨true,rfl,iteT (hg H₀ H' O σ ds hd d Q (o.mono s) e fun v H'' s'=>q v H'' (s.trans s'))⟩
   | false =>
     have:D.bl false=d:=Option.some.inj e;subst this;exact⟨false,rfl,iteF (q _ H' s (.bl false))⟩
 |_=>cases e
theorem KY{a b:Expr}{rest:List Expr}{pos:Pos}{f g:FE}(ha:PV X a f)(hb:PV X (.BoolOp .Or (b::rest) pos) g):PV X (.BoolOp .Or (a::b::rest) pos) (orV f g):=by
 obtain⟨t,ht,hf⟩:=ha;obtain⟨u,hu,hg⟩:=hb;refine⟨_,pe_or ht hu,fun H₀ H O σ ds hd d Q o e q=>?_⟩;unfold orV at e;obtain⟨dd,h,e⟩:=bnd e;refine hf H₀ H O σ ds hd dd _ o h fun v H' s r=>?_;cases dd with
 | bl c =>
   cases r;cases c with
   |false=>exact⟨false,rfl,iteF (hg H₀ H' O σ ds hd d Q (o.mono s) e fun v H'' s'=>q v H'' (s.trans s'))⟩
   | true =>
     have:D.bl true=d:=Option.some.inj e;subst this;exact⟨true,rfl,iteT (q _ H' s (.bl true))⟩
 |_=>cases e
theorem qN:PAv X [] qA:=⟨_,jT,fun _ H _ _ _ _ _ _ _ e q=>by cases e;exact q _ H (Same.refl _) .nil⟩
theorem zR:PAs X [] qA:=⟨_,jT,fun _ H _ _ _ _ _ _ _ e q=>by cases e;exact q _ H (Same.refl _) .nil⟩
theorem zQ{e:Expr}{es:List Expr}{f:FE}{g:FA}(ha:PVw X e f)(hr:PAv X es g)(hs:aJ (e::es) X.env=(false,cC e X.env)::aJ es X.env:=by rfl):PAv X (e::es) (zC f g):=by
 obtain⟨t,ht,hf⟩:=ha;obtain⟨u,hu,hg⟩:=hr;refine⟨_,qW ht hu hs,fun H₀ H O σ ds hd l Q o e q=>?_⟩;unfold zC at e;obtain⟨x,h,e⟩:=bnd e;obtain⟨r,h2,rfl⟩:=mpd e;refine hf H₀ H O σ ds hd x _ o h fun v H1 s1 r1=>?_;refine hg H₀ H1 O σ ds hd r _ (o.mono s1) h2 fun vs H2 s2 r2=>?_;exact q _ H2 (s1.trans s2) (.cons (r1.mono s2) r2)
theorem zJ{e:Expr}{es:List Expr}{f:FE}{g:FA}(ha:PV X e f)(hr:PAs X es g)(hs:aJ (e::es) X.env=(false,cC e X.env)::aJ es X.env:=by rfl):PAs X (e::es) (zC f g):=by
 obtain⟨t,ht,hf⟩:=ha;obtain⟨u,hu,hg⟩:=hr;refine⟨_,qW ht hu hs,fun H₀ H O σ ds hd l Q o e q=>?_⟩;unfold zC at e;obtain⟨x,h,e⟩:=bnd e;obtain⟨r,h2,rfl⟩:=mpd e;refine hf H₀ H O σ ds hd x _ o h fun v H1 s1 r1=>?_;refine hg H₀ H1 O σ ds hd r _ (o.mono s1) h2 fun vs H2 s2 r2=>?_;exact q _ H2 (s1.trans s2) (.cons (r1.mono s2) r2)
theorem zX{H:Hp}{p:aB}(h:H p=none)(o:HO):Same H (upd H p o):=fun b u q=>by rw[upd_ne (jG q h)];exact q
theorem jK{es:List Expr}{pos:Pos}{g:FA}(h:PAs X es g):PVf X (.List es pos) (qR g):=by
 obtain⟨t,ht,hf⟩:=h;refine⟨_,UV ht,fun H₀ H O σ ds hd l Q o e q=>?_⟩;unfold qR at e;cases h:g ds with
 |none=>rw[h] at e;cases e
 | some l' =>
   rw[h] at e;simp only[bG] at e
   split at e
   . rename_i hl;cases e;refine hf H₀ H O σ ds hd l _ o h fun vs H1 s1 r1=>⟨by rw [r1.length]; exact hl,fun p hp=>?_⟩
     refine q p vs _ (s1.trans (zX hp _)) (s1.free hp) zK ?_;exact(r1.more hp).mono (zX hp _)
   . cases e
theorem yG{es:List Expr}{x1}{pos:Pos}{g:FA}(h:PAs X es g):PV X (.Tuple es x1 pos) (mkT (qR g)):=by
 obtain⟨t,ht,hf⟩:=h;refine⟨_,pe_tup ht,fun H₀ H O σ ds hd d Q o e q=>?_⟩;unfold mkT qR at e;cases h:g ds with
 |none=>rw[h] at e;cases e
 | some l' =>
   rw[h] at e;simp only[bG] at e
   split at e
   . rename_i hl;cases e;refine hf H₀ H O σ ds hd l' _ o h fun vs H1 s1 r1=>⟨by rw [r1.length]; exact hl,fun p hp=>?_⟩
     refine q _ _ (s1.trans (zX hp _)) ?_;exact .tup ((o.mono s1).free hp) (.inl zK) (r1.mono (zX hp _))
   . cases e
theorem MW{K:Frag}{H:Hp}{O:aB->Prop}{xs:List V}{l:List D}{i:Int}{d:D}(r:Reps K H O xs l)(e:atI l i=some d):∃v,atI xs i=some v/\Rep K H O v d:=by
 unfold atI at e ⊢;rw[r.length];cases h:ixN l.length i with
 |none=>rw[h] at e;cases e
 | some j =>
   rw[h] at e;exact r.get e
theorem ix_sem{K:Frag}{H:Hp}{O:aB->Prop}{x y:V}{dx dy d:D}{Q:VK}(rx:WRep K H O x dx)(ry:WRep K H O y dy)(e:ixD dx dy=some d)(q:∀v H',Same H H'->Rep K H' O v d->Q v H'):rIx K x y H Q:=by
 cases dx<;>cases dy<;>first | (simp[ixD] at e;done) | skip
 . simp only [ixD] at e
   split at e
   . rename_i hl;rw[rx.str',ry.int'];rename_i z i;obtain⟨c,hc,rfl⟩:=mpd e;exact .inr (.inr ⟨_,_,c,rfl,rfl,hl,hc,q _ H (Same.refl _) (.str _)⟩)
   . cases e
 . obtain⟨a, xs, rfl, hs, r⟩ := rx.seqT;rw[ry.int'];obtain⟨v,h1,h2⟩:=MW r e;exact .inr (.inl ⟨a,xs,_,v,rfl,rfl,hs,h1,q _ H (Same.refl _) h2⟩)
 . obtain⟨a, xs, rfl, hs, r⟩ := rx.seqL;rw[ry.int'];obtain⟨v,h1,h2⟩:=MW r e;exact .inl ⟨a,xs,_,v,rfl,rfl,hs,h1,q _ H (Same.refl _) h2⟩
theorem os_ix:OpS X (rIx X.K) ixD:=fun H O x y dx dy d Q ho rx ry e q=>ix_sem rx ry e q
theorem qH{a b:Expr}{fa fb:FE}{pos:Pos}(ha:PVw X a fa)(hb:PVw X b fb)(hs:MY b:=by exact fun _ _=>rfl):PV X (.Subscript a b pos) (zF ixD fa fb):=by
 obtain⟨ta,pa,ha⟩:=ha;obtain⟨tb,pb,hb⟩:=hb;exact⟨_,pe_ix ix_seq pa pb hs,CF os_ix (a:=a) (b:=b) ha hb⟩
end
noncomputable def RetOk(K:Frag)(H H':Hp)(v:V):Ret->Prop
 | .val d=>Rep K H' (Old H) v d
 | .fresh l=>∃a xs,v=.ref a/\H a=none/\H' a=some (.lst xs)/\Reps K H' (ins1 a (Old H)) xs l
 | .any d=>Rep K H' yF v d
 | .obj t=>∃fs,RepO K H' (fun b=>b∈fs\/Old H b) v t fs/\fs.Nodup/\∀b∈fs,H b=none
noncomputable def RetB(K:Frag)(H:Hp)(hd:Hold)(v:V):Ret->Prop
 | .any d=>∀B,HI.base B∈hd->Rep K H B v d
 |_=>True
noncomputable def spF(K:Frag)(n:Nat)(F:List D->Option Ret):Sp:=fun vs H Q _=>vs.length=n/\∃ds r,Reps K H yF vs ds/\F ds=some r/\∀v H',Same H H'->RetOk K H H' v r->Q v H'
section
variable{X:Cx}
theorem KS{K:Frag}{H H':Hp}{O:aB->Prop}{v:V}{r:Ret}{d:D}(h:RetOk K H H' v r)(e:retV r=some d)(ho:∀a,O a->Old H a):Rep K H' O v d:=by
 cases r with
 |any d'=>cases e
 |val d'=>cases e;exact h.less ho
 | obj t =>
   cases e;obtain⟨fs,h1,h2,h3⟩:=h;refine h1.val' fun a z=>⟨.inr (ho a z),fun q=>?_⟩
   obtain⟨o,e,_⟩:=ho a z;rw[h3 a q] at e;cases e
 | fresh l =>
   cases e;obtain⟨a,xs,rfl,h1,h2,h3⟩:=h;refine .lst (fun z=>?_) (.inl h2) (h3.less fun b z=>.inr (ho b z));obtain⟨o,e,_⟩:=ho a z;rw[h1] at e;cases e
theorem ZV{K:Frag}{H H':Hp}{O:aB->Prop}{v:V}{r:Ret}{l:List D}(h:RetOk K H H' v r)(e:retF r=some l)(ho:∀a,O a->Old H a):∃a xs,v=.ref a/\H a=none/\H' a=some (.lst xs)/\Reps K H' (ins1 a O) xs l:=by
 cases r with
 |any d'=>cases e
 |val d'=>cases e
 |obj t=>cases e
 | fresh l' =>
   cases e;obtain⟨a,xs,rfl,h1,h2,h3⟩:=h;exact⟨a,xs,rfl,h1,h2,h3.less fun b z=>z.elim .inl fun z=>.inr (ho b z)⟩
section
variable{k:Nat}{f:aB}{fd:bN}{ps:List Str}{n:Nat}{F:List D->Option Ret}{x:Str}{p pos:Pos}{e:Expr}{es:List Expr}{g:FA}
end
def CallS(X:Cx)(r:List V->Hp->VK->Prop)(F:List D->Option D):Prop:=∀H O vs l d Q,(∀a,O a->∃u:MutHO,H a=some u.1)->AI (WRep X.K H O) vs l->F l=some d->(∀v H',Same H H'->Rep X.K H' O v d->Q v H')->r vs H Q
theorem xZ{x:Str}{p pos:Pos}{e:Expr}{es:List Expr}{id:String}{r:List V->Hp->VK->Prop}{F:List D->Option D}{g:FA}(hc:CallR X (.builtin id) r)(hs:CallS X r F)(hm:X.mg x=none)(hv:dW x=some (.builtin id))(ha:PAv X (e::es) g)(hg:Gl X x)(hn:x≠"__name__":=by decide)(hdb:(x==("__debug__" : Str))=false:=by decide)(he:aJ (e::es) X.env=(false,cC e X.env)::aJ es X.env:=by rfl)(hpl:(cY pos (aJ es X.env)).any (·.1)=false:=by rfl) :
  PV X (.Call (.Name x p) (e::es) [] pos) (callB F g):=by
 obtain⟨t,ht,hf⟩:=ha;refine⟨_,vH hc hg hm hv ht hn hdb he hpl,fun H₀ H O σ ds hd d Q o e q=>?_⟩;unfold callB at e;obtain⟨l,h,e⟩:=bnd e;refine hf H₀ H O σ ds hd l _ o h fun vs H1 s1 r1=>?_;exact hs H1 O vs l d Q (o.mono s1).dom r1 e fun v H' s' r=>q v H' (s1.trans s') r
theorem QY:CallR X (.builtin "len") (fun xs H Q=>(∃p ys,xs=[.ref p]/\(SqL X.K H p ys\/SqT X.K H p ys)/\Q (.int ys.length) H)\/∃z,xs=[.str z]/\z.length<=sizeLine/\Q (.int z.length) H):=DI.or DH
theorem cs_len:CallS X (fun xs H Q=>(∃p ys,xs=[.ref p]/\(SqL X.K H p ys\/SqT X.K H p ys)/\Q (.int ys.length) H)\/∃z,xs=[.str z]/\z.length<=sizeLine/\Q (.int z.length) H) lenD:=by
 intro H O vs l d Q ho r e q;unfold lenD at e
 split at e
 . cases e;cases r with
   | cons r rn =>
     cases rn;obtain⟨a,xs,rfl,hs,rs⟩:=r.seqL;refine .inl ⟨a,xs,rfl,.inl hs,?_⟩;rw[rs.length];exact q _ H (Same.refl _) (.int _)
 . cases e;cases r with
   | cons r rn =>
     cases rn;obtain⟨a,xs,rfl,hs,rs⟩:=r.seqT;refine .inl ⟨a,xs,rfl,.inr hs,?_⟩;rw[rs.length];exact q _ H (Same.refl _) (.int _)
 . split at e
   . rename_i hl;cases e;cases r with
     | cons r rn =>
       cases rn;rw[r.str'];exact .inr ⟨_,rfl,hl,q _ H (Same.refl _) (.int _)⟩
   . cases e
 . cases e
theorem yH{p pos:Pos}{e:Expr}{g:FA}(hm:X.mg "len" = none)(ha:PAv X [e] g)(hg:Gl X "len":=by rfl)(he:aJ [e] X.env=[(false,cC e X.env)]:=by rfl) :
  PV X (.Call (.Name "len" p) [e] [] pos) (callB lenD g):=xZ QY cs_len hm PySem.boot_len ha hg (by decide) (by decide) he rfl
noncomputable def After(X:Cx)(H₀ : Hp)(hd:Hold)(E:Ends):Out->Prop
 | .nx ds=>∀σ H O,Ok X.K H₀ H O σ ds hd->E.nx σ H
 | .bk ds=>∀σ H O,Ok X.K H₀ H O σ ds hd->E.bk σ H
 | .ct ds=>∀σ H O,Ok X.K H₀ H O σ ds hd->E.ct σ H
 | .rt r=>∀v H,Same H₀ H->RetOk X.K H₀ H v r->RetB X.K H hd v r->E.rt v H
variable(X) in
def PSv(st:Stmt)(g:FS):Prop:=∃t,PS X st t/\∀H₀ H O σ ds hd out E,Ok X.K H₀ H O σ ds hd->g ds=some out->After X H₀ hd E out->t E σ H
variable(X) in
def PSsv(st:List Stmt)(g:FS):Prop:=∃t,PSs X st t/\∀H₀ H O σ ds hd out E,Ok X.K H₀ H O σ ds hd->g ds=some out->After X H₀ hd E out->t E σ H
theorem zM:PSsv X [] qL:=⟨_,pss_nil,fun _ H O σ ds hd out E o e h=>by cases e;exact h σ H O o⟩
theorem zD{st:Stmt}{rest:List Stmt}{f g:FS}(h1:PSv X st f)(h2:PSsv X rest g):PSsv X (st::rest) (jD f g):=by
 obtain⟨t,ht,hf⟩:=h1;obtain⟨u,hu,hg⟩:=h2;refine⟨_,EX ht hu,fun H₀ H O σ ds hd out E o e h=>?_⟩;unfold jD at e;obtain⟨o1,h1,e⟩:=bnd e;refine hf H₀ H O σ ds hd o1 _ o h1 ?_;cases o1 with
 |nx ds'=>exact fun σ' H' O' o'=>hg H₀ H' O' σ' ds' hd out E o' e h
 |rt r=>cases e;exact h
 |bk ds'=>cases e;exact h
 |ct ds'=>cases e;exact h
theorem zE{st:Stmt}{f:FS}(h1:PSv X st f):PSsv X [st] f:=by
 obtain⟨t,ht,hf⟩:=h1;exact⟨_,LI ht,hf⟩
theorem CM{pos:Pos}: PSv X (.Continue pos) (fun ds=>some (.ct ds)):=⟨_,EY,fun _ H O σ ds hd out E o e h=>by cases e;exact h σ H O o⟩
theorem qE{c:Expr}{a b:List Stmt}{pos:Pos}{fc:FT}{f g:FS}(hc:PTv X c fc)(ha:PSsv X a f)(hb:PSsv X b g):PSv X (.If c a b pos) (ifG fc f g):=by
 obtain⟨tc,pc,hc⟩:=hc;obtain⟨t,ht,hf⟩:=ha;obtain⟨u,hu,hg⟩:=hb;refine⟨_,ps_if pc ht hu,fun H₀ H O σ ds hd out E o e h=>?_⟩;unfold ifG at e;obtain⟨k,h1,e⟩:=bnd e;refine hc H₀ H O σ ds hd k _ o h1 fun H' s=>?_;cases k with
 |true=>exact iteT (hf H₀ H' O σ ds hd out E (o.mono s) (by simpa using e) h)
 |false=>exact iteF (hg H₀ H' O σ ds hd out E (o.mono s) (by simpa using e) h)
theorem zZ{i:Nat}{x:Str}{e:Expr}{pos pos':Pos}{f:FE}(hN:X.N.Nodup)(he:PV X e f)(hi:X.N[i]?=some x:=by rfl)(hx:Loc X.env.scope x:=by first | exact Or.inl rfl | exact Or.inr rfl)(hs:eQ e (some (.Name x pos')) pos.line X.env=pure false:=by rfl)(hf:X.fn x=true\/X.env.scope.names.lookup x=some .local:=by first | exact .inl rfl | exact .inr rfl):PSv X (.Assign [.Name x pos'] e pos) (jS i f):=by
 obtain⟨t,ht,hg⟩:=he;refine⟨_,CO hN hi hx ht hs hf,fun H₀ H O σ ds hd out E o e h=>?_⟩;unfold jS at e;obtain⟨d,h1,rfl⟩:=mpd e;exact hg H₀ H O σ ds hd d _ o h1 fun v H' s r=>h _ _ _ ((o.mono s).set r)
theorem yQ{i:Nat}{x:Str}{e:Expr}{pos pos':Pos}{f:FA}(hN:X.N.Nodup)(he:PVf X e f)(hi:X.N[i]?=some x:=by rfl)(hx:Loc X.env.scope x:=by first | exact Or.inl rfl | exact Or.inr rfl)(hs:eQ e (some (.Name x pos')) pos.line X.env=pure false:=by rfl)(hf:X.fn x=true\/X.env.scope.names.lookup x=some .local:=by first | exact .inl rfl | exact .inr rfl):PSv X (.Assign [.Name x pos'] e pos) (setOG i f):=by
 obtain⟨t,ht,hg⟩:=he;refine⟨_,CO hN hi hx ht hs hf,fun H₀ H O σ ds hd out E o e h=>?_⟩;unfold setOG at e;obtain⟨l,h1,rfl⟩:=mpd e;exact hg H₀ H O σ ds hd l _ o h1 fun a xs H' s hn he r=>h _ _ _ (o.setO s hn he r)
theorem qD{e:Expr}{pos:Pos}{f:FE}(he:PVw X e f):PSv X (.Return (some e) pos) (retG f):=by
 obtain⟨t,ht,hg⟩:=he;refine⟨_,CP ht,fun H₀ H O σ ds hd out E o e h=>?_⟩;unfold retG at e;obtain⟨d,h1,e⟩:=bnd e;simp only[bG,flatR] at e
 split at e
 . rename_i hf;cases e;exact hg H₀ H O σ ds hd d _ o h1 fun v H' s r=>h _ _ (o.same.trans s) (Rep.flatten (fun a z=>Old.mono (o.same.trans s) z) hf r.any) True.intro
 . cases e
theorem xW{e:Expr}{pos:Pos}{f:FA}(he:PVf X e f):PSv X (.Return (some e) pos) (retOG f):=by
 obtain⟨t,ht,hg⟩:=he;refine⟨_,CP ht,fun H₀ H O σ ds hd out E o e h=>?_⟩;unfold retOG at e;obtain⟨l,h1,e⟩:=bnd e;simp only[bG,flatF] at e
 split at e
 . rename_i hf;cases e;refine hg H₀ H O σ ds hd l _ o h1 fun a xs H' s hn he r=>h _ _ (o.same.trans s) ⟨a,xs,rfl,o.same.free hn,he,Reps.flatten (fun b z=>?_) hf r⟩ True.intro;rcases z with rfl | z
   . exact⟨_,he,rfl⟩
   . exact Old.mono (o.same.trans s) z
 . cases e
theorem xV(i:Nat){x:Str}{pos pos':Pos}(hN:X.N[i]?=some x:=by rfl)(hv:Vis X.env.scope x:=by first | exact Or.inl rfl | exact Or.inr (Or.inl rfl) | exact Or.inr (Or.inr rfl))(hd:(x==("__debug__" : Str))=false:=by decide)(hcd:(x==("__classdict__" : Str))=false:=by decide):PSv X (.Return (some (.Name x pos')) pos) (retXG i):=by
 refine⟨_,CP (xD hN hv hd hcd),fun H₀ H O σ ds hd out E o e h=>?_⟩;unfold retXG at e;cases hs:ds[i]? with
 |none=>rw[hs] at e;cases e
 | some s =>
   rw[hs] at e;cases s with
   |v d'=>cases e
   |no=>cases e
   |exc _=>cases e
   |fr _=>cases e
   |ob _ _=>cases e
   | own l =>
     simp only[flatF] at e
     split at e
     . rename_i hf;cases e;obtain ⟨a,xs,h1,h2,h3,h4⟩:=o.readO hs;refine ⟨.ref a,h1,h _ _ o.same ⟨a,xs,rfl,o.fresh i l a hs h1,h3,Reps.flatten (fun b z=>?_) hf h4⟩ True.intro⟩;rcases z with rfl | z
       . exact⟨_,h3,rfl⟩
       . exact Old.mono o.same z
     . cases e
theorem psv_put{i:Nat}{x:Str}{e ek:Expr}{pos p1 p2:Pos}{fk fe:FE}(he:PV X e fe)(hk:PV X ek fk)(hN:X.N[i]?=some x:=by rfl)(hv:Vis X.env.scope x:=by first | exact Or.inl rfl | exact Or.inr (Or.inl rfl) | exact Or.inr (Or.inr rfl))(hd:(x==("__debug__" : Str))=false:=by decide)(hcd:(x==("__classdict__" : Str))=false:=by decide)(ha:∀v,AD (.Subscript (.Name x p1) ek p2) X.env v=(do
    let ov <- gX [v] (cC (.Name x p1) X.env)
    let iv <- gX [v,ov] (cC ek X.env)
    oK p2
    gX [v,ov,iv] (setItem ov iv v)
    release [v,ov,iv] []):=by intro _;rfl)(hs:swapsWithSole [.Subscript (.Name x p1) ek p2] e pos.line X.env=pure false:=by rfl)(hw:swappedStores [.Subscript (.Name x p1) ek p2] e X.env=pure none:=by rfl)(h1:(gG [.Subscript (.Name x p1) ek p2] X.env).map (·.2)=[AD (.Subscript (.Name x p1) ek p2) X.env]:=by rfl):PSv X (.Assign [.Subscript (.Name x p1) ek p2] e pos) (putG i fk fe):=by
 obtain⟨te,pe,he⟩:=he;obtain⟨tk,pk,hk⟩:=hk;refine⟨_,ps_asg pe (pg_sub (xD hN hv hd hcd) pk TC ha) hs hw h1,fun H₀ H O σ ds hd out E o e h=>?_⟩;unfold putG at e;cases hsl:ds[i]? with
 |none=>rw[hsl] at e;cases e
 | some s =>
   rw[hsl] at e;cases s with
   |v d'=>cases e
   |no=>cases e
   |exc _=>cases e
   |fr _=>cases e
   |ob _ _=>cases e
   | own l =>
     simp only at e;obtain⟨d,h1,e⟩:=bnd e;obtain⟨kd,h2,e⟩:=bnd e;cases kd with
     | int n =>
       simp only at e;obtain⟨j,h3,rfl⟩:=mpd e;refine he H₀ H O σ ds hd d _ o h1 fun v H1 s1 r1=>?_;obtain⟨a,xs,q1,q2,q3,q4⟩:=(o.mono s1).readO hsl;refine⟨.ref a,q1,?_⟩;refine hk H₀ H1 O σ ds hd _ _ (o.mono s1) h2 fun kv H2 s2 r2=>?_;cases r2;refine⟨a,xs,n,j,rfl,rfl,s2 _ _ q3,by rw[q4.length];exact h3,?_⟩;exact h _ _ _ (((o.mono s1).mono s2).modify hsl q1 ((q4.mono s2).set (r1.mono s2) j))
     |_=>cases e
theorem xI{i:Nat}{x:Str}{e:Expr}{pos p1 p2 p3:Pos}{fe:FE}(he:PV X e fe)(hN:X.N[i]?=some x:=by rfl)(hv:Vis X.env.scope x:=by first | exact Or.inl rfl | exact Or.inr (Or.inl rfl) | exact Or.inr (Or.inr rfl))(hd:(x==("__debug__" : Str))=false:=by decide)(hcd:(x==("__classdict__" : Str))=false:=by decide)(hfew:((cY p3 (aJ [e] X.env)).all (fun x=>!x.1)&&(lY p3 (gD [] X.env)).all (fun x=>x.1.isSome)
    && decide ([e].length+([]:List iM).length+(if ([]:List iM).isEmpty then 0 else 1)<30))=true:=by rfl)(hline:(p2.endLine==p3.line)=true:=by rfl)(hs:aJ [e] X.env=(false,cC e X.env)::aJ [] X.env:=by rfl)(hbase:dH (.Name x p1) "append" X.env (cC (.Name x p1) X.env)=cC (.Name x p1) X.env:=by rfl)(hsw:eQ (.Call (.Attribute (.Name x p1) "append" p2) [e] [] p3) none pos.line X.env=pure false:=by rfl) :
  PSv X (.Expr (.Call (.Attribute (.Name x p1) "append" p2) [e] [] p3) pos) (appG i fe):=by
 obtain⟨te,pe,he⟩:=he;refine⟨_,wM (LP iF uF uE AZ (xD hN hv hd hcd) (qW pe jT hs) hbase hfew hline hs rfl) hsw,fun H₀ H O σ ds hd out E o e h=>?_⟩;unfold appG at e;cases hsl:ds[i]? with
 |none=>rw[hsl] at e;cases e
 | some s =>
   rw[hsl] at e;cases s with
   |v d'=>cases e
   |no=>cases e
   |exc _=>cases e
   |fr _=>cases e
   |ob _ _=>cases e
   | own l =>
     simp only at e;obtain⟨d,h1,e⟩:=bnd e
     split at e
     . rename_i hl;cases e;obtain⟨a,xs,q1,q2,q3,q4⟩:=o.readO hsl;refine⟨.ref a,q1,.inl ⟨rfl,xs,SqL.of q3⟩,?_⟩;refine he H₀ H O σ ds hd d _ o h1 fun v H1 s1 r1=>?_;refine⟨a,xs,v,rfl,rfl,s1 _ _ q3,by rw[q4.length];exact hl,?_⟩;exact h _ _ _ ((o.mono s1).modify hsl q1 ((q4.mono s1).append (.cons r1 .nil)))
     . cases e
theorem MX(n:Nat)(ds:List D)(i:Nat)(r:Option Nat)(t:OT):(args n ds)[i]?≠some (.ob r t):=fun e=>by
 unfold args at e
 by_cases hi:i<ds.length
 . rw [bV (by simpa using hi), bK] at e;cases h:ds[i]? with
   |none=>rw[h] at e;cases e
   |some d=>rw[h] at e;cases e
 . rw [cH (by simpa using hi), dI] at e
   split at e<;>cases e
theorem VJ{K:Frag}{H:Hp}{N:List Str}{vs:List V}{ds:List D}(r:Reps K H yF vs ds):Ok K H H yF (L2.start N vs) (args N.length ds) []:=by
 have hl:=r.length
 have no:∀i,IsOwn (args N.length ds) i->False:=fun i ⟨l,e⟩=>by
  unfold args at e
  by_cases hi:i<ds.length
  . rw [bV (by simpa using hi), bK] at e;cases h:ds[i]? with
    |none=>rw[h] at e;cases e
    |some d=>rw[h] at e;cases e
  . rw [cH (by simpa using hi), dI] at e
    split at e<;>cases e
 refine⟨Same.refl _,fun i l a e _=>(no i ⟨l,e⟩).elim,fun _ z=>z.elim,by simp[L2.start,args,hl],fun i s e=>?_,fun i j a _ hi _ _ _=>no i hi,(fun p hp=>nomatch hp),.no (MX _ _)⟩;unfold args at e;unfold L2.start
 by_cases hi:i<ds.length
 . rw[bV (by simpa using hi), bK] at e;rw[bV (by simpa[hl] using hi),bK];obtain⟨d,h,rfl⟩:=mpd e;obtain⟨v,h1,h2⟩:=r.get h;rw[h1];exact jZ h2
 . rw [cH (by simpa using hi), dI] at e
   split at e
   . cases e;exact jC
   . cases e
def Does(g:FS)(n:Nat)(ds:List D)(r:Ret):Prop:=g (args n ds)=some (.rt r)\/(r=.val .non/\∃ds',g (args n ds)=some (.nx ds'))
theorem jF{P:aX}{w:bW}{K:Frag}{mg:Str->Option aA}{base:Heap}{x qual:Str}{st:Stmt}{f:aB}{fd:bN}{N ps:List Str}{k:Nat}{F:List D->Option Ret}(Fn:Fun K x qual st f fd)(S:FnScope N ps (zH st)){g:FS}(hbody:∀(cdv:aA) (A:bT) (outer:List Env) (s:aC) (H:Hp) (E:XK),Room k (A.deeper (mE qual (zH st) s.heap.objs.size f cdv))->PSsv (cxOf CX0 P w K mg base N qual (zH st) f cdv A outer s H E).nox (qT st) g)(hg:∀ds r,ds.length=ps.length->F ds=some r->Does g N.length ds r):FnOk P w K mg base CX0 (k+1) f fd ps (spF K ps.length F):=by
 refine Fn.ok S (fun vs H Q E h=>h.1) (fun cdv A outer s H vs Q E hr h=>?_);obtain⟨hl,ds,r,rv,e,q⟩:=h;obtain⟨t,ht,hf⟩:=hbody cdv A outer s H E hr;refine⟨t,ht,?_⟩;have o:=VJ (N:=N) rv;rcases hg ds r (by rw[<- rv.length];exact hl) e with e' | ⟨rfl,ds',e'⟩
 . exact hf H H yF _ _ [] _ _ o e' (fun v H' s r _=>q v H' s r)
 . exact hf H H yF _ _ [] _ _ o e' (fun σ H' O o'=>q .non H' o'.same .non)
end
end FL
namespace L2
open PySem PySem.Spec PyProof.Rows
noncomputable def Its(x:Str):It:=⟨fun i _=>i<x.cps.size,fun i H v H'=>H'=H/\∃c,x.cps[i]?=some c/\v=.str ⟨#[c]⟩,fun i _=>i=x.cps.size⟩
theorem EA{P:aX}{w:bW}{K:aL}{tg:Expr}(x:Str)(t:Tok)(it:aB)(ty:String)(hn:["enumerate","zip","dict_itemiterator","dict_reverseitemiterator","odict_iterator","itertools.zip_longest","itertools.pairwise"].contains ty=false)(Wk:∀A:bT,A.handled=none->Walks P w A it [it] [it] x.cps.size (SignAt x) (fun i h=>h.IsStrIter it ty x t i))(hself:∀(A:bT) (i:Nat) (s:aC) (Q:aA->aC->Prop) (E:aA->aC->Prop),s.heap.IsStrIter it ty x t i->Q (.ref it) s->bH (aT P w) A (AA (.ref it)) Q E s):Turn P w K tg (Its x) [it] it (fun i h=>h.IsStrIter it ty x t i) where
 mem:=by simp
 obj:=fun i h st b hb=>by
  have e:b=it:=by simpa using hb
  subst e;obtain⟨o,e,c,d⟩:=st;exact⟨o,e,fun v z=>by rw[d] at z;cases z⟩
 keep:=fun i h h' st k=>by
  obtain⟨o,e,r⟩:=st;exact⟨o,k it (by simp) o e,r⟩
 item:=by
  intro X hP hw hK hc i aE s σ H E I hf st hg;subst hP hw hK;obtain⟨f0,f1,f2,f3,f4,f5⟩:=hf it (by simp);refine(Wk X.A (I.ok.hd hc)).item i s _ _ hg st fun v h' tk hv st' kk=>?_;obtain⟨c,u,hc',rfl⟩:=hv;have I1:Inv X aE σ H { s with heap:=h',toks:=tk }:=I.turned (fun b o hb e=>kk b o (by simpa using hb) e) f0 f1 f3 f4 f5;obtain⟨o,e,c1,d⟩:=id st';exact⟨_,rfl,GB (s:={ s with heap:=h',toks:=tk }) e c1 d hn ⟨.str ⟨#[c]⟩,H,I1,⟨u,rfl⟩,⟨rfl,c,hc',rfl⟩,st',fun b hb=>(hf b hb).1⟩⟩
 done:=by
  intro X hP hw hK hc i aE s σ H E I hf st hg;subst hP hw hK;obtain⟨f0,f1,f2,f3,f4,f5⟩:=hf it (by simp);have hg':i=x.cps.size:=hg;subst hg';exact(Wk X.A (I.ok.hd hc)).done s _ _ st fun h' tk eb=>⟨rfl,I.turned (fun b o hb e=>eb b o (by simpa using hb) e) f0 f1 f3 f4 f5⟩
 self:=hself
section
variable{X:Cx}{tg:Expr}
def iStr(tl:TE):TI:=fun σ H R=>tl σ H fun x H1=>∃z,x=.str z/\R (Its z) H1
theorem pi_str{l:Expr}{tl:TE}(hl:PE X l tl):PI X tg l (iStr tl):=by
 intro aE s σ H R I h;refine thn (hl aE s σ H _ I h) fun v s1 zq=>?_;obtain⟨x,H1,I1,r1,q1⟩:=zq;obtain⟨z,e,q⟩:=q1;subst e;obtain⟨t,rfl⟩:=r1;cases ha:z.cps.all (· < 128)
 . refine wpAny_pyIter_wide ha ⟨s1.heap.objs.size, [s1.heap.objs.size], _, _, H1, rfl, I1.kept (t' := s1.toks) fun b o e => aG _ e, EA z t _ "str_iterator" (by decide) (fun A hA => Walks.strWide hA _ z t) (fun _ _ _ _ _ st h => wpAny_pyIter_striter_wide st h), ⟨_, aK _ rfl, rfl, rfl⟩, fun b hb => ?_, q⟩;have e:b=s1.heap.objs.size:=by simpa using hb
   subst e;exact I1.fpOk (aM _) (I1.hok.fresh (aM _))
 . refine wpAny_pyIter_ascii ha ⟨s1.heap.objs.size, [s1.heap.objs.size], _, _, H1, rfl, I1.kept (t' := s1.toks) fun b o e => aG _ e, EA z t _ "str_ascii_iterator" (by decide) (fun A hA => Walks.strAscii hA _ z t) (fun _ _ _ _ _ st h => wpAny_pyIter_striter_ascii st h), ⟨_, aK _ rfl, rfl, rfl⟩, fun b hb => ?_, q⟩;have e:b=s1.heap.objs.size:=by simpa using hb
   subst e;exact I1.fpOk (aM _) (I1.hok.fresh (aM _))
end
end L2
namespace FL
open PySem PySem.Spec PyProof.Rows L2
def Wlk(K:Frag)(J:It)(p:V×D)(items:List D):Prop:=∀H O,(∀a,O a->∃u:MutHO,H a=some u.1)->Rep K H O p.1 p.2 →
 (∀i d,items[i]?=some d->J.go i H/\∀x H',J.yld i H x H'->Same H H'/\Rep K H' O x d)/\J.stop items.length H
section
variable{X:Cx}
variable(X) in
def PIv(tg iter:Expr)(fi:FA):Prop:=∃wi,PI X tg iter wi/\∀H₀ H O σ ds hd items R,Ok X.K H₀ H O σ ds hd->fi ds=some items →
 (∀J p H',Same H H'->Rep X.K H' O p.1 p.2->Wlk X.K J p items->R J H')->wi σ H R
theorem SN{K:Frag}{a:aB}{l:List D}: Wlk K (Itl K a) (.ref a,.lst l) l:=by
 intro H O _ r;obtain⟨b,xs,e,hs,rs⟩:=WRep.seqL (.inl r);cases e;refine⟨fun i d hd=>?_,⟨xs,hs,by rw[rs.length];exact aM _⟩⟩;obtain⟨v,h1,h2⟩:=rs.get hd;refine⟨⟨xs,v,hs,h1⟩,fun x H' y=>?_⟩;obtain⟨rfl,y⟩:=y;have:=y xs hs;rw[h1] at this;cases this;exact⟨Same.refl _,h2⟩
theorem ZF{K:Frag}{a:aB}{l:List D}: Wlk K (Itt K a) (.ref a,.tup l) l:=by
 intro H O _ r;obtain⟨b,xs,e,hs,rs⟩:=WRep.seqT (.inl r);cases e;refine⟨fun i d hd=>?_,⟨xs,hs,by rw[rs.length];exact aM _⟩⟩;obtain⟨v,h1,h2⟩:=rs.get hd;refine⟨⟨xs,v,hs,h1⟩,fun x H' y=>?_⟩;obtain⟨rfl,y⟩:=y;have:=y xs hs;rw[h1] at this;cases this;exact⟨Same.refl _,h2⟩
theorem NJ{K:Frag}{lo:Int}{n:Nat}: Wlk K (Itr lo n) (.non,.non) (lC lo n):=by
 intro H O _ r;have hl:(lC lo n).length=n:=by simp[lC]
 refine⟨fun i d hd=>?_,show n<=_ by rw[hl];exact aM _⟩
 have hi:i<n:=by
  have:=(bF.mp hd).1
  rwa [hl] at this
 refine⟨hi,fun x H' y=>?_⟩;obtain⟨rfl,rfl⟩:=y
 have:d=D.int (lo+(i:Int)):=by
  simp only[lC,bK,lM hi,cQ] at hd;exact(Option.some.inj hd).symm
 subst this;exact⟨Same.refl _,.int _⟩
theorem ZG{K:Frag}{x:Str}: Wlk K (Its x) (.non,.non) (sgns x):=by
 intro H O _ r;have hl:(sgns x).length=x.cps.size:=by simp[sgns]
 refine⟨fun i d hd=>?_,show _=x.cps.size from hl⟩
 have hi:i<x.cps.size:=by
  have:=(bF.mp hd).1
  rwa [hl] at this
 refine⟨hi,fun v H' y=>?_⟩;obtain⟨rfl,c,hc,rfl⟩:=y
 have:d=D.str ⟨#[c]⟩:=by
  simp only[sgns,bK,cD,hc,cQ] at hd;exact(Option.some.inj hd).symm
 subst this;exact⟨Same.refl _,.str _⟩
theorem piv_str{tg e:Expr}{f:FE}(h:PV X e f):PIv X tg e (viaA f asS):=by
 obtain⟨t,ht,hf⟩:=h;refine⟨_,pi_str ht,fun H₀ H O σ ds hd items R o e q=>?_⟩;unfold viaA at e;obtain⟨d,h1,e⟩:=bnd e;cases d with
 | str x =>
   cases e;refine hf H₀ H O σ ds hd _ _ o h1 fun v H' s r=>?_;cases r;exact⟨x,rfl,q _ (.non,.non) H' s .non ZG⟩
 |_=>cases e
theorem tH{tg e:Expr}{p pos:Pos}{f:FE}(hm:X.mg "range" = none)(h:PV X e f)(hg:Gl X "range":=by rfl)(hs:aJ [e] X.env=[(false,cC e X.env)]:=by rfl):PIv X tg (.Call (.Name "range" p) [e] [] pos) (rng1 f):=by
 obtain⟨t,ht,hf⟩:=h;refine⟨_,OK hg hm (qW ht jT hs) hs,fun H₀ H O σ ds hd items R o e q=>?_⟩;unfold rng1 at e;obtain⟨d,h1,e⟩:=bnd e;cases d with
 | int j =>
   simp only at e
   split at e
   . rename_i hj;cases e;refine hf H₀ H O σ ds hd _ _ o h1 fun v H' s r=>?_;cases r;exact⟨j,rfl,hj.1,hj.2,q _ (.non,.non) H' s .non NJ⟩
   . cases e
 |_=>cases e
variable(X) in
def PGv(tg:Expr)(ga:D->List Sl->Option (List Sl)):Prop:=∃g,PG X tg g/\∀H₀ H O σ ds hd v d ds' Q,Ok X.K H₀ H O σ ds hd->Rep X.K H O v d->ga d ds=some ds'->(∀σ',Ok X.K H₀ H O σ' ds' hd->Q σ' H)->g v σ H Q
variable(X) in
def PGsv(tgs:List Expr)(ga:List D->List Sl->Option (List Sl)):Prop:=∃g,PGs X tgs g/\∀H₀ H O σ ds hd vs l ds' Q,Ok X.K H₀ H O σ ds hd->Reps X.K H O vs l->ga l ds=some ds'->(∀σ',Ok X.K H₀ H O σ' ds' hd->Q σ' H)->g vs σ H Q
theorem zY{i:Nat}{x:Str}{pos:Pos}(hN:X.N.Nodup)(hi:X.N[i]?=some x:=by rfl)(hx:Loc X.env.scope x:=by first | exact Or.inl rfl | exact Or.inr rfl)(hf:X.fn x=true\/X.env.scope.names.lookup x=some .local:=by first | exact .inl rfl | exact .inr rfl):PGv X (.Name x pos) (zP i):=
 ⟨_,pg_name hN hi hx hf,fun H₀ H O σ ds hd v d ds' Q o r e q=>by cases e;exact q _ (o.set r)⟩
theorem xU:PGsv X [] tgNil:=⟨_,pgs_nil,fun H₀ H O σ ds hd vs l ds' Q o r e q=>by
 cases r with
 |nil=>cases e;exact⟨rfl,q _ o⟩
 |cons _ _=>cases e⟩
theorem qS{e:Expr}{es:List Expr}{g:D->List Sl->Option (List Sl)}{h:List D->List Sl->Option (List Sl)}(h1:PGv X e g)(h2:PGsv X es h)(hs:(gG (e::es) X.env).map (·.2)=AD e X.env::(gG es X.env).map (·.2):=by rfl):PGsv X (e::es) (qM g h):=by
 obtain⟨t,ht,hf⟩:=h1;obtain⟨u,hu,hg⟩:=h2;refine⟨_,UT ht hu hs,fun H₀ H O σ ds hd vs l ds' Q o r e q=>?_⟩;cases r with
 |nil=>cases e
 | cons r1 rr =>
   rename_i v d vr dr;simp only[qM] at e;obtain⟨ds1,h1,e⟩:=bnd e;exact⟨v,vr,rfl,hf H₀ H O σ ds hd v d ds1 _ o r1 h1 fun σ' o'=>hg H₀ H O σ' ds1 hd vr dr ds' Q o' rr e q⟩
theorem vZ{es:List Expr}{k:Nat}{pos:Pos}{h:List D->List Sl->Option (List Sl)}{n:Nat}(hc:X.calm=true)(hh:PGsv X es h)(hn:(gG es X.env).length=n:=by rfl)(hst:(gG es X.env).findIdx? (·.1)=none:=by rfl):PGv X (.Tuple es k pos) (tupG n h):=by
 obtain⟨t,ht,hf⟩:=hh;refine⟨_,pg_tup hc ht hn hst,fun H₀ H O σ ds hd v d ds' Q o r e q=>?_⟩;cases d with
 | tup l =>
   simp only[tupG] at e
   split at e
   . rename_i hl;obtain⟨a,xs,rfl,hs,rs⟩:=WRep.seqT (.inl r);exact⟨a,xs,rfl,hs,by rw[rs.length];exact hl,hf H₀ H O σ ds hd xs l ds' Q o rs e q⟩
   . cases e
 |_=>cases e
theorem NX{K:Frag}{H:Hp}{hd:Hold}{q:HI}{v:V}{r:Ret}(h:RetB K H (q::hd) v r):RetB K H hd v r:=by
 cases r with
 |any d=>exact fun B hB=>h B (aQ _ hB)
 |_=>exact True.intro
theorem yE{tg iter:Expr}{body:List Stmt}{pos:Pos}{fi:FA}{ga:D->List Sl->Option (List Sl)}{g:FS}(hp:PassesOwn (aT X.prog X.w) X.A X.env X.xe)(hc:X.calm=true)(hi:PIv X tg iter fi)(hg:PGv X tg ga)(hb:PSsv X body g)(hs:∀x,gY iter X.env x=pure x:=by intro _;rfl):PSv X (.For tg iter body [] pos) (forG fi ga g):=by
 obtain⟨wi,pi,hi⟩:=hi;obtain⟨tg',pg,hg⟩:=hg;obtain⟨tb,pb,hb⟩:=hb;refine⟨_,ps_for hp hc pi pg pb hs,fun H₀ H O σ ds hd out E o e h=>?_⟩;unfold forG at e;obtain⟨items,h1,e⟩:=bnd e;refine hi H₀ H O σ ds hd items _ o h1 fun J p H' s r wk=>?_;refine⟨fun i m σ' H'=>i<=items.length/\m=items.length-i/\∃O' ds',Ok X.K H₀ H' O' σ' ds' (HI.rep p.1 p.2::hd)/\jI ga g (items.drop i) ds'=some out,⟨items.length,bY _,rfl,O,ds,(o.mono s).holdMore (p:=HI.rep p.1 p.2) r,by simpa using e⟩,?_⟩;rintro i m σ1 H1 ⟨hi1,rfl,O1,ds1,o1,e1⟩;obtain⟨go,stop⟩:=wk H1 O1 o1.dom (o1.hold (HI.rep p.1 p.2) bD)
 by_cases hlt:i<items.length
 . right;have hd0:items[i]? = some items[i]:=aZ hlt;obtain ⟨hgo,hy⟩:=go i _ hd0;rw [dX hlt,jI] at e1;refine ⟨hgo,fun σ' H'=>i+1<=items.length/\∃ O' ds',Ok X.K H₀ H' O' σ' ds' (HI.rep p.1 p.2::hd)/\jI ga g (items.drop (i+1)) ds'=some out,fun σ' H' ⟨q1,q2⟩=>⟨items.length - (i+1),by omega,q1,rfl,q2⟩,fun x H2 y=>?_⟩;obtain ⟨s2,r2⟩:=hy x H2 y;obtain ⟨ds2,h2,e1⟩:=bnd e1;obtain ⟨o3,h3,e1⟩:=bnd e1;refine hg H₀ H2 O1 σ1 ds1 (HI.rep p.1 p.2::hd) x _ ds2 _ (o1.mono s2) r2 h2 fun σ' o'=>?_;refine hb H₀ H2 O1 σ' ds2 (HI.rep p.1 p.2::hd) o3 _ o' h3 ?_;cases o3 with
   |nx ds3=>exact fun σ3 H3 O3 ok3=>⟨hlt,O3,ds3,ok3,e1⟩
   |ct ds3=>exact fun σ3 H3 O3 ok3=>⟨hlt,O3,ds3,ok3,e1⟩
   |bk ds3=>cases e1;exact fun σ3 H3 O3 ok3=>h σ3 H3 O3 ok3.holdLess
   |rt rr=>cases e1;exact fun v H s r b=>h v H s r (NX b)
 . left;have ei:i=items.length:=by omega
   subst ei;rw[kT,jI] at e1;cases e1;exact⟨stop,h σ1 H1 O1 o1.holdLess⟩
variable(X) in
def PFv(ifs:List Expr)(c:FT):Prop:=∃t,PF X ifs t/\∀H₀ H O σ ds hd b Q,Ok X.K H₀ H O σ ds hd->c ds=some b->(∀H',Same H H'->Q b H')->t σ H Q
theorem vQ:PFv X [] (fun _=>some true):=⟨_,pf_nil,fun _ H _ _ _ _ _ _ _ e q=>by cases e;exact q H (Same.refl _)⟩
theorem LM{c:Expr}{fc:FT}(h:PTv X c fc):PFv X [c] fc:=by
 obtain⟨t,ht,hf⟩:=h;exact⟨_,pf_one ht,hf⟩
theorem Ok.inner{K:Frag}{H₀ H:Hp}{O:aB->Prop}{σ : L2.St}{ds:List Sl}{hd:Hold}(o:Ok K H₀ H O σ ds hd)(mp:List (Option Nat)):Ok K H₀ H O (iH mp σ) (qU mp ds) hd:=by
 have no:∀{i:Nat} {l:List D},(qU mp ds)[i]?=some (.own l)->False:=fun {i l} e=>by
  unfold qU at e;rw[bK] at e;cases hm:mp[i]? with
  |none=>rw[hm] at e;cases e
  | some m =>
    rw[hm] at e;simp only[cQ,Option.some.injEq] at e;cases m with
    |none=>cases e
    | some j =>
      simp only at e
      split at e<;>cases e
 refine⟨o.same,fun i l a e _=>(no e).elim,o.dom,by simp[iH,qU],fun i s e=>?_,fun i j a hij hi hj e1 e2=>?_,o.hold,.no fun i r t e=>by
  unfold qU at e;rw[bK] at e;cases hm:mp[i]? with
  |none=>rw[hm] at e;cases e
  | some m =>
    rw[hm] at e;simp only[cQ,Option.some.injEq] at e;cases m with
    |none=>cases e
    | some j =>
      simp only at e
      split at e<;>cases e⟩
 . unfold qU at e;unfold iH;rw [bK] at e ⊢;cases hm:mp[i]? with
   |none=>rw[hm] at e;cases e
   | some m =>
     rw[hm] at e;simp only[cQ,Option.some.injEq] at e;cases m with
     | none =>
       simp only at e;subst e;exact jC
     | some j =>
       simp only at e;cases hj:ds[j]? with
       |none=>rw[hj] at e;subst e;exact jC
       | some s' =>
         rw[hj] at e;cases s' with
         |no=>subst e;exact jC
         |exc _=>subst e;exact jC
         |fr _=>subst e;exact jC
         |ob _ _=>subst e;exact jC
         |own l=>subst e;exact jC
         | v d =>
           simp only at e;subst e;obtain⟨v,h1,h2⟩:=o.read hj;simp only[cQ,bG,h1,Option.join_some];exact jZ h2
 . obtain ⟨l, e⟩ := hi;unfold qU at e;rw [bK] at e;cases hm:mp[i]? with
   |none=>rw[hm] at e;cases e
   | some m =>
     rw[hm] at e;simp only[cQ,Option.some.injEq] at e;cases m with
     |none=>cases e
     | some j =>
       simp only at e;cases hj:ds[j]? with
       |none=>rw[hj] at e;cases e
       |some s'=>rw[hj] at e;cases s'<;>cases e
section
variable{scope:Scope}{NY:List Str}{mp:List (Option Nat)}{tg iter elt:Expr}{ifs:List Expr}{pos:Pos}{fi:FA}{ga:D->List Sl->Option (List Sl)}{tt:FT}{fe:FE}
theorem XV{wi:TI}{g:CI->TG}{t1:CI->TT}{t2:CI->TE}(hi:∀H₀ H O σ ds hd items R,Ok X.K H₀ H O σ ds hd->fi ds=some items->(∀J p H',Same H H'->Rep X.K H' O p.1 p.2->Wlk X.K J p items->R J H')->wi σ H R)(hg:∀c H₀ H O σ ds hd v d ds' Q,Ok X.K H₀ H O σ ds hd->Rep X.K H O v d->ga d ds=some ds'->(∀σ',Ok X.K H₀ H O σ' ds' hd->Q σ' H)->g c v σ H Q)(ht:∀c H₀ H O σ ds hd b Q,Ok X.K H₀ H O σ ds hd->tt ds=some b->(∀H',Same H H'->Q b H')->t1 c σ H Q)(he:∀c H₀ H O σ ds hd d Q,Ok X.K H₀ H O σ ds hd->fe ds=some d->(∀v H',Same H H'->Rep X.K H' O v d->Q v H')->t2 c σ H Q) :
  ∀H₀ H O σ ds hd l Q,Ok X.K H₀ H O σ ds hd->compG fi mp ga tt fe ds=some l →
   (∀a xs H',Same H H'->H a=none->H' a=some (.lst xs)->Reps X.K H' (ins1 a O) xs l->Q (.ref a) H')->tComp wi mp g t1 t2 σ H Q:=by
 intro H₀ H O σ ds hd l Q o e q;unfold compG at e;obtain⟨items,h1,e⟩:=bnd e
 split at e
 . rename_i hsz;refine hi H₀ H O σ ds hd items _ o h1 fun J p H1 s1 r1 wk=>fun c=>?_;have oI:Ok X.K H₀ H1 O (iH mp σ) (qU mp ds) (HI.rep p.1 p.2::hd):=((o.mono s1).holdMore (p:=HI.rep p.1 p.2) r1).inner mp
   refine⟨fun i m ys H2=>i<=items.length/\m=items.length-i/\Same H1 H2/\ys.length<=i/\∃l' rest,Reps X.K H2 O ys l'/\compL ga tt fe (qU mp ds) (items.drop i)=some rest/\l=l'++rest,
    ⟨items.length,bY _,rfl,Same.refl _,aM _,[],l,.nil,by simpa using e,rfl⟩,?_⟩
   rintro i m ys H2 ⟨hi1,rfl,s2,hy,l',rest,ry,er,el⟩;have o2:=oI.mono s2;obtain⟨go,stop⟩:=wk H2 O o2.dom (o2.hold (HI.rep p.1 p.2) bD)
   by_cases hlt:i<items.length
   . right;have hd0:items[i]? = some items[i]:=aZ hlt;obtain ⟨hgo,hyl⟩:=go i _ hd0;refine ⟨hgo,by omega,fun x H3 y=>?_⟩;obtain ⟨s3,r3⟩:=hyl x H3 y;rw [dX hlt,compL] at er;obtain ⟨ds1,h2,er⟩:=bnd er;refine hg c H₀ H3 O _ _ (HI.rep p.1 p.2::hd) x _ ds1 _ (o2.mono s3) r3 h2 fun σ' o3=>?_;obtain ⟨b,h3,er⟩:=bnd er;refine ht c H₀ H3 O σ' ds1 (HI.rep p.1 p.2::hd) b _ o3 h3 fun H4 s4=>?_;cases b with
     | false =>
       refine iteF ⟨items.length-(i+1),by omega,hlt,rfl,(s2.trans s3).trans s4,SE hy,l',rest,(ry.mono s3).mono s4,by simpa using er,el⟩
     | true =>
       refine iteT ?_;simp only[if_true] at er;obtain⟨yd,h4,er⟩:=bnd er;cases h5:compL ga tt fe (qU mp ds) (items.drop (i+1)) with
       |none=>rw[h5] at er;cases er
       | some rest' =>
         rw[h5] at er;cases er;refine he c H₀ H4 O σ' ds1 (HI.rep p.1 p.2::hd) yd _ (o3.mono s4) h4 fun v H5 s5 r5=>?_;refine⟨items.length-(i+1),by omega,hlt,rfl,((s2.trans s3).trans s4).trans s5,by simp;omega,l'++[yd],rest',(((ry.mono s3).mono s4).mono s5).append (.cons r5 .nil),h5,?_⟩;rw[el];simp
   . left;have ei:i=items.length:=by omega
     subst ei;rw[kT,compL] at er;cases er;rw[fC] at el;subst el;refine⟨stop,by omega,fun a ha=>?_⟩;refine q a ys _ ((s1.trans s2).trans (zX ha _)) ((s1.trans s2).free ha) zK ?_;exact(ry.more ha).mono (zX ha _)
 . cases e
theorem yV(S:CompScope X scope NY mp)(hc:X.calm=true)(hi:PIv X tg iter fi)(hg:∀c,PGv (jH X scope NY c) tg ga)(ht:∀c,PFv (jH X scope NY c) ifs tt)(he:∀c,PV (jH X scope NY c) elt fe)(hs:∀x,gY iter X.env x=pure x:=by intro _;rfl):PVf X (.ListComp elt [⟨tg,iter,ifs,0⟩] scope pos) (compG fi mp ga tt fe):=by
 obtain⟨wi,pi,hi⟩:=hi;refine⟨_,LN S hc pi (fun c=>(Classical.choose_spec (hg c)).1) (fun c=>(Classical.choose_spec (ht c)).1) (fun c=>(Classical.choose_spec (he c)).1) hs,?_⟩;exact XV hi (fun c=>(Classical.choose_spec (hg c)).2) (fun c=>(Classical.choose_spec (ht c)).2) (fun c=>(Classical.choose_spec (he c)).2)
end
end
end FL
namespace L2
open PySem PySem.Spec PyProof.Rows
section
variable{X:Cx}
inductive TyV(K:aL)(H:Hp):V->aA->Prop where
 |of {x:V} {t:aA} (h:TyOf K H x t):TyV K H x t
 |lstK {a:aB} {o:Obj} (h:K.lookup a=some o) (c:o.cls=.type "list"):TyV K H (.ref a) (.type "list")
 |tupK {a:aB} {o:Obj} (h:K.lookup a=some o) (c:o.cls=.type "tuple"):TyV K H (.ref a) (.type "tuple")
 |tupF {a:aB} {o:Obj} {xs:List V} (h:H a=some (.frz o (.tup xs))):TyV K H (.ref a) (.type "tuple")
noncomputable def clsV:V->aA->Prop
 | .ty n,u=>u=.type n
 | .ref a,u=>u=.ref a
 |_,_=>False
theorem YA:CallR X (.builtin "isinstance") (fun xs H Q=>∃x c cv t b,xs=[x,c]/\clsV c cv/\TyV X.K H x t/\sQ X.K t cv=some b/\Q (.bl b) H):=by
 intro aE s σ H xs us Q I r h;obtain⟨x,c,cv,t,b,rfl,hc,ty,e,q⟩:=h;obtain⟨u,u2,rfl,ru,ru2⟩:=vals2 r
 have e2:u2=cv:=by
  cases c with
  |ty n=>cases(show cv=.type n from hc);cases(show u2=.type n from ru2);rfl
  |ref a=>cases(show cv=.ref a from hc);cases(show u2=.ref a from ru2);rfl
  |_=>exact(show False from hc).elim
 subst e2;have fin:∀tk,EP X aE σ Q (.bool b) { s with toks:=tk }:=fun tk=>⟨.bl b,H,I.tok tk,rfl,q⟩
 cases ty with
 |of h=>exact QB I ru h e fin
 | @lstK a o h c =>
   cases(show u=aA.ref a from ru);exact cL pL I.kIn ⟨o,I.kIn _ _ h,c⟩ e (fun z=>nomatch z) fin
 | @tupK a o h c =>
   cases(show u=aA.ref a from ru);exact cL oP I.kIn ⟨o,I.kIn _ _ h,c⟩ e (fun z=>nomatch z) fin
 | @tupF a o xs ea =>
   cases(show u=aA.ref a from ru);obtain⟨e0,_,_,_,p⟩:=(show ObjOk X.prog X.w H s.heap a (.frz o (.tup xs)) from I.hok a _ ea)
   obtain⟨o',h1,h2,_⟩:=p;exact cL oP I.kIn ⟨o',h1,h2⟩ e (fun z=>nomatch z) fin
theorem GR:∀{bs:List Bool} {us:List aA},Vals (bs.map V.bl) us->LSm.BoolsAre us bs
 |[],_,.nil=>.nil
 | b :: r, _, .cons h t => by
   cases(show _=aA.bool b from h);exact .cons b (GR t)
theorem RA(hc:X.calm=true):CallR X (.builtin "all") (fun xs H Q=>∃(p:aB) (bs:List Bool),xs=[.ref p]/\SqL X.K H p (bs.map V.bl)/\Q (.bl (bs.all id)) H):=by
 intro aE s σ H xs us Q I r h;obtain⟨p,bs,rfl,hq,q⟩:=h;obtain⟨u,rfl,ru⟩:=vals1 r;cases ru;obtain⟨its,rv,pl,hz⟩:=I.list hq;have hlt:p<s.heap.objs.size:=by obtain⟨_,e,_⟩:=pl.isList;exact aV e
 have hb:=GR rv;refine call_all_walk (nE pl.isList ?_)
 refine⟨s.heap.objs.size,[s.heap.objs.size,p],[s.heap.objs.size],its.toArray.size,_,_,fun i=>(bs[i]?).getD true,rfl,Walks.list (A:=X.A.in1) (I.ok.hd hc) _ p (bL hlt) its.toArray,
  ⟨⟨_,aK _ rfl,rfl,rfl⟩,pl.isList.push _⟩,fun i v s' Q' E' hP hQ=>?_,fun h' tk hk=>?_⟩
 . obtain⟨b, e, rfl⟩ := hb.get i v (by simpa using hP);simp only[e,mO] at hQ;exact fN hQ
 . have e:((List.range its.toArray.size).all fun i=>(bs[i]?).getD true)=bs.all id:=by
    rw[aU,hb.length];exact LSm.range_all bs
   rw[e];exact⟨.bl _,H,I.kept (LSm.kept_iter hk),rfl,q⟩
theorem vE:∀{ts:List Str} {us:List aA},Vals (ts.map V.str) us->oO us ts
 |[],_,.nil=>.nil
 | b :: r, _, .cons h t => by
   obtain⟨tk,rfl⟩:=(show ∃tk,_=aA.str b tk from h)
   exact .cons b tk (vE t)
def rJoin(K:aL):V->List V->Hp->VK->Prop:=fun x vs H Q=>∃(z:Str) (p:aB) (ts:List Str),x=.str z/\vs=[.ref p]/\SqL K H p (ts.map V.str)/\z.length<=16/\(ts.map (·.length)).sum+ts.length<=1048576/\Q (.str (Txt.join z ts)) H
theorem mt_join:MtR X "str.join" (rJoin X.K):=by
 intro aE s σ H x vs v us Q I rx rv h;obtain⟨z,p,ts,rfl,rfl,hq,hz,hw,q⟩:=h;obtain⟨tk,rfl⟩:=(show ∃tk,v=aA.str z tk from rx)
 obtain⟨u,rfl,ru⟩:=rv.one;cases ru;obtain⟨its,rv,pl,hl⟩:=I.list hq;exact join_listW pl.isList (by simpa using vE rv) hz hw fun t' k=>⟨.str _,H,I.tok k,⟨t',rfl⟩,q⟩
end
end L2
namespace FL
open PySem PySem.Spec PyProof.Rows L2
section
variable{X:Cx}
noncomputable def kitO(t T:String):Option Bool:=if ((aA.type t)==(aA.type T))=true then some true else if PySem.W.kitMeta T=true then (fastBuiltinMro t).map (·.contains (.type T)) else none
theorem kit_all:∀t∈kitN,∀T∈kitT,kitO t T=some (t==T||(t=="bool"&&T=="int")):=by decide +kernel
theorem kit_of{K:Frag}{t T:String}{b:Bool}(h:kitF t T=some b):sQ K (.type t) (.type T)=some b:=by
 unfold kitF at h
 split at h
 . rename_i hm;cases h;exact kit_all t hm.1 T hm.2
 . cases h
theorem ty_of{K:Frag}{H:Hp}{O:aB->Prop}{v:V}{d:D}{t:String}(r:WRep K H O v d)(e:tyD d=some t):TyV K H v (.type t):=by
 rcases r with r | ⟨a,xs,l,rfl,rfl,ho,h,rs⟩
 . cases r with
   |non=>cases e;exact .of .non
   |bl b=>cases e;exact .of (.bl b)
   |int i=>cases e;exact .of (.int i)
   |str x=>cases e;exact .of (.str x)
   | tup n h r =>
     cases e;rcases h with h | ⟨o,h⟩
     . exact .of (.tup h)
     . exact .tupF h
   |tupK h r=>cases e;obtain⟨o,its,m,hk,hc,_⟩:=h;exact .tupK hk hc
   | lst n h r =>
     cases e;rcases h with h | ⟨o,h⟩
     . exact .of (.lst h)
     . exact .of (.frz h)
   |lstK h r=>cases e;obtain⟨o,its,m,hk,hc,_⟩:=h;exact .lstK hk hc
   |dct n h e' r=>cases e;exact .of (.dK h)
   |dcf n h e' r=>cases e
   |ins c n h e' r=>cases e
   |clo tx h e' nd c r=>cases e
   |fnK h=>cases e
 . cases e;exact .of (.lst h)
theorem II{p pT pos:Pos}{e:Expr}{f:FE}{x:Str}{T:String}(hm:X.mg "isinstance" = none)(hT:X.mg x=none)(hv:dW x=some (.type T))(he:PVw X e f)(hg:Gl X "isinstance":=by rfl)(hgT:Gl X x:=by rfl)(h1:aJ [e,.Name x pT] X.env=(false,cC e X.env)::aJ [.Name x pT] X.env:=by rfl)(h2:aJ [.Name x pT] X.env=(false,cC (.Name x pT) X.env)::aJ [] X.env:=by rfl)(h3:(cY pos (aJ [.Name x pT] X.env)).any (·.1)=false:=by rfl)(hn:x≠"__name__":=by decide)(hd:(x==("__debug__" : Str))=false:=by decide):PV X (.Call (.Name "isinstance" p) [e,.Name x pT] [] pos) (isiG T f):=by
 obtain⟨t,ht,hf⟩:=he;refine⟨_,vH YA hg hm (by decide +kernel) (qW ht (qW (pe_bltn (v:=.ty T) hgT hT hv rfl hn hd) jT h2) h1) (by decide) (by decide) h1 h3,fun H₀ H O σ ds hd d Q o e q=>?_⟩;unfold isiG at e;obtain⟨dx,hh,e⟩:=bnd e;simp only[bG,isiD] at e;obtain⟨t,ht,e⟩:=bnd e;obtain⟨b,hk,rfl⟩:=mpd e;refine hf H₀ H O σ ds hd dx _ o hh fun v H' s r=>?_;exact⟨v,.ty T,.type T,.type t,b,rfl,rfl,ty_of r ht,kit_of hk,q _ H' s (.bl b)⟩
theorem MV{K:Frag}{H:Hp}{O:aB->Prop}:∀{xs:List V} {l:List D} {bs:List Bool},Reps K H O xs l->blsD l=some bs->xs=bs.map V.bl
 |_,_,_,.nil,e=>by cases e;rfl
 | _, _, bs, .cons (d := d) h t, e => by
   cases d with
   | bl b =>
     rename_i ds;simp only[blsD] at e;obtain⟨r,hr,rfl⟩:=mpd e;cases h;rw[MV t hr];rfl
   |_=>cases e
theorem cs_all:CallS X (fun xs H Q=>∃(p:aB) (bs:List Bool),xs=[.ref p]/\SqL X.K H p (bs.map V.bl)/\Q (.bl (bs.all id)) H) allD:=by
 intro H O vs l d Q ho r e q;unfold allD at e
 split at e
 . obtain ⟨bs, hb, rfl⟩ := mpd e;cases r with
   | cons r rn =>
     cases rn;obtain⟨a,xs,rfl,hs,rs⟩:=r.seqL;refine⟨a,bs,rfl,?_,q _ H (Same.refl _) (.bl _)⟩;rw[<- MV rs hb];exact hs
 . cases e
theorem IJ{p pos:Pos}{e:Expr}{g:FA}(hc:X.calm=true)(hm:X.mg "all" = none)(ha:PAv X [e] g)(hg:Gl X "all":=by rfl)(he:aJ [e] X.env=[(false,cC e X.env)]:=by rfl) :
  PV X (.Call (.Name "all" p) [e] [] pos) (callB allD g):=xZ (RA hc) cs_all hm (by decide +kernel) ha hg (by decide) (by decide) he rfl
theorem xX{K:Frag}{H:Hp}{O:aB->Prop}:∀{xs:List V} {l:List D} {bs:List Str},Reps K H O xs l->strsD l=some bs->xs=bs.map V.str
 |_,_,_,.nil,e=>by cases e;rfl
 | _, _, bs, .cons (d := d) h t, e => by
   cases d with
   | str b =>
     rename_i ds;simp only[strsD] at e;obtain⟨r,hr,rfl⟩:=mpd e;cases h;rw[xX t hr];rfl
   |_=>cases e
theorem pv_join{o e:Expr}{apos cpos:Pos}{f g:FE}(ho:PVw X o f)(he:PVw X e g)(hbase:dH o "join" X.env (cC o X.env)=cC o X.env:=by rfl)(hfew:((cY cpos (aJ [e] X.env)).all (fun x=>!x.1)&&(lY cpos (gD [] X.env)).all (fun x=>x.1.isSome)
    && decide ([e].length+([]:List iM).length+(if ([]:List iM).isEmpty then 0 else 1)<30))=true:=by rfl)(hline:(apos.endLine==cpos.line)=true:=by rfl)(hs:aJ [e] X.env=(false,cC e X.env)::aJ [] X.env:=by rfl) :
  PV X (.Call (.Attribute o "join" apos) [e] [] cpos) (zF joinD f g):=by
 obtain⟨to,po,ho⟩:=ho;obtain⟨te,pe,he⟩:=he;refine⟨_,LP PySem.F.plainAttrs_str PySem.F.slot_str_join PySem.F.type_str_join mt_join po (qW pe jT hs) hbase hfew hline hs rfl,fun H₀ H O σ ds hd d Q o e q=>?_⟩;unfold zF at e;obtain⟨dx,h1,e⟩:=bnd e;obtain⟨dy,h2,e⟩:=bnd e;cases dx with
 | str z =>
   cases dy with
   | lst l =>
     simp only[joinD] at e;obtain⟨ts,h3,e⟩:=bnd e
     split at e
     . rename_i hc;cases e;refine ho H₀ H O σ ds hd _ _ o h1 fun x H1 s1 r1=>?_;rw[r1.str'];refine⟨rfl,?_⟩;refine he H₀ H1 O σ ds hd _ _ (o.mono s1) h2 fun y H2 s2 r2=>?_;obtain⟨a,xs,rfl,hs,rs⟩:=r2.seqL;refine⟨z,a,ts,rfl,rfl,?_,hc.1,hc.2,q _ H2 (s1.trans s2) (.str _)⟩;rw[<- xX rs h3];exact hs
     . cases e
   |_=>simp[joinD] at e
 |_=>simp[joinD] at e
theorem wN{a:Expr}{pos:Pos}{f:FE}(ha:PV X a f):PV X (.UnaryOp .USub a pos) (un1 negD f):=by
 obtain⟨ta,pa,ha⟩:=ha;refine⟨_,pe_un un_neg pa,fun H₀ H O σ ds hd d Q o e q=>?_⟩;unfold un1 at e;obtain⟨dx,h1,e⟩:=bnd e;cases dx with
 | int i =>
   cases e;refine ha H₀ H O σ ds hd _ _ o h1 fun x H1 s1 r1=>?_;cases r1;exact⟨i,rfl,q _ H1 s1 (.int _)⟩
 |_=>cases e
theorem os_inS:OpS X (fun x y H Q=>∃i j,x=.str i/\y=.str j/\Q (.bl (!(Builtin.Str.occurrences j i 0 j.length 1).isEmpty)) H) inS:=by
 intro H O x y dx dy d Q ho rx ry e q;cases dx<;>cases dy<;>first | (simp[inS] at e;done) | skip
 cases e;rw[rx.str',ry.str'];exact⟨_,_,rfl,rfl,q _ H (Same.refl _) (.bl _)⟩
variable(X) in
def PVd(e:Expr)(f:FE):Prop:=∃t,PE X e t/\∀H₀ H O σ ds hd d Q,Ok X.K H₀ H O σ ds hd->f ds=some d->(∀v H',Same H H'->Rep X.K H' (Old H) v d->Q v H')->t σ H Q
end
section
variable{X:Cx}
noncomputable def XW(sc scope:Scope)(N NY:List Str)(mp:List (Option Nat)):Bool :=
 scope.kind==.function&&scope.names.all (fun y=>y.2 != .cell)&&scope.names.all (fun y=>y.2 != .local||scope.names.lookup y.1==some .local)
 && scope.names.all (fun y=>y.2 != .free||(sc.names.lookup y.1==some .cell||sc.names.lookup y.1==some .free))&&mp.length==NY.length
 && (List.range NY.length).all (fun i=>match NY[i]?,mp[i]? with | some x,some (some j)=>N[j]?==some x&&scope.names.lookup x==some .free | _,_=>true)
theorem jN{scope:Scope}{NY:List Str}{mp:List (Option Nat)}(h:XW X.env.scope scope X.N NY mp=true):CompScope X scope NY mp:=by
 unfold XW at h;simp only[cG,mZ,beq_iff_eq] at h;obtain⟨⟨⟨⟨⟨h1,h2⟩,h3⟩,h4⟩,h5⟩,h6⟩:=h;refine⟨h1,fun y hy=>by simpa using h2 y hy,fun y hy hk=>?_,fun y hy hk=>?_,h5,fun i x j e1 e2=>?_⟩
 . have := h3 y hy;simpa[hk] using this
 . have := h4 y hy;simp only[hk,bne_self_eq_false,Bool.false_or,Bool.or_eq_true,beq_iff_eq] at this;exact this
 . have hi : i ∈ List.range NY.length := oB.mpr (bF.mp e1).1;have:=h6 i hi;rw[e1,e2] at this;simpa using this
end
theorem qC{g:FS}{n:Nat}{ds:List D}{r:Ret}(e:runG g n ds=some r):Does g n ds r:=by
 unfold runG at e;cases h:g (args n ds) with
 |none=>rw[h] at e;cases e
 | some o =>
   rw[h] at e;cases o with
   |rt r'=>cases e;exact .inl h
   |nx ds'=>cases e;exact .inr ⟨rfl,ds',h⟩
   |bk ds'=>cases e
   |ct ds'=>cases e
end FL
namespace L2
open PySem PySem.Spec PyProof.Rows
section
variable{X:Cx}
theorem op_mulB:OpR X (kW .Mult) (rI eV fun i j=>.int (i*j)):=opI fun _ _ _ _ _ _ _ hc q=>mul_int q hc
theorem op_powB:OpR X (kW .Pow) (rI FL.CPowB fun i j=>.int (i ^ j.toNat)):=opI fun _ _ _ _ _ _ _ hc q=>pow_int hc.1 hc.2 q
noncomputable def rCatS(K:aL):R2:=fun x y H Q=>∃l b xs zs,x=.ref l/\y=.ref b/\SqL K H l xs/\SqL K H b zs/\xs.length+zs.length<=sizeLine/\∀p,H p=none->Q (.ref p) (upd H p (.lst (xs++zs)))
theorem op_catS:OpR X (kW .Add) (rCatS X.K):=by
 intro aE s σ H x y v u Q I rx ry h;obtain⟨l,b,xs,zs,rfl,rfl,hH,hB,hz,q⟩:=h;cases rx;cases ry;obtain⟨its,r,pl,z⟩:=I.list hH;obtain⟨its2,r2,pl2,z2⟩:=I.list hB;obtain⟨⟨cls,dd,data,sl⟩,ho,hc,n,hd⟩:=pl.isList;obtain⟨⟨cls2,dd2,data2,sl2⟩,ho2,hc2,n2,hd2⟩:=pl2.isList;simp only at hc hd hc2 hd2;subst hc hd hc2 hd2;have hl:=r.length;have hl2:=r2.length;refine concat_meets ⟨_,ho,rfl⟩ ⟨_,ho2,rfl⟩ noFill_list_add seq_list_add PySem.F.slot_list_add PySem.F.entry_list_add (PySem.F.args_list_add_2 _ _) (list_addW l b its.toArray its2.toArray n n2 dd dd2 sl sl2 (by simp only[aU];omega)) ⟨ho,ho2,?_⟩;have ea:its.toArray++its2.toArray=(its++its2).toArray:=by simp
 rw[ea];exact⟨.ref _,_,I.lnew (t':=s.toks) (r.append r2) (by rw[cA];omega),rfl,q _ I.fresh⟩
end
end L2
namespace FL
open PySem PySem.Spec PyProof.Rows L2
section
variable{X:Cx}
variable(X) in
def PVn(e:Expr)(f:FE):Prop:=∃t,PE X e t/\∀H₀ H O σ ds hd d Q,Ok X.K H₀ H O σ ds hd->f ds=some d->(∀v H',Same H H'->Rep X.K H' yF v d->Q v H')->t σ H Q
variable(X) in
def PAn(es:List Expr)(f:FA):Prop:=∃t,PA X es t/\∀H₀ H O σ ds hd l Q,Ok X.K H₀ H O σ ds hd->f ds=some l->(∀vs H',Same H H'->Reps X.K H' yF vs l->Q vs H')->t σ H Q
theorem PVw.n{e:Expr}{f:FE}(h:PVw X e f):PVn X e f:=by
 obtain⟨t,ht,hf⟩:=h;exact⟨t,ht,fun H₀ H O σ ds hd d Q o e q=>hf H₀ H O σ ds hd d Q o e fun v H' s r=>q v H' s r.any⟩
theorem PV.n{e:Expr}{f:FE}(h:PV X e f):PVn X e f:=h.w.n
theorem zS:PAn X [] qA:=⟨_,jT,fun _ H _ _ _ _ _ _ _ e q=>by cases e;exact q _ H (Same.refl _) .nil⟩
theorem zG{e:Expr}{es:List Expr}{f:FE}{g:FA}(ha:PVn X e f)(hr:PAn X es g)(hs:aJ (e::es) X.env=(false,cC e X.env)::aJ es X.env:=by rfl):PAn X (e::es) (zC f g):=by
 obtain⟨t,ht,hf⟩:=ha;obtain⟨u,hu,hg⟩:=hr;refine⟨_,qW ht hu hs,fun H₀ H O σ ds hd l Q o e q=>?_⟩;unfold zC at e;obtain⟨x,h,e⟩:=bnd e;obtain⟨r,h2,rfl⟩:=mpd e;refine hf H₀ H O σ ds hd x _ o h fun v H1 s1 r1=>?_;refine hg H₀ H1 O σ ds hd r _ (o.mono s1) h2 fun vs H2 s2 r2=>?_;exact q _ H2 (s1.trans s2) (.cons (r1.mono s2) r2)
section
variable{k:Nat}{f:aB}{fd:bN}{ps:List Str}{n:Nat}{F:List D->Option Ret}{x:Str}{p pos:Pos}{e:Expr}{es:List Expr}{g:FA}
theorem UD(Fn:FnOk X.prog X.w X.K X.mg X.base CX0 k f fd ps (spF X.K n F))(hr:Room k X.A)(hm:X.mg x=some (.ref f))(hk:cE X.K (.ref f)=true)(hb:Binds X.K fd ps [])(ha:PAn X (e::es) g)(hg:Gl X x:=by rfl)(hdb:(x==("__debug__" : Str))=false:=by decide)(he:aJ (e::es) X.env=(false,cC e X.env)::aJ es X.env:=by rfl)(hpl:(cY pos (aJ es X.env)).any (·.1)=false:=by rfl) :
  PV X (.Call (.Name x p) (e::es) [] pos) (jE n F g):=by
 obtain⟨t,ht,hf⟩:=ha;refine⟨_,CQ (CX:=CX0) (E:=E0) Fn hr hg hm hk hb .nil pass0 ht hdb he hpl,fun H₀ H O σ ds hd d Q o e q=>?_⟩;unfold jE at e;obtain⟨l,h,e⟩:=bnd e
 split at e
 . rename_i hln;obtain⟨r,h2,e⟩:=bnd e;refine hf H₀ H O σ ds hd l _ o h fun vs H1 s1 r1=>?_;have hl:=r1.length;refine⟨by simp only[fC];omega,l,r,by simpa using r1,h2,fun v H' s' ro=>q v H' (s1.trans s') ?_⟩;exact KS ro e fun a ha=>(o.mono s1).old ha
 . cases e
theorem OC(Fn:FnOk X.prog X.w X.K X.mg X.base CX0 k f fd ps (spF X.K n F))(hr:Room k X.A)(hm:X.mg x=some (.ref f))(hk:cE X.K (.ref f)=true)(hb:Binds X.K fd ps [])(ha:PAn X (e::es) g)(hg:Gl X x:=by rfl)(hdb:(x==("__debug__" : Str))=false:=by decide)(he:aJ (e::es) X.env=(false,cC e X.env)::aJ es X.env:=by rfl)(hpl:(cY pos (aJ es X.env)).any (·.1)=false:=by rfl) :
  PVf X (.Call (.Name x p) (e::es) [] pos) (vB n F g):=by
 obtain⟨t,ht,hf⟩:=ha;refine⟨_,CQ (CX:=CX0) (E:=E0) Fn hr hg hm hk hb .nil pass0 ht hdb he hpl,fun H₀ H O σ ds hd d Q o e q=>?_⟩;unfold vB at e;obtain⟨l,h,e⟩:=bnd e
 split at e
 . rename_i hln;obtain⟨r,h2,e⟩:=bnd e;refine hf H₀ H O σ ds hd l _ o h fun vs H1 s1 r1=>?_;have hl:=r1.length;refine⟨by simp only[fC];omega,l,r,by simpa using r1,h2,fun v H' s' ro=>?_⟩;obtain⟨a,xs,rfl,h3,h4,h5⟩:=ZV ro e fun a ha=>(o.mono s1).old ha;exact q a xs H' (s1.trans s') (s1.free h3) h4 h5
 . cases e
end
def OpN(X:Cx)(r:R2)(op:D->D->Option D):Prop:=∀H O x y dx dy d Q,Rep X.K H yF x dx->Rep X.K H yF y dy->op dx dy=some d->(∀v H',Same H H'->Rep X.K H' O v d->Q v H')->r x y H Q
theorem KW{r:R2}{op:D->D->Option D}(hs:OpN X r op){fa fb:FE}{ta tb:TE}(ha:∀H₀ H O σ ds hd d Q,Ok X.K H₀ H O σ ds hd->fa ds=some d->(∀v H',Same H H'->Rep X.K H' yF v d->Q v H')->ta σ H Q)(hb:∀H₀ H O σ ds hd d Q,Ok X.K H₀ H O σ ds hd->fb ds=some d->(∀v H',Same H H'->Rep X.K H' yF v d->Q v H')->tb σ H Q) :
  ∀H₀ H O σ ds hd d Q,Ok X.K H₀ H O σ ds hd->zF op fa fb ds=some d->(∀v H',Same H H'->Rep X.K H' O v d->Q v H')->tOp r ta tb σ H Q:=by
 intro H₀ H O σ ds hd d Q o e q;unfold zF at e;obtain⟨dx,h1,e⟩:=bnd e;obtain⟨dy,h2,e⟩:=bnd e;refine ha H₀ H O σ ds hd dx _ o h1 fun x H1 s1 r1=>?_;refine hb H₀ H1 O σ ds hd dy _ (o.mono s1) h2 fun y H2 s2 r2=>?_;exact hs H2 O x y dx dy d Q (r1.mono s2) r2 e fun v H' s r=>q v H' ((s1.trans s2).trans s) r
theorem CK{op:BW}{r:R2}{opD:D->D->Option D}{a b:Expr}{fa fb:FE}{pos:Pos}(ho:OpR X (eE op) r)(hs:OpN X r opD)(ha:PVn X a fa)(hb:PVn X b fb)(hm:dG op b=false):PV X (.Compare a [op] [b] pos) (zF opD fa fb):=by
 obtain⟨ta,pa,ha⟩:=ha;obtain⟨tb,pb,hb⟩:=hb;exact⟨_,LO ho pa pb hm,KW hs ha hb⟩
theorem wQ{op:BW}{r:R2}{opD:D->D->Option D}{a b:Expr}{fa fb:FE}{pos:Pos}(ho:OpR X (eE op) r)(hs:OpN X r opD)(ha:PVn X a fa)(hb:PVn X b fb)(hm:dG op b=false):PTv X (.Compare a [op] [b] pos) (zV (zF opD fa fb)):=by
 obtain⟨ta,pa,ha⟩:=ha;obtain⟨tb,pb,hb⟩:=hb;refine⟨_,LG ho pa pb hm,fun H₀ H O σ ds hd k Q o e q=>?_⟩;unfold zV at e;obtain⟨d,h,e⟩:=bnd e;refine KW hs ha hb H₀ H O σ ds hd d _ o h fun v H' s r=>?_;cases d with
 |bl c=>cases e;cases r;exact⟨_,rfl,q H' s⟩
 |_=>cases e
mutual
theorem Rep.reads{aE:List (aB×Obj)}{σ : L2.St}{H:Hp}{s:aC}{O:aB->Prop}(I:Inv X aE σ H s):∀{v:V} {d:D},Rep X.K H O v d->∀{u:aA} {n:Nat},RelV v u->shal n d=true->∃as,Reads s.heap u (toPy d) as/\(toPy d).canLay0=true/\(toPy d).depth<=n+1
 |_,_,.non=>fun r _=>by cases r;exact⟨[],.none,rfl,bY _⟩
 |_,_,.bl b=>fun r _=>by cases r;exact⟨[],.bool b,rfl,bY _⟩
 |_,_,.int i=>fun r _=>by obtain⟨t,rfl⟩:=r;exact⟨[],.int i t,rfl,bY _⟩
 |_,_,.str x=>fun r h=>by obtain⟨t,rfl⟩:=r;exact⟨[],.str x t,by simpa[toPy,PyData.canLay0,shal] using h,bY _⟩
 | _, _, .tup m h q => fun r hs => by
   cases r;obtain⟨its,rv,⟨o,ho,hc,k,hd⟩,hz⟩:=I.tuple (.inl h);obtain⟨as,h1,h2,h3⟩:=Reps.reads I q rv (by simpa[shal] using hs);exact⟨as,.tuple ho hc hd (by simpa using h1),by simpa[toPy,PyData.canLay0] using h2,by simpa[toPy,PyData.depth] using h3⟩
 | _, _, .tupK h q => fun r hs => by
   cases r;obtain⟨its,rv,⟨o,ho,hc,k,hd⟩,hz⟩:=I.tuple (.inr h);obtain⟨as,h1,h2,h3⟩:=Reps.reads I q rv (by simpa[shal] using hs);exact⟨as,.tuple ho hc hd (by simpa using h1),by simpa[toPy,PyData.canLay0] using h2,by simpa[toPy,PyData.depth] using h3⟩
 | _, _, .lst m h q => fun r hs => by
   cases r;obtain⟨its,rv,pl,hz⟩:=I.list (.inl h);obtain⟨o,ho,hc,k,hd⟩:=pl.isList;obtain⟨as,h1,h2,h3⟩:=Reps.reads I q rv (by simpa[shal] using hs);exact⟨_,.list ho hc hd (by simpa using h1),by simpa[toPy,PyData.canLay0] using h2,by simpa[toPy,PyData.depth] using h3⟩
 | _, _, .lstK h q => fun r hs => by
   cases r;obtain⟨its,rv,pl,hz⟩:=I.list (.inr h);obtain⟨o,ho,hc,k,hd⟩:=pl.isList;obtain⟨as,h1,h2,h3⟩:=Reps.reads I q rv (by simpa[shal] using hs);exact⟨_,.list ho hc hd (by simpa using h1),by simpa[toPy,PyData.canLay0] using h2,by simpa[toPy,PyData.depth] using h3⟩
 |_,_,.dct _ _ _ _=>fun _ hs=>by simp[shal] at hs
 |_,_,.dcf _ _ _ _=>fun _ hs=>by simp[shal] at hs
 |_,_,.ins _ _ _ _ _=>fun _ hs=>by simp[shal] at hs
 |_,_,.clo _ _ _ _ _ _=>fun _ hs=>by simp[shal] at hs
 |_,_,.fnK _=>fun _ hs=>by simp[shal] at hs
theorem Reps.reads{aE:List (aB×Obj)}{σ : L2.St}{H:Hp}{s:aC}{O:aB->Prop}(I:Inv X aE σ H s):∀{vs:List V} {ds:List D},Reps X.K H O vs ds->∀{us:List aA} {n:Nat},Vals vs us->shals n ds=true->∃as,ReadsAll s.heap us (toPys ds) as/\PyData.canLayAll0 (toPys ds)=true/\PyData.depthAll (toPys ds)<=n
 |_,_,.nil=>fun r _=>by cases r;exact⟨[],.nil,rfl,bY _⟩
 | _, _, .cons h t => fun r hs => by
   rename Nat=>n
   cases n with
   |zero=>simp[shals] at hs
   |succ n =>
    cases r with
    |cons r1 r2 =>
     simp only[shals,cG] at hs;obtain⟨as,h1,h2,h3⟩:=Rep.reads I h r1 hs.1;obtain⟨bs,k1,k2,k3⟩:=Reps.reads I t r2 hs.2;exact⟨_,.cons h1 k1,by simp[toPys,PyData.canLayAll0,h2,k2],by simp only[toPys,PyData.depthAll];omega⟩
end
noncomputable def rEqD(X:Cx)(neg:Bool):R2:=fun x y H Q=>∃dx dy,Rep X.K H yF x dx/\Rep X.K H yF y dy/\shal 40 dx=true/\shal 40 dy=true/\Q (.bl (if neg then !eqvD dx dy else eqvD dx dy)) H
theorem VG(hu:X.A.units+100<cLine):OpR X (eE .Eq) (rEqD X false):=by
 intro aE s σ H x y v u Q I rx ry h;obtain⟨dx,dy,r1,r2,s1,s2,q⟩:=h;obtain⟨as,a1,a2,a3⟩:=r1.reads I rx s1;obtain⟨bs,b1,b2,b3⟩:=r2.reads I ry s2;exact SeqAt.compareEq_reads a1 b1 a2 b2 (by omega) ⟨.bl _,H,I,rfl,q⟩
theorem op_neD(hu:X.A.units+100<cLine):OpR X (eE .NotEq) (rEqD X true):=by
 intro aE s σ H x y v u Q I rx ry h;obtain⟨dx,dy,r1,r2,s1,s2,q⟩:=h;obtain⟨as,a1,a2,a3⟩:=r1.reads I rx s1;obtain⟨bs,b1,b2,b3⟩:=r2.reads I ry s2;exact SeqAt.compareNe_reads a1 b1 a2 b2 (by omega) ⟨.bl _,H,I,rfl,q⟩
theorem VI:OpN X (rEqD X false) eqD:=by
 intro H O x y dx dy d Q rx ry e q;unfold eqD at e
 split at e
 . rename_i hs;cases e;exact⟨dx,dy,rx,ry,hs.1,hs.2,q _ H (Same.refl _) (.bl _)⟩
 . cases e
theorem on_neD:OpN X (rEqD X true) neD:=by
 intro H O x y dx dy d Q rx ry e q;unfold neD at e
 split at e
 . rename_i hs;cases e;exact⟨dx,dy,rx,ry,hs.1,hs.2,q _ H (Same.refl _) (.bl _)⟩
 . cases e
theorem hu100{k:Nat}{A:bT}(hr:Room k A):A.units+100<cLine:=by have:=hr.un;omega
theorem pv_eq{a b:Expr}{fa fb:FE}{pos:Pos}{k:Nat}(hr:Room k X.A)(ha:PVn X a fa)(hb:PVn X b fb):PV X (.Compare a [.Eq] [b] pos) (zF eqD fa fb):=CK (VG (hu100 hr)) VI ha hb (lD _)
theorem kI{a b:Expr}{fa fb:FE}{pos:Pos}{k:Nat}(hr:Room k X.A)(ha:PVn X a fa)(hb:PVn X b fb):PTv X (.Compare a [.Eq] [b] pos) (zV (zF eqD fa fb)):=wQ (VG (hu100 hr)) VI ha hb (lD _)
theorem UK{a b:Expr}{fa fb:FE}{pos:Pos}{k:Nat}(hr:Room k X.A)(ha:PVn X a fa)(hb:PVn X b fb):PTv X (.Compare a [.NotEq] [b] pos) (zV (zF neD fa fb)):=wQ (op_neD (hu100 hr)) on_neD ha hb (lD _)
theorem LU{K:Frag}{H:Hp}{O:aB->Prop}{v:V}{d:D}(r:Rep K H O v d):decide (v=.non)=(match d with | .non=>true | _=>false):=by
 cases r<;>rfl
theorem on_is:OpN X (fun x y H Q=>y=.non/\Q (.bl (decide (x=.non))) H) isD:=by
 intro H O x y dx dy d Q rx ry e q;cases dy<;>first | (cases dx<;>simp[isD] at e;done) | skip
 cases ry;refine⟨rfl,?_⟩;rw[LU rx];cases dx<;>(simp only[isD,Option.some.injEq] at e;subst e;exact q _ H (Same.refl _) (.bl _))
theorem VH:OpN X (fun x y H Q=>y=.non/\Q (.bl (!decide (x=.non))) H) notD:=by
 intro H O x y dx dy d Q rx ry e q;cases dy<;>first | (cases dx<;>simp[notD] at e;done) | skip
 cases ry;refine⟨rfl,?_⟩;rw[LU rx];cases dx<;>(simp only[notD,Option.some.injEq] at e;subst e;exact q _ H (Same.refl _) (.bl _))
theorem LA{a b:Expr}{fa fb:FE}{pos:Pos}(ha:PVn X a fa)(hb:PVn X b fb):PV X (.Compare a [.Is] [b] pos) (zF isD fa fb):=CK VE on_is ha hb (lD _)
theorem EQ{a b:Expr}{fa fb:FE}{pos:Pos}(ha:PVn X a fa)(hb:PVn X b fb):PV X (.Compare a [.IsNot] [b] pos) (zF notD fa fb):=CK LS VH ha hb (lD _)
theorem EV{a b:Expr}{fa fb:FE}{pos:Pos}(ha:PVn X a fa)(hb:PVn X b fb):PTv X (.Compare a [.Is] [b] pos) (zV (zF isD fa fb)):=wQ VE on_is ha hb (lD _)
theorem yW{a b:Expr}{fa fb:FE}{pos:Pos}(ha:PVn X a fa)(hb:PVn X b fb):PTv X (.Compare a [.IsNot] [b] pos) (zV (zF notD fa fb)):=wQ LS VH ha hb (lD _)
theorem vY{K:Frag}{H:Hp}{O:aB->Prop}{v:V}{d:D}(r:Rep K H O v d)(h:sclD d=true):flatV v=true:=by
 cases r<;>first | rfl | (simp[sclD] at h;done)
theorem scl_eq{K:Frag}{H:Hp}{O O':aB->Prop}{v v':V}{d d':D}(r:Rep K H O v d)(h:sclD d=true)(r':Rep K H O' v' d')(h':sclD d'=true):eqV v v'=eqvD d d':=by
 cases r<;>first | (simp[sclD] at h;done) | skip
 all_goals (cases r'<;>first | (simp[sclD] at h';done) | rfl)
theorem kJ{K:Frag}{H:Hp}{O O':aB->Prop}{x:V}{dx:D}(rx:Rep K H O' x dx)(hx:sclD dx=true):∀{xs:List V} {l:List D},Reps K H O xs l->l.all sclD=true->xs.all flatV=true/\inV x xs=l.any fun z=>eqvD z dx
 |_,_,.nil,_=>⟨rfl,rfl⟩
 | _, _, .cons r t, h => by
   rw[pM,cG] at h;obtain⟨h1,h2⟩:=kJ rx hx t h.2;refine⟨by rw[pM,vY r h.1,h1];rfl,?_⟩;unfold inV at h2 ⊢;rw[gA,gA,h2,scl_eq r h.1 rx hx]
theorem on_in{neg:Bool}: OpN X (rIn X.K neg) (inD neg):=by
 intro H O x y dx dy d Q rx ry e q;unfold inD at e;obtain⟨l,hl,e⟩:=bnd e
 split at e
 . rename_i hs;cases e;cases dy with
   | lst l' =>
     cases hl;obtain⟨a,xs,rfl,hq,rs⟩:=WRep.seqL (.inl ry);obtain⟨h1,h2⟩:=kJ rx hs.1 rs hs.2;refine⟨a,xs,rfl,.inl hq,vY rx hs.1,h1,?_⟩;rw[h2];exact q _ H (Same.refl _) (.bl _)
   | tup l' =>
     cases hl;obtain⟨a,xs,rfl,hq,rs⟩:=WRep.seqT (.inl ry);obtain⟨h1,h2⟩:=kJ rx hs.1 rs hs.2;refine⟨a,xs,rfl,.inr hq,vY rx hs.1,h1,?_⟩;rw[h2];exact q _ H (Same.refl _) (.bl _)
   |_=>cases hl
 . cases e
theorem pt_in{a b:Expr}{fa fb:FE}{pos:Pos}(ha:PVn X a fa)(hb:PVn X b fb)(hm:dG .In b=false:=by rfl):PTv X (.Compare a [.In] [b] pos) (zV (zF (inD false) fa fb)):=wQ OO on_in ha hb hm
theorem os_mul:OpS X (rI eV fun i j=>.int (i*j)) yS:=by
 intro H O x y dx dy d Q ho rx ry e q;cases dx<;>cases dy<;>first | (simp[yS] at e;done) | skip
 simp only[yS] at e
 split at e
 . rename_i hc;cases e;rw[rx.int',ry.int'];exact⟨_,_,rfl,rfl,hc,q _ H (Same.refl _) (.int _)⟩
 . cases e
theorem os_pow:OpS X (rI CPowB fun i j=>.int (i ^ j.toNat)) powD:=by
 intro H O x y dx dy d Q ho rx ry e q;cases dx<;>cases dy<;>first | (simp[powD] at e;done) | skip
 simp only[powD] at e
 split at e
 . rename_i hc;cases e;rw[rx.int',ry.int'];exact⟨_,_,rfl,rfl,hc,q _ H (Same.refl _) (.int _)⟩
 . cases e
theorem ZZ{a b:Expr}{fa fb:FE}{pos:Pos}(ha:PVw X a fa)(hb:PVw X b fb):PVf X (.BinOp a .Add b pos) (catA fa fb):=by
 obtain⟨ta,pa,ha⟩:=ha;obtain⟨tb,pb,hb⟩:=hb;refine⟨_,pe_op op_catS pa pb,fun H₀ H O σ ds hd l Q o e q=>?_⟩;unfold catA at e;obtain⟨dx,h1,e⟩:=bnd e;obtain⟨dy,h2,e⟩:=bnd e;cases dx<;>cases dy<;>first | (simp at e;done) | skip
 simp only at e
 split at e
 . rename_i hz;cases e;refine ha H₀ H O σ ds hd _ _ o h1 fun x H1 s1 r1=>?_;refine hb H₀ H1 O σ ds hd _ _ (o.mono s1) h2 fun y H2 s2 r2=>?_;obtain⟨a1,xs,rfl,hq1,rs1⟩:=(r1.mono s2).seqL;obtain⟨a2,ys,rfl,hq2,rs2⟩:=r2.seqL;refine⟨a1,a2,xs,ys,rfl,rfl,hq1,hq2,by rw[rs1.length,rs2.length];exact hz,fun p hp=>?_⟩;refine q p _ _ ((s1.trans s2).trans (zX hp _)) ((s1.trans s2).free hp) zK ?_;exact((rs1.append rs2).more hp).mono (zX hp _)
 . cases e
variable(X) in
def POv(e:Option Expr)(f:List Sl->Option (Option Int)):Prop:=∃t,PO X e t/\∀H₀ H O σ ds hd i Q,Ok X.K H₀ H O σ ds hd->f ds=some i->(∀H',Same H H'->Q i H')->t σ H Q
theorem UP{e:Expr}{f:FE}(h:PVw X e f):POv X (some e) (soP f):=by
 obtain⟨t,ht,hf⟩:=h;refine⟨_,po_some ht,fun H₀ H O σ ds hd i Q o e q=>?_⟩;unfold soP at e;obtain⟨d,h1,e⟩:=bnd e;cases d<;>first | (cases e;done) | skip
 cases e;refine hf H₀ H O σ ds hd _ _ o h1 fun v H' s r=>?_;rw[r.int'];exact⟨_,rfl,q H' s⟩
theorem XT{K:Frag}{H:Hp}{O:aB->Prop}{xs:List V}{l:List D}{a b:Option Int}(rs:Reps K H O xs l):Reps K H O (cutV xs a b) (cutD l a b):=by
 unfold cutV cutD;rw[rs.length];exact(rs.drop _).take _
theorem OA{e:Expr}{lo hi:Option Expr}{f:FE}{gl gh:List Sl->Option (Option Int)}{p2 pos:Pos}(he:PVw X e f)(hl:POv X lo gl)(hh:POv X hi gh):PVf X (.Subscript e (.Slice lo hi none p2) pos) (sliA f gl gh):=by
 obtain⟨te,pe,he⟩:=he;obtain⟨tl,pl,hl⟩:=hl;obtain⟨th,ph,hh⟩:=hh;refine⟨_,UU ZN pe pl ph,fun H₀ H O σ ds hd l Q o e q=>?_⟩;unfold sliA at e;obtain⟨d,h1,e⟩:=bnd e;obtain⟨a,h2,e⟩:=bnd e;obtain⟨b,h3,e⟩:=bnd e;cases d<;>first | (cases e;done) | skip
 cases e;refine he H₀ H O σ ds hd _ _ o h1 fun v H1 s1 r1=>?_;refine hl H₀ H1 O σ ds hd _ _ (o.mono s1) h2 fun H2 s2=>?_;refine hh H₀ H2 O σ ds hd _ _ ((o.mono s1).mono s2) h3 fun H3 s3=>?_;obtain⟨a1,xs,rfl,hq,rs⟩:=((r1.mono s2).mono s3).seqL;refine⟨a1,xs,rfl,hq,fun p hp=>?_⟩;have ss:=(s1.trans s2).trans s3;refine q p _ _ (ss.trans (zX hp _)) (ss.free hp) zK ?_;exact((XT rs).more hp).mono (zX hp _)
theorem EO{e:Expr}{f:FE}{p pos:Pos}(hm:X.mg "list" = none)(he:PVw X e f)(hg:Gl X "list":=by rfl)(hs:aJ [e] X.env=[(false,cC e X.env)]:=by rfl):PVf X (.Call (.Name "list" p) [e] [] pos) (lisA f):=by
 obtain⟨te,pe,he⟩:=he;refine⟨_,AU DG hg hm (by decide +kernel) (qW pe jT hs) (by decide) (by decide) hs rfl,fun H₀ H O σ ds hd l Q o e q=>?_⟩;unfold lisA at e;obtain⟨d,h1,e⟩:=bnd e;refine he H₀ H O σ ds hd _ _ o h1 fun v H1 s1 r1=>?_;cases d<;>first | (cases e;done) | skip
 . cases e;obtain⟨a1,xs,rfl,hq,rs⟩:=r1.seqT;refine⟨a1,xs,rfl,.inr hq,fun p hp=>?_⟩;exact q p _ _ (s1.trans (zX hp _)) (s1.free hp) zK ((rs.more hp).mono (zX hp _))
 . cases e;obtain⟨a1,xs,rfl,hq,rs⟩:=r1.seqL;refine⟨a1,xs,rfl,.inl hq,fun p hp=>?_⟩;exact q p _ _ (s1.trans (zX hp _)) (s1.free hp) zK ((rs.more hp).mono (zX hp _))
theorem cs_max:CallS X (fun xs H Q=>∃i j,xs=[.int i,.int j]/\Q (.int (if j>i then j else i)) H) mxD:=by
 intro H O vs l d Q ho r e q;unfold mxD at e
 split at e
 . cases e;cases r with
   | cons r1 rn =>
     cases rn with
     | cons r2 rm =>
       cases rm;exact⟨_,_,by rw[r1.int',r2.int'],q _ H (Same.refl _) (.int _)⟩
 . cases e
theorem cs_min:CallS X (fun xs H Q=>∃i j,xs=[.int i,.int j]/\Q (.int (if j<i then j else i)) H) mnD:=by
 intro H O vs l d Q ho r e q;unfold mnD at e
 split at e
 . cases e;cases r with
   | cons r1 rn =>
     cases rn with
     | cons r2 rm =>
       cases rm;exact⟨_,_,by rw[r1.int',r2.int'],q _ H (Same.refl _) (.int _)⟩
 . cases e
theorem KZ{p pos:Pos}{a b:Expr}{g:FA}(hc:X.calm=true)(hm:X.mg "max" = none)(ha:PAv X [a,b] g)(hg:Gl X "max":=by rfl)(he:aJ [a,b] X.env=(false,cC a X.env)::aJ [b] X.env:=by rfl)(hpl:(cY pos (aJ [b] X.env)).any (·.1)=false:=by rfl) :
  PV X (.Call (.Name "max" p) [a,b] [] pos) (callB mxD g):=xZ (QX hc) cs_max hm (by decide +kernel) ha hg (by decide) (by decide) he hpl
theorem CH{p pos:Pos}{a b:Expr}{g:FA}(hc:X.calm=true)(hm:X.mg "min" = none)(ha:PAv X [a,b] g)(hg:Gl X "min":=by rfl)(he:aJ [a,b] X.env=(false,cC a X.env)::aJ [b] X.env:=by rfl)(hpl:(cY pos (aJ [b] X.env)).any (·.1)=false:=by rfl) :
  PV X (.Call (.Name "min" p) [a,b] [] pos) (callB mnD g):=xZ (QW hc) cs_min hm (by decide +kernel) ha hg (by decide) (by decide) he hpl
theorem rZ{α β : Type}{xs:List α}{ys:List β}(h:xs.length=ys.length):xs.isEmpty=ys.isEmpty:=by
 cases xs<;>cases ys<;>simp_all
theorem PVn.t{e:Expr}{f:FE}(h:PVn X e f)(he:∀whole,AB e X.env whole=(do let v <- whole;oK e.pos;gX [v] (truthy v)):=by intro _;rfl):PTv X e (testT f):=by
 obtain⟨t,ht,hf⟩:=h;refine⟨_,UJ ht he,fun H₀ H O σ ds hd k Q o e q=>?_⟩;unfold testT at e;obtain⟨d,h,e⟩:=bnd e;refine hf H₀ H O σ ds hd d _ o h fun v H' s r=>⟨k,?_,q H' s⟩
 cases d with
 |non=>cases e;cases r;exact rfl
 |bl b=>cases e;cases r;exact rfl
 |int i=>cases e;cases r;exact rfl
 | str x =>
   simp only[truD] at e
   split at e
   . rename_i hz;cases e;cases r;exact⟨hz,rfl⟩
   . cases e
 | tup l =>
   cases e;obtain⟨a,xs,rfl,hq,rs⟩:=WRep.seqT (.inl r);exact .inr (.inl ⟨xs,hq,by rw[rZ rs.length]⟩)
 | lst l =>
   cases e;obtain⟨a,xs,rfl,hq,rs⟩:=WRep.seqL (.inl r);exact .inl ⟨xs,hq,by rw[rZ rs.length]⟩
 |_=>cases e
theorem yY{st:Stmt}: PSv X st (fun _=>none):=⟨_,UO,fun _ _ _ _ _ _ _ _ _ e _=>by cases e⟩
theorem LH{i:Nat}{x:Str}{e:Expr}{pos p1 p2 p3:Pos}{fe:FA}(he:PVf X e fe)(hN:X.N[i]?=some x:=by rfl)(hv:Vis X.env.scope x:=by first | exact Or.inl rfl | exact Or.inr (Or.inl rfl) | exact Or.inr (Or.inr rfl))(hd:(x==("__debug__" : Str))=false:=by decide)(hcd:(x==("__classdict__" : Str))=false:=by decide)(hfew:((cY p3 (aJ [e] X.env)).all (fun x=>!x.1)&&(lY p3 (gD [] X.env)).all (fun x=>x.1.isSome)
    && decide ([e].length+([]:List iM).length+(if ([]:List iM).isEmpty then 0 else 1)<30))=true:=by rfl)(hline:(p2.endLine==p3.line)=true:=by rfl)(hs:aJ [e] X.env=(false,cC e X.env)::aJ [] X.env:=by rfl)(hbase:dH (.Name x p1) "extend" X.env (cC (.Name x p1) X.env)=cC (.Name x p1) X.env:=by rfl)(hsw:eQ (.Call (.Attribute (.Name x p1) "extend" p2) [e] [] p3) none pos.line X.env=pure false:=by rfl) :
  PSv X (.Expr (.Call (.Attribute (.Name x p1) "extend" p2) [e] [] p3) pos) (extG i fe):=by
 obtain⟨te,pe,he⟩:=he;refine⟨_,wM (LP iF PySem.F.slot_list_extend PySem.F.type_list_extend PH (xD hN hv hd hcd) (qW pe jT hs) hbase hfew hline hs rfl) hsw,fun H₀ H O σ ds hd out E o e h=>?_⟩;unfold extG at e;cases hsl:ds[i]? with
 |none=>rw[hsl] at e;cases e
 | some s =>
   rw[hsl] at e;cases s with
   |v d'=>cases e
   |no=>cases e
   |exc _=>cases e
   |fr _=>cases e
   |ob _ _=>cases e
   | own l =>
     simp only at e;obtain⟨d,h1,e⟩:=bnd e
     split at e
     . rename_i hl;cases e;obtain⟨a,xs,q1,q2,q3,q4⟩:=o.readO hsl;refine⟨.ref a,q1,.inl ⟨rfl,xs,SqL.of q3⟩,?_⟩;refine he H₀ H O σ ds hd d _ o h1 fun b ys H1 s1 hn hb r1=>?_;refine⟨a,b,xs,ys,rfl,rfl,s1 _ _ q3,hb,by rw[q4.length,r1.length];exact hl,?_⟩;exact h _ _ _ ((o.mono s1).modify hsl q1 ((q4.mono s1).append (r1.less fun a z=>.inr z)))
     . cases e
end
end FL
namespace L2
open PySem PySem.Spec PyProof.Rows
section
variable{X:Cx}
end
end L2
namespace Att
open PySem PySem.W PySem.Calls PyProof.Rows
theorem sC:∀{ns:List Int} {b:Nat},WData.weightAll (ns.map WData.int)<=b->∀c∈ns,Builtin.Int.intBits c<=b
 |[],_,_=>fun c hc=>by cases hc
 | n :: r, b, h => fun c hc => by
   simp only[bA,WData.weightAll,WData.weight] at h;rcases aF.mp hc with rfl | hc
   . unfold Builtin.Int.intBits;omega
   . exact sC (ns:=r) (b:=b) (by omega) c hc
theorem attach_callB{l:OpenLaw}{n:Nat}{q:aX}{loose:List Str}{XP:(Str->Option aA)->Heap->Prop}{YP:bW->Heap->Prop}{d:DefRec}(hn:l.most=some n)(hdf:d.params.defaults=[])(call:∀(w:bW) (s₀ s₁ : aC) (mg mb:Str->Option aA) (fa:aB) (o:Obj) (pm cd doc:aA) (a:aB) (vs:List aA) (ns:List Int),
    Ground q loose [] XP w s₀ mg mb s₁.heap->YP w s₁.heap →
    s₁.heap.get? fa=some o->o.data=.func (docDef d.name d.params d.body d.scope pm cd doc)->s₁.heap.CodeRec cd d.name->mg d.name=some (.ref fa) →
    s₁.heap.get? a=some { cls:=.type "list",data:=.seq vs.toArray }->dY vs ns->ns.length<=n->(∀c∈ns,Builtin.Int.intBits c<=1048576)->s₁.gens=#[] →
    gZ (aT l.prog w) uC (.call (.ref fa) ⟨[.ref a],[]⟩) (fun r s'=>r=.ok (.ret (.bool true))/\OldK s₁.heap s'.heap/\s'.os=s₁.os/\oR s'.gens) s₁) :
  WalkO q loose XP YP l.row.toRowW d [] (fun f vs=>PySem.call f vs):=by
 intro w s₀ s₁ mg mb G Y fa o pm cd doc dV kV ho hd hcd hD hmg hg args vals as hpre hlay hrd hwl hlo;obtain rfl:dV=.none:=Dflts.none hD hdf;obtain rfl:kV=.none:=Dflts.noKw hD;obtain⟨a,vs,ns,rfl,rfl,hobj,hints,hlen⟩:=NV hn hpre hwl
 have hb:∀c∈ns,Builtin.Int.intBits c<=1048576:=by
  have h1:=(layableW_iff.mp (layW_cons hlay).1).2.2;simp only[WData.weight] at h1;exact sC (cT h1 (by decide))
 refine enter_call (iK (call w s₀ s₁ mg mb fa o pm cd doc a vs ns G Y ho (fd_plain hd) hcd hmg hobj hints hlen hb hg) fun r s' hq=>?_);obtain⟨rfl,h2,h3,h4⟩:=hq;exact⟨.inl ⟨.bool true,.bool true,[],rfl,fun _=>rfl,.bool true,OI l _,fun _=>⟨List.Pairwise.nil,fun _ hm=>(nomatch hm)⟩⟩,h2,h3,h4⟩
end Att
namespace FL
open PySem PySem.Spec PyProof.Rows L2
noncomputable def HZ(K:Frag)(n:Nat):Sp:=fun vs H Q _=>∃(a:aB) (ns:List Int),vs=[.ref a]/\SqL K H a (ns.map V.int)/\ns.length<=n/\(∀c∈ns,Builtin.Int.intBits c<=1048576)/\∀H',Q (.bl true) H'
theorem law_ofB{P:aX}{w:bW}{K:Frag}{mg:Str->Option aA}{base:Heap}{k:Nat}{f:aB}{fd:bN}{x:Str}{n:Nat}{F:List D->Option Ret}(Fn:FnOk P w K mg base CX0 k f fd [x] (spF K 1 F))(h:∀ns:List Int,ns.length<=n->(∀c∈ns,Builtin.Int.intBits c<=1048576)->F [.lst (ns.map D.int)]=some (.val (.bl true))):FnOk P w K mg base CX0 k f fd [x] (HZ K n):=by
 refine Fn.imp fun vs H Q E hq=>?_;obtain⟨a,ns,rfl,hS,hl,hb,q⟩:=hq;refine⟨rfl,[.lst (ns.map D.int)],.val (.bl true),.cons ?_ .nil,h ns hl hb,fun v H' s r=>?_⟩
 . rcases hS with hS | hS
   . exact .lst (fun z=>z.elim) hS (Reps.ints ns)
   . exact .lstK hS (Reps.ints ns)
 . cases r;exact q H'
open PySem.W (tabIn CodeHd tabObj noTabs tab_of) in
inductive TabL(K:Frag)(q:aX):List Str->List (Str×aB×aB)->Prop
 |nil:TabL K q [] []
 |yes {x:Str} {xs:List Str} {c P:aB} {tl:List (Str×aB×aB)} (h:hG K x=some (c,P)) (r:((recsOf q).find? (fun e=>e.name==x)).isSome=true) (ap:(tl.all fun p=>p.2.2 != P)=true) (t:TabL K q xs tl):TabL K q (x::xs) ((x,c,P)::tl)
 |no {x:Str} {xs:List Str} {tl:List (Str×aB×aB)} (h:hG K x=none) (t:TabL K q xs tl):TabL K q (x::xs) tl
theorem tabL_no{K:Frag}{q:aX}{x:Str}{xs:List Str}{tl:List (Str×aB×aB)}(h:aY K aS x=some none)(t:TabL K q xs tl):TabL K q (x::xs) tl:=.no (by unfold hG;rw[h]) t
theorem tabL_yes{K:Frag}{q:aX}{x:Str}{xs:List Str}{c P f:aB}{fd:bN}{oc oc':aA}{od od':Option aB}{sl sl':Array (Option aA)}{vs:Array aA}{tl:List (Str×aB×aB)}(h1:aY K aS x=some (some (.ref f)))(h2:K.lookup f=some ⟨oc,od,.func fd,sl⟩)(h3:fd.code=.ref c)(h4:K.lookup c=some ⟨oc',od',.fields vs,sl'⟩)(h5:(vs[11]? : Option aA)=some (.ref P))(r:((recsOf q).find? (fun e=>e.name==x)).isSome=true)(t:TabL K q xs tl)(ap:(tl.all fun p=>p.2.2 != P)=true):TabL K q (x::xs) ((x,c,P)::tl):=
 .yes (by unfold hG;simp only[h1,h2,h3,h4,h5]) r ap t
section
variable{K:Frag}{q:aX}{xs:List Str}{tl:List (Str×aB×aB)}
theorem TabL.get(h:TabL K q xs tl):∀{x:Str} {c P:aB},x∈xs->hG K x=some (c,P)->(x,c,P)∈tl:=by
 induction h with
 |nil=>intro x c P hx;cases hx
 | yes h r ap t ih =>
   intro x c P hx ht;rcases aF.mp hx with e | e
   . subst e;rw[h] at ht;cases ht;exact bD
   . exact aQ _ (ih e ht)
 | no h t ih =>
   intro x c P hx ht;rcases aF.mp hx with e | e
   . subst e;rw[h] at ht;cases ht
   . exact ih e ht
theorem TabL.fact(h:TabL K q xs tl):∀p∈tl,hG K p.1=some (p.2.1,p.2.2)/\((recsOf q).find? (fun e=>e.name==p.1)).isSome=true:=by
 induction h with
 |nil=>intro p hp;cases hp
 | yes h r ap t ih =>
   intro p hp;rcases aF.mp hp with e | e
   . subst e;exact⟨h,r⟩
   . exact ih p e
 |no h t ih=>exact ih
noncomputable def tabH(K:Frag)(tl:List (Str×aB×aB)):Hp:=fun b=>(tl.find? fun p=>p.2.2==b).map fun p=>.tbl (pG K p.1)
theorem vW{b:aB}{u:HO}(e:tabH K tl b=some u):∃p∈tl,b=p.2.2/\u=.tbl (pG K p.1):=by
 unfold tabH at e;obtain⟨p,h,rfl⟩:=mpd e;exact⟨p,hV h,(beq_iff_eq.mp (nM (p:=fun p:Str×aB×aB=>p.2.2==b) h)).symm,rfl⟩
theorem TabL.at(h:TabL K q xs tl):∀p∈tl,tabH K tl p.2.2=some (.tbl (pG K p.1)):=by
 induction h with
 |nil=>intro p hp;cases hp
 | yes h r ap t ih =>
   intro p hp;rename_i x xs c P tl;unfold tabH;rcases aF.mp hp with e | e
   . subst e;simp
   . have:(P==p.2.2)=false:=by
      have:=mZ.mp ap p e;simp only[bne_iff_ne,ne_eq] at this;exact beq_eq_false_iff_ne.mpr (Ne.symm this)
     rw[eL,this];exact ih p e
 |no h t ih=>exact ih
end
theorem no_cls{K:Frag}{h:Heap}{b:aB}{o:Obj}{ps:Array aA}(X:K.In h)(hK:sP K=true)(e:K.lookup b=some o)(hb:h.get? b=some (sN ps)):False:=by
 have q:=X b o e;rw[hb] at q;cases q;have h2:=mZ.mp hK (b,_) (PySem.W.mem_of_lookupK e);exact absurd (show false=true from h2) cP
theorem PP{P:aX}{w:bW}{K:Frag}{q:aX}{loose:List Str}{mean:ExcName->Option aA}{mg mb:Str->Option aA}{k:Nat}{fa a:aB}{fd:bN}{x:Str}{sp:Sp}{s₁ : aC}{vs:List aA}{ns:List Int}{tl:List (Str×aB×aB)}(KX:K.In s₁.heap)(T:Top q loose mean mg mb s₁.heap)(hT:TabL K q makers tl)(hK:sP K=true)(hg:s₁.gens=#[])(ha:s₁.heap.get? a=some { cls:=.type "list",data:=.seq vs.toArray })(hi:dY vs ns)(hl:ns.length<=sizeLine)(hr:Room k uC)(F:∀base:Heap,K.In base->base.Ns aS mg->FnOk P w K mg base CX0 k fa fd [x] sp)(hbind:∀(s:aC) (u:aA),RL s fd ⟨[u],[]⟩ [(x,u)])(hsp:∀H:Hp,SqL K H a (ns.map V.int)->sp [.ref a] H (fun v _=>v=.bl true) fun _ _ _=>False) :
  gZ (aT P w) uC (.call (.ref fa) ⟨[.ref a],[]⟩) (fun r s'=>r=.ok (.ret (.bool true))/\OldK s₁.heap s'.heap/\s'.os=s₁.os/\oR s'.gens) s₁:=by
 have rv:=AL hi
 have tf:∀p∈tl,RJ s₁.heap p.2.1 p.2.2/\s₁.heap.get? p.2.2=some (sN #[]):=fun p hp=>by
  obtain⟨h1,h2⟩:=hT.fact p hp;obtain⟨d,hd⟩:=uL.mp h2;exact PySem.W.tab_of T KX hd h1
 have core:∀H:Hp,SqL K H a (ns.map V.int)->L2.HOk P w H s₁.heap->(∀b u,H b=some u->(b=a/\K.lookup a=none/\∃o xs,u=.frz o (.lst xs))\/∃p∈tl,b=p.2.2/\u=.tbl (pG K p.1))->(∀p∈tl,H p.2.2=some (.tbl (pG K p.1))) →
   gZ (aT P w) uC (.call (.ref fa) ⟨[.ref a],[]⟩) (fun r s'=>r=.ok (.ret (.bool true))/\OldK s₁.heap s'.heap/\s'.os=s₁.os/\oR s'.gens) s₁:=by
  intro H hS hok hA hP
  have free_of:∀{b:aB} {o:Obj},s₁.heap.get? b=some o->(∀its n,o.data≠.seq its n)->o.data≠.fields #[]->H b=none:=fun {b o} e n1 n2=>by
   cases qb:H b with
   |none=>rfl
   | some u =>
     rcases hA b u qb with⟨rfl,_,_⟩ | ⟨p,hp,rfl,_⟩
     . rw[ha] at e;cases e;exact(n1 _ _ rfl).elim
     . rw[(tf p hp).2] at e;cases e;exact(n2 rfl).elim
  have base_of:∀{b:aB} {o:Obj},s₁.heap.get? b=some o->(∀its n,o.data≠.seq its n)->o.data≠.fields #[]->(hidT s₁.heap H).get? b=some o:=fun e n1 n2=>GA e (free_of e n1 n2);have nsK:∀{b:aB} {m:Str->Option aA},s₁.heap.Ns b m->(hidT s₁.heap H).Ns b m:=fun {b m} ⟨o,es,ep,e,d,r⟩=>⟨o,es,ep,base_of e (fun _ _ z=>by rw[d] at z;cases z) (fun z=>by rw[d] at z;cases z),d,r⟩
  have hKb:K.In (hidT s₁.heap H):=fun b o e=>GA (KX b o e) (by
   cases qb:H b with
   |none=>rfl
   | some u =>
     rcases hA b u qb with⟨rfl,z,_⟩ | ⟨p,hp,rfl,_⟩
     . rw[z] at e;cases e
     . exact(no_cls KX hK e (tf p hp).2).elim)
  have hM:Mod K mg (hidT s₁.heap H):=⟨hKb,nsK T.g,⟨mb,nsK T.b,T.builtins⟩,let ⟨mc,h1,h2⟩:=T.nolimit;⟨mc,nsK h1,h2⟩⟩
  have hTab:TabsK K mg (hidT s₁.heap H) H:=by
   refine⟨?_,fun y c P' hy ht=>?_⟩
   . obtain⟨bm, ob, b1, b2, b3, b4, b5, b6⟩ := T.bmain;exact⟨bm,ob,b1,b2,base_of b3 (fun _ _ z=>by rw[b6] at z;cases z) (fun z=>by rw[b6] at z;cases z),b4,b5,b6⟩
   . have hm := hT.get hy ht;refine⟨?_,hP _ hm⟩;obtain⟨o,ws,file,tf',flags,tg,inF,text,tt,e1,r1,r2,r3,rest⟩:=(tf _ hm).1;refine⟨o,ws,file,tf',flags,tg,inF,text,tt,base_of e1 (fun _ _ z=>by rw[r2] at z;cases z) (fun z=>?_),r1,r2,r3,rest⟩;rw[r2] at z;cases z;cases r3
  have e0:Env0 P w K mg (hidT s₁.heap H) uC [] s₁ H:=⟨rfl,hM,fun b o e=>of_hidT e,⟨nJ (QE _ _),hTab⟩,trivial,fun b hb=>absurd (show b∈([]:List aB) from hb) (by simp),hok,.of_eq hg⟩
  refine iK ((F _ hKb (nsK T.g)).run uC [] s₁ H ⟨[.ref a],[]⟩ [.ref a] [.ref a] _ _ hr e0 (hbind s₁ (.ref a)) (.cons rfl .nil) (hsp H hS)) fun r s' h=>?_;cases r with
  |error e=>exact False.elim h
  | ok fl =>
    cases fl with
    |next=>exact False.elim h
    |brk=>exact False.elim h
    |cont=>exact False.elim h
    | ret u =>
      obtain⟨v,H',os,bare,un,hok',r',hv⟩:=h;have hv':v=.bl true:=hv;subst hv';obtain rfl:u=aA.bool true:=r';refine⟨rfl,⟨fun b o e=>?_,fun b o e=>un.there b o e (by simp)⟩,os,bare⟩;cases qb:H b with
      |none=>exact .inl (un.keep b o e qb (by intro z;exact absurd (show b∈([]:List aB) from z) (by simp)) (by simp))
      | some u =>
        rcases hA b u qb with⟨_,_,ob,xs,rfl⟩ | ⟨p,hp,rfl,rfl⟩
        . obtain⟨e1, _⟩ := hok b _ qb;obtain⟨e2,_⟩:=hok' b _ (un.frzs b ob _ qb);rw[e] at e1;cases e1;exact .inl e2
        . have t2 := (tf p hp).2;rw[e] at t2;cases t2;obtain⟨ps,e2,_⟩:=hok' _ _ (un.tbls _ _ qb);exact .inr (.inl ⟨((tf p hp).1.tab (tf p hp).2).isCodeTable,rfl,#[],ps,rfl,by rw[Array.empty_append];exact e2⟩)
 have tabOk:∀(H:Hp) (p:Str×aB×aB),p∈tl->ObjOk P w H s₁.heap p.2.2 (.tbl (pG K p.1)):=fun H p hp=>⟨#[],(tf p hp).2,trivial,fun pos v z=>by cases z⟩
 cases hk:K.lookup a with
 | some o =>
   have e:=KX a o hk;rw[ha] at e;cases e;refine core (tabH K tl) (.inr ⟨_,vs.toArray,_,hk,rfl,rfl,rfl,by rw[aU,hi.length];exact hl,by simpa using rv⟩) (fun b u z=>?_) (fun b u z=>.inr (vW z)) fun p hp=>hT.at p hp;obtain⟨p,hp,rfl,rfl⟩:=vW z;exact tabOk _ p hp
 | none =>
   have na:∀p∈tl,p.2.2≠a:=fun p hp z=>by
    have:=(tf p hp).2;rw[z,ha] at this;cases this
   refine core (upd (tabH K tl) a (.frz { cls:=.type "list",data:=.seq vs.toArray } (.lst (ns.map V.int)))) (.inl (.inr ⟨_,zK⟩)) (fun b u z=>?_) (fun b u z=>?_) fun p hp=>by rw[upd_ne (na p hp)];exact hT.at p hp
   . by_cases hb : b = a
     . subst hb;rw[zK] at z;cases z;exact⟨ha,by rw[cB];exact hl,vs,_,rv,ha⟩
     . rw[upd_ne hb] at z;obtain⟨p,hp,rfl,rfl⟩:=vW z;exact tabOk _ p hp
   . by_cases hb : b = a
     . subst hb;rw[zK] at z;cases z;exact .inl ⟨rfl,hk,_,_,rfl⟩
     . rw[upd_ne hb] at z;exact .inr (vW z)
theorem walkB{l:NE}{q:aX}{loose:List Str}{XP:(Str->Option aA)->Heap->Prop}{YP:bW->Heap->Prop}{d:DefRec}{K:Params->aL}{k:Nat}{tl:List (Str×aB×aB)}(hn:l.most=some 63)(hdf:d.params.defaults=[])(hr:Room k uC)(hY:∀(w:bW) (h:Heap),YP w h->(K w.params).In h)(hK:∀w:bW,sP (K w.params)=true)(hT:∀w:bW,TabL (K w.params) q makers tl)(F:∀(w:bW) (mg:Str->Option aA) (fa:aB) (h:Heap),(K w.params).In h->h.Ns aS mg->mg d.name=some (.ref fa) →
    ∃fd:bN,(∀(s:aC) (u:aA),RL s fd ⟨[u],[]⟩ [("_law_script",u)])/\∀base:Heap,(K w.params).In base->base.Ns aS mg->FnOk l.prog w (K w.params) mg base CX0 k fa fd ["_law_script"] (HZ (K w.params) 63)) :
  PySem.W.WalkO q loose XP YP l.row.toRowW d [] (fun f vs=>PySem.call f vs):=by
 refine Att.attach_callB hn hdf fun w s₀ s₁ mg mb fa o pm cd doc a vs ns G Y ho hd hcd hmg hobj hints hlen hb hg=>?_;have KX:=hY w _ Y;obtain⟨fd,hbd,hF⟩:=F w mg fa _ KX G.T.g hmg;exact PP KX G.T (hT w) (hK w) hg hobj hints (cT hlen (by decide)) hr hF hbd fun H hS=>⟨a,ns,rfl,hS,hlen,hb,fun _=>rfl⟩
structure Cal(P:aX)(w:bW)(K:Frag)(mg:Str->Option aA)(base:Heap)(x:Str)(k n:Nat)(F:List D->Option Ret):Prop where
 ex:∃(f:aB) (fd:bN) (ps:List Str),FnOk P w K mg base CX0 k f fd ps (spF K n F)/\Binds K fd ps []/\cE K (.ref f)=true/\mg x=some (.ref f)
section
variable{X:Cx}
section
variable{k j:Nat}{n:Nat}{F:List D->Option Ret}{x:Str}{p pos:Pos}{e:Expr}{es:List Expr}{g:FA}
theorem qB(C:Cal X.prog X.w X.K X.mg X.base x k n F)(hr:Room j X.A)(ha:PAn X (e::es) g)(hj:k<=j:=by decide)(hg:Gl X x:=by rfl)(hdb:(x==("__debug__" : Str))=false:=by decide)(he:aJ (e::es) X.env=(false,cC e X.env)::aJ es X.env:=by rfl)(hpl:(cY pos (aJ es X.env)).any (·.1)=false:=by rfl) :
  PV X (.Call (.Name x p) (e::es) [] pos) (jE n F g):=by
 obtain⟨f,fd,ps,Fn,hb,hk,hm⟩:=C.ex;exact UD Fn (hr.mono hj) hm hk hb ha hg hdb he hpl
theorem yL(C:Cal X.prog X.w X.K X.mg X.base x k n F)(hr:Room j X.A)(ha:PAn X (e::es) g)(hj:k<=j:=by decide)(hg:Gl X x:=by rfl)(hdb:(x==("__debug__" : Str))=false:=by decide)(he:aJ (e::es) X.env=(false,cC e X.env)::aJ es X.env:=by rfl)(hpl:(cY pos (aJ es X.env)).any (·.1)=false:=by rfl) :
  PVf X (.Call (.Name x p) (e::es) [] pos) (vB n F g):=by
 obtain⟨f,fd,ps,Fn,hb,hk,hm⟩:=C.ex;exact OC Fn (hr.mono hj) hm hk hb ha hg hdb he hpl
end
end
section
variable{X:Cx}{a b:Expr}{fa fb:FE}{pos:Pos}
theorem TZ(ha:PVw X a fa)(hb:PVw X b fb):PV X (.Compare a [.Lt] [b] pos) (zF ltD fa fb):=CL op_lt wL ha hb (lD _)
theorem UA(ha:PVw X a fa)(hb:PVw X b fb):PV X (.Compare a [.LtE] [b] pos) (zF leD fa fb):=CL op_le wL ha hb (lD _)
theorem pv_gt(ha:PVw X a fa)(hb:PVw X b fb):PV X (.Compare a [.Gt] [b] pos) (zF gtD fa fb):=CL op_gt wL ha hb (lD _)
theorem EU(ha:PVw X a fa)(hb:PVw X b fb):PTv X (.Compare a [.Lt] [b] pos) (zV (zF ltD fa fb)):=LF op_lt wL ha hb (lD _)
theorem UL(ha:PVw X a fa)(hb:PVw X b fb):PTv X (.Compare a [.Gt] [b] pos) (zV (zF gtD fa fb)):=LF op_gt wL ha hb (lD _)
theorem qQ(ha:PVw X a fa)(hb:PVw X b fb):PV X (.BinOp a .Add b pos) (zF yN fa fb):=vC op_addU os_add ha hb
theorem yU(ha:PVw X a fa)(hb:PVw X b fb):PV X (.BinOp a .Sub b pos) (zF subD fa fb):=vC op_sub os_sub ha hb
theorem jA(ha:PVw X a fa)(hb:PVw X b fb):PV X (.BinOp a .Mult b pos) (zF yS fa fb):=vC op_mulB os_mul ha hb
theorem wV(ha:PVw X a fa)(hb:PVw X b fb):PV X (.BinOp a .Pow b pos) (zF powD fa fb):=vC op_powB os_pow ha hb
theorem zN(ha:PVw X a fa)(hb:PVw X b fb):PV X (.BinOp a .Mod b pos) (zF qY fa fb):=vC op_mod os_mod ha hb
theorem qI(ha:PVw X a fa)(hb:PVw X b fb):PV X (.BinOp a .FloorDiv b pos) (zF qO fa fb):=vC VF os_fdiv ha hb
end
end FL
namespace L2
open PySem PySem.Spec PyProof.Rows
section
variable{X:Cx}{tg:Expr}
theorem pi_seq{l:Expr}{tl:TE}(hl:PE X l tl):PI X tg l (fun σ H R=>iList X.K tl σ H R\/iTup X.K tl σ H R):=by
 intro aE s σ H R I h;rcases h with h | h
 . exact pi_list hl aE s σ H R I h
 . exact pi_tup hl aE s σ H R I h
end
end L2
namespace FL
open PySem PySem.Spec PyProof.Rows L2
section
variable{X:Cx}
theorem jP{tg e:Expr}{f:FE}(h:PV X e f):PIv X tg e (viaA f asLT):=by
 obtain⟨t,ht,hf⟩:=h;refine⟨_,pi_seq ht,fun H₀ H O σ ds hd items R o e q=>?_⟩;unfold viaA at e;obtain⟨d,h1,e⟩:=bnd e;cases d with
 | lst l =>
   cases e;refine .inl (hf H₀ H O σ ds hd _ _ o h1 fun v H' s r=>?_);obtain⟨a,xs,rfl,hs,rs⟩:=WRep.seqL (.inl r);exact⟨a,rfl,⟨xs,hs⟩,q _ (.ref a,.lst items) H' s r SN⟩
 | tup l =>
   cases e;refine .inr (hf H₀ H O σ ds hd _ _ o h1 fun v H' s r=>?_);obtain⟨a,xs,rfl,hs,rs⟩:=WRep.seqT (.inl r);exact⟨a,rfl,⟨xs,hs⟩,q _ (.ref a,.tup items) H' s r ZF⟩
 |_=>cases e
end
end FL
namespace L2
open PySem PySem.Spec PyProof.Rows
section
variable{X:Cx}{tg:Expr}
end
end L2
namespace FL
open PySem PySem.Spec PyProof.Rows L2
section
variable{X:Cx}
theorem FW{K:Frag}{H:Hp}{O:aB->Prop}:∀{xs:List V} {l:List D} {bs:List Int},Reps K H O xs l->intsD l=some bs->xs=bs.map V.int
 |_,_,_,.nil,e=>by cases e;rfl
 | _, _, bs, .cons (d := d) h t, e => by
   cases d with
   | int b =>
     rename_i ds;simp only[intsD] at e;obtain⟨r,hr,rfl⟩:=mpd e;cases h;rw[FW t hr];rfl
   |_=>cases e
theorem pv_int1{p pos:Pos}{e:Expr}{g:FA}(hm:X.mg "int" = none)(ha:PAv X [e] g)(hg:Gl X "int":=by rfl)(he:aJ [e] X.env=[(false,cC e X.env)]:=by rfl):PV X (.Call (.Name "int" p) [e] [] pos) (callB int1D g):=by
 obtain⟨t,ht,hf⟩:=ha;refine⟨_,AU QZ hg hm (by decide +kernel) ht (by decide) (by decide) he rfl,fun H₀ H O σ ds hd d Q o e q=>?_⟩;unfold callB at e;obtain⟨l,h,e⟩:=bnd e;refine hf H₀ H O σ ds hd l _ o h fun vs H1 s1 r1=>?_;unfold int1D at e
 split at e
 . cases e;cases r1 with
   | cons r rn =>
     cases rn;exact .inl ⟨_,by rw[r.int'],q _ H1 s1 (.int _)⟩
 . cases e;cases r1 with
   | cons r rn =>
     cases rn;exact .inr ⟨_,by rw[r.bl'],q _ H1 s1 (.int _)⟩
 . cases e
end
end FL
namespace L2
open PySem PySem.Spec PyProof.Rows
section
variable{X:Cx}{aE:List (aB×Obj)}{σ : St}{H:Hp}{s:aC}{h':Heap}
theorem Inv.turnedS{t':Nat}{ch:List aB}(I:Inv X aE σ H s)(k:∀b o,b∉ch->s.heap.get? b=some o->h'.get? b=some o)(hf:∀b∈ch,FpOk X aE H b):Inv X aE σ H { s with heap:=h',toks:=t' }:=by
 have nit:∀b u,H b=some u->b∉ch:=fun b u e z=>by rw[(hf b z).1] at e;cases e
 refine I.step (g':=s.gens) (d':=s.drawn) (ch:=ch) (fun b hb=>?_) (fun b o _ _ hc e _=>k b o hc e) (fun b o _ _ hc e _=>⟨o.slots,k b o hc e⟩) (fun _ _ _ _ n=>n)
  (fun b o hc e=>⟨o,k b o hc e⟩) (fun _ _ e=>e) (fun _ _ _ e=>e) (fun _ _ e=>e) (fun m hm=>?_) (fun b u e=>?_) I.bare
 . obtain⟨f0, f1, f2, f3, f4, f5⟩ := hf b hb;exact⟨f3,f1,f4,f5⟩
 . obtain⟨o, es, ep, ho, r⟩ := hm;exact⟨o,es,ep,k _ o (fun z=>(hf _ z).2.1 rfl) ho,r⟩
 . refine (I.hok b u e).stay (fun c v hc q => k c v ?_ q) (fun _ q => q) fun _ _ q => q;rcases hc with z | z
   . rw[z];exact nit b u e
   . exact nit c _ z
end
section
variable{X:Cx}
end
end L2
namespace FL
open PySem PySem.Spec PyProof.Rows L2
section
variable{X:Cx}
section
variable{scope:Scope}{NY:List Str}{mp:List (Option Nat)}{tg iter elt:Expr}{ifs:List Expr}{pos:Pos}{fi:FA}{ga:D->List Sl->Option (List Sl)}{tt:FT}{fe:FE}
end
end
end FL
namespace L2
open PySem PySem.Spec PyProof.Rows
section
variable{X:Cx}
end
end L2
namespace FL
open PySem PySem.Spec PyProof.Rows L2
section
variable{X:Cx}
end
section
variable{X:Cx}
end
section
variable{X:Cx}
end
end FL
namespace L2
open PySem PySem.Spec PyProof.Rows
section
variable{X:Cx}
end
end L2
namespace FL
open PySem PySem.Spec PyProof.Rows L2
section
variable{X:Cx}
end
end FL
namespace L2
open PySem PySem.Spec PyProof.Rows
section
variable{X:Cx}
def HY(X:Cx)(m:Str)(k:Nat)(ta:TE)(t:TA):TE:=fun σ H Q=>ta σ H fun x H1=>∃(a C dx:aB) (fs:List (Str×V)) (f:aB) (fd:bN) (ps:List Str) (sp:Sp),x=.ref a/\H1 a=some (.ins C dx fs)/\fs.lookup m=none ∧
 Cls X.K C/\Meth X.K C m f/\FnOk X.prog X.w X.K X.mg X.base CX0 k f fd ps sp/\Binds X.K fd ps []/\t σ H1 fun vs H2=>sp (x::vs) H2 Q E0
theorem FC{k:Nat}{m:Str}{e o:Expr}{es:List Expr}{apos pos:Pos}{ta:TE}{t:TA}{pl:Sem Bool}(he:PE X o ta)(hr:Room k X.A)(ha:PA X (e::es) t)(hst:aJ (e::es) X.env=(false,cC e X.env)::aJ es X.env:=by rfl)(hpl:(cY pos (aJ es X.env)).any (·.1)=false:=by rfl)(ht:cC (.Call (.Attribute o m apos) (e::es) [] pos) X.env=(do
    let ov <- cC o X.env
    oK apos.atName
    let (f,first) <- gX [ov] (AC ov m pl)
    callWith pos f first (cY pos (aJ (e::es) X.env)) (lY pos (gD [] X.env))):=by rfl) :
  PE X (.Call (.Attribute o m apos) (e::es) [] pos) (HY X m k ta t):=by
 intro aE s σ H Q I h;refine PySem.W.methodCall_KW (pl:=pl) (thn (he aE s σ H _ I h) fun u s1 zq=>?_) ht;obtain⟨x,H1,I1,rx,a,C,dx,fs,f,fd,ps,sp,ex,ea,l,c,hm,F,hb,q⟩:=zq;subst ex;obtain rfl:u=aA.ref a:=rx;refine JF I1 ea c hm l ?_;refine oQ (first:=[.ref a]) (h₀:=X.base) I.ok.mod.kin hm.kp (thn (ha pos aE s1 σ H1 _ I1 q) fun us s2 ⟨vs,H2,I2,r,q2⟩=>⟨I2.kIn,?_⟩) hst hpl;exact TQ (us:=.ref a::us) (vs:=.ref a::vs) F hr hb .nil pass0 I2 (.cons rfl r) (by simpa using q2)
end
end L2
namespace FL
open PySem PySem.Spec PyProof.Rows L2
section
variable{X:Cx}
theorem PVd.v{e:Expr}{f:FE}(h:PVd X e f):PV X e f:=by
 obtain⟨t,ht,hf⟩:=h;exact⟨t,ht,fun H₀ H O σ ds hd d Q o e q=>hf H₀ H O σ ds hd d Q o e fun v H' s r=>q v H' s (r.less fun a z=>o.old z)⟩
def FldOk(K:Frag)(f:Str)(ix:List (Nat×Nat)):Prop:=∀t i,ix.lookup t=some i->(eO t)[i]?=some f/\(∀j,j<i->(eO t)[j]?≠some f)/\∀C,aY K aS (eB t)=some (some (.ref C))->Cls K C/\NoAttr K C f
theorem QJ{K:Frag}{f:Str}: FldOk K f []:=fun t i h=>by simp at h
theorem JI{K:Frag}{f:Str}{t i:Nat}{C:aB}{ix:List (Nat×Nat)}(a:aY K aS (eB t)=some (some (.ref C)))(c:Cls K C)(n:NoAttr K C f)(h1:(eO t)[i]?=some f)(h2:∀j,j<i->(eO t)[j]?≠some f)(h:FldOk K f ix):FldOk K f ((t,i)::ix):=by
 intro t' i' e
 by_cases q:t'=t
 . subst q;simp at e;subst e;refine⟨h1,h2,fun C' e'=>?_⟩;rw[a] at e';cases e';exact⟨c,n⟩
 . have : (t' == t) = false := by simpa using q
   rw[cF,this] at e;exact h t' i' e
theorem xN{f:Str}:∀{kvs:List (Str×V)} {i:Nat} {v:V},(kvs.map (·.1))[i]?=some f->(∀j,j<i->(kvs.map (·.1))[j]?≠some f)->(kvs.map (·.2))[i]?=some v->kvs.lookup f=some v
 |[],_,_,h,_,_=>by simp at h
 | (g, x) :: r, 0, v, h1, _, h3 => by
   simp at h1 h3;subst h1 h3;simp[List.lookup]
 | (g, x) :: r, i + 1, v, h1, h2, h3 => by
   have hg:g≠f:=fun z=>h2 0 (by omega) (by simp[z]);have:(f==g)=false:=by simpa using fun z=>hg z.symm
   rw[cF,this];exact xN (i:=i) (by simpa using h1) (fun j hj=>by have:=h2 (j+1) (by omega);simpa using this) (by simpa using h3)
theorem CJ{e:Expr}{f:Str}{pos:Pos}{fe:FE}{ix:List (Nat×Nat)}(hF:FldOk X.K f ix)(he:PV X e fe)(hb:dH e f X.env (cC e X.env)=cC e X.env:=by rfl):PV X (.Attribute e f pos) (fldG ix fe):=by
 obtain⟨t,ht,hf⟩:=he;refine⟨_,UW ht hb,fun H₀ H O σ ds hd d Q o e q=>?_⟩;unfold fldG at e;obtain⟨x,h,e⟩:=bnd e;refine hf H₀ H O σ ds hd x _ o h fun v H1 s1 r1=>?_;cases x with
 | ins t es =>
   simp only[fldD] at e;obtain⟨i,hl,e⟩:=bnd e;obtain⟨h1,h2,h3⟩:=hF t i hl;cases r1 with
   | @ins a C dx _ kvs _ c n ha ek rr =>
     obtain⟨cl,na⟩:=h3 C c;obtain⟨w,hw,rw'⟩:=rr.get e;refine⟨a,C,dx,kvs,w,rfl,ha,cl,na,xN (i:=i) (by rw[ek];exact h1) (by rw[ek];exact h2) hw,?_⟩;exact q w H1 s1 rw'
 |_=>simp[fldD] at e
structure MCal(P:aX)(w:bW)(K:Frag)(mg:Str->Option aA)(base:Heap)(m:Str)(k n:Nat)(cs:List Nat)(F:Nat->List D->Option Ret):Prop where
 no:∀t∈cs,m∉eO t
 of:∀t∈cs,∀C,aY K aS (eB t)=some (some (.ref C))->∃(f:aB) (fd:bN) (ps:List Str),Cls K C/\Meth K C m f/\FnOk P w K mg base CX0 k f fd ps (spF K (n+1) (F t))/\Binds K fd ps []
theorem FM{P:aX}{w:bW}{K:Frag}{mg:Str->Option aA}{base:Heap}{m:Str}{k n:Nat}{F:Nat->List D->Option Ret}: MCal P w K mg base m k n [] F:=⟨fun _ h=>(nomatch h),fun _ h=>(nomatch h)⟩
theorem PJ{P:aX}{w:bW}{K:Frag}{mg:Str->Option aA}{base:Heap}{m:Str}{j k n t:Nat}{cs:List Nat}{F:Nat->List D->Option Ret}{C f:aB}{fd:bN}{ps:List Str}(a:aY K aS (eB t)=some (some (.ref C)))(c:Cls K C)(hm:Meth K C m f)(G:FnOk P w K mg base CX0 j f fd ps (spF K (n+1) (F t)))(hj:j<=k)(b:Binds K fd ps [])(hn:m∉eO t)(h:MCal P w K mg base m k n cs F):MCal P w K mg base m k n (t::cs) F:=by
 refine⟨fun t' ht=>(aF.mp ht).elim (fun e=>e▸hn) (h.no t'),fun t' ht C' e=>?_⟩;rcases aF.mp ht with rfl | ht
 . rw[a] at e;cases e;exact⟨f,fd,ps,c,hm,G.mono hj,b⟩
 . exact h.of t' ht C' e
theorem jW{m:Str}:∀{kvs:List (Str×V)},m∉kvs.map (·.1)->kvs.lookup m=none
 |[],_=>rfl
 | (g, x) :: r, h => by
   have hg:(m==g)=false:=by simpa using fun z=>h (by simp[z])
   rw[cF,hg];exact jW fun z=>h (by simp at z ⊢;exact .inr z)
theorem VZ{m:Str}{k n:Nat}{cs:List Nat}{F:Nat->List D->Option Ret}(M:MCal X.prog X.w X.K X.mg X.base m k n cs F){ta:TE}{t:TA}{fo:FE}{g:FA}(hfo:∀H₀ H O σ ds hd d Q,Ok X.K H₀ H O σ ds hd->fo ds=some d->(∀v H',Same H H'->Rep X.K H' O v d->Q v H')->ta σ H Q)(hfg:∀H₀ H O σ ds hd l Q,Ok X.K H₀ H O σ ds hd->g ds=some l->(∀vs H',Same H H'->Reps X.K H' yF vs l->Q vs H')->t σ H Q){H₀ H:Hp}{O:aB->Prop}{σ : L2.St}{ds:List Sl}{hd:Hold}{x:D}{l:List D}{r:Ret}{Q:VK}(o:Ok X.K H₀ H O σ ds hd)(h1:fo ds=some x)(h2:g ds=some l)(h3:methR n cs F x l=some r)(q:∀v H1 H',Same H H1->Same H1 H'->RetOk X.K H1 H' v r->Q v H'):HY X m k ta t σ H Q:=by
 refine hfo H₀ H O σ ds hd x _ o h1 fun v H1 s1 r1=>?_;cases x with
 | ins c es =>
   simp only[methR] at h3
   split at h3
   . rename_i hc;cases r1 with
     | @ins a C dx _ kvs _ cc nn ha ek rr =>
       obtain⟨f,fd,ps,cl,hm,Fn,hb⟩:=M.of c hc.1 C cc;refine⟨a,C,dx,kvs,f,fd,ps,_,rfl,ha,jW (by rw[ek];exact M.no c hc.1),cl,hm,Fn,hb,?_⟩;refine hfg H₀ H1 O σ ds hd l _ (o.mono s1) h2 fun vs H2 s2 r2=>?_;have hl:=r2.length;have r1':Rep X.K H2 yF (.ref a) (.ins c es):=(Rep.ins cc (fun z=>z.elim) (s2 _ _ ha) ek ((rr.mono s2).less fun _ z=>z.elim))
       exact⟨by simp only[aO];omega,_,r,.cons r1' r2,h3,fun v H' s' ro=>q v H2 H' (s1.trans s2) s' ro⟩
   . cases h3
 |_=>simp[methR] at h3
section
variable{m:Str}{k j n:Nat}{cs:List Nat}{F:Nat->List D->Option Ret}{o e:Expr}{es:List Expr}{apos pos:Pos}{fo:FE}{g:FA}
theorem wY{pl:Sem Bool}(M:MCal X.prog X.w X.K X.mg X.base m k n cs F)(hr:Room j X.A)(ho:PV X o fo)(ha:PAn X (e::es) g)(hj:k<=j:=by decide)(hst:aJ (e::es) X.env=(false,cC e X.env)::aJ es X.env:=by rfl)(hpl:(cY pos (aJ es X.env)).any (·.1)=false:=by rfl)(ht:cC (.Call (.Attribute o m apos) (e::es) [] pos) X.env=(do
    let ov <- cC o X.env
    oK apos.atName
    let (f,first) <- gX [ov] (AC ov m pl)
    callWith pos f first (cY pos (aJ (e::es) X.env)) (lY pos (gD [] X.env))):=by rfl):PV X (.Call (.Attribute o m apos) (e::es) [] pos) (methV n cs F fo g):=by
 obtain⟨ta,pa,hfo⟩:=ho;obtain⟨t,pt,hfg⟩:=ha;refine⟨_,FC (pl:=pl) (k:=k) pa (hr.mono hj) pt hst hpl ht,fun H₀ H O σ ds hd d Q o e q=>?_⟩;unfold methV at e;obtain⟨x,h1,e⟩:=bnd e;obtain⟨l,h2,e⟩:=bnd e;obtain⟨r,h3,e⟩:=bnd e;refine VZ M hfo hfg o h1 h2 h3 fun v H1 H' s1 s' ro=>q v H' (s1.trans s') ?_;exact KS ro e fun a ha=>(o.mono s1).old ha
end
end
noncomputable def eH:Hp:=fun _=>none
def Keepx(x:aB)(H H':Hp):Prop:=∀b o,b≠x->H b=some o->H' b=some o
theorem Keepx.trans{x:aB}{H H1 H2:Hp}(a:Keepx x H H1)(b:Keepx x H1 H2):Keepx x H H2:=fun c o n e=>b c o n (a c o n e)
section
variable{K:Frag}{H H':Hp}{O:aB->Prop}{x:aB}
end
theorem ES{f:Str}{v:V}:∀{kvs:List (Str×V)},f∉kvs.map (·.1)->putF f v kvs=kvs++[(f,v)]
 |[],_=>rfl
 | (g, x) :: r, h => by
   have hg : ¬g=f:=fun z=>h (by simp[z]);rw[show putF f v ((g,x)::r)=(if g=f then (g,v)::r else (g,x)::putF f v r) from rfl,if_neg hg,ES fun z=>h (by simp at z ⊢;exact .inr z)];rfl
section
variable{X:Cx}
end
section
variable{X:Cx}{t k j n:Nat}{G:List D->Option (List D)}{x:Str}{p pos:Pos}{e:Expr}{es:List Expr}{g:FA}
end
section
variable{X:Cx}
end
section
variable{X:Cx}
theorem ER{x:Str}{i:Int}{pos:Pos}(hm:∃t,X.mg x=some (.int i t))(hg:Gl X x:=by rfl)(hd:(x==("__debug__" : Str))=false:=by decide):PV X (.Name x pos) (zA (.int i)):=
 let ⟨t,h⟩:=hm
 LB (v:=.int i) hg h ⟨t,rfl⟩ (fun _ _=>.int i) hd
theorem UB{x:Str}{i:Str}{pos:Pos}(hm:∃t,X.mg x=some (.str i t))(hg:Gl X x:=by rfl)(hd:(x==("__debug__" : Str))=false:=by decide):PV X (.Name x pos) (zA (.str i)):=
 let ⟨t,h⟩:=hm
 LB (v:=.str i) hg h ⟨t,rfl⟩ (fun _ _=>.str i) hd
end
section
variable{X:Cx}
end
section
variable{X:Cx}{k j n:Nat}{F:List D->Option Ret}{x:Str}{p pos:Pos}{e:Expr}{es:List Expr}{g:FA}
end
end FL
namespace PySem
open Sem (wp)
section
variable{prog:aX}{w:bW}{A:bT}{R:HF->aC->Prop}{I:aB}{fp wr:List aB}{n:Nat}{P:Nat->aA->Prop}{St:Nat->Heap->Prop}{kw:List (Str×aA)}
end
section
variable{prog:aX}{w:bW}{A:bT}{E:aA->aC->Prop}{s:aC}
end
end PySem
namespace FL
open PySem PySem.Spec PyProof.Rows L2
section
variable{X:Cx}
end
open PySem.Calls PySem.Builtin PySem.Builtin.ObjectAttr PySem.Builtin.Getset_descriptor
open PySem.W (Looks looks_findIn looks_mroIn findIn mroIn specialIn takesIn KitX)
section
variable{prog:aX}{w:bW}{A:bT}{E:aA->aC->Prop}{h:Heap}{g:Array nZ}{d:NH}{t:Nat}{os:OsState}{a C:aB}{o:Obj}{K:Frag}
end
end FL
namespace FL
open PySem PySem.Spec PyProof.Rows L2
def Fl2(B:Heap)(l:List Env)(e:aB)(cls a0 fl:aA)(h:Heap):Prop:=B.StaysIn h/\B.get? e=none/\h.FunFrames B l ∧
 ∃oe vs T oT ts,h.get? e=some oe/\(oe.cls=cls/\vs[0]?=some a0/\vs[2]?=some .none)/\oe.data=.fields vs/\vs[1]?=some (.ref T)/\B.get? T=none/\T≠e/\h.get? T=some oT/\oT.data=.fields ts/\ts[3]?=some fl
section
variable{M:uG}{A:bT}{E:aA->aC->Prop}{s:aC}{B:Heap}{l outer:List Env}{env:Env}{e L:aB}{cls a0 fl:aA}{oe:Obj}{vs:Array aA}{Q:Unit->aC->Prop}
theorem Fl2.tail(R:Fl2 B (env::outer) e cls a0 fl s.heap):Fl2 B outer e cls a0 fl s.heap:=let ⟨k1,k2,⟨_,_,k3⟩,k4⟩:=R;⟨k1,k2,k3,k4⟩
end
open PySem.W (hideAll hideAll_get of_hideAll hideAll_none funFrames_hide excIn tail_of_in nsMap_none_of_in isNs_of_in)
theorem obj_get{P:aX}{w:bW}{H:Hp}{h:Heap}{a:aB}{o:HO}(x:ObjOk P w H h a o):∃u,h.get? a=some u:=by
 cases o with
 |lst xs=>obtain⟨_,_,_,_,e⟩:=x;exact⟨_,e⟩
 |tup xs=>obtain⟨_,_,_,_,e,_⟩:=x;exact⟨_,e⟩
 |dK kvs=>obtain⟨_,_,_,_,o,_,_,e,_⟩:=x;exact⟨_,e⟩
 |dT kvs=>obtain⟨_,_,_,_,o,_,_,e,_⟩:=x;exact⟨_,e⟩
 |set S n=>obtain⟨o,_,_,_,e,_⟩:=x;exact⟨_,e⟩
 |ins C dx fs=>obtain⟨_,_,_,e,_⟩:=x;exact⟨_,e⟩
 |own y=>obtain⟨_,e⟩:=x;exact⟨_,e⟩
 |xd fs=>obtain⟨_,⟨_,_,_,e,_⟩,_⟩:=x;exact⟨_,e⟩
 |rng lo hi=>obtain⟨_,_,_,e⟩:=x;exact⟨_,e⟩
 |frz ob u=>obtain⟨e,_⟩:=x;exact⟨_,e⟩
 |tbl ps=>obtain⟨_,e,_⟩:=x;exact⟨_,e⟩
 |met f y=>exact⟨_,(show h.get? a=some _ from x)⟩
 |ext φ=>obtain⟨_,⟨_,e⟩,_⟩:=x;exact⟨_,e⟩
structure Thrown(P:aX)(w:bW)(outer:List Env)(H:Hp)(s:aC)(cls:aA)(ea:aB)(a0:aA)(B:Heap)(H':Hp)(h:Heap):Prop where
 fly:Fl2 B outer ea cls a0 .none h
 keep:∀b o,s.heap.get? b=some o->H b=none->b∉frs outer->B.get? b=some o
 there:∀b o,s.heap.get? b=some o->b∉frs outer->∃o',B.get? b=some o'
 slot:∀b o,s.heap.get? b=some o->b∈frs outer->∃sl,h.get? b=some { o with slots:=sl }
 free:∀b o,s.heap.get? b=some o->H b=none->H' b=none
 tups:∀b xs,H b=some (.tup xs)->H' b=some (.tup xs)
 frzs:∀b o u,H b=some (.frz o u)->H' b=some (.frz o u)
 tbls:∀b ps,H b=some (.tbl ps)->H' b=some (.tbl ps)
 hok:L2.HOk P w H' B
section
variable{P:aX}{w:bW}{outer:List Env}{H H':Hp}{s:aC}{cls a0:aA}{ea:aB}{B h h':Heap}
theorem Thrown.un(t:Thrown P w outer H s cls ea a0 B H' h):Un (frs outer) [] H H' s.heap h where
 keep:=fun b o e n hb _=>t.fly.1 b o (t.keep b o e n hb)
 slot:=fun b o e n hb _=>t.slot b o e hb
 free:=fun b o e n _=>t.free b o e n
 there:=fun b o e _=>by
  by_cases hb:b∈frs outer
  . obtain⟨sl,q⟩:=t.slot b o e hb;exact⟨_,q⟩
  . obtain⟨o',q⟩:=t.there b o e hb;exact⟨o',t.fly.1 b o' q⟩
 tups:=t.tups
 frzs:=t.frzs
 tbls:=t.tbls
theorem Thrown.no(t:Thrown P w outer H s cls ea a0 B H' h):H' ea=none:=by
 cases q:H' ea with
 |none=>rfl
 | some u =>
   obtain⟨o,e⟩:=obj_get (t.hok _ _ q);rw[t.fly.2.1] at e;cases e
end
section
variable(X:Cx)(C:aB)
end
section
variable{X:Cx}{C:aB}
end
end FL
namespace FL
open PySem PySem.Spec PyProof.Rows L2
open PySem.W (Looks looks_mroIn mroIn)
section
variable{X:Cx}{aE:List (aB×Obj)}{σ : L2.St}{H:Hp}{s:aC}{ea:aB}{oe:Obj}{xe:aA->aC->Prop}
end
section
variable{X:Cx}{k j n:Nat}{R:List D->Bool}{C:aB}{x:Str}{p pos:Pos}{e:Expr}{es:List Expr}{g:FA}
theorem UM{f:FE}{e:Expr}(h:PV X e f)(hs:eQ e none pos.line X.env=pure false:=by rfl):PSv X (.Expr e pos) (dropG f):=by
 obtain⟨t,ht,hf⟩:=h;refine⟨_,wM ht hs,fun H₀ H O σ ds hd out E o e' h=>?_⟩;unfold dropG at e';cases hh:f ds with
 |none=>rw[hh] at e';cases e'
 | some d =>
   rw[hh] at e';cases e';exact hf H₀ H O σ ds hd d _ o hh fun v H' s r=>h σ H' O (o.mono s)
end
end FL
namespace FL
open PySem PySem.Spec PyProof.Rows L2
open PySem.W (Looks looks_mroIn mroIn clsIn)
section
variable{prog:aX}{w:bW}{A:bT}{E:aA->aC->Prop}{h:Heap}{g:Array nZ}{d:NH}{t:Nat}{os:OsState}{a C S:aB}{o:Obj}{K:Frag}
end
section
variable{X:Cx}
end
end FL
namespace FL
open PySem PySem.Spec PyProof.Rows L2
section
variable{X:Cx}
section
variable{en:Str}{i:Nat}{p pe pT pos:Pos}{tb:List (Nat×Bool)}
end
end
section
variable{X:Cx}{m:Str}{k j:Nat}{cs:List Nat}{F:Nat->List D->Option Ret}{o:Expr}{apos pos:Pos}{fo:FE}
end
section
variable{X:Cx}{C:aB}{x:Str}{p pos:Pos}
end
section
variable{K:Frag}{H:Hp}{O:aB->Prop}{a:aB}{xs ys:List V}
end
section
variable{X:Cx}
end
section
variable(X:Cx)(E:XK)(C:aB)
end
section
variable{X:Cx}{E:XK}{C:aB}
section
variable{k j n:Nat}{R:List D->Bool}{x:Str}{p pos:Pos}{e:Expr}{es:List Expr}{g:FA}
end
end
section
variable{X:Cx}{E:XK}{C:aB}{t k j n:Nat}{R:List D->Bool}{x:Str}{p pos:Pos}{e:Expr}{es:List Expr}{g:FA}
end
section
variable{X:Cx}
end
structure RoomH(k:Nat)(A:bT):Prop where
 dp:A.depth+3*k+5<recursionLimit
 un:A.units+16*k+200<cLine
theorem RoomH.of{k:Nat}{A:bT}{v:Option aA}(r:Room k A):RoomH k (A.mark v):=⟨r.dp,r.un⟩
theorem RoomH.depth{k:Nat}{A:bT}(r:RoomH k A):A.depth<recursionLimit:=by have:=r.dp;omega
section
variable{X:Cx}{k j i:Nat}{F:Nat->Option Ret}{x en:Str}{p pe pos:Pos}
end
end FL
namespace L2
open PySem PySem.Spec PyProof.Rows
section
variable{X:Cx}
end
end L2
namespace FL
open PySem PySem.Spec PyProof.Rows L2
section
variable{X:Cx}
end
section
variable{X:Cx}
end
end FL
namespace L2
open PySem PySem.Spec PyProof.Rows
section
variable{X:Cx}
theorem Inv.drw{aE:List (aB×Obj)}{s:aC}{σ}{H:Hp}(I:Inv X aE σ H s)(d:NH):Inv X aE σ H { s with drawn:=d }:=
 I.step (h':=s.heap) (H':=H) (g':=s.gens) (t':=s.toks) (d':=d) (ch:=[]) (fun _ z=>nomatch z) (fun b o _ _ _ e _=>e) (fun b o _ _ _ e _=>⟨o.slots,e⟩) (fun _ _ _ _ n=>n) (fun b o _ e=>⟨o,e⟩)
  (fun _ _ e=>e) (fun _ _ _ e=>e) (fun _ _ e=>e) (fun m hm=>hm) I.hok I.bare
theorem AK:∀{us:List aA} {ns:List Int},dY us ns->Vals (ns.map V.int) us
 |_,_,.nil=>.nil
 |_,_,.cons n t h=>.cons ⟨t,rfl⟩ (AK h)
def tSrtS(ta:TA)(K:aL):TE:=fun σ H Q=>ta σ H fun vs H1=>∃(p:aB) (ns:List Int),vs=[.ref p]/\SqL K H1 p (ns.map V.int)/\ns.length+1<4096/\∀l,H1 l=none->Q (.ref l) (upd H1 l (.lst ((FL.srtU ns).map V.int)))
theorem pe_srtS{a:Expr}{ta:TA}{p p2 pos pos2:Pos}(hc:X.calm=true)(hgl:Gl X "sorted")(hml:X.mg "sorted" = none)(hg:Gl X "set")(hm:X.mg "set" = none)(ha:PA X [a] ta)(hl:aJ [.Call (.Name "set" p2) [a] [] pos2] X.env=[(false,cC (.Call (.Name "set" p2) [a] [] pos2) X.env)]:=by rfl)(hs:aJ [a] X.env=[(false,cC a X.env)]:=by rfl) :
  PE X (.Call (.Name "sorted" p) [.Call (.Name "set" p2) [a] [] pos2] [] pos) (tSrtS ta X.K):=by
 intro aE s σ H Q I h;refine fB (yT I hgl hml (show dW "sorted" = some (.builtin "sorted") by decide +kernel) ?_);refine iN ?_ hl rfl;rw[hl];show bH _ _ (RE ((false,cC (.Call (.Name "set" p2) [a] [] pos2) X.env)::cY pos [])) _ _ s;refine Calls.spliced_cons ?_;refine Call_ (yT I hg hm (show dW "set" = some (.type "set") by decide +kernel) (dA (thn (ha pos2 aE s σ H _ I h) fun us s1 zq=>?_) hs rfl));obtain⟨vs,H1,I1,r1,q1⟩:=zq;obtain⟨l,ns,e,hq,hz0,q⟩:=q1;subst e;obtain⟨u,rfl,ru⟩:=vals1 r1;cases ru;obtain⟨its,rv,pl,hz⟩:=I1.list hq;have hi:dY its ns:=JE rv;have hlen:=rv.length;have hil:=dY.length hi;refine TS.call_set (I.ok.hd hc) pl.isList (by simpa using hi) (by simp only[aU];unfold scanBound;omega) fun h' tk hS hk=>?_;have I2:Inv X aE σ H1 { s1 with heap:=h',toks:=tk }:=I1.kept hk;refine Calls.spliced_nil ?_;refine TS.sorted_set (s:={ s1 with heap:=h',toks:=tk }) (I.ok.hd hc) hS (by simp only[aU];rw[iD];omega) fun h1 h2 d tk2 vs' ks e k1 k2 hL hI' hlt hm hle=>?_;have en:ks=FL.srtU ns:=FL.lt_unique _ _ (fun k=>(hm k).trans (FL.mem_srtU k ns).symm) hlt (FL.srtU_lt ns);have I3:Inv X aE σ H1 { s1 with heap:=h1,drawn:=d,toks:=tk2 }:=Inv.kept (s:={ s1 with heap:=h',drawn:=d,toks:=tk }) (I2.drw d) k1;refine⟨.ref h1.objs.size,_,Inv.laid (s:={ s1 with heap:=h1,drawn:=d,toks:=tk2 }) I3 (t':=tk2) k2 (aM _) (show ObjOk X.prog X.w _ h2 _ (.lst ((FL.srtU ns).map V.int)) from ⟨?_,vs',e,?_,hL⟩),rfl,q _ (I3.hok.fresh (aM _))⟩
 . have h1 := dY.length hI';rw[<- en,cB];simp only[aU] at hle;rw[iD];omega
 . rw[<- en];exact AK hI'
end
end L2
namespace FL
open PySem PySem.Spec PyProof.Rows L2
section
variable{X:Cx}
theorem AR{K:Frag}{H:Hp}{O:aB->Prop}:∀ns:List Int,Reps K H O (ns.map V.int) (ns.map D.int)
 |[]=>.nil
 |n::ns=>.cons (.int n) (AR ns)
theorem uR{e:Expr}{f:FE}{p p2 pos pos2:Pos}(hc:X.calm=true)(hml:X.mg "sorted" = none)(hm:X.mg "set" = none)(he:PVw X e f)(hgl:Gl X "sorted":=by rfl)(hg:Gl X "set":=by rfl)(hl:aJ [.Call (.Name "set" p2) [e] [] pos2] X.env=[(false,cC (.Call (.Name "set" p2) [e] [] pos2) X.env)]:=by rfl)(hs:aJ [e] X.env=[(false,cC e X.env)]:=by rfl) :
  PVf X (.Call (.Name "sorted" p) [.Call (.Name "set" p2) [e] [] pos2] [] pos) (srtSA f):=by
 obtain⟨te,pe,he⟩:=he;refine⟨_,pe_srtS hc hgl hml hg hm (qW pe jT hs) hl hs,fun H₀ H O σ ds hd l Q o e q=>?_⟩;unfold srtSA at e;obtain⟨d,h1,e⟩:=bnd e;refine he H₀ H O σ ds hd _ _ o h1 fun v H1 s1 r1=>?_;cases d<;>first | (cases e;done) | skip
 rename_i l';simp only at e;obtain⟨ns,hb,e⟩:=bnd e
 split at e
 . rename_i hz;cases e;obtain ⟨a1,xs,rfl,hq,rs⟩:=r1.seqL;refine ⟨a1,ns,rfl,?_,hz,fun p hp=>?_⟩
   . rw[<- FW rs hb];exact hq
   . exact q p _ _ (s1.trans (zX hp _)) (s1.free hp) zK (AR _)
 . cases e
end
end FL
namespace L2
open PySem PySem.Spec PyProof.Rows
section
variable{prog:aX}{w:bW}{A:bT}{E:aA->aC->Prop}{s:aC}
end
section
variable{X:Cx}
end
end L2
namespace FL
open PySem PySem.Spec PyProof.Rows L2
section
variable{X:Cx}
end
open PySem.W (tabIn CodeHd tabObj kla_eval kla_makeFunction kla_makeFunctionHit kla_obj kla_fn kla_callFunE kla_codeExpr FnAt callWith_F envX)
section
variable{X:Cx}
end
section
variable{X:Cx}{aE:List (aB×Obj)}{σ : L2.St}{H H':Hp}{s s':aC}{cs:List aB}
end
section
variable{K:Frag}{H:Hp}{O:aB->Prop}{cs:List aB}
end
section
variable{X:Cx}
end
end FL
namespace FL
open PySem PySem.Spec PyProof.Rows L2
open PySem.W (tabIn CodeHd tabObj kla_callFunE kla_codeExpr FnAt callWith_F envX)
section
variable{X:Cx}
section
variable{k j' n m j:Nat}{F:List D->Option Ret}{x y:Str}{p pos:Pos}{e:Expr}{es:List Expr}{g:FA}{is:List Nat}{t:LamT}{st:Stmt}{f c P:aB}
end
end
theorem ClosOk.get{H:Hp}{O:aB->Prop}:∀{cl:List (Str×aB)} {xs:List V},ClosOk H O cl xs->∀{i:Nat} {v:V},xs[i]?=some v->∃p o u w,cl[i]?=some p/\H p.2=some (.frz o u)/\o.data=.cell (some w)/\RelV v w
 |_,_,.nil,_,_,h=>by cases h
 |_,_,.cons no h d r t,0,v,hv=>by cases hv;exact⟨_,_,_,_,rfl,h,d,r⟩
 |_,_,.cons no h d r t,i+1,v,hv=>t.get hv
theorem ClosOk.length{H:Hp}{O:aB->Prop}:∀{cl:List (Str×aB)} {xs:List V},ClosOk H O cl xs->cl.length=xs.length
 |_,_,.nil=>rfl
 |_,_,.cons no h d r t=>by simp[t.length]
section
variable{X:Cx}{k j i:Nat}{Φ : Fun2}{x:Str}{p pos:Pos}{e:Expr}{es:List Expr}{g:FA}
end
end FL
namespace FL
open PySem PySem.Spec PyProof.Rows L2
section
variable{X:Cx}
end
open PySem.W (tabIn CodeHd tabObj makeFunction_K makeFunction_hit fnMade fnX nestDef_K kla_callFunE envX)
section
variable{X:Cx}{aE:List (aB×Obj)}{σ : L2.St}{H:Hp}{s:aC}
end
section
variable{X:Cx}
end
section
variable{X:Cx}{aE:List (aB×Obj)}{σ : L2.St}{H:Hp}{s:aC}{cs:List aB}
end
section
variable{X:Cx}
end
end FL
namespace FL
open PySem PySem.Spec PyProof.Rows L2
section
variable{X:Cx}{tg:Expr}
end
section
variable{X:Cx}
end
open PySem.W (tabIn CodeHd)
section
variable{X:Cx}
end
section
variable{X:Cx}{E:XK}{C:aB}
end
section
variable{X:Cx}{k j:Nat}{n:Nat}{F:List D->Option Ret}{x:Str}{p pos:Pos}{e:Expr}{es:List Expr}{g:FA}
end
end FL
namespace FL
open PySem PySem.Spec PyProof.Rows L2
section
variable{X:Cx}{E:XK}{C:aB}
end
section
variable{X:Cx}{E:XK}{C:aB}
end
end FL
namespace L2
open PySem PySem.Spec PyProof.Rows
section
variable{X:Cx}
end
end L2
namespace FL
open PySem PySem.Spec PyProof.Rows L2
section
variable{X:Cx}{E:XK}{C:aB}
end
section
variable{X:Cx}
end
end FL
namespace L2
open PySem PySem.Spec PyProof.Rows
open Builtin Builtin.Str
section
variable{X:Cx}
end
end L2
namespace FL
open PySem PySem.Spec PyProof.Rows L2
section
variable{X:Cx}
section
variable{o e:Expr}{apos cpos:Pos}{f g:FE}{name:Str}{id:String}
theorem AQ{K:Frag}{H:Hp}{O:aB->Prop}:∀(l:List Str),Reps K H O (l.map V.str) (l.map D.str)
 |[]=>.nil
 |a::l=>.cons (.str a) (AQ l)
end
end
section
variable{X:Cx}{E:XK}{C:aB}
theorem pe_or{e:Expr}{t u:TE}(h1:PE X e t)(h2:PE X e u):PE X e (fun σ H Q=>t σ H Q\/u σ H Q):=fun aE s σ H Q I h=>h.elim (h1 aE s σ H Q I) (h2 aE s σ H Q I)
section
variable{x:Str}{p pos:Pos}{e:Expr}{t k j:Nat}{G:List D->Option (List D)}{y:List Sl->Bool}
end
end
end FL
namespace L2
open PySem PySem.Spec PyProof.Rows
section
variable{prog:aX}{w:bW}{A:bT}{E:aA->aC->Prop}{s:aC}
end
section
variable{X:Cx}{pos:Pos}
end
end L2
namespace FL
open PySem PySem.Spec PyProof.Rows L2
section
variable{X:Cx}
end
section
variable{K:Frag}{H H' H₀ : Hp}{O O':aB->Prop}
abbrev orL(fs:List aB)(O:aB->Prop):aB->Prop:=fun b=>b∈fs\/O b
theorem Rep.moreL{v:V}{d:D}:∀{ps:List aB},(∀p∈ps,H p=none)->Rep K H O v d->Rep K H (orL ps O) v d
 |[],_,h=>h.less fun a z=>z.elim (fun q=>nomatch q) id
 |p::ps,hp,h=>((Rep.moreL (ps:=ps) (fun q hq=>hp q (.tail _ hq)) h).more (p:=p) (hp p (.head _))).less fun a z=>z.elim (fun q=>(aF.mp q).elim .inl fun q=>.inr (.inl q)) fun q=>.inr (.inr q)
theorem Reps.moreL{v:List V}{d:List D}:∀{ps:List aB},(∀p∈ps,H p=none)->Reps K H O v d->Reps K H (orL ps O) v d
 |[],_,h=>h.less fun a z=>z.elim (fun q=>nomatch q) id
 |p::ps,hp,h=>((Reps.moreL (ps:=ps) (fun q hq=>hp q (.tail _ hq)) h).more (p:=p) (hp p (.head _))).less fun a z=>z.elim (fun q=>(aF.mp q).elim .inl fun q=>.inr (.inl q)) fun q=>.inr (.inr q)
theorem RepO.moreL{v:V}{t:OT}{fs:List aB}:∀{ps:List aB},(∀p∈ps,H p=none)->RepO K H O v t fs->RepO K H (orL ps O) v t fs
 |[],_,h=>h.less (fun a z=>z.elim (fun q=>nomatch q) id) fun b hb=>.inr (h.owns b hb).1
 |p::ps,hp,h=>((RepO.moreL (ps:=ps) (fun q hq=>hp q (.tail _ hq)) h).more (p:=p) (hp p (.head _))).less (fun a z=>z.elim (fun q=>(aF.mp q).elim .inl fun q=>.inr (.inl q)) fun q=>.inr (.inr q)) fun b hb=>.inr (h.owns b hb).1
theorem Ok.moreL{σ : L2.St}{ds:List Sl}{hd:Hold}{fs:List aB}(o:Ok K H₀ H O σ ds hd)(s:Same H H')(hn:∀b∈fs,H b=none)(hl:∀b∈fs,∃u:MutHO,H' b=some u.1):Ok K H₀ H' (orL fs O) σ ds hd:=by
 refine⟨o.same.trans s,o.fresh,fun b hb=>hb.elim (hl b) fun z=>let ⟨xs,e⟩:=o.dom b z;⟨xs,s _ _ e⟩,o.len,fun i sl e=>?_,o.apart,fun p hp=>?_,o.obs.tr (fun _ _ _ r _=>(r.moreL hn).mono s) (fun _ _ _ e=>⟨e,rfl⟩) fun _ _ oj ej=>.inl ⟨oj,ej⟩⟩
 . cases sl with
   |no=>exact jC
   |ob r t=>exact jU
   | exc t =>
     obtain⟨a',C',ob',u',q1,q2,q3,q4⟩:=o.readX e;rw[q1];exact⟨C',ob',u',q2,s _ _ q3,q4⟩
   | fr l' =>
     obtain⟨a',xs',q1,q2,q0,q3,q4⟩:=o.readF e;rw[q1];exact⟨fun z=>z.elim (fun z=>by rw[hn _ z] at q3;cases q3) q2,q0,xs',s _ _ q3,(q4.moreL hn).mono s⟩
   | v d =>
     obtain⟨v,h1,h2⟩:=o.read e;rw[h1];exact jZ ((h2.moreL hn).mono s)
   | own l' =>
     obtain⟨b,ys,h1,h2,h3,h4⟩:=o.readO e;rw[h1];exact⟨.inr h2,ys,s _ _ h3,(h4.moreL hn).mono s⟩
 . have := o.hold p hp;cases p with
   |rep v d=>exact(Rep.moreL hn this).mono s
   |base B=>exact fun b hb=>⟨.inr (this b hb).1,(this b hb).2⟩
   |root k a=>exact True.intro
   |fz a' o' kvs' l'=>exact⟨fun z=>z.elim (fun z=>by have:=this.2.1;rw[hn _ z] at this;cases this) this.1,s _ _ this.2.1,(Reps.moreL hn this.2.2).mono s⟩
theorem Ok.setOb{σ : L2.St}{ds:List Sl}{hd:Hold}{fs:List aB}{i:Nat}{v:V}{t:OT}(o:Ok K H₀ H O σ ds hd)(s:Same H H')(r:RepO K H' (orL fs O) v t fs)(nd:fs.Nodup)(hn:∀b∈fs,H b=none) :
  Ok K H₀ H' (orL fs O) (σ.set i (some v)) (ds.set i (.ob none t)) hd:=by
 have o1:Ok K H₀ H' (orL fs O) σ ds hd:=o.moreL s hn fun b hb=>(r.owns b hb).2;have own':∀{j:Nat},IsOwn (ds.set i (.ob none t)) j->IsOwn ds j/\j≠i:=fun h=>wR (fun l=>by intro z;cases z) h;refine⟨o1.same,fun j l a e1 e2=>?_,o1.dom,by simpa using o1.len,fun j sl e=>?_,fun j k a hjk hj hk e1 e2=>?_,o1.hold,?_⟩
 . obtain⟨⟨l', e'⟩, n1⟩ := own' ⟨l, e1⟩;rw[aH (Ne.symm n1)] at e2;exact o1.fresh j l' a e' e2
 . by_cases hj : j = i
   . subst hj
     by_cases hl:j<ds.length
     . rw[bI hl] at e;cases e;exact jU
     . rw[bC (by simpa using hl)] at e;cases e
   . rw[aH (Ne.symm hj)] at e;rw[aH (Ne.symm hj)];exact o1.sl j sl e
 . obtain⟨h1, n1⟩ := own' hj;obtain⟨h2,n2⟩:=own' hk;rw[aH (Ne.symm n1)] at e1;rw[aH (Ne.symm n2)] at e2;exact o1.apart j k a hjk h1 h2 e1 e2
 . obtain ⟨F, hF⟩ := o.obs
   have ne:∀{j:Nat} {r':Option Nat} {t':OT},ds[j]?=some (.ob r' t')->∀b∈F j,b∉fs:=fun {j r' t'} e b hb z=>by
    obtain⟨w,_,q,_⟩:=hF j r' t' e;obtain⟨_,xs,ex⟩:=q.owns b hb;rw[hn b z] at ex;cases ex
   refine⟨fun j=>if j=i then fs else F j,fun j r' t' e=>?_⟩
   by_cases hj:j=i
   . subst hj
     by_cases hl:j<ds.length
     . rw [bI hl] at e;cases e;refine ⟨v,by rw [bI (by rw [o.len]; exact hl)],by simpa using r,(fun k a z=>by cases z),by simpa using nd,fun b hb=>?_⟩;have hb:b∈fs:=by simpa using hb
       refine⟨o.same.free (hn b hb),fun k r2 t2 hk e2 z=>?_,fun k ok ek=>?_⟩
       . simp only[hk, if_false] at z;rw[aH (Ne.symm hk)] at e2;exact ne e2 b z hb
       . obtain⟨⟨l2, e2⟩, hk⟩ := own' ok;rw[aH (Ne.symm hk)] at ek;obtain⟨b',ys,q1,_,q3,_⟩:=o.readO e2;rw[ek] at q1;cases q1;rw[hn b hb] at q3;cases q3
     . rw[bC (by simpa using hl)] at e;cases e
   . rw [aH (Ne.symm hj)] at e;obtain ⟨w,h1,h2,h3,h4,h5⟩:=hF j r' t' e;refine ⟨w,by rw [aH (Ne.symm hj)]; exact h1,by simp only [hj,if_false]; exact (h2.moreL hn).mono s,h3,by simpa [hj] using h4,fun b hb=>?_⟩;have hb:b∈F j:=by simpa [hj] using hb
     refine⟨(h5 b hb).1,fun k r2 t2 hk e2 z=>?_,fun k ok ek=>?_⟩
     . by_cases hki : k = i
       . simp only[hki, if_true] at z;exact ne e b hb z
       . simp only[hki, if_false] at z;rw[aH (Ne.symm hki)] at e2;exact(h5 b hb).2.1 k r2 t2 hk e2 z
     . obtain⟨ok', hk⟩ := own' ok;rw[aH (Ne.symm hk)] at ek;exact(h5 b hb).2.2 k ok' ek
inductive Kid(H:Hp)(b:aB):List V->Prop
 |tup {xs:List V} (h:Rd H b (.tup xs)):Kid H b xs
 |lst {xs:List V} (h:H b=some (.lst xs)):Kid H b xs
 |dct {kvs:List (Key×V)} (h:H b=some (.dK kvs)):Kid H b (kvs.map (·.2))
 |ins {C dx:aB} {kvs:List (Str×V)} (h:H b=some (.ins C dx kvs)):Kid H b (kvs.map (·.2))
noncomputable def PathV(H:Hp):V->List Nat->V->Prop
 |v,[],w=>w=v
 |v,k::p,w=>∃b xs x,v=.ref b/\Kid H b xs/\xs[k]?=some x/\PathV H x p w
theorem Kid.det{b:aB}{xs ys:List V}(h:Kid H b xs)(g:Kid H b ys):xs=ys:=by
 have rd:∀{zs ws:List V},Rd H b (.tup zs)->Rd H b (.tup ws)->zs=ws:=fun h g=>by
  rcases h with h | ⟨o,h⟩<;>rcases g with g | ⟨o',g⟩<;>rw[h] at g<;>cases g<;>rfl
 have no:∀{zs:List V} {u:HO},Rd H b (.tup zs)->H b=some u->(∀ws,u≠.tup ws)->(∀o w,u≠.frz o w)->False:=fun h g n1 n2=>by
  rcases h with h | ⟨o,h⟩<;>rw[h] at g<;>cases g
  . exact n1 _ rfl
  . exact n2 _ _ rfl
 cases h with
 | tup h => cases g with
   |tup g=>exact rd h g
   |lst g=>exact(no h g (fun _ z=>by cases z) (fun _ _ z=>by cases z)).elim
   |dct g=>exact(no h g (fun _ z=>by cases z) (fun _ _ z=>by cases z)).elim
   |ins g=>exact(no h g (fun _ z=>by cases z) (fun _ _ z=>by cases z)).elim
 | lst h => cases g with
   |tup g=>exact(no g h (fun _ z=>by cases z) (fun _ _ z=>by cases z)).elim
   |lst g=>rw[h] at g;cases g;rfl
   |dct g=>rw[h] at g;cases g
   |ins g=>rw[h] at g;cases g
 | dct h => cases g with
   |tup g=>exact(no g h (fun _ z=>by cases z) (fun _ _ z=>by cases z)).elim
   |lst g=>rw[h] at g;cases g
   |dct g=>rw[h] at g;cases g;rfl
   |ins g=>rw[h] at g;cases g
 | ins h => cases g with
   |tup g=>exact(no g h (fun _ z=>by cases z) (fun _ _ z=>by cases z)).elim
   |lst g=>rw[h] at g;cases g
   |dct g=>rw[h] at g;cases g
   |ins g=>rw[h] at g;cases g;rfl
theorem jR:∀{p:List Nat} {v x y:V},PathV H v p x->PathV H v p y->x=y
 |[],v,x,y,h,g=>h.trans g.symm
 | k :: p, v, x, y, ⟨b, xs, z, h1, h2, h3, h4⟩, ⟨b', xs', z', g1, g2, g3, g4⟩ => by
   rw[h1] at g1;cases g1;cases h2.det g2;rw[h3] at g3;cases g3;exact jR h4 g4
theorem AV:∀{p:List Nat} {k:Nat} {v x:V} {b:aB} {xs:List V},PathV H v p (.ref b)->Kid H b xs->xs[k]?=some x->PathV H v (p++[k]) x
 |[],k,v,x,b,xs,h,hk,hx=>⟨b,xs,x,h.symm,hk,hx,rfl⟩
 |j::p,k,v,x,b,xs,⟨c,ys,y,h1,h2,h3,h4⟩,hk,hx=>⟨c,ys,y,h1,h2,h3,AV h4 hk hx⟩
theorem xA:∀(p:List Nat) (k:Nat) (t:OT),subO (p++[k]) t=(subO p t).bind (subO [k])
 |[],k,t=>by simp[subO]
 | j :: p, k, t => by
   cases t with
   |val d=>simp[subO]
   |lst l=>simp only[eS,subO];cases l[j]?<;>simp[xA p k]
   |tup l=>simp only[eS,subO];cases l[j]?<;>simp[xA p k]
   |dct ks l=>simp only[eS,subO];cases l[j]?<;>simp[xA p k]
   |ins c l=>simp only[eS,subO];cases l[j]?<;>simp[xA p k]
theorem RepsO.length:∀{xs:List V} {ts:List OT} {fs:List aB},RepsO K H O xs ts fs->xs.length=ts.length
 |_,_,_,.nil=>rfl
 |_,_,_,.cons _ r=>by simp[RepsO.length r]
theorem RepsO.pick:∀{xs:List V} {ts:List OT} {fs:List aB} {k:Nat} {t:OT},RepsO K H O xs ts fs->ts[k]?=some t->∃(x:V) (pre f post:List aB),xs[k]?=some x/\fs=pre++(f++post)/\RepO K H O x t f ∧
  ∀{H':Hp} {O':aB->Prop} {g:OT->OT} {f':List aB},RepO K H' O' x (g t) f'->(∀y s e,RepO K H O y s e->(∀b∈e,b∈pre\/b∈post)->RepO K H' O' y s e)->RepsO K H' O' xs (ts.modify k g) (pre++(f'++post))
 | _, _, _, 0, t, .cons (x := x) (fs := f) (gs := gs) h r, e => by
   simp only[dJ,Option.some.injEq] at e;subst e;refine⟨x,[],f,gs,rfl,rfl,h,fun {H' O' g f'} h' ho=>?_⟩
   have:∀{xs:List V} {ts:List OT} {gs':List aB},RepsO K H O xs ts gs'->(∀b∈gs',b∈gs)->RepsO K H' O' xs ts gs':=by
    intro xs ts gs' h
    induction xs generalizing ts gs' with
    |nil=>intro _;cases h;exact .nil
    | cons y ys ih =>
      intro hb;cases h with
      |cons h1 h2=>exact .cons (ho _ _ _ h1 fun b z=>.inr (hb b (bE _ z))) (ih h2 fun b z=>hb b (aI _ z))
   show RepsO K H' O' _ _ (f'++gs);exact .cons h' (this r fun _ z=>z)
 | _, _, _, k + 1, t, .cons (x := x) (t := t0) (fs := f0) (gs := gs) h r, e => by
   obtain⟨y,pre,f,post,h1,h2,h3,h4⟩:=RepsO.pick (k:=k) (t:=t) r (by simpa using e);refine⟨y,f0++pre,f,post,by simpa using h1,by rw[h2];simp,h3,fun {H' O' g f'} h' ho=>?_⟩;have q:=h4 h' fun z s e' hz hb=>ho z s e' hz fun b hb'=>(hb b hb').elim (fun z=>.inl (aI _ z)) .inr;have:=RepsO.cons (ho _ _ _ h fun b hb=>.inl (bE _ hb)) q;simpa[bR] using this
theorem OU{pre f post:List aB}(nd:(pre++(f++post)).Nodup):f.Nodup/\(∀b∈f,b∉pre/\b∉post)/\∀(f':List aB),f'.Nodup->(∀b∈f',b∈f\/(b∉pre/\b∉post))->(pre++(f'++post)).Nodup:=by
 rw[cS] at nd;obtain⟨n1,n2,n3⟩:=nd;rw[cS] at n2;obtain⟨n4,n5,n6⟩:=n2;have ap:∀b∈f,b∉pre/\b∉post:=fun b hb=>⟨fun z=>n3 b z b (bE _ hb) rfl,fun z=>n6 b hb b z rfl⟩
 refine⟨n4,ap,fun f' hf hs=>?_⟩;have ap':∀b∈f',b∉pre/\b∉post:=fun b hb=>(hs b hb).elim (ap b) id;rw[cS];refine⟨n1,?_,fun a ha b hb e=>?_⟩
 . rw[cS];exact⟨hf,n5,fun a ha b hb e=>(ap' a ha).2 (e▸hb)⟩
 . rcases bM.mp hb with z | z
   . exact(ap' b z).1 (e▸ha)
   . exact n3 a ha b (aI _ z) e
structure Chg(H H':Hp)(O O':aB->Prop)(f:List aB)(f':List aB):Prop where
 keep:∀b u,¬O b->H b=some u->H' b=some u
 rest:∀b u,O b->b∉f->H b=some u->H' b=some u
 sub:∀b,O b->b∉f->O' b
 new:∀b,O' b->O b\/(b∈f'/\H b=none)
 fp:∀b∈f',b∈f\/H b=none
theorem Chg.rep{f f':List aB}(c:Chg H H' O O' f f'){v:V}{d:D}(r:Rep K H O v d):Rep K H' O' v d:=by
 have hn:∀p∈f'.filter (fun b=>(H b).isNone),H p=none:=fun p hp=>by simpa using(eJ.mp hp).2
 have r1:=(r.moreL hn).keep (H':=H') fun b u hb e=>c.keep b u (fun z=>hb (.inr z)) e;exact r1.less (O':=O') fun a z=>(c.new a z).elim .inr fun q=>.inl (eJ.mpr ⟨q.1,by rw[q.2];rfl⟩)
theorem Chg.reps{f f':List aB}(c:Chg H H' O O' f f'){v:List V}{d:List D}(r:Reps K H O v d):Reps K H' O' v d:=by
 have hn:∀p∈f'.filter (fun b=>(H b).isNone),H p=none:=fun p hp=>by simpa using(eJ.mp hp).2
 have r1:=(r.moreL hn).keep (H':=H') fun b u hb e=>c.keep b u (fun z=>hb (.inr z)) e;exact r1.less (O':=O') fun a z=>(c.new a z).elim .inr fun q=>.inl (eJ.mpr ⟨q.1,by rw[q.2];rfl⟩)
theorem Chg.repO{f f':List aB}(c:Chg H H' O O' f f'){v:V}{t:OT}{e:List aB}(r:RepO K H O v t e)(he:∀b∈e,b∉f):RepO K H' O' v t e:=by
 have hn:∀p∈f'.filter (fun b=>(H b).isNone),H p=none:=fun p hp=>by simpa using(eJ.mp hp).2
 have r1:=(r.moreL hn).keep (H':=H') (fun b u hb e=>c.keep b u (fun z=>hb (.inr z)) e) fun b hb u eb=>c.rest b u (r.owns b hb).1 (he b hb) eb;exact r1.less (O':=O') (fun a z=>(c.new a z).elim .inr fun q=>.inl (eJ.mpr ⟨q.1,by rw[q.2];rfl⟩)) fun b hb=>c.sub b (r.owns b hb).1 (he b hb)
theorem RepO.modAt:∀(p:List Nat) {v:V} {t u:OT} {fs:List aB},RepO K H O v t fs->fs.Nodup->subO p t=some u->∃w f,PathV H v p w/\RepO K H O w u f/\f.Nodup/\(∀b∈f,b∈fs) ∧
  ∀{H':Hp} {O':aB->Prop} {u':OT} {f':List aB},Chg H H' O O' f f'->RepO K H' O' w u' f'->f'.Nodup->∃fs',RepO K H' O' v (putO u' p t) fs'/\fs'.Nodup/\(∀b∈fs',b∈fs\/b∈f')/\∀b∈f',b∈fs'
 | [], v, t, u, fs, r, nd, e => by
   cases e;exact⟨v,fs,rfl,r,nd,fun _ h=>h,fun {H' O' u' f'} c r' nd'=>⟨f',r',nd',fun b hb=>.inr hb,fun b hb=>hb⟩⟩
 | k :: p, v, t, u, fs, r, nd, e => by
   have core:∀{xs:List V} {ts:List OT} {gs:List aB},RepsO K H O xs ts gs->gs.Nodup->(ts[k]?).bind (subO p)=some u->∃x w f,xs[k]?=some x/\PathV H x p w/\RepO K H O w u f/\f.Nodup/\(∀b∈f,b∈gs) ∧
     ∀{H':Hp} {O':aB->Prop} {u':OT} {f':List aB},Chg H H' O O' f f'->RepO K H' O' w u' f'->f'.Nodup->∃gs',RepsO K H' O' xs (ts.modify k (putO u' p)) gs'/\gs'.Nodup/\(∀b∈gs',b∈gs\/b∈f')/\∀b∈f',b∈gs':=by
    intro xs ts gs rs nds es;obtain⟨t1,ht,es⟩:=bnd es;obtain⟨x,pre,f0,post,h1,rfl,h3,h4⟩:=rs.pick ht;obtain⟨nf,nfr,nre⟩:=OU nds;obtain⟨w,f,g1,g2,g3,g4,g5⟩:=RepO.modAt p h3 nf es;have inn:∀b∈f,b∈pre++(f0++post):=fun b hb=>aI _ (bE _ (g4 b hb));refine⟨x,w,f,h1,g1,g2,g3,inn,fun {H' O' u' f'} c r' nd'=>?_⟩;obtain⟨f1,q1,q2,q3,q4⟩:=g5 c r' nd'
    have old:∀b,b∈pre++(f0++post)->H b≠none:=fun b hb z=>by
     obtain⟨_,y,ey⟩:=rs.owns b hb;rw[z] at ey;cases ey
    refine⟨pre++(f1++post),h4 (g:=putO u' p) q1 fun y s e hy hb=>c.repO hy fun b hb' z=>?_,nre f1 q2 fun b hb=>?_,fun b hb=>?_,fun b hb=>aI _ (bE _ (q4 b hb))⟩
    . exact(hb b hb').elim (nfr b (g4 b z)).1 (nfr b (g4 b z)).2
    . rcases q3 b hb with z | z
      . exact .inl z
      . rcases c.fp b z with y | y
        . exact .inl (g4 b y)
        . exact .inr ⟨fun q=>old b (bE _ q) y,fun q=>old b (aI _ (aI _ q)) y⟩
    . rcases bM.mp hb with z | z
      . exact .inl (bE _ z)
      . rcases bM.mp z with z | z
        . exact(q3 b z).imp (fun z=>aI _ (bE _ z)) id
        . exact .inl (aI _ (aI _ z))
   have head:∀{a0:aB} {gs gs' f f':List aB} {H':Hp} {O':aB->Prop},(a0::gs).Nodup->O a0->H a0≠none->Chg H H' O O' f f'->gs'.Nodup->(∀b∈gs',b∈gs\/b∈f')->(∀b∈f,b∈gs)->(a0::gs').Nodup/\(∀b∈a0::gs',b∈a0::gs\/b∈f')/\a0∉f:=by
    intro a0 gs gs' f f' H' O' nd0 oa ha c ndg hg hf;obtain⟨n0,_⟩:=bU.mp nd0;refine⟨bU.mpr ⟨fun z=>?_,ndg⟩,fun b hb=>?_,fun z=>n0 (hf a0 z)⟩
    . rcases hg a0 z with y | y
      . exact n0 y
      . exact(c.fp a0 y).elim (fun q=>n0 (hf a0 q)) ha
    . rcases aF.mp hb with rfl | z
      . exact .inl (.head _)
      . exact(hg b z).imp (fun y=>.tail _ y) id
   cases r with
   |val r=>simp[subO] at e
   | tup n h r =>
     obtain⟨x,w,f,h1,g1,g2,g3,g4,g5⟩:=core r nd e;refine⟨w,f,⟨_,_,x,rfl,.tup h,h1,g1⟩,g2,g3,g4,fun {H' O' u' f'} c r' nd'=>?_⟩;obtain⟨gs',q1,q2,q3,q4⟩:=g5 c r' nd';refine⟨gs',?_,q2,q3,q4⟩;have kk:Keep O H H':=fun b u hb eb=>c.keep b u hb eb;exact .tup (fun z=>(c.new _ z).elim n fun q=>Rd.some h q.2) (kk.rd n h) q1
   | lst n h r =>
     obtain⟨x,w,f,h1,g1,g2,g3,g4,g5⟩:=core r (bU.mp nd).2 e;refine⟨w,f,⟨_,_,x,rfl,.lst h,h1,g1⟩,g2,g3,fun b hb=>.tail _ (g4 b hb),fun {H' O' u' f'} c r' nd'=>?_⟩;obtain⟨gs',q1,q2,q3,q4⟩:=g5 c r' nd';obtain⟨k1,k2,k3⟩:=head nd n (by rw[h];simp) c q2 q3 g4;exact⟨_::gs',.lst (c.sub _ n k3) (c.rest _ _ n k3 h) q1,k1,k2,fun b hb=>.tail _ (q4 b hb)⟩
   | dct n h he r =>
     obtain⟨x,w,f,h1,g1,g2,g3,g4,g5⟩:=core r (bU.mp nd).2 e;refine⟨w,f,⟨_,_,x,rfl,.dct h,h1,g1⟩,g2,g3,fun b hb=>.tail _ (g4 b hb),fun {H' O' u' f'} c r' nd'=>?_⟩;obtain⟨gs',q1,q2,q3,q4⟩:=g5 c r' nd';obtain⟨k1,k2,k3⟩:=head nd n (by rw[h];simp) c q2 q3 g4;exact⟨_::gs',.dct (c.sub _ n k3) (c.rest _ _ n k3 h) he q1,k1,k2,fun b hb=>.tail _ (q4 b hb)⟩
   | ins hc n h he r =>
     obtain⟨x,w,f,h1,g1,g2,g3,g4,g5⟩:=core r (bU.mp nd).2 e;refine⟨w,f,⟨_,_,x,rfl,.ins h,h1,g1⟩,g2,g3,fun b hb=>.tail _ (g4 b hb),fun {H' O' u' f'} c r' nd'=>?_⟩;obtain⟨gs',q1,q2,q3,q4⟩:=g5 c r' nd';obtain⟨k1,k2,k3⟩:=head nd n (by rw[h];simp) c q2 q3 g4;exact⟨_::gs',.ins hc (c.sub _ n k3) (c.rest _ _ n k3 h) he q1,k1,k2,fun b hb=>.tail _ (q4 b hb)⟩
theorem Ok.modAt{σ : L2.St}{ds:List Sl}{hd:Hold}{i:Nat}{r:Option Nat}{t u:OT}{p:List Nat}(o:Ok K H₀ H O σ ds hd)(e:ds[i]?=some (.ob r t))(hs:subO p t=some u) :
  ∃v w f,σ[i]?=some (some v)/\PathV H v p w/\RepO K H O w u f/\f.Nodup/\(∀b∈f,H₀ b=none) ∧
   ∀{H':Hp} {O':aB->Prop} {u':OT} {f':List aB},Chg H H' O O' f f'->(∀b∈f,O' b->∃y:MutHO,H' b=some y.1)->RepO K H' O' w u' f'->f'.Nodup->Ok K H₀ H' O' σ (ds.set i (.ob r (putO u' p t))) hd:=by
 obtain⟨F,hF⟩:=o.obs;obtain⟨v,h1,h2,h3,h4,h5⟩:=hF i r t e;obtain⟨w,f,g1,g2,g3,g4,g5⟩:=h2.modAt p h4 hs;have hl:i<ds.length:=(bF.mp e).1;refine⟨v,w,f,h1,g1,g2,g3,fun b hb=>(h5 b (g4 b hb)).1,fun {H' O' u' f'} c hf r' nd'=>?_⟩;obtain⟨fs',q1,q2,q3,q4⟩:=g5 c r' nd';have own':∀{j:Nat},IsOwn (ds.set i (.ob r (putO u' p t))) j->IsOwn ds j/\j≠i:=fun h=>wR (fun l=>by intro z;cases z) h;have nown:∀{j:Nat} {b:aB},IsOwn ds j->σ[j]?=some (some (.ref b))->b∉f:=fun {j b} oj ej z=>(h5 b (g4 b z)).2.2 j oj ej;have free0:∀b,H b=none->H₀ b=none:=fun b hb=>o.same.free hb;refine⟨fun b x eb=>?_,fun j l b e1 e2=>?_,fun b hb=>?_,by simpa using o.len,fun j sl es=>?_,fun j m b hjm hj hm e1 e2=>o.apart j m b hjm (own' hj).1 (own' hm).1 e1 e2,fun q hq=>?_,?_⟩
 . have hb := o.same b x eb
   by_cases ob:O b
   . by_cases bf : b ∈ f
     . rw[(h5 b (g4 b bf)).1] at eb;cases eb
     . exact c.rest b x ob bf hb
   . exact c.keep b x ob hb
 . obtain⟨⟨l', e'⟩, _⟩ := own' ⟨l, e1⟩;exact o.fresh j l' b e' e2
 . rcases c.new b hb with z | z
   . by_cases bf : b ∈ f
     . exact hf b bf hb
     . obtain⟨y, ey⟩ := o.dom b z;exact⟨y,c.rest b _ z bf ey⟩
   . exact(r'.owns b z.1).2
 . by_cases hj : j = i
   . subst hj;rw[bI hl] at es;cases es;exact jU
   . rw [aH (Ne.symm hj)] at es;cases sl with
     |no=>exact jC
     |ob r t=>exact jU
     | exc t =>
       obtain⟨a',C',ob',x',q1,q2,q3,q4⟩:=o.readX es;rw[q1];refine⟨C',ob',x',q2,c.keep _ _ (fun z=>?_) q3,q4⟩;obtain⟨y,ey⟩:=o.dom _ z;rw[q3] at ey;have h2:=y.2;rw[<- Option.some.inj ey] at h2;cases h2
     | fr l' =>
       obtain⟨a',xs'',q1,q2,q0,q3,q4⟩:=o.readF es;rw[q1];exact⟨fun z=>(c.new _ z).elim q2 (fun y=>by rw[y.2] at q3;cases q3),q0,xs'',c.keep _ _ q2 q3,c.reps q4⟩
     | v d =>
       obtain⟨v,q1,q2⟩:=o.read es;rw[q1];exact jZ (c.rep q2)
     | own l'' =>
       obtain⟨b,ys,q1,q2,q3,q4⟩:=o.readO es;rw[q1];exact⟨c.sub _ q2 (nown ⟨l'',es⟩ q1),ys,c.rest _ _ q2 (nown ⟨l'',es⟩ q1) q3,c.reps q4⟩
 . have := o.hold q hq;cases q with
   |rep v d=>exact c.rep this
   |base B=>exact fun b hb=>⟨c.sub _ (this b hb).1 (fun z=>(this b hb).2 (h5 b (g4 b z)).1),(this b hb).2⟩
   |root k a=>exact True.intro
   |fz a' o' kvs' l'=>exact⟨fun z=>(c.new _ z).elim this.1 (fun y=>by have z:=this.2.1;rw[y.2] at z;cases z),c.keep _ _ this.1 this.2.1,c.reps this.2.2⟩
 . refine ⟨fun j => if j = i then fs' else F j, fun j r2 t2 ej => ?_⟩;have fsOld:∀ b∈fs',b∈F i \/ H b=none:=fun b hb=>(q3 b hb).elim .inl fun z=>(c.fp b z).imp (g4 b) id
   by_cases hj:j=i
   . subst hj;rw [bI hl] at ej;cases ej;refine ⟨v,h1,by simpa using q1,h3,by simpa using q2,fun b hb=>?_⟩;have hb:b∈fs':=by simpa using hb
     rcases fsOld b hb with z | z
     . refine⟨(h5 b z).1, fun m r3 t3 hm e3 y => ?_, fun m om em => (h5 b z).2.2 m (own' om).1 em⟩;simp only[hm,if_false] at y;rw[aH (Ne.symm hm)] at e3;exact(h5 b z).2.1 m r3 t3 hm e3 y
     . refine ⟨free0 b z, fun m r3 t3 hm e3 y => ?_, fun m om em => ?_⟩
       . simp only[hm, if_false] at y;rw[aH (Ne.symm hm)] at e3;obtain⟨_,_,w3,_⟩:=hF m r3 t3 e3;obtain⟨_,x3,ex3⟩:=w3.owns b y;rw[z] at ex3;cases ex3
       . obtain⟨⟨l3, e3⟩, _⟩ := own' om;obtain⟨b3,ys,y1,_,y3,_⟩:=o.readO e3;rw[em] at y1;cases y1;rw[z] at y3;cases y3
   . rw [aH (Ne.symm hj)] at ej;obtain ⟨w2,y1,y2,y3,y4,y5⟩:=hF j r2 t2 ej;have apart:∀ b∈F j,b ∉ f:=fun b hb z=>(h5 b (g4 b z)).2.1 j r2 t2 hj ej hb;refine ⟨w2,y1,by simp only [hj,if_false]; exact c.repO y2 apart,y3,by simpa [hj] using y4,fun b hb=>?_⟩;have hb:b∈F j:=by simpa [hj] using hb
     refine⟨(y5 b hb).1,fun m r3 t3 hm e3 z=>?_,fun m om em=>(y5 b hb).2.2 m (own' om).1 em⟩
     by_cases hmi:m=i
     . simp only [hmi, if_true] at z;rcases fsOld b z with x | x
       . exact(y5 b hb).2.1 i r t (fun z=>hj z.symm) e x
       . obtain⟨_, x3, ex3⟩ := y2.owns b hb;rw[x] at ex3;cases ex3
     . simp only[hmi, if_false] at z;rw[aH (Ne.symm hmi)] at e3;exact(y5 b hb).2.1 m r3 t3 hm e3 z
end
section
variable(X:Cx)
def PVo(e:Expr)(f:FO):Prop:=∃t,PE X e t/\∀H₀ H O σ ds hd T Q,Ok X.K H₀ H O σ ds hd->f ds=some T->(∀v H' fs,Same H H'->RepO X.K H' (orL fs O) v T fs->fs.Nodup->(∀b∈fs,H b=none)->Q v H')->t σ H Q
def PAo(es:List Expr)(f:FOs):Prop:=∃t,PA X es t/\∀H₀ H O σ ds hd T Q,Ok X.K H₀ H O σ ds hd->f ds=some T->(∀vs H' fs,Same H H'->RepsO X.K H' (orL fs O) vs T fs->fs.Nodup->(∀b∈fs,H b=none)->Q vs H')->t σ H Q
def PVp(e:Expr)(f:FP):Prop:=∃t,PE X e t/\∀H₀ H O σ ds hd q Q,Ok X.K H₀ H O σ ds hd->f ds=some q->(∀r T v w fs,ds[q.1]?=some (.ob r T)->subO q.2.1 T=some q.2.2->σ[q.1]?=some (some v)->PathV H v q.2.1 w->RepO X.K H O w q.2.2 fs->Q w H)->t σ H Q
end
section
variable{X:Cx}
theorem tG{K:Frag}{H:Hp}{O:aB->Prop}:∀{xs:List V} {l:List D},Reps K H O xs l->RepsO K H O xs (l.map OT.val) []
 |_,_,.nil=>.nil
 |_,_,.cons h t=>.cons (fs:=[]) (gs:=[]) (.val h) (tG t)
theorem pvo_v{e:Expr}{f:FE}(h:PV X e f):PVo X e (vO f):=by
 obtain⟨t,ht,hf⟩:=h;refine⟨t,ht,fun H₀ H O σ ds hd T Q o e q=>?_⟩;unfold vO at e;obtain⟨d,h1,rfl⟩:=mpd e;exact hf H₀ H O σ ds hd d Q o h1 fun v H' s r=>q v H' [] s (.val (r.less fun a z=>z.elim (fun q=>nomatch q) id)) .nil (fun b hb=>nomatch hb)
theorem TV{e:Expr}{f:FA}(h:PVf X e f):PVo X e (lO f):=by
 obtain⟨t,ht,hf⟩:=h;refine⟨t,ht,fun H₀ H O σ ds hd T Q o e q=>?_⟩;unfold lO at e;obtain⟨l,h1,rfl⟩:=mpd e;refine hf H₀ H O σ ds hd l Q o h1 fun a xs H' s hn he r=>q (.ref a) H' [a] s ?_ (by simp) fun b hb=>by rw[aP.mp hb];exact hn
 exact .lst (.inl (.head _)) he (tG (r.less fun b z=>z.elim (fun q=>.inl (aP.mp q)) .inr))
theorem LQ:PAo X [] nilO:=⟨_,jT,fun _ H _ _ _ _ _ _ _ e q=>by cases e;exact q [] H [] (Same.refl _) .nil .nil (fun b hb=>nomatch hb)⟩
theorem VB{e:Expr}{es:List Expr}{f:FO}{g:FOs}(ha:PVo X e f)(hr:PAo X es g)(hs:aJ (e::es) X.env=(false,cC e X.env)::aJ es X.env:=by rfl):PAo X (e::es) (consO f g):=by
 obtain⟨t,ht,hf⟩:=ha;obtain⟨t2,ht2,hg⟩:=hr;refine⟨_,qW ht ht2 hs,fun H₀ H O σ ds hd T Q o e q=>?_⟩;unfold consO at e;obtain⟨x,h1,e⟩:=bnd e;obtain⟨r,h2,rfl⟩:=mpd e;refine hf H₀ H O σ ds hd x _ o h1 fun v H1 fs s1 r1 nd1 n1=>?_;refine hg H₀ H1 (orL fs O) σ ds hd r _ (o.moreL s1 n1 fun b hb=>(r1.owns b hb).2) h2 fun vs H2 gs s2 r2 nd2 n2=>?_;have eq:∀a,orL (fs++gs) O a->orL gs (orL fs O) a:=fun a z=>z.elim (fun z=>(bM.mp z).elim (fun z=>.inr (.inl z)) .inl) fun z=>.inr (.inr z);refine q _ H2 (fs++gs) (s1.trans s2) (.cons ?_ ?_) ?_ ?_
 . exact(((r1.moreL n2).mono s2).less eq fun b hb=>.inl (bE _ hb))
 . exact r2.less eq fun b hb=>.inl (aI _ hb)
 . rw[cS];refine⟨nd1,nd2,fun a ha b hb z=>?_⟩;obtain⟨_,xs,ex⟩:=r1.owns a ha;rw[z,n2 b hb] at ex;cases ex
 . intro b hb;rcases bM.mp hb with z | z
   . exact n1 b z
   . exact s1.free (n2 b z)
theorem pvo_s{es:List Expr}{pos:Pos}{g:FOs}(h:PAo X es g):PVo X (.List es pos) (sO g):=by
 obtain⟨t,ht,hf⟩:=h;refine⟨_,UV ht,fun H₀ H O σ ds hd T Q o e q=>?_⟩;unfold sO at e;obtain⟨l,h1,e⟩:=bnd e
 split at e
 . rename_i hl;cases e;refine hf H₀ H O σ ds hd l _ o h1 fun vs H1 fs s1 r1 nd n1=>⟨by rw [r1.length]; exact hl,fun p hp=>?_⟩
   have r2:RepsO X.K (upd H1 p (.lst vs)) (orL (p::fs) O) vs l fs:=by
    have e1:∀a,orL (p::fs) O a->orL [p] (orL fs O) a:=fun a z=>z.elim (fun z=>(aF.mp z).elim (fun z=>.inl (by rw[z];exact .head _)) fun z=>.inr (.inl z)) fun z=>.inr (.inr z);have mm:RepsO X.K H1 (ins1 p (orL fs O)) vs l fs:=r1.more hp;exact(mm.mono (zX hp _)).less (fun a z=>(e1 a z).elim (fun z=>.inl (aP.mp z)) .inr) fun b hb=>.inl (.tail _ hb)
   refine q _ _ (p::fs) (s1.trans (zX hp _)) (.lst (.inl (.head _)) zK r2) (bU.mpr ⟨fun z=>?_,nd⟩) fun b hb=>?_
   . obtain⟨_, xs, ex⟩ := r1.owns p z;rw[hp] at ex;cases ex
   . rcases aF.mp hb with z | z
     . rw[z];exact s1.free hp
     . exact n1 b z
 . cases e
theorem xB{i:Nat}{x:Str}{e:Expr}{pos pos':Pos}{f:FO}(hN:X.N.Nodup)(he:PVo X e f)(hi:X.N[i]?=some x:=by rfl)(hx:Loc X.env.scope x:=by first | exact Or.inl rfl | exact Or.inr rfl)(hs:eQ e (some (.Name x pos')) pos.line X.env=pure false:=by rfl)(hf:X.fn x=true\/X.env.scope.names.lookup x=some .local:=by first | exact .inl rfl | exact .inr rfl):PSv X (.Assign [.Name x pos'] e pos) (setB i f):=by
 obtain⟨t,ht,hg⟩:=he;refine⟨_,CO hN hi hx ht hs hf,fun H₀ H O σ ds hd out E o e h=>?_⟩;unfold setB at e;obtain⟨T,h1,rfl⟩:=mpd e;exact hg H₀ H O σ ds hd T _ o h1 fun v H' fs s r nd n=>h _ _ _ (o.setOb s r nd n)
theorem CD(i:Nat){x:Str}{pos:Pos}(hN:X.N[i]?=some x:=by rfl)(hv:Vis X.env.scope x:=by first | exact Or.inl rfl | exact Or.inr (Or.inl rfl) | exact Or.inr (Or.inr rfl))(hd:(x==("__debug__" : Str))=false:=by decide)(hcd:(x==("__classdict__" : Str))=false:=by decide):PVn X (.Name x pos) (getN i):=by
 refine⟨_,xD hN hv hd hcd,fun H₀ H O σ ds hd d Q o e q=>?_⟩;unfold getN at e;cases hs:ds[i]? with
 |none=>rw[hs] at e;cases e
 | some s =>
   rw[hs] at e;cases s with
   | v d' =>
     cases e;obtain⟨v,h1,h2⟩:=o.read hs;exact⟨v,h1,q v H (Same.refl _) (h2.less fun _ z=>z.elim)⟩
   |no=>cases e
   |exc _=>cases e
   |fr _=>cases e
   | own l =>
     cases e;obtain⟨a,xs,h1,h2,h3,h4⟩:=o.readO hs;exact⟨.ref a,h1,q _ H (Same.refl _) (.lst (fun z=>z) (.inl h3) (h4.less fun _ z=>z.elim))⟩
   | ob r t =>
     cases e;obtain⟨F,hF⟩:=o.obs;obtain⟨v,h1,h2,_⟩:=hF i r t hs;exact⟨v,h1,q v H (Same.refl _) h2.any⟩
theorem jV(i:Nat){x:Str}{pos:Pos}(hN:X.N[i]?=some x:=by rfl)(hv:Vis X.env.scope x:=by first | exact Or.inl rfl | exact Or.inr (Or.inl rfl) | exact Or.inr (Or.inr rfl))(hd:(x==("__debug__" : Str))=false:=by decide)(hcd:(x==("__classdict__" : Str))=false:=by decide):PVp X (.Name x pos) (varP i):=by
 refine⟨_,xD hN hv hd hcd,fun H₀ H O σ ds hd q Q o e h=>?_⟩;unfold varP at e;cases hs:ds[i]? with
 |none=>rw[hs] at e;cases e
 | some s =>
   rw[hs] at e;cases s with
   | ob r t =>
     cases e;obtain⟨F,hF⟩:=o.obs;obtain⟨v,h1,h2,_⟩:=hF i r t hs;exact⟨v,h1,h r t v v _ hs rfl h1 rfl h2⟩
   |_=>cases e
theorem RepsO.nth{K:Frag}{H:Hp}{O:aB->Prop}{xs:List V}{ts:List OT}{fs:List aB}{k:Nat}{t:OT}(h:RepsO K H O xs ts fs)(e:ts[k]?=some t):∃x f,xs[k]?=some x/\RepO K H O x t f:=by
 obtain⟨x,_,f,_,h1,_,h3,_⟩:=h.pick e;exact⟨x,f,h1,h3⟩
theorem Chg.ofUpd{H:Hp}{O:aB->Prop}{a:aB}{y:HO}{f f':List aB}(oa:O a)(ha:a∈f)(hf:∀b∈f',b∈f):Chg H (upd H a y) O O f f' :=
 ⟨fun b u nb e=>by have z:b≠a:=fun z=>nb (by rw[z];exact oa);rw[L2.upd_ne z];exact e,fun b u _ nb e=>by have z:b≠a:=fun z=>nb (by rw[z];exact ha);rw[L2.upd_ne z];exact e,fun _ z _=>z,fun _ z=>.inl z,fun b hb=>.inl (hf b hb)⟩
theorem UN{f:FP}{e:Expr}{pos p2 p3:Pos}(he:PVp X e f)(hline:(p2.endLine==p3.line)=true:=by rfl)(hbase:dH e "clear" X.env (cC e X.env)=cC e X.env:=by rfl)(hsw:eQ (.Call (.Attribute e "clear" p2) [] [] p3) none pos.line X.env=pure false:=by rfl) :
  PSv X (.Expr (.Call (.Attribute e "clear" p2) [] [] p3) pos) (clrP f):=by
 obtain⟨t,ht,hf⟩:=he;refine⟨_,wM (pe_bm0 iF PySem.F.slot_list_clear PySem.F.type_list_clear VY ht hbase hline) hsw,fun H₀ H O σ ds hd out E o e h=>?_⟩;unfold clrP at e;obtain⟨q,h1,e⟩:=bnd e
 split at e
 . rename_i hu;cases e;refine hf H₀ H O σ ds hd q _ o h1 fun r T v w fs g1 g2 g3 g4 _=>?_;obtain ⟨v',w',f',y1,y2,y3,y4,y5,y6⟩:=o.modAt g1 g2;rw [g3] at y1;cases y1;cases jR g4 y2;cases hq:q.2.2 with
   | lst l =>
     rw[hq] at y3;cases y3 with
     | @lst a xs _ fs' n hb rs =>
       have ok:=y6 (H':=upd H a (.lst [])) (O':=O) (u':=.lst []) (f':=[a]) (.ofUpd n (.head _) fun b z=>by rw[aP.mp z];exact .head _) (fun b z _=>?_) (.lst n zK .nil) (by simp)
       . have e' : putP q (.lst []) ds = ds.set q.1 (.ob r (putO (.lst []) q.2.1 T)) := by simp [putP, g1]
         rw[e'] at h;exact⟨.inl ⟨rfl,xs,SqL.of hb⟩,a,xs,rfl,rfl,hb,h _ _ _ ok⟩
       . by_cases z' : b = a
         . rw[z',zK];exact⟨⟨.lst [],rfl⟩,rfl⟩
         . rw [upd_ne z'];rcases aF.mp z with q' | q'
           . exact(z' q').elim
           . exact(rs.owns b q').2
   |_=>rw[hq] at hu;cases hu
 . cases e
section
variable{x:Str}{k j n:Nat}{F:List D->Option Ret}{p pos:Pos}{e:Expr}{es:List Expr}{g:FA}
end
mutual
theorem RepO.flatten{K:Frag}{H:Hp}{O O':aB->Prop}(ho:∀a,O a->Old H a):∀{v:V} {t:OT} {fs:List aB},flatO t=true->RepO K H O' v t fs->(∀b∈fs,O b)->RepO K H O v t fs
 |_,_,_,f,.val r,_=>.val (Rep.flatten ho (by simpa[flatO] using f) r)
 |_,_,_,f,.lst n h r,hb=>.lst (hb _ (.head _)) h (RepsO.flatten ho (by simpa[flatO] using f) r fun b z=>hb b (.tail _ z))
 |_,_,_,f,.dct n h e r,hb=>.dct (hb _ (.head _)) h e (RepsO.flatten ho (by simpa[flatO] using f) r fun b z=>hb b (.tail _ z))
 |_,_,_,f,.ins c n h e r,hb=>.ins c (hb _ (.head _)) h e (RepsO.flatten ho (by simpa[flatO] using f) r fun b z=>hb b (.tail _ z))
 |_,_,_,f,.tup (a:=a) n h r,hb=>.tup (fun z=>by
    obtain⟨u,e,m⟩:=ho a z;rcases h with h | ⟨o,h⟩
    . rw[e] at h;cases h;cases m
    . rw[e] at h;cases h;cases m) h (RepsO.flatten ho (by simpa[flatO] using f) r hb)
theorem RepsO.flatten{K:Frag}{H:Hp}{O O':aB->Prop}(ho:∀a,O a->Old H a):∀{v:List V} {t:List OT} {fs:List aB},iQ t=true->RepsO K H O' v t fs->(∀b∈fs,O b)->RepsO K H O v t fs
 |_,_,_,_,.nil,_=>.nil
 | _, _, _, f, .cons h r, hb => by
   simp only[iQ,cG] at f;exact .cons (RepO.flatten ho f.1 h fun b z=>hb b (bE _ z)) (RepsO.flatten ho f.2 r fun b z=>hb b (aI _ z))
end
end
section
variable{X:Cx}
end
section
variable{K:Frag}{H H' H₀ : Hp}{O O':aB->Prop}
theorem Kid.mono(s:Same H H'){b:aB}{xs:List V}(h:Kid H b xs):Kid H' b xs:=by
 cases h with
 |tup h=>exact .tup (Keep.rd (O:=yF) (.of_same s) (fun z=>z) h)
 |lst h=>exact .lst (s _ _ h)
 |dct h=>exact .dct (s _ _ h)
 |ins h=>exact .ins (s _ _ h)
theorem jM(s:Same H H'):∀{p:List Nat} {v w:V},PathV H v p w->PathV H' v p w
 |[],_,_,h=>h
 |_::_,_,_,⟨b,xs,x,h1,h2,h3,h4⟩=>⟨b,xs,x,h1,h2.mono s,h3,jM s h4⟩
theorem RepsO.put:∀{xs:List V} {ts:List OT} {fs:List aB} {k:Nat} {t:OT},RepsO K H O xs ts fs->ts[k]?=some t->∃(pre f post:List aB),fs=pre++(f++post) ∧
  ∀{H':Hp} {O':aB->Prop} {v:V} {T:OT} {f':List aB},RepO K H' O' v T f'->(∀y s e,RepO K H O y s e->(∀b∈e,b∈pre\/b∈post)->RepO K H' O' y s e)->RepsO K H' O' (xs.set k v) (ts.set k T) (pre++(f'++post))
 | _, _, _, 0, t, .cons (x := x) (fs := f) (gs := gs) h r, e => by
   refine⟨[],f,gs,rfl,fun {H' O' v T f'} h' ho=>?_⟩
   have:∀{xs:List V} {ts:List OT} {gs':List aB},RepsO K H O xs ts gs'->(∀b∈gs',b∈gs)->RepsO K H' O' xs ts gs':=by
    intro xs ts gs' h
    induction xs generalizing ts gs' with
    |nil=>intro _;cases h;exact .nil
    | cons y ys ih =>
      intro hb;cases h with
      |cons h1 h2=>exact .cons (ho _ _ _ h1 fun b z=>.inr (hb b (bE _ z))) (ih h2 fun b z=>hb b (aI _ z))
   show RepsO K H' O' (v::_) (T::_) (f'++gs);exact .cons h' (this r fun _ z=>z)
 | _, _, _, k + 1, t, .cons (x := x) (t := t0) (fs := f0) (gs := gs) h r, e => by
   obtain⟨pre,f,post,h2,h4⟩:=RepsO.put (k:=k) (t:=t) r (by simpa using e);refine⟨f0++pre,f,post,by rw[h2];simp,fun {H' O' v T f'} h' ho=>?_⟩;have q:=h4 h' fun z s e' hz hb=>ho z s e' hz fun b hb'=>(hb b hb').elim (fun z=>.inl (aI _ z)) .inr;have:=RepsO.cons (ho _ _ _ h fun b hb=>.inl (bE _ hb)) q;simpa[bR] using this
end
section
variable{X:Cx}
theorem IH{e:Expr}{n:Str}{pos:Pos}{f:FP}{ix:List (Nat×Nat)}(hF:FldOk X.K n ix)(he:PVp X e f)(hb:dH e n X.env (cC e X.env)=cC e X.env:=by rfl):PVp X (.Attribute e n pos) (atP ix f):=by
 obtain⟨t,ht,hf⟩:=he;refine⟨_,UW ht hb,fun H₀ H O σ ds hd q Q o e h=>?_⟩;unfold atP at e;obtain⟨q0,h1,e⟩:=bnd e;refine hf H₀ H O σ ds hd q0 _ o h1 fun r T v w fs g1 g2 g3 g4 g5=>?_;cases hu:q0.2.2 with
 | ins c l =>
   rw[hu] at e g5;simp only at e;obtain⟨k,hl,e⟩:=bnd e;obtain⟨u,hk,rfl⟩:=mpd e;cases g5 with
   | @ins a C dx _ kvs _ fs' hc n ha ek rs =>
     obtain⟨y1,y2,y3⟩:=hF c k hl;obtain⟨cl,na⟩:=y3 C hc;obtain⟨x,f2,z1,z2⟩:=rs.nth hk;refine⟨a,C,dx,kvs,x,rfl,ha,cl,na,xN (i:=k) (by rw[ek];exact y1) (by rw[ek];exact y2) z1,h r T v x f2 g1 ?_ g3 (AV g4 (.ins ha) z1) z2⟩;rw[xA,g2,hu];simp[subO,hk]
 |_=>rw[hu] at e;cases e
theorem RepsO.snoc{K:Frag}{H:Hp}{O:aB->Prop}:∀{xs:List V} {ts:List OT} {fs:List aB} {v:V} {d:D},RepsO K H O xs ts fs->Rep K H O v d->RepsO K H O (xs++[v]) (ts++[.val d]) fs
 |_,_,_,_,_,.nil,r=>.cons (fs:=[]) (gs:=[]) (.val r) .nil
 |_,_,_,_,_,.cons h t,r=>.cons h (RepsO.snoc t r)
theorem Ok.putL{K:Frag}{H₀ H:Hp}{O:aB->Prop}{σ : L2.St}{ds:List Sl}{hd:Hold}{i:Nat}{r:Option Nat}{T:OT}{p:List Nat}{l l':List OT}{a:aB}{v:V}{ys:List V}(o:Ok K H₀ H O σ ds hd)(e:ds[i]?=some (.ob r T))(hs:subO p T=some (.lst l))(hv : σ[i]?=some (some v))(hp:PathV H v p (.ref a))(h:∀xs fs,H a=some (.lst xs)->O a->RepsO K H O xs l fs->fs.Nodup->a∉fs->∃fs',(∀b∈fs',b∈fs)/\fs'.Nodup/\∀{H':Hp},Chg H H' O O [a] [a]->RepsO K H' O ys l' fs'):Ok K H₀ (upd H a (.lst ys)) O σ (ds.set i (.ob r (putO (.lst l') p T))) hd:=by
 obtain⟨v',w',f,y1,y2,y3,y4,y5,y6⟩:=o.modAt e hs;rw[hv] at y1;cases y1;cases jR hp y2;cases y3 with
 | @lst _ xs _ fs n hb rs =>
   obtain⟨n3,n4⟩:=bU.mp y4;obtain⟨fs',w1,w2,w3⟩:=h xs fs hb n rs n4 n3;refine y6 (f':=a::fs') (.ofUpd n (.head _) fun b z=>(aF.mp z).elim (fun z=>by rw[z];exact .head _) fun z=>.tail _ (w1 b z)) (fun b z _=>?_) (.lst n zK (w3 (.ofUpd n (.head _) fun _ z=>z))) (bU.mpr ⟨fun z=>n3 (w1 _ z),w2⟩)
   by_cases z':b=a
   . rw[z',zK];exact⟨⟨.lst ys,rfl⟩,rfl⟩
   . rw [upd_ne z'];rcases aF.mp z with q' | q'
     . exact(z' q').elim
     . exact(rs.owns b q').2
theorem Chg.repsO{K:Frag}{H H':Hp}{O O':aB->Prop}{f f':List aB}(c:Chg H H' O O' f f'):∀{v:List V} {t:List OT} {e:List aB},RepsO K H O v t e->(∀b∈e,b∉f)->RepsO K H' O' v t e
 |_,_,_,.nil,_=>.nil
 |_,_,_,.cons h r,he=>.cons (c.repO h fun b z=>he b (bE _ z)) (Chg.repsO c r fun b z=>he b (aI _ z))
theorem EW{oe e:Expr}{pos p2 p3:Pos}{f:FP}{fe:FE}(ho:PVp X oe f)(he:PV X e fe)(hfew:((cY p3 (aJ [e] X.env)).all (fun x=>!x.1)&&(lY p3 (gD [] X.env)).all (fun x=>x.1.isSome)
    && decide ([e].length+([]:List iM).length+(if ([]:List iM).isEmpty then 0 else 1)<30))=true:=by rfl)(hline:(p2.endLine==p3.line)=true:=by rfl)(hs:aJ [e] X.env=(false,cC e X.env)::aJ [] X.env:=by rfl)(hbase:dH oe "append" X.env (cC oe X.env)=cC oe X.env:=by rfl)(hsw:eQ (.Call (.Attribute oe "append" p2) [e] [] p3) none pos.line X.env=pure false:=by rfl) :
  PSv X (.Expr (.Call (.Attribute oe "append" p2) [e] [] p3) pos) (appP f fe):=by
 obtain⟨tp,hp,hf⟩:=ho;obtain⟨te,pe,he⟩:=he;refine⟨_,wM (LP iF uF uE AZ hp (qW pe jT hs) hbase hfew hline hs rfl) hsw,fun H₀ H O σ ds hd out E o e h=>?_⟩;unfold appP at e;obtain⟨q,h1,e⟩:=bnd e;obtain⟨d,h2,e⟩:=bnd e;refine hf H₀ H O σ ds hd q _ o h1 fun r T v w fs g1 g2 g3 g4 g5=>?_;cases hq:q.2.2 with
 | lst l =>
   rw[hq] at e g2 g5;simp only at e
   split at e
   . rename_i hl;cases e;cases g5 with
     | @lst a xs _ fs' n hb rs =>
       refine⟨.inl ⟨rfl,xs,SqL.of hb⟩,?_⟩;refine he H₀ H O σ ds hd d _ o h2 fun v1 H1 s1 r1=>?_;refine⟨a,xs,v1,rfl,rfl,s1 _ _ hb,by rw[rs.length];exact hl,?_⟩
       have ok:=(o.mono s1).putL (l':=l++[.val d]) (ys:=xs++[v1]) g1 g2 g3 (jM s1 g4) fun xs2 fs2 k1 k2 k3 k4 k5=>⟨fs2,fun _ z=>z,k4,fun {H'} c=>by
        rw[s1 _ _ hb] at k1;cases k1
        exact(c.repsO k3 fun b z y=>k5 (aP.mp y▸z)).snoc (c.rep r1)⟩
       have e':putP q (.lst (l++[.val d])) ds=ds.set q.1 (.ob r (putO (.lst (l++[.val d])) q.2.1 T)):=by simp[putP,g1]
       rw[e'] at h;exact h _ _ _ ok
   . cases e
 |_=>rw[hq] at e;cases e
end
section
variable{K:Frag}{H H' H₀ : Hp}{O O':aB->Prop}
theorem RepO.frz{v:V}{t:OT}{fs:List aB}(r:RepO K H O v t fs)(h:∀a,O' a->O a/\a∉fs):Rep K H O' v (otD t):=r.val' h
theorem Ok.frz{σ : L2.St}{ds:List Sl}{hd:Hold}{i:Nat}{r:Option Nat}{T:OT}(o:Ok K H₀ H O σ ds hd)(e:ds[i]?=some (.ob r T)):∃O',Ok K H₀ H O' σ (ds.set i (.v (otD T))) hd:=by
 obtain⟨F,hF⟩:=o.obs;obtain⟨v,h1,h2,h3,h4,h5⟩:=hF i r T e;have hl:i<ds.length:=(bF.mp e).1
 let O':aB->Prop:=fun b=>O b/\b∉F i
 have sub:∀b,O' b->O b:=fun b hb=>hb.1;have own':∀{j:Nat},IsOwn (ds.set i (.v (otD T))) j->IsOwn ds j/\j≠i:=fun h=>wR (fun l=>by intro z;cases z) h;refine⟨O',o.same,fun j l' b e1 e2=>?_,fun b hb=>o.dom b (sub b hb),by simpa using o.len,fun j s es=>?_,fun j m b hjm hj hm e1 e2=>o.apart j m b hjm (own' hj).1 (own' hm).1 e1 e2,fun p hp=>?_,?_⟩
 . obtain⟨⟨l2, e2'⟩, _⟩ := own' ⟨l', e1⟩;exact o.fresh j l2 b e2' e2
 . by_cases hj : j = i
   . subst hj;rw[bI hl] at es;cases es;rw[h1];exact jZ (h2.frz fun a z=>z)
   . rw [aH (Ne.symm hj)] at es;cases s with
     |no=>exact jC
     |ob r t=>exact jU
     | exc t =>
       obtain⟨a',C',ob',u',q1,q2,q3,q4⟩:=o.readX es;rw[q1];exact⟨C',ob',u',q2,q3,q4⟩
     | fr l' =>
       obtain⟨a',xs',q1,q2,q0,q3,q4⟩:=o.readF es;rw[q1];exact⟨fun z=>q2 (sub _ z),q0,xs',q3,q4.less sub⟩
     | v d =>
       obtain⟨v,q1,q2⟩:=o.read es;rw[q1];exact jZ (q2.less sub)
     | own l' =>
       obtain⟨b,ys,q1,q2,q3,q4⟩:=o.readO es;rw[q1];exact⟨⟨q2,fun z=>(h5 b z).2.2 j ⟨l',es⟩ q1⟩,ys,q3,q4.less sub⟩
 . have := o.hold p hp;cases p with
   |rep v d=>exact Rep.less sub this
   |base B=>exact fun b hb=>⟨⟨(this b hb).1,fun z=>(this b hb).2 (h5 b z).1⟩,(this b hb).2⟩
   |root k a=>exact True.intro
   |fz a' o' kvs' l'=>exact⟨fun z=>this.1 (sub _ z),this.2.1,Reps.less sub this.2.2⟩
 . refine⟨F, fun j r' t' ej => ?_⟩;obtain⟨ej,hj⟩:=wX (fun r t=>by intro z;cases z) ej;obtain⟨w,g1,g2,g3,g4,g5⟩:=hF j r' t' ej;refine⟨w,g1,g2.less sub fun b hb=>⟨(g2.owns b hb).1,fun z=>(h5 b z).2.1 j r' t' hj ej hb⟩,g3,g4,fun b hb=>⟨(g5 b hb).1,fun m r2 t2 hm em=>(g5 b hb).2.1 m r2 t2 hm (wX (fun r t=>by intro z;cases z) em).1,fun m om em=>(g5 b hb).2.2 m (own' om).1 em⟩⟩
end
section
variable{X:Cx}
end
noncomputable def spL(K:Frag)(n:Nat)(F:OT->List D->Option OT):Sp:=fun vs H Q _=>∃(a:aB) (T T':OT) (fs:List aB) (B:aB->Prop) (vs':List V) (l:List D),vs=.ref a::vs'/\vs'.length=n/\RepO K H (orL fs B) (.ref a) T fs/\fs.Nodup ∧
 (∀b,B b->b∉fs/\∃u:MutHO,H b=some u.1)/\Reps K H (orL fs B) vs' l/\F T l=some T' ∧
 ∀H' fs',(∀b u,b∉fs->H b=some u->H' b=some u)->RepO K H' (orL fs' B) (.ref a) T' fs'->fs'.Nodup->(∀b∈fs',b∈fs\/H b=none)->Q .non H'
noncomputable def cutH(fs:List aB)(H:Hp):Hp:=fun b=>if b∈fs then none else H b
theorem kD{fs:List aB}{H:Hp}{b:aB}(h:b∈fs):cutH fs H b=none:=if_pos h
theorem yD{fs:List aB}{H:Hp}{b:aB}(h:b∉fs):cutH fs H b=H b:=if_neg h
theorem BN{fs:List aB}{H:Hp}{b:aB}(h:cutH fs H b=none):b∈fs\/H b=none:=by
 by_cases z:b∈fs
 . exact .inl z
 . rw[yD z] at h;exact .inr h
theorem wO{n:Nat}{T:OT}{l:List D}{i:Nat}:¬IsOwn (argsL n T l) i:=fun⟨l',e⟩=>by
 unfold argsL at e;cases i with
 |zero=>cases e
 | succ i =>
   rw[cU] at e;unfold args at e
   by_cases hi:i<l.length
   . rw [bV (by simpa using hi), bK] at e;cases h:l[i]? with
     |none=>rw[h] at e;cases e
     |some d=>rw[h] at e;cases e
   . rw [cH (by simpa using hi), dI] at e
     split at e<;>cases e
theorem OP{K:Frag}{H:Hp}{N:List Str}{a:aB}{T:OT}{fs:List aB}{B:aB->Prop}{vs:List V}{l:List D}(rt:RepO K H (orL fs B) (.ref a) T fs)(nd:fs.Nodup)(hB:∀b,B b->b∉fs/\∃u:MutHO,H b=some u.1)(r:Reps K H (orL fs B) vs l)(hN:0<N.length) :
  Ok K (cutH fs H) H (orL fs B) (L2.start N (.ref a::vs)) (argsL N.length T l) [.root 0 a,.base B]:=by
 have hl:=r.length;refine⟨fun b u e=>?_,fun i l' a' e _=>(wO ⟨l',e⟩).elim,fun b hb=>hb.elim (fun z=>(rt.owns b z).2) fun z=>(hB b z).2,?_,fun i s e=>?_,fun i j a _ hi _ _ _=>(wO hi).elim,fun p hp=>?_,?_⟩
 . by_cases z : b ∈ fs
   . rw[kD z] at e;cases e
   . rwa [yD z] at e
 . simp only[L2.start, argsL, args, cA, cB, nR, aO, hl];omega
 . unfold argsL at e;cases i with
   |zero=>cases e;exact jU
   | succ i =>
     rw[cU] at e
     have eσ : (L2.start N (.ref a::vs))[i+1]?=(vs.map some++List.replicate (N.length-(vs.length+1)) none)[i]?:=by
      simp only[L2.start,bA,eS,cU,aO]
     rw[eσ];unfold args at e
     by_cases hi:i<l.length
     . rw[bV (by simpa using hi), bK] at e;rw[bV (by simpa[hl] using hi),bK];obtain⟨d,h,rfl⟩:=mpd e;obtain⟨v,h1,h2⟩:=r.get h;rw[h1];exact jZ h2
     . rw [cH (by simpa using hi), dI] at e
       split at e
       . cases e;exact jC
       . cases e
 . rcases aF.mp hp with rfl | hp
   . exact True.intro
   . cases aP.mp hp;refine fun b hb=>⟨.inr hb,fun z=>?_⟩
     obtain⟨n,u,e⟩:=hB b hb;rw[yD n,e] at z;cases z
 . refine ⟨fun i => if i = 0 then fs else [], fun i r' t' e => ?_⟩;cases i with
   | succ i =>
     unfold argsL at e;rw[cU] at e;exact(MX _ _ _ _ _ e).elim
   | zero =>
     unfold argsL at e;cases e;refine⟨.ref a,rfl,by simpa using rt,fun k a' ek h=>?_,by simpa using nd,fun b hb=>⟨kD (by simpa using hb),fun j r2 t2 hj _=>by simp[hj],fun j oj=>(wO oj).elim⟩⟩;cases ek;rcases aF.mp h with h | h
     . cases h;rfl
     . cases aP.mp h
theorem WX{P:aX}{w:bW}{K:Frag}{mg:Str->Option aA}{base:Heap}{qual:Str}{st:Stmt}{f:aB}{fd:bN}{N ps:List Str}{k n:Nat}{F:OT->List D->Option OT}(hok:∀sp:Sp,(∀vs H Q E,sp vs H Q E->vs.length=ps.length)->(∀(cdv:aA) (A:bT) (outer:List Env) (s:aC) (H:Hp) (vs:List V) (Q:VK) (E:XK),Room k (A.deeper (mE qual (zH st) s.heap.objs.size f cdv))->sp vs H Q E->∃t,PSs (cxOf CX0 P w K mg base N qual (zH st) f cdv A outer s H E).nox (qT st) t/\t { nx:=fun _ H'=>Q .non H',rt:=Q } (start N vs) H)->FnOk P w K mg base CX0 (k+1) f fd ps sp){g:FS}(hbody:∀(cdv:aA) (A:bT) (outer:List Env) (s:aC) (H:Hp) (E:XK),Room k (A.deeper (mE qual (zH st) s.heap.objs.size f cdv))->PSsv (cxOf CX0 P w K mg base N qual (zH st) f cdv A outer s H E).nox (qT st) g)(hg:∀T l T',l.length=n->F T l=some T'->lentF g N.length T l=some T')(hn:ps.length=n+1:=by rfl)(hN:0<N.length:=by decide):FnOk P w K mg base CX0 (k+1) f fd ps (spL K n F):=by
 refine hok _ (fun vs H Q E h=>?_) (fun cdv A outer s H vs Q E hr h=>?_)
 . obtain⟨a, T, T', fs, B, vs', l, rfl, hl, _⟩ := h;simp only[aO];omega
 . obtain ⟨a, T, T', fs, B, vs', l, rfl, hl, rt, nd, hB, ra, e, q⟩ := h;obtain ⟨t,ht,hf⟩:=hbody cdv A outer s H E hr;refine ⟨t,ht,?_⟩;have o:=OP (N:=N) rt nd hB ra hN;have e:=hg T l T' (by rw [<- ra.length]; exact hl) e;unfold lentF at e;cases h1:g (argsL N.length T l) with
   |none=>rw[h1] at e;cases e
   | some out =>
     rw[h1] at e;cases out with
     | nx ds =>
       simp only at e;cases h2:ds[0]? with
       |none=>rw[h2] at e;cases e
       | some s0 =>
         rw[h2] at e;cases s0 with
         | ob r T2 =>
           have hr0:r=some 0/\T2=T':=by
            cases r with
            |none=>cases e
            | some i =>
              cases i with
              |zero=>cases e;exact⟨rfl,rfl⟩
              |succ i=>cases e
           obtain⟨rfl,rfl⟩:=hr0;refine hf _ H _ _ _ _ _ _ o h1 (fun σ H' O' o'=>?_);obtain⟨F',hF⟩:=o'.obs;obtain⟨v,y1,y2,y3,y4,y5⟩:=hF 0 _ _ h2;cases y3 0 a rfl (.head _);have hb:=o'.hold (.base B) (.tail _ (.head _));exact q H' (F' 0) (fun b u nb eb=>o'.same b u (by rw[yD nb];exact eb)) (y2.less (fun b z=>z.elim (fun z=>(y2.owns b z).1) fun z=>(hb b z).1) fun b z=>.inl z) y4 fun b z=>BN (y5 b z).1
         |_=>cases e
     |_=>cases e
theorem kK{P:aX}{w:bW}{K:Frag}{mg:Str->Option aA}{base:Heap}{x qual:Str}{st:Stmt}{f:aB}{fd:bN}{N ps:List Str}{k n:Nat}{F:OT->List D->Option OT}(Fn:Fun K x qual st f fd)(S:FnScope N ps (zH st)){g:FS}(hbody:∀(cdv:aA) (A:bT) (outer:List Env) (s:aC) (H:Hp) (E:XK),Room k (A.deeper (mE qual (zH st) s.heap.objs.size f cdv))->PSsv (cxOf CX0 P w K mg base N qual (zH st) f cdv A outer s H E).nox (qT st) g)(hg:∀T l T',l.length=n->F T l=some T'->lentF g N.length T l=some T')(hn:ps.length=n+1:=by rfl)(hN:0<N.length:=by decide):FnOk P w K mg base CX0 (k+1) f fd ps (spL K n F):=by
 exact WX (fun sp a b=>Fn.ok S a b) hbody hg hn hN
structure LCal(P:aX)(w:bW)(K:Frag)(mg:Str->Option aA)(base:Heap)(m:Str)(k n:Nat)(cs:List Nat)(F:Nat->OT->List D->Option OT):Prop where
 no:∀t∈cs,m∉eO t
 of:∀t∈cs,∀C,aY K aS (eB t)=some (some (.ref C))->∃(f:aB) (fd:bN) (ps:List Str),Cls K C/\Meth K C m f/\FnOk P w K mg base CX0 k f fd ps (spL K n (F t))/\Binds K fd ps []
theorem FQ{P:aX}{w:bW}{K:Frag}{mg:Str->Option aA}{base:Heap}{m:Str}{k n:Nat}{F:Nat->OT->List D->Option OT}: LCal P w K mg base m k n [] F:=⟨fun _ h=>(nomatch h),fun _ h=>(nomatch h)⟩
theorem PN{P:aX}{w:bW}{K:Frag}{mg:Str->Option aA}{base:Heap}{m:Str}{j k n t:Nat}{cs:List Nat}{F:Nat->OT->List D->Option OT}{C f:aB}{fd:bN}{ps:List Str}(a:aY K aS (eB t)=some (some (.ref C)))(c:Cls K C)(hm:Meth K C m f)(G:FnOk P w K mg base CX0 j f fd ps (spL K n (F t)))(hj:j<=k)(b:Binds K fd ps [])(hn:m∉eO t)(h:LCal P w K mg base m k n cs F):LCal P w K mg base m k n (t::cs) F:=by
 refine⟨fun t' ht=>(aF.mp ht).elim (fun e=>e▸hn) (h.no t'),fun t' ht C' e=>?_⟩;rcases aF.mp ht with rfl | ht
 . rw[a] at e;cases e;exact⟨f,fd,ps,c,hm,G.mono hj,b⟩
 . exact h.of t' ht C' e
section
variable{X:Cx}{m:Str}{k j n:Nat}{cs:List Nat}{F:Nat->OT->List D->Option OT}{oe e:Expr}{es:List Expr}{apos pos pos':Pos}{f:FP}{g:FA}
theorem WG(M:LCal X.prog X.w X.K X.mg X.base m k n cs F){ta:TE}{t:TA}(hf:∀H₀ H O σ ds hd q Q,Ok X.K H₀ H O σ ds hd->f ds=some q->(∀r T v w fs,ds[q.1]?=some (.ob r T)->subO q.2.1 T=some q.2.2->σ[q.1]?=some (some v)->PathV H v q.2.1 w->RepO X.K H O w q.2.2 fs->Q w H)->ta σ H Q)(hfg:∀H₀ H O σ ds hd l Q,Ok X.K H₀ H O σ ds hd->g ds=some l->(∀vs H',Same H H'->Reps X.K H' O vs l->Q vs H')->t σ H Q){H₀ H:Hp}{O:aB->Prop}{σ : L2.St}{ds ds':List Sl}{hd:Hold}{Q:VK}(o:Ok X.K H₀ H O σ ds hd)(h1:lentG n cs F f g ds=some (.nx ds'))(q:∀H' O',Ok X.K H₀ H' O' σ ds' hd->Q .non H'):HY X m k ta t σ H Q:=by
 unfold lentG at h1;obtain⟨q0,h2,h1⟩:=bnd h1;obtain⟨l,h3,h1⟩:=bnd h1;refine hf H₀ H O σ ds hd q0 _ o h2 fun r T v w fs g1 g2 g3 g4 g5=>?_;cases hu:q0.2.2 with
 | ins c ts =>
   rw[hu] at h1 g5 g2;simp only at h1
   split at h1
   . rename_i hc;cases h4:F c (.ins c ts) l with
     |none=>rw[h4] at h1;cases h1
     | some T' =>
       rw[h4] at h1;cases h1;cases g5 with
       | @ins a C dx _ kvs _ fs' cc nn ha ek rr =>
         obtain⟨fa,fd,ps,cl,hm,Fn,hb⟩:=M.of c hc.1 C cc;refine⟨a,C,dx,kvs,fa,fd,ps,_,rfl,ha,jW (by rw[ek];exact M.no c hc.1),cl,hm,Fn,hb,?_⟩;refine hfg H₀ H O σ ds hd l _ o h3 fun vs H2 s2 r2=>?_;have o2:=o.mono s2;obtain⟨v',w',f',y1,y2,y3,y4,y5,y6⟩:=o2.modAt g1 g2;rw[g3] at y1;cases y1;cases jR (jM s2 g4) y2;have ow:∀b∈f',O b:=fun b z=>(y3.owns b z).1
         let B:aB->Prop:=fun b=>O b/\b∉f'
         have toO:∀b,orL f' B b->O b:=fun b z=>z.elim (ow b) fun z=>z.1;refine⟨a,_,T',f',B,vs,l,rfl,by rw[r2.length];exact hc.2,y3.less toO (fun b z=>.inl z),y4,fun b z=>⟨z.2,o2.dom b z.1⟩,r2.less toO,h4,fun H' fs2 k1 k2 k3 k4=>?_⟩;have e':putP q0 T' ds=ds.set q0.1 (.ob r (putO T' q0.2.1 T)):=by simp[putP,g1]
         rw[e'] at q;refine q H' (orL fs2 B) (y6 ⟨fun b u nb eb=>k1 b u (fun z=>nb (ow b z)) eb,fun b u _ nb eb=>k1 b u nb eb,fun b z nb=>.inr ⟨z,nb⟩,fun b z=>z.elim (fun z=>(k4 b z).elim (fun y=>.inl (ow b y)) fun y=>.inr ⟨z,y⟩) fun z=>.inl z.1,k4⟩ (fun b z y=>y.elim (fun y=>(k2.owns b y).2) fun y=>(y.2 z).elim) k2 k3)
   . cases h1
 |_=>rw[hu] at h1;cases h1
end
section
variable{K:Frag}{H H' H₀ : Hp}{O O':aB->Prop}
theorem Ok.putN{σ : L2.St}{ds:List Sl}{hd:Hold}{i:Nat}{r:Option Nat}{T u u':OT}{p:List Nat}{a:aB}{v:V}(y:MutHO)(o:Ok K H₀ H O σ ds hd)(e:ds[i]?=some (.ob r T))(hs:subO p T=some u)(hv : σ[i]?=some (some v))(hp:PathV H v p (.ref a))(h:∀f,RepO K H O (.ref a) u f->f.Nodup->∃f',O a/\a∈f/\(∀b∈f',b∈f)/\f'.Nodup/\RepO K (upd H a y.1) O (.ref a) u' f'):Ok K H₀ (upd H a y.1) O σ (ds.set i (.ob r (putO u' p T))) hd:=by
 obtain⟨v',w',f,y1,y2,y3,y4,y5,y6⟩:=o.modAt e hs;rw[hv] at y1;cases y1;cases jR hp y2;obtain⟨f',n,h1,h2,h3,h4⟩:=h f y3 y4;refine y6 (f':=f') (.ofUpd n h1 h2) (fun b z _=>?_) h4 h3
 by_cases z':b=a
 . rw[z',zK];exact⟨y,rfl⟩
 . rw[upd_ne z'];exact(y3.owns b z).2
theorem xH{v:V}{d:D}{k:Key}(r:Rep K H O v d)(e:keyD d=some k):v=kV k:=by
 cases d<;>first | (cases e;done) | skip
 . cases e;cases r;rfl
 . cases e;cases r;rfl
 . cases e;cases r;rfl
theorem vU{v:V}{d:D}{p:List Key×List D}(r:Rep K H O v d)(e:kdD d=some p):∃(a:aB) (kvs:List (Key×V)),v=.ref a/\Rd H a (.dK kvs)/\kvs.map (·.1)=p.1/\Reps K H O (kvs.map (·.2)) p.2:=by
 cases d<;>first | (cases e;done) | skip
 . cases e;cases r with
   |@dct a kvs _ _ n hb ek rs=>exact⟨a,kvs,rfl,.inl hb,ek,rs⟩
 . cases e;cases r with
   |@dcf a o kvs _ _ n hb ek rs=>exact⟨a,kvs,rfl,.inr ⟨o,hb⟩,ek,rs⟩
theorem vJ:∀{kvs:List (Key×V)} {l:List D} {k:Key} {d:D},Reps K H O (kvs.map (·.2)) l->getKD k (kvs.map (·.1)) l=some d->∃v,valV kvs k=some v/\Rep K H O v d
 |[],_,_,_,_,e=>by simp[getKD] at e
 |(k',v)::r,[],_,_,h,_=>by cases h
 | (k', v) :: r, d' :: l, k, d, .cons h t, e => by
   simp only[bA,getKD] at e
   by_cases z:k'=k
   . rw[if_pos z] at e;cases e;exact⟨v,wI z,h⟩
   . rw[if_neg z] at e;obtain⟨w,h1,h2⟩:=vJ t e;exact⟨w,by simpa[valV,eL,z] using h1,h2⟩
theorem AM:∀(kvs:List (Key×V)) (k:Key),(valV kvs k).isSome=hasK k (kvs.map (·.1))
 |[],k=>rfl
 | (k', v) :: r, k => by
   by_cases z:k'=k
   . simp[valV,eL,z,hasK]
   . have := AM r k;simp only[valV,hasK] at this ⊢;rw[DV (by simpa using z),this];simp[z]
theorem AT{kvs:List (Key×V)}{k:Key}{v:V}(h:hasK k (kvs.map (·.1))=true):putK kvs k v=kvs.map (fun kv=>if kv.1=k then (kv.1,v) else kv):=by
 unfold putK;rw[if_pos];rw[hasK,List.any_map] at h;exact h
theorem wJ{kvs:List (Key×V)}{k:Key}{v:V}(h : ¬hasK k (kvs.map (·.1))=true):putK kvs k v=kvs++[(k,v)]:=by
 unfold putK;rw[if_neg];rw[hasK,List.any_map] at h;exact h
theorem OD(kvs:List (Key×V))(k:Key)(v:V):(kvs.map (fun kv=>if kv.1=k then (kv.1,v) else kv)).map (·.1)=kvs.map (·.1):=by
 rw[fG];refine hX fun kv _=>?_;simp only[Function.comp]
 split<;>rfl
theorem RepsO.putTs{k:Key}{v:V}{d:D}(r:Rep K H O v d):∀{kvs:List (Key×V)} {ts:List OT} {fs:List aB},RepsO K H O (kvs.map (·.2)) ts fs->∃fs':List aB,fs'.Sublist fs/\RepsO K H O ((kvs.map (fun kv=>if kv.1=k then (kv.1,v) else kv)).map (·.2)) (FL.putTs k (.val d) (kvs.map (·.1)) ts) fs'
 |[],_,_,.nil=>⟨[],.slnil,.nil⟩
 | (k', w) :: kvs, _, _, .cons (t := t) (ts := ts) (fs := fs) (gs := gs) h q => by
   obtain⟨gs',h1,h2⟩:=RepsO.putTs r q
   by_cases z:k'=k
   . refine⟨gs', h1.trans (List.sublist_append_right _ _), ?_⟩;simp only[bA,z,if_true,FL.putTs];exact .cons (fs:=[]) (.val r) h2
   . refine⟨fs ++ gs', h1.append_left _, ?_⟩;simp only[bA,z,if_false,FL.putTs];exact .cons h h2
end
section
variable{X:Cx}{i:Nat}
theorem EM{pos:Pos}: PVo X (.Dict [] [] pos) dO0:=by
 refine⟨_,UX,fun H₀ H O σ ds hd T Q o e q=>fun p hp=>?_⟩;cases e;exact q _ _ [p] (zX hp _) (.dct (kvs:=[]) (.inl (.head _)) zK rfl .nil) (by simp) fun b hb=>by rw[aP.mp hb];exact hp
theorem kC{oe ke e:Expr}{pos pos':Pos}{f:FP}{fk fv:FE}{j:Nat}(hr:Room j X.A)(ho:PVp X oe f)(hk:PV X ke fk)(he:PV X e fv)(hs:eQ e (some (.Subscript oe ke pos')) pos.line X.env=pure false:=by rfl) :
  PSv X (.Assign [.Subscript oe ke pos'] e pos) (dputG f fk fv):=by
 obtain⟨tp,hp,hf⟩:=ho;obtain⟨tk,pk,hk⟩:=hk;obtain⟨te,pe,he⟩:=he;refine⟨_,LJ (iO (by omega) (hu100 hr)) hp pk pe hs,fun H₀ H O σ ds hd out E o e h=>?_⟩;unfold dputG at e;obtain⟨d,h1,e⟩:=bnd e;obtain⟨q,h2,e⟩:=bnd e;obtain⟨y,h3,e⟩:=bnd e;obtain⟨k,h4,e⟩:=bnd e;refine he H₀ H O σ ds hd d _ o h1 fun v H1 s1 r1=>?_;refine hf H₀ H1 O σ ds hd q _ (o.mono s1) h2 fun r T v0 w fs g1 g2 g3 g4 g5=>?_;refine hk H₀ H1 O σ ds hd y _ (o.mono s1) h3 fun yv H2 s2 r2=>?_;have o2:=(o.mono s1).mono s2;cases hq:q.2.2 with
 | dct ks ts =>
   rw[hq] at e g2 g5;simp only at e
   split at e
   . rename_i hl;cases e;cases g5 with
     | @dct a kvs _ _ fs' n hb ek rs =>
       have hb2:=s2 _ _ hb;cases xH r2 h4;have ln:kvs.length<sizeLine:=by rw[<- ek] at hl;simpa using hl
       refine⟨a,_,rfl,DPut.k hb2 ln,?_⟩;have e':putP q (putKT k (.val d) ks ts) ds=ds.set q.1 (.ob r (putO (putKT k (.val d) ks ts) q.2.1 T)):=by simp[putP,g1]
       rw[e'] at h;refine h _ _ _ (Ok.putN ⟨.dK (putK kvs k v),rfl⟩ o2 g1 g2 g3 (jM s2 g4) fun f2 k1 k2=>?_);cases k1 with
       | @dct _ kvs2 _ _ fs2 n2 hb3 ek2 rs2 =>
         rw[hb2] at hb3;cases hb3;obtain⟨n3,n4⟩:=bU.mp k2;have c:Chg H2 (upd H2 a (.dK (putK kvs k v))) O O [a] [a]:=.ofUpd n (.head _) fun _ z=>z;have rs3:=c.repsO rs2 fun b z y=>n3 (aP.mp y▸z);have rv:=c.rep (r1.mono s2);unfold putKT
         by_cases hm:hasK k ks=true
         . rw [if_pos hm];have hm':hasK k (kvs.map (·.1))=true:=by rw [ek]; exact hm
           obtain⟨fs3,w1,w2⟩:=RepsO.putTs (k:=k) rv rs3;refine⟨a::fs3,n,.head _,fun b z=>(aF.mp z).elim (fun z=>by rw[z];exact .head _) fun z=>.tail _ (w1.subset z),bU.mpr ⟨fun z=>n3 (w1.subset z),w1.nodup n4⟩,?_⟩;refine .dct n zK ?_ ?_
           . rw[AT hm',OD,ek]
           . have z := congrArg (List.map (·.2)) (AT (v := v) hm');rw[ek] at w2;rw[<- z] at w2;exact w2
         . rw [if_neg hm];have hm' : ¬ hasK k (kvs.map (·.1))=true:=by rw [ek]; exact hm
           refine⟨a::fs2,n,.head _,fun b z=>z,k2,?_⟩;refine .dct n zK ?_ ?_
           . rw[wJ hm'];simp[ek]
           . have z : (putK kvs k v).map (·.2) = kvs.map (·.2) ++ [v] := by rw [wJ hm']; simp
             rw[z];exact rs3.snoc rv
   . cases e
 |_=>rw[hq] at e;cases e
theorem LC{oe ke:Expr}{pos:Pos}{fd fk:FE}{j:Nat}(hr:Room j X.A)(ho:PV X oe fd)(hk:PV X ke fk)(hs:NoSl ke:=by exact fun _ _=>rfl):PV X (.Subscript oe ke pos) (dgetG fd fk):=by
 obtain⟨td,pd,hd'⟩:=ho;obtain⟨tk,pk,hk⟩:=hk;refine⟨_,pe_dget (iO (by omega) (hu100 hr)) pd pk hs,fun H₀ H O σ ds hd d Q o e q=>?_⟩;unfold dgetG at e;obtain⟨x,h1,e⟩:=bnd e;obtain⟨y,h3,e⟩:=bnd e;obtain⟨k,h4,e⟩:=bnd e;refine hd' H₀ H O σ ds hd x _ o h1 fun v H1 s1 r1=>?_;refine hk H₀ H1 O σ ds hd y _ (o.mono s1) h3 fun yv H2 s2 r2=>?_;obtain⟨p,h6,e⟩:=bnd e;obtain⟨a,kvs,rfl,hb,ek,rs⟩:=vU (r1.mono s2) h6;cases xH r2 h4;rw[<- ek] at e;obtain⟨w,h5,h6⟩:=vJ rs e;exact⟨a,w,rfl,.inl ⟨kvs,k,hb,rfl,h5.symm⟩,q w H2 (s1.trans s2) h6⟩
theorem UI{oe ke:Expr}{pos:Pos}{fd fk:FE}{j:Nat}(hr:Room j X.A)(hk:PVn X ke fk)(ho:PVn X oe fd)(hm:dG .NotIn oe=false:=by rfl):PTv X (.Compare ke [.NotIn] [oe] pos) (dnotG fk fd):=by
 obtain⟨td,pd,hd'⟩:=ho;obtain⟨tk,pk,hk⟩:=hk;refine⟨_,pt_cmp (OL (iO (by omega) (hu100 hr)) pk pd) hm,fun H₀ H O σ ds hd b Q o e q=>?_⟩;unfold dnotG dinG at e;cases h3:fk ds with
 |none=>rw[h3] at e;cases e
 | some y =>
   rw[h3] at e;simp only[bG] at e;cases h4:keyD y with
   |none=>rw[h4] at e;cases e
   | some k =>
     rw[h4] at e;simp only[bG] at e;cases h1:fd ds with
     |none=>rw[h1] at e;cases e
     | some x =>
       rw[h1] at e;simp only[bG] at e;refine hk H₀ H O σ ds hd y _ o h3 fun yv H1 s1 r1=>?_;refine hd' H₀ H1 O σ ds hd x _ (o.mono s1) h1 fun v H2 s2 r2=>?_;cases h6:kdD x with
       |none=>rw[h6] at e;cases e
       | some p =>
         rw[h6] at e;cases e;obtain⟨a,kvs,rfl,hb,ek,rs⟩:=vU r2 h6;cases xH r1 h4;refine⟨a,_,rfl,.inl ⟨kvs,k,hb,rfl,rfl⟩,_,rfl,?_⟩;rw[AM,ek];exact q H2 (s1.trans s2)
end
end FL
namespace L2
open PySem PySem.Spec PyProof.Rows
section
variable{X:Cx}
theorem Inv.freezeD{aE:List (aB×Obj)}{σ : L2.St}{H:Hp}{s:aC}{a:aB}{kvs:List (Key×V)}(I:Inv X aE σ H s)(e:H a=some (.dK kvs)):∃o,Inv X aE σ (upd H a (.frz o (.dK kvs))) s:=by
 obtain⟨z,hd,vs,rel,dd⟩:=dk_of I.hok e;obtain⟨o,es,ep,ho,r⟩:=id dd;exact⟨o,DC (h':=s.heap) (t':=s.toks) (ob:=.frz o (.dK kvs)) I (by rw[e];trivial) ⟨rfl,fun _ _=>rfl⟩ ⟨o,ho⟩ ⟨ho,z,hd,vs,rel,dd⟩⟩
end
theorem tP{X:Cx}{aE:List (aB×Obj)}{σ : L2.St}{H:Hp}{s:aC}{d:aB}{o:Obj}{kvs:List (Key×V)}{es:Array DictEntry}{ep:Nat}(I:Inv X aE σ H s)(hd:H d=some (.frz o (.dK kvs)))(dat:o.data=.dict es ep):∃vs,KV kvs vs/\s.heap.DictAt (eW X.prog X.w) d vs ep:=by
 obtain⟨ho,z,hds,vs,rel,o',es',ep',e1,ex,dat',r⟩:=I.hok d _ hd;rw[ho] at e1;cases e1;rw[dat] at dat';cases dat';exact⟨vs,rel,o,es,ho,ex,dat,r⟩
theorem KV.get{κ : Type}{kvs:List (κ×V)}{vs:List (κ×aA)}{i:Nat}{k : κ}{x:V}(h:KV kvs vs)(e:kvs[i]?=some (k,x)):∃u,vs[i]?=some (k,u)/\RelV x u:=by
 unfold KV at h
 induction h generalizing i with
 |nil=>simp at e
 | @cons p q _ _ h _ ih =>
   cases i with
   | zero =>
     simp only[dJ,Option.some.injEq] at e;subst e;exact⟨q.2,by simp only[dJ];rw[show q=(k,q.2) from Prod.ext h.1.symm rfl],h.2⟩
   | succ i =>
     simp only[cU] at e ⊢;exact ih e
section
variable{X:Cx}
end
end L2
namespace FL
open PySem PySem.Spec PyProof.Rows L2
section
variable{K:Frag}{H H' H₀ : Hp}{O O':aB->Prop}
end
section
variable{X:Cx}
def WlkD(K:Frag)(J:It)(h:HI)(items:List D):Prop:=∀H₀ H O,(∀a,O a->∃u:MutHO,H a=some u.1)->HOk K H₀ H O h →
 (∀i d,items[i]?=some d->J.go i H/\∀x H',J.yld i H x H'->Same H H'/\Rep K H' O x d)/\J.stop items.length H
variable(X) in
def PId(tg iter:Expr)(fi:FA):Prop:=∃wi,PI X tg iter wi/\∀H₀ H O σ ds hd items R,Ok X.K H₀ H O σ ds hd->fi ds=some items →
 (∀J p H',Same H H'->HOk X.K H₀ H' O p->(∀k a,HI.root k a≠p)->(∀B,HI.base B≠p)->WlkD X.K J p items->R J H')->wi σ H R
theorem kV_rep{K:Frag}{H:Hp}{O:aB->Prop}:∀k:Key,Rep K H O (kV k) (keyDD k)
 | .inl (some i)=>.int i
 | .inl none=>.non
 | .inr x=>.str x
end
section
variable{K:Frag}{H H' H₀ : Hp}{O O':aB->Prop}
theorem RepsO.snocO:∀{xs:List V} {ts:List OT} {fs:List aB} {v:V} {T:OT} {f:List aB},RepsO K H O xs ts fs->RepO K H O v T f->RepsO K H O (xs++[v]) (ts++[T]) (fs++f)
 | _, _, _, _, _, f, .nil, r => by
   have:=RepsO.cons (gs:=[]) r .nil;simpa using this
 | _, _, _, _, _, _, .cons (fs := fs) (gs := gs) h t, r => by
   rw[bR];exact .cons h (RepsO.snocO t r)
end
section
variable{X:Cx}
theorem IK{oe e:Expr}{n:Str}{pos pos':Pos}{f:FP}{g:FO}{t t':Nat}(hF:∀C,aY X.K aS (eB t)=some (some (.ref C))->Cls X.K C/\NoAttr X.K C n)(ho:PVp X oe f)(he:PVo X e g)(hn:eB t'=eB t:=by rfl)(hfl:eO t'=eO t++[n]:=by rfl)(hnew:n∉eO t:=by decide +kernel)(hs:eQ e (some (.Attribute oe n pos')) pos.line X.env=pure false:=by rfl) :
  PSv X (.Assign [.Attribute oe n pos'] e pos) (setNw t t' f g):=by
 obtain⟨tp,hp,hfp⟩:=ho;obtain⟨tv,hv,hg⟩:=he;refine⟨_,ps_fld hp hv hs,fun H₀ H O σ ds hd out E o e h=>?_⟩;unfold setNw at e;cases h1:g ds with
 |none=>rw[h1] at e;cases e
 | some T =>
   rw[h1] at e;simp only[bG] at e;cases h2:f ds with
   |none=>rw[h2] at e;cases e
   | some q =>
     rw[h2] at e;simp only[bG] at e;refine hg H₀ H O σ ds hd T _ o h1 fun v H1 fs s1 r1 nd1 n1=>?_;have o1:Ok X.K H₀ H1 (orL fs O) σ ds hd:=o.moreL s1 n1 fun b hb=>(r1.owns b hb).2;refine hfp H₀ H1 (orL fs O) σ ds hd q _ o1 h2 fun r T0 v0 w fs0 g1 g2 g3 g4 g5=>?_;obtain⟨v',w',f',y1,y2,y3,y4,y5,y6⟩:=o.modAt g1 g2;rw[g3] at y1;cases y1;cases jR g4 (jM s1 y2);cases hq:q.2.2 with
     | ins c l =>
       rw[hq] at y3 e;simp only at e
       split at e
       . rename_i hk;obtain ⟨rfl,hk⟩:=hk;cases e;cases y3 with
         | @ins a C dx _ kvs _ fs' cc na ha ek rs =>
           obtain⟨cl,nat⟩:=hF C cc;have ln:kvs.length=l.length:=by simpa using rs.length
           refine⟨a,C,dx,kvs,rfl,s1 _ _ ha,cl,nat,by omega,?_⟩;obtain⟨n3,n4⟩:=bU.mp y4
           have old:∀b,H b=none->b∉a::fs':=fun b hb z=>by
            rcases aF.mp z with z | z
            . rw[z,ha] at hb;cases hb
            . obtain⟨_, x, ex⟩ := rs.owns b z;rw[hb] at ex;cases ex
           have afs:a∉fs:=fun z=>by rw[n1 a z] at ha;cases ha
           have pn:putF n v kvs=kvs++[(n,v)]:=ES (by rw[ek];exact hnew);have hs':∀b u,b≠a->H b=some u->upd H1 a (.ins C dx (putF n v kvs)) b=some u:=fun b u nb eb=>by rw[L2.upd_ne nb];exact s1 _ _ eb
           have nO:∀{b:aB},¬O b->b≠a:=fun nb z=>nb (by rw[z];exact na)
           have c0:Chg H (upd H1 a (.ins C dx (putF n v kvs))) O (orL fs O) [a] (a::fs):=
            ⟨fun b u nb eb=>hs' b u (nO nb) eb,fun b u _ nb eb=>hs' b u (fun z=>nb (by rw[z];exact .head _)) eb,fun b z _=>.inr z,fun b z=>z.elim (fun z=>.inr ⟨.tail _ z,n1 b z⟩) .inl,fun b z=>(aF.mp z).elim (fun z=>.inl (by rw[z];exact .head _)) fun z=>.inr (n1 b z)⟩
           have rT:RepO X.K (upd H1 a (.ins C dx (putF n v kvs))) (orL fs O) v T fs:=r1.keep (fun b u nb eb=>by rw[L2.upd_ne (nO fun z=>nb (.inr z))];exact eb) fun b hb u eb=>by
            have z:b≠a:=fun z=>afs (by rw[<- z];exact hb);rw[L2.upd_ne z];exact eb
           have rs':=(c0.repsO rs fun b hb z=>n3 (aP.mp z▸hb)).snocO rT
           have ok:=y6 (H':=upd H1 a (.ins C dx (putF n v kvs))) (O':=orL fs O) (u':=.ins t' (l++[T])) (f':=a::(fs'++fs))
            ⟨fun b u nb eb=>hs' b u (nO nb) eb,fun b u _ nb eb=>hs' b u (fun z=>nb (by rw[z];exact .head _)) eb,fun b z _=>.inr z,fun b z=>z.elim (fun z=>.inr ⟨.tail _ (aI _ z),n1 b z⟩) .inl,fun b z=>?_⟩
            (fun b z _=>?_) (.ins (by rw[hn];exact cc) (.inr na) zK (by rw[pn,hfl,<- ek];simp) (by rw[show(putF n v kvs).map (·.2)=kvs.map (·.2)++[v] by rw[pn];simp];exact rs')) (bU.mpr ⟨fun z=>?_,?_⟩)
           . have e' : putP q (.ins t' (l ++ [T])) ds = ds.set q.1 (.ob r (putO (.ins t' (l ++ [T])) q.2.1 T0)) := by simp [putP, g1]
             rw[e'] at h;exact h _ _ _ ok
           . rcases aF.mp z with z | z
             . exact .inl (by rw[z];exact .head _)
             . rcases bM.mp z with z | z
               . exact .inl (.tail _ z)
               . exact .inr (n1 b z)
           . by_cases z' : b = a
             . rw[z',zK];exact⟨⟨.ins C dx (putF n v kvs),rfl⟩,rfl⟩
             . rcases aF.mp z with q' | q'
               . exact(z' q').elim
               . obtain⟨_, y, ey⟩ := rs.owns b q';exact⟨y,hs' b _ z' ey⟩
           . rcases bM.mp z with z | z
             . exact n3 z
             . exact afs z
           . rw[cS];refine⟨n4,nd1,fun x hx y hy z=>old x (by rw[z];exact n1 y hy) (.tail _ hx)⟩
       . cases e
     |_=>rw[hq] at e;cases e
structure LMk(P:aX)(w:bW)(K:Frag)(mg:Str->Option aA)(base:Heap)(t k n m:Nat)(F:OT->List D->Option OT):Prop where
 ex:∃(C f:aB) (fd:bN) (ps:List Str),aY K aS (eB t)=some (some (.ref C))/\mg (eB t)=some (.ref C)/\Mk K C f/\FnOk P w K mg base CX0 k f fd ps (spL K n F)/\Binds K fd ps (List.replicate m .none)
theorem DZ:∀m:Nat,Vals (List.replicate m V.non) (List.replicate m aA.none)
 |0=>.nil
 |m+1=>.cons rfl (DZ m)
theorem EJ{K:Frag}{H:Hp}{O:aB->Prop}:∀m:Nat,Reps K H O (List.replicate m V.non) (List.replicate m D.non)
 |0=>.nil
 |m+1=>.cons .non (EJ m)
theorem PK{t n m:Nat}{F:OT->List D->Option OT}{g:FA}{C:aB}{ta:TA}{T:OT}{H₀ H:Hp}{O:aB->Prop}{σ : L2.St}{ds:List Sl}{hd:Hold}{Q:VK}(hc:aY X.K aS (eB t)=some (some (.ref C)))(hfl:eO t=[])(hfa:∀H₀ H O σ ds hd l Q,Ok X.K H₀ H O σ ds hd->g ds=some l->(∀vs H',Same H H'->Reps X.K H' O vs l->Q vs H')->ta σ H Q)(o:Ok X.K H₀ H O σ ds hd)(h1:makeO t n m F g ds=some T)(q:∀v H' fs,Same H H'->RepO X.K H' (orL fs O) v T fs->fs.Nodup->(∀b∈fs,H b=none)->Q v H'):tMake C (spL X.K n F) (List.replicate m .non) E0 ta σ H Q:=by
 unfold makeO at h1;obtain⟨l,h2,h1⟩:=bnd h1
 split at h1
 . rename_i hl;refine hfa H₀ H O σ ds hd l _ o h2 fun vs H1 s1 r1=>?_;intro x dx nx ndx nex
   have s2:Same H1 (upd (upd H1 dx (.own x)) x (.ins C dx [])):=fun b o e=>by
    rw[upd_ne (jG e nx),upd_ne (jG e ndx)];exact e
   have o1:=o.mono s1;have rl:=r1.length;refine⟨x,.ins t [],T,[x],O,vs++List.replicate m .non,l++List.replicate m .non,rfl,by simp;omega,.ins (kvs:=[]) (fs:=[]) hc (.inl (.head _)) zK (by rw[hfl];rfl) .nil,by simp,fun b hb=>?_,?_,h1,fun H' fs' k1 k2 k3 k4=>⟨rfl,q _ H' fs' (fun b u eb=>?_) k2 k3 fun b hb=>?_⟩⟩
   . obtain⟨u, eu⟩ := o1.dom b hb;exact⟨(fun z=>by rw[aP.mp z,nx] at eu;cases eu),u,s2 _ _ eu⟩
   . exact((r1.moreL (ps:=[x]) fun p hp=>by rw[aP.mp hp];exact nx).mono s2).append (EJ m)
   . have e1 := s1 _ _ eb;exact k1 b u (fun z=>by rw[aP.mp z,nx] at e1;cases e1) (s2 _ _ e1)
   . rcases k4 b hb with z | z
     . rw[aP.mp z];exact s1.free nx
     . exact s1.free (s2.free z)
 . cases h1
section
variable{t k j n m:Nat}{F:OT->List D->Option OT}{x:Str}{p pos:Pos}{e:Expr}{es:List Expr}{g:FA}
theorem EL(M:LMk X.prog X.w X.K X.mg X.base t k n m F)(hr:Room j X.A)(ha:PAs X (e::es) g)(hj:k+1<=j:=by decide)(hx:eB t=x:=by rfl)(hfl:eO t=[]:=by rfl)(hg:Gl X x:=by rfl)(hdb:(x==("__debug__" : Str))=false:=by decide)(he:aJ (e::es) X.env=(false,cC e X.env)::aJ es X.env:=by rfl)(hpl:(cY pos (aJ es X.env)).any (·.1)=false:=by rfl) :
  PVo X (.Call (.Name x p) (e::es) [] pos) (makeO t n m F g):=by
 obtain⟨C,f,fd,ps,hc,hm,mk,Fn,hb⟩:=M.ex;obtain⟨ta,pa,hfa⟩:=ha;subst hx;exact⟨_,pe_make (CX:=CX0) (E:=E0) mk Fn (hr.mono hj) hg hm hb (DZ m) pass0 pa hdb he hpl,fun H₀ H O σ ds hd T Q o e q=>PK hc hfl hfa o e q⟩
end
end
section
variable{X:Cx}
variable(X) in
def PVx(e:Expr)(f:FX):Prop:=∃t,PE X e t/\∀H₀ H O σ ds hd d ds' Q,Ok X.K H₀ H O σ ds hd->f ds=some (d,ds')->(∀v H' O',Ok X.K H₀ H' O' σ ds' hd->Rep X.K H' O' v d->Q v H')->t σ H Q
section
variable{m:Str}{k j n:Nat}{cs:List Nat}{F:Nat->OT->List D->Option OT}{oe e:Expr}{es:List Expr}{apos pos pos':Pos}{f:FP}{g:FA}
theorem WI{ds:List Sl}{out:Out}(e:lentG n cs F f g ds=some out):∃ds',out=.nx ds':=by
 unfold lentG at e;obtain⟨q0,h2,e⟩:=bnd e;obtain⟨l,h3,e⟩:=bnd e
 split at e
 . split at e
   . rename_i c ts _ _;cases h4:F c (.ins c ts) l with
     |none=>rw[h4] at e;cases e
     |some T'=>rw[h4] at e;cases e;exact⟨_,rfl⟩
   . cases e
 . cases e
end
end
end FL
namespace L2
open PySem PySem.Spec PyProof.Rows
section
variable{X:Cx}
theorem sZ:∀{us:List aA} {ns:List Str},oO us ns->Vals (ns.map V.str) us
 |_,_,.nil=>.nil
 |_,_,.cons n t h=>.cons ⟨t,rfl⟩ (sZ h)
theorem KG:∀{xs:List V} {us:List aA},xs.length=us.length->(∀(j:Nat) (u:aA),us[j]?=some u->∃x,xs[j]?=some x/\RelV x u)->Vals xs us
 |[],[],_,_=>.nil
 |[],_::_,h,_=>by simp at h
 |_::_,[],h,_=>by simp at h
 | x :: xs, u :: us, h, H => by
   obtain⟨y,h1,h2⟩:=H 0 u rfl;simp only[dJ,Option.some.injEq] at h1;subst h1;exact .cons h2 (KG (by simpa using h) fun j v e=>H (j+1) v (by simpa using e))
end
end L2
namespace FL
open PySem PySem.Spec PyProof.Rows L2
section
variable{X:Cx}
end
end FL
namespace L2
open PySem PySem.Spec PyProof.Rows
section
variable{X:Cx}
end
end L2
namespace FL
open PySem PySem.Spec PyProof.Rows L2
section
variable{X:Cx}
end
section
variable{X:Cx}
theorem Ok.look{K:Frag}{H₀ H:Hp}{O:aB->Prop}{σ : L2.St}{ds:List Sl}{hd:Hold}(o:Ok K H₀ H O σ ds hd)(i:Nat):∃O',Ok K H₀ H O' σ (relO i ds) hd:=by
 by_cases hs:∃r T,ds[i]?=some (.ob r T)
 . obtain ⟨r, T, hl⟩ := hs;have e':relO i ds=ds.set i (.v (otD T)):=by unfold relO; rw [hl]
   rw[e'];exact o.frz hl
 . have e':relO i ds=ds:=by
    unfold relO
    split
    . rename_i r T hl;exact(hs ⟨r,T,hl⟩).elim
    . rfl
   rw[e'];exact⟨O,o⟩
theorem CG(i:Nat){e:Expr}{f:FE}(h:PV X e f):PV X e (relVO i f):=by
 obtain⟨t,ht,hf⟩:=h;refine⟨t,ht,fun H₀ H O σ ds hd d Q o e q=>?_⟩;obtain⟨O',o'⟩:=o.look i;unfold relVO at e;cases h1:f (relO i ds) with
 |none=>rw[h1] at e;cases e
 | some d' =>
   rw[h1] at e;simp only[bG,flV'] at e
   split at e
   . rename_i hfl;cases e;exact hf H₀ H O' σ _ hd _ Q o' h1 fun v H' s r=>q v H' s (Rep.flatten (fun a z=>((o.mono s).dom a z).elim fun u e=>⟨_,e,u.2⟩) hfl r)
   . cases e
theorem EN(i:Nat){e:Expr}{f:FA}(h:PVf X e f):PVf X e (relFO i f):=by
 obtain⟨t,ht,hf⟩:=h;refine⟨t,ht,fun H₀ H O σ ds hd l Q o e q=>?_⟩;obtain⟨O',o'⟩:=o.look i;unfold relFO at e;cases h1:f (relO i ds) with
 |none=>rw[h1] at e;cases e
 | some l' =>
   rw[h1] at e;simp only[bG] at e
   split at e
   . rename_i hfl;cases e;refine hf H₀ H O' σ _ hd _ Q o' h1 fun a xs H' s hn he r=>q a xs H' s hn he (Reps.flatten (fun b z=>?_) hfl r);rcases z with rfl | z
     . exact⟨_,he,rfl⟩
     . obtain⟨u, eu⟩ := (o.mono s).dom b z;exact⟨_,eu,u.2⟩
   . cases e
end
abbrev LkF(K:Frag)(f:aB)(oc:aA)(od:Option aB)(nm q:Str)(st:Stmt)(dV kV dc pm:aA)(an:Option aB)(cd ct:aA)(sl:Array (Option aA)):Prop:=K.lookup f=some ⟨oc,od,.func (cZ nm q (jL st) (qT st) (zH st) dV kV dc pm an cd ct),sl⟩
structure FunD(K:Frag)(x qual:Str)(st:Stmt)(f:aB)(fd:bN)(its:Array aA):Prop where
 ex:∃(Tu:aB) (ob:Obj) (n:Nat) (oc:aA) (od:Option aB) (kV doc pm:aA) (an:Option aB) (cdv ct:aA) (osl:Array (Option aA)),
  fd=cZ x qual (jL st) (qT st) (zH st) (.ref Tu) kV doc pm an cdv ct/\K.lookup f=some ⟨oc,od,.func fd,osl⟩/\gH K cdv qual=true/\K.lookup Tu=some ob/\ob.data=.seq its n
 kp:cE K (.ref f)=true
section
variable{P:aX}{w:bW}{K:Frag}{mg:Str->Option aA}{base:Heap}{x qual:Str}{st:Stmt}{f:aB}{fd:bN}{its:Array aA}
theorem FunD.binds{ps:List Str}{ds:List aA}(F:FunD K x qual st f fd its)(h:∀(Tu:aB) (kV doc pm:aA) (an:Option aB) (cdv ct:aA) (us:List aA),(us++ds).length=ps.length->∃k:Option (Array aA)->Sem (List (Str×aA)),pX (cZ x qual (jL st) (qT st) (zH st) (.ref Tu) kV doc pm an cdv ct) ⟨us,[]⟩=seqItems? (.ref Tu) >>= k/\k (some its)=pure (ps.zip (us++ds))):Binds K fd ps ds:=by
 obtain⟨Tu,ob,n,oc,od,kV,doc,pm,an,cdv,ct,osl,rfl,lk,hcd,lt,hs⟩:=F.ex;intro s us X hl;obtain⟨k,h1,h2⟩:=h Tu kV doc pm an cdv ct us hl;exact PySem.W.binds_K X rfl lt hs h1 h2
theorem len0{P:List aA->Prop}(h:P []):∀us:List aA,us.length=0->P us:=fun us hl=>by cases us with | nil=>exact h | cons _ _=>cases hl
theorem lenS{P:List aA->Prop}{n:Nat}(h:∀a us,us.length=n->P (a::us)):∀us:List aA,us.length=n+1->P us:=fun us hl=>by cases us with | nil=>cases hl | cons a r=>exact h a r (Nat.succ.inj hl)
theorem len1{P:List aA->Prop}(h:∀a0,P [a0]):∀us:List aA,us.length=1->P us:=lenS fun a=>len0 (P:=fun us=>P (a::us)) (h a)
theorem len2{P:List aA->Prop}(h:∀a0 a1,P [a0,a1]):∀us:List aA,us.length=2->P us:=lenS fun a=>len1 (P:=fun us=>P (a::us)) (h a)
theorem len3{P:List aA->Prop}(h:∀a0 a1 a2,P [a0,a1,a2]):∀us:List aA,us.length=3->P us:=lenS fun a=>len2 (P:=fun us=>P (a::us)) (h a)
theorem len4{P:List aA->Prop}(h:∀a0 a1 a2 a3,P [a0,a1,a2,a3]):∀us:List aA,us.length=4->P us:=lenS fun a=>len3 (P:=fun us=>P (a::us)) (h a)
theorem len5{P:List aA->Prop}(h:∀a0 a1 a2 a3 a4,P [a0,a1,a2,a3,a4]):∀us:List aA,us.length=5->P us:=lenS fun a=>len4 (P:=fun us=>P (a::us)) (h a)
def DefM(K:Frag)(x:Str)(st:Stmt)(f:aB):Prop:=∃(oc:aA) (od:Option aB) (kV dc pm:aA) (an:Option aB) (cd ct:aA) (sl:Array (Option aA)),aY K aS x=some (some (.ref f))/\LkF K f oc od x x st .none kV dc pm an cd ct sl/\gH K cd x=true/\cE K (.ref f)=true
def DefC(K:Frag)(C:aB)(m q:Str)(st:Stmt)(f:aB):Prop:=∃(oc:aA) (od:Option aB) (kV dc pm:aA) (an:Option aB) (cd ct:aA) (sl:Array (Option aA)),cI K (.ref C) m=some (some (.ref f))/\LkF K f oc od m q st .none kV dc pm an cd ct sl/\gH K cd q=true/\cE K (.ref f)=true/\mT K (.ref f)=true
theorem DefM.get{x:Str}{st:Stmt}{f:aB}(h:DefM K x st f):∃fd,Fun K x x st f fd/\aY K aS x=some (some (.ref f))/\cE K (.ref f)=true:=by
 obtain⟨_,_,_,_,_,_,_,_,_,a,l,c,k⟩:=h;exact⟨_,JH l c k,a,k⟩
theorem DefC.get{C:aB}{m q:Str}{st:Stmt}{f:aB}(h:DefC K C m q st f):∃fd,Fun K m q st f fd/\cI K (.ref C) m=some (some (.ref f))/\cE K (.ref f)=true/\mT K (.ref f)=true:=by
 obtain⟨_,_,_,_,_,_,_,_,_,a,l,c,k,i⟩:=h;exact⟨_,JH l c k,a,k,i⟩
theorem cal_mk{k n:Nat}{x:Str}{f:aB}{fd:bN}{ps:List Str}{F:List D->Option Ret}(G:FnOk P w K mg base CX0 k f fd ps (spF K n F))(b:Binds K fd ps [])(h:cE K (.ref f)=true)(m:mg x=some (.ref f)):Cal P w K mg base x k n F:=⟨f,_,_,G,b,h,m⟩
structure SysAt(P:aX)(w:bW)(base:Heap)(K:Frag)(mg:Str->Option aA):Prop where
 ex:∃h:Heap,K.In h/\h.Ns aS mg
def CN(K:Frag)(x:Str)(C:aB):Prop:=aY K aS x=some (some (.ref C))/\iY K C Str.empty=true/\mB K C=true/\pI K C=true/\cI K (.ref C) "__setattr__" = some (some (.builtin "object.__setattr__"))
theorem CN.get{C:aB}(h:CN K x C):aY K aS x=some (some (.ref C))/\Cls K C:=⟨h.1,⟨h.2.1,h.2.2.1,h.2.2.2.1,h.2.2.2.2⟩⟩
theorem fldOk_c{f:Str}{t i:Nat}{C:aB}{ix:List (Nat×Nat)}(a:aY K aS (eB t)=some (some (.ref C)))(c:Cls K C)(n:NoAttr K C f)(h:FldOk K f ix)(h1:(eO t)[i]?=some f:=by rfl)(h2:∀j,j<i->(eO t)[j]?≠some f:=by decide +kernel):FldOk K f ((t,i)::ix):=JI a c n h1 h2 h
def XN(K:Frag)(A B:aB):Prop:=PySem.W.isClsIn K B=true/\RI K (.ref B)=some (.type "type")/\PySem.W.subIn K (.ref A) (.ref B)=some false/\(aA.ref A==aA.ref B)=false
def XI(K:Frag)(x:Str)(C:aB):Prop:=aY K aS x=some (some (.ref C))/\cI K (.ref C) "__getattribute__" = some (some (.builtin "BaseException.__getattribute__"))/\cI K (.ref C) "__getattr__" = some none/\cI K (.ref C) "__class__" = some (some (.builtin "object.__class__"))/\uD K C (.type "object")=some true/\uD K C (.type "BaseException")=some true
theorem DefM.cal{k n:Nat}{x:Str}{st:Stmt}{f:aB}{ps:List Str}{F:List D->Option Ret}(d:DefM K x st f)(X:SysAt P w base K mg)(hf:∀{fd},Fun K x x st f fd->FnOk P w K mg base CX0 k f fd ps (spF K n F))(hb:∀(kV doc pm:aA) (an:Option aB) (cdv ct:aA) (us:List aA),us.length=ps.length->pX (cZ x x (jL st) (qT st) (zH st) .none kV doc pm an cdv ct) ⟨us,[]⟩=pure (ps.zip us):=by
    intro _ _ _ _ _ _;first | exact len0 rfl | exact len1 fun _=>rfl | exact len2 fun _ _=>rfl | exact len3 fun _ _ _=>rfl | exact len4 fun _ _ _ _=>rfl | exact len5 fun _ _ _ _ _=>rfl):Cal P w K mg base x k n F:=by
 obtain⟨_,F1,a,c⟩:=d.get;obtain⟨_,X,G⟩:=X.ex;exact cal_mk (hf F1) (F1.binds hb) c (hJ X G a)
theorem DefC.mc{j k n t:Nat}{cs:List Nat}{C f:aB}{m q:Str}{st:Stmt}{ps:List Str}{F:Nat->List D->Option Ret}(d:DefC K C m q st f)(a:aY K aS (eB t)=some (some (.ref C)))(c:Cls K C)(hf:∀{fd},Fun K m q st f fd->FnOk P w K mg base CX0 j f fd ps (spF K (n+1) (F t)))(h:MCal P w K mg base m k n cs F)(hj:j<=k:=by decide)(hn:m∉eO t:=by decide +kernel)(hb:∀(kV doc pm:aA) (an:Option aB) (cdv ct:aA) (us:List aA),us.length=ps.length->pX (cZ m q (jL st) (qT st) (zH st) .none kV doc pm an cdv ct) ⟨us,[]⟩=pure (ps.zip us):=by
    intro _ _ _ _ _ _;first | exact len1 fun _=>rfl | exact len2 fun _ _=>rfl | exact len3 fun _ _ _=>rfl):MCal P w K mg base m k n (t::cs) F:=by
 obtain⟨_,F1,x,y,z⟩:=d.get;exact PJ a c ⟨x,z,y⟩ (hf F1) hj (F1.binds hb) hn h
theorem DefC.lc{j k n t:Nat}{cs:List Nat}{C f:aB}{m q:Str}{st:Stmt}{ps:List Str}{F:Nat->OT->List D->Option OT}(d:DefC K C m q st f)(a:aY K aS (eB t)=some (some (.ref C)))(c:Cls K C)(hf:∀{fd},Fun K m q st f fd->FnOk P w K mg base CX0 j f fd ps (spL K n (F t)))(h:LCal P w K mg base m k n cs F)(hj:j<=k:=by decide)(hn:m∉eO t:=by decide +kernel)(hb:∀(kV doc pm:aA) (an:Option aB) (cdv ct:aA) (us:List aA),us.length=ps.length->pX (cZ m q (jL st) (qT st) (zH st) .none kV doc pm an cdv ct) ⟨us,[]⟩=pure (ps.zip us):=by
    intro _ _ _ _ _ _;first | exact len1 fun _=>rfl | exact len2 fun _ _=>rfl | exact len3 fun _ _ _=>rfl):LCal P w K mg base m k n (t::cs) F:=by
 obtain⟨_,F1,x,y,z⟩:=d.get;exact PN a c ⟨x,z,y⟩ (hf F1) hj (F1.binds hb) hn h
theorem newOk{t:Nat}{C:aB}{a:Str}(n:aY K aS (eB t)=some (some (.ref C)))(c:Cls K C)(na:NoAttr K C a):∀C',aY K aS (eB t)=some (some (.ref C'))->Cls K C'/\NoAttr K C' a:=fun C' e=>by
 rw[n] at e;cases e;exact⟨c,na⟩
end
section
variable{X:Cx}
end
section
variable{X:Cx}{m:Str}{k j:Nat}{cs:List Nat}{F:Nat->List D->Option Ret}{o:Expr}{apos pos:Pos}{fo:FE}
end
end FL
namespace L2
open PySem PySem.Spec PyProof.Rows
section
variable{prog:aX}{w:bW}{A:bT}{E:aA->aC->Prop}{s:aC}
theorem TM:sL (.type "list_reverseiterator") "__len__" = pure none:=by rw[iT,fE];kernel_rfl
theorem NW:sL (.type "list_reverseiterator") "__length_hint__" = pure (some (.builtin "list_reverseiterator.__length_hint__")):=by rw[iT,fE];kernel_rfl
theorem ZS{r:aB}{Q:Bool->aC->Prop}(hT:s.TypeIs (.ref r) "list_reverseiterator")(h:Q false s):bH (aT prog w) A (Builtin.List.listLengthHint (.ref r)) Q E s:=by
 unfold Builtin.List.listLengthHint;refine aD (iS hT TM ?_);show bH _ A (specialOf (aA.ref r) (Str.ofString "__length_hint__") >>= _) _ _ _;refine aD (iS hT NW ?_);generalize hid:("list_reverseiterator.__length_hint__" : String)=id0
 wp_delta
 rw[show splitId id0=some ("list_reverseiterator","__length_hint__") from by subst hid;decide +kernel];subst hid;refine aD (uX (b:=true) hT (by rw[pV];kernel_rfl) ?_);exact aN h
theorem ZT{I l:aB}{items:Array aA}{Q:aA->aC->Prop}(hh:A.handled=none)(hne:l≠I)(hit:s.heap.IsRevIter I l ((items.size:Int)-1))(hl:s.heap.IsList l items)(hn:items.size<=sizeLine)(hQ:∀h' tk acc' c',(∀b o,b≠I->s.heap.get? b=some o->h'.get? b=some o)->h'.get? s.heap.objs.size=some { cls:=.type "list",dict:=none,data:=.seq acc' c',slots:=#[] }->ItemsOf (fun i v=>items[items.size-1-i]?=some v) acc' items.size->Q (.ref s.heap.objs.size) { s with heap:=h',toks:=tk }) :
  bH (aT prog w) A (call (.type "list") [.ref I]) Q E s:=by
 refine callType_codes (Q₁:=fun obj s₁=>obj=.ref s.heap.objs.size/\s₁={ s with heap:=s.heap.push { cls:=.type "list",data:=.seq #[] } }) PySem.F.called_list (PySem.F.typeCall_list_1 _) PySem.F.entry_list_init
  (code_list_new _ ⟨rfl,rfl⟩) fun obj s₁ h₁=>?_
 obtain⟨rfl,rfl⟩:=h₁;have hS:(s.heap.push { cls:=.type "list",data:=.seq #[] }).get? s.heap.objs.size=some { cls:=.type "list",data:=.seq #[] }:=aK _ rfl;have hI:I<s.heap.objs.size:=let ⟨_,ho,_⟩:=hit;aV ho;have hlt:l<s.heap.objs.size:=let ⟨_,ho,_⟩:=hl;aV ho;refine⟨⟨_,hS,rfl⟩,PySem.F.args_list_init_2 _ _,?_⟩;show bH _ _ (do let old <- Builtin.List.listItems (.ref s.heap.objs.size);Builtin.List.listUpdate (.ref s.heap.objs.size) (fun _=>#[]);letGo old.toList.reverse;Builtin.List.listExtendWith (.ref s.heap.objs.size) (.ref I) .none) _ _ _;refine aD ?_;unfold Builtin.List.listItems;refine aD (GY hS rfl (aN ?_));show bH _ _ (updateSeq s.heap.objs.size (fun _=>#[]) >>= fun _=>letGo (#[]:Array aA).toList.reverse >>= fun _=>Builtin.List.listExtendWith (.ref s.heap.objs.size) (.ref I) .none) _ _ _;refine aD (DL hS rfl ?_);have hS₂:=dB (Obj.mapSeq (fun _=>(#[]:Array aA))) hS rfl
 have oth:∀b o,s.heap.get? b=some o->((s.heap.push { cls:=.type "list",data:=.seq #[] }).update s.heap.objs.size (Obj.mapSeq (fun _=>(#[]:Array aA)))).get? b=some o :=
  fun b o e=>(bS _ _ (Ne.symm (bL (aV e)))).trans (aG _ e)
 refine aD (wpAny_letGo ?_);have W:=Walks.listRev (prog:=prog) (w:=w) (A:=A.in1.in1) hh I l hne items
 have hst:0<=items.size/\Heap.IsRevIter ((s.heap.push { cls:=.type "list",data:=.seq #[] }).update s.heap.objs.size (Obj.mapSeq (fun _=>(#[]:Array aA)))) I l ((items.size:Int)-1-((0:Nat):Int))/\Heap.IsList ((s.heap.push { cls:=.type "list",data:=.seq #[] }).update s.heap.objs.size (Obj.mapSeq (fun _=>(#[]:Array aA)))) l items :=
  ⟨bY _,by simpa using hit.at fun o e=>oth _ o e,hl.at fun o e=>oth _ o e⟩
 generalize (s.heap.push { cls:=.type "list",data:=.seq #[] }).update s.heap.objs.size (Obj.mapSeq (fun _=>(#[]:Array aA)))=hp at *;have hT:({ s with heap:=hp }: aC).TypeIs (.ref I) "list_reverseiterator":=hst.2.1.typeIs (s:={ s with heap:=hp });unfold Builtin.List.listExtendWith;refine aD (RD hT ?_)
 have h1:Builtin.List.listSameRef (.ref s.heap.objs.size) (.ref I)=false:=by
  have : ¬s.heap.objs.size=I:=iZ hI;simp[Builtin.List.listSameRef,this]
 rw[if_neg (by rw[h1];decide)];refine aD (wpAny_pyIter_revIter (s:={ s with heap:=hp }) hst.2.1 ?_);refine aD (dS (ZS hT ?_));refine wpAny_ite_split (fun z=>absurd z (by decide)) fun _=>?_;refine aN ⟨nH sV _,codeAny_extend_loopS W.toS hn s.heap.objs.size (fun z=>by simp only[aF,mY,or_false] at z;exact z.elim (iZ hI) (iZ hlt)) _ items.size 0 _ #[] _ rfl (bY _) hst hS₂ (ItemsOf.nil _) fun s' acc' c' hm hS' hacc=>?_⟩;rw[Moved.eq_with hm];refine⟨rfl,hQ s'.heap s'.toks acc' c' (fun b o hb e=>hm.heap b o (fun hmem=>?_) (oth b o e)) hS' hacc⟩;have hbs:=bL (aV e);simp only[aF,mY,or_false] at hmem;rcases hmem with z | z
 . exact hbs z
 . exact hb z
end
section
variable{X:Cx}
def tLrev(X:Cx)(ta:TA):TE:=fun σ H Q=>ta σ H fun vs H1=>∃a xs,vs=[.ref a]/\SqL X.K H1 a xs/\∀p,H1 p=none->Q (.ref p) (upd H1 p (.lst xs.reverse))
theorem pe_lrev{a:Expr}{ta:TA}{p p2 pos pos2:Pos}(hc:X.calm=true)(hgl:Gl X "list")(hml:X.mg "list" = none)(hg:Gl X "reversed")(hm:X.mg "reversed" = none)(ha:PA X [a] ta)(hl:aJ [.Call (.Name "reversed" p2) [a] [] pos2] X.env=[(false,cC (.Call (.Name "reversed" p2) [a] [] pos2) X.env)]:=by rfl)(hs:aJ [a] X.env=[(false,cC a X.env)]:=by rfl) :
  PE X (.Call (.Name "list" p) [.Call (.Name "reversed" p2) [a] [] pos2] [] pos) (tLrev X ta):=by
 intro aE s σ H Q I h;refine fB (yT I hgl hml (show dW "list" = some (.type "list") by decide +kernel) ?_);refine dA ?_ hl rfl;rw[hl];show bH _ _ (RE ((false,cC (.Call (.Name "reversed" p2) [a] [] pos2) X.env)::cY pos [])) _ _ s;refine Calls.spliced_cons ?_;refine Call_ (yT I hg hm (show dW "reversed" = some (.type "reversed") by decide +kernel) (dA (thn (ha pos2 aE s σ H _ I h) fun us s1 zq=>?_) hs rfl));obtain⟨vs,H1,I1,r1,q1⟩:=zq;obtain⟨a,xs,e,hq,q⟩:=q1;subst e;obtain⟨u,rfl,ru⟩:=vals1 r1;cases ru;obtain⟨its,rv,pl,hz⟩:=I1.list hq;have hlen:=rv.length;refine call_reversed_list pl.isList ?_;refine Calls.spliced_nil ?_;have I2:Inv X aE σ H1 { s1 with heap:=s1.heap.push (uZ a ((its.toArray.size:Int)-1)),toks:=s1.toks }:=I1.kept fun b o e=>aG _ e;have hla:a<s1.heap.objs.size:=let ⟨_,ho,_⟩:=pl.isList;aV ho;refine ZT (I:=s1.heap.objs.size) (l:=a) (items:=its.toArray) (I.ok.hd hc) (bL hla) ⟨_,aK _ rfl,rfl,rfl⟩ (pl.isList.at fun o e=>aG _ e) (by simp only[aU];omega) fun h' tk acc' c' hk hS hacc=>?_
 have hv:Vals xs.reverse acc'.toList:=by
  refine KG (by simp only[fP,bB];rw[hacc.1];simp only[aU];omega) fun j u e=>?_;have e2:=hacc.2 j u (by rw[<- cD];exact e);have hj:j<acc'.toList.length:=(bF.mp e).1;have hj2:j<its.length:=by simp only[bB] at hj;rw[hacc.1] at hj;simpa using hj
  simp only[aU,nS] at e2;have hx:xs[xs.length-1-j]?=some (xs[xs.length-1-j]'(by omega)):=aZ (by omega);obtain⟨u',hu',ru⟩:=rv.get hx;rw[hlen,e2] at hu';cases hu';exact⟨_,by rw[HK (by omega)];exact hx,ru⟩
 generalize hN:(s1.heap.push (uZ a ((its.toArray.size:Int)-1))).objs.size=N at *;have hlt:s1.heap.objs.size<N:=by rw[<- hN];exact aV (o:=uZ a ((its.toArray.size:Int)-1)) (aK _ rfl)
 have fr:H1 N=none:=by rw[<- hN];exact I2.hok.fresh (aM _)
 have I3:Inv X aE σ (upd H1 N (.lst xs.reverse)) { s1 with heap:=(s1.heap.push (uZ a ((its.toArray.size:Int)-1))).push { cls:=.type "list",data:=.seq acc' c' },toks:=tk }:=by
  refine Inv.laid (s:={ s1 with heap:=s1.heap.push (uZ a ((its.toArray.size:Int)-1)),toks:=s1.toks }) I2 (fun b u e=>aG _ e) (nJ hN) (show ObjOk X.prog X.w _ _ _ (.lst xs.reverse) from ⟨by simpa using hz,acc'.toList,c',hv,?_⟩);rw[<- hN,Array.toArray_toList];exact aK _ rfl
 have I4:Inv X aE σ (upd H1 N (.lst xs.reverse)) { s1 with heap:=h',toks:=tk }:=by
  refine Inv.turnedS (s:={ s1 with heap:=(s1.heap.push (uZ a ((its.toArray.size:Int)-1))).push { cls:=.type "list",data:=.seq acc' c' },toks:=tk }) I3 (h':=h') (t':=tk) (ch:=[s1.heap.objs.size]) (fun b o hb q=>?_) (fun b hb=>?_)
  . have hb' : b ≠ s1.heap.objs.size := fun z => hb (by rw [z]; exact .head _)
    by_cases hbN:b=N
    . subst hbN;have q':((s1.heap.push (uZ a ((its.toArray.size:Int)-1))).push { cls:=.type "list",data:=.seq acc' c' }).get? b=some o:=q;rw[<- hN,aK _ rfl] at q';cases q';exact hS
    . have q' : ((s1.heap.push (uZ a ((its.toArray.size : Int)-1))).push { cls := .type "list", data := .seq acc' c' }).get? b=some o := q;rw[Heap.get?_push_ne _ _ _ (by rw[hN];exact hbN)] at q';exact hk b o hb' q'
  . rw[aP.mp hb];exact I1.fpOk (aM _) (by rw[upd_ne (bL hlt)];exact I1.hok.fresh (aM _))
 exact⟨.ref N,_,I4,rfl,q N fr⟩
end
section
variable{X:Cx}
theorem Inv.thawD{aE:List (aB×Obj)}{σ : L2.St}{H:Hp}{s:aC}{a:aB}{o:Obj}{es:Array DictEntry}{ep:Nat}{kvs:List (Key×V)}(I:Inv X aE σ H s)(e:H a=some (.frz o (.dK kvs)))(dat:o.data=.dict es ep)(hn:∀q u,X.H₀ a≠some (.frz q u)):Inv X aE σ (upd H a (.dK kvs)) s:=by
 have ne:∀{b},H b=none->b≠a:=fun {b} h z=>by rw[z,e] at h;cases h
 have ho:=(I.hok a _ e).1;refine⟨I.ok,I.os,I.bare,⟨I.base.keep,I.base.slot,fun b q x n hx=>?_,I.base.there,fun b xs q=>?_,fun b q u z=>?_,fun b ps q=>?_⟩,I.loc,I.cell,by rw[upd_ne (ne I.free)];exact I.free,fun x c q=>?_,fun p hp=>?_,fun b u q=>?_,I.len⟩
 . have := I.base.free b q x n hx;rw[upd_ne (ne this)];exact this
 . have := I.base.tups b xs q;rw[upd_ne (fun z=>by rw[z,e] at this;cases this)];exact this
 . have := I.base.frzs b q u z;rw[upd_ne (fun y=>by rw[y] at z;exact hn q u z)];exact this
 . have := I.base.tbls b ps q;rw[upd_ne (fun z=>by rw[z,e] at this;cases this)];exact this
 . have hca:c≠a:=fun z=>by
    obtain⟨v,hc⟩:=I.cell x c q;obtain⟨q',hc,hd⟩:=hc;rw[z,ho] at hc;have:=Option.some.inj hc;rw[<- this,dat] at hd;cases hd
   rcases I.freeC x c q with h | ⟨h1,q',u,h2⟩
   . exact .inl (by rw[upd_ne hca];exact h)
   . exact .inr ⟨h1,q',u,by rw[upd_ne hca];exact h2⟩
 . obtain⟨p1, p2, p3⟩ := I.pin p hp;exact⟨p1,by rw[upd_ne (ne p2)];exact p2,p3⟩
 . by_cases hb : b = a
   . subst hb;rw[zK] at q;cases q;exact(I.hok b _ e).2
   . rw [upd_ne hb] at q;refine (I.hok b u q).stay (fun _ _ _ z=>z) (fun c z=>?_) fun c xs z=>?_
     . rw[upd_ne (fun y=>by rw[y,e] at z;cases z)];exact z
     . obtain ⟨w, hw⟩ := xs;have z':H c=some w:=z;show upd H a (.dK kvs) c=some w;rw [upd_ne (fun y=>?_)]
       . exact z
       . rw[y, e] at z';cases z';obtain⟨vs,hv⟩:=hw;rw[dat] at hv;cases hv
end
section
variable{X:Cx}
end
end L2
namespace FL
open PySem PySem.Spec PyProof.Rows L2
section
variable{X:Cx}
theorem Reps.rev{K:Frag}{H:Hp}{O:aB->Prop}:∀{xs:List V} {l:List D},Reps K H O xs l->Reps K H O xs.reverse l.reverse
 |_,_,.nil=>.nil
 |_,_,.cons h t=>by rw[mL,mL];exact(Reps.rev t).append (.cons h .nil)
theorem TW{e:Expr}{f:FE}{p p2 pos pos2:Pos}(hc:X.calm=true)(hml:X.mg "list" = none)(hm:X.mg "reversed" = none)(h:PV X e f)(hgl:Gl X "list":=by rfl)(hg:Gl X "reversed":=by rfl)(hl:aJ [.Call (.Name "reversed" p2) [e] [] pos2] X.env=[(false,cC (.Call (.Name "reversed" p2) [e] [] pos2) X.env)]:=by rfl)(hs:aJ [e] X.env=[(false,cC e X.env)]:=by rfl) :
  PVf X (.Call (.Name "list" p) [.Call (.Name "reversed" p2) [e] [] pos2] [] pos) (revA f):=by
 obtain⟨t,ht,hf⟩:=zJ h zR hs;refine⟨_,pe_lrev hc hgl hml hg hm ht hl hs,fun H₀ H O σ ds hd l Q o e q=>?_⟩;unfold revA at e;obtain⟨d,h1,e⟩:=bnd e;cases d<;>first | (cases e;done) | skip
 rename_i l;cases e;refine hf H₀ H O σ ds hd [.lst l] _ o (by simp[zC,h1,qA]) fun vs H' s r=>?_;cases r with
 | cons r1 rr =>
   cases rr;obtain⟨a,xs,rfl,hq,rs⟩:=WRep.seqL (.inl r1);refine⟨a,xs,rfl,hq,fun p hp=>q p _ _ (s.trans (zX hp _)) (s.free hp) zK ?_⟩;exact((rs.rev).more hp).mono (zX hp _)
end
section
variable{X:Cx}
section
variable{scope:Scope}{NY:List Str}{mp:List (Option Nat)}{tg iter elt:Expr}{ifs:List Expr}{pos:Pos}{fi:FA}{ga:D->List Sl->Option (List Sl)}{tt:FT}{fe:FE}
theorem QU{wi:TI}{g:CI->TG}{t1:CI->TT}{t2:CI->TE}(hi:∀H₀ H O σ ds hd items R,Ok X.K H₀ H O σ ds hd->fi ds=some items->(∀J p H',Same H H'->HOk X.K H₀ H' O p->(∀k a,HI.root k a≠p)->(∀B,HI.base B≠p)->WlkD X.K J p items->R J H')->wi σ H R)(hg:∀c H₀ H O σ ds hd v d ds' Q,Ok X.K H₀ H O σ ds hd->Rep X.K H O v d->ga d ds=some ds'->(∀σ',Ok X.K H₀ H O σ' ds' hd->Q σ' H)->g c v σ H Q)(ht:∀c H₀ H O σ ds hd b Q,Ok X.K H₀ H O σ ds hd->tt ds=some b->(∀H',Same H H'->Q b H')->t1 c σ H Q)(he:∀c H₀ H O σ ds hd d Q,Ok X.K H₀ H O σ ds hd->fe ds=some d->(∀v H',Same H H'->Rep X.K H' O v d->Q v H')->t2 c σ H Q) :
  ∀H₀ H O σ ds hd l Q,Ok X.K H₀ H O σ ds hd->compG fi mp ga tt fe ds=some l →
   (∀a xs H',Same H H'->H a=none->H' a=some (.lst xs)->Reps X.K H' (ins1 a O) xs l->Q (.ref a) H')->tComp wi mp g t1 t2 σ H Q:=by
 intro H₀ H O σ ds hd l Q o e q;unfold compG at e;obtain⟨items,h1,e⟩:=bnd e
 split at e
 . rename_i hsz;refine hi H₀ H O σ ds hd items _ o h1 fun J p H1 s1 r1 nr nb wk=>fun c=>?_;have oI:Ok X.K H₀ H1 O (iH mp σ) (qU mp ds) (p::hd):=((o.mono s1).holdMore (p:=p) r1 nr).inner mp
   refine⟨fun i m ys H2=>i<=items.length/\m=items.length-i/\Same H1 H2/\ys.length<=i/\∃l' rest,Reps X.K H2 O ys l'/\compL ga tt fe (qU mp ds) (items.drop i)=some rest/\l=l'++rest,
    ⟨items.length,bY _,rfl,Same.refl _,aM _,[],l,.nil,by simpa using e,rfl⟩,?_⟩
   rintro i m ys H2 ⟨hi1,rfl,s2,hy,l',rest,ry,er,el⟩;have o2:=oI.mono s2;obtain⟨go,stop⟩:=wk H₀ H2 O o2.dom (o2.hold p bD)
   by_cases hlt:i<items.length
   . right;have hd0:items[i]? = some items[i]:=aZ hlt;obtain ⟨hgo,hyl⟩:=go i _ hd0;refine ⟨hgo,by omega,fun x H3 y=>?_⟩;obtain ⟨s3,r3⟩:=hyl x H3 y;rw [dX hlt,compL] at er;obtain ⟨ds1,h2,er⟩:=bnd er;refine hg c H₀ H3 O _ _ (p::hd) x _ ds1 _ (o2.mono s3) r3 h2 fun σ' o3=>?_;obtain ⟨b,h3,er⟩:=bnd er;refine ht c H₀ H3 O σ' ds1 (p::hd) b _ o3 h3 fun H4 s4=>?_;cases b with
     | false =>
       refine iteF ⟨items.length-(i+1),by omega,hlt,rfl,(s2.trans s3).trans s4,SE hy,l',rest,(ry.mono s3).mono s4,by simpa using er,el⟩
     | true =>
       refine iteT ?_;simp only[if_true] at er;obtain⟨yd,h4,er⟩:=bnd er;cases h5:compL ga tt fe (qU mp ds) (items.drop (i+1)) with
       |none=>rw[h5] at er;cases er
       | some rest' =>
         rw[h5] at er;cases er;refine he c H₀ H4 O σ' ds1 (p::hd) yd _ (o3.mono s4) h4 fun v H5 s5 r5=>?_;refine⟨items.length-(i+1),by omega,hlt,rfl,((s2.trans s3).trans s4).trans s5,by simp;omega,l'++[yd],rest',(((ry.mono s3).mono s4).mono s5).append (.cons r5 .nil),h5,?_⟩;rw[el];simp
   . left;have ei:i=items.length:=by omega
     subst ei;rw[kT,compL] at er;cases er;rw[fC] at el;subst el;refine⟨stop,by omega,fun a ha=>?_⟩;refine q a ys _ ((s1.trans s2).trans (zX ha _)) ((s1.trans s2).free ha) zK ?_;exact(ry.more ha).mono (zX ha _)
 . cases e
end
theorem PVo.n{e:Expr}{f:FO}(h:PVo X e f):PVn X e (seeO f):=by
 obtain⟨t,ht,hf⟩:=h;refine⟨t,ht,fun H₀ H O σ ds hd d Q o e q=>?_⟩;unfold seeO at e;obtain⟨T,h1,rfl⟩:=mpd e;exact hf H₀ H O σ ds hd T Q o h1 fun v H' fs s r nd hn=>q v H' s (r.frz fun a z=>z.elim)
end
section
variable{X:Cx}
end
end FL
namespace L2
open PySem PySem.Spec PyProof.Rows
section
variable{X:Cx}
end
end L2
namespace FL
open PySem PySem.Spec PyProof.Rows L2
section
variable{X:Cx}
end
section
variable{prog:aX}{w:bW}{A:bT}{E:aA->aC->Prop}{s:aC}
end
section
variable{X:Cx}{tg:Expr}
end
section
variable{K:Frag}{H H' H₀ : Hp}{O O':aB->Prop}
theorem ok_lend{σ : L2.St}{ds:List Sl}{p:Nat}{a:aB}{T:OT}{fs:List aB}{B:aB->Prop}(rt:RepO K H (orL fs B) (.ref a) T fs)(nd:fs.Nodup)(hB:∀b,B b->b∉fs/\∃u:MutHO,H b=some u.1)(hl : σ.length=ds.length)(hp:ds[p]?=some (.ob (some p) T))(ha : σ[p]?=some (some (.ref a)))(ho:∀(j:Nat) (s:Sl),j≠p->ds[j]?=some s->s=.no\/∃d v,s=.v d/\σ[j]?=some (some v)/\Rep K H (orL fs B) v d) :
  Ok K (cutH fs H) H (orL fs B) σ ds [.root p a,.base B]:=by
 have no:∀{j:Nat},¬IsOwn ds j:=fun {j} ⟨l,e⟩=>by
  by_cases hj:j=p
  . subst hj;rw[hp] at e;cases e
  . rcases ho j _ hj e with h | ⟨d,v,h,_⟩<;>cases h
 have nob:∀{j:Nat} {r:Option Nat} {t:OT},ds[j]?=some (.ob r t)->j=p:=fun {j r t} e=>by
  by_cases hj:j=p
  . exact hj
  . rcases ho j _ hj e with h | ⟨d,v,h,_⟩<;>cases h
 refine⟨fun b u e=>?_,fun i l' a' e _=>(no ⟨l',e⟩).elim,fun b hb=>hb.elim (fun z=>(rt.owns b z).2) fun z=>(hB b z).2,hl,fun i s e=>?_,fun i j a _ hi _ _ _=>(no hi).elim,fun q hq=>?_,?_⟩
 . by_cases z : b ∈ fs
   . rw[kD z] at e;cases e
   . rwa [yD z] at e
 . by_cases hi : i = p
   . subst hi;rw[hp] at e;cases e;exact jU
   . rcases ho i s hi e with rfl | ⟨d, v, rfl, e2, r⟩
     . exact jC
     . rw[e2];exact jZ r
 . rcases aF.mp hq with rfl | hq
   . exact True.intro
   . cases aP.mp hq;refine fun b hb=>⟨.inr hb,fun z=>?_⟩
     obtain⟨n,u,e⟩:=hB b hb;rw[yD n,e] at z;cases z
 . refine ⟨fun _ => fs, fun i r' t' e => ?_⟩;cases nob e;rw [hp] at e;cases e;refine ⟨.ref a,ha,rt,fun k a' ek h=>?_,nd,fun b hb=>⟨kD hb,fun j r2 t2 hj e2=>(hj (nob e2)).elim,fun j oj=>(no oj).elim⟩⟩;cases ek;rcases aF.mp h with h | h
   . cases h;rfl
   . cases aP.mp h
theorem Ok.lendEnd{σ : L2.St}{ds:List Sl}{hd:Hold}{p:Nat}{a:aB}{T:OT}{fs:List aB}{B:aB->Prop}(o:Ok K (cutH fs H) H' O' σ ds hd)(e:ds[p]?=some (.ob (some p) T))(h1:HI.root p a∈hd)(h2:HI.base B∈hd) :
  ∃fs',(∀b u,b∉fs->H b=some u->H' b=some u)/\RepO K H' (orL fs' B) (.ref a) T fs'/\fs'.Nodup/\(∀b∈fs',b∈fs\/H b=none)/\∀b,orL fs' B b->O' b:=by
 obtain⟨F',hF⟩:=o.obs;obtain⟨v,y1,y2,y3,y4,y5⟩:=hF p _ _ e;cases y3 p a rfl h1;have hb:=o.hold (.base B) h2;have sub:∀b,orL (F' p) B b->O' b:=fun b z=>z.elim (fun z=>(y2.owns b z).1) fun z=>(hb b z).1;exact⟨F' p,fun b u nb eb=>o.same b u (by rw[yD nb];exact eb),y2.less sub fun b z=>.inl z,y4,fun b z=>BN (y5 b z).1,sub⟩
theorem XX{fs fs':List aB}{B:aB->Prop}(h1:∀b,O b->b∈fs\/B b)(h2:∀b∈fs,O b)(h3:∀b,B b->O b)(k1:∀b u,b∉fs->H b=some u->H' b=some u)(k4:∀b∈fs',b∈fs\/H b=none):Chg H H' O (orL fs' B) fs fs' :=
 ⟨fun b u nb eb=>k1 b u (fun z=>nb (h2 b z)) eb,fun b u _ nb eb=>k1 b u nb eb,fun b z nb=>.inr ((h1 b z).resolve_left nb),fun b z=>z.elim (fun z=>(k4 b z).elim (fun y=>.inl (h2 b y)) fun y=>.inr ⟨z,y⟩) fun z=>.inl (h3 b z),k4⟩
theorem Ok.lendAt{σ : L2.St}{ds:List Sl}{hd:Hold}{i:Nat}{r:Option Nat}{T:OT}(o:Ok K H₀ H O σ ds hd)(e:ds[i]?=some (.ob r T))(hT:refO T=true) :
  ∃(a:aB) (fs:List aB),σ[i]?=some (some (.ref a))/\RepO K H O (.ref a) T fs/\fs.Nodup/\(∀b∈fs,O b) ∧
   ∀{H':Hp} {T':OT} {fs':List aB},(∀b u,b∉fs->H b=some u->H' b=some u)->RepO K H' (orL fs' (fun b=>O b/\b∉fs)) (.ref a) T' fs'->fs'.Nodup->(∀b∈fs',b∈fs\/H b=none) →
    Ok K H₀ H' (orL fs' (fun b=>O b/\b∉fs)) σ (ds.set i (.ob r T')) hd:=by
 obtain⟨v,w,f,y1,y2,y3,y4,y5,y6⟩:=o.modAt (p:=[]) e rfl;cases y2;have ow:∀b∈f,O b:=fun b z=>(y3.owns b z).1
 have hv:∃a,v=.ref a:=by
  cases y3 with
  |val _=>cases hT
  |lst _ _ _=>exact⟨_,rfl⟩
  |tup _ _ _=>exact⟨_,rfl⟩
  |dct _ _ _ _=>exact⟨_,rfl⟩
  |ins _ _ _ _ _=>exact⟨_,rfl⟩
 obtain⟨a,rfl⟩:=hv;refine⟨a,f,y1,y3,y4,ow,fun {H' T' fs'} k1 k2 k3 k4=>?_⟩;have:=y6 (XX (B:=fun b=>O b/\b∉f) (fun b z=>(Classical.em (b∈f)).imp id fun y=>⟨z,y⟩) ow (fun b z=>z.1) k1 k4) (fun b z y=>y.elim (fun y=>(k2.owns b y).2) fun y=>(y.2 z).elim) k2 k3;exact this
end
noncomputable def spR(K:Frag)(n p:Nat)(F:OT->List D->Option (D×OT)):Sp:=fun vs H Q _=>vs.length=n/\∃(a:aB) (T T':OT) (d:D) (fs:List aB) (B:aB->Prop) (l:List D),vs[p]?=some (.ref a)/\l.length=n/\RepO K H (orL fs B) (.ref a) T fs/\fs.Nodup ∧
 (∀b,B b->b∉fs/\∃u:MutHO,H b=some u.1)/\(∀(j:Nat) (d:D),j≠p->l[j]?=some d->∃v,vs[j]?=some v/\Rep K H (orL fs B) v d)/\F T l=some (d,T') ∧
 ∀v H' fs',(∀b u,b∉fs->H b=some u->H' b=some u)->RepO K H' (orL fs' B) (.ref a) T' fs'->fs'.Nodup->(∀b∈fs',b∈fs\/H b=none)->Rep K H' (orL fs' B) v d->Q v H'
section
variable{X:Cx}
variable(X) in
def PRv(ss:List Stmt)(f:FX):Prop:=∃t,PSs X ss t/\∀H₀ H O σ ds hd d ds' (E:Ends),Ok X.K H₀ H O σ ds hd->f ds=some (d,ds')->(∀v σ' H' O',Ok X.K H₀ H' O' σ' ds' hd->Rep X.K H' O' v d->E.rt v H')->t E σ H
theorem pvx_v{e:Expr}{f:FE}(h:PV X e f):PVx X e (vR f):=by
 obtain⟨t,ht,hf⟩:=h;refine⟨t,ht,fun H₀ H O σ ds hd d ds' Q o e q=>?_⟩;unfold vR at e;obtain⟨d,h1,e⟩:=mpd e;cases e;exact hf H₀ H O σ ds hd _ _ o h1 fun v H' s r=>q v H' O (o.mono s) r
theorem prv_ret{e:Expr}{pos:Pos}{f:FX}(h:PVx X e f):PRv X [.Return (some e) pos] f:=by
 obtain⟨t,ht,hf⟩:=h;refine⟨_,LI (CP ht),fun H₀ H O σ ds hd d ds' E o e q=>?_⟩;exact hf H₀ H O σ ds hd d ds' _ o e fun v H' O' o' r=>q v σ H' O' o' r
theorem qZ{st:Stmt}{rest:List Stmt}{g:FS}{f:FX}(h1:PSv X st g)(h2:PRv X rest f):PRv X (st::rest) (seqR g f):=by
 obtain⟨t,ht,hg⟩:=h1;obtain⟨u,hu,hf⟩:=h2;refine⟨_,EX ht hu,fun H₀ H O σ ds hd d ds' E o e q=>?_⟩;unfold seqR at e;obtain⟨out,h1,e⟩:=bnd e;cases out with
 | nx ds2 =>
   simp only at e;refine hg H₀ H O σ ds hd _ _ o h1 fun σ' H' O' o'=>?_;exact hf H₀ H' O' σ' ds2 hd d ds' E o' e q
 |_=>cases e
end
theorem fun_okR{P:aX}{w:bW}{K:Frag}{mg:Str->Option aA}{base:Heap}{x qual:Str}{st:Stmt}{f:aB}{fd:bN}{N ps:List Str}{k p:Nat}{F:OT->List D->Option (D×OT)}(Fn:Fun K x qual st f fd)(S:FnScope N ps (zH st)){g:FX}(hbody:∀(cdv:aA) (A:bT) (outer:List Env) (s:aC) (H:Hp) (E:XK),Room k (A.deeper (mE qual (zH st) s.heap.objs.size f cdv))->PRv (cxOf CX0 P w K mg base N qual (zH st) f cdv A outer s H E).nox (qT st) g)(hg:∀T l q,l.length=ps.length->F T l=some q->lentR g N.length p T l=some q)(hp:p<ps.length:=by decide)(hN:ps.length<=N.length:=by decide):FnOk P w K mg base CX0 (k+1) f fd ps (spR K ps.length p F):=by
 refine Fn.ok S (fun vs H Q E h=>h.1) (fun cdv A outer s H vs Q E hr h=>?_);obtain⟨hl,a,T,T',d,fs,B,l,ha,ll,rt,nd,hB,ra,e,q⟩:=h;obtain⟨t,ht,hf⟩:=hbody cdv A outer s H E hr;refine⟨t,ht,?_⟩;have hlen:(args N.length l).length=N.length:=by simp[args];omega
 have o:Ok K (cutH fs H) H (orL fs B) (L2.start N vs) ((args N.length l).set p (.ob (some p) T)) [.root p a,.base B]:=by
  refine ok_lend rt nd hB ?_ ?_ ?_ fun j s' hj es=>?_
  . rw[YN,hlen];simp only[L2.start,cA,cB,nR];omega
  . rw[bI (by rw[hlen];omega)]
  . simp only[L2.start];rw[bV (by simp;omega),bK,ha];rfl
  . rw [aH (Ne.symm hj)] at es;unfold args at es
    by_cases hjl:j<l.length
    . rw[bV (by simpa using hjl), bK, aZ hjl] at es;cases es;obtain⟨v,h1,h2⟩:=ra j _ hj (aZ hjl);refine .inr ⟨_,v,rfl,?_,h2⟩;simp only[L2.start];rw[bV (by simp;omega),bK,h1];rfl
    . rw [cH (by simpa using hjl), dI] at es
      split at es
      . cases es;exact .inl rfl
      . cases es
 have e:=hg T l _ ll e;unfold lentR at e;cases h1:g ((args N.length l).set p (.ob (some p) T)) with
 |none=>rw[h1] at e;cases e
 | some z =>
   obtain⟨d2,ds2⟩:=z;rw[h1] at e;simp only[bG] at e;cases h2:ds2[p]? with
   |none=>rw[h2] at e;cases e
   | some s0 =>
     rw[h2] at e;cases s0 with
     | ob r T2 =>
       cases r with
       |none=>cases e
       | some i =>
         simp only[obAt] at e
         split at e
         . rename_i hi;subst hi;cases e;refine hf _ H _ _ _ _ _ _ _ o h1 fun v σ' H' O' o' r=>?_;obtain⟨fs',k1,k2,k3,k4,k5⟩:=o'.lendEnd h2 (.head _) (.tail _ (.head _));exact q v H' fs' k1 k2 k3 k4 (r.less k5)
         . cases e
     |_=>cases e
structure CalR(P:aX)(w:bW)(K:Frag)(mg:Str->Option aA)(base:Heap)(x:Str)(k n p:Nat)(F:OT->List D->Option (D×OT)):Prop where
 ex:∃(f:aB) (fd:bN) (ps:List Str),FnOk P w K mg base CX0 k f fd ps (spR K n p F)/\Binds K fd ps []/\cE K (.ref f)=true/\mg x=some (.ref f)
section
variable{X:Cx}
variable(X) in
def PAx(i p:Nat)(es:List Expr)(g:FA):Prop:=∃t,PA X es t/\∀H₀ H O σ ds hd l r T v0 Q,Ok X.K H₀ H O σ ds hd->g ds=some l->ds[i]?=some (.ob r T)->σ[i]?=some (some v0) →
 (∀vs H',Same H H'->vs.length=l.length->vs[p]?=some v0->(∀(j:Nat) (d:D),j≠p->l[j]?=some d->∃v,vs[j]?=some v/\Rep X.K H' O v d)->Q vs H')->t σ H Q
theorem VA{i:Nat}{x:Str}{px:Pos}{es:List Expr}{g:FA}(hr:PAs X es g)(hN:X.N[i]?=some x:=by rfl)(hv:Vis X.env.scope x:=by first | exact Or.inl rfl | exact Or.inr (Or.inl rfl) | exact Or.inr (Or.inr rfl))(hd:(x==("__debug__" : Str))=false:=by decide)(hcd:(x==("__classdict__" : Str))=false:=by decide)(hs:aJ (.Name x px::es) X.env=(false,cC (.Name x px) X.env)::aJ es X.env:=by rfl):PAx X i 0 (.Name x px::es) (hereA g):=by
 obtain⟨t,ht,hg⟩:=hr;refine⟨_,qW (xD hN hv hd hcd) ht hs,fun H₀ H O σ ds hd l r T v0 Q o e e1 e2 q=>?_⟩;unfold hereA at e;obtain⟨l1,h1,rfl⟩:=mpd e;refine⟨v0,e2,hg H₀ H O σ ds hd l1 _ o h1 fun vs H' s rs=>?_⟩;refine q (v0::vs) H' s (by simp[rs.length]) rfl fun j d hj ej=>?_;cases j with
 |zero=>exact(hj rfl).elim
 |succ j=>exact rs.get ej
theorem FD{i p:Nat}{e:Expr}{es:List Expr}{f:FE}{g:FA}(ha:PV X e f)(hr:PAx X i p es g)(hs:aJ (e::es) X.env=(false,cC e X.env)::aJ es X.env:=by rfl):PAx X i (p+1) (e::es) (zC f g):=by
 obtain⟨t,ht,hf⟩:=ha;obtain⟨u,hu,hg⟩:=hr;refine⟨_,qW ht hu hs,fun H₀ H O σ ds hd l r T v0 Q o e e1 e2 q=>?_⟩;unfold zC at e;obtain⟨d1,h1,e⟩:=bnd e;obtain⟨l1,h2,rfl⟩:=mpd e;refine hf H₀ H O σ ds hd d1 _ o h1 fun v H1 s1 r1=>?_;refine hg H₀ H1 O σ ds hd l1 r T v0 _ (o.mono s1) h2 e1 e2 fun vs H2 s2 hl hp rs=>?_;refine q (v::vs) H2 (s1.trans s2) (by simp[hl]) (by simpa using hp) fun j d hj ej=>?_;cases j with
 |zero=>cases ej;exact⟨v,rfl,r1.mono s2⟩
 |succ j=>exact rs j d (fun z=>hj (by rw[z])) ej
theorem NZ{k j n i p:Nat}{F:OT->List D->Option (D×OT)}{x:Str}{pp pos:Pos}{e:Expr}{es:List Expr}{g:FA}(C:CalR X.prog X.w X.K X.mg X.base x k n p F)(hr:Room j X.A)(ha:PAx X i p (e::es) g)(hj:k<=j:=by decide)(hg:Gl X x:=by rfl)(hdb:(x==("__debug__" : Str))=false:=by decide)(he:aJ (e::es) X.env=(false,cC e X.env)::aJ es X.env:=by rfl)(hpl:(cY pos (aJ es X.env)).any (·.1)=false:=by rfl) :
  PVx X (.Call (.Name x pp) (e::es) [] pos) (callR n i F g):=by
 obtain⟨t,ht,hf⟩:=ha;obtain⟨f,fd,ps,Fn,hb,hk,hm⟩:=C.ex;refine⟨_,CQ (CX:=CX0) (E:=E0) Fn (hr.mono hj) hg hm hk hb .nil pass0 ht hdb he hpl,fun H₀ H O σ ds hd d ds' Q o e q=>?_⟩;unfold callR at e;obtain⟨l,h,e⟩:=bnd e;cases hs:ds[i]? with
 |none=>rw[hs] at e;cases e
 | some s =>
   rw[hs] at e;cases s with
   | ob r T =>
     simp only at e
     split at e
     . rename_i hc;obtain ⟨z,h2,e⟩:=mpd e;cases e;obtain ⟨a0,_,ea,_⟩:=o.lendAt hs hc.1;refine hf H₀ H O σ ds hd l r T _ _ o h hs ea fun vs H1 s1 hl hp rs=>?_;have o1:=o.mono s1;obtain ⟨a,fs,ea',rt,nd,ow,back⟩:=o1.lendAt hs hc.1;rw [ea] at ea';cases ea';have toO:∀ b,orL fs (fun b=>O b/\b ∉ fs) b->O b:=fun b z=>z.elim (ow b) fun z=>z.1;refine ⟨by simp only [fC]; rw [hl]; exact hc.2,a0,T,z.2,z.1,fs,fun b=>O b/\b ∉ fs,l,by simpa using hp,hc.2,rt.less toO (fun b z=>.inl z),nd,fun b z=>⟨z.2,o1.dom b z.1⟩,fun j d hj ej=>?_,h2,fun v H' fs' k1 k2 k3 k4 k5=>?_⟩
       . obtain⟨v, e1, e2⟩ := rs j d hj ej;exact⟨v,by simpa using e1,e2.less toO⟩
       . exact q v H' _ (back k1 k2 k3 k4) k5
     . cases e
   |_=>cases e
theorem vI{i:Nat}{x:Str}{e:Expr}{pos pos':Pos}{f:FX}(hN:X.N.Nodup)(he:PVx X e f)(hi:X.N[i]?=some x:=by rfl)(hx:Loc X.env.scope x:=by first | exact Or.inl rfl | exact Or.inr rfl)(hs:eQ e (some (.Name x pos')) pos.line X.env=pure false:=by rfl)(hf:X.fn x=true\/X.env.scope.names.lookup x=some .local:=by first | exact .inl rfl | exact .inr rfl):PSv X (.Assign [.Name x pos'] e pos) (setR i f):=by
 obtain⟨t,ht,hg⟩:=he;refine⟨_,CO hN hi hx ht hs hf,fun H₀ H O σ ds hd out E o e h=>?_⟩;unfold setR at e;obtain⟨q,h1,rfl⟩:=mpd e;exact hg H₀ H O σ ds hd q.1 q.2 _ o h1 fun v H' O' o' r=>h _ _ _ (o'.set r)
section
variable{scope:Scope}{NY:List Str}{mp:List (Option Nat)}{tg iter elt:Expr}{pos:Pos}{fi:FA}{ga:D->List Sl->Option (List Sl)}{fe:FX}{i p:Nat}
end
end
section
variable{P:aX}{w:bW}{K:Frag}{mg:Str->Option aA}{base:Heap}
theorem calR_mk{k n p:Nat}{x:Str}{f:aB}{fd:bN}{ps:List Str}{F:OT->List D->Option (D×OT)}(G:FnOk P w K mg base CX0 k f fd ps (spR K n p F))(b:Binds K fd ps [])(h:cE K (.ref f)=true)(m:mg x=some (.ref f)):CalR P w K mg base x k n p F:=⟨f,_,_,G,b,h,m⟩
theorem DefM.calR{k n p:Nat}{x:Str}{st:Stmt}{f:aB}{ps:List Str}{F:OT->List D->Option (D×OT)}(d:DefM K x st f)(X:SysAt P w base K mg)(hf:∀{fd},Fun K x x st f fd->FnOk P w K mg base CX0 k f fd ps (spR K n p F))(hb:∀(kV doc pm:aA) (an:Option aB) (cdv ct:aA) (us:List aA),us.length=ps.length->pX (cZ x x (jL st) (qT st) (zH st) .none kV doc pm an cdv ct) ⟨us,[]⟩=pure (ps.zip us):=by
    intro _ _ _ _ _ _;first | exact len0 rfl | exact len1 fun _=>rfl | exact len2 fun _ _=>rfl | exact len3 fun _ _ _=>rfl | exact len4 fun _ _ _ _=>rfl | exact len5 fun _ _ _ _ _=>rfl):CalR P w K mg base x k n p F :=
 by obtain⟨_,F1,a,c⟩:=d.get;obtain⟨_,X,G⟩:=X.ex;exact calR_mk (hf F1) (F1.binds hb) c (hJ X G a)
end
open PySem.W (hideAll hideAll_get of_hideAll hideAll_none)
section
variable{M:uG}{A:bT}{E:aA->aC->Prop}{s:aC}{B:Heap}{l outer:List Env}{env:Env}{e L:aB}{cls a0 fl:aA}{Q:Unit->aC->Prop}
end
section
variable{X:Cx}{E:XK}{C:aB}
end
section
variable{X:Cx}{E:XK}{C:aB}{scope:Scope}{NY:List Str}{mp:List (Option Nat)}{tg iter elt:Expr}{pos:Pos}{fi:FA}{ga:D->List Sl->Option (List Sl)}{fe:FE}{x:List Sl->Bool}
end
section
variable{X:Cx}
end
end FL
namespace FL
open PySem PySem.Spec PyProof.Rows L2
section
variable{X:Cx}{E:XK}{C:aB}{m:Str}{t k j n:Nat}{R:List D->Bool}{o e:Expr}{es:List Expr}{apos pos:Pos}{fo:FE}{g:FA}
theorem vG(i:Nat){e:Expr}{f:FO}(h:PVo X e f):PVo X e (relGO i f):=by
 obtain⟨t,ht,hf⟩:=h;refine⟨t,ht,fun H₀ H O σ ds hd T Q ok ex q=>?_⟩;obtain⟨O',o'⟩:=ok.look i;unfold relGO at ex;obtain⟨T',h1,ex⟩:=bnd ex
 split at ex
 . rename_i hfl;cases ex;refine hf H₀ H O' σ _ hd _ Q o' h1 fun v H' fs s r nd nw=>q v H' fs s ?_ nd nw;refine RepO.flatten (fun a z=>?_) hfl r fun b hb=>.inl hb;rcases z with z | z
   . obtain⟨_, u, e⟩ := r.owns a z;exact⟨u.1,e,u.2⟩
   . obtain⟨u, e⟩ := (ok.mono s).dom a z;exact⟨_,e,u.2⟩
 . cases ex
theorem TY{e:Expr}{f:FO}(h:PVo X e f):PV X e (ofO f):=by
 obtain⟨t,ht,hf⟩:=h;refine⟨t,ht,fun H₀ H O σ ds hd d Q ok ex q=>?_⟩;unfold ofO at ex;obtain⟨T,h1,rfl⟩:=mpd ex;refine hf H₀ H O σ ds hd T Q ok h1 fun v H' fs s r nd nw=>q v H' s (r.val' fun a z=>⟨.inr z,fun hb=>?_⟩);obtain⟨u,e⟩:=ok.dom a z;rw[nw a hb] at e;cases e
end
section
variable{X:Cx}{E:XK}{C:aB}{m:Str}{t k j n:Nat}{R:List D->Bool}{o e:Expr}{es:List Expr}{apos pos:Pos}{fo:FE}{g:FA}
end
section
variable{X:Cx}{scope:Scope}{NY:List Str}{mp:List (Option Nat)}{tg iter elt:Expr}{ifs:List Expr}{pos:Pos}{fi:FA}{ga:D->List Sl->Option (List Sl)}{tt:FT}{fe:FE}
end
section
variable{X:Cx}
theorem NL{K:Frag}{H:Hp}{O:aB->Prop}:∀{kvs:List (Key×V)} {l:List D} {k:Key},Reps K H O (kvs.map (·.2)) l->getKD k (kvs.map (·.1)) l=none->valV kvs k=none:=by
 intro kvs
 induction kvs with
 |nil=>intro l k _ _;rfl
 | cons p kvs ih =>
   intro l k r e;cases r with
   | cons h t =>
     simp only[bA,getKD] at e
     split at e
     . cases e
     . rename_i hk;have:=ih t e;simpa[valV,hk] using this
theorem UC{oe ke ze:Expr}{apos pos:Pos}{fd fk fz:FE}{j:Nat}(hr:Room j X.A)(ho:PV X oe fd)(hk:PV X ke fk)(hz:PV X ze fz)(hb:dH oe "get" X.env (cC oe X.env)=cC oe X.env:=by rfl)(hf:((cY pos (aJ [ke,ze] X.env)).all (fun x=>!x.1)&&(lY pos (gD [] X.env)).all (fun x=>x.1.isSome)&&decide (([ke,ze]:List Expr).length+([]:List iM).length+(if ([]:List iM).isEmpty then 0 else 1)<30))=true:=by rfl)(hl:(apos.endLine==pos.line)=true:=by rfl)(ht:cY pos (aJ [ke,ze] X.env)=[(false,cC ke X.env),(false,cC ze X.env)]:=by rfl):PV X (.Call (.Attribute oe "get" apos) [ke,ze] [] pos) (rH fd fk fz):=by
 obtain⟨td,pd,hd'⟩:=ho;obtain⟨tk,pk,hk⟩:=hk;obtain⟨tz,pz,hz⟩:=hz;refine⟨_,UY (iO (by omega) (hu100 hr)) pd pk pz ⟨hb,hf,hl,ht⟩,fun H₀ H O σ ds hd d Q o e q=>?_⟩;unfold rH at e;obtain⟨x,h1,e⟩:=bnd e;obtain⟨y,h3,e⟩:=bnd e;obtain⟨z,h4,e⟩:=bnd e;obtain⟨k,h5,e⟩:=bnd e;obtain⟨p,h6,rfl⟩:=mpd e;refine hd' H₀ H O σ ds hd x _ o h1 fun v H1 s1 r1=>?_;obtain⟨a,kvs,rfl,hb,ek,rs⟩:=vU r1 h6;refine⟨a,rfl,.inl ⟨kvs,hb⟩,?_⟩;refine hk H₀ H1 O σ ds hd y _ (o.mono s1) h3 fun yv H2 s2 r2=>?_;refine hz H₀ H2 O σ ds hd z _ ((o.mono s1).mono s2) h4 fun zv H3 s3 r3=>?_;obtain⟨a',kvs',e',hb',ek',rs'⟩:=vU (r1.mono (s2.trans s3)) h6;cases e';cases xH r2 h5;refine⟨valV kvs' k,.inl ⟨kvs',k,hb',rfl,rfl⟩,?_⟩;rw[<- ek'] at q;cases hg:getKD k (kvs'.map (·.1)) p.2 with
 | none =>
   rw[hg] at q;rw[NL rs' hg];exact q zv H3 ((s1.trans s2).trans s3) r3
 | some d =>
   rw[hg] at q;obtain⟨w,h7,h8⟩:=vJ rs' hg;rw[h7];exact q w H3 ((s1.trans s2).trans s3) h8
end
end FL
namespace L2
open PySem PySem.Spec PyProof.Rows
noncomputable def ItK(d:aB)(o:Obj)(kvs:List (Key×V)):It :=
 ⟨fun i H=>H d=some (.frz o (.dK kvs))/\i<kvs.length,fun i H v H'=>H'=H/\∃k x,kvs[i]?=some (k,x)/\v=kV k,fun i H=>H d=some (.frz o (.dK kvs))/\kvs.length<=i⟩
theorem HX{P:aX}{w:bW}{K:aL}{tg:Expr}(it d:aB)(o:Obj)(kvs:List (Key×V)){en:Array DictEntry}{ep:Nat}(dat:o.data=.dict en ep) :
  Turn P w K tg (ItK d o kvs) [it] it (fun i h=>h.IsKeyIter it d i kvs.length ep) where
 mem:=by simp
 obj:=fun i h st b hb=>by
  rw[aP.mp hb];obtain⟨q,e,c,dt⟩:=st;exact⟨q,e,fun v z=>by rw[dt] at z;cases z⟩
 keep:=fun i h h' st k=>let ⟨q,e,r⟩:=st;⟨q,k it (by simp) _ e,r⟩
 item:=by
  intro X hP hw hK hc i aE s σ H E I hf st hg;subst hP hw hK;obtain⟨hd,hi⟩:=hg;obtain⟨vs,rel,hat⟩:=tP I hd dat;have hl:=rel.length;obtain⟨k,x,hx⟩:∃k x,kvs[i]?=some (k,x):=⟨kvs[i].1,kvs[i].2,aZ hi⟩
  obtain⟨u,hu,ru⟩:=rel.get hx;obtain⟨f0,f1,f2,f3,f4,f5⟩:=hf it (by simp);rw[hl] at st;refine wpAny_pyNext_dict_item st hat hu fun key h' hkey st' sb=>?_;have I1:Inv X aE σ H { s with heap:=h' }:=I.turned (t':=s.toks) (fun b o hb e=>(sb.2 b hb).trans e) f0 f1 f3 f4 f5;obtain⟨q,e,c,dt⟩:=id st'
  have rk:RelV (kV k) key:=by
   rcases qV hkey with⟨j,t,rfl,rfl⟩ | ⟨y,t,rfl,rfl⟩ | ⟨rfl,rfl⟩
   . exact⟨t,rfl⟩
   . exact⟨t,rfl⟩
   . exact rfl
  exact⟨key,rfl,GB (s:={ s with heap:=h' }) e c dt (by decide) ⟨kV k,H,I1,rk,⟨rfl,k,x,hx,rfl⟩,by rw[hl];exact st',fun b hb=>(hf b hb).1⟩⟩
 done:=by
  intro X hP hw hK hc i aE s σ H E I hf st hg;subst hP hw hK;obtain⟨hd,hi⟩:=hg;obtain⟨vs,rel,hat⟩:=tP I hd dat;have hl:=rel.length;obtain⟨f0,f1,f2,f3,f4,f5⟩:=hf it (by simp);rw[hl] at st;exact wpAny_pyNext_dict_end (I.ok.hd hc) st hat (bC (by omega)) fun h' eb=>⟨rfl,I.turned (t':=s.toks) (fun b o hb e=>eb b o hb e) f0 f1 f3 f4 f5⟩
 self:=fun _ _ _ _ _ st h=>wpAny_pyIter_keyiter st h
section
variable{X:Cx}
def iDK(to:TE):TI:=fun σ H R=>to σ H fun x H1=>∃d o kvs,x=.ref d/\H1 d=some (.frz o (.dK kvs))/\R (ItK d o kvs) H1
theorem US{tg oe:Expr}{to:TE}(ho:PE X oe to):PI X tg oe (iDK to):=by
 intro aE s σ H R I h;refine thn (ho aE s σ H _ I h) fun v s1 zq=>?_;obtain⟨x,H1,I1,r1,d,o,kvs,ex,hd,q⟩:=zq;subst ex;obtain rfl:v=aA.ref d:=r1;obtain⟨hob,z,hds,vs,rel,dd⟩:=I1.hok d _ hd;obtain⟨o',en,ep,e1,exd,dat,r⟩:=id dd;rw[hob] at e1;cases e1;have hat:s1.heap.DictAt (eW X.prog X.w) d vs ep:=⟨o,en,hob,exd,dat,r⟩
 refine wpAny_pyIter_dict hds hat ?_;refine⟨_,[_],_,_,H1,rfl,I1.kept (t':=s1.toks) fun b o e=>aG _ e,HX _ d o kvs dat,?_,fun c hc=>?_,q⟩
 . rw[rel.length];exact⟨_,aK _ rfl,rfl,rfl⟩
 . rw[aP.mp hc];exact I1.fpOk (aM _) (I1.hok.fresh (aM _))
def tThw(t:TT):TT:=fun σ H Q=>∃a kvs,H a=some (.dK kvs)/\∀o,t σ (upd H a (.frz o (.dK kvs))) fun b H'=>H' a=some (.frz o (.dK kvs))/\Q b (upd H' a (.dK kvs))
theorem pt_thw{e:Expr}{t:TT}(h:PT X e t):PT X e (tThw t):=by
 intro aE s σ H Q I ⟨a,kvs,h2,h3⟩
 have hn:∀q u,X.H₀ a≠some (.frz q u):=fun q u z=>by
  have:=I.base.frzs a q u z;rw[h2] at this;cases this
 obtain⟨o,I'⟩:=I.freezeD h2;obtain⟨ho,z,hd,vs,rel,o',en,ep,e1,exd,dat,r⟩:=I'.hok a _ zK;rw[ho] at e1;cases e1;refine thn (h aE s σ _ _ I' (h3 o)) fun b s' hq=>?_;obtain⟨H',I2,e2,q⟩:=hq;exact⟨_,I2.thawD e2 dat hn,q⟩
end
end L2
namespace FL
open PySem PySem.Spec PyProof.Rows L2
section
variable{X:Cx}
theorem NK{K:Frag}{d:aB}{o:Obj}{kvs:List (Key×V)}{l:List D}: WlkD K (ItK d o kvs) (.fz d o kvs l) ((kvs.map (·.1)).map keyDD):=by
 intro H₀ H O dom ⟨n,hd,rs⟩;have hl:((kvs.map (·.1)).map keyDD).length=kvs.length:=by simp
 refine⟨fun i x hx=>?_,⟨hd,by rw[hl];exact aM _⟩⟩;have lt:i<kvs.length:=by rw[<- hl];exact(bF.mp hx).1
 refine⟨⟨hd,lt⟩,fun v H' zq=>?_⟩;obtain⟨e,k,y,hk,rfl⟩:=zq;subst e
 have:x=keyDD k:=by
  simp only[bK,hk,cQ,Option.some.injEq] at hx;exact hx.symm
 subst this;exact⟨Same.refl _,kV_rep k⟩
theorem UR{tg oe:Expr}{f:FE}(h:PV X oe f):PId X tg oe (keysA f):=by
 obtain⟨t,ht,hf⟩:=h;refine⟨_,US ht,fun H₀ H O σ ds hd items R o e q=>?_⟩;unfold keysA at e;obtain⟨x,h1,e⟩:=bnd e;refine hf H₀ H O σ ds hd x _ o h1 fun v H1 s1 r1=>?_;cases x<;>first | (cases e;done) | skip
 cases e;cases r1 with
 | @dcf a ob kvs _ _ n hb ek rs =>
   subst ek;exact⟨a,ob,kvs,rfl,hb,q _ (.fz a ob kvs _) H1 s1 ⟨n,hb,rs⟩ (fun _ _ z=>by cases z) (fun _ z=>by cases z) NK⟩
end
section
variable{K:Frag}{H H' H₀ : Hp}{O O':aB->Prop}
end
section
variable{X:Cx}
end
end FL
namespace TS
open PySem PyProof.Rows
section
variable{prog:aX}{w:bW}
abbrev SS(prog:aX)(w:bW)(h:Heap)(a:aB)(ts:List Str):Prop:=h.SetOf (PySem.strKind prog w) a (fun k=>decide (k∈ts)) (FL.cntT ts)
theorem ss_add{h:Heap}{a:aB}{ts:List Str}{x:Str}(q:h.SetOf (PySem.strKind prog w) a (fun k'=>decide (k'∈ts)||decide (k'=x)) (if decide (x∈ts)=true then FL.cntT ts else FL.cntT ts+1)):SS prog w h a (x::ts):=by
 have e1:(fun k':Str=>decide (k'∈ts)||decide (k'=x))=fun k'=>decide (k'∈x::ts):=by
  funext k';rw[Bool.or_comm];simp only[aF,Bool.decide_or]
 have e2:(if decide (x∈ts)=true then FL.cntT ts else FL.cntT ts+1)=FL.cntT (x::ts):=by
  show _=if x∈ts then _ else _
  by_cases hx:x∈ts<;>simp[hx]
 rw[e1,e2] at q;exact q
section
variable{A:bT}{R:HF->aC->Prop}{J:aB}{feet hand:List aB}{G:Array nZ->Array nZ->Prop}{n:Nat}{P:Nat->aA->Prop}{Z:Nat->aC->Prop}
theorem NO(W:WalksS prog w A.in1 J feet hand G n P Z)(c:aB)(off:c∉feet)(num:Nat->Str)(isn:∀i v,P i v->∃t,v=.str (num i) t)(few:n+1<scanBound) :
  ∀(k i:Nat) (z:aC),n-i=k->i<=n->Z i z->SS prog w z.heap c ((List.range i).map num).reverse →
   (∀z',Moved (c::hand) G z z'->SS prog w z'.heap c ((List.range n).map num).reverse->R (.ok (.ret .none)) z') →
   gZ (aT prog w) A (.builtin "set.update.loop" ⟨[.ref c,.ref J],[]⟩) R z:=by
 have away:c∉hand:=fun q=>off (W.sub c q);have more:∀b,b∈hand->b∈c::hand:=fun b q=>.tail _ q
 have at':∀{z z':aC} {ts:List Str},Moved hand G z z'->SS prog w z.heap c ts->SS prog w z'.heap c ts:=fun mv hS=>by
  obtain⟨o,es,ep,t,ho,r⟩:=hS;exact⟨o,es,ep,t,mv.heap c o away ho,r⟩
 intro k
 induction k with
 | zero =>
   intro i z hk hi here hS done;have e:i=n:=by omega
   subst e;exact wD (W.done z _ _ here fun z' mv=>done z' (mv.mono more) (at' mv hS))
 | succ k ih =>
   intro i z hk hi here hS done;have hlt:i<n:=by omega
   refine wD (W.item i z _ _ hlt here fun v z' hv here' mv=>?_);obtain⟨t,rfl⟩:=isn i v hv;have hS':=at' mv hS;have hk':(PySem.strKind prog w).is (num i) (.str (num i) t)=true:=by simp[PySem.strKind,aA.isStrOf]
   have hle:=FL.cntT_le ((List.range i).map num).reverse;simp only[fP,cB,RK] at hle;dsimp only;unfold setAdd;refine dS (aD ((PySem.strKind prog w).pyHash (k:=num i) hk' ?_));refine wpAny_setAddHashed_of (knd:=PySem.strKind prog w) (s:={ z' with toks:=z'.toks+1 }) hk' rfl hS' (by omega) fun h' same hS2=>?_;have rest:∀b,b≠c->h'.get? b=z'.heap.get? b:=same.2
   have hS3:SS prog w h' c ((List.range (i+1)).map num).reverse:=by
    rw[nK,dD,hW];exact ss_add hS2
   exact ih (i+1) _ (by omega) hlt (W.frame _ z' _ _ here' (lF _) fun b q o e=>(rest b fun y=>off (y▸q)).trans e) hS3 fun z2 mv2 hS4=>done z2 (Moved.trans W.gtrans ((mv.mono more).then_heap (lF _) fun b o q e=>(rest b fun y=>q (y▸.head _)).trans e) mv2) hS4
end
section
variable{A:bT}{E:aA->aC->Prop}{s:aC}
theorem ss_new(h:Heap):SS prog w (h.push (nset (!bt w))) h.objs.size []:=
 ⟨_,#[],0,_,aK _ rfl,⟨rfl,rfl,rfl⟩,rfl,fun e he=>by simp at he,fun k=>by simp,by decide,by rfl,rfl⟩
theorem SW{items:Array aA}{ns:List Str}(hi:oO items.toList ns):(List.range items.size).map (fun i=>ns.getD i "")=ns:=by
 have hlen:items.size=ns.length:=by rw[<- oO.length hi,bB]
 apply iV;intro i;rw[bK]
 by_cases hi':i<ns.length
 . rw[lM (by omega)];simp[eY,aZ hi']
 . rw[bC (by simp;omega),bC (by omega)];rfl
theorem QD{l:aB}{items:Array aA}{ns:List Str}{Q:aA->aC->Prop}(free:A.handled=none)(hl:s.heap.IsList l items)(hi:oO items.toList ns)(few:items.size+1<scanBound)(h:∀(h':Heap) (tk:Nat),SS prog w h' s.heap.objs.size ns.reverse->(∀b o,s.heap.get? b=some o->h'.get? b=some o)->Q .none { s with heap:=h',toks:=tk }) :
  gZ (aT prog w) A (.call (.builtin "set.__init__") ⟨[.ref s.heap.objs.size,.ref l],[]⟩) (wants Q E) { s with heap:=s.heap.push (nset (!bt w)) }:=by
 have hS:(s.heap.push (nset (!bt w))).get? s.heap.objs.size=some (nset (!bt w)):=aK _ rfl;refine codeAny_call_builtin lL.init.plain AG (check_set_init_1 ⟨_,hS,rfl⟩ ?_);obtain⟨lo,hlo,c1,nl,d1⟩:=hl;obtain⟨k1,k2,k3,k4⟩:=lo;cases c1;cases d1;have old:(s.heap.push (nset (!bt w))).get? l=some { cls:=.type "list",dict:=k2,data:=.seq items nl,slots:=k4 }:=aG _ hlo;have no1:=DO;have no2:=sS;have no3:(aA.type "list"==aA.type "dict")=false:=rfl;have hl1:(s.heap.push (nset (!bt w))).IsList l items:=⟨_,old,rfl,nl,rfl⟩
 have lS:=aV hlo;have sz:(s.heap.push (nset (!bt w))).objs.size=s.heap.objs.size+1:=oM _ _;have far:∀b:aB,b<s.heap.objs.size->b≠(s.heap.push (nset (!bt w))).objs.size:=fun b hb=>by rw[sz];exact bL (fH hb)
 unfold Builtin.«set.__init__» noKeywords;unfold Builtin.Frozenset.updateFrom;generalize walker:AA=PI
 wp_walk
 subst walker;refine nE hl1 (aD (GZ ?_))
 refine NO ((Walks.list (by simp[free]) _ l (far l lS) items).toS) s.heap.objs.size ?off (fun i=>ns.getD i "") (fun i v hv=>by
   obtain⟨y,t,e1,e2⟩:=oO.item hi i v (by rw[cD];exact hv)
   exact⟨t,by rw[e1,eY,e2];rfl⟩) few items.size 0 _ rfl (bY _)
  ⟨⟨_,aK _ rfl,rfl,rfl⟩,hl1.push _⟩ ?at0 ?fin
 case at0 =>
  obtain⟨o,es,ep,t,ho,r⟩:=ss_new (prog:=prog) (w:=w) s.heap;exact⟨o,es,ep,t,aG _ ho,r⟩
 case off =>
  rw[sz];intro q;rcases aF.mp q with e | q
  . exact bL (hU _) e
  . exact iZ lS (aP.mp q)
 case fin =>
  rintro⟨h2,g2,d2,t2,s2⟩ mv full;have eg:g2=s.gens:=mv.gens;have ed:d2=s.drawn:=mv.drawn;have es:s2=s.os:=mv.os;rw[SW hi] at full;subst eg ed es;refine aN (aN (h h2 t2 full fun b o e=>?_));have hb:=aV e;refine mv.heap b o (fun q=>?_) (aG _ (aG _ e));rcases aF.mp q with y | q
  . exact bL hb y
  . exact far b hb (aP.mp q)
set_option maxHeartbeats 4000000 in
theorem call_setT{l:aB}{items:Array aA}{ns:List Str}{Q:aA->aC->Prop}(free:A.handled=none)(hl:s.heap.IsList l items)(hi:oO items.toList ns)(few:items.size+1<scanBound)(h:∀(h':Heap) (tk:Nat),SS prog w h' s.heap.objs.size ns.reverse->(∀b o,s.heap.get? b=some o->h'.get? b=some o)->Q (.ref s.heap.objs.size) { s with heap:=h',toks:=tk }) :
  bH (aT prog w) A (call (.type "set") [.ref l]) Q E s:=by
 have C:=lL;obtain⟨top,above,order⟩:=C.mro;have made:=C.made;have below:=C.sub;have nt:=C.notType;have can:=C.canCreate;have fits:=AF (.ref l);refine HA (DN (show bH _ _ (callAny (.type "set") _) _ _ _ from aN ⟨Code.quiet_builtin _ (by decide +kernel),iU uJ ?_⟩));rw[bT.under_plain (weight_type_call_type _ _ _) rfl]
 repeat (any_goals first | assumption | wp_step)
 refine iK (FJ (.ref l) (E:=E) (Q:=fun v z=>v=.ref s.heap.objs.size/\z={ s with heap:=s.heap.push (nset (!bt w)) }) ⟨rfl,rfl⟩) fun r z q=>?_;rcases r with e | fl
 . exact q
 cases fl<;>try exact q.elim
 obtain⟨rfl,rfl⟩:=q;have at':aC.TypeIs { s with heap:=s.heap.push (nset (!bt w)) } (.ref s.heap.objs.size) "set":=⟨_,aK _ rfl,rfl⟩
 have look:=C.init.lookup;have bound:=C.init.bind (.ref s.heap.objs.size)
 repeat (any_goals first | assumption | wp_step)
 refine iK (QD (E:=E) (Q:=fun v z=>v=.none/\∃h' tk,z={ s with heap:=h',toks:=tk }/\SS prog w h' s.heap.objs.size ns.reverse/\∀b o,s.heap.get? b=some o->h'.get? b=some o) (by simp[free]) hl hi few
  fun h' tk q1 q2=>⟨rfl,h',tk,rfl,q1,q2⟩) fun r z q=>?_
 rcases r with e | fl
 . exact q
 cases fl<;>try exact q.elim
 obtain⟨rfl,h',tk,rfl,q1,q2⟩:=q
 repeat (any_goals first | assumption | wp_step)
 exact h h' tk q1 q2
end
end
end TS
namespace L2
open PySem PySem.Spec PyProof.Rows
section
variable{X:Cx}
theorem DF:CallR X (.builtin "sorted") (fun xs H Q=>∃(p:aB) (ks:List Str),xs=[.ref p]/\SqL X.K H p (ks.map V.str)/\ks.length<64/\∀l,H l=none->Q (.ref l) (upd H l (.lst ((FL.srtT ks).map V.str)))):=by
 intro aE s σ H xs us Q I r h;obtain⟨p,ks,rfl,hq,h64,q⟩:=h;obtain⟨u,rfl,ru⟩:=vals1 r;cases ru;obtain⟨its,rv,pl,hz⟩:=I.list hq;have hi:oO its ks:=vE rv;have hl:=pl.isList;have hlen:=oO.length hi;refine Calls.call_function_entry (A:=X.A) kind_sorted plain_sorted entry_sorted (args_sorted1 _) ?_;show bH _ _ (checkCount "sorted" 1 1 1 >>= _) _ _ s;refine aD (aN (aD (collect_list hl ?_ (by rw[iD];omega))));refine TU.sorted_endS (s:={ s with heap:=(s.heap.push (fR "list" #[] 0)).update s.heap.objs.size (Obj.mapSeq (·++its.toArray)) }) hi (by omega) fun h2 vs' ns' e p1 p2 p3 p4 p5=>?_;have k1:∀b o,s.heap.get? b=some o->((s.heap.push (fR "list" #[] 0)).update s.heap.objs.size (Obj.mapSeq (·++its.toArray))).get? b=some o:=fun b o q=>(bS _ _ (Ne.symm (bL (aV q)))).trans (aG _ q);have en:ns'=FL.srtT ks:=FL.leT_unique _ _ (p4.trans (FL.srtT_perm ks).symm) (FL.sortedS_le p5) (FL.srtT_le ks);have I1:=I.kept (t':=s.toks) k1;refine⟨.ref _,_,Inv.laid I1 (t':=s.toks) p1 (aM _) (show ObjOk X.prog X.w _ h2 _ (.lst ((FL.srtT ks).map V.str)) from ⟨?_,vs',e,?_,p2⟩),rfl,q _ (I1.hok.fresh (aM _))⟩
 . have := (FL.srtT_perm ks).length_eq;simp only[cB];rw[iD];omega
 . rw[<- en];exact sZ p3
def tLset(ta:TA)(K:aL):TE:=fun σ H Q=>ta σ H fun vs H1=>∃(p:aB) (ts:List Str),vs=[.ref p]/\SqL K H1 p (ts.map V.str)/\ts.length<1000/\Q (.int (FL.cntT ts.reverse:Nat)) H1
theorem pe_lset{a:Expr}{ta:TA}{p p2 pos pos2:Pos}(hc:X.calm=true)(hgl:Gl X "len")(hml:X.mg "len" = none)(hg:Gl X "set")(hm:X.mg "set" = none)(ha:PA X [a] ta)(hl:aJ [.Call (.Name "set" p2) [a] [] pos2] X.env=[(false,cC (.Call (.Name "set" p2) [a] [] pos2) X.env)]:=by rfl)(hs:aJ [a] X.env=[(false,cC a X.env)]:=by rfl) :
  PE X (.Call (.Name "len" p) [.Call (.Name "set" p2) [a] [] pos2] [] pos) (tLset ta X.K):=by
 intro aE s σ H Q I h;refine fB (yT I hgl hml (show dW "len" = some (.builtin "len") by decide +kernel) ?_);refine iN ?_ hl rfl;rw[hl];show bH _ _ (RE ((false,cC (.Call (.Name "set" p2) [a] [] pos2) X.env)::cY pos [])) _ _ s;refine Calls.spliced_cons ?_;refine Call_ (yT I hg hm (show dW "set" = some (.type "set") by decide +kernel) (dA (thn (ha pos2 aE s σ H _ I h) fun us s1 zq=>?_) hs rfl));obtain⟨vs,H1,I1,r1,q1⟩:=zq;obtain⟨l,ts,e,hq,hz0,q⟩:=q1;subst e;obtain⟨u,rfl,ru⟩:=vals1 r1;cases ru;obtain⟨its,rv,pl,hz⟩:=I1.list hq;have hi:oO its ts:=vE rv;have hlen:=oO.length hi;refine TS.call_setT (I.ok.hd hc) pl.isList (by simpa using hi) (by simp only[aU];unfold scanBound;omega) fun h' tk hS hk=>?_;have I2:Inv X aE σ H1 { s1 with heap:=h',toks:=tk }:=I1.kept hk;refine Calls.spliced_nil ?_;obtain⟨o,es,ep,t,ho,hex,hd,hel,hmem,hb,hf,hn⟩:=hS;have hle:=FL.cntT_le ts.reverse;simp only[fP] at hle;refine call_len_set (s:={ s1 with heap:=h',toks:=tk }) ho hex hd hf (by omega) ?_;exact⟨.int (FL.cntT ts.reverse:Nat),H1,I2.kept (t':=tk+1+1) (fun b o e=>e),⟨_,by rw[hn]⟩,q⟩
end
end L2
namespace FL
open PySem PySem.Spec PyProof.Rows L2
section
variable{X:Cx}
theorem pv_lset{e:Expr}{f:FE}{p p2 pos pos2:Pos}(hc:X.calm=true)(hml:X.mg "len" = none)(hm:X.mg "set" = none)(he:PVw X e f)(hgl:Gl X "len":=by rfl)(hg:Gl X "set":=by rfl)(hl:aJ [.Call (.Name "set" p2) [e] [] pos2] X.env=[(false,cC (.Call (.Name "set" p2) [e] [] pos2) X.env)]:=by rfl)(hs:aJ [e] X.env=[(false,cC e X.env)]:=by rfl) :
  PV X (.Call (.Name "len" p) [.Call (.Name "set" p2) [e] [] pos2] [] pos) (lsetE f):=by
 obtain⟨te,pe,he⟩:=he;refine⟨_,pe_lset hc hgl hml hg hm (qW pe jT hs) hl hs,fun H₀ H O σ ds hd l Q o e q=>?_⟩;unfold lsetE at e;obtain⟨d,h1,e⟩:=bnd e;refine he H₀ H O σ ds hd _ _ o h1 fun v H1 s1 r1=>?_;cases d<;>first | (cases e;done) | skip
 rename_i l';simp only at e;obtain⟨ts,hb,e⟩:=bnd e
 split at e
 . rename_i hz;cases e;obtain⟨a1,xs,rfl,hq,rs⟩:=r1.seqL;exact⟨a1,ts,rfl,by rw[<- xX rs hb];exact hq,hz,q _ H1 s1 (.int _)⟩
 . cases e
theorem rS{e:Expr}{f:FE}{p pos:Pos}(hm:X.mg "sorted" = none)(he:PVw X e f)(hg:Gl X "sorted":=by rfl)(hs:aJ [e] X.env=[(false,cC e X.env)]:=by rfl) :
  PVf X (.Call (.Name "sorted" p) [e] [] pos) (srtTA f):=by
 obtain⟨te,pe,he⟩:=he;refine⟨_,vH DF hg hm (by decide +kernel) (qW pe jT hs) (by decide) (by decide) hs rfl,fun H₀ H O σ ds hd l Q o e q=>?_⟩;unfold srtTA at e;obtain⟨d,h1,e⟩:=bnd e;refine he H₀ H O σ ds hd _ _ o h1 fun v H1 s1 r1=>?_;cases d<;>first | (cases e;done) | skip
 rename_i l';simp only at e;obtain⟨ts,hb,e⟩:=bnd e
 split at e
 . rename_i hz;cases e;obtain⟨a1,xs,rfl,hq,rs⟩:=r1.seqL;exact⟨a1,ts,rfl,by rw[<- xX rs hb];exact hq,hz,fun p hp=>q p _ _ (s1.trans (zX hp _)) (s1.free hp) zK (AQ _)⟩
 . cases e
end
section
variable{X:Cx}
theorem OG{oe ke e:Expr}{pos pos':Pos}{f:FP}{fk:FE}{g:FO}{j:Nat}(hr:Room j X.A)(ho:PVp X oe f)(hk:PV X ke fk)(he:PVo X e g)(hs:eQ e (some (.Subscript oe ke pos')) pos.line X.env=pure false:=by rfl) :
  PSv X (.Assign [.Subscript oe ke pos'] e pos) (dputN f fk g):=by
 obtain⟨tp,hp,hfp⟩:=ho;obtain⟨tk,pk,hk⟩:=hk;obtain⟨te,pe,hg⟩:=he;refine⟨_,LJ (iO (by omega) (hu100 hr)) hp pk pe hs,fun H₀ H O σ ds hd out E o e h=>?_⟩;unfold dputN at e;obtain⟨T,h1,e⟩:=bnd e;obtain⟨q,h2,e⟩:=bnd e;obtain⟨y,h3,e⟩:=bnd e;obtain⟨k,h4,e⟩:=bnd e;refine hg H₀ H O σ ds hd T _ o h1 fun v H1 fs s1 r1 nd1 n1=>?_;have o1:Ok X.K H₀ H1 (orL fs O) σ ds hd:=o.moreL s1 n1 fun b hb=>(r1.owns b hb).2;refine hfp H₀ H1 (orL fs O) σ ds hd q _ o1 h2 fun r T0 v0 w fs0 g1 g2 g3 g4 g5=>?_;refine hk H₀ H1 (orL fs O) σ ds hd y _ o1 h3 fun yv H2 s2 r2=>?_;have s12:=s1.trans s2;obtain⟨v',w',f',y1,y2,y3,y4,y5,y6⟩:=o.modAt g1 g2;rw[g3] at y1;cases y1;cases jR g4 (jM s1 y2);cases hq:q.2.2 with
 | dct ks ts =>
   rw[hq] at y3 e;simp only at e
   split at e
   . rename_i hl;obtain ⟨hl,hnew⟩:=hl;cases e;cases y3 with
     | @dct a kvs _ _ fs' na ha ek rs =>
       cases xH r2 h4;have ha2:=s12 _ _ ha;have ln:kvs.length<sizeLine:=by rw[<- ek] at hl;simpa using hl
       have hm' : ¬hasK k (kvs.map (·.1))=true:=by rw[ek,hnew];simp
       have pn:putK kvs k v=kvs++[(k,v)]:=wJ hm';refine⟨a,_,rfl,DPut.k ha2 ln,?_⟩;obtain⟨n3,n4⟩:=bU.mp y4
       have old:∀b,H b=none->b∉a::fs':=fun b hb z=>by
        rcases aF.mp z with z | z
        . rw[z,ha] at hb;cases hb
        . obtain⟨_, x, ex⟩ := rs.owns b z;rw[hb] at ex;cases ex
       have afs:a∉fs:=fun z=>by rw[n1 a z] at ha;cases ha
       have hs':∀b u,b≠a->H b=some u->upd H2 a (.dK (putK kvs k v)) b=some u:=fun b u nb eb=>by rw[L2.upd_ne nb];exact s12 _ _ eb
       have nO:∀{b:aB},¬O b->b≠a:=fun nb z=>nb (by rw[z];exact na)
       have c0:Chg H (upd H2 a (.dK (putK kvs k v))) O (orL fs O) [a] (a::fs):=
        ⟨fun b u nb eb=>hs' b u (nO nb) eb,fun b u _ nb eb=>hs' b u (fun z=>nb (by rw[z];exact .head _)) eb,fun b z _=>.inr z,fun b z=>z.elim (fun z=>.inr ⟨.tail _ z,n1 b z⟩) .inl,fun b z=>(aF.mp z).elim (fun z=>.inl (by rw[z];exact .head _)) fun z=>.inr (n1 b z)⟩
       have rT:RepO X.K (upd H2 a (.dK (putK kvs k v))) (orL fs O) v T fs:=(r1.mono s2).keep (fun b u nb eb=>by rw[L2.upd_ne (nO fun z=>nb (.inr z))];exact eb) fun b hb u eb=>by
        have z:b≠a:=fun z=>afs (by rw[<- z];exact hb);rw[L2.upd_ne z];exact eb
       have rs':=(c0.repsO rs fun b hb z=>n3 (aP.mp z▸hb)).snocO rT
       have ok:=y6 (H':=upd H2 a (.dK (putK kvs k v))) (O':=orL fs O) (u':=.dct (ks++[k]) (ts++[T])) (f':=a::(fs'++fs))
        ⟨fun b u nb eb=>hs' b u (nO nb) eb,fun b u _ nb eb=>hs' b u (fun z=>nb (by rw[z];exact .head _)) eb,fun b z _=>.inr z,fun b z=>z.elim (fun z=>.inr ⟨.tail _ (aI _ z),n1 b z⟩) .inl,fun b z=>?_⟩
        (fun b z _=>?_) (.dct (.inr na) zK (by rw[pn,<- ek];simp) (by rw[show(putK kvs k v).map (·.2)=kvs.map (·.2)++[v] by rw[pn];simp];exact rs')) (bU.mpr ⟨fun z=>?_,?_⟩)
       . have e' : putP q (.dct (ks ++ [k]) (ts ++ [T])) ds = ds.set q.1 (.ob r (putO (.dct (ks ++ [k]) (ts ++ [T])) q.2.1 T0)) := by simp [putP, g1]
         rw[e'] at h;exact h _ _ _ ok
       . rcases aF.mp z with z | z
         . exact .inl (by rw[z];exact .head _)
         . rcases bM.mp z with z | z
           . exact .inl (.tail _ z)
           . exact .inr (n1 b z)
       . by_cases z' : b = a
         . rw[z',zK];exact⟨⟨.dK (putK kvs k v),rfl⟩,rfl⟩
         . rcases aF.mp z with q' | q'
           . exact(z' q').elim
           . obtain⟨_, y, ey⟩ := rs.owns b q';exact⟨y,hs' b _ z' ey⟩
       . rcases bM.mp z with z | z
         . exact n3 z
         . exact afs z
       . rw[cS];exact⟨n4,nd1,fun x hx y hy z=>old x (by rw[z];exact n1 y hy) (.tail _ hx)⟩
   . cases e
 |_=>rw[hq] at e;cases e
end
section
variable{K:Frag}{H H' H₀ : Hp}{O O':aB->Prop}
theorem Ok.frzV{σ : L2.St}{ds:List Sl}{hd:Hold}{i t:Nat}{r:Option Nat}{ks:List Key}{ts:List OT}(o:Ok K H₀ H O σ ds hd)(e:ds[i]?=some (.ob r (.ins t [.dct ks ts]))) :
  ∃a kvs,H a=some (.dK kvs)/\∀ob,∃O',Ok K H₀ (upd H a (.frz ob (.dK kvs))) O' σ (ds.set i (.v (.ins t [.dcf ks (otDs ts)]))) hd:=by
 obtain⟨F,hF⟩:=o.obs;obtain⟨v,h1,h2,h3,h4,h5⟩:=hF i r _ e;have hl:i<ds.length:=(bF.mp e).1;generalize hfi:F i=fi at h2 h4 h5;cases h2 with
 |@ins a0 C dx _ kvs0 _ fs0 cc n0 h0' ek0 rs0 =>
  generalize hv0:kvs0.map (·.2)=vs0 at rs0;cases rs0 with
  |@cons x0 _ xs0 _ f1 f2 h2 t2 =>
  cases t2;cases h2 with
  |@dct a kvs _ _ fs n hb ek rs =>
   refine⟨a,kvs,hb,fun ob=>?_⟩;have nd:=bU.mp h4;have nd2:=bU.mp ((cS.mp nd.2).1);have a0a:a0≠a:=fun z=>nd.1 (by rw[z];simp);have afs:a∉fs:=nd2.1;have ma:a∈a0::(a::fs++[]):=by simp
   have m0:a0∈a0::(a::fs++[]):=by simp
   let O':aB->Prop:=fun b=>O b/\b∉a0::(a::fs++[])
   have sub:∀b,O' b->O b:=fun b hb=>hb.1;have h0:H₀ a=none:=(h5 a ma).1
   have kp:Keep O H (upd H a (.frz ob (.dK kvs))):=fun b u nb eb=>by
    have z:b≠a:=fun z=>nb (by rw[z];exact n);rw[L2.upd_ne z];exact eb
   have ne:∀{b:aB} {u:HO},b≠a->H b=some u->upd H a (.frz ob (.dK kvs)) b=some u:=fun z eb=>by rw[L2.upd_ne z];exact eb
   have own':∀{j:Nat},IsOwn (ds.set i (.v (.ins t [.dcf ks (otDs ts)]))) j->IsOwn ds j/\j≠i:=fun h=>wR (fun l=>by intro z;cases z) h;have nown:∀{j:Nat} {b:aB},IsOwn ds j->σ[j]?=some (some (.ref b))->b∉a0::(a::fs++[]):=fun {j b} oj ej z=>(h5 b z).2.2 j oj ej;have rs2:RepsO K (upd H a (.frz ob (.dK kvs))) O (kvs.map (·.2)) ts fs:=rs.keep kp fun b hb' u eb=>ne (fun z=>afs (by rw[<- z];exact hb')) eb;have rv:Reps K (upd H a (.frz ob (.dK kvs))) O' (kvs.map (·.2)) (otDs ts):=rs2.val' fun b z=>⟨z.1,fun q=>z.2 (by simp[q])⟩
   refine⟨O',fun b u eb=>ne (fun z=>by rw[z,h0] at eb;cases eb) (o.same b u eb),fun j l' b e1 e2=>?_,fun b hb=>?_,by simpa using o.len,fun j s es=>?_,fun j m b hjm hj hm e1 e2=>o.apart j m b hjm (own' hj).1 (own' hm).1 e1 e2,fun p hp=>?_,?_⟩
   . obtain⟨⟨l2, e2'⟩, _⟩ := own' ⟨l', e1⟩;exact o.fresh j l2 b e2' e2
   . obtain⟨u, eu⟩ := o.dom b hb.1;exact⟨u,ne (fun z=>hb.2 (by rw[z];exact ma)) eu⟩
   . by_cases hj : j = i
     . subst hj;rw[bI hl] at es;cases es;rw[h1];exact jZ (.ins cc (fun z=>z.2 m0) (ne a0a h0') ek0 (by rw[hv0];exact .cons (.dcf (fun z=>z.2 ma) zK ek rv) .nil))
     . rw [aH (Ne.symm hj)] at es;cases s with
       |no=>exact jC
       |ob r t=>exact jU
       | exc t =>
         obtain⟨a',C',ob',u',q1,q2,q3,q4⟩:=o.readX es;rw[q1];exact⟨C',ob',u',q2,ne (fun z=>by rw[z,hb] at q3;cases q3) q3,q4⟩
       | fr l' =>
         obtain⟨a',xs',q1,q2,q0,q3,q4⟩:=o.readF es;rw[q1];exact⟨fun z=>q2 (sub _ z),q0,xs',kp _ _ q2 q3,(q4.keep kp).less sub⟩
       | v d =>
         obtain⟨v,q1,q2⟩:=o.read es;rw[q1];exact jZ ((q2.keep kp).less sub)
       | own l' =>
         obtain⟨b,ys,q1,q2,q3,q4⟩:=o.readO es;rw[q1];have z:=nown ⟨l',es⟩ q1;exact⟨⟨q2,z⟩,ys,ne (fun y=>z (by rw[y];exact ma)) q3,(q4.keep kp).less sub⟩
   . have := o.hold p hp;cases p with
     |rep v d=>exact(Rep.keep kp this).less sub
     |base B=>exact fun b hb=>⟨⟨(this b hb).1,fun z=>(this b hb).2 (h5 b z).1⟩,(this b hb).2⟩
     |root k a=>exact True.intro
     |fz a' o' kvs' l'=>exact⟨fun z=>this.1 (sub _ z),kp _ _ this.1 this.2.1,(Reps.keep kp this.2.2).less sub⟩
   . refine⟨F, fun j r' t' ej => ?_⟩;obtain⟨ej,hj⟩:=wX (fun r t=>by intro z;cases z) ej;obtain⟨w,g1,g2,g3,g4,g5⟩:=hF j r' t' ej;have na:∀b∈a0::(a::fs++[]),b∉F j:=fun b hb z=>(h5 b hb).2.1 j r' t' hj ej z;refine⟨w,g1,(g2.keep kp fun b hb u eb=>ne (fun z=>na a ma (by rw[<- z];exact hb)) eb).less sub fun b hb=>⟨(g2.owns b hb).1,fun z=>na b z hb⟩,g3,g4,fun b hb=>⟨(g5 b hb).1,fun m r2 t2 hm em=>(g5 b hb).2.1 m r2 t2 hm (wX (fun r t=>by intro z;cases z) em).1,fun m om em=>(g5 b hb).2.2 m (own' om).1 em⟩⟩
end
section
variable{X:Cx}
theorem kE(i:Nat){e:Expr}{c:FT}(h:PTv X e c):PTv X e (relTV i c):=by
 obtain⟨t,ht,hf⟩:=h;refine⟨_,pt_thw ht,fun H₀ H O σ ds hd b Q o e q=>?_⟩;unfold relTV at e;obtain⟨d,h1,e⟩:=bnd e;cases hs:ds[i]? with
 |none=>rw[hs] at h1;cases h1
 | some s =>
   rw[hs] at h1;unfold insV at h1
   split at h1
   . rename_i r t ks ts hh;cases hh;cases h1;obtain ⟨a,kvs,ha,hO⟩:=o.frzV hs;refine ⟨a,kvs,ha,fun ob=>?_⟩;obtain ⟨O',o'⟩:=hO ob;refine hf H₀ _ O' σ _ hd b _ o' e fun H' s'=>⟨s' _ _ zK,q _ fun x u eu=>?_⟩
     by_cases hx:x=a
     . rw[hx,zK];rw[hx,ha] at eu;exact eu
     . rw[upd_ne hx];exact s' _ _ (by rw[upd_ne hx];exact eu)
   . cases h1
end
section
variable{X:Cx}{scope:Scope}{NY:List Str}{mp:List (Option Nat)}{tg iter elt:Expr}{ifs:List Expr}{pos:Pos}{fi:FA}{ga:D->List Sl->Option (List Sl)}{tt:FT}{fe:FE}
theorem OB(S:CompScope X scope NY mp)(hc:X.calm=true)(hi:PId X tg iter fi)(hg:∀c,PGv (jH X scope NY c) tg ga)(ht:∀c,PFv (jH X scope NY c) ifs tt)(he:∀c,PV (jH X scope NY c) elt fe)(hs:∀x,gY iter X.env x=pure x:=by intro _;rfl):PVf X (.ListComp elt [⟨tg,iter,ifs,0⟩] scope pos) (compG fi mp ga tt fe):=by
 obtain⟨wi,pi,hi⟩:=hi;refine⟨_,LN S hc pi (fun c=>(Classical.choose_spec (hg c)).1) (fun c=>(Classical.choose_spec (ht c)).1) (fun c=>(Classical.choose_spec (he c)).1) hs,fun H₀ H O σ ds hd l Q o e q=>?_⟩;exact QU hi (fun c=>(Classical.choose_spec (hg c)).2) (fun c=>(Classical.choose_spec (ht c)).2) (fun c=>(Classical.choose_spec (he c)).2) H₀ H O σ ds hd l Q o e fun a xs H' s hn he r=>q a xs H' s hn he r
end
section
variable{X:Cx}{m:Str}{k n j:Nat}{cs:List Nat}{F:Nat->OT->List D->Option OT}{f:FP}{oe e:Expr}{es:List Expr}{apos pos:Pos}{g:FA}
theorem EK{pl:Sem Bool}(M:LCal X.prog X.w X.K X.mg X.base m k n cs F)(hr:Room j X.A)(ho:PVp X oe f)(ha:PAs X (e::es) g)(hj:k<=j:=by decide)(hst:aJ (e::es) X.env=(false,cC e X.env)::aJ es X.env:=by rfl)(hpl:(cY pos (aJ es X.env)).any (·.1)=false:=by rfl)(ht:cC (.Call (.Attribute oe m apos) (e::es) [] pos) X.env=(do
    let ov <- cC oe X.env
    oK apos.atName
    let (f,first) <- gX [ov] (AC ov m pl)
    callWith pos f first (cY pos (aJ (e::es) X.env)) (lY pos (gD [] X.env))):=by rfl):PVx X (.Call (.Attribute oe m apos) (e::es) [] pos) (lentV (lentG n cs F f g)):=by
 obtain⟨ta,pa,hf⟩:=ho;obtain⟨t,pt,hfg⟩:=ha;refine⟨_,FC (pl:=pl) (k:=k) pa (hr.mono hj) pt hst hpl ht,fun H₀ H O σ ds hd d ds' Q o e q=>?_⟩;unfold lentV at e;obtain⟨o1,h1,e⟩:=bnd e;obtain⟨ds1,rfl⟩:=WI h1;cases e;exact WG M hf hfg o h1 fun H' O' o'=>q _ _ _ o' .non
end
end FL
namespace L2
open PySem PySem.Spec PyProof.Rows
section
variable{X:Cx}
end
end L2
namespace FL
open PySem PySem.Spec PyProof.Rows L2
section
variable{K:Frag}{H H':Hp}{O O':aB->Prop}
end
section
variable{X:Cx}
end
noncomputable def oi:Option Int->D
 |none=>.non
 |some i=>.int i
@[simp] theorem oi_none:oi none=.non:=rfl
@[simp] theorem oi_some(i:Int):oi (some i)=.int i:=rfl
noncomputable def andK(r:Option D):D->Option D:=fun d=>match d with | .bl true=>r | .bl false=>some (.bl false) | _=>none
noncomputable def orK(r:Option D):D->Option D:=fun d=>match d with | .bl true=>some (.bl true) | .bl false=>r | _=>none
@[simp] theorem andK_bl(r:Option D)(b:Bool):andK r (.bl b)=if b=true then r else some (.bl false):=by cases b<;>rfl
@[simp] theorem orK_bl(r:Option D)(b:Bool):orK r (.bl b)=if b=true then some (.bl true) else r:=by cases b<;>rfl
@[simp] theorem ite_andD(b c:Bool):(if b=true then some (D.bl c) else some (D.bl false))=some (.bl (b&&c)):=by cases b<;>rfl
@[simp] theorem ite_orD(b c:Bool):(if b=true then some (D.bl true) else some (D.bl c))=some (.bl (b||c)):=by cases b<;>rfl
@[simp] theorem ite_andB(b c:Bool):(if b=true then some c else some false)=some (b&&c):=by cases b<;>rfl
@[simp] theorem ite_orB(b c:Bool):(if b=true then some true else some c)=some (b||c):=by cases b<;>rfl
@[simp] theorem ite_andD'(p:Prop)[Decidable p](c:Bool):(if p then some (D.bl c) else some (D.bl false))=some (.bl (decide p&&c)):=by by_cases h:p<;>simp[h]
@[simp] theorem ite_andB'(p:Prop)[Decidable p](c:Bool):(if p then some c else some false)=some (decide p&&c):=by by_cases h:p<;>simp[h]
@[simp] theorem szl:sizeLine=16777216:=iD
section
variable(ds:List Sl)
@[simp] theorem getV_eq(i:Nat):qF i ds=match ds[i]? with | some (.v d)=>some d | _=>none:=rfl
@[simp] theorem getW_eq(i:Nat):zI i ds=match ds[i]? with | some (.v d)=>some d | some (.own l)=>some (.lst l) | _=>none:=rfl
@[simp] theorem konst_eq(d:D):zA d ds=some d:=rfl
@[simp] theorem bin2_eq(op:D->D->Option D)(fa fb:FE):zF op fa fb ds=(fa ds).bind fun x=>(fb ds).bind fun y=>op x y:=rfl
@[simp] theorem un1_eq(op:D->Option D)(f:FE):un1 op f ds=(f ds).bind op:=rfl
@[simp] theorem YB(F:List D->Option D)(g:FA):callB F g ds=(g ds).bind F:=rfl
@[simp] theorem callV_eq(n:Nat)(F:List D->Option Ret)(g:FA):jE n F g ds=(g ds).bind fun l=>if l.length=n then (F l).bind retV else none:=rfl
@[simp] theorem callF_eq(n:Nat)(F:List D->Option Ret)(g:FA):vB n F g ds=(g ds).bind fun l=>if l.length=n then (F l).bind retF else none:=rfl
@[simp] theorem retV_val(d:D):retV (.val d)=some d:=rfl
@[simp] theorem retV_fresh(l:List D):retV (.fresh l)=some (.lst l):=rfl
@[simp] theorem retF_val(d:D):retF (.val d)=none:=rfl
@[simp] theorem retF_fresh(l:List D):retF (.fresh l)=some l:=rfl
@[simp] theorem XU(f:FE)(g:FA):zC f g ds=(f ds).bind fun x=>(g ds).map fun r=>x::r:=rfl
@[simp] theorem nilA_eq:qA ds=some []:=rfl
@[simp] theorem sized_eq(f:FA):qR f ds=(f ds).bind fun l=>if l.length<=sizeLine then some l else none:=rfl
@[simp] theorem mkL_eq(f:FA):mkL f ds=(f ds).map D.lst:=rfl
@[simp] theorem mkT_eq(f:FA):mkT f ds=(f ds).map D.tup:=rfl
@[simp] theorem testB_eq(f:FE):zV f ds=(f ds).bind isB:=rfl
@[simp] theorem testT_eq(f:FE):testT f ds=(f ds).bind truD:=rfl
@[simp] theorem isB_bl(b:Bool):isB (.bl b)=some b:=rfl
@[simp] theorem andT_eq(c d:FT):andT c d ds=(c ds).bind fun b=>if b=true then d ds else some false:=rfl
@[simp] theorem orT_eq(c d:FT):orT c d ds=(c ds).bind fun b=>if b=true then some true else d ds:=rfl
@[simp] theorem notT_eq(c:FT):notT c ds=(c ds).map not:=rfl
@[simp] theorem andV_eq(f g:FE):andV f g ds=(f ds).bind (andK (g ds)):=rfl
@[simp] theorem orV_eq(f g:FE):orV f g ds=(f ds).bind (orK (g ds)):=rfl
@[simp] theorem notV_eq(f:FE):notV f ds=(f ds).bind fun d=>match d with | .bl b=>some (.bl (!b)) | _=>none:=rfl
@[simp] theorem ifV_eq(c:FT)(f g:FE):ifV c f g ds=(c ds).bind fun b=>if b=true then f ds else g ds:=rfl
@[simp] theorem seqG_eq(f g:FS):jD f g ds=(f ds).bind fun o=>match o with | .nx ds'=>g ds' | o=>some o:=rfl
@[simp] theorem ifG_eq(c:FT)(f g:FS):ifG c f g ds=(c ds).bind fun b=>if b=true then f ds else g ds:=rfl
@[simp] theorem ZQ(i:Nat)(f:FE):jS i f ds=(f ds).map fun d=>.nx (ds.set i (.v d)):=rfl
@[simp] theorem setOG_eq(i:Nat)(f:FA):setOG i f ds=(f ds).map fun l=>.nx (ds.set i (.own l)):=rfl
@[simp] theorem ZU(f:FE):retG f ds=(f ds).bind flatR:=rfl
@[simp] theorem retOG_eq(f:FA):retOG f ds=(f ds).bind flatF:=rfl
@[simp] theorem retXG_eq(i:Nat):retXG i ds=match ds[i]? with | some (.own l)=>flatF l | _=>none:=rfl
@[simp] theorem nextG_eq:qL ds=some (.nx ds):=rfl
@[simp] theorem appG_eq(i:Nat)(fe:FE):appG i fe ds=match ds[i]? with
 |some (.own l)=>(fe ds).bind fun d=>if l.length<sizeLine then some (.nx (ds.set i (.own (l++[d])))) else none
 |_=>none:=rfl
@[simp] theorem extG_eq(i:Nat)(fe:FA):extG i fe ds=match ds[i]? with
 |some (.own l)=>(fe ds).bind fun d=>if l.length+d.length<=sizeLine then some (.nx (ds.set i (.own (l++d)))) else none
 |_=>none:=rfl
@[simp] theorem putG_eq(i:Nat)(fk fe:FE):putG i fk fe ds=match ds[i]? with
 | some (.own l) => (fe ds).bind fun d => (fk ds).bind fun k => match k with
   | .int n=>(ixN l.length n).map fun j=>.nx (ds.set i (.own (l.set j d)))
   |_=>none
 |_=>none:=rfl
@[simp] theorem clrG_eq(i:Nat):clrG i ds=match ds[i]? with
 |some (.own l)=>some (.nx (ds.set i (.own [])))
 |_=>none:=rfl
@[simp] theorem asgG_eq(ga:D->List Sl->Option (List Sl))(f:FE):asgG ga f ds=(f ds).bind fun d=>(ga d ds).map .nx:=rfl
@[simp] theorem relS_eq(i:Nat):relS i ds=match ds[i]? with | some (.own l)=>ds.set i (.v (.lst l)) | _=>ds:=rfl
@[simp] theorem viaA_eq(f:FE)(k:D->Option (List D)):viaA f k ds=(f ds).bind k:=rfl
@[simp] theorem asLT_lst(l:List D):asLT (.lst l)=some l:=rfl
@[simp] theorem asLT_tup(l:List D):asLT (.tup l)=some l:=rfl
@[simp] theorem catA_eq(fa fb:FE):catA fa fb ds=(fa ds).bind fun x=>(fb ds).bind fun y=>match x,y with
 | .lst a,.lst b=>if a.length+b.length<=sizeLine then some (a++b) else none
 |_,_=>none:=rfl
@[simp] theorem sliA_eq(f:FE)(lo hi:List Sl->Option (Option Int)):sliA f lo hi ds=(f ds).bind fun d=>(lo ds).bind fun a=>(hi ds).bind fun b=>match d with
 | .lst l=>some (cutD l a b)
 |_=>none:=rfl
@[simp] theorem lisA_eq(f:FE):lisA f ds=(f ds).bind asLT:=rfl
@[simp] theorem noP_eq:noP ds=some none:=rfl
@[simp] theorem soP_eq(f:FE):soP f ds=(f ds).bind fun d=>match d with | .int i=>some (some i) | _=>none:=rfl
@[simp] theorem xM(fi:FA)(ga:D->List Sl->Option (List Sl))(body:FS):forG fi ga body ds=(fi ds).bind fun items=>jI ga body items ds:=rfl
@[simp] theorem nameG_eq(i:Nat)(d:D):zP i d ds=some (ds.set i (.v d)):=rfl
@[simp] theorem tupG_eq(n:Nat)(h:List D->List Sl->Option (List Sl))(l:List D):tupG n h (.tup l) ds=if l.length=n then h l ds else none:=rfl
@[simp] theorem tgCons_eq(g:D->List Sl->Option (List Sl))(h:List D->List Sl->Option (List Sl))(d:D)(r:List D):qM g h (d::r) ds=(g d ds).bind fun ds'=>h r ds':=rfl
@[simp] theorem tgNil_eq:tgNil [] ds=some ds:=rfl
@[simp] theorem isiG_eq(T:String)(f:FE):isiG T f ds=(f ds).bind (isiD T):=rfl
@[simp] theorem chain_eq(op op':D->D->Option D)(fa fb fc:FE):chain op op' fa fb fc ds=(fa ds).bind fun x=>(fb ds).bind fun y=>(op x y).bind fun z=>match z with
 | .bl true=>(fc ds).bind fun w=>op' y w
 | .bl false=>some (.bl false)
 |_=>none:=rfl
end
@[simp] theorem addD_int(i j:Int):yN (.int i) (.int j)=some (.int (i+j)):=rfl
@[simp] theorem subD_int(i j:Int):subD (.int i) (.int j)=some (.int (i-j)):=rfl
@[simp] theorem negD_int(i:Int):negD (.int i)=some (.int (-i)):=rfl
@[simp] theorem ltD_int(i j:Int):ltD (.int i) (.int j)=some (.bl (decide (i<j))):=rfl
@[simp] theorem leD_int(i j:Int):leD (.int i) (.int j)=some (.bl (decide (i<=j))):=rfl
@[simp] theorem gtD_int(i j:Int):gtD (.int i) (.int j)=some (.bl (decide (j<i))):=rfl
@[simp] theorem geD_int(i j:Int):geD (.int i) (.int j)=some (.bl (decide (j<=i))):=rfl
@[simp] theorem yZ{j:Int}(i:Int)(h:0<j):qY (.int i) (.int j)=some (.int (i%j)):=if_pos h
theorem GI{j:Int}(h:0<j)(h2:j<1000000000):divOk j:=⟨h,by
 have h3:j.natAbs<2 ^ 30:=by
  have:(2:Nat) ^ 30=1073741824:=by decide
  omega
 have h4:j.natAbs≠0:=by omega
 have:=(Nat.log2_lt h4).mpr h3
 omega⟩
@[simp] theorem sB{j:Int}(i:Int)(h:0<j)(h2:j<1000000000):qO (.int i) (.int j)=some (.int (i/j)):=if_pos (GI h h2)
theorem qP{i j:Int}(h:eV i j):yS (.int i) (.int j)=some (.int (i*j)):=if_pos h
theorem LK{i j:Int}(h:CPowB i j):powD (.int i) (.int j)=some (.int (i ^ j.toNat)):=if_pos h
theorem MT{i j:Int}{n m:Nat}(h:i.natAbs<2 ^ n)(h0:0<=j)(h1:j<=m)(h2:n*m<=134217728):CPowB i j:=by
 refine⟨h0,?_⟩;have hb:Builtin.Int.intBits i<=n:=intBits_le_iff.mpr h;have h3:(Builtin.Int.intBits i:Int)*j<=(n:Int)*(m:Int):=AJ (by omega) h1 h0 (by omega);have h4:((n*m:Nat):Int)<=134217728:=by omega
 have e:((n*m:Nat):Int)=(n:Int)*(m:Int):=Int.natCast_mul n m;have e2:(2:Int) ^ 27=134217728:=by decide
 rw[e2];omega
@[simp] theorem pow10{j:Int}(h0:0<=j)(h1:j<=1000):powD (.int 10) (.int j)=some (.int (10 ^ j.toNat)):=LK (MT (n:=4) (m:=1000) (by decide) h0 h1 (by decide))
@[simp] theorem mxD_int(i j:Int):mxD [.int i,.int j]=some (.int (max i j)):=by
 show some (D.int (if j>i then j else i))=_;congr 2
 split<;>omega
@[simp] theorem mnD_int(i j:Int):mnD [.int i,.int j]=some (.int (min i j)):=by
 show some (D.int (if j<i then j else i))=_;congr 2
 split<;>omega
@[simp] theorem lenD_lst(l:List D):lenD [.lst l]=some (.int l.length):=rfl
@[simp] theorem lenD_tup(l:List D):lenD [.tup l]=some (.int l.length):=rfl
@[simp] theorem isD_non:isD .non .non=some (.bl true):=rfl
@[simp] theorem isD_int(i:Int):isD (.int i) .non=some (.bl false):=rfl
@[simp] theorem isD_bl(i:Bool):isD (.bl i) .non=some (.bl false):=rfl
@[simp] theorem isD_tup(i:List D):isD (.tup i) .non=some (.bl false):=rfl
@[simp] theorem isD_lst(i:List D):isD (.lst i) .non=some (.bl false):=rfl
@[simp] theorem isD_oi(o:Option Int):isD (oi o) .non=some (.bl o.isNone):=by cases o<;>rfl
@[simp] theorem notD_non:notD .non .non=some (.bl false):=rfl
@[simp] theorem notD_int(i:Int):notD (.int i) .non=some (.bl true):=rfl
@[simp] theorem notD_bl(i:Bool):notD (.bl i) .non=some (.bl true):=rfl
@[simp] theorem notD_tup(i:List D):notD (.tup i) .non=some (.bl true):=rfl
@[simp] theorem notD_lst(i:List D):notD (.lst i) .non=some (.bl true):=rfl
@[simp] theorem notD_oi(o:Option Int):notD (oi o) .non=some (.bl o.isSome):=by cases o<;>rfl
@[simp] theorem truD_bl(b:Bool):truD (.bl b)=some b:=rfl
@[simp] theorem truD_non:truD .non=some false:=rfl
@[simp] theorem truD_lst(l:List D):truD (.lst l)=some (!l.isEmpty):=rfl
@[simp] theorem truD_tup(l:List D):truD (.tup l)=some (!l.isEmpty):=rfl
theorem CV{n:Nat}{i:Int}(h:0<=i)(h2:i<n):ixN n i=some i.toNat:=by
 unfold ixN;rw[if_pos h,if_pos h2]
theorem yB(l:List D){i:Int}(h:0<=i)(h2:i<l.length):ixD (.lst l) (.int i)=l[i.toNat]?:=by
 show atI l i=_;unfold atI;rw[CV h h2];rfl
theorem CU(l:List D){i:Int}(h:0<=i)(h2:i<l.length):ixD (.tup l) (.int i)=l[i.toNat]?:=by
 show atI l i=_;unfold atI;rw[CV h h2];rfl
@[simp] theorem ixT0(a:D)(l:List D):ixD (.tup (a::l)) (.int 0)=some a:=by
 rw[CU _ (by decide) (by rw[aO];omega)];rfl
@[simp] theorem ixT1(a b:D)(l:List D):ixD (.tup (a::b::l)) (.int 1)=some b:=by
 rw[CU _ (by decide) (by rw[aO,aO];omega)];rfl
@[simp] theorem ixT2(a b c:D)(l:List D):ixD (.tup (a::b::c::l)) (.int 2)=some c:=by
 rw[CU _ (by decide) (by rw[aO,aO,aO];omega)];rfl
@[simp] theorem ixL0(a:D)(l:List D):ixD (.lst (a::l)) (.int 0)=some a:=by
 rw[yB _ (by decide) (by rw[aO];omega)];rfl
@[simp] theorem ixL1(a b:D)(l:List D):ixD (.lst (a::b::l)) (.int 1)=some b:=by
 rw[yB _ (by decide) (by rw[aO,aO];omega)];rfl
theorem WO(l:List D)(a:D):ixD (.lst (l++[a])) (.int (-1))=some a:=by
 show atI (l++[a]) (-1)=_;unfold atI ixN;rw[if_neg (by decide),if_pos (by rw[cA,nQ];omega),cA,nQ];have e:(-1+((l.length+1:Nat):Int)).toNat=l.length:=by omega
 rw[e];simp
@[simp] theorem flat_non:flat .non=true:=by simp[flat]
@[simp] theorem flat_bl(b:Bool):flat (.bl b)=true:=by simp[flat]
@[simp] theorem flat_int(i:Int):flat (.int i)=true:=by simp[flat]
@[simp] theorem flat_tup(l:List D):flat (.tup l)=flats l:=by simp[flat]
@[simp] theorem flats_nil:flats []=true:=by simp[flats]
@[simp] theorem flats_cons(d:D)(l:List D):flats (d::l)=(flat d&&flats l):=by simp[flats]
@[simp] theorem flat_oi(o:Option Int):flat (oi o)=true:=by cases o<;>simp
theorem xC{d:D}(h:flat d=true):flatR d=some (.rt (.val d)):=if_pos h
@[simp] theorem flatR_non:flatR .non=some (.rt (.val .non)):=xC (by simp)
@[simp] theorem flatR_bl(b:Bool):flatR (.bl b)=some (.rt (.val (.bl b))):=xC (by simp)
@[simp] theorem flatR_int(i:Int):flatR (.int i)=some (.rt (.val (.int i))):=xC (by simp)
@[simp] theorem flatR_oi(o:Option Int):flatR (oi o)=some (.rt (.val (oi o))):=xC (by simp)
@[simp] theorem flatR_tup(l:List D)(h:flats l=true):flatR (.tup l)=some (.rt (.val (.tup l))):=xC (by simpa using h)
@[simp] theorem flatF_of(l:List D)(h:flats l=true):flatF l=some (.rt (.fresh l)):=if_pos h
@[simp] theorem shal_int(n:Nat)(i:Int):shal n (.int i)=true:=by simp[shal]
@[simp] theorem shal_non(n:Nat):shal n .non=true:=by simp[shal]
@[simp] theorem shal_oi(n:Nat)(o:Option Int):shal n (oi o)=true:=by cases o<;>simp
@[simp] theorem shal_lst(n:Nat)(l:List D):shal n (.lst l)=shals n l:=by simp[shal]
@[simp] theorem shals_nil(n:Nat):shals n []=true:=by cases n<;>simp[shals]
@[simp] theorem IC(n:Nat)(d:D)(l:List D):shals (n+1) (d::l)=(shal n d&&shals (n+1) l):=by simp[shals]
theorem NU{n:Nat}{l:List D}(h:∀d∈l,shal n d=true):shals (n+1) l=true:=by
 induction l with
 |nil=>simp
 | cons d r ih =>
   rw[IC,h d bD,ih fun x hx=>h x (aQ _ hx)];rfl
theorem JR{x y:D}(h:shal 40 x=true)(h2:shal 40 y=true):eqD x y=some (.bl (eqvD x y)):=if_pos ⟨h,h2⟩
theorem VW{x y:D}(h:shal 40 x=true)(h2:shal 40 y=true):neD x y=some (.bl (!eqvD x y)):=if_pos ⟨h,h2⟩
@[simp] theorem eqvD_int(i j:Int):eqvD (.int i) (.int j)=decide (i=j):=by
 show(i==j)=_;rw[YO];simp
@[simp] theorem eqvD_non:eqvD .non .non=true:=rfl
@[simp] theorem eqvD_non_int(j:Int):eqvD .non (.int j)=false:=rfl
@[simp] theorem eqvD_int_non(j:Int):eqvD (.int j) .non=false:=rfl
@[simp] theorem eqvD_oi(o p:Option Int):eqvD (oi o) (oi p)=decide (o=p):=by cases o<;>cases p<;>simp
@[simp] theorem GF(a b:List D):eqvD (.lst a) (.lst b)=eqvs a b:=by simp[eqvD,eqvs,toPy,PyData.eqv]
@[simp] theorem eqvs_nil:eqvs [] []=true:=by simp[eqvs,toPys,PyData.eqvAll]
@[simp] theorem QL(x y:D)(a b:List D):eqvs (x::a) (y::b)=(eqvD x y&&eqvs a b):=by simp[eqvs,eqvD,toPys,PyData.eqvAll]
@[simp] theorem YU(y:D)(b:List D):eqvs (y::b) []=false:=by simp[eqvs,toPys,PyData.eqvAll]
@[simp] theorem eqD_int(i j:Int):eqD (.int i) (.int j)=some (.bl (decide (i=j))):=by rw[JR (by simp) (by simp)];simp
@[simp] theorem eqD_oi(i j:Option Int):eqD (oi i) (oi j)=some (.bl (decide (i=j))):=by rw[JR (by simp) (by simp)];simp
theorem JM(l:List D):eqvs l []=l.isEmpty:=by cases l<;>simp
theorem MB{l:List D}(h:shals 40 l=true):neD (.lst l) (.lst [])=some (.bl (!l.isEmpty)):=by rw[VW (by simpa using h) (by simp),GF,JM]
theorem tD(n:Nat)(l:List Int):shals (n+1) (l.map D.int)=true:=NU fun d hd=>by obtain⟨i,_,rfl⟩:=cM.mp hd;simp
theorem JK(l:List Int):flats (l.map D.int)=true:=by
 induction l with
 |nil=>simp
 |cons a r ih=>simp[ih]
@[simp] theorem bind_ite{α β : Type}{c:Prop}[Decidable c](a b:Option α)(f : α->Option β):(if c then a else b).bind f=if c then a.bind f else b.bind f:=by split<;>rfl
@[simp] theorem map_ite{α β : Type}{c:Prop}[Decidable c](a b:Option α)(f : α->β):(if c then a else b).map f=if c then a.map f else b.map f:=by split<;>rfl
theorem yM{fi:FA}{mp:List (Option Nat)}{ga:D->List Sl->Option (List Sl)}{tt:FT}{fe:FE}{ds:List Sl}{items l:List D}(h:fi ds=some items)(hl:items.length<=sizeLine)(hc:compL ga tt fe (qU mp ds) items=some l):compG fi mp ga tt fe ds=some l:=by
 unfold compG;rw[h];show(if items.length<=sizeLine then compL ga tt fe (qU mp ds) items else none)=_;rw[if_pos hl];exact hc
theorem GU:∀bs:List Bool,blsD (bs.map D.bl)=some bs
 |[]=>rfl
 |b::r=>by simp[blsD,GU r]
@[simp] theorem vP(bs:List Bool):allD [.lst (bs.map D.bl)]=some (.bl (bs.all id)):=by simp[allD,GU]
@[simp] theorem ixL2(a b c:D)(l:List D):ixD (.lst (a::b::c::l)) (.int 2)=some c:=by
 rw[yB _ (by decide) (by rw[aO,aO,aO];omega)];rfl
@[simp] theorem ixL3(a b c d:D)(l:List D):ixD (.lst (a::b::c::d::l)) (.int 3)=some d:=by
 rw[yB _ (by decide) (by rw[aO,aO,aO,aO];omega)];rfl
@[simp] theorem rng3_eq(fa fb fc:FE)(ds:List Sl):rng3 fa fb fc ds=(fa ds).bind fun x=>(fb ds).bind fun y=>(fc ds).bind fun z=>match x,y,z with
 | .int i,.int j,.int c=>if okR3 i j c then some (KU i c (SX i j c)) else none
 |_,_,_=>none:=rfl
@[simp] theorem rng2_eq(fa fb:FE)(ds:List Sl):rng2 fa fb ds=(fa ds).bind fun x=>(fb ds).bind fun y=>match x,y with
 | .int i,.int j=>if okR i/\okR j then some (lC i (j-i).toNat) else none
 |_,_=>none:=rfl
@[simp] theorem rng1_eq(f:FE)(ds:List Sl):rng1 f ds=(f ds).bind fun d=>match d with | .int j=>if okR j then some (lC 0 j.toNat) else none | _=>none:=rfl
theorem AY{j:Int}(h : -1000000000<=j)(h2:j<=1000000000):okR j:=⟨eR (by decide) h,Int.lt_of_le_of_lt h2 (by decide)⟩
theorem BH:∀bs:List Int,intsD (bs.map D.int)=some bs
 |[]=>rfl
 |b::r=>by simp[intsD,BH r]
@[simp] theorem absD_int(i:Int):absD [.int i]=some (.int (if i<0 then -i else i)):=rfl
@[simp] theorem int1D_int(i:Int):int1D [.int i]=some (.int i):=rfl
@[simp] theorem int1D_bl(b:Bool):int1D [.bl b]=some (.int (if b then 1 else 0)):=rfl
@[simp] theorem augA_eq(i:Nat)(f:FE)(ds:List Sl):augA i f ds=(qF i ds).bind fun x=>(f ds).bind fun y=>match x,y with
 | .int a,.int b=>some (.nx (ds.set i (.v (.int (a+b)))))
 |_,_=>none:=rfl
@[simp] theorem parG_eq(i j:Nat)(f:FA)(ds:List Sl):parG i j f ds=(f ds).bind fun l=>match l with
 |[a,b]=>some (.nx ((ds.set i (.v a)).set j (.v b)))
 |_=>none:=rfl
@[simp] theorem revA_eq(f:FE)(ds:List Sl):revA f ds=(f ds).bind fun d=>match d with
 | .lst l=>some l.reverse
 |_=>none:=rfl
theorem zT{f g:FS}{ds ds':List Sl}(h:f ds=some (.nx ds')):jD f g ds=g ds':=by simp[h]
theorem kH{g:FS}{n:Nat}{ds:List D}{r:Ret}(h:g (args n ds)=some (.rt r)):runG g n ds=some r:=by unfold runG;rw[h]
end FL
section
open PySem PyProof.Rows L2 FL
noncomputable def kY:FS:=(retG (andV (zF notD (zI 0) (zA .non)) (andV (zF notD (zI 1) (zA .non)) (zF leD (zI 0) (zI 1)))))
noncomputable def fW:List D->Option Ret:=runG kY 2
noncomputable def sU:FS:=(retG (andV (orV (zF isD (zF ixD (zI 0) (zA (.int 0))) (zA .non)) (zF leD (zF ixD (zI 0) (zA (.int 0))) (zI 1))) (orV (zF isD (zF ixD (zI 0) (zA (.int 1))) (zA .non)) (zF ltD (zI 1) (zF ixD (zI 0) (zA (.int 1)))))))
noncomputable def mM:List D->Option Ret:=runG sU 2
noncomputable def rJ:FS:=(jD (ifG (orT (zV (zF isD (zF ixD (zI 0) (zA (.int 0))) (zA .non))) (zV (zF isD (zF ixD (zI 0) (zA (.int 1))) (zA .non)))) (retG (zA .non)) qL)
 (retG (zF subD (zF ixD (zI 0) (zA (.int 1))) (zF ixD (zI 0) (zA (.int 0))))))
noncomputable def rK:List D->Option Ret:=runG rJ 1
noncomputable def lQ:FS:=(jD (ifG (zV (zF isD (zI 0) (zA .non))) (retG (zI 1)) qL)
 (jD (ifG (zV (zF isD (zI 1) (zA .non))) (retG (zI 0)) qL)
 (retG (callB mxD (zC (zI 0) (zC (zI 1) qA))))))
noncomputable def gM:List D->Option Ret:=runG lQ 2
noncomputable def gT:FS:=(jD (ifG (zV (zF isD (zI 0) (zA .non))) (retG (zI 1)) qL)
 (jD (ifG (zV (zF isD (zI 1) (zA .non))) (retG (zI 0)) qL)
 (retG (callB mnD (zC (zI 0) (zC (zI 1) qA))))))
noncomputable def eI:List D->Option Ret:=runG gT 2
noncomputable def rA:FS:=(jD (jS 2 (jE 2 gM (zC (zF ixD (zI 0) (zA (.int 0))) (zC (zF ixD (zI 1) (zA (.int 0))) qA))))
 (jD (jS 3 (jE 2 eI (zC (zF ixD (zI 0) (zA (.int 1))) (zC (zF ixD (zI 1) (zA (.int 1))) qA))))
 (jD (ifG (testT (jE 2 fW (zC (zI 3) (zC (zI 2) qA)))) (retG (zA .non)) qL)
 (retG (mkT (qR (zC (qF 2) (zC (qF 3) qA))))))))
noncomputable def lJ:List D->Option Ret:=runG rA 4
noncomputable def mW:FS:=(jD (ifG (notT (testT (isiG "str" (zI 0)))) (retG (zA (.bl false))) qL)
 (jD (ifG (orT (zV (zF ltD (callB lenD (zC (zI 0) qA)) (zA (.int 1)))) (zV (zF gtD (callB lenD (zC (zI 0) qA)) (zA (.int 8))))) (retG (zA (.bl false))) qL)
 (retG (callB allD (zC (mkL (compG (viaA (qF 0) asS) [none] (zP 0) (fun _=>some true) (zF inS (zI 0) (zA (.str "abcdefghijklmnopqrstuvwxyz"))))) qA)))))
noncomputable def eM:List D->Option Ret:=runG mW 1
noncomputable def lT:FS:=(jD (ifG (zV (zF isD (zI 4) (zA .non))) (fun ds=>some (.ct ds)) qL)
 (ifG (andT (testT (zI 1)) (andT (zV (zF eqD (zF ixD (zF ixD (zI 1) (un1 negD (zA (.int 1)))) (zA (.int 1))) (zI 2))) (zV (zF eqD (zF ixD (zF ixD (zI 1) (un1 negD (zA (.int 1)))) (zA (.int 2))) (zI 4))))) (putG 1 (un1 negD (zA (.int 1))) (mkT (qR (zC (zF ixD (zF ixD (zI 1) (un1 negD (zA (.int 1)))) (zA (.int 0))) (zC (qF 3) (zC (qF 4) qA)))))) (appG 1 (mkT (qR (zC (qF 2) (zC (qF 3) (zC (qF 4) qA))))))))
noncomputable def rB:FS:=(jD (setOG 1 (qR qA))
 (jD (forG (viaA (qF 0) asLT) (tupG 3 (qM (zP 2) (qM (zP 3) (qM (zP 4) tgNil)))) lT)
 (retXG 1)))
noncomputable def lK:List D->Option Ret:=runG rB 5
noncomputable def fI:FS:=(ifG (testT (jE 2 mM (zC (mkT (qR (zC (qF 2) (zC (qF 3) qA)))) (zC (zI 1) qA)))) (retG (zI 4)) qL)
noncomputable def mJ:FS:=(jD (forG (viaA (qF 0) asLT) (tupG 3 (qM (zP 2) (qM (zP 3) (qM (zP 4) tgNil)))) fI)
 (retG (zA .non)))
noncomputable def fD:List D->Option Ret:=runG mJ 5
noncomputable def fK:FS:=(jD (jS 6 (jE 2 lJ (zC (mkT (qR (zC (qF 3) (zC (qF 4) qA)))) (zC (zI 1) qA))))
 (ifG (zV (zF notD (zI 6) (zA .non))) (appG 2 (mkT (qR (zC (zF ixD (zI 6) (zA (.int 0))) (zC (zF ixD (zI 6) (zA (.int 1))) (zC (qF 5) qA)))))) qL))
noncomputable def mK:FS:=(jD (setOG 2 (qR qA))
 (jD (forG (viaA (qF 0) asLT) (tupG 3 (qM (zP 3) (qM (zP 4) (qM (zP 5) tgNil)))) fK)
 (retXG 2)))
noncomputable def eP:List D->Option Ret:=runG mK 7
noncomputable def lP:FS:=(jD (setOG 3 (qR qA))
 (jD (ifG (zV (zF notD (zF ixD (zI 1) (zA (.int 0))) (zA .non))) (extG 3 (vB 2 eP (zC (zI 0) (zC (mkT (qR (zC (zA .non) (zC (zF ixD (zI 1) (zA (.int 0))) qA)))) qA)))) qL)
 (jD (appG 3 (mkT (qR (zC (zF ixD (zI 1) (zA (.int 0))) (zC (zF ixD (zI 1) (zA (.int 1))) (zC (qF 2) qA))))))
 (jD (ifG (zV (zF notD (zF ixD (zI 1) (zA (.int 1))) (zA .non))) (extG 3 (vB 2 eP (zC (zI 0) (zC (mkT (qR (zC (zF ixD (zI 1) (zA (.int 1))) (zC (zA .non) qA)))) qA)))) qL)
 (retXG 3)))))
noncomputable def fJ:List D->Option Ret:=runG lP 4
noncomputable def sT:FS:=(retOG (vB 1 lK (zC (jE 3 fJ (zC (zI 0) (zC (zI 1) (zC (zI 2) qA)))) qA)))
noncomputable def iP:List D->Option Ret:=runG sT 3
noncomputable def kL:FS:=(jD (ifG (orT (zV (zF ltD (callB lenD (zC (zI 0) qA)) (zA (.int 1)))) (zV (zF gtD (callB lenD (zC (zI 0) qA)) (zA (.int 60))))) (fun _=>none) qL)
 (jD (ifG (notT (testT (callB allD (zC (mkL (compG (viaA (qF 0) asLT) [none] (zP 0) (fun _=>some true) (jE 1 eM (zC (zI 0) qA)))) qA)))) (fun _=>none) qL)
 (ifG (zV (zF ltD (lsetE (zI 0)) (callB lenD (zC (zI 0) qA)))) (fun _=>none) qL)))
noncomputable def fL:List D->Option Ret:=runG kL 1
noncomputable def dR:FS:=(dputN (atP [(12,0)] (varP 0)) (qF 2) (sO nilO))
noncomputable def fA:FS:=(jD (dropG (jE 1 fL (zC (zI 1) qA)))
 (jD (setNw 24 12 (varP 0) dO0)
 (forG (viaA (mkL (srtTA (zI 1))) asLT) (zP 2) dR)))
noncomputable def cV:OT->List D->Option OT:=lentF fA 3
noncomputable def kM:FS:=(jD (ifG (orT (notT (testT (jE 1 eM (zC (zI 1) qA)))) (dnotG (zI 1) (fldG [(12,0)] (qF 0)))) (fun _=>none) qL)
 (retOG (lisA (dgetG (fldG [(12,0)] (qF 0)) (qF 1)))))
noncomputable def gR:List D->Option Ret:=runG kM 2
noncomputable def dE:Nat->List D->Option Ret
 |12=>gR
 |_=>fun _=>none
noncomputable def iC:FS:=(dputG (atP [(12,0)] (varP 0)) (qF 1) (ofO (relGO 0 (lO (vB 3 iP (zC (methV 1 [12] dE (qF 0) (zC (zI 1) qA)) (zC (zI 2) (zC (zA (.int 1)) qA))))))))
noncomputable def eF:OT->List D->Option OT:=lentF iC 3
noncomputable def gS:FS:=(dputG (atP [(12,0)] (varP 0)) (qF 1) (ofO (relGO 0 (lO (vB 3 iP (zC (methV 1 [12] dE (qF 0) (zC (zI 1) qA)) (zC (zI 2) (zC (zA .non) qA))))))))
noncomputable def dZ:OT->List D->Option OT:=lentF gS 3
noncomputable def gN:FS:=(retOG (compG (keysA (fldG [(12,0)] (qF 0)))  [none,some 1,some 0] (zP 0) (zV (zF notD (jE 2 fD (zC (dgetG (fldG [(12,0)] (qF 2)) (qF 0)) (zC (zI 1) qA))) (zA .non))) (qF 0)))
noncomputable def gO:List D->Option Ret:=runG gN 2
noncomputable def cN:Nat->List D->Option Ret
 |12=>gO
 |_=>fun _=>none
noncomputable def mX:FS:=(jD (ifG (zV (zF ltD (zI 1) (callB lenD (zC (zI 0) qA)))) (retG (zF ixD (zI 0) (zI 1))) qL)
 (retG (zA (.int 0))))
noncomputable def eN:List D->Option Ret:=runG mX 2
noncomputable def pC:FS:=(jD (jS 1 (zF powD (zF powD (zA (.int 10)) (zA (.int 60))) (zA (.int 8))))
 (retG (zF subD (zF qY (zI 0) (zF yN (zF yS (zA (.int 2)) (zI 1)) (zA (.int 1)))) (zI 1))))
noncomputable def kN:List D->Option Ret:=runG pC 2
noncomputable def rC:FS:=(retG (andV (orV (zF isD (zF ixD (zI 0) (zA (.int 0))) (zA .non)) (zF leD (zF ixD (zI 0) (zA (.int 0))) (zI 1))) (orV (zF isD (zF ixD (zI 0) (zA (.int 1))) (zA .non)) (zF ltD (zI 1) (zF ixD (zI 0) (zA (.int 1)))))))
noncomputable def mN:List D->Option Ret:=runG rC 2
end
namespace FL
open PySem PySem.Spec PyProof.Rows L2
abbrev Spn:=Option Int×Option Int
noncomputable def spD(s:Spn):D:=.tup [oi s.1,oi s.2]
noncomputable def oS:Option Spn->D
 |none=>.non
 |some s=>spD s
noncomputable def hasS(s:Spn)(p:Int):Bool:=(match s.1 with | none=>true | some a=>decide (a<=p))&&(match s.2 with | none=>true | some b=>decide (p<b))
def okS(s:Spn):Prop:=∀a b,s.1=some a->s.2=some b->a<b
@[simp] theorem spD_0(s:Spn):ixD (spD s) (.int 0)=some (oi s.1):=ixT0 _ _
@[simp] theorem spD_1(s:Spn):ixD (spD s) (.int 1)=some (oi s.2):=ixT1 _ _ _
@[simp] theorem spD_isD(s:Spn):isD (spD s) .non=some (.bl false):=rfl
@[simp] theorem spD_notD(s:Spn):notD (spD s) .non=some (.bl true):=rfl
@[simp] theorem spD_asLT(s:Spn):asLT (spD s)=some [oi s.1,oi s.2]:=rfl
@[simp] theorem oS_isD(o:Option Spn):isD (oS o) .non=some (.bl o.isNone):=by cases o<;>rfl
@[simp] theorem oS_notD(o:Option Spn):notD (oS o) .non=some (.bl o.isSome):=by cases o<;>rfl
theorem has_eq(s:Spn)(p:Int):mM [spD s,.int p]=some (.val (.bl (hasS s p))):=by
 obtain⟨a,b⟩:=s;unfold mM runG sU;cases a<;>cases b<;>simp[args,hasS]
theorem length_eq(s:Spn):rK [spD s]=some (.val (oi (match s.1,s.2 with | some a,some b=>some (b-a) | _,_=>none))):=by
 obtain⟨a,b⟩:=s;unfold rK runG rJ;cases a<;>cases b<;>simp[args]
noncomputable def lateL:Option Int->Option Int->Option Int
 |none,b=>b
 |a,none=>a
 |some a,some b=>some (max a b)
noncomputable def xK:Option Int->Option Int->Option Int
 |none,b=>b
 |a,none=>a
 |some a,some b=>some (min a b)
noncomputable def nW:Option Int->Option Int->Bool
 |some b,some l=>decide (b<=l)
 |_,_=>false
theorem WM(a b:Option Int):gM [oi a,oi b]=some (.val (oi (lateL a b))):=by
 unfold gM runG lQ;cases a<;>cases b<;>simp[args,lateL]
theorem XR(a b:Option Int):eI [oi a,oi b]=some (.val (oi (xK a b))):=by
 unfold eI runG gT;cases a<;>cases b<;>simp[args,xK]
theorem RC(a b:Option Int):fW [oi a,oi b]=some (.val (.bl (nW a b))):=by
 unfold fW runG kY;cases a<;>cases b<;>simp[args,nW]
noncomputable def meetS(s t:Spn):Option Spn:=if nW (xK s.2 t.2) (lateL s.1 t.1)=true then none else some (lateL s.1 t.1,xK s.2 t.2)
theorem meet_eq(s t:Spn):lJ [spD s,spD t]=some (.val (oS (meetS s t))):=by
 unfold lJ runG rA;cases h:nW (xK s.2 t.2) (lateL s.1 t.1)<;>simp[args,WM,XR,RC,h,meetS,oS,spD]
def HasS(s:Spn)(p:Int):Prop:=(∀a,s.1=some a->a<=p)/\(∀b,s.2=some b->p<b)
theorem yP(s:Spn)(p:Int):hasS s p=true↔HasS s p:=by
 obtain⟨a,b⟩:=s;cases a<;>cases b<;>simp[hasS,HasS]
theorem FR{a c:Option Int}{p:Int}:(∀x,lateL a c=some x->x<=p)↔(∀x,a=some x->x<=p)/\(∀x,c=some x->x<=p):=by
 cases a<;>cases c<;>simp[lateL]
 omega
theorem GG{a c:Option Int}{p:Int}:(∀x,xK a c=some x->p<x)↔(∀x,a=some x->p<x)/\(∀x,c=some x->p<x):=by
 cases a<;>cases c<;>simp[xK]
 omega
theorem RB{b l:Option Int}{p:Int}(h:nW b l=true)(h1:∀x,l=some x->x<=p)(h2:∀x,b=some x->p<x):False:=by
 cases b<;>cases l<;>simp[nW] at h
 have:=h1 _ rfl;have:=h2 _ rfl;omega
noncomputable def hasO(o:Option Spn)(p:Int):Bool:=match o with
 |none=>false
 |some u=>hasS u p
theorem BK(s t:Spn)(p:Int):hasO (meetS s t) p=(hasS s p&&hasS t p):=by
 rw[YO,cG,yP,yP];unfold meetS
 by_cases h:nW (xK s.2 t.2) (lateL s.1 t.1)=true
 . rw[if_pos h];refine⟨fun z=>by simp[hasO] at z,fun z=>(RB h (FR.mpr ⟨z.1.1,z.2.1⟩) (GG.mpr ⟨z.1.2,z.2.2⟩)).elim⟩
 . rw[if_neg h];show hasS _ p=true↔_;rw[yP];show(∀x,lateL s.1 t.1=some x->x<=p)/\(∀x,xK s.2 t.2=some x->p<x)↔_;rw[FR,GG];exact⟨fun⟨⟨a,b⟩,c,d⟩=>⟨⟨a,c⟩,b,d⟩,fun⟨⟨a,c⟩,b,d⟩=>⟨⟨a,b⟩,c,d⟩⟩
theorem WA{s t u:Spn}(h:meetS s t=some u):okS u:=by
 unfold meetS at h
 split at h
 . cases h
 . rename_i hn;cases h;intro a b h1 h2;simp only at h1 h2;rw[h1,h2] at hn;simp[nW] at hn;omega
open Builtin.Int (intBits)
noncomputable def cel(ns:List Int)(k:Nat):Int:=ns.getD k 0
theorem XZ(ns:List Int){k:Int}(h:0<=k):eN [.lst (ns.map D.int),.int k]=some (.val (.int (ns.getD k.toNat 0))):=by
 unfold eN runG mX
 by_cases hk:k<(ns.length:Int)
 . have hl : k < ((ns.map D.int).length : Int) := by simpa using hk
   have e:(ns.map D.int)[k.toNat]?=some (.int (ns.getD k.toNat 0)):=by
    have:k.toNat<ns.length:=by omega
    simp[this,List.getD]
   simp[args,hk,yB _ h hl,e]
 . have:ns.getD k.toNat 0=0:=by
    have:ns.length<=k.toNat:=by omega
    simp[List.getD,bC this]
   rw[this];simp[args,hk]
theorem DE(ns:List Int)(k:Nat):eN [.lst (ns.map D.int),.int (k:Int)]=some (.val (.int (cel ns k))):=XZ ns (k:=(k:Int)) (by omega)
theorem zU{a:Int}{m:Nat}(h:a.natAbs<2 ^ m):intBits a<=m:=intBits_le_iff.mpr h
theorem pow1060:powD (.int (10 ^ 60)) (.int 8)=some (.int ((10 ^ 60) ^ 8)):=LK (MT (n:=200) (m:=8) (by decide) (by decide) (by decide) (by decide))
@[simp] theorem eqS_put_put:eqD (.str "put") (.str "put")=some (.bl true):=by kernel_rfl
@[simp] theorem neS_put_put:neD (.str "put") (.str "put")=some (.bl false):=by kernel_rfl
@[simp] theorem YW:eqD (.str "put") (.str "widen")=some (.bl false):=by kernel_rfl
@[simp] theorem YS:neD (.str "put") (.str "widen")=some (.bl true):=by kernel_rfl
@[simp] theorem XG:eqD (.str "put") (.str "narrow")=some (.bl false):=by kernel_rfl
@[simp] theorem VQ:neD (.str "put") (.str "narrow")=some (.bl true):=by kernel_rfl
@[simp] theorem eqS_put_move:eqD (.str "put") (.str "move")=some (.bl false):=by kernel_rfl
@[simp] theorem neS_put_move:neD (.str "put") (.str "move")=some (.bl true):=by kernel_rfl
@[simp] theorem RX:eqD (.str "put") (.str "stretch")=some (.bl false):=by kernel_rfl
@[simp] theorem RO:neD (.str "put") (.str "stretch")=some (.bl true):=by kernel_rfl
@[simp] theorem XH:eqD (.str "put") (.str "mirror")=some (.bl false):=by kernel_rfl
@[simp] theorem VR:neD (.str "put") (.str "mirror")=some (.bl true):=by kernel_rfl
@[simp] theorem YV:eqD (.str "widen") (.str "put")=some (.bl false):=by kernel_rfl
@[simp] theorem YR:neD (.str "widen") (.str "put")=some (.bl true):=by kernel_rfl
@[simp] theorem RV:eqD (.str "widen") (.str "widen")=some (.bl true):=by kernel_rfl
@[simp] theorem RM:neD (.str "widen") (.str "widen")=some (.bl false):=by kernel_rfl
@[simp] theorem QM:eqD (.str "widen") (.str "narrow")=some (.bl false):=by kernel_rfl
@[simp] theorem OW:neD (.str "widen") (.str "narrow")=some (.bl true):=by kernel_rfl
@[simp] theorem XF:eqD (.str "widen") (.str "move")=some (.bl false):=by kernel_rfl
@[simp] theorem VP:neD (.str "widen") (.str "move")=some (.bl true):=by kernel_rfl
@[simp] theorem MM:eqD (.str "widen") (.str "stretch")=some (.bl false):=by kernel_rfl
@[simp] theorem LV:neD (.str "widen") (.str "stretch")=some (.bl true):=by kernel_rfl
@[simp] theorem QN:eqD (.str "widen") (.str "mirror")=some (.bl false):=by kernel_rfl
@[simp] theorem OX:neD (.str "widen") (.str "mirror")=some (.bl true):=by kernel_rfl
@[simp] theorem XJ:eqD (.str "narrow") (.str "put")=some (.bl false):=by kernel_rfl
@[simp] theorem VS:neD (.str "narrow") (.str "put")=some (.bl true):=by kernel_rfl
@[simp] theorem QP:eqD (.str "narrow") (.str "widen")=some (.bl false):=by kernel_rfl
@[simp] theorem OZ:neD (.str "narrow") (.str "widen")=some (.bl true):=by kernel_rfl
@[simp] theorem MO:eqD (.str "narrow") (.str "narrow")=some (.bl true):=by kernel_rfl
@[simp] theorem LX:neD (.str "narrow") (.str "narrow")=some (.bl false):=by kernel_rfl
@[simp] theorem RY:eqD (.str "narrow") (.str "move")=some (.bl false):=by kernel_rfl
@[simp] theorem RP:neD (.str "narrow") (.str "move")=some (.bl true):=by kernel_rfl
@[simp] theorem JP:eqD (.str "narrow") (.str "stretch")=some (.bl false):=by kernel_rfl
@[simp] theorem IS:neD (.str "narrow") (.str "stretch")=some (.bl true):=by kernel_rfl
@[simp] theorem MP:eqD (.str "narrow") (.str "mirror")=some (.bl false):=by kernel_rfl
@[simp] theorem LY:neD (.str "narrow") (.str "mirror")=some (.bl true):=by kernel_rfl
@[simp] theorem eqS_move_put:eqD (.str "move") (.str "put")=some (.bl false):=by kernel_rfl
@[simp] theorem neS_move_put:neD (.str "move") (.str "put")=some (.bl true):=by kernel_rfl
@[simp] theorem XM:eqD (.str "move") (.str "widen")=some (.bl false):=by kernel_rfl
@[simp] theorem VT:neD (.str "move") (.str "widen")=some (.bl true):=by kernel_rfl
@[simp] theorem RZ:eqD (.str "move") (.str "narrow")=some (.bl false):=by kernel_rfl
@[simp] theorem RQ:neD (.str "move") (.str "narrow")=some (.bl true):=by kernel_rfl
@[simp] theorem YX:eqD (.str "move") (.str "move")=some (.bl true):=by kernel_rfl
@[simp] theorem YT:neD (.str "move") (.str "move")=some (.bl false):=by kernel_rfl
@[simp] theorem QQ:eqD (.str "move") (.str "stretch")=some (.bl false):=by kernel_rfl
@[simp] theorem PB:neD (.str "move") (.str "stretch")=some (.bl true):=by kernel_rfl
@[simp] theorem SA:eqD (.str "move") (.str "mirror")=some (.bl false):=by kernel_rfl
@[simp] theorem RT:neD (.str "move") (.str "mirror")=some (.bl true):=by kernel_rfl
@[simp] theorem RW:eqD (.str "stretch") (.str "put")=some (.bl false):=by kernel_rfl
@[simp] theorem RN:neD (.str "stretch") (.str "put")=some (.bl true):=by kernel_rfl
@[simp] theorem MN:eqD (.str "stretch") (.str "widen")=some (.bl false):=by kernel_rfl
@[simp] theorem LW:neD (.str "stretch") (.str "widen")=some (.bl true):=by kernel_rfl
@[simp] theorem JN:eqD (.str "stretch") (.str "narrow")=some (.bl false):=by kernel_rfl
@[simp] theorem IP:neD (.str "stretch") (.str "narrow")=some (.bl true):=by kernel_rfl
@[simp] theorem QO:eqD (.str "stretch") (.str "move")=some (.bl false):=by kernel_rfl
@[simp] theorem OY:neD (.str "stretch") (.str "move")=some (.bl true):=by kernel_rfl
@[simp] theorem HM:eqD (.str "stretch") (.str "stretch")=some (.bl true):=by kernel_rfl
@[simp] theorem HL:neD (.str "stretch") (.str "stretch")=some (.bl false):=by kernel_rfl
@[simp] theorem JO:eqD (.str "stretch") (.str "mirror")=some (.bl false):=by kernel_rfl
@[simp] theorem IQ:neD (.str "stretch") (.str "mirror")=some (.bl true):=by kernel_rfl
@[simp] theorem XO:eqD (.str "mirror") (.str "put")=some (.bl false):=by kernel_rfl
@[simp] theorem VU:neD (.str "mirror") (.str "put")=some (.bl true):=by kernel_rfl
@[simp] theorem QR:eqD (.str "mirror") (.str "widen")=some (.bl false):=by kernel_rfl
@[simp] theorem PD:neD (.str "mirror") (.str "widen")=some (.bl true):=by kernel_rfl
@[simp] theorem MQ:eqD (.str "mirror") (.str "narrow")=some (.bl false):=by kernel_rfl
@[simp] theorem LZ:neD (.str "mirror") (.str "narrow")=some (.bl true):=by kernel_rfl
@[simp] theorem SD:eqD (.str "mirror") (.str "move")=some (.bl false):=by kernel_rfl
@[simp] theorem RU:neD (.str "mirror") (.str "move")=some (.bl true):=by kernel_rfl
@[simp] theorem JQ:eqD (.str "mirror") (.str "stretch")=some (.bl false):=by kernel_rfl
@[simp] theorem IT:neD (.str "mirror") (.str "stretch")=some (.bl true):=by kernel_rfl
@[simp] theorem MR:eqD (.str "mirror") (.str "mirror")=some (.bl true):=by kernel_rfl
@[simp] theorem MA:neD (.str "mirror") (.str "mirror")=some (.bl false):=by kernel_rfl
@[simp] theorem fldG_eq(ix:List (Nat×Nat))(f:FE)(ds:List Sl):fldG ix f ds=(f ds).bind (fldD ix):=rfl
@[simp] theorem fldD_ins(ix:List (Nat×Nat))(t:Nat)(es:List D):fldD ix (.ins t es)=(ix.lookup t).bind fun i=>es[i]?:=rfl
@[simp] theorem methV_eq(n:Nat)(cs:List Nat)(F:Nat->List D->Option Ret)(fo:FE)(g:FA)(ds:List Sl):methV n cs F fo g ds=(fo ds).bind fun o=>(g ds).bind fun l=>(methR n cs F o l).bind retV:=rfl
@[simp] theorem methF_eq(n:Nat)(cs:List Nat)(F:Nat->List D->Option Ret)(fo:FE)(g:FA)(ds:List Sl):methF n cs F fo g ds=(fo ds).bind fun o=>(g ds).bind fun l=>(methR n cs F o l).bind retF:=rfl
@[simp] theorem makeG_eq(t n:Nat)(G:List D->Option (List D))(g:FA)(ds:List Sl):makeG t n G g ds=(g ds).bind fun l=>if l.length=n/\flats l=true then (G l).map (D.ins t) else none:=rfl
@[simp] theorem retDG_eq(f:FE)(ds:List Sl):retDG f ds=(f ds).map fun d=>.rt (.val d):=rfl
end FL
namespace FL
open PySem PySem.Spec PyProof.Rows L2
abbrev Rw:=Option Int×Option Int×Option Int
noncomputable def rwD(r:Rw):D:=.tup [oi r.1,oi r.2.1,oi r.2.2]
noncomputable def has3(r:Rw)(p:Int):Bool:=hasS (r.1,r.2.1) p
def ok3(r:Rw):Prop:=okS (r.1,r.2.1)
@[simp] theorem rwD_0(r:Rw):ixD (rwD r) (.int 0)=some (oi r.1):=ixT0 _ _
@[simp] theorem rwD_1(r:Rw):ixD (rwD r) (.int 1)=some (oi r.2.1):=ixT1 _ _ _
@[simp] theorem rwD_2(r:Rw):ixD (rwD r) (.int 2)=some (oi r.2.2):=ixT2 _ _ _ _
@[simp] theorem rwD_flat(r:Rw):flat (rwD r)=true:=by simp[rwD]
@[simp] theorem rwD_tupG(h:List D->List Sl->Option (List Sl))(r:Rw)(ds:List Sl):tupG 3 h (rwD r) ds=h [oi r.1,oi r.2.1,oi r.2.2] ds:=by simp[rwD]
theorem yR(l:List Rw):flats (l.map rwD)=true:=by
 induction l with
 |nil=>simp
 |cons a r ih=>simp[ih]
theorem FV{n:Nat}(h:0<n):ixN n (-1)=some (n-1):=by
 unfold ixN;rw[if_neg (by decide),if_pos (by omega)];congr 1;omega
def ahead(a b:Rw):Prop:=∃x y,a.2.1=some x/\b.1=some y/\x<=y
structure Ord(rows:List Rw):Prop where
 ok:∀r∈rows,ok3 r
 pw:rows.Pairwise ahead
def Tel(rows:List Rw)(p v:Int):Prop:=∃r∈rows,has3 r p=true/\r.2.2=some v
noncomputable def knit1(acc:List Rw)(r:Rw):List Rw:=match r.2.2 with
 |none=>acc
 | some v => match acc with
   |[]=>[r]
   |q::t=>if q.2.1=r.1/\q.2.2=some v then (q.1,r.2.1,some v)::t else r::q::t
noncomputable def knitF(rows:List Rw):List Rw:=(rows.foldl knit1 []).reverse
theorem PR(acc:List Rw)(r:Rw)(R a b c:Sl)(hl:acc.length<16777216) :
  lT [R,.own (acc.map rwD).reverse,.v (oi r.1),.v (oi r.2.1),.v (oi r.2.2)]=some (.nx [R,.own ((knit1 acc r).map rwD).reverse,.v (oi r.1),.v (oi r.2.1),.v (oi r.2.2)]) ∨
  lT [R,.own (acc.map rwD).reverse,.v (oi r.1),.v (oi r.2.1),.v (oi r.2.2)]=some (.ct [R,.own ((knit1 acc r).map rwD).reverse,.v (oi r.1),.v (oi r.2.1),.v (oi r.2.2)]):=by
 obtain⟨lo,bh,v⟩:=r;unfold lT;cases v with
 |none=>right;simp[knit1]
 | some v =>
   left;cases acc with
   | nil =>
     have e:D.tup [oi lo,oi bh,.int v]=rwD (lo,bh,some v):=rfl;simp[knit1,e]
   | cons q t =>
     have last:ixD (.lst ((t.map rwD).reverse++[rwD q])) (.int (-1))=some (rwD q):=WO _ _;have le:ixN (t.length+1) (-1)=some t.length:=by rw[FV (by omega)];rfl
     have hl':t.length+1<16777216:=by simpa using hl
     have e2:∀x:Option Int,eqD (oi x) (D.int v)=some (.bl (decide (x=some v))):=fun x=>eqD_oi x (some v)
     by_cases h1:q.2.1=lo
     . by_cases h2 : q.2.2 = some v
       . have e : D.tup [oi q.1, oi bh, .int v]=rwD (q.1, bh, some v):= rfl;simp[knit1,h1,h2,last,le,e2,e]
       . have e : D.tup [oi lo, oi bh, .int v]=rwD (lo, bh, some v):= rfl;simp[knit1,h1,h2,last,le,e2,hl',e]
     . have e : D.tup [oi lo, oi bh, .int v]=rwD (lo, bh, some v):= rfl;simp[knit1,h1,last,le,hl',e]
theorem BD(acc:List Rw)(r:Rw):(knit1 acc r).length<=acc.length+1:=by
 unfold knit1
 split
 . omega
 . split
   . simp
   . split<;>simp
theorem BC(R:Sl):∀(rows acc:List Rw) (a b c:Sl),acc.length+rows.length<16777216 →
  ∃a' b' c',jI (tupG 3 (qM (zP 2) (qM (zP 3) (qM (zP 4) tgNil)))) lT (rows.map rwD) [R,.own (acc.map rwD).reverse,a,b,c]=some (.nx [R,.own ((rows.foldl knit1 acc).map rwD).reverse,a',b',c'])
 |[],acc,a,b,c,_=>⟨a,b,c,rfl⟩
 | r :: rows, acc, a, b, c, h => by
   simp only[aO] at h;have hl:=BD acc r;obtain⟨a',b',c',ih⟩:=BC R rows (knit1 acc r) (.v (oi r.1)) (.v (oi r.2.1)) (.v (oi r.2.2)) (by omega);refine⟨a',b',c',?_⟩;rcases PR acc r R a b c (by omega) with e | e<;>simp[jI,e,ih]
theorem knit_eq(rows:List Rw)(h:rows.length<16777216):lK [.lst (rows.map rwD)]=some (.fresh ((knitF rows).map rwD)):=by
 obtain⟨a,b,c,e⟩:=BC (.v (.lst (rows.map rwD))) rows [] .no .no .no (by simpa using h);simp only[List.reverse_nil,dC] at e;unfold lK runG rB;have fl:=yR (knitF rows);unfold knitF at fl ⊢;rw[List.map_reverse] at fl ⊢;simp[args,e,fl]
theorem PY(rows:List Rw):(knitF rows).length<=rows.length:=by
 unfold knitF;rw[fP]
 have:∀(rows acc:List Rw),(rows.foldl knit1 acc).length<=acc.length+rows.length:=by
  intro rows
  induction rows with
  |nil=>intro acc;simp
  | cons r t ih =>
    intro acc;have:=ih (knit1 acc r);have:=BD acc r;simp only[nL,aO];omega
 have:=this rows [];simpa using this
noncomputable def adjOk:List Rw->Prop
 |b::a::t=>¬(a.2.1=b.1/\a.2.2=b.2.2)/\adjOk (a::t)
 |_=>True
structure KI(acc:List Rw):Prop where
 ok:∀r∈acc,ok3 r
 pw:acc.Pairwise fun b a=>ahead a b
 val:∀r∈acc,r.2.2≠none
 adj:adjOk acc
theorem KI.nil:KI []:=⟨(fun _ h=>nomatch h),List.Pairwise.nil,(fun _ h=>nomatch h),trivial⟩
theorem wE(r:Rw)(p:Int):has3 r p=true↔(∀a,r.1=some a->a<=p)/\(∀b,r.2.1=some b->p<b):=yP _ _
theorem JB{acc:List Rw}{r:Rw}(k:KI acc)(ho:ok3 r)(ha:∀a∈acc,ahead a r) :
  KI (knit1 acc r)/\(∀r',ahead r r'->(∀a∈acc,ahead a r')->∀a∈knit1 acc r,ahead a r')/\∀p v,Tel (knit1 acc r) p v↔Tel acc p v\/(has3 r p=true/\r.2.2=some v):=by
 obtain⟨lo,bh,w⟩:=r;cases w with
 | none =>
   refine⟨k,fun r' _ h=>h,fun p v=>⟨.inl,fun h=>h.elim id fun z=>by simp at z⟩⟩
 | some w =>
   cases acc with
   | nil =>
     refine⟨⟨?_,?_,?_,trivial⟩,?_,?_⟩
     . intro x hx;simp[knit1] at hx;subst hx;exact ho
     . simp[knit1]
     . intro x hx;simp[knit1] at hx;subst hx;simp
     . intro r' h1 _ a h;simp[knit1] at h;subst h;exact h1
     . intro p v;simp[knit1,Tel]
   | cons q t =>
     obtain⟨x,y,hx,hy,hxy⟩:=ha q bD;simp only at hy;have pw:=bP.mp k.pw
     by_cases hm:q.2.1=lo/\q.2.2=some w
     . have e : knit1 (q :: t) (lo, bh, some w) = (q.1, bh, some w) :: t := by simp [knit1, hm.1, hm.2]
       rw[e]
       have exy:x=y:=by
        have:=hm.1;rw[hx,hy] at this;exact Option.some.inj this
       have hn:∀p,has3 (q.1,bh,some w) p=true↔has3 q p=true\/has3 (lo,bh,some w) p=true:=by
        intro p;rw[wE,wE,wE];simp only;constructor
        . rintro ⟨h1, h2⟩
          by_cases hp:p<x
          . exact .inl ⟨h1,fun b hb=>by rw[hx] at hb;cases hb;exact hp⟩
          . exact .inr ⟨fun a h=>by rw[hy] at h;cases h;omega,h2⟩
        . rintro (⟨h1, h2⟩ | ⟨h1, h2⟩)
          . refine⟨h1, fun b hb => ?_⟩;have:=h2 x hx;have:=ho y b hy hb;omega
          . refine⟨fun a h => ?_, h2⟩;have:=k.ok q bD a x h hx;have:=h1 y hy;omega
       refine⟨⟨?_,?_,?_,?_⟩,?_,?_⟩
       . intro z hz;rcases aF.mp hz with rfl | hz
         . intro a b h1 h2;have:=k.ok q bD a x h1 hx;have:=ho y b hy h2;omega
         . exact k.ok z (aQ _ hz)
       . refine bP.mpr ⟨fun a h => ?_, pw.2⟩;exact pw.1 a h
       . intro z hz;rcases aF.mp hz with rfl | hz
         . simp
         . exact k.val z (aQ _ hz)
       . have ka := k.adj;cases t with
         |nil=>trivial
         | cons a t =>
           refine⟨fun h=>ka.1 ⟨h.1,?_⟩,ka.2⟩;rw[hm.2];exact h.2
       . intro r' h1 h2 a h;rcases aF.mp h with rfl | h
         . exact h1
         . exact h2 a (aQ _ h)
       . intro p v;constructor
         . rintro ⟨z, hz, h1, h2⟩;rcases aF.mp hz with rfl | hz
           . rcases (hn p).mp h1 with h3 | h3
             . exact .inl ⟨q,bD,h3,hm.2.trans h2⟩
             . exact .inr ⟨h3,h2⟩
           . exact .inl ⟨z,aQ _ hz,h1,h2⟩
         . rintro (⟨z, hz, h1, h2⟩ | ⟨h1, h2⟩)
           . rcases aF.mp hz with rfl | hz
             . exact⟨_,bD,(hn p).mpr (.inl h1),by rw[hm.2] at h2;exact h2⟩
             . exact⟨z,aQ _ hz,h1,h2⟩
           . exact⟨_,bD,(hn p).mpr (.inr h1),h2⟩
     . have e : knit1 (q :: t) (lo, bh, some w) = (lo, bh, some w) :: q :: t := by simp only [knit1]; rw [if_neg hm]
       rw[e];refine⟨⟨?_,bP.mpr ⟨ha,k.pw⟩,?_,hm,k.adj⟩,?_,?_⟩
       . intro z hz;rcases aF.mp hz with rfl | hz
         . exact ho
         . exact k.ok z hz
       . intro z hz;rcases aF.mp hz with rfl | hz
         . simp
         . exact k.val z hz
       . intro r' h1 h2 a h;rcases aF.mp h with rfl | h
         . exact h1
         . exact h2 a h
       . intro p v;constructor
         . rintro ⟨z, hz, h1, h2⟩;rcases aF.mp hz with rfl | hz
           . exact .inr ⟨h1,h2⟩
           . exact .inl ⟨z,hz,h1,h2⟩
         . rintro (⟨z, hz, h1, h2⟩ | ⟨h1, h2⟩)
           . exact⟨z,aQ _ hz,h1,h2⟩
           . exact⟨_,bD,h1,h2⟩
theorem wS:∀(rows acc:List Rw),KI acc->Ord rows->(∀a∈acc,∀r∈rows,ahead a r)->KI (rows.foldl knit1 acc)/\∀p v,Tel (rows.foldl knit1 acc) p v↔Tel acc p v\/Tel rows p v
 |[],acc,k,_,_=>⟨k,fun p v=>⟨.inl,fun h=>h.elim id fun⟨r,hr,_⟩=>nomatch hr⟩⟩
 | r :: rows, acc, k, o, h => by
   have pw:=bP.mp o.pw;obtain⟨k1,h1,t1⟩:=JB k (o.ok r bD) fun a ha=>h a ha r bD;obtain⟨k2,t2⟩:=wS rows (knit1 acc r) k1 ⟨fun z hz=>o.ok z (aQ _ hz),pw.2⟩ fun a ha r' hr'=>h1 r' (pw.1 r' hr') (fun b hb=>h b hb r' (aQ _ hr')) a ha;refine⟨k2,fun p v=>?_⟩;show Tel (rows.foldl knit1 (knit1 acc r)) p v↔_;rw[t2,t1];constructor
   . rintro ((h | ⟨h, e⟩) | ⟨z, hz, h⟩)
     . exact .inl h
     . exact .inr ⟨r,bD,h,e⟩
     . exact .inr ⟨z,aQ _ hz,h⟩
   . rintro (h' | ⟨z, hz, h'⟩)
     . exact .inl (.inl h')
     . rcases aF.mp hz with rfl | hz
       . exact .inl (.inr h')
       . exact .inr ⟨z,hz,h'⟩
structure MapF(ps:List Rw):Prop where
 ord:Ord ps
 val:∀r∈ps,r.2.2≠none
 adj:∀(i:Nat) (a b:Rw),ps[i]?=some a->ps[i+1]?=some b->¬(a.2.1=b.1/\a.2.2=b.2.2)
theorem BS:∀{l:List Rw},adjOk l->∀(i:Nat) (b a:Rw),l[i]?=some b->l[i+1]?=some a->¬(a.2.1=b.1/\a.2.2=b.2.2)
 |[],_,i,b,a,e,_=>by simp at e
 |[x],_,i,b,a,e,e2=>by simp at e2
 | x :: y :: t, h, 0, b, a, e, e2 => by
   simp at e e2;subst e e2;exact h.1
 |x::y::t,h,i+1,b,a,e,e2=>BS h.2 i b a (by simpa using e) (by simpa using e2)
theorem KI.map{acc:List Rw}(k:KI acc):MapF acc.reverse:=by
 refine⟨⟨fun r hr=>k.ok r (cJ.mp hr),kS.mpr k.pw⟩,fun r hr=>k.val r (cJ.mp hr),fun i a b h1 h2=>?_⟩;have l2:=(bF.mp h2).1;rw[fP] at l2;rw[HK (by omega)] at h1 h2;refine BS k.adj (acc.length-1-(i+1)) b a h2 ?_;rw[<- h1];congr 1;omega
theorem EB{l:List Rw}{p v:Int}: Tel l.reverse p v↔Tel l p v:=⟨fun⟨r,h,q⟩=>⟨r,cJ.mp h,q⟩,fun⟨r,h,q⟩=>⟨r,cJ.mpr h,q⟩⟩
theorem PX{rows:List Rw}(o:Ord rows):MapF (knitF rows):=(wS rows [] KI.nil o (fun _ h=>nomatch h)).1.map
theorem PU{rows:List Rw}(o:Ord rows)(p v:Int):Tel (knitF rows) p v↔Tel rows p v:=by
 unfold knitF;rw[EB,(wS rows [] KI.nil o (fun _ h=>nomatch h)).2];exact⟨fun h=>h.elim (fun⟨r,hr,_⟩=>nomatch hr) id,.inr⟩
noncomputable def valL(rows:List Rw)(p:Int):Option Int:=rows.foldl (fun t r=>if has3 r p=true then r.2.2 else t) none
theorem xE{a b:Rw}{p:Int}(h:ahead a b)(h1:has3 a p=true)(h2:has3 b p=true):False:=by
 obtain⟨x,y,hx,hy,hxy⟩:=h;rw[wE] at h1 h2;have:=h1.2 x hx;have:=h2.1 y hy;omega
theorem NM{rows:List Rw}{p:Int}(h:∀r∈rows,has3 r p=false)(t:Option Int):rows.foldl (fun t r=>if has3 r p=true then r.2.2 else t) t=t:=by
 induction rows generalizing t with
 |nil=>rfl
 | cons r rows ih =>
   rw[nL,h r bD];exact ih (fun z hz=>h z (aQ _ hz)) _
theorem xF{rows:List Rw}(o:Ord rows)(p v:Int):valL rows p=some v↔Tel rows p v:=by
 have key:∀(rows:List Rw),Ord rows->∀t:Option Int,rows.foldl (fun t r=>if has3 r p=true then r.2.2 else t) t=(match rows.find? (fun r=>has3 r p) with | some r=>r.2.2 | none=>t):=by
  intro rows
  induction rows with
  |nil=>intro _ t;rfl
  | cons r rows ih =>
    intro o t;have pw:=bP.mp o.pw;rw[nL];cases h:has3 r p with
    | true =>
      rw[List.find?_cons_of_pos (by exact h)];simp only[if_true]
      exact NM (fun z hz=>by
       cases hz':has3 z p with
       |false=>rfl
       |true=>exact(xE (pw.1 z hz) h hz').elim) _
    | false =>
      rw[DV (by simpa using h)];simp only[bJ,if_false];exact ih ⟨fun z hz=>o.ok z (aQ _ hz),pw.2⟩ t
 unfold valL;rw[key rows o none];constructor
 . intro h;cases hf:rows.find? (fun r=>has3 r p) with
   |none=>rw[hf] at h;cases h
   | some r =>
     rw[hf] at h;exact⟨r,hV hf,by simpa using nM hf,h⟩
 . rintro ⟨r, hr, h1, h2⟩;cases hf:rows.find? (fun r=>has3 r p) with
   | none =>
     have:=NG.mp hf r hr;exact(this h1).elim
   | some r' =>
     have h3:has3 r' p=true:=by simpa using nM hf
     have hm:=hV hf
     have:r'=r:=by
      by_cases e:r'=r
      . exact e
      . exfalso;have pw:=o.pw;rcases lB.mp hr with ⟨i,hi,rfl⟩
        rcases lB.mp hm with⟨j,hj,rfl⟩
        rcases rN i j with hlt | hlt | hlt
        . exact xE (cO.mp pw i j hi hj hlt) h1 h3
        . subst hlt;exact e rfl
        . exact xE (cO.mp pw j i hj hi hlt) h3 h1
     rw[this];exact h2
open Builtin.Int (intBits)
structure NH(rows:List Rw)(s:Int):Prop where
 ord:Ord rows
 fin:∀r∈rows,∃lo bh,r.1=some lo/\r.2.1=some bh/\bh<=s
theorem ints_at(ns:List Int){k:Int}(h0:0<=k)(h1:k<ns.length):ixD (.lst (ns.map D.int)) (.int k)=some (.int (cel ns k.toNat)):=by
 have h3:k.toNat<ns.length:=by omega
 rw[yB _ h0 (by simpa using h1)];simp[h3,cel,List.getD]
@[simp] theorem methR_ins(n:Nat)(cs:List Nat)(F:Nat->List D->Option Ret)(t:Nat)(es l:List D):methR n cs F (.ins t es) l=if t∈cs/\l.length=n then F t (.ins t es::l) else none:=rfl
end FL
namespace FL
open PySem PyProof.Rows L2 Builtin.Str
noncomputable def txS(cs:List Nat):Str:=⟨cs.toArray⟩
@[simp] theorem FN(cs:List Nat):(txS cs).cps.toList=cs:=rfl
@[simp] theorem MD(cs:List Nat):(txS cs).length=cs.length:=by simp[txS,Str.length]
theorem ZH{a b:List Nat}: txS a=txS b↔a=b:=⟨fun h=>by have:=congrArg (fun x:Str=>x.cps.toList) h;simpa using this,fun h=>by rw[h]⟩
@[simp] theorem KH(a b:List Nat):txS a++txS b=txS (a++b):=Str.ext' (by rw[Str.cps_append];simp[txS])
theorem in_one(cs:List Nat)(c:Nat):inS (.str (txS [c])) (.str (txS cs))=some (.bl (decide (c∈cs))):=by
 have e3:txS [c]=(⟨#[c]⟩:Str):=rfl;have e:=StrLaws.found_one (txS cs) c;rw[FN] at e;rw[e3];show some (D.bl _)=_;rw[e]
theorem len_tx(cs:List Nat)(h:cs.length<=16777216):lenD [.str (txS cs)]=some (.int cs.length):=by
 simp[lenD,h]
theorem add_tx(a b:List Nat)(h:a.length+b.length<=16777216):yN (.str (txS a)) (.str (txS b))=some (.str (txS (a++b))):=by
 simp[yN,h]
def Asc(cs:List Nat):Prop:=∀c∈cs,c<1000
theorem ZO{cs:List Nat}(h:Asc cs)(n:Nat):shal n (.str (txS cs))=true:=by
 have:PyData.strOk (txS cs)=true:=by
  unfold PyData.strOk;rw[<- Array.all_toList,FN,mZ];intro c hc;have:=h c hc;simp;omega
 simp[shal,this]
end FL
namespace FL
open PySem PySem.Spec PyProof.Rows L2
open Builtin.Int (intBits)
end FL
namespace FL
open PySem PySem.Spec PyProof.Rows L2
theorem yJ{α : Type}{ga:D->List Sl->Option (List Sl)}{fe:FE}{s0:List Sl}(f h : α->D):∀(xs:List α),(∀x∈xs,∃ds1,ga (f x) s0=some ds1/\fe ds1=some (h x))->compL ga (fun _=>some true) fe s0 (xs.map f)=some (xs.map h)
 |[],_=>rfl
 | x :: xs, H => by
   obtain⟨ds1,e1,e2⟩:=H x bD;have ih:=yJ (ga:=ga) (fe:=fe) (s0:=s0) f h xs fun y hy=>H y (aQ _ hy);simp only[bA,compL,e1,e2,ih,bG,if_true,cQ]
theorem NN{rows:List Rw}(o:Ord rows)(p:Int):valL rows p=(match rows.find? (fun r=>has3 r p) with | some r=>r.2.2 | none=>none):=by
 cases hf:rows.find? (fun r=>has3 r p) with
 | none =>
   cases hv:valL rows p with
   |none=>rfl
   | some v =>
     obtain⟨r,hr,h1,_⟩:=(xF o p v).mp hv;exact(NG.mp hf r hr h1).elim
 | some r =>
   have hm:=hV hf;have h3:has3 r p=true:=by simpa using nM hf
   cases hw:r.2.2 with
   |some v=>exact((xF o p v).mpr ⟨r,hm,h3,hw⟩).trans hw.symm
   | none =>
     cases hv:valL rows p with
     |none=>exact hw.symm
     | some v =>
       obtain⟨r',hr',h1,h2⟩:=(xF o p v).mp hv
       have:r'=r:=by
        by_cases e:r'=r
        . exact e
        . exfalso;rcases lB.mp hr' with ⟨i,hi,rfl⟩
          rcases lB.mp hm with⟨j,hj,rfl⟩
          rcases rN i j with hlt | hlt | hlt
          . exact xE (cO.mp o.pw i j hi hj hlt) h1 h3
          . subst hlt;exact e rfl
          . exact xE (cO.mp o.pw j i hj hi hlt) h3 h1
       rw[this,hw] at h2;cases h2
theorem BX(ps:List Rw)(p:Int):fD [.lst (ps.map rwD),.int p]=some (.val (oi (match ps.find? (fun r=>has3 r p) with | some r=>r.2.2 | none=>none))):=by
 have lp:∀(R:Sl) (ps:List Rw) (a b c:Sl),∃a' b' c',jI (tupG 3 (qM (zP 2) (qM (zP 3) (qM (zP 4) tgNil)))) fI (ps.map rwD) [R,.v (.int p),a,b,c] =
   (match ps.find? (fun r=>has3 r p) with | some r=>some (.rt (.val (oi r.2.2))) | none=>some (.nx [R,.v (.int p),a',b',c'])):=by
  intro R ps
  induction ps with
  |nil=>exact fun a b c=>⟨a,b,c,rfl⟩
  | cons r ps ih =>
    intro a b c;obtain⟨a',b',c',e⟩:=ih (.v (oi r.1)) (.v (oi r.2.1)) (.v (oi r.2.2));refine⟨a',b',c',?_⟩;have hh:mM [.tup [oi r.1,oi r.2.1],.int p]=some (.val (.bl (has3 r p))):=has_eq (r.1,r.2.1) p;cases h:has3 r p with
    | true =>
      rw[h] at hh;have turn:fI [R,.v (.int p),.v (oi r.1),.v (oi r.2.1),.v (oi r.2.2)]=some (.rt (.val (oi r.2.2))):=by simp[fI,hh]
      simp[jI,turn,h]
    | false =>
      rw[h] at hh;have turn:fI [R,.v (.int p),.v (oi r.1),.v (oi r.2.1),.v (oi r.2.2)]=some (.nx [R,.v (.int p),.v (oi r.1),.v (oi r.2.1),.v (oi r.2.2)]):=by simp[fI,hh]
      simp[jI,turn,h,e]
 obtain⟨a,b,c,e⟩:=lp (.v (.lst (ps.map rwD))) ps .no .no .no;unfold fD runG mJ;cases hf:ps.find? (fun r=>has3 r p) with
 |none=>rw[hf] at e;simp[args,e]
 |some r=>rw[hf] at e;simp[args,e]
theorem DY{ps:List Rw}(o:Ord ps)(p:Int):fD [.lst (ps.map rwD),.int p]=some (.val (oi (valL ps p))):=by rw[BX,NN o]
noncomputable def part1(s:Spn)(r:Rw):Option Rw:=(meetS (r.1,r.2.1) s).map fun u=>(u.1,u.2,r.2.2)
noncomputable def zO(ps:List Rw)(s:Spn):List Rw:=ps.filterMap (part1 s)
theorem xO(R:Sl)(s:Spn):∀(ps acc:List Rw) (a b c d:Sl),acc.length+ps.length<16777216->∃a' b' c' d',jI (tupG 3 (qM (zP 3) (qM (zP 4) (qM (zP 5) tgNil)))) fK (ps.map rwD) [R,.v (spD s),.own (acc.map rwD),a,b,c,d]=some (.nx [R,.v (spD s),.own ((acc++zO ps s).map rwD),a',b',c',d'])
 |[],acc,a,b,c,d,_=>⟨a,b,c,d,by simp[zO,jI]⟩
 | r :: ps, acc, a, b, c, d, h => by
   simp only[aO] at h;have me:lJ [.tup [oi r.1,oi r.2.1],spD s]=some (.val (oS (meetS (r.1,r.2.1) s))):=meet_eq (r.1,r.2.1) s;cases hm:meetS (r.1,r.2.1) s with
   | none =>
     rw[hm] at me;obtain⟨a',b',c',d',ih⟩:=xO R s ps acc (.v (oi r.1)) (.v (oi r.2.1)) (.v (oi r.2.2)) (.v .non) (by omega);refine⟨a',b',c',d',?_⟩;have turn:fK [R,.v (spD s),.own (acc.map rwD),.v (oi r.1),.v (oi r.2.1),.v (oi r.2.2),d]=some (.nx [R,.v (spD s),.own (acc.map rwD),.v (oi r.1),.v (oi r.2.1),.v (oi r.2.2),.v .non]):=by simp[fK,me,oS]
     have e:zO (r::ps) s=zO ps s:=by simp[zO,part1,hm]
     rw[e];simp[jI,turn,ih]
   | some u =>
     rw[hm] at me;obtain⟨a',b',c',d',ih⟩:=xO R s ps (acc++[(u.1,u.2,r.2.2)]) (.v (oi r.1)) (.v (oi r.2.1)) (.v (oi r.2.2)) (.v (spD u)) (by simp;omega);refine⟨a',b',c',d',?_⟩;have z:acc.length<16777216:=by omega
     have e0:D.tup [oi u.1,oi u.2,oi r.2.2]=rwD (u.1,u.2,r.2.2):=rfl;have turn:fK [R,.v (spD s),.own (acc.map rwD),.v (oi r.1),.v (oi r.2.1),.v (oi r.2.2),d]=some (.nx [R,.v (spD s),.own (acc.map rwD++[rwD (u.1,u.2,r.2.2)]),.v (oi r.1),.v (oi r.2.1),.v (oi r.2.2),.v (spD u)]):=by simp[fK,me,oS,z,e0]
     have e:zO (r::ps) s=(u.1,u.2,r.2.2)::zO ps s:=by simp[zO,part1,hm]
     rw[e];simp only[dD,bA,dC,bR,eS,fZ] at ih ⊢;simp[jI,turn,ih]
theorem jX(ps:List Rw)(s:Spn):(zO ps s).length<=ps.length:=List.length_filterMap_le _ _
theorem FF(ps:List Rw)(s:Spn)(h:ps.length<16777216):eP [.lst (ps.map rwD),spD s]=some (.fresh ((zO ps s).map rwD)):=by
 obtain⟨a,b,c,d,e⟩:=xO (.v (.lst (ps.map rwD))) s ps [] .no .no .no .no (by simpa using h);simp only[dC,fZ] at e;unfold eP runG mK;simp[args,e,yR]
theorem qJ{s:Spn}{r r':Rw}(h:part1 s r=some r'):ok3 r'/\r'.2.2=r.2.2/\(∀p,has3 r' p=(has3 r p&&hasS s p))/\(∀x,r.2.1=some x->∃x',r'.2.1=some x'/\x'<=x)/\(∀y,r.1=some y->∃y',r'.1=some y'/\y<=y')/\(∀x,s.2=some x->∃x',r'.2.1=some x'/\x'<=x)/\(∀y,s.1=some y->∃y',r'.1=some y'/\y<=y'):=by
 unfold part1 at h;cases hm:meetS (r.1,r.2.1) s with
 |none=>rw[hm] at h;cases h
 | some u =>
   rw[hm] at h;cases h;have hp:=fun p=>BK (r.1,r.2.1) s p;rw[hm] at hp;refine⟨WA hm,rfl,fun p=>hp p,?_,?_,?_,?_⟩
   all_goals (unfold meetS at hm;split at hm;(· cases hm);cases hm)
   . intro x hx;show ∃ x',xK r.2.1 s.2=some x'/\x'<=x;rw [hx];cases s.2 <;> simp [xK]
     omega
   . intro y hy;show ∃ y',lateL r.1 s.1=some y'/\y<=y';rw [hy];cases s.1 <;> simp [lateL]
     omega
   . intro x hx;show ∃ x',xK r.2.1 s.2=some x'/\x'<=x;rw [hx];cases r.2.1 <;> simp [xK]
     omega
   . intro y hy;show ∃ y',lateL r.1 s.1=some y'/\y<=y';rw [hy];cases r.1 <;> simp [lateL]
     omega
theorem IL{s:Spn}{r:Rw}(h:part1 s r=none)(p:Int):(has3 r p&&hasS s p)=false:=by
 unfold part1 at h;have hp:=BK (r.1,r.2.1) s p;cases hm:meetS (r.1,r.2.1) s with
 |none=>rw[hm] at hp;exact hp.symm
 |some u=>rw[hm] at h;cases h
theorem mQ{ps:List Rw}{s:Spn}{r':Rw}: r'∈zO ps s↔∃r∈ps,part1 s r=some r':=pP
theorem AX{ps:List Rw}(o:Ord ps)(s:Spn):Ord (zO ps s):=by
 refine⟨fun r' h=>?_,?_⟩
 . obtain⟨r, _, h⟩ := mQ.mp h;exact(qJ h).1
 . unfold zO;rw[List.pairwise_filterMap];refine o.pw.imp fun {a b} hab a' ha b' hb=>?_;obtain⟨x,y,hx,hy,hxy⟩:=hab;obtain⟨x',e1,h1⟩:=(qJ ha).2.2.2.1 x hx;obtain⟨y',e2,h2⟩:=(qJ hb).2.2.2.2.1 y hy;exact⟨x',y',e1,e2,by omega⟩
theorem AW{ps:List Rw}{s:Spn}{p v:Int}: Tel (zO ps s) p v↔hasS s p=true/\Tel ps p v:=by
 constructor
 . rintro⟨r', h, h1, h2⟩;obtain⟨r,hr,h⟩:=mQ.mp h;obtain⟨_,e,hh,_⟩:=qJ h;rw[hh p,cG] at h1;exact⟨h1.2,r,hr,h1.1,e▸h2⟩
 . rintro ⟨hs, r, hr, h1, h2⟩;cases h:part1 s r with
   | none =>
     have:=IL h p;rw[h1,hs] at this;cases this
   | some r' =>
     obtain⟨_,e,hh,_⟩:=qJ h;exact⟨r',mQ.mpr ⟨r,hr,h⟩,by rw[hh p,h1,hs];rfl,e.trans h2⟩
noncomputable def loP(ps:List Rw):Option Int->List Rw
 |none=>[]
 |some a=>zO ps (none,some a)
noncomputable def hiP(ps:List Rw):Option Int->List Rw
 |none=>[]
 |some b=>zO ps (some b,none)
noncomputable def overF(ps:List Rw)(s:Spn)(v:Option Int):List Rw:=loP ps s.1++(s.1,s.2,v)::hiP ps s.2
theorem OM{ps:List Rw}(o:Ord ps){a b:Int}(h:a<b):(zO ps (none,some a)).length+(zO ps (some b,none)).length<=ps.length+1:=by
 induction ps with
 |nil=>simp[zO]
 | cons r t ih =>
   have pw:=bP.mp o.pw;have ot:Ord t:=⟨fun z hz=>o.ok z (aQ _ hz),pw.2⟩
   have ih:=ih ot;cases h1:part1 (none,some a) r with
   | none =>
     have e1:zO (r::t) (none,some a)=zO t (none,some a):=by simp[zO,h1]
     rw[e1]
     have:(zO (r::t) (some b,none)).length<=(zO t (some b,none)).length+1:=by
      unfold zO;rw[iB]
      split<;>simp
     simp only[aO];omega
   | some r1 =>
     have e1:zO (r::t) (none,some a)=r1::zO t (none,some a):=by simp[zO,h1]
     rw[e1];cases h2:part1 (some b,none) r with
     | none =>
       have e2:zO (r::t) (some b,none)=zO t (some b,none):=by simp[zO,h2]
       rw[e2];simp only[aO];omega
     | some r2 =>
       have e2:zO (r::t) (some b,none)=r2::zO t (some b,none):=by simp[zO,h2]
       have e3:zO t (none,some a)=[]:=by
        unfold zO;rw[List.filterMap_eq_nil_iff];intro z hz;cases hz':part1 (none,some a) z with
        |none=>rfl
        | some z' =>
          exfalso;obtain⟨x,y,hx,hy,hxy⟩:=pw.1 z hz;have k2:=qJ h2;have kz:=qJ hz';obtain⟨x2,ex2,hx2⟩:=k2.2.2.2.1 x hx;obtain⟨y2,ey2,hy2⟩:=k2.2.2.2.2.2.2 b rfl;have:=k2.1 y2 x2 ey2 ex2;obtain⟨y3,ey3,hy3⟩:=kz.2.2.2.2.1 y hy;obtain⟨x3,ex3,hx3⟩:=kz.2.2.2.2.2.1 a rfl;have:=kz.1 y3 x3 ey3 ex3;omega
       rw[e2,e3];have:=jX t (some b,none);simp only[aO,sX];omega
theorem FH{ps:List Rw}(o:Ord ps)(s:Spn)(hs:okS s)(v:Option Int):(overF ps s v).length<=ps.length+2:=by
 obtain⟨lo,bh⟩:=s;unfold overF loP hiP;cases lo with
 | none =>
   cases bh with
   |none=>simp
   | some b =>
     have:=jX ps (some b,none);simp;omega
 | some a =>
   cases bh with
   | none =>
     have:=jX ps (none,some a);simp;omega
   | some b =>
     have:=OM o (hs a b rfl rfl);simp;omega
theorem FG{ps:List Rw}(o:Ord ps)(s:Spn)(hs:okS s)(v:Option Int):Ord (overF ps s v):=by
 obtain⟨lo,bh⟩:=s;unfold overF
 have l1:∀r∈(loP ps lo),ok3 r/\∃a x,lo=some a/\r.2.1=some x/\x<=a:=by
  cases lo with
  |none=>intro r h;cases h
  | some a =>
    intro r h;obtain⟨q,_,h⟩:=mQ.mp h;obtain⟨x,e,hx⟩:=(qJ h).2.2.2.2.2.1 a rfl;exact⟨(qJ h).1,a,x,rfl,e,hx⟩
 have l2:∀r∈(hiP ps bh),ok3 r/\∃b y,bh=some b/\r.1=some y/\b<=y:=by
  cases bh with
  |none=>intro r h;cases h
  | some b =>
    intro r h;obtain⟨q,_,h⟩:=mQ.mp h;obtain⟨y,e,hy⟩:=(qJ h).2.2.2.2.2.2 b rfl;exact⟨(qJ h).1,b,y,rfl,e,hy⟩
 have o1:Ord (loP ps lo):=by
  cases lo with
  |none=>exact⟨(fun _ h=>nomatch h),List.Pairwise.nil⟩
  |some a=>exact AX o _
 have o2:Ord (hiP ps bh):=by
  cases bh with
  |none=>exact⟨(fun _ h=>nomatch h),List.Pairwise.nil⟩
  |some b=>exact AX o _
 refine⟨fun r h=>?_,?_⟩
 . rcases bM.mp h with h | h
   . exact(l1 r h).1
   . rcases aF.mp h with rfl | h
     . exact hs
     . exact(l2 r h).1
 . refine oA.mpr ⟨o1.pw, bP.mpr ⟨fun r h => ?_, o2.pw⟩, fun a ha b hb => ?_⟩
   . obtain⟨_, b, y, e, e2, hy⟩ := l2 r h;exact⟨b,y,e,e2,hy⟩
   . obtain ⟨_, x, x', e, e2, hx⟩ := l1 a ha;rcases aF.mp hb with rfl | hb
     . exact⟨x',x,e2,e,hx⟩
     . obtain⟨_, y, y', e3, e4, hy⟩ := l2 b hb;have:=hs x y e e3;exact⟨x',y',e2,e4,by omega⟩
theorem VC{ps:List Rw}(s:Spn)(hs:okS s)(v:Option Int)(p w:Int):Tel (overF ps s v) p w↔if hasS s p=true then v=some w else Tel ps p w:=by
 obtain⟨lo,bh⟩:=s
 have h1:Tel (loP ps lo) p w↔(∃a,lo=some a/\p<a)/\Tel ps p w:=by
  cases lo with
  |none=>exact⟨(fun⟨r,h,_⟩=>nomatch h),(fun⟨⟨a,e,_⟩,_⟩=>by cases e)⟩
  | some a =>
    show Tel (zO ps (none,some a)) p w↔_;rw[AW];simp[hasS]
 have h2:Tel (hiP ps bh) p w↔(∃b,bh=some b/\b<=p)/\Tel ps p w:=by
  cases bh with
  |none=>exact⟨(fun⟨r,h,_⟩=>nomatch h),(fun⟨⟨a,e,_⟩,_⟩=>by cases e)⟩
  | some b =>
    show Tel (zO ps (some b,none)) p w↔_;rw[AW];simp[hasS]
 have h3:Tel (overF ps (lo,bh) v) p w↔Tel (loP ps lo) p w\/(hasS (lo,bh) p=true/\v=some w)\/Tel (hiP ps bh) p w:=by
  unfold overF;constructor
  . rintro ⟨r, h, e1, e2⟩;rcases bM.mp h with h | h
    . exact .inl ⟨r,h,e1,e2⟩
    . rcases aF.mp h with rfl | h
      . exact .inr (.inl ⟨e1,e2⟩)
      . exact .inr (.inr ⟨r,h,e1,e2⟩)
  . rintro (⟨r, h, e1, e2⟩ | ⟨e1, e2⟩ | ⟨r, h, e1, e2⟩)
    . exact⟨r,bE _ h,e1,e2⟩
    . exact⟨_,aI _ bD,e1,e2⟩
    . exact⟨r,aI _ (aQ _ h),e1,e2⟩
 rw[h3,h1,h2]
 by_cases hp:hasS (lo,bh) p=true
 . rw [if_pos hp];have hq:=(yP _ _).mp hp;constructor
   . rintro (⟨⟨a, e, hlt⟩, _⟩ | ⟨_, e⟩ | ⟨⟨b, e, hle⟩, _⟩)
     . have:=hq.1 a e;omega
     . exact e
     . have:=hq.2 b e;omega
   . exact fun e=>.inr (.inl ⟨hp,e⟩)
 . rw [if_neg hp];constructor
   . rintro (⟨_, h⟩ | ⟨e, _⟩ | ⟨_, h⟩)
     . exact h
     . exact(hp e).elim
     . exact h
   . intro h
     by_cases hl:∃a,lo=some a/\p<a
     . exact .inl ⟨hl,h⟩
     . by_cases hb : ∃ b, bh = some b /\ b <= p
       . exact .inr (.inr ⟨hb,h⟩)
       . exfalso;apply hp;rw [yP];refine ⟨fun a e=>?_,fun b e=>?_⟩
         . exact nN.mp fun z=>hl ⟨a,e,z⟩
         . exact Int.not_le.mp fun z=>hb ⟨b,e,z⟩
theorem over_eq{ps:List Rw}(s:Spn)(v:Option Int)(h:ps.length<=1000000):fJ [.lst (ps.map rwD),spD s,oi v]=some (.fresh ((overF ps s v).map rwD)):=by
 obtain⟨lo,bh⟩:=s;have p1:∀a:Int,eP [.lst (ps.map rwD),.tup [.non,.int a]]=some (.fresh ((zO ps (none,some a)).map rwD)):=fun a=>FF ps (none,some a) (by omega);have p2:∀a:Int,eP [.lst (ps.map rwD),.tup [.int a,.non]]=some (.fresh ((zO ps (some a,none)).map rwD)):=fun a=>FF ps (some a,none) (by omega);have e0:D.tup [oi lo,oi bh,oi v]=rwD (lo,bh,v):=rfl;have fl:=yR (overF ps (lo,bh) v);unfold overF loP hiP at fl ⊢;unfold fJ runG lP;cases lo with
 | none =>
   cases bh with
   |none=>simp at fl e0;simp[args,e0]
   | some b =>
     have z:=jX ps (some b,none);have z1:1+(zO ps (some b,none)).length<=16777216:=by omega
     simp at fl e0;simp[args,p2,e0,z1,fl]
 | some a =>
   have z:=jX ps (none,some a);have z0:(zO ps (none,some a)).length<=16777216:=by omega
   have z1:(zO ps (none,some a)).length<16777216:=by omega
   cases bh with
   | none =>
     simp at fl e0;simp[args,p1,e0,z0,z1,fl]
   | some b =>
     have z':=jX ps (some b,none);have z2:(zO ps (none,some a)).length+1+(zO ps (some b,none)).length<=16777216:=by omega
     simp at fl e0;simp[args,p1,p2,e0,z0,z1,z2,fl]
abbrev Rv:=Spn×Option Int
noncomputable def put1(ps:List Rw)(r:Rv):List Rw:=knitF (overF ps r.1 r.2)
theorem ET{ps:List Rw}(m:MapF ps){r:Rv}(h:okS r.1):MapF (put1 ps r):=PX (FG m.ord r.1 h r.2)
theorem UH{ps:List Rw}(m:MapF ps){r:Rv}(h:okS r.1):(put1 ps r).length<=ps.length+2:=cT (PY _) (FH m.ord r.1 h r.2)
theorem UG{ps:List Rw}(m:MapF ps){r:Rv}(h:okS r.1)(p w:Int):Tel (put1 ps r) p w↔if hasS r.1 p=true then r.2=some w else Tel ps p w:=by
 unfold put1;rw[PU (FG m.ord r.1 h r.2),VC r.1 h r.2]
theorem put1_eq{ps:List Rw}(m:MapF ps)(hl:ps.length<=100000){s:Spn}{v:Option Int}(h:okS s):(fJ [.lst (ps.map rwD),spD s,oi v]=some (.fresh ((overF ps s v).map rwD)))/\lK [.lst ((overF ps s v).map rwD)]=some (.fresh ((put1 ps (s,v)).map rwD)):=
 ⟨over_eq s v (by omega),knit_eq _ (by have:=FH m.ord s h v;omega)⟩
theorem MapF.nil:MapF []:=⟨⟨(fun _ h=>nomatch h),List.Pairwise.nil⟩,(fun _ h=>nomatch h),(fun i a b h _=>by simp at h)⟩
theorem xR{α : Type}{ga:D->List Sl->Option (List Sl)}{tt:FT}{fe:FE}{s0:List Sl}(f : α->D)(p : α->Bool)(h : α->D):∀(xs:List α),(∀x∈xs,∃ds1,ga (f x) s0=some ds1/\tt ds1=some (p x)/\(p x=true->fe ds1=some (h x)))->compL ga tt fe s0 (xs.map f)=some ((xs.filter p).map h)
 |[],_=>rfl
 | x :: xs, H => by
   obtain⟨ds1,e1,e2,e3⟩:=H x bD;have ih:=xR (ga:=ga) (tt:=tt) (fe:=fe) (s0:=s0) f p h xs fun y hy=>H y (aQ _ hy);cases hp:p x with
   |true=>simp[compL,e1,e2,e3 hp,ih,hp]
   |false=>simp[compL,e1,e2,ih,hp]
theorem later{r z:Rw}{t:List Rw}(o:Ord (r::t))(hz:z∈t){p:Int}(hp:has3 z p=true):∃x y,r.2.1=some x/\z.1=some y/\x<=y/\y<=p:=by
 obtain⟨x,y,h1,h2,h3⟩:=(bP.mp o.pw).1 z hz;refine⟨x,y,h1,h2,h3,?_⟩;unfold has3 hasS at hp;simp only[h2,cG,decide_eq_true_eq] at hp;exact hp.1
theorem put_eq{ps:List Rw}(m:MapF ps)(hl:ps.length<=100000){s:Spn}{v:Option Int}(h:okS s):iP [.lst (ps.map rwD),spD s,oi v]=some (.fresh ((put1 ps (s,v)).map rwD)):=by
 obtain⟨e1,e2⟩:=put1_eq m hl (v:=v) h;have fl:=yR (put1 ps (s,v));unfold iP runG sT;generalize (overF ps s v).map rwD=A at *;generalize (put1 ps (s,v)).map rwD=B at *;simp[args,e1,e2,fl]
open Builtin.Int (intBits)
structure DrawM(rows:List Rw)(s:Int):Prop where
 map:MapF rows
 fin:∀r∈rows,∃lo bh,r.1=some lo/\r.2.1=some bh/\bh<=s
 last:∀r,rows.getLast?=some r->r.2.1=some s
theorem DrawM.nil(s:Int):DrawM [] s:=⟨MapF.nil,(fun _ h=>nomatch h),fun r h=>by simp at h⟩
theorem xL{ga:D->List Sl->Option (List Sl)}{body:FS}(P:Nat->List Sl->Prop)(N:Nat)(H:∀k,k<N->∀ds,P k ds->∃ds1 ds2,ga (.int (k:Int)) ds=some ds1/\body ds1=some (.nx ds2)/\P (k+1) ds2) :
  ∀n k ds,k+n=N->P k ds->∃ds',jI ga body ((List.range' k n).map fun(j:Nat)=>D.int (0+(j:Int))) ds=some (.nx ds')/\P N ds'
 | 0, k, ds, h, hp => ⟨ds, rfl, by have : k = N := by omega
                                   subst this;exact hp⟩
 | n + 1, k, ds, h, hp => by
   obtain⟨ds1,ds2,e1,e2,h2⟩:=H k (by omega) ds hp;obtain⟨ds',e,h'⟩:=xL P N H n (k+1) ds2 (by omega) h2;refine⟨ds',?_,h'⟩;rw[List.range'_succ,bA,jI];have:(0+(k:Int))=(k:Int):=by omega
   rw[this,e1,bG,e2,bG];exact e
theorem pA(n:Nat):lC 0 n=(List.range' 0 n).map fun(j:Nat)=>D.int (0+(j:Int)):=by rw[lC,List.range_eq_range']
@[simp] theorem notD_rw(r:Rw):notD (rwD r) .non=some (.bl true):=rfl
end FL
namespace FL
open PySem PySem.Spec PyProof.Rows L2
end FL
namespace FL
open PySem PyProof.Rows L2 NumText
theorem kitS:kitF "str" "str" = some true/\kitF "int" "str" = some false/\kitF "NoneType" "str" = some false/\kitF "tuple" "str" = some false/\kitF "list" "str" = some false/\kitF "str" "tuple" = some false/\kitF "str" "bool" = some false:=by
 refine⟨?_,?_,?_,?_,?_,?_,?_⟩<;>decide +kernel
@[simp] theorem isi_str_str(x:Str):isiD "str" (.str x)=some (.bl true):=by simp[isiD,tyD,kitS.1]
theorem ZI:Str.ofString "" = txS []:=by decide
end FL
namespace FL
open PySem PySem.Spec PyProof.Rows L2
def Ltr(cs:List Nat):Prop:=∀c∈cs,97<=c/\c<=122
def Nm(cs:List Nat):Prop:=1<=cs.length/\cs.length<=8/\Ltr cs
noncomputable def abcL:List Nat:=[97,98,99,100,101,102,103,104,105,106,107,108,109,110,111,112,113,114,115,116,117,118,119,120,121,122]
theorem t_abc:Str.ofString "abcdefghijklmnopqrstuvwxyz" = txS abcL:=by decide
theorem mem_abc{c:Nat}(h:97<=c/\c<=122):c∈abcL:=by
 have:abcL=List.range' 97 26:=by decide
 rw[this,List.mem_range'_1];omega
theorem Ltr.asc{cs:List Nat}(h:Ltr cs):Asc cs:=fun c hc=>by have:=h c hc;omega
theorem Ltr.app{a b:List Nat}(h:Ltr a)(g:Ltr b):Ltr (a++b):=fun c hc=>(bM.mp hc).elim (h c) (g c)
theorem JC{cs:List Nat}(h:Nm cs):eM [.str (txS cs)]=some (.val (.bl true)):=by
 obtain⟨h1,h8,hL⟩:=h;have lf:=len_tx cs (by omega)
 have comp:compG (viaA (qF 0) asS) [none] (zP 0) (fun _=>some true) (zF inS (zI 0) (zA (.str (Str.ofString "abcdefghijklmnopqrstuvwxyz")))) [.v (.str (txS cs))]=some (cs.map fun _=>D.bl true):=by
  rw[t_abc];refine yM (items:=cs.map fun c=>D.str (txS [c])) (by simp;rfl) (by simp;omega) ?_;rw[yJ (fun c=>D.str (txS [c])) (fun c=>D.bl true) cs];intro c hc;have:=in_one abcL c;rw[decide_eq_true (mem_abc (hL c hc))] at this;exact⟨_,rfl,by simp[qU,this]⟩
 have al:allD [.lst (cs.map fun _=>D.bl true)]=some (.bl true):=by
  have e:(cs.map fun _=>D.bl true)=(cs.map fun _=>true).map D.bl:=by simp
  rw[e,vP];simp
 refine kH ?_;unfold mW;have ar:args 1 [.str (txS cs)]=[.v (.str (txS cs))]:=by simp[args]
 have k1 : ¬((cs.length:Int)<1):=by omega
 have k2 : ¬((8:Int)<(cs.length:Int)):=by omega
 rw[ar,zT (ds':=[.v (.str (txS cs))]) (by simp),zT (ds':=[.v (.str (txS cs))]) (by simp[lf,k1,k2])];simp only[ZU,YB,XU,nilA_eq,mkL_eq,comp,cQ,bG,al,flatR];simp
end FL
section
open PySem PyProof.Rows L2 FL
end
namespace FL
open PySem PySem.Spec PyProof.Rows L2
open Builtin.Int (intBits)
theorem WU(c:Int):∃v,kN [.int c]=some (.val (.int v)):=by
 have p1:powD (.int 10) (.int 60)=some (.int (10 ^ 60)):=pow10 (by decide) (by decide);have p2:=pow1060;have m1:yS (.int 2) (.int ((10 ^ 60) ^ 8))=some (.int (2*(10 ^ 60) ^ 8)):=qP (.of_left (zU (by decide)));have r1:qY (.int c) (.int (2*(10 ^ 60) ^ 8+1))=some (.int (c%(2*(10 ^ 60) ^ 8+1))):=yZ c (by decide);unfold kN runG pC;refine⟨c%(2*(10 ^ 60) ^ 8+1)-(10 ^ 60) ^ 8,?_⟩;simp[-Int.reducePow,-Nat.reducePow,args,p1,p2,m1,r1]
theorem SR(a b:Int){r:Int}(h0:0<=r)(h1:r<=1):∃g:Int,(g=a\/g=b)/\ixD (.lst [.int a,.int b]) (.int r)=some (.int g):=by
 rcases(by omega:r=0\/r=1) with e | e<;>subst e
 . exact⟨a,.inl rfl,by simp⟩
 . exact⟨b,.inr rfl,by simp⟩
@[simp] theorem sltW_eq(f:FE)(lo hi:List Sl->Option (Option Int))(ds:List Sl):sltW f lo hi ds=(f ds).bind fun d=>(lo ds).bind fun a=>(hi ds).bind fun b=>match d with
 | .tup l=>some (.tup (cutD l a b))
 |_=>none:=rfl
theorem QV(ns:List Int)(hb:∀c∈ns,intBits c<=1048576)(a b:Nat):∃cs:List Int,cs.length<=ns.length/\cs.length<=b-a/\(∀c∈cs,intBits c<=1048576)/\cutD (ns.map D.int) (some (a:Int)) (some (b:Int))=cs.map D.int:=by
 refine⟨(ns.drop (min a ns.length)).take (min b ns.length-min a ns.length),by simp;omega,by simp;omega,fun c hc=>hb c (oE (oC hc)),?_⟩;have e1:HT.sIx (ns.map D.int).length 0 (some (a:Int))=min a ns.length:=by simp[HT.sIx];omega
 have e2:HT.sIx (ns.map D.int).length (ns.map D.int).length (some (b:Int))=min b ns.length:=by simp[HT.sIx];omega
 unfold cutD;rw[e1,e2,List.map_take,List.map_drop]
theorem opt_ext{a b:Option Int}(h:∀w,a=some w↔b=some w):a=b:=by
 cases a with
 | none =>
   cases b with
   |none=>rfl
   |some w=>exact((h w).mpr rfl)
 |some v=>exact((h v).mp rfl).symm
theorem UF{ps:List Rw}(m:MapF ps){r:Rv}(h:okS r.1)(p:Int):valL (put1 ps r) p=if hasS r.1 p=true then r.2 else valL ps p:=by
 refine opt_ext fun w=>?_;rw[xF (ET m h).ord,UG m h]
 split
 . exact Iff.rfl
 . rw[xF m.ord]
end FL
namespace FL
open PySem PyProof.Rows L2
open Builtin.Int (intBits)
noncomputable def ovA:FS:=(ifG (andT (zV (zF eqD (zF qY (zI 3) (zA (.int 4))) (zA (.int 0)))) (zV (zF neD (getN 2) (mkL (qR qA))))) (jS 5 (zF subD (zF yN (relVO 2 (zF ixD (zI 2) (zF qY (zF qO (zI 3) (zA (.int 4))) (callB lenD (zC (zI 2) qA))))) (zF qY (zF qO (zI 3) (zA (.int 1000003))) (zA (.int 3)))) (zA (.int 1)))) qL)
noncomputable def ovB:FS:=(ifG (zV (zF eqD (zF qY (zI 3) (zA (.int 4))) (zA (.int 1)))) (jS 5 (zF ixD (mkL (qR (zC (zF subD (zF qY (zI 0) (zF yN (zF yS (zA (.int 2)) (zF powD (zA (.int 10)) (zA (.int 60)))) (zA (.int 1)))) (zF powD (zA (.int 10)) (zA (.int 60)))) (zC (jE 1 kN (zC (zI 0) qA)) qA)))) (zF qY (zF qO (zI 3) (zA (.int 4))) (zA (.int 2))))) qL)
noncomputable def ovC:FS:=(jS 6 (zF yN (zF yN (zI 5) (zA (.int 1))) (zF ixD (mkL (qR (zC (zF qY (zF qO (zI 4) (zA (.int 4))) (zA (.int 3))) (zC (zF qY (zF qO (zI 4) (zA (.int 4))) (zA (.int 40))) (zC (zF qY (zF yS (zI 0) (zA (.int 69621))) (zF powD (zA (.int 10)) (zA (.int 60)))) (zC (zA (.int 0)) qA)))))) (zF qY (zI 4) (zA (.int 4))))))
noncomputable def ovD:FS:=(ifG (andT (zV (zF eqD (zF qY (zI 4) (zA (.int 4))) (zA (.int 3)))) (zV (zF neD (getN 2) (mkL (qR qA))))) (jS 6 (callB mxD (zC (zI 6) (zC (relVO 2 (zF ixD (zI 2) (zF qY (zF qO (zI 4) (zA (.int 4))) (callB lenD (zC (zI 2) qA))))) qA)))) qL)
noncomputable def overG(p1 p2 p3 q1 q2 q3:Int):FX:=(seqR (jS 3 (zF qY (zF yN (zF yN (zF yS (zI 0) (zA (.int p1))) (zF yS (zF yS (zI 1) (zI 1)) (zA (.int p2)))) (zA (.int p3))) (zA (.int 2147483647))))
 (seqR (jS 3 (zF qY (zF yS (zI 3) (zI 3)) (zA (.int 2147483563))))
 (seqR (jS 4 (zF qY (zF yN (zF yN (zF yS (zI 0) (zA (.int q1))) (zF yS (zF yS (zI 1) (zI 1)) (zA (.int q2)))) (zA (.int q3))) (zA (.int 2147483629))))
 (seqR (jS 4 (zF qY (zF yS (zI 4) (zI 3)) (zA (.int 2147483549))))
 (seqR (jS 5 (zF subD (zF qY (zF qO (zI 3) (zA (.int 4))) (zA (.int 61))) (zA (.int 30))))
 (seqR ovA
 (seqR ovB
 (seqR ovC
 (seqR ovD
 (seqR (appP (varP 2) (qF 5))
 (seqR (appP (varP 2) (qF 6))
 (seqR (ifG (zV (zF ltD (zF qY (zF qO (zI 4) (zA (.int 2003))) (zA (.int 12))) (zA (.int 2)))) (jS 5 (zA .non)) qL)
 (seqR (ifG (zV (zF (inD false) (zF qY (zF qO (zI 4) (zA (.int 2003))) (zA (.int 12))) (mkT (qR (zC (zA (.int 1)) (zC (zA (.int 2)) qA)))))) (jS 6 (zA .non)) qL)
 (vR (mkT (qR (zC (qF 5) (zC (qF 6) qA))))))))))))))))))
noncomputable def oT(es:List Int):OT:=.lst ((es.map D.int).map OT.val)
theorem LR(es:List Int):otD (oT es)=.lst (es.map D.int):=by unfold oT;rw[otD,yI]
theorem ref_oT(es:List Int):refO (oT es)=true:=rfl
theorem zW{g:FS}{f:FX}{ds ds':List Sl}(h:g ds=some (.nx ds')):seqR g f ds=f ds':=by unfold seqR;rw[h];rfl
theorem YH{es:List Int}{i:Nat}{r:Option Nat}{f:FE}{ds:List Sl}{x:Int}(h:ds[i]?=some (.ob r (oT es)))(hf:f ds=some (.int x))(hl:es.length<16777216):appP (varP i) f ds=some (.nx (ds.set i (.ob r (oT (es++[x]))))):=by
 have hl':es.length<sizeLine:=hl;unfold appP varP;rw[h];simp only[bG,hf];unfold oT at h ⊢;simp[hl,putP,h,putO]
theorem MS{es:List Int}(hne:0<es.length)(q:Int):∃e,qY (.int q) (.int (es.length:Int))=some (.int (q%(es.length:Int)))/\ixD (.lst (es.map D.int)) (.int (q%(es.length:Int)))=some (.int e):=by
 have i0:=gC q (show(es.length:Int)≠0 by omega);have i1:=mF q (show 0<(es.length:Int) by omega);exact⟨_,yZ _ (by omega),ints_at es i0 i1⟩
theorem in2(x p q:Int):inD false (.int x) (.tup [.int p,.int q])=some (.bl (decide (x=p\/x=q))):=by
 unfold inD;have e1:decide (p=x)=decide (x=p):=by simp[eq_comm]
 have e2:decide (q=x)=decide (x=q):=by simp[eq_comm]
 simp[sclD,e1,e2]
theorem WH{g:FX}{n p:Nat}{T T':OT}{l:List D}{d:D}{ds:List Sl}(h:g ((args n l).set p (.ob (some p) T))=some (d,ds))(h2:ds[p]?=some (.ob (some p) T')):lentR g n p T l=some (d,T'):=by
 unfold lentR;rw[h];simp[h2,obAt]
theorem IF{f:FE}{ds:List Sl}{i:Nat}{r:Option Nat}{es:List Int}{x:Int}(h:ds[i]?=some (.ob r (oT es)))(hf:f (ds.set i (.v (.lst (es.map D.int))))=some (.int x)):relVO i f ds=some (.int x):=by
 unfold relVO relO;rw[h];simp only[LR,hf,bG];rfl
theorem ix4_2(x y z u:D):ixD (.lst [x,y,z,u]) (.int 2)=some z:=by rw[yB _ (by decide) (by simp)];rfl
theorem ix4_3(x y z u:D):ixD (.lst [x,y,z,u]) (.int 3)=some u:=by rw[yB _ (by decide) (by simp)];rfl
theorem low_if(c k m:Int)(es:List Int)(hne:0<es.length)(hm:0<=m)(x1 x4 x6:Sl)(lo0:Int):∃lo:Int,∀f:FX,seqR ovA (seqR ovB f) [.v (.int c),x1,.ob (some 2) (oT es),.v (.int m),x4,.v (.int lo0),x6]=f [.v (.int c),x1,.ob (some 2) (oT es),.v (.int m),x4,.v (.int lo),x6]:=by
 have p1:powD (.int 10) (.int 60)=some (.int (10 ^ 60)):=pow10 (by decide) (by decide);have a5:yS (.int 2) (.int (10 ^ 60))=some (.int (2*10 ^ 60)):=qP (.of_left (zU (by decide)));have r3:∀x,qY (.int x) (.int (2*10 ^ 60+1))=some (.int (x%(2*10 ^ 60+1))):=fun x=>yZ x (by decide)
 have nen:neD (.lst (es.map D.int)) (.lst [])=some (.bl true):=by
  rw[MB (tD 39 es)];cases es<;>simp_all
 obtain⟨gr,hgr⟩:=WU c;unfold ovA ovB
 by_cases h1:m%4=1
 . obtain⟨g, _, hg⟩ := SR (c%(2*10 ^ 60 + 1)-10 ^ 60) gr (r := m/4%2) (by omega) (by omega);exact⟨g,fun f=>by rw[zW (by simp[h1];rfl),zW (by simp[-Int.reducePow,-Nat.reducePow,h1,p1,a5,r3,hgr,hg];rfl)]⟩
 . by_cases h0 : m % 4 = 0
   . obtain⟨e, e1, e2⟩ := MS (es := es) hne (m/4);refine⟨e+m/1000003%3-1,fun f=>?_⟩;have:=IF (f:=zF ixD (zI 2) (zF qY (zF qO (zI 3) (zA (.int 4))) (callB lenD (zC (zI 2) qA)))) (ds:=[.v (.int c),x1,.ob (some 2) (oT es),.v (.int m),x4,.v (.int lo0),x6]) (i:=2) rfl (x:=e) (by simp[e1,e2]);rw[zW (ds':=[.v (.int c),x1,.ob (some 2) (oT es),.v (.int m),x4,.v (.int (e+m/1000003%3-1)),x6]) (by simp[h0,LR,nen,this]),zW (by simp[h0];rfl)]
   . exact⟨lo0,fun f=>by rw[zW (by simp[h0];rfl),zW (by simp[h1];rfl)]⟩
theorem beh_if(c w lo:Int)(es:List Int)(hne:0<es.length)(hc:intBits c<=1048576)(x1 x3:Sl):∃bh:Int,lo<bh/\∀f:FX,seqR ovC (seqR ovD f) [.v (.int c),x1,.ob (some 2) (oT es),x3,.v (.int w),.v (.int lo),.no]=f [.v (.int c),x1,.ob (some 2) (oT es),x3,.v (.int w),.v (.int lo),.v (.int bh)]:=by
 have p1:powD (.int 10) (.int 60)=some (.int (10 ^ 60)):=pow10 (by decide) (by decide);have m1:eV c 69621:=dF hc (zU (m:=200) (by decide)) (by decide);have q1:(0:Int)<10 ^ 60:=by decide
 have nen:neD (.lst (es.map D.int)) (.lst [])=some (.bl true):=by
  rw[MB (tD 39 es)];cases es<;>simp_all
 have c3:0<=w/4%3:=by omega
 have c4:0<=w/4%40:=by omega
 have c5:=gC (c*69621) (show(10:Int) ^ 60≠0 by decide);unfold ovC ovD;rcases(by omega:w%4=0\/w%4=1\/w%4=2\/w%4=3) with h | h | h | h
 . exact⟨lo+1+w/4%3,by omega,fun f=>by rw[zW (ds':=[.v (.int c),x1,.ob (some 2) (oT es),x3,.v (.int w),.v (.int lo),.v (.int (lo+1+w/4%3))]) (by simp[-Int.reducePow,-Nat.reducePow,p1,qP m1,q1,h]),zW (by simp[h];rfl)]⟩
 . exact⟨lo+1+w/4%40,by omega,fun f=>by rw[zW (ds':=[.v (.int c),x1,.ob (some 2) (oT es),x3,.v (.int w),.v (.int lo),.v (.int (lo+1+w/4%40))]) (by simp[-Int.reducePow,-Nat.reducePow,p1,qP m1,q1,h]),zW (by simp[h];rfl)]⟩
 . exact⟨lo+1+c*69621%10 ^ 60,by omega,fun f=>by rw[zW (ds':=[.v (.int c),x1,.ob (some 2) (oT es),x3,.v (.int w),.v (.int lo),.v (.int (lo+1+c*69621%10 ^ 60))]) (by simp[-Int.reducePow,-Nat.reducePow,p1,qP m1,q1,h,ix4_2]),zW (by simp[-Int.reducePow,-Nat.reducePow,h];rfl)]⟩
 . obtain⟨e, e1, e2⟩ := MS (es := es) hne (w/4);refine⟨max (lo+1) e,by omega,fun f=>?_⟩;have:=IF (f:=zF ixD (zI 2) (zF qY (zF qO (zI 4) (zA (.int 4))) (callB lenD (zC (zI 2) qA)))) (ds:=[.v (.int c),x1,.ob (some 2) (oT es),x3,.v (.int w),.v (.int lo),.v (.int (lo+1))]) (i:=2) rfl (x:=e) (by simp[e1,e2]);rw[zW (ds':=[.v (.int c),x1,.ob (some 2) (oT es),x3,.v (.int w),.v (.int lo),.v (.int (lo+1))]) (by simp[-Int.reducePow,-Nat.reducePow,p1,qP m1,q1,h,ix4_3]),zW (ds':=[.v (.int c),x1,.ob (some 2) (oT es),x3,.v (.int w),.v (.int lo),.v (.int (max (lo+1) e))]) (by simp[h,LR,nen,this])]
theorem ZM(w lo bh:Int)(hlt:lo<bh)(x0 x1 x2 x3:Sl):∃s:Spn,okS s/\∀f:FX,seqR (ifG (zV (zF ltD (zF qY (zF qO (zI 4) (zA (.int 2003))) (zA (.int 12))) (zA (.int 2)))) (jS 5 (zA .non)) qL) (seqR (ifG (zV (zF (inD false) (zF qY (zF qO (zI 4) (zA (.int 2003))) (zA (.int 12))) (mkT (qR (zC (zA (.int 1)) (zC (zA (.int 2)) qA)))))) (jS 6 (zA .non)) qL) f) [x0,x1,x2,x3,.v (.int w),.v (.int lo),.v (.int bh)]=f [x0,x1,x2,x3,.v (.int w),.v (oi s.1),.v (oi s.2)]:=by
 rcases(by omega:w/2003%12=0\/w/2003%12=1\/w/2003%12=2\/2<w/2003%12) with h | h | h | h
 . exact⟨(none,some bh),(fun x y e1 _=>nomatch e1),fun f=>by rw[zW (by simp[h];rfl),zW (by simp[h];rfl)];rfl⟩
 . exact⟨(none,none),(fun x y e1 _=>nomatch e1),fun f=>by rw[zW (by simp[h];rfl),zW (by simp[h];rfl)];rfl⟩
 . exact⟨(some lo,none),(fun x y _ e2=>nomatch e2),fun f=>by rw[zW (by simp[h];rfl),zW (by simp[h];rfl)];rfl⟩
 . have h1 : ¬ w / 2003 % 12 < 2 := by omega
   have h2:w/2003%12≠1:=by omega
   have h3:w/2003%12≠2:=by omega
   exact⟨(some lo,some bh),(fun x y e1 e2=>by cases e1;cases e2;exact hlt),fun f=>by rw[zW (by simp[h1];rfl),zW (by simp[in2,h2,h3];rfl)];rfl⟩
theorem over_ex(p1 p2 p3 q1 q2 q3:Int)(hp:(0<=p1/\p1<2 ^ 40)/\(0<=p2/\p2<2 ^ 40)/\(0<=q1/\q1<2 ^ 40)/\(0<=q2/\q2<2 ^ 40))(c k:Int)(es:List Int)(hne:0<es.length)(hc:intBits c<=1048576)(hk:0<=k)(hk':k<=1000)(hl:es.length+2<16777216) :
  ∃(s:Spn) (a b:Int),okS s/\lentR (overG p1 p2 p3 q1 q2 q3) 7 2 (oT es) [.int c,.int k,.non]=some (spD s,oT (es++[a,b])):=by
 obtain⟨⟨u1,u2⟩,⟨u3,u4⟩,⟨u5,u6⟩,⟨u7,u8⟩⟩:=hp;have m1:eV c p1:=dF hc (zU (m:=200) (by omega)) (by decide);have m2:eV c q1:=dF hc (zU (m:=200) (by omega)) (by decide);have kk:eV k k:=dF (zU (m:=64) (by omega)) (zU (m:=64) (by omega)) (by decide);have kb:0<=k*k/\k*k<=1000000:=⟨Int.mul_nonneg hk hk,AJ hk' hk' hk (by decide)⟩
 have k1:eV (k*k) p2:=dF (zU (m:=64) (by omega)) (zU (m:=64) (by omega)) (by decide);have k2:eV (k*k) q2:=dF (zU (m:=64) (by omega)) (zU (m:=64) (by omega)) (by decide);generalize hm1:(c*p1+k*k*p2+p3)%2147483647=m';have hm1':0<=m'/\m'<2147483647:=by omega
 have mm:eV m' m':=dF (zU (m:=64) (by omega)) (zU (m:=64) (by omega)) (by decide);generalize hm:m'*m'%2147483563=m;have hm':0<=m/\m<2147483563:=by omega
 generalize hw1:(c*q1+k*k*q2+q3)%2147483629=w';have hw1':0<=w'/\w'<2147483629:=by omega
 have ww:eV w' m:=dF (zU (m:=64) (by omega)) (zU (m:=64) (by omega)) (by decide);generalize hw:w'*m%2147483549=w;obtain⟨lo,elo⟩:=low_if c k m es hne hm'.1 (.v (.int k)) (.v (.int w)) .no (m/4%61-30);obtain⟨bh,hlt,ebh⟩:=beh_if c w lo es hne hc (.v (.int k)) (.v (.int m));obtain⟨s,hs,es1⟩:=ZM w lo bh hlt (.v (.int c)) (.v (.int k)) (.ob (some 2) (oT (es++[lo]++[bh]))) (.v (.int m));refine⟨s,lo,bh,hs,WH (ds:=[.v (.int c),.v (.int k),.ob (some 2) (oT (es++[lo]++[bh])),.v (.int m),.v (.int w),.v (oi s.1),.v (oi s.2)]) ?_ (by simp)⟩;unfold overG
 rw[zW (ds':=[.v (.int c),.v (.int k),.ob (some 2) (oT es),.v (.int m'),.no,.no,.no]) (by simp[args,qP m1,qP kk,qP k1,hm1]),
  zW (ds':=[.v (.int c),.v (.int k),.ob (some 2) (oT es),.v (.int m),.no,.no,.no]) (by simp[qP mm,hm]),
  zW (ds':=[.v (.int c),.v (.int k),.ob (some 2) (oT es),.v (.int m),.v (.int w'),.no,.no]) (by simp[qP m2,qP kk,qP k2,hw1]),
  zW (ds':=[.v (.int c),.v (.int k),.ob (some 2) (oT es),.v (.int m),.v (.int w),.no,.no]) (by simp[qP ww,hw]),
  zW (ds':=[.v (.int c),.v (.int k),.ob (some 2) (oT es),.v (.int m),.v (.int w),.v (.int (m/4%61-30)),.no]) (by simp),elo,ebh,
  zW (YH (es:=es) (x:=lo) rfl (by simp) (by omega)),zW (YH (es:=es++[lo]) (x:=bh) (by rfl) (by simp) (by simp;omega))]
 simp only[eX,eA];rw[es1];have e0:D.tup [oi s.1,oi s.2]=spD s:=rfl;simp[vR,e0]
end FL
namespace FL
open PySem PySem.Spec PyProof.Rows L2
open Builtin.Int (intBits)
end FL
namespace FL
open PySem PySem.Spec PyProof.Rows L2
noncomputable def putDs(k:Key)(d:D):List Key->List D->List D
 |k'::ks,x::xs=>(if k'=k then d else x)::putDs k d ks xs
 |_,xs=>xs
noncomputable def putKD(k:Key)(d:D)(ks:List Key)(l:List D):List Key×List D:=if hasK k ks=true then (ks,putDs k d ks l) else (ks++[k],l++[d])
theorem AS(k:Key)(d:D):∀(ks:List Key) (l:List D),putTs k (.val d) ks (l.map OT.val)=(putDs k d ks l).map OT.val
 |[],l=>by cases l<;>simp[putTs,putDs]
 |_::_,[]=>by simp[putTs,putDs]
 | k' :: ks, x :: l => by
   simp only[bA,putTs,putDs,AS k d ks l]
   split<;>rfl
theorem OE(k:Key)(d:D)(ks:List Key)(l:List D):putKT k (.val d) ks (l.map OT.val)=.dct (putKD k d ks l).1 ((putKD k d ks l).2.map OT.val):=by
 unfold putKT putKD
 split
 . rw[AS]
 . simp
theorem MK{k:Key}:∀{ks:List Key},k∉ks->hasK k ks=false
 |[],_=>rfl
 | k' :: ks, h => by
   have h1:k'≠k:=fun z=>h (by rw[z];exact .head _);have:=MK (k:=k) (ks:=ks) fun z=>h (.tail _ z);unfold hasK at this ⊢;simp[h1,this]
theorem WS{k:Key}{ks:List Key}(h:k∈ks):hasK k ks=true:=by
 unfold hasK;rw[List.any_eq_true];exact⟨k,h,by simp⟩
open Builtin.Int (intBits)
end FL
namespace FL
open PySem PySem.Spec PyProof.Rows L2
abbrev Mks:=List (List Nat×Option Int)
noncomputable def putM(n:List Nat)(v:Option Int)(mk:Mks):Mks:=if n∈mk.map (·.1) then mk.map fun p=>if p.1=n then (p.1,v) else p else mk++[(n,v)]
structure MkOk(mk:Mks):Prop where
 nd:(mk.map (·.1)).Nodup
 nm:∀p∈mk,Nm p.1
theorem MkOk.nil:MkOk []:=⟨YZ,fun _ h=>nomatch h⟩
theorem MkOk.put{mk:Mks}(h:MkOk mk){n:List Nat}(hn:Nm n)(v:Option Int):MkOk (putM n v mk):=by
 unfold putM
 split
 . have e:(mk.map fun p=>if p.1=n then (p.1,v) else p).map (·.1)=mk.map (·.1):=by
    rw[fG];refine hX fun p _=>?_;simp only[Function.comp]
    split<;>rfl
   refine⟨by rw[e];exact h.nd,fun p hp=>?_⟩;have:p.1∈(mk.map fun p=>if p.1=n then (p.1,v) else p).map (·.1):=List.mem_map_of_mem hp;rw[e] at this;obtain⟨q,hq,e⟩:=cM.mp this;rw[<- e];exact h.nm q hq
 . rename_i hne;refine ⟨?_,fun p hp=>?_⟩
   . rw [dD, cS];refine ⟨h.nd,by simp,fun a ha b hb=>?_⟩;have:b=n:=by simpa using hb
     subst this;exact fun z=>hne (z▸ha)
   . rcases bM.mp hp with hp | hp
     . exact h.nm p hp
     . rw[aP.mp hp];exact hn
theorem AN{l:List Str}(h:∀x∈l,PyData.strOk x=true):shals 40 (l.map D.str)=true:=by
 induction l with
 |nil=>simp[shals]
 | cons a r ih =>
   simp only[bA,shals,cG];exact⟨by simp[shal,h a (.head _)],ih fun x hx=>h x (.tail _ hx)⟩
theorem ED(l:List Str):eqvD (.lst (l.map D.str)) (.lst (l.map D.str))=true:=by
 rw[GF]
 induction l with
 |nil=>rfl
 | cons a r ih =>
   have:eqvD (.str a) (.str a)=true:=by simp[eqvD,toPy,PyData.eqv]
   rw[bA,QL,this,ih];rfl
theorem VV{l:List Str}(h:∀x∈l,PyData.strOk x=true):neD (.lst (l.map D.str)) (.lst (l.map D.str))=some (.bl false):=by
 have hs:shal 40 (.lst (l.map D.str))=true:=by simpa using AN h
 rw[VW hs hs,ED];rfl
theorem XQ{l:List Str}(h:∀x∈l,PyData.strOk x=true):eqD (.lst (l.map D.str)) (.lst (l.map D.str))=some (.bl true):=by
 have hs:shal 40 (.lst (l.map D.str))=true:=by simpa using AN h
 rw[JR hs hs,ED]
end FL
namespace FL
open PySem PyProof.Rows L2
open Builtin.Int (intBits)
abbrev Bs:=List (Str×List Rw)
noncomputable def bkN(b:Bs):List Key:=b.map fun q=>.inr q.1
noncomputable def bkV(b:Bs):List D:=b.map fun q=>.lst (q.2.map rwD)
def BT(T:OT)(b:Bs):Prop:=∃ts,T=.ins 12 [.dct (bkN b) ts]/\otDs ts=bkV b
def NmS(x:Str):Prop:=∃cs,Nm cs/\x=txS cs
structure BOk(b:Bs)(m:Nat):Prop where
 nd:(b.map (·.1)).Nodup
 nm:∀q∈b,NmS q.1
 mp:∀q∈b,MapF q.2
 ln:∀q∈b,q.2.length<=m
theorem WQ{x:Str}(h:NmS x):eM [.str x]=some (.val (.bl true)):=by
 obtain⟨cs,h,rfl⟩:=h;exact JC h
theorem yK:∀l:List Str,strsD (l.map D.str)=some l
 |[]=>rfl
 |x::r=>by simp[strsD,yK r]
theorem XY{ns:List Str}(h1:1<=ns.length)(h60:ns.length<=60)(hn:∀x∈ns,NmS x)(nd:ns.Nodup):fL [.lst (ns.map D.str)]=some (.val .non):=by
 have k1 : ¬((ns.length:Int)<1):=by omega
 have k2 : ¬((60:Int)<(ns.length:Int)):=by omega
 have comp:compG (viaA (qF 0) asLT) [none] (zP 0) (fun _=>some true) (jE 1 eM (zC (zI 0) qA)) [.v (.lst (ns.map D.str))]=some (ns.map fun _=>D.bl true):=by
  refine yM (items:=ns.map D.str) (by simp) (by simp;omega) ?_;rw[yJ D.str (fun _=>D.bl true) ns];intro x hx;exact⟨_,rfl,by simp[qU,WQ (hn x hx)]⟩
 have al:allD [.lst (ns.map fun _=>D.bl true)]=some (.bl true):=by
  have e:(ns.map fun _=>D.bl true)=(ns.map fun _=>true).map D.bl:=by simp
  rw[e,vP];simp
 have ls:lsetE (zI 0) [.v (.lst (ns.map D.str))]=some (.int (ns.length:Nat)):=by
  have z:ns.length<1000:=by omega
  have c:=tV ns.reverse (kS.mpr (nd.imp fun h=>Ne.symm h));rw[fP] at c;unfold lsetE;simp[yK,z,c]
 have ar:args 1 [.lst (ns.map D.str)]=[.v (.lst (ns.map D.str))]:=by simp[args]
 unfold fL runG kL;generalize hc:compG (viaA (qF 0) asLT) [none] (zP 0) (fun _=>some true) (jE 1 eM (zC (zI 0) qA))=C at *;generalize hL:lsetE (zI 0)=L at *;rw[ar,zT (ds':=[.v (.lst (ns.map D.str))]) (by simp[k1,k2]),zT (ds':=[.v (.lst (ns.map D.str))]) (by simp[comp,al])];simp[ls]
theorem keyInr{k:Str}{l:List Str}(h:k∉l):hasK (.inr k) (l.map Sum.inr)=false:=MK fun z=>by
 obtain⟨x,hx,e⟩:=cM.mp z;cases e;exact h hx
theorem BI(N:Sl):∀(rest done:List Str) (x:Sl),(done++rest).Nodup->done.length+rest.length<=1000->∃x',jI (zP 2) dR (rest.map D.str) [.ob (some 0) (.ins 12 [.dct (done.map Sum.inr) (done.map fun _=>.lst [])]),N,x]=some (.nx [.ob (some 0) (.ins 12 [.dct ((done++rest).map Sum.inr) ((done++rest).map fun _=>.lst [])]),N,x'])
 |[],done,x,_,_=>⟨x,by simp[jI]⟩
 | k :: rest, done, x, nd, hl => by
   simp only[aO] at hl;have nd':(done++[k]++rest).Nodup:=by simpa using nd
   obtain⟨x',e⟩:=BI N rest (done++[k]) (.v (.str k)) nd' (by simp;omega);refine⟨x',?_⟩
   have hk:hasK (.inr k) (done.map Sum.inr)=false:=keyInr fun z=>by
    have:=(cS.mp nd).2.2 k z k (.head _);exact this rfl
   have z:done.length<16777216:=by omega
   have z0:(0:Nat)<=sizeLine:=bY _
   have turn:dR [.ob (some 0) (.ins 12 [.dct (done.map Sum.inr) (done.map fun _=>.lst [])]),N,.v (.str k)]=some (.nx [.ob (some 0) (.ins 12 [.dct ((done++[k]).map Sum.inr) ((done++[k]).map fun _=>.lst [])]),N,.v (.str k)]):=by
    simp[dR,dputN,sO,nilO,atP,varP,List.lookup,keyD,hk,z,z0,putP,putO,List.modify]
   simp only[bA,jI,zP,bG,eX,eA,turn];rw[show done++k::rest=done++[k]++rest by simp];exact e
theorem GV{ns:List Str}(h1:1<=ns.length)(h60:ns.length<=60)(hn:∀x∈ns,NmS x)(nd:ns.Nodup):cV (.ins 24 []) [.lst (ns.map D.str)]=some (.ins 12 [.dct ((srtT ns).map Sum.inr) ((srtT ns).map fun _=>.lst [])]):=by
 have hp:=srtT_perm ns;have ck:=XY h1 h60 hn nd;obtain⟨x',e⟩:=BI (.v (.lst (ns.map D.str))) (srtT ns) [] .no (by rw[fZ];exact hp.nodup_iff.mpr nd) (by rw[hp.length_eq];simp;omega)
 have st:srtTA (zI 1) [.ob (some 0) (.ins 12 [.dct [] []]),.v (.lst (ns.map D.str)),.no]=some ((srtT ns).map D.str):=by
  have z:ns.length<64:=by omega
  unfold srtTA;simp[yK,z]
 have e0:∀T l,cV T l=match fA (argsL 3 T l) with | some (.nx ds)=>ob0 ds[0]? | _=>none:=fun _ _=>rfl
 rw[e0];unfold fA;have ar:argsL 3 (.ins 24 []) [.lst (ns.map D.str)]=[.ob (some 0) (.ins 24 []),.v (.lst (ns.map D.str)),.no]:=by simp[argsL,args]
 rw[ar,zT (ds':=[.ob (some 0) (.ins 24 []),.v (.lst (ns.map D.str)),.no]) (by simp[dropG,ck]),zT (ds':=[.ob (some 0) (.ins 12 [.dct [] []]),.v (.lst (ns.map D.str)),.no]) (by simp[setNw,varP,dO0,putP,putO])];simp only[dC,fZ] at e
 have e1:forG (viaA (mkL (srtTA (zI 1))) asLT) (zP 2) dR [.ob (some 0) (.ins 12 [.dct [] []]),.v (.lst (ns.map D.str)),.no]=some (.nx [.ob (some 0) (.ins 12 [.dct ((srtT ns).map Sum.inr) ((srtT ns).map fun _=>.lst [])]),.v (.lst (ns.map D.str)),x']):=by
  rw[xM];simp[st,e]
 rw[e1];rfl
theorem YC(l:List Str):BT (.ins 12 [.dct (l.map Sum.inr) (l.map fun _=>.lst [])]) (l.map fun x=>(x,[])):=by
 refine⟨l.map fun _=>.lst [],by simp[bkN],?_⟩
 induction l with
 |nil=>simp[otDs,bkV]
 |cons x r ih=>simp only[bA,otDs,otD,ih,bkV];rfl
theorem XA(l:List Str):flatO (.ins 12 [.dct (l.map Sum.inr) (l.map fun _=>.lst [])])=true:=by
 have:∀l:List Str,iQ (l.map fun _=>OT.lst [])=true:=by
  intro l
  induction l with
  |nil=>simp[iQ]
  |cons x r ih=>simp[iQ,flatO,ih]
 simp[flatO,iQ,this]
theorem MU{ns:List Str}(hn:∀x∈ns,NmS x)(nd:ns.Nodup)(m:Nat):BOk ((srtT ns).map fun x=>(x,[])) m:=by
 have hp:=srtT_perm ns;refine⟨?_,fun q hq=>?_,fun q hq=>?_,fun q hq=>?_⟩
 . have : (srtT ns).map ((fun q : Str×List Rw => q.1) ∘ fun x => (x, []))=srtT ns := List.map_id _;rw[fG,this];exact hp.nodup_iff.mpr nd
 . obtain⟨x, hx, rfl⟩ := cM.mp hq;exact hn x (hp.mem_iff.mp hx)
 . obtain⟨x, hx, rfl⟩ := cM.mp hq;exact MapF.nil
 . obtain⟨x, hx, rfl⟩ := cM.mp hq;exact bY _
theorem CW{x:Str}{ps:List Rw}:∀{b:Bs},(b.map (·.1)).Nodup->(x,ps)∈b->getKD (.inr x) (bkN b) (bkV b)=some (.lst (ps.map rwD))
 |[],_,h=>nomatch h
 | q :: b, nd, h => by
   rw[bA,bU] at nd;simp only[bkN,bkV,bA,getKD];rcases aF.mp h with e | h
   . rw[<- e];simp
   . have ne : q.1 ≠ x := fun z => nd.1 (z▸cM.mpr ⟨(x, ps), h, rfl⟩);rw[if_neg (fun z=>ne (by cases z;rfl))];exact CW nd.2 h
theorem WT{x:Str}{ps:List Rw}{b:Bs}(h:(x,ps)∈b):hasK (.inr x) (bkN b)=true:=WS (cM.mpr ⟨(x,ps),h,rfl⟩)
theorem only_eq{b:Bs}{m:Nat}(ok:BOk b m){x:Str}{ps:List Rw}(h:(x,ps)∈b){M:D}(hM:kdD M=some (bkN b,bkV b)):gR [.ins 12 [M],.str x]=some (.fresh (ps.map rwD)):=by
 have nm:=WQ (ok.nm _ h);have g:=CW ok.nd h;have hk:=WT h;have fl:=yR ps;unfold gR runG kM;have ar:args 2 [.ins 12 [M],.str x]=[.v (.ins 12 [M]),.v (.str x)]:=by simp[args]
 have f1:∀ds:List Sl,ds[0]?=some (.v (.ins 12 [M]))->fldG [(12,0)] (qF 0) ds=some M:=fun ds hd=>by simp[fldG,qF,hd,fldD,List.lookup]
 rw[ar,zT (ds':=[.v (.ins 12 [M]),.v (.str x)]) (by simp[nm,dnotG,dinG,f1,keyD,hM,hk])];simp[lisA,dgetG,f1,keyD,hM,g,asLT,fl]
noncomputable def updB(x:Str)(f:List Rw->List Rw)(b:Bs):Bs:=b.map fun q=>if q.1=x then (q.1,f q.2) else q
theorem bkN_upd(x:Str)(f:List Rw->List Rw)(b:Bs):bkN (updB x f b)=bkN b:=by
 unfold bkN updB;rw[fG];refine hX fun q _=>?_;simp only[Function.comp_apply]
 split<;>rfl
theorem tJ(k:Key)(d:D):∀(ks:List Key) (ts:List OT),otDs (putTs k (.val d) ks ts)=putDs k d ks (otDs ts)
 |[],ts=>by cases ts<;>simp[putTs,putDs]
 |_::_,[]=>by simp[putTs,putDs,otDs]
 | k' :: ks, t :: ts => by
   simp only[putTs,putDs,otDs,tJ k d ks ts]
   split<;>simp[otD]
theorem LD{x:Str}{ps:List Rw}(f:List Rw->List Rw):∀{b:Bs},(b.map (·.1)).Nodup->(x,ps)∈b->putDs (.inr x) (.lst ((f ps).map rwD)) (bkN b) (bkV b)=bkV (updB x f b)
 |[],_,h=>nomatch h
 | q :: b, nd, h => by
   rw[bA,bU] at nd
   have key:∀{b:Bs},x∉b.map (·.1)->putDs (.inr x) (.lst ((f ps).map rwD)) (bkN b) (bkV b)=bkV (updB x f b):=by
    intro b
    induction b with
    |nil=>intro _;rfl
    | cons r b ih =>
      intro hx;simp only[bA,aF,not_or] at hx;simp only[bkN,bkV,updB,bA,putDs];rw[if_neg (fun z=>hx.1 (by cases z;rfl)),if_neg (fun z=>hx.1 z.symm)];congr 1;exact ih hx.2
   rcases aF.mp h with e | h
   . subst e;have:=key nd.1;simp only[bkN,bkV,updB,bA,putDs,if_true];congr 1
   . have ne : q.1 ≠ x := fun z => nd.1 (z▸cM.mpr ⟨(x, ps), h, rfl⟩);have:=LD f nd.2 h;simp only[bkN,bkV,updB,bA,putDs];rw[if_neg (fun z=>ne (by cases z;rfl)),if_neg ne];congr 1
theorem BOk.upd{b:Bs}{m:Nat}(ok:BOk b m){x:Str}{r:Rv}(hs:okS r.1):BOk (updB x (fun ps=>put1 ps r) b) (m+2):=by
 refine⟨?_,fun q hq=>?_,fun q hq=>?_,fun q hq=>?_⟩
 . have:(updB x (fun ps=>put1 ps r) b).map (·.1)=b.map (·.1):=by
    unfold updB;rw[fG];refine hX fun q _=>?_;simp only[Function.comp_apply]
    split<;>rfl
   rw[this];exact ok.nd
 all_goals
  obtain⟨q0,h0,rfl⟩:=cM.mp hq
  split
 . exact ok.nm q0 h0
 . exact ok.nm q0 h0
 . exact ET (ok.mp q0 h0) hs
 . exact ok.mp q0 h0
 . have := UH (ok.mp q0 h0) (r := r) hs;have:=ok.ln q0 h0;simp only;omega
 . have := ok.ln q0 h0;omega
theorem put_b{b:Bs}{m:Nat}(ok:BOk b m)(hm:m<=1000)(hb:b.length<=1000){T:OT}(hT:BT T b){x:Str}{ps:List Rw}(h:(x,ps)∈b){s:Spn}(hs:okS s)(v:Option Int) :
  ∃T',BT T' (updB x (fun ps=>put1 ps (s,v)) b)/\dputG (atP [(12,0)] (varP 0)) (qF 1) (ofO (relGO 0 (lO (vB 3 iP (zC (methV 1 [12] dE (qF 0) (zC (zI 1) qA)) (zC (zI 2) (zC (zA (oi v)) qA))))))) [.ob (some 0) T,.v (.str x),.v (spD s)]=some (.nx [.ob (some 0) T',.v (.str x),.v (spD s)]):=by
 obtain⟨ts,rfl,ht⟩:=hT;have hp:=put_eq (ok.mp _ h) (cT (ok.ln _ h) (by omega)) (v:=v) hs;have on:=only_eq ok h (M:=.dct (bkN b) (bkV b)) rfl;have hk:=WT h;have pd:=LD (fun ps=>put1 ps (s,v)) ok.nd h;have fl:=yR (put1 ps (s,v));have z:(bkN b).length<16777216:=by simp[bkN];omega
 have oe:otD (.ins 12 [.dct (bkN b) ts])=.ins 12 [.dct (bkN b) (bkV b)]:=by simp[otD,otDs,ht]
 have e1:(ofO (relGO 0 (lO (vB 3 iP (zC (methV 1 [12] dE (qF 0) (zC (zI 1) qA)) (zC (zI 2) (zC (zA (oi v)) qA))))))) [.ob (some 0) (.ins 12 [.dct (bkN b) ts]),.v (.str x),.v (spD s)]=some (.lst ((put1 ps (s,v)).map rwD)):=by
  generalize hq:(put1 ps (s,v)).map rwD=q at *;have on':dE 12 [.ins 12 [.dct (bkN b) (bkV b)],.str x]=some (.fresh (ps.map rwD)):=on;unfold ofO relGO relO;simp only[dJ,oe,eA];simp[methV,methR,on',hp,flatO,sA,fl,otD,yI]
 refine⟨.ins 12 [.dct (bkN b) (putTs (.inr x) (.val (.lst ((put1 ps (s,v)).map rwD))) (bkN b) ts)],⟨_,by rw[bkN_upd],by rw[tJ,ht,pd]⟩,?_⟩;unfold dputG;rw[e1];simp[atP,varP,List.lookup,keyD,z,putP,putO,putKT,hk,List.modify]
theorem lay_eq{b:Bs}{m:Nat}(ok:BOk b m)(hm:m<=1000)(hb:b.length<=1000){T:OT}(hT:BT T b){x:Str}{ps:List Rw}(h:(x,ps)∈b){s:Spn}(hs:okS s):∃T',BT T' (updB x (fun ps=>put1 ps (s,some 1)) b)/\eF T [.str x,spD s]=some T':=by
 obtain⟨T',h1,h2⟩:=put_b ok hm hb hT h hs (some 1);refine⟨T',h1,?_⟩;have e0:∀T l,eF T l=match iC (argsL 3 T l) with | some (.nx ds)=>ob0 ds[0]? | _=>none:=fun _ _=>rfl
 have ar:argsL 3 T [.str x,spD s]=[.ob (some 0) T,.v (.str x),.v (spD s)]:=by simp[argsL,args]
 rw[e0,ar];unfold iC;rw[show(D.int 1)=oi (some 1) from rfl,h2];rfl
theorem lift_eq{b:Bs}{m:Nat}(ok:BOk b m)(hm:m<=1000)(hb:b.length<=1000){T:OT}(hT:BT T b){x:Str}{ps:List Rw}(h:(x,ps)∈b){s:Spn}(hs:okS s):∃T',BT T' (updB x (fun ps=>put1 ps (s,none)) b)/\dZ T [.str x,spD s]=some T':=by
 obtain⟨T',h1,h2⟩:=put_b ok hm hb hT h hs none;refine⟨T',h1,?_⟩;have e0:∀T l,dZ T l=match gS (argsL 3 T l) with | some (.nx ds)=>ob0 ds[0]? | _=>none:=fun _ _=>rfl
 have ar:argsL 3 T [.str x,spD s]=[.ob (some 0) T,.v (.str x),.v (spD s)]:=by simp[argsL,args]
 rw[e0,ar];unfold gS;rw[show(D.non)=oi none from rfl,h2];rfl
noncomputable def hereB(b:Bs)(p:Int):List Str:=(b.filter fun q=>(valL q.2 p).isSome).map (·.1)
theorem rV{b:Bs}{m:Nat}(ok:BOk b m)(hb:b.length<=1000)(p:Int):cN 12 [.ins 12 [.dcf (bkN b) (bkV b)],.int p]=some (.fresh ((hereB b p).map D.str)):=by
 show gO _=_
 have fl:flats ((hereB b p).map D.str)=true:=by
  generalize hereB b p=l
  induction l with
  |nil=>simp
  |cons a r ih=>simp[ih,flat]
 have ar:args 2 [.ins 12 [.dcf (bkN b) (bkV b)],.int p]=[.v (.ins 12 [.dcf (bkN b) (bkV b)]),.v (.int p)]:=by simp[args]
 have comp:compG (keysA (fldG [(12,0)] (qF 0))) [none,some 1,some 0] (zP 0) (zV (zF notD (jE 2 fD (zC (dgetG (fldG [(12,0)] (qF 2)) (qF 0)) (zC (zI 1) qA))) (zA .non))) (qF 0) [.v (.ins 12 [.dcf (bkN b) (bkV b)]),.v (.int p)]=some ((hereB b p).map D.str):=by
  refine yM (items:=b.map fun q=>D.str q.1) (by simp[keysA,fldG,fldD,List.lookup,bkN,keyDD]) (by simp;omega) ?_;rw[xR (fun q:Str×List Rw=>D.str q.1) (fun q=>(valL q.2 p).isSome) (fun q=>D.str q.1)]
  . simp[hereB]
  . intro q hq;have g:=CW ok.nd (x:=q.1) (ps:=q.2) hq;have va:=DY (ok.mp q hq).ord p;refine ⟨_,rfl,?_,fun _=>by simp [qU]⟩;simp only [qU];cases hv:valL q.2 p with
    |none=>rw[hv] at va;simp[dgetG,fldG,fldD,List.lookup,keyD,kdD,g,va,notD]
    |some v=>rw[hv] at va;simp[dgetG,fldG,fldD,List.lookup,keyD,kdD,g,va,notD]
 refine kH ?_;rw[ar];unfold gN retOG;rw[comp];simp[flatF,fl]
noncomputable def ltrB(n:Int):Nat:=(97+n%26).toNat
theorem WC(n:Int):97<=ltrB n/\ltrB n<=122:=by unfold ltrB;omega
theorem WD{a b:Int}(h:ltrB a=ltrB b):a%26=b%26:=by unfold ltrB at h;omega
theorem YI(n:Int):ixD (.str (Str.ofString "abcdefghijklmnopqrstuvwxyz")) (.int (n%26))=some (.str (txS [ltrB n])):=by
 have h0:=gC n (show(26:Int)≠0 by decide);have h1:=mF n (show(0:Int)<26 by decide);unfold ltrB;generalize n%26=i at *
 have e:ixD (.str (txS abcL)) (.int i)=(abcL[i.toNat]?).map fun c=>D.str (txS [c]):=by
  show(if (txS abcL).length<=sizeLine then (atI abcL i).map fun c=>D.str ⟨#[c]⟩ else none)=_;rw[MD,if_pos (by decide)];unfold atI;rw[CV h0 (by show i<26;exact h1)];rfl
 have hl:i.toNat<abcL.length:=by show i.toNat<26;omega
 have e2:abcL=List.range' 97 26:=by decide
 have e3:abcL[i.toNat]?=some (97+i.toNat):=by
  rw[e2,List.getElem?_range' (by omega)];simp
 rw[t_abc,e,e3,show(97+i).toNat=97+i.toNat by omega];rfl
theorem MG:∀ps:List (List Nat),Str.join (txS []) (ps.map txS)=txS ps.flatten
 |[]=>rfl
 |[p]=>by simp[Str.join]
 | p :: q :: r => by
   have ih:=MG (q::r);show txS p++txS []++Str.join (txS []) ((q::r).map txS)=_;rw[ih,KH,KH];simp
theorem PZ(cs:List Nat)(hl:cs.length<=1000):joinD (.str (Str.ofString "")) (.lst (cs.map fun c=>.str (txS [c])))=some (.str (txS cs)):=by
 have st:strsD (cs.map fun c=>D.str (txS [c]))=some (cs.map fun c=>txS [c]):=by
  have:=yK (cs.map fun c=>txS [c])
  rwa [fG] at this
 have sm:((cs.map fun c=>txS [c]).map (·.length)).sum=cs.length:=by
  clear hl st
  induction cs with
  |nil=>rfl
  |cons c r ih=>simp only[bA,List.sum_cons,ih,MD,aO,sX];omega
 unfold joinD;simp only[st,bG];rw[if_pos ⟨by decide,by rw[sm,cB];omega⟩]
 have:Txt.join (Str.ofString "") (cs.map fun c=>txS [c])=Str.join (txS []) ((cs.map fun c=>[c]).map txS):=by
  show Builtin.Str.glued _ _=_;rw[StrLaws.glued_eq_join,ZI,fG];rfl
 rw[this,MG];congr 3;clear hl st sm this
 induction cs with
 |nil=>rfl
 |cons c r ih=>simp[ih]
noncomputable def stepN(d core r:Int):Int:=if r=0 then core else if r=1 then core/d else 0
theorem ZL(d core r:Int)(h:0<=r):ixD (.lst [.int core,.int (core/d),.int 0]) (.int (if 2<r then 2 else r))=some (.int (stepN d core r)):=by
 unfold stepN;rcases(by omega:r=0\/r=1\/r=2\/2<r) with e | e | e | e
 . subst e;rfl
 . subst e;rfl
 . subst e;rfl
 . rw[if_pos e,if_neg (by omega),if_neg (by omega)];rfl
noncomputable def baseN(A:Nat->Int)(e:Int)(size:Nat)(core:Int):List Nat:=(List.range size).map fun j=>ltrB (A j+stepN 26 core (((j:Int)+e)%(size:Int)))
theorem yC(A:Nat->Int)(e:Int)(size:Nat)(core:Int):(baseN A e size core).length=size:=by simp[baseN]
theorem YE(A:Nat->Int)(e:Int)(size:Nat)(core:Int):Ltr (baseN A e size core):=fun c hc=>by
 obtain⟨j,_,rfl⟩:=cM.mp hc;exact WC _
theorem UQ(e:Int){size:Nat}(h:0<size)(r:Nat)(hr:r<size):∃j,j<size/\((j:Int)+e)%(size:Int)=r:=by
 refine⟨(((r:Int)-e)%(size:Int)).toNat,?_,?_⟩
 . have := mF ((r : Int)-e) (show 0<(size : Int) by omega);have:=gC ((r:Int)-e) (show(size:Int)≠0 by omega);omega
 . have := gC ((r : Int)-e) (show(size : Int) ≠ 0 by omega);rw[pN this,Int.emod_add_emod,show(r:Int)-e+e=r by omega];exact Int.emod_eq_of_lt (by omega) (by omega)
theorem YF{A:Nat->Int}{e:Int}{size:Nat}(h1:1<=size){a b:Int}(ha:0<=a/\a<676/\(size=1->a<26))(hb:0<=b/\b<676/\(size=1->b<26))(h:baseN A e size a=baseN A e size b):a=b:=by
 have at':∀j,j<size->ltrB (A j+stepN 26 a (((j:Int)+e)%(size:Int)))=ltrB (A j+stepN 26 b (((j:Int)+e)%(size:Int))):=fun j hj=>by
  have:=congrArg (fun l=>l[j]?) h;simpa[baseN,hj] using this
 obtain⟨j0,l0,e0⟩:=UQ e (size:=size) (by omega) 0 (by omega);have q0:=WD (at' j0 l0);rw[e0] at q0;simp only[stepN,nB,if_true] at q0
 by_cases hs:size=1
 . have := ha.2.2 hs;have:=hb.2.2 hs;omega
 . obtain ⟨j1, l1, e1⟩ := UQ e (size := size) (by omega) 1 (by omega);have q1:=WD (at' j1 l1);rw [e1] at q1;simp only [stepN] at q1;have n1 : ¬ ((1:Nat):Int)=0:=by decide
   have n2:((1:Nat):Int)=1:=rfl;rw[if_neg n1,if_neg n1,if_pos n2,if_pos n2] at q1;omega
abbrev Dds:=List (Str×Spn×Bool)
noncomputable def ddD(d:Str×Spn×Bool):D:=.tup [.str d.1,spD d.2.1,.bl d.2.2]
noncomputable def lI(x:Str)(p:Int)(b:Bool)(d:Str×Spn×Bool):Bool:=if d.1=x/\hasS d.2.1 p=true then d.2.2 else b
noncomputable def liesF(ds:Dds)(x:Str)(p:Int):Bool:=ds.foldl (lI x p) false
def LOk(b:Bs)(ds:Dds):Prop:=∀q∈b,∀p,valL q.2 p=if liesF ds q.1 p=true then some 1 else none
noncomputable def layV(l:Bool):Option Int:=if l=true then some 1 else none
theorem BA(ds:Dds)(d:Str×Spn×Bool)(x:Str)(p:Int):liesF (ds++[d]) x p=lI x p (liesF ds x p) d:=by simp[liesF]
theorem lok_upd{b:Bs}{m:Nat}{ds:Dds}(ok:BOk b m)(h:LOk b ds){x:Str}{s:Spn}(hs:okS s)(l:Bool):LOk (updB x (fun ps=>put1 ps (s,layV l)) b) (ds++[(x,s,l)]):=fun q hq p=>by
 obtain⟨q0,h0,rfl⟩:=cM.mp hq;have e0:=h q0 h0 p
 by_cases hx:q0.1=x
 . subst hx;rw [if_pos rfl,BA];simp only;rw [UF (ok.mp q0 h0) (r:=(s,layV l)) hs];unfold lI
   by_cases hh:hasS s p=true
   . simp[hh,layV]
   . simp[hh,e0]
 . rw[if_neg hx, BA, e0];unfold lI;rw[if_neg (c:=x=q0.1/\_) (fun z=>hx z.1.symm)]
theorem MC(l:List Str):LOk (l.map fun x=>(x,[])) []:=fun q hq p=>by
 obtain⟨x,_,rfl⟩:=cM.mp hq;rfl
theorem NP(x:Str)(f:List Rw->List Rw)(b:Bs):(updB x f b).map (·.1)=b.map (·.1):=by
 unfold updB;rw[fG];refine hX fun q _=>?_;simp only[Function.comp_apply]
 split<;>rfl
theorem BJ{b:Bs}{ds:Dds}(h:LOk b ds)(p:Int):hereB b p=(b.map (·.1)).filter fun x=>liesF ds x p:=by
 unfold hereB;rw[List.filter_map];congr 1;refine List.filter_congr fun q hq=>?_;simp only[Function.comp_apply];rw[h q hq p];cases liesF ds q.1 p<;>rfl
theorem has3_eq(s:Spn)(p:Int):mN [spD s,.int p]=some (.val (.bl (hasS s p))):=by
 obtain⟨a,b⟩:=s;unfold mN runG rC;cases a with
 | none =>
   cases b with
   |none=>simp[args,hasS,spD]
   |some b=>by_cases h2:p<b<;>simp[args,hasS,spD,h2]
 | some a =>
   cases b with
   |none=>by_cases h1:a<=p<;>simp[args,hasS,spD,h1]
   | some b =>
     by_cases h1:a<=p
     . by_cases h2:p<b<;>simp[args,hasS,spD,h1,h2]
     . simp[args,hasS,spD,h1]
theorem QH{k k':Key}{d:D}{ks:List Key}{l:List D}(hl:ks.length=l.length):getKD k' (putKD k d ks l).1 (putKD k d ks l).2=if k'=k then some d else getKD k' ks l:=by
 unfold putKD
 have put:∀(ks:List Key) (l:List D),ks.length=l.length->hasK k ks=true->getKD k' ks (putDs k d ks l)=if k'=k then some d else getKD k' ks l:=by
  intro ks
  induction ks with
  |nil=>intro l _ h;simp[hasK] at h
  | cons a r ih =>
    intro l hl h;cases l with
    |nil=>simp at hl
    | cons x l =>
      simp only[putDs,getKD]
      by_cases ha:a=k'
      . rw [if_pos ha, if_pos ha]
        by_cases hk:a=k
        . rw[if_pos hk,if_pos (ha▸hk)]
        . rw[if_neg hk,if_neg (fun z=>hk (ha.trans z))]
      . rw [if_neg ha, if_neg ha]
        by_cases hk:a=k
        . have : ¬ k' = k := fun z => ha (hk.trans z.symm);rw [if_neg this]
          have key:∀(r:List Key) (l:List D),getKD k' r (putDs k d r l)=getKD k' r l:=by
           intro r
           induction r with
           |nil=>intro l;cases l<;>rfl
           | cons b r ih2 =>
             intro l;cases l with
             |nil=>rfl
             | cons y l =>
               simp only[putDs,getKD]
               by_cases hb:b=k'
               . rw[if_pos hb,if_pos hb,if_neg (fun z=>this (hb.symm.trans z))]
               . rw[if_neg hb,if_neg hb];exact ih2 l
          exact key r l
        . refine ih l (by simpa using hl) ?_;simpa[hasK,hk] using h
 split
 . rename_i h;exact put ks l hl h
 . rename_i h
   have app:∀(ks:List Key) (l:List D),ks.length=l.length->hasK k ks≠true->getKD k' (ks++[k]) (l++[d])=if k'=k then some d else getKD k' ks l:=by
    intro ks
    induction ks with
    | nil =>
      intro l hl _;cases l with
      | nil =>
        simp only[fZ,getKD]
        by_cases hk:k=k'
        . rw[if_pos hk,if_pos hk.symm]
        . rw[if_neg hk,if_neg (Ne.symm hk)]
      |cons=>simp at hl
    | cons a r ih =>
      intro l hl h;cases l with
      |nil=>simp at hl
      | cons x l =>
        have hk:a≠k:=fun z=>h (by simp[hasK,z]);have h':hasK k r≠true:=fun z=>h (by simp only[hasK,gA] at z ⊢;rw[z,Bool.or_true]);simp only[eS,getKD]
        by_cases ha:a=k'
        . rw[if_pos ha,if_pos ha,if_neg (fun z=>hk (ha.trans z))]
        . rw[if_neg ha,if_neg ha];exact ih l (by simpa using hl) h'
   exact app ks l hl h
theorem OF{k:Key}{d:D}{ks:List Key}{l:List D}(hl:ks.length=l.length):(putKD k d ks l).1.length=(putKD k d ks l).2.length/\(putKD k d ks l).1.length<=ks.length+1:=by
 unfold putKD
 have put:∀(ks:List Key) (l:List D),(putDs k d ks l).length=l.length:=by
  intro ks
  induction ks with
  |nil=>intro l;cases l<;>rfl
  | cons a r ih =>
    intro l;cases l with
    |nil=>rfl
    |cons x l=>simp[putDs,ih l]
 split
 . simp[put,hl]
 . simp[hl]
theorem VO{x:Str}(h:NmS x):PyData.strOk x=true:=by
 obtain⟨cs,h,rfl⟩:=h;simpa[shal] using ZO h.2.2.asc 40
end FL
section
open PySem PyProof.Rows L2 FL
noncomputable def gL:FS:=(jD (jS 11 (zF ixD (mkL (qR (zC (qF 8) (zC (zF qO (zI 8) (zA (.int 26))) (zC (zA (.int 0)) qA))))) (callB mnD (zC (zF qY (zF yN (zI 10) (zF qO (zI 1) (zA (.int 16)))) (zI 3)) (zC (zA (.int 2)) qA)))))
 (appG 9 (zF ixD (zI 2) (zF qY (zF yN (zF yN (zF qO (zI 1) (zF yN (zI 10) (zA (.int 2)))) (zF yS (zF yS (zI 10) (zI 10)) (zA (.int 5)))) (zI 11)) (zA (.int 26))))))
noncomputable def gK:FS:=(jD (jS 8 (zF qO (zI 7) (zF yN (zA (.int 1)) (zI 4))))
 (jD (setOG 9 (qR qA))
 (jD (forG (rng1 (qF 3)) (zP 10) gL)
 (jD (jS 12 (zF joinD (zA (.str "")) (zI 9)))
 (jD (ifG (andT (zV (zF eqD (zI 4) (zA (.int 1)))) (zV (zF eqD (zF qY (zI 7) (zA (.int 2))) (zA (.int 1))))) (jS 12 (zF yN (zI 12) (zF ixD (zI 2) (zF qY (zF qO (zI 1) (zA (.int 7))) (zA (.int 26)))))) qL)
 (appG 6 (qF 12)))))))
noncomputable def mI:FS:=(jD (jS 2 (zA (.str "abcdefghijklmnopqrstuvwxyz")))
 (jD (jS 3 (zF yN (zA (.int 1)) (zF qY (zI 1) (zA (.int 8)))))
 (jD (jS 4 (callB int1D (zC (andV (zF ltD (zI 3) (zA (.int 8))) (zF eqD (zF qY (zF qO (zI 1) (zA (.int 8))) (zA (.int 2))) (zA (.int 1)))) qA)))
 (jD (jS 5 (zF yN (zA (.int 1)) (zF ixD (mkL (qR (zC (zF qY (zF qO (zI 0) (zA (.int 4))) (zA (.int 5))) (zC (zF qY (zF qO (zI 0) (zA (.int 4))) (zA (.int 60))) qA)))) (zF qO (zF qY (zI 0) (zA (.int 4))) (zA (.int 3))))))
 (jD (ifG (zV (zF eqD (zI 3) (zA (.int 1)))) (jS 5 (callB mnD (zC (zI 5) (zC (zA (.int 26)) qA)))) qL)
 (jD (setOG 6 (qR qA))
 (jD (forG (rng1 (qF 5)) (zP 7) gK)
 (retXG 6))))))))
noncomputable def kQ:List D->Option Ret:=runG mI 13
noncomputable def pO:FX:=(seqR (jS 3 (zF qY (zF yN (zF yN (zF yS (zI 0) (zA (.int 48271))) (zF yS (zF yS (zI 1) (zI 1)) (zA (.int 69621)))) (zA (.int 7919))) (zA (.int 2147483647))))
 (seqR (jS 3 (zF qY (zF yS (zI 3) (zI 3)) (zA (.int 2147483563))))
 (seqR (jS 4 (zF qY (zF yN (zF yN (zF yS (zI 0) (zA (.int 39373))) (zF yS (zF yS (zI 1) (zI 1)) (zA (.int 16807)))) (zA (.int 611953))) (zA (.int 2147483629))))
 (seqR (jS 4 (zF qY (zF yS (zI 4) (zI 3)) (zA (.int 2147483549))))
 (seqR (jS 5 (zF subD (zF qY (zF qO (zI 3) (zA (.int 4))) (zA (.int 61))) (zA (.int 30))))
 (seqR (ifG (andT (zV (zF eqD (zF qY (zI 3) (zA (.int 4))) (zA (.int 0)))) (zV (zF neD (getN 2) (mkL (qR qA))))) (jS 5 (zF subD (zF yN (relVO 2 (zF ixD (zI 2) (zF qY (zF qO (zI 3) (zA (.int 4))) (callB lenD (zC (zI 2) qA))))) (zF qY (zF qO (zI 3) (zA (.int 1000003))) (zA (.int 3)))) (zA (.int 1)))) qL)
 (seqR (ifG (zV (zF eqD (zF qY (zI 3) (zA (.int 4))) (zA (.int 1)))) (jS 5 (zF ixD (mkL (qR (zC (zF subD (zF qY (zI 0) (zF yN (zF yS (zA (.int 2)) (zF powD (zA (.int 10)) (zA (.int 60)))) (zA (.int 1)))) (zF powD (zA (.int 10)) (zA (.int 60)))) (zC (jE 1 kN (zC (zI 0) qA)) qA)))) (zF qY (zF qO (zI 3) (zA (.int 4))) (zA (.int 2))))) qL)
 (seqR (jS 6 (zF yN (zF yN (zI 5) (zA (.int 1))) (zF ixD (mkL (qR (zC (zF qY (zF qO (zI 4) (zA (.int 4))) (zA (.int 3))) (zC (zF qY (zF qO (zI 4) (zA (.int 4))) (zA (.int 40))) (zC (zF qY (zF yS (zI 0) (zA (.int 69621))) (zF powD (zA (.int 10)) (zA (.int 60)))) (zC (zA (.int 0)) qA)))))) (zF qY (zI 4) (zA (.int 4))))))
 (seqR (ifG (andT (zV (zF eqD (zF qY (zI 4) (zA (.int 4))) (zA (.int 3)))) (zV (zF neD (getN 2) (mkL (qR qA))))) (jS 6 (callB mxD (zC (zI 6) (zC (relVO 2 (zF ixD (zI 2) (zF qY (zF qO (zI 4) (zA (.int 4))) (callB lenD (zC (zI 2) qA))))) qA)))) qL)
 (seqR (appP (varP 2) (qF 5))
 (seqR (appP (varP 2) (qF 6))
 (seqR (ifG (zV (zF ltD (zF qY (zF qO (zI 4) (zA (.int 2003))) (zA (.int 12))) (zA (.int 2)))) (jS 5 (zA .non)) qL)
 (seqR (ifG (zV (zF (inD false) (zF qY (zF qO (zI 4) (zA (.int 2003))) (zA (.int 12))) (mkT (qR (zC (zA (.int 1)) (zC (zA (.int 2)) qA)))))) (jS 6 (zA .non)) qL)
 (vR (mkT (qR (zC (qF 5) (zC (qF 6) qA))))))))))))))))))
noncomputable def lH:OT->List D->Option (D×OT):=lentR pO 7 2
noncomputable def gQ:FS:=(ifG (testT (jE 2 mN (zC (zI 5) (zC (zI 2) qA)))) (dputG (varP 3) (qF 4) (qF 6)) qL)
noncomputable def nP:FS:=(jD (setB 3 dO0)
 (jD (forG (viaA (qF 0) asLT) (tupG 3 (qM (zP 4) (qM (zP 5) (qM (zP 6) tgNil)))) gQ)
 (retOG (relFO 3 (compG (viaA (mkL (srtTA (zI 1))) asLT) [none,some 3] (zP 0) (testT (rH (qF 1) (qF 0) (zA (.bl false)))) (qF 0))))))
noncomputable def iI:List D->Option Ret:=runG nP 7
noncomputable def pB:FS:=(retG (andV (isiG "list" (zI 0)) (andV (zF eqD (zI 0) (zI 1)) (callB allD (zC (mkL (compG (viaA (qF 0) asLT) [none] (zP 0) (fun _=>some true) (isiG "str" (zI 0)))) qA)))))
noncomputable def fS:List D->Option Ret:=runG pB 2
noncomputable def mV:FS:=(jD (setR 8 (callR 3 6 lH (zC (qF 7) (zC (callB lenD (zC (zI 5) qA)) (hereA qA)))))
 (jD (jS 9 (zF qY (zF yN (zF yN (zF yS (zI 7) (zA (.int 50021))) (zF yS (callB lenD (zC (zI 5) qA)) (zA (.int 104729)))) (zA (.int 3571))) (zA (.int 2147483587))))
 (jD (jS 9 (zF qY (zF yS (zI 9) (zI 9)) (zA (.int 2147483563))))
 (jD (appG 5 (mkT (qR (zC (zF ixD (zI 1) (zF qY (zF qO (zI 9) (zA (.int 3))) (callB lenD (zC (zI 1) qA)))) (zC (qF 8) (zC (zF gtD (zF qY (zI 9) (zA (.int 3))) (zA (.int 0))) qA))))))
 (jD (ifG (zV (zF gtD (zF qY (zI 9) (zA (.int 3))) (zA (.int 0)))) (setR 10 (lentV (lentG 2 [12] (fun _=>eF) (varP 3) (zC (zF ixD (zF ixD (zI 5) (un1 negD (zA (.int 1)))) (zA (.int 0))) (zC (qF 8) qA))))) (setR 10 (lentV (lentG 2 [12] (fun _=>dZ) (varP 3) (zC (zF ixD (zF ixD (zI 5) (un1 negD (zA (.int 1)))) (zA (.int 0))) (zC (qF 8) qA))))))
 (jD (ifG (zV (zF notD (zI 10) (zA .non))) (retG (zA (.bl false))) qL)
 (jD (jS 11 (zF subD (relVO 6 (zF ixD (zI 6) (un1 negD (zA (.int 1))))) (zF qY (zF qO (zI 9) (zA (.int 300007))) (zA (.int 2)))))
 (ifG (relTV 3 (notT (testT (jE 2 fS (zC (methV 1 [12] cN (qF 3) (zC (zI 11) qA)) (zC (jE 3 iI (zC (zI 5) (zC (zI 1) (zC (zI 11) qA)))) qA)))))) (retG (zA (.bl false))) qL))))))))
noncomputable def mU:FS:=(jD (ifG (relTV 3 (notT (testT (jE 2 fS (zC (methV 1 [12] cN (qF 3) (zC (zI 11) qA)) (zC (jE 3 iI (zC (zI 5) (zC (zI 1) (zC (zI 11) qA)))) qA)))))) (retG (zA (.bl false))) qL)
 (ifG (relTV 4 (notT (testT (jE 2 fS (zC (methV 1 [12] cN (qF 4) (zC (zI 11) qA)) (zC (mkL (qR qA)) qA)))))) (retG (zA (.bl false))) qL))
noncomputable def pY:FS:=(jD (jS 1 (jE 2 kQ (zC (jE 2 eN (zC (zI 0) (zC (zA (.int 0)) qA))) (zC (jE 2 eN (zC (zI 0) (zC (zA (.int 1)) qA))) qA))))
 (jD (setB 2 (lO (lisA (zI 1))))
 (jD (setB 3 (relGO 2 (makeO 24 1 0 cV (zC (qF 2) qA))))
 (jD (setB 4 (makeO 24 1 0 cV (zC (mkL (revA (qF 1))) qA)))
 (jD (ifG (zV (zF neD (getN 2) (zI 1))) (retG (zA (.bl false))) qL)
 (jD (clrP (varP 2))
 (jD (setOG 5 (qR qA))
 (jD (setB 6 (sO (consO (vO (zF subD (zF qY (jE 2 eN (zC (zI 0) (zC (zA (.int 2)) qA))) (zA (.int 61))) (zA (.int 30)))) nilO)))
 (jD (forG (viaA (mkL (sliA (zI 0) (soP (zA (.int 3))) (soP (zA (.int 27))))) asLT) (zP 7) mV)
 (jD (forG (viaA (mkL (srtSA (mkL (relFO 6 (catA (zI 6) (mkL (compG (viaA (qF 6) asLT) [none] (zP 0) (fun _=>some true) (zF subD (zI 0) (zA (.int 1)))))))))) asLT) (zP 11) mU)
 (retG (zA (.bl true)))))))))))))
noncomputable def pZ:List D->Option Ret:=runG pY 12
end
namespace K73
open PySem PyProof.Rows L2 FL
noncomputable def top(i:Nat):Stmt:=PySem.Challenge.pw_spanmap_k73_names_at.main.body.getD i (.Pass ⟨0,0,0,0⟩)
structure Glb(K:Frag)(mg:Str->Option aA):Prop where
 b_all:mg "all" = none
 b_int:mg "int" = none
 b_isinstance:mg "isinstance" = none
 b_len:mg "len" = none
 b_list:mg "list" = none
 b_max:mg "max" = none
 b_min:mg "min" = none
 b_range:mg "range" = none
 b_reversed:mg "reversed" = none
 b_set:mg "set" = none
 b_sorted:mg "sorted" = none
 b_str:mg "str" = none
 c_LETTERS:∃t,mg "LETTERS" = some (.str "abcdefghijklmnopqrstuvwxyz" t)
 c_MOST_LETTERS:∃t,mg "MOST_LETTERS" = some (.int 8 t)
 c_MOST_NAMES:∃t,mg "MOST_NAMES" = some (.int 60 t)
 fl_lying:FldOk K "lying" [(12,0)]
 nw_lying:∀C,aY K aS (eB 24)=some (some (.ref C))->Cls K C/\NoAttr K C "lying"
theorem pwI{X:Cx}{i:Int}{k:Nat}{p:Pos}: PVw X (.Constant (.int i) k p) (zA (.int i)):=PV.w yA
theorem pnI{X:Cx}{i:Int}{k:Nat}{p:Pos}: PVn X (.Constant (.int i) k p) (zA (.int i)):=PV.n yA
theorem pnV{X:Cx}(i:Nat){x:Str}{pos:Pos}(hN:X.N[i]?=some x:=by rfl)(hv:Vis X.env.scope x:=by first | exact Or.inl rfl | exact Or.inr (Or.inl rfl) | exact Or.inr (Or.inr rfl))(hd:(x==("__debug__" : Str))=false:=by decide)(hcd:(x==("__classdict__" : Str))=false:=by decide):PVn X (.Name x pos) (zI i):=(zB i hN hv hd hcd).n
section
variable{P:aX}{w:bW}{K:Frag}{mg:Str->Option aA}{base:Heap}
theorem TL:FnScope ["one","place"] ["one","place"] (zH (top 5)):={}
theorem fok_has{f:aB}{fd:bN}(Fn:Fun K "has" "has" (top 5) f fd)(T:Glb K mg): FnOk P w K mg base CX0 1 f fd ["one","place"] (spF K 2 mM):=by
 have nd:=TL.nd;refine jF (k:=0) (g:=sU) Fn TL (fun cdv A outer s H E hr=>?_) (fun ds r hl e=>qC e);exact(zE (qD (PV.w (wP (KY (LA (PV.n (qH (zB 0) pwI)) (PV.n qX)) (yX (UA (PV.w (qH (zB 0) pwI)) (zB 1)))) (yX (KY (LA (PV.n (qH (zB 0) pwI)) (PV.n qX)) (yX (TZ (zB 1) (PV.w (qH (zB 0) pwI))))))))))
theorem pR:FnScope ["one","other"] ["one","other"] (zH (top 8)):={}
theorem uT{f:aB}{fd:bN}(Fn:Fun K "later_low" "later_low" (top 8) f fd)(T:Glb K mg): FnOk P w K mg base CX0 1 f fd ["one","other"] (spF K 2 gM):=by
 have nd:=pR.nd;refine jF (k:=0) (g:=lQ) Fn pR (fun cdv A outer s H E hr=>?_) (fun ds r hl e=>qC e)
 exact(zD (qE (EV (pnV 0) (PV.n qX)) (zE (qD (zB 1))) zM)
  (zD (qE (EV (pnV 1) (PV.n qX)) (zE (qD (zB 0))) zM)
  (zE (qD (PV.w (KZ rfl T.b_max (zQ (zB 0) (zQ (zB 1) qN))))))))
theorem mG:FnScope ["one","other"] ["one","other"] (zH (top 9)):={}
theorem pH{f:aB}{fd:bN}(Fn:Fun K "earlier_behind" "earlier_behind" (top 9) f fd)(T:Glb K mg): FnOk P w K mg base CX0 1 f fd ["one","other"] (spF K 2 eI):=by
 have nd:=mG.nd;refine jF (k:=0) (g:=gT) Fn mG (fun cdv A outer s H E hr=>?_) (fun ds r hl e=>qC e)
 exact(zD (qE (EV (pnV 0) (PV.n qX)) (zE (qD (zB 1))) zM)
  (zD (qE (EV (pnV 1) (PV.n qX)) (zE (qD (zB 0))) zM)
  (zE (qD (PV.w (CH rfl T.b_min (zQ (zB 0) (zQ (zB 1) qN))))))))
theorem oW:FnScope ["behind","low"] ["behind","low"] (zH (top 7)):={}
theorem tQ{f:aB}{fd:bN}(Fn:Fun K "ends_ahead" "ends_ahead" (top 7) f fd)(T:Glb K mg): FnOk P w K mg base CX0 1 f fd ["behind","low"] (spF K 2 fW):=by
 have nd:=oW.nd;refine jF (k:=0) (g:=kY) Fn oW (fun cdv A outer s H E hr=>?_) (fun ds r hl e=>qC e);exact(zE (qD (PV.w (wP (EQ (pnV 0) (PV.n qX)) (wP (EQ (pnV 1) (PV.n qX)) (yX (UA (zB 0) (zB 1))))))))
theorem KP:FnScope ["one","other","low","behind"] ["one","other"] (zH (top 6)):={}
theorem WY{f:aB}{fd:bN}(Fn:Fun K "meet" "meet" (top 6) f fd)(T:Glb K mg)(C_later_low:Cal P w K mg base "later_low" 1 2 gM)(C_earlier_behind:Cal P w K mg base "earlier_behind" 1 2 eI)(C_ends_ahead:Cal P w K mg base "ends_ahead" 1 2 fW):FnOk P w K mg base CX0 2 f fd ["one","other"] (spF K 2 lJ):=by
 have nd:=KP.nd;refine jF (k:=1) (g:=rA) Fn KP (fun cdv A outer s H E hr=>?_) (fun ds r hl e=>qC e)
 exact(zD (zZ (i:=2) nd (qB C_later_low hr (zG (PV.n (qH (zB 0) pwI)) (zG (PV.n (qH (zB 1) pwI)) zS))))
  (zD (zZ (i:=3) nd (qB C_earlier_behind hr (zG (PV.n (qH (zB 0) pwI)) (zG (PV.n (qH (zB 1) pwI)) zS))))
  (zD (qE (PVn.t (PV.n (qB C_ends_ahead hr (zG (pnV 3) (zG (pnV 2) zS))))) (zE (qD (PV.w qX))) zM)
  (zE (qD (PV.w (yG (zJ (zL 2) (zJ (zL 3) zR)))))))))
theorem KQ:FnScope ["rows","pieces","low","behind","value"] ["rows"] (zH (top 11)):={}
theorem WZ{f:aB}{fd:bN}(Fn:Fun K "knit" "knit" (top 11) f fd)(T:Glb K mg): FnOk P w K mg base CX0 1 f fd ["rows"] (spF K 1 lK):=by
 have nd:=KQ.nd;refine jF (k:=0) (g:=rB) Fn KQ (fun cdv A outer s H E hr=>?_) (fun ds r hl e=>qC e)
 exact(zD (yQ (i:=1) nd (jK zR))
  (zD (yE PassesOwn.never rfl (jP (zL 0)) (vZ (n:=3) rfl (qS (zY (i:=2) nd) (qS (zY (i:=3) nd) (qS (zY (i:=4) nd) xU)))) (zD (qE (EV (pnV 4) (PV.n qX)) (zE CM) zM)
  (zE (qE (PWv.t (wW (PVn.t (pnV 1)) (wW (kI hr (PV.n (qH (PV.w (qH (zB 1) (PV.w (wN yA)))) pwI)) (pnV 2)) (wG (kI hr (PV.n (qH (PV.w (qH (zB 1) (PV.w (wN yA)))) pwI)) (pnV 4)))))) (zE (psv_put (i:=1) (yG (zJ (qH (PV.w (qH (zB 1) (PV.w (wN yA)))) pwI) (zJ (zL 3) (zJ (zL 4) zR)))) (wN yA))) (zE (xI (i:=1) (yG (zJ (zL 2) (zJ (zL 3) (zJ (zL 4) zR))))))))))
  (zE (xV 1))))
theorem rP:FnScope ["pieces","within","parts","low","behind","value","common"] ["pieces","within"] (zH (top 12)):={}
theorem CZ{f:aB}{fd:bN}(Fn:Fun K "parts_in" "parts_in" (top 12) f fd)(T:Glb K mg)(C_meet:Cal P w K mg base "meet" 2 2 lJ):FnOk P w K mg base CX0 3 f fd ["pieces","within"] (spF K 2 eP):=by
 have nd:=rP.nd;refine jF (k:=2) (g:=mK) Fn rP (fun cdv A outer s H E hr=>?_) (fun ds r hl e=>qC e)
 exact(zD (yQ (i:=2) nd (jK zR))
  (zD (yE PassesOwn.never rfl (jP (zL 0)) (vZ (n:=3) rfl (qS (zY (i:=3) nd) (qS (zY (i:=4) nd) (qS (zY (i:=5) nd) xU)))) (zD (zZ (i:=6) nd (qB C_meet hr (zG (PV.n (yG (zJ (zL 3) (zJ (zL 4) zR)))) (zG (pnV 1) zS))))
  (zE (qE (yW (pnV 6) (PV.n qX)) (zE (xI (i:=2) (yG (zJ (qH (zB 6) pwI) (zJ (qH (zB 6) pwI) (zJ (zL 5) zR)))))) zM))))
  (zE (xV 2))))
theorem pQ:FnScope ["pieces","over","value","rows"] ["pieces","over","value"] (zH (top 13)):={}
theorem uS{f:aB}{fd:bN}(Fn:Fun K "rows_over" "rows_over" (top 13) f fd)(T:Glb K mg)(C_parts_in:Cal P w K mg base "parts_in" 3 2 eP):FnOk P w K mg base CX0 4 f fd ["pieces","over","value"] (spF K 3 fJ):=by
 have nd:=pQ.nd;refine jF (k:=3) (g:=lP) Fn pQ (fun cdv A outer s H E hr=>?_) (fun ds r hl e=>qC e)
 exact(zD (yQ (i:=3) nd (jK zR))
  (zD (qE (yW (PV.n (qH (zB 1) pwI)) (PV.n qX)) (zE (LH (i:=3) (yL C_parts_in hr (zG (pnV 0) (zG (PV.n (yG (zJ qX (zJ (qH (zB 1) pwI) zR)))) zS))))) zM)
  (zD (xI (i:=3) (yG (zJ (qH (zB 1) pwI) (zJ (qH (zB 1) pwI) (zJ (zL 2) zR)))))
  (zD (qE (yW (PV.n (qH (zB 1) pwI)) (PV.n qX)) (zE (LH (i:=3) (yL C_parts_in hr (zG (pnV 0) (zG (PV.n (yG (zJ (qH (zB 1) pwI) (zJ qX zR)))) zS))))) zM)
  (zE (xV 3))))))
theorem rO:FnScope ["pieces","place","low","behind","value"] ["pieces","place"] (zH (top 15)):={}
theorem CY{f:aB}{fd:bN}(Fn:Fun K "value_at" "value_at" (top 15) f fd)(T:Glb K mg)(C_has:Cal P w K mg base "has" 1 2 mM):FnOk P w K mg base CX0 2 f fd ["pieces","place"] (spF K 2 fD):=by
 have nd:=rO.nd;refine jF (k:=1) (g:=mJ) Fn rO (fun cdv A outer s H E hr=>?_) (fun ds r hl e=>qC e)
 exact(zD (yE PassesOwn.never rfl (jP (zL 0)) (vZ (n:=3) rfl (qS (zY (i:=2) nd) (qS (zY (i:=3) nd) (qS (zY (i:=4) nd) xU)))) (zE (qE (PVn.t (PV.n (qB C_has hr (zG (PV.n (yG (zJ (zL 2) (zJ (zL 3) zR)))) (zG (pnV 1) zS))))) (zE (qD (zB 4))) zM)))
  (zE (qD (PV.w qX))))
theorem tE:FnScope ["thing"] ["thing"] (zH (top 19)):={}
theorem GC{f:aB}{fd:bN}(Fn:Fun K "is_name" "is_name" (top 19) f fd)(T:Glb K mg): FnOk P w K mg base CX0 1 f fd ["thing"] (spF K 1 eM):=by
 have nd:=tE.nd;have nI0:(["sign"]:List Str).Nodup:=by decide +kernel
 refine jF (k:=0) (g:=mW) Fn tE (fun cdv A outer s H E hr=>?_) (fun ds r hl e=>qC e)
 exact(zD (qE (xQ (PVn.t (PV.n (II T.b_isinstance T.b_str (by decide +kernel) (zB 0))))) (zE (qD (PV.w vS))) zM)
  (zD (qE (PWv.t (IG (EU (PV.w (yH T.b_len (zQ (zB 0) qN))) pwI) (CC (UL (PV.w (yH T.b_len (zQ (zB 0) qN))) (PV.w (ER T.c_MOST_LETTERS)))))) (zE (qD (PV.w vS))) zM)
  (zE (qD (PV.w (IJ rfl T.b_all (zQ (PV.w (PVf.s (yV (NY:=["sign"]) (mp:=[none]) (jN (by kernel_rfl)) rfl (piv_str (zL 0)) (fun c=>(zY (i:=0) nI0)) (fun c=>vQ) (fun c=>(CL ON os_inS (zB 0) (PV.w (UB T.c_LETTERS)) rfl))))) qN)))))))
theorem TJ:FnScope ["pieces","span","value"] ["pieces","span","value"] (zH (top 21)):={}
theorem fok_put{f:aB}{fd:bN}(Fn:Fun K "put" "put" (top 21) f fd)(T:Glb K mg)(C_knit:Cal P w K mg base "knit" 1 1 lK)(C_rows_over:Cal P w K mg base "rows_over" 4 3 fJ):FnOk P w K mg base CX0 5 f fd ["pieces","span","value"] (spF K 3 iP):=by
 have nd:=TJ.nd;refine jF (k:=4) (g:=sT) Fn TJ (fun cdv A outer s H E hr=>?_) (fun ds r hl e=>qC e);exact(zE (xW (yL C_knit hr (zG (PV.n (qB C_rows_over hr (zG (pnV 0) (zG (pnV 1) (zG (pnV 2) zS))))) zS))))
theorem nT:FnScope ["names"] ["names"] (zH (top 25)):={}
theorem sG{f:aB}{fd:bN}(Fn:Fun K "check_names" "check_names" (top 25) f fd)(T:Glb K mg)(C_is_name:Cal P w K mg base "is_name" 1 1 eM):FnOk P w K mg base CX0 2 f fd ["names"] (spF K 1 fL):=by
 have nd:=nT.nd;have nI0:(["name"]:List Str).Nodup:=by decide +kernel
 refine jF (k:=1) (g:=kL) Fn nT (fun cdv A outer s H E hr=>?_) (fun ds r hl e=>qC e)
 exact(zD (qE (PWv.t (IG (EU (PV.w (yH T.b_len (zQ (zB 0) qN))) pwI) (CC (UL (PV.w (yH T.b_len (zQ (zB 0) qN))) (PV.w (ER T.c_MOST_NAMES)))))) (zE yY) zM)
  (zD (qE (xQ (PVn.t (PV.n (IJ rfl T.b_all (zQ (PV.w (PVf.s (yV (NY:=["name"]) (mp:=[none]) (jN (by kernel_rfl)) rfl (jP (zL 0)) (fun c=>(zY (i:=0) nI0)) (fun c=>vQ) (fun c=>(qB C_is_name hr (zG (pnV 0) zS)))))) qN))))) (zE yY) zM)
  (zE (qE (EU (PV.w (pv_lset rfl T.b_len T.b_set (zB 0))) (PV.w (yH T.b_len (zQ (zB 0) qN)))) (zE yY) zM))))
theorem lW:FnScope ["self","names","name"] ["self","names"] (zH (fT (top 24) 0)):={}
theorem oH{f:aB}{fd:bN}(Fn:Fun K "__init__" "Bundle.__init__" (fT (top 24) 0) f fd)(T:Glb K mg)(C_check_names:Cal P w K mg base "check_names" 2 1 fL):FnOk P w K mg base CX0 3 f fd ["self","names"] (spL K 1 cV):=by
 have nd:=lW.nd;refine kK (k:=2) (n:=1) (g:=fA) Fn lW (fun cdv A outer s H E hr=>?_) (fun _ _ _ _ e=>e)
 exact(zD (UM (qB C_check_names hr (zG (pnV 1) zS)))
  (zD (IK T.nw_lying (jV 0) EM)
  (zE (yE PassesOwn.never rfl (jP (PVf.s (rS T.b_sorted (zB 1)))) (zY (i:=2) nd) (zE (OG hr (IH T.fl_lying (jV 0)) (zL 2) (pvo_s LQ)))))))
theorem nU:FnScope ["self","name"] ["self","name"] (zH (fT (top 24) 4)):={}
theorem sH{f:aB}{fd:bN}(Fn:Fun K "only" "Bundle.only" (fT (top 24) 4) f fd)(T:Glb K mg)(C_is_name:Cal P w K mg base "is_name" 1 1 eM):FnOk P w K mg base CX0 2 f fd ["self","name"] (spF K 2 gR):=by
 have nd:=nU.nd;refine jF (k:=1) (g:=kM) Fn nU (fun cdv A outer s H E hr=>?_) (fun ds r hl e=>qC e)
 exact(zD (qE (PWv.t (IG (xQ (PVn.t (PV.n (qB C_is_name hr (zG (pnV 1) zS))))) (CC (UI hr (pnV 1) (PV.n (CJ T.fl_lying (zL 0))))))) (zE yY) zM)
  (zE (xW (EO T.b_list (PV.w (LC hr (CJ T.fl_lying (zL 0)) (zL 1)))))))
theorem oZ:FnScope ["self","name","span"] ["self","name","span"] (zH (fT (top 24) 1)):={}
theorem tT{f:aB}{fd:bN}(Fn:Fun K "lay" "Bundle.lay" (fT (top 24) 1) f fd)(T:Glb K mg)(C_put:Cal P w K mg base "put" 5 3 iP)(M_only:MCal P w K mg base "only" 2 1 [12] dE):FnOk P w K mg base CX0 6 f fd ["self","name","span"] (spL K 2 eF):=by
 have nd:=oZ.nd;refine kK (k:=5) (n:=2) (g:=iC) Fn oZ (fun cdv A outer s H E hr=>?_) (fun _ _ _ _ e=>e);exact(zE (kC hr (IH T.fl_lying (jV 0)) (zL 1) (TY (vG 0 (TV (yL C_put hr (zG (PV.n (wY M_only hr (zL 0) (zG (pnV 1) zS))) (zG (pnV 2) (zG pnI zS)))))))))
theorem nV:FnScope ["self","name","span"] ["self","name","span"] (zH (fT (top 24) 2)):={}
theorem sI{f:aB}{fd:bN}(Fn:Fun K "lift" "Bundle.lift" (fT (top 24) 2) f fd)(T:Glb K mg)(C_put:Cal P w K mg base "put" 5 3 iP)(M_only:MCal P w K mg base "only" 2 1 [12] dE):FnOk P w K mg base CX0 6 f fd ["self","name","span"] (spL K 2 dZ):=by
 have nd:=nV.nd;refine kK (k:=5) (n:=2) (g:=gS) Fn nV (fun cdv A outer s H E hr=>?_) (fun _ _ _ _ e=>e);exact(zE (kC hr (IH T.fl_lying (jV 0)) (zL 1) (TY (vG 0 (TV (yL C_put hr (zG (PV.n (wY M_only hr (zL 0) (zG (pnV 1) zS))) (zG (pnV 2) (zG (PV.n qX) zS)))))))))
theorem lV:FnScope ["self","place"] ["self","place"] (zH (fT (top 24) 3)):={}
theorem oG{f:aB}{fd:bN}(Fn:Fun K "names_at" "Bundle.names_at" (fT (top 24) 3) f fd)(T:Glb K mg)(C_value_at:Cal P w K mg base "value_at" 2 2 fD):FnOk P w K mg base CX0 3 f fd ["self","place"] (spF K 2 gO):=by
 have nd:=lV.nd;have nI0:(["name","place","self"]:List Str).Nodup:=by decide +kernel
 refine jF (k:=2) (g:=gN) Fn lV (fun cdv A outer s H E hr=>?_) (fun ds r hl e=>qC e);exact(zE (xW (OB (NY:=["name","place","self"]) (mp:=[none,some 1,some 0]) (jN (by kernel_rfl)) rfl (UR (CJ T.fl_lying (zL 0))) (fun c=>(zY (i:=0) nI0)) (fun c=>(LM (yW (PV.n (qB C_value_at hr (zG (PV.n (LC hr (CJ T.fl_lying (zL 2)) (zL 0))) (zG (pnV 1) zS)))) (PV.n qX)))) (fun c=>(zL 0)))))
theorem nD:FnScope ["_law_script","_law_k"] ["_law_script","_law_k"] (zH (top 27)):={}
theorem rE{f:aB}{fd:bN}(Fn:Fun K "_law_cell_at" "_law_cell_at" (top 27) f fd)(T:Glb K mg): FnOk P w K mg base CX0 1 f fd ["_law_script","_law_k"] (spF K 2 eN):=by
 have nd:=nD.nd;refine jF (k:=0) (g:=mX) Fn nD (fun cdv A outer s H E hr=>?_) (fun ds r hl e=>qC e)
 exact(zD (qE (EU (zB 1) (PV.w (yH T.b_len (zQ (zB 0) qN)))) (zE (qD (PV.w (qH (zB 0) (zB 1))))) zM)
  (zE (qD pwI)))
theorem oX:FnScope ["_law_head","_law_cell","_law_letters","_law_size","_law_more","_law_many","_law_names_here","_law_k","_law_core","_law_signs","_law_j","_law_step","_law_name"] ["_law_head","_law_cell"] (zH (top 28)):={}
theorem tR{f:aB}{fd:bN}(Fn:Fun K "_law_names" "_law_names" (top 28) f fd)(T:Glb K mg): FnOk P w K mg base CX0 1 f fd ["_law_head","_law_cell"] (spF K 2 kQ):=by
 have nd:=oX.nd;refine jF (k:=0) (g:=mI) Fn oX (fun cdv A outer s H E hr=>?_) (fun ds r hl e=>qC e)
 exact(zD (zZ (i:=2) nd TX)
  (zD (zZ (i:=3) nd (qQ pwI (PV.w (zN (zB 1) pwI))))
  (zD (zZ (i:=4) nd (pv_int1 T.b_int (zQ (PV.w (wP (TZ (zB 3) pwI) (yX (pv_eq hr (PV.n (zN (PV.w (qI (zB 1) pwI)) pwI)) pnI)))) qN)))
  (zD (zZ (i:=5) nd (qQ pwI (PV.w (qH (PV.w (PVf.s (jK (zJ (zN (PV.w (qI (zB 0) pwI)) pwI) (zJ (zN (PV.w (qI (zB 0) pwI)) pwI) zR))))) (PV.w (qI (PV.w (zN (zB 0) pwI)) pwI))))))
  (zD (qE (kI hr (pnV 3) pnI) (zE (zZ (i:=5) nd (CH rfl T.b_min (zQ (zB 5) (zQ pwI qN))))) zM)
  (zD (yQ (i:=6) nd (jK zR))
  (zD (yE PassesOwn.never rfl (tH T.b_range (zL 5)) (zY (i:=7) nd) (zD (zZ (i:=8) nd (qI (zB 7) (PV.w (qQ pwI (zB 4)))))
  (zD (yQ (i:=9) nd (jK zR))
  (zD (yE PassesOwn.never rfl (tH T.b_range (zL 3)) (zY (i:=10) nd) (zD (zZ (i:=11) nd (qH (PV.w (PVf.s (jK (zJ (zL 8) (zJ (qI (zB 8) pwI) (zJ yA zR)))))) (PV.w (CH rfl T.b_min (zQ (PV.w (zN (PV.w (qQ (zB 10) (PV.w (qI (zB 1) pwI)))) (zB 3))) (zQ pwI qN))))))
  (zE (xI (i:=9) (qH (zB 2) (PV.w (zN (PV.w (qQ (PV.w (qQ (PV.w (qI (zB 1) (PV.w (qQ (zB 10) pwI)))) (PV.w (jA (PV.w (jA (zB 10) (zB 10))) pwI)))) (zB 11))) pwI)))))))
  (zD (zZ (i:=12) nd (pv_join (PV.w TX) (zB 9)))
  (zD (qE (PWv.t (wW (kI hr (pnV 4) pnI) (wG (kI hr (PV.n (zN (zB 7) pwI)) pnI)))) (zE (zZ (i:=12) nd (qQ (zB 12) (PV.w (qH (zB 2) (PV.w (zN (PV.w (qI (zB 1) pwI)) pwI))))))) zM)
  (zE (xI (i:=6) (zL 12)))))))))
  (zE (xV 6)))))))))
theorem oY:FnScope ["_law_cell","_law_great_here"] ["_law_cell"] (zH (top 29)):={}
theorem tS{f:aB}{fd:bN}(Fn:Fun K "_law_great" "_law_great" (top 29) f fd)(T:Glb K mg): FnOk P w K mg base CX0 1 f fd ["_law_cell"] (spF K 1 kN):=by
 have nd:=oY.nd;refine jF (k:=0) (g:=pC) Fn oY (fun cdv A outer s H E hr=>?_) (fun ds r hl e=>qC e)
 exact(zD (zZ (i:=1) nd (wV (PV.w (wV pwI pwI)) pwI))
  (zE (qD (PV.w (yU (PV.w (zN (zB 0) (PV.w (qQ (PV.w (jA pwI (zB 1))) pwI)))) (zB 1))))))
theorem pS:FnScope ["_law_cell","_law_k","_law_ends","_law_mixed","_law_more","_law_low","_law_behind"] ["_law_cell","_law_k","_law_ends"] (zH (top 30)):={}
theorem uU{f:aB}{fd:bN}(Fn:Fun K "_law_over" "_law_over" (top 30) f fd)(T:Glb K mg)(C__law_great:Cal P w K mg base "_law_great" 1 1 kN):FnOk P w K mg base CX0 2 f fd ["_law_cell","_law_k","_law_ends"] (spR K 3 2 lH):=by
 have nd:=pS.nd;refine fun_okR (k:=1) (p:=2) (g:=pO) Fn pS (fun cdv A outer s H E hr=>?_) (fun _ _ _ _ e=>e)
 exact(qZ (zZ (i:=3) nd (zN (PV.w (qQ (PV.w (qQ (PV.w (jA (zB 0) pwI)) (PV.w (jA (PV.w (jA (zB 1) (zB 1))) pwI)))) pwI)) pwI))
  (qZ (zZ (i:=3) nd (zN (PV.w (jA (zB 3) (zB 3))) pwI))
  (qZ (zZ (i:=4) nd (zN (PV.w (qQ (PV.w (qQ (PV.w (jA (zB 0) pwI)) (PV.w (jA (PV.w (jA (zB 1) (zB 1))) pwI)))) pwI)) pwI))
  (qZ (zZ (i:=4) nd (zN (PV.w (jA (zB 4) (zB 3))) pwI))
  (qZ (zZ (i:=5) nd (yU (PV.w (zN (PV.w (qI (zB 3) pwI)) pwI)) pwI))
  (qZ (qE (PWv.t (wW (kI hr (PV.n (zN (zB 3) pwI)) pnI) (wG (UK hr (CD 2) (PV.n (PVf.s (jK zR))))))) (zE (zZ (i:=5) nd (yU (PV.w (qQ (PV.w (CG 2 (qH (zB 2) (PV.w (zN (PV.w (qI (zB 3) pwI)) (PV.w (yH T.b_len (zQ (zB 2) qN)))))))) (PV.w (zN (PV.w (qI (zB 3) pwI)) pwI)))) pwI))) zM)
  (qZ (qE (kI hr (PV.n (zN (zB 3) pwI)) pnI) (zE (zZ (i:=5) nd (qH (PV.w (PVf.s (jK (zJ (yU (PV.w (zN (zB 0) (PV.w (qQ (PV.w (jA pwI (PV.w (wV pwI pwI)))) pwI)))) (PV.w (wV pwI pwI))) (zJ (qB C__law_great hr (zG (pnV 0) zS)) zR))))) (PV.w (zN (PV.w (qI (zB 3) pwI)) pwI))))) zM)
  (qZ (zZ (i:=6) nd (qQ (PV.w (qQ (zB 5) pwI)) (PV.w (qH (PV.w (PVf.s (jK (zJ (zN (PV.w (qI (zB 4) pwI)) pwI) (zJ (zN (PV.w (qI (zB 4) pwI)) pwI) (zJ (zN (PV.w (jA (zB 0) pwI)) (PV.w (wV pwI pwI))) (zJ yA zR))))))) (PV.w (zN (zB 4) pwI))))))
  (qZ (qE (PWv.t (wW (kI hr (PV.n (zN (zB 4) pwI)) pnI) (wG (UK hr (CD 2) (PV.n (PVf.s (jK zR))))))) (zE (zZ (i:=6) nd (KZ rfl T.b_max (zQ (zB 6) (zQ (PV.w (CG 2 (qH (zB 2) (PV.w (zN (PV.w (qI (zB 4) pwI)) (PV.w (yH T.b_len (zQ (zB 2) qN)))))))) qN))))) zM)
  (qZ (EW (jV 2) (zL 5))
  (qZ (EW (jV 2) (zL 6))
  (qZ (qE (EU (PV.w (zN (PV.w (qI (zB 4) pwI)) pwI)) pwI) (zE (zZ (i:=5) nd qX)) zM)
  (qZ (qE (pt_in (PV.n (zN (PV.w (qI (zB 4) pwI)) pwI)) (PV.n (yG (zJ yA (zJ yA zR))))) (zE (zZ (i:=6) nd qX)) zM)
  (prv_ret (pvx_v (yG (zJ (zL 5) (zJ (zL 6) zR))))))))))))))))))
theorem rQ:FnScope ["_law_over_here","_law_place"] ["_law_over_here","_law_place"] (zH (top 31)):={}
theorem DA{f:aB}{fd:bN}(Fn:Fun K "_law_has" "_law_has" (top 31) f fd)(T:Glb K mg): FnOk P w K mg base CX0 1 f fd ["_law_over_here","_law_place"] (spF K 2 mN):=by
 have nd:=rQ.nd;refine jF (k:=0) (g:=rC) Fn rQ (fun cdv A outer s H E hr=>?_) (fun ds r hl e=>qC e);exact(zE (qD (PV.w (wP (KY (LA (PV.n (qH (zB 0) pwI)) (PV.n qX)) (yX (UA (PV.w (qH (zB 0) pwI)) (zB 1)))) (yX (KY (LA (PV.n (qH (zB 0) pwI)) (PV.n qX)) (yX (TZ (zB 1) (PV.w (qH (zB 0) pwI))))))))))
theorem rR:FnScope ["_law_deeds","_law_names_here","_law_place","_law_lies","_law_name","_law_over_here","_law_laid_there"] ["_law_deeds","_law_names_here","_law_place"] (zH (top 32)):={}
theorem DB{f:aB}{fd:bN}(Fn:Fun K "_law_due" "_law_due" (top 32) f fd)(T:Glb K mg)(C__law_has:Cal P w K mg base "_law_has" 1 2 mN):FnOk P w K mg base CX0 2 f fd ["_law_deeds","_law_names_here","_law_place"] (spF K 3 iI):=by
 have nd:=rR.nd;have nI0:(["_law_name","_law_lies"]:List Str).Nodup:=by decide +kernel
 refine jF (k:=1) (g:=nP) Fn rR (fun cdv A outer s H E hr=>?_) (fun ds r hl e=>qC e)
 exact(zD (xB (i:=3) nd EM)
  (zD (yE PassesOwn.never rfl (jP (zL 0)) (vZ (n:=3) rfl (qS (zY (i:=4) nd) (qS (zY (i:=5) nd) (qS (zY (i:=6) nd) xU)))) (zE (qE (PVn.t (PV.n (qB C__law_has hr (zG (pnV 5) (zG (pnV 2) zS))))) (zE (kC hr (jV 3) (zL 4) (zL 6))) zM)))
  (zE (xW (EN 3 (yV (NY:=["_law_name","_law_lies"]) (mp:=[none,some 3]) (jN (by kernel_rfl)) rfl (jP (PVf.s (rS T.b_sorted (zB 1)))) (fun c=>(zY (i:=0) nI0)) (fun c=>(LM (PVn.t (PV.n (UC hr (zL 1) (zL 0) vS))))) (fun c=>(zL 0))))))))
theorem tF:FnScope ["_law_found","_law_due_here"] ["_law_found","_law_due_here"] (zH (top 33)):={}
theorem GD{f:aB}{fd:bN}(Fn:Fun K "_law_is" "_law_is" (top 33) f fd)(T:Glb K mg): FnOk P w K mg base CX0 1 f fd ["_law_found","_law_due_here"] (spF K 2 fS):=by
 have nd:=tF.nd;have nI0:(["_law_name"]:List Str).Nodup:=by decide +kernel
 refine jF (k:=0) (g:=pB) Fn tF (fun cdv A outer s H E hr=>?_) (fun ds r hl e=>qC e);exact(zE (qD (PV.w (wP (II T.b_isinstance T.b_list (by decide +kernel) (zB 0)) (wP (pv_eq hr (pnV 0) (pnV 1)) (yX (IJ rfl T.b_all (zQ (PV.w (PVf.s (yV (NY:=["_law_name"]) (mp:=[none]) (jN (by kernel_rfl)) rfl (jP (zL 0)) (fun c=>(zY (i:=0) nI0)) (fun c=>vQ) (fun c=>(II T.b_isinstance T.b_str (by decide +kernel) (zB 0)))))) qN))))))))
theorem TK:FnScope ["_law_script","_law_names_here","_law_handed","_law_bundle","_law_beside","_law_deeds","_law_ends","_law_cell","_law_over_here","_law_mixed","_law_told","_law_place"] ["_law_script"] (zH (top 34)):={}
theorem fok_law{f:aB}{fd:bN}(Fn:Fun K "law" "law" (top 34) f fd)(T:Glb K mg)(C__law_names:Cal P w K mg base "_law_names" 1 2 kQ)(C__law_cell_at:Cal P w K mg base "_law_cell_at" 1 2 eN)(C__law_over:CalR P w K mg base "_law_over" 2 3 2 lH)(C__law_is:Cal P w K mg base "_law_is" 1 2 fS)(C__law_due:Cal P w K mg base "_law_due" 2 3 iI)(M_lay:LCal P w K mg base "lay" 6 2 [12] (fun _=>eF))(M_lift:LCal P w K mg base "lift" 6 2 [12] (fun _=>dZ))(M_names_at:MCal P w K mg base "names_at" 3 1 [12] cN)(Mk_Bundle_0:LMk P w K mg base 24 3 1 0 cV):FnOk P w K mg base CX0 7 f fd ["_law_script"] (spF K 1 pZ):=by
 have nd:=TK.nd;have nI0:(["_law_end"]:List Str).Nodup:=by decide +kernel
 refine jF (k:=6) (g:=pY) Fn TK (fun cdv A outer s H E hr=>?_) (fun ds r hl e=>qC e)
 exact(zD (zZ (i:=1) nd (qB C__law_names hr (zG (PV.n (qB C__law_cell_at hr (zG (pnV 0) (zG pnI zS)))) (zG (PV.n (qB C__law_cell_at hr (zG (pnV 0) (zG pnI zS)))) zS))))
  (zD (xB (i:=2) nd (TV (EO T.b_list (zB 1))))
  (zD (xB (i:=3) nd (vG 2 (EL Mk_Bundle_0 hr (zJ (zL 2) zR))))
  (zD (xB (i:=4) nd (EL Mk_Bundle_0 hr (zJ (PVf.s (TW rfl T.b_list T.b_reversed (zL 1))) zR)))
  (zD (qE (UK hr (CD 2) (pnV 1)) (zE (qD (PV.w vS))) zM)
  (zD (UN (jV 2))
  (zD (yQ (i:=5) nd (jK zR))
  (zD (xB (i:=6) nd (pvo_s (VB (pvo_v (yU (PV.w (zN (PV.w (qB C__law_cell_at hr (zG (pnV 0) (zG pnI zS)))) pwI)) pwI)) LQ)))
  (zD (yE PassesOwn.never rfl (jP (PVf.s (OA (zB 0) (UP pwI) (UP pwI)))) (zY (i:=7) nd) (zD (vI (i:=8) nd (NZ C__law_over hr (FD (zL 7) (FD (yH T.b_len (zQ (zB 5) qN)) (VA (i:=6) zR)))))
  (zD (zZ (i:=9) nd (zN (PV.w (qQ (PV.w (qQ (PV.w (jA (zB 7) pwI)) (PV.w (jA (PV.w (yH T.b_len (zQ (zB 5) qN))) pwI)))) pwI)) pwI))
  (zD (zZ (i:=9) nd (zN (PV.w (jA (zB 9) (zB 9))) pwI))
  (zD (xI (i:=5) (yG (zJ (qH (zB 1) (PV.w (zN (PV.w (qI (zB 9) pwI)) (PV.w (yH T.b_len (zQ (zB 1) qN)))))) (zJ (zL 8) (zJ (pv_gt (PV.w (zN (zB 9) pwI)) pwI) zR)))))
  (zD (qE (UL (PV.w (zN (zB 9) pwI)) pwI) (zE (vI (i:=10) nd (EK M_lay hr (jV 3) (zJ (qH (PV.w (qH (zB 5) (PV.w (wN yA)))) pwI) (zJ (zL 8) zR))))) (zE (vI (i:=10) nd (EK M_lift hr (jV 3) (zJ (qH (PV.w (qH (zB 5) (PV.w (wN yA)))) pwI) (zJ (zL 8) zR))))))
  (zD (qE (yW (pnV 10) (PV.n qX)) (zE (qD (PV.w vS))) zM)
  (zD (zZ (i:=11) nd (yU (PV.w (CG 6 (qH (zB 6) (PV.w (wN yA))))) (PV.w (zN (PV.w (qI (zB 9) pwI)) pwI))))
  (zE (qE (kE 3 (xQ (PVn.t (PV.n (qB C__law_is hr (zG (PV.n (wY M_names_at hr (zL 3) (zG (pnV 11) zS))) (zG (PV.n (qB C__law_due hr (zG (pnV 5) (zG (pnV 1) (zG (pnV 11) zS))))) zS))))))) (zE (qD (PV.w vS))) zM))))))))))
  (zD (yE PassesOwn.never rfl (jP (PVf.s (uR rfl T.b_sorted T.b_set (PV.w (PVf.s (EN 6 (ZZ (zB 6) (PV.w (PVf.s (yV (NY:=["_law_end"]) (mp:=[none]) (jN (by kernel_rfl)) rfl (jP (zL 6)) (fun c=>(zY (i:=0) nI0)) (fun c=>vQ) (fun c=>(yU (zB 0) pwI)))))))))))) (zY (i:=11) nd) (zD (qE (kE 3 (xQ (PVn.t (PV.n (qB C__law_is hr (zG (PV.n (wY M_names_at hr (zL 3) (zG (pnV 11) zS))) (zG (PV.n (qB C__law_due hr (zG (pnV 5) (zG (pnV 1) (zG (pnV 11) zS))))) zS))))))) (zE (qD (PV.w vS))) zM)
  (zE (qE (kE 4 (xQ (PVn.t (PV.n (qB C__law_is hr (zG (PV.n (wY M_names_at hr (zL 4) (zG (pnV 11) zS))) (zG (PV.n (PVf.s (jK zR))) zS))))))) (zE (qD (PV.w vS))) zM))))
  (zE (qD (PV.w vS)))))))))))))
end
end K73
namespace K73
open PySem PyProof.Rows L2 FL
open Builtin.Int (intBits)
noncomputable def An(c:Int)(j:Nat):Int:=c/((j:Int)+2)+(j:Int)*(j:Int)*5
theorem innerN(c core:Int)(sz:Nat)(h1:1<=sz)(h8:sz<=8)(x0 x4 x5 x6 x7 x10 x11 x12:Sl):∃y10 y11:Sl,forG (rng1 (qF 3)) (zP 10) gL [x0,.v (.int c),.v (.str (Str.ofString "abcdefghijklmnopqrstuvwxyz")),.v (.int (sz:Int)),x4,x5,x6,x7,.v (.int core),.own [],x10,x11,x12] =
  some (.nx [x0,.v (.int c),.v (.str (Str.ofString "abcdefghijklmnopqrstuvwxyz")),.v (.int (sz:Int)),x4,x5,x6,x7,.v (.int core),.own ((baseN (An c) (c/16) sz core).map fun q=>.str (txS [q])),y10,y11,x12]):=by
 have H:∀k,k<sz->∀ds,(fun j ds=>∃y10 y11:Sl,ds=[x0,.v (.int c),.v (.str (Str.ofString "abcdefghijklmnopqrstuvwxyz")),.v (.int (sz:Int)),x4,x5,x6,x7,.v (.int core),.own (((List.range j).map fun j:Nat=>ltrB (An c j+stepN 26 core (((j:Int)+c/16)%(sz:Int)))).map fun q=>.str (txS [q])),y10,y11,x12]) k ds->∃ds1 ds2,zP 10 (.int (k:Int)) ds=some ds1/\gL ds1=some (.nx ds2)/\(fun j ds=>∃y10 y11:Sl,ds=[x0,.v (.int c),.v (.str (Str.ofString "abcdefghijklmnopqrstuvwxyz")),.v (.int (sz:Int)),x4,x5,x6,x7,.v (.int core),.own (((List.range j).map fun j:Nat=>ltrB (An c j+stepN 26 core (((j:Int)+c/16)%(sz:Int)))).map fun q=>.str (txS [q])),y10,y11,x12]) (k+1) ds2:=by
  intro k hk ds hP;obtain⟨y10,y11,rfl⟩:=hP;have kk:eV (k:Int) (k:Int):=dF (zU (m:=64) (by omega)) (zU (m:=64) (by omega)) (by decide);have kb:(0:Int)<=(k:Int)*k/\(k:Int)*k<=64:=⟨Int.mul_nonneg (by omega) (by omega),eR (AJ (show(k:Int)<=8 by omega) (show(k:Int)<=8 by omega) (by omega) (by omega)) (by decide)⟩
  have k5:eV ((k:Int)*k) 5:=dF (zU (m:=64) (by omega)) (zU (m:=64) (by decide)) (by decide);have r1:=yZ ((k:Int)+c/16) (show 0<(sz:Int) by omega);have r0:=gC ((k:Int)+c/16) (show(sz:Int)≠0 by omega);have st:=ZL 26 core (((k:Int)+c/16)%(sz:Int)) r0;have f1:=sB c (show 0<(k:Int)+2 by omega) (by omega);have ab:=YI (An c k+stepN 26 core (((k:Int)+c/16)%(sz:Int)));generalize hst:stepN 26 core (((k:Int)+c/16)%(sz:Int))=sv at *;generalize hr:((k:Int)+c/16)%(sz:Int)=r at *;refine⟨_,_,rfl,?_,.v (.int (k:Int)),.v (.int sv),rfl⟩;have z:k<16777216:=by omega
  unfold An at ab;rw[nK,dD,dD];simp only[bA,dC,hr,hst];generalize hR:(List.map (fun q=>D.str (txS [q])) (List.map (fun j:Nat=>ltrB (An c j+stepN 26 core (((j:Int)+c/16)%(sz:Int)))) (List.range k)))=R;have lR:R.length=k:=by rw[<- hR];simp
  unfold An;generalize hL:D.str (Str.ofString "abcdefghijklmnopqrstuvwxyz")=L at *;unfold gL;rw[zT (ds':=[x0,.v (.int c),.v L,.v (.int (sz:Int)),x4,x5,x6,x7,.v (.int core),.own R,.v (.int (k:Int)),.v (.int sv),x12]) (by simp[r1,mnD,st])];simp[f1,qP kk,qP k5,ab,lR,z]
 obtain⟨ds',e,y10,y11,hP⟩:=xL (ga:=zP 10) (body:=gL) (fun j ds=>∃y10 y11:Sl,ds=[x0,.v (.int c),.v (.str (Str.ofString "abcdefghijklmnopqrstuvwxyz")),.v (.int (sz:Int)),x4,x5,x6,x7,.v (.int core),.own (((List.range j).map fun j:Nat=>ltrB (An c j+stepN 26 core (((j:Int)+c/16)%(sz:Int)))).map fun q=>.str (txS [q])),y10,y11,x12]) sz H sz 0 _ (by omega) ⟨x10,x11,rfl⟩;subst hP;refine⟨y10,y11,?_⟩;rw[<- pA] at e;have ok:okR (sz:Int):=AY (by omega) (by omega);rw[xM];simp only[YM,dC] at e;simp[ok,e,baseN]
noncomputable def nmK(c:Int)(sz more:Nat)(i:Nat):List Nat:=baseN (An c) (c/16) sz ((i:Int)/(1+(more:Int)))++if more=1/\i%2=1 then [ltrB (c/7)] else []
theorem outer(c:Int)(sz more many:Nat)(h1:1<=sz)(h8:sz<=8)(hm:more<=1)(hn:many<=60)(x0:Sl):∃y7 y8 y9 y10 y11 y12:Sl,forG (rng1 (qF 5)) (zP 7) gK [x0,.v (.int c),.v (.str (Str.ofString "abcdefghijklmnopqrstuvwxyz")),.v (.int (sz:Int)),.v (.int (more:Int)),.v (.int (many:Int)),.own [],.no,.no,.no,.no,.no,.no] =
  some (.nx [x0,.v (.int c),.v (.str (Str.ofString "abcdefghijklmnopqrstuvwxyz")),.v (.int (sz:Int)),.v (.int (more:Int)),.v (.int (many:Int)),.own (((List.range many).map fun i=>txS (nmK c sz more i)).map D.str),y7,y8,y9,y10,y11,y12]):=by
 have H:∀k,k<many->∀ds,(fun j ds=>∃y7 y8 y9 y10 y11 y12:Sl,ds=[x0,.v (.int c),.v (.str (Str.ofString "abcdefghijklmnopqrstuvwxyz")),.v (.int (sz:Int)),.v (.int (more:Int)),.v (.int (many:Int)),.own (((List.range j).map fun i=>txS (nmK c sz more i)).map D.str),y7,y8,y9,y10,y11,y12]) k ds->∃ds1 ds2,zP 7 (.int (k:Int)) ds=some ds1/\gK ds1=some (.nx ds2)/\(fun j ds=>∃y7 y8 y9 y10 y11 y12:Sl,ds=[x0,.v (.int c),.v (.str (Str.ofString "abcdefghijklmnopqrstuvwxyz")),.v (.int (sz:Int)),.v (.int (more:Int)),.v (.int (many:Int)),.own (((List.range j).map fun i=>txS (nmK c sz more i)).map D.str),y7,y8,y9,y10,y11,y12]) (k+1) ds2:=by
  intro k hk ds hP;obtain⟨y7,y8,y9,y10,y11,y12,rfl⟩:=hP;have f1:=sB (k:Int) (show 0<1+(more:Int) by omega) (by omega);have ab:=YI (c/7);dsimp only;rw[nK,dD,dD];simp only[bA,dC];generalize hR:(List.map D.str (List.map (fun i=>txS (nmK c sz more i)) (List.range k)))=R;have lR:R.length=k:=by rw[<- hR];simp
  have z:k<16777216:=by omega
  obtain⟨z10,z11,ei⟩:=innerN c ((k:Int)/(1+(more:Int))) sz h1 h8 x0 (.v (.int (more:Int))) (.v (.int (many:Int))) (.own R) (.v (.int (k:Int))) y10 y11 y12;unfold nmK;have lb:=yC (An c) (c/16) sz ((k:Int)/(1+(more:Int)));have jn:=PZ (baseN (An c) (c/16) sz ((k:Int)/(1+(more:Int)))) (by omega);have ad:=add_tx (baseN (An c) (c/16) sz ((k:Int)/(1+(more:Int)))) [ltrB (c/7)] (by simp;omega);generalize hB:baseN (An c) (c/16) sz ((k:Int)/(1+(more:Int)))=B at *;refine⟨_,[x0,.v (.int c),.v (.str (Str.ofString "abcdefghijklmnopqrstuvwxyz")),.v (.int (sz:Int)),.v (.int (more:Int)),.v (.int (many:Int)),.own (R++[D.str (txS (B++if more=1/\k%2=1 then [ltrB (c/7)] else []))]),.v (.int (k:Int)),.v (.int ((k:Int)/(1+(more:Int)))),.own (B.map fun q=>.str (txS [q])),z10,z11,.v (.str (txS (B++if more=1/\k%2=1 then [ltrB (c/7)] else [])))],rfl,?_,_,_,_,_,_,_,rfl⟩;simp only[eX,eA];unfold gK;generalize hL:D.str (Str.ofString "abcdefghijklmnopqrstuvwxyz")=L at *
  rw[zT (ds':=[x0,.v (.int c),.v L,.v (.int (sz:Int)),.v (.int (more:Int)),.v (.int (many:Int)),.own R,.v (.int (k:Int)),.v (.int ((k:Int)/(1+(more:Int)))),y9,y10,y11,y12]) (by simp[f1]),
   zT (ds':=[x0,.v (.int c),.v L,.v (.int (sz:Int)),.v (.int (more:Int)),.v (.int (many:Int)),.own R,.v (.int (k:Int)),.v (.int ((k:Int)/(1+(more:Int)))),.own [],y10,y11,y12]) (by simp),
   zT ei,zT (ds':=[x0,.v (.int c),.v L,.v (.int (sz:Int)),.v (.int (more:Int)),.v (.int (many:Int)),.own R,.v (.int (k:Int)),.v (.int ((k:Int)/(1+(more:Int)))),.own (B.map fun q=>.str (txS [q])),z10,z11,.v (.str (txS B))]) (by simp[jn])]
  by_cases hmo:more=1/\k%2=1
  . obtain ⟨rfl, hk2⟩ := hmo;have hk3:(k:Int) % 2=1:=by omega
    rw[zT (ds':=[x0,.v (.int c),.v L,.v (.int (sz:Int)),.v (.int ((1:Nat):Int)),.v (.int (many:Int)),.own R,.v (.int (k:Int)),.v (.int ((k:Int)/(1+((1:Nat):Int)))),.own (B.map fun q=>.str (txS [q])),z10,z11,.v (.str (txS (B++[ltrB (c/7)])))]) (by simp[hk3,ab,ad])];simp[lR,z,hk2]
  . have hT:(andT (zV (zF eqD (zI 4) (zA (.int 1)))) (zV (zF eqD (zF qY (zI 7) (zA (.int 2))) (zA (.int 1))))) [x0,.v (.int c),.v L,.v (.int (sz:Int)),.v (.int (more:Int)),.v (.int (many:Int)),.own R,.v (.int (k:Int)),.v (.int ((k:Int)/(1+(more:Int)))),.own (B.map fun q=>.str (txS [q])),z10,z11,.v (.str (txS B))]=some false:=by
     by_cases h3:(more:Int)=1
     . have h4 : ¬(k : Int)%2=1 := fun z => hmo ⟨by omega, by omega⟩;simp[h3,h4]
     . simp[h3]
    rw[zT (ds':=[x0,.v (.int c),.v L,.v (.int (sz:Int)),.v (.int (more:Int)),.v (.int (many:Int)),.own R,.v (.int (k:Int)),.v (.int ((k:Int)/(1+(more:Int)))),.own (B.map fun q=>.str (txS [q])),z10,z11,.v (.str (txS B))]) (by
     unfold ifG
     rw[hT];rfl)]
    simp[lR,z,hmo]
 obtain⟨ds',e,y7,y8,y9,y10,y11,y12,hP⟩:=xL (ga:=zP 7) (body:=gK) (fun j ds=>∃y7 y8 y9 y10 y11 y12:Sl,ds=[x0,.v (.int c),.v (.str (Str.ofString "abcdefghijklmnopqrstuvwxyz")),.v (.int (sz:Int)),.v (.int (more:Int)),.v (.int (many:Int)),.own (((List.range j).map fun i=>txS (nmK c sz more i)).map D.str),y7,y8,y9,y10,y11,y12]) many H many 0 _ (by omega) ⟨.no,.no,.no,.no,.no,.no,rfl⟩;subst hP;refine⟨y7,y8,y9,y10,y11,y12,?_⟩;rw[<- pA] at e;have ok:okR (many:Int):=AY (by omega) (by omega);rw[xM];simp only[YM,dC] at e;simp[ok,e]
theorem nm_ok1(c:Int)(sz more i:Nat)(h1:1<=sz)(h8:sz<=8)(hm:more=1->sz<8):NmS (txS (nmK c sz more i)):=by
 refine⟨_,⟨?_,?_,?_⟩,rfl⟩
 . unfold nmK;rw[cA,yC];omega
 . unfold nmK;rw [cA,yC]
   split
   . rename_i h;have:=hm h.1;simp;omega
   . simp;omega
 . refine (YE _ _ _ _).app ?_
   split
   . intro x hx;rw[aP.mp hx];exact WC _
   . intro x hx;cases hx
theorem nm_inj(c:Int)(sz more many:Nat)(h1:1<=sz)(hm:more<=1)(hn:many<=60)(h26:sz=1->many<=26):((List.range many).map fun i=>txS (nmK c sz more i)).Nodup:=by
 rw[List.Nodup,List.pairwise_map];refine List.Pairwise.imp_of_mem ?_ List.nodup_range;intro i j hi hj hne e;rw[oB] at hi hj;have e:=ZH.mp e;unfold nmK at e;have hl:=congrArg List.length e;rw[cA,cA,yC,yC] at hl;have bi:=yC (An c) (c/16) sz ((i:Int)/(1+(more:Int)));have bj:=yC (An c) (c/16) sz ((j:Int)/(1+(more:Int)));have hb:=(List.append_inj e (by rw[bi,bj])).1
 have rg:∀k:Nat,k<many->0<=(k:Int)/(1+(more:Int))/\(k:Int)/(1+(more:Int))<676/\(sz=1->(k:Int)/(1+(more:Int))<26):=by
  intro k hk;rcases(by omega:more=0\/more=1) with rfl | rfl
  . simp only[nB, Int.add_zero, Int.ediv_one];exact⟨by omega,by omega,fun z=>by have:=h26 z;omega⟩
  . refine⟨by omega,by omega,fun z=>by have:=h26 z;omega⟩
 have hc:=YF h1 (rg i hi) (rg j hj) hb;rcases(by omega:more=0\/more=1) with rfl | rfl
 . simp only[nB, Int.add_zero, Int.ediv_one] at hc;omega
 . have par:i%2=j%2:=by
    rcases(by omega:i%2=0\/i%2=1) with a | a<;>rcases(by omega:j%2=0\/j%2=1) with b | b<;>simp[a,b] at hl ⊢
   simp only[ZA] at hc;omega
theorem VX(h c:Int):∃ns:List Str,1<=ns.length/\ns.length<=60/\(∀x∈ns,NmS x)/\ns.Nodup/\kQ [.int h,.int c]=some (.fresh (ns.map D.str)):=by
 obtain⟨sz,hsz,h1,h8⟩:∃sz:Nat,1+c%8=(sz:Int)/\1<=sz/\sz<=8:=⟨(1+c%8).toNat,by omega,by omega,by omega⟩
 obtain⟨more,hmo,hm1,hm8⟩:∃more:Nat,callB int1D (zC (andV (zF ltD (zI 3) (zA (.int 8))) (zF eqD (zF qY (zF qO (zI 1) (zA (.int 8))) (zA (.int 2))) (zA (.int 1)))) qA) [.v (.int h),.v (.int c),.v (.str (Str.ofString "abcdefghijklmnopqrstuvwxyz")),.v (.int (sz:Int)),.no,.no,.no,.no,.no,.no,.no,.no,.no]=some (.int (more:Int))/\more<=1/\(more=1->sz<8):=by
  by_cases q1:(sz:Int)<8
  . by_cases q2 : c / 8 % 2 = 1
    . exact⟨1,by simp[q1,q2,int1D],by omega,fun _=>by omega⟩
    . exact⟨0,by simp[q1,q2,int1D],by omega,fun z=>by omega⟩
  . exact⟨0,by simp[q1,int1D],by omega,fun z=>by omega⟩
 obtain⟨mn,hmn,n1,n60⟩:∃mn:Int,ixD (.lst [.int (h/4%5),.int (h/4%60)]) (.int (h%4/3))=some (.int mn)/\0<=mn/\mn<60:=by
  obtain⟨g,hg,e⟩:=SR (h/4%5) (h/4%60) (r:=h%4/3) (by omega) (by omega);exact⟨g,e,by omega,by omega⟩
 obtain⟨many,hmany,m1,m60,m26⟩:∃many:Nat,(∀x0 x1 x2 x4 x6 x7 x8 x9 x10 x11 x12:Sl,ifG (zV (zF eqD (zI 3) (zA (.int 1)))) (jS 5 (callB mnD (zC (zI 5) (zC (zA (.int 26)) qA)))) qL [x0,x1,x2,.v (.int (sz:Int)),x4,.v (.int (1+mn)),x6,x7,x8,x9,x10,x11,x12]=some (.nx [x0,x1,x2,.v (.int (sz:Int)),x4,.v (.int (many:Int)),x6,x7,x8,x9,x10,x11,x12]))/\1<=many/\many<=60/\(sz=1->many<=26):=by
  by_cases q:(sz:Int)=1
  . by_cases q2 : 26 < 1 + mn
    . exact⟨26,fun _ _ _ _ _ _ _ _ _ _ _=>by simp[q,mnD,q2],by omega,by omega,fun _=>by omega⟩
    . exact⟨(1+mn).toNat,fun _ _ _ _ _ _ _ _ _ _ _=>by rw[pN (by omega)];simp[q,mnD,q2],by omega,by omega,fun _=>by omega⟩
  . exact⟨(1+mn).toNat,fun _ _ _ _ _ _ _ _ _ _ _=>by rw[pN (by omega)];simp[q],by omega,by omega,fun z=>by omega⟩
 obtain⟨y7,y8,y9,y10,y11,y12,eo⟩:=outer c sz more many h1 h8 hm1 m60 (.v (.int h))
 have fl:flats (((List.range many).map fun i=>txS (nmK c sz more i)).map D.str)=true:=by
  generalize (List.range many).map (fun i=>txS (nmK c sz more i))=l
  induction l with
  |nil=>simp
  |cons a r ih=>simp[ih,flat]
 refine⟨(List.range many).map fun i=>txS (nmK c sz more i),by simpa using m1,by simpa using m60,fun x hx=>?_,nm_inj c sz more many h1 hm1 m60 m26,kH ?_⟩
 . obtain⟨i, _, rfl⟩ := cM.mp hx;exact nm_ok1 c sz more i h1 h8 hm8
 . unfold mI;generalize hR:((List.range many).map fun i=>txS (nmK c sz more i)).map D.str=R at *;generalize hL:D.str (Str.ofString "abcdefghijklmnopqrstuvwxyz")=L at *
   rw[zT (ds':=[.v (.int h),.v (.int c),.v L,.no,.no,.no,.no,.no,.no,.no,.no,.no,.no]) (by simp[args,hL]),
    zT (ds':=[.v (.int h),.v (.int c),.v L,.v (.int (sz:Int)),.no,.no,.no,.no,.no,.no,.no,.no,.no]) (by simp[hsz]),
    zT (ds':=[.v (.int h),.v (.int c),.v L,.v (.int (sz:Int)),.v (.int (more:Int)),.no,.no,.no,.no,.no,.no,.no,.no]) (by rw[ZQ,hmo];rfl),
    zT (ds':=[.v (.int h),.v (.int c),.v L,.v (.int (sz:Int)),.v (.int (more:Int)),.v (.int (1+mn)),.no,.no,.no,.no,.no,.no,.no]) (by simp[hmn]),
    zT (hmany _ _ _ _ _ _ _ _ _ _ _),
    zT (ds':=[.v (.int h),.v (.int c),.v L,.v (.int (sz:Int)),.v (.int (more:Int)),.v (.int (many:Int)),.own [],.no,.no,.no,.no,.no,.no]) (by simp),
    zT eo]
   simp[retXG,flatF,fl]
noncomputable abbrev tg3:D->List Sl->Option (List Sl):=tupG 3 (qM (zP 4) (qM (zP 5) (qM (zP 6) tgNil)))
theorem vF(p:Int)(x0 x1:Sl):∀(ds:Dds) (ks:List Key) (l:List D) (β : Str->Bool) (x4 x5 x6:Sl),ks.length=l.length->ks.length+ds.length<=1000->(∀x,(getKD (.inr x) ks l).getD (.bl false)=.bl (β x)) →
  ∃(ks':List Key) (l':List D) (y4 y5 y6:Sl),(∀x,(getKD (.inr x) ks' l').getD (.bl false)=.bl (ds.foldl (lI x p) (β x))) ∧
   jI tg3 gQ (ds.map ddD) [x0,x1,.v (.int p),.ob none (.dct ks (l.map OT.val)),x4,x5,x6]=some (.nx [x0,x1,.v (.int p),.ob none (.dct ks' (l'.map OT.val)),y4,y5,y6])
 |[],ks,l,β,x4,x5,x6,_,_,hβ=>⟨ks,l,x4,x5,x6,hβ,rfl⟩
 | d :: ds, ks, l, β, x4, x5, x6, hl, hz, hβ => by
   obtain⟨n,s,b⟩:=d;simp only[aO] at hz;have hs:=has3_eq s p;have tg:tg3 (ddD (n,s,b)) [x0,x1,.v (.int p),.ob none (.dct ks (l.map OT.val)),x4,x5,x6]=some [x0,x1,.v (.int p),.ob none (.dct ks (l.map OT.val)),.v (.str n),.v (spD s),.v (.bl b)]:=by simp[tg3,ddD]
   by_cases hh:hasS s p=true
   . have pl := OF (k := .inr n) (d := .bl b) hl
     have e1:∀x,(getKD (.inr x) (putKD (.inr n) (.bl b) ks l).1 (putKD (.inr n) (.bl b) ks l).2).getD (.bl false)=.bl (lI x p (β x) (n,s,b)):=fun x=>by
      rw[QH hl];unfold lI
      by_cases hx:x=n
      . subst hx;simp[hh]
      . have h1 : ¬(Sum.inr x : Key)=.inr n := fun z => hx (by cases z;rfl);have h2 : ¬(n=x/\hasS s p=true):=fun z=>hx z.1.symm;rw[if_neg h1,if_neg h2];exact hβ x
     obtain⟨ks',l',y4,y5,y6,e2,e3⟩:=vF p x0 x1 ds _ _ _ (.v (.str n)) (.v (spD s)) (.v (.bl b)) pl.1 (by omega) e1;refine⟨ks',l',y4,y5,y6,e2,?_⟩;have z:ks.length<16777216:=by omega
     have turn:gQ [x0,x1,.v (.int p),.ob none (.dct ks (l.map OT.val)),.v (.str n),.v (spD s),.v (.bl b)]=some (.nx [x0,x1,.v (.int p),.ob none (.dct (putKD (.inr n) (.bl b) ks l).1 ((putKD (.inr n) (.bl b) ks l).2.map OT.val)),.v (.str n),.v (spD s),.v (.bl b)]):=by
      have pk:=OE (.inr n) (.bl b) ks l;unfold gQ;simp[hs,hh,dputG,varP,keyD,z,putP,putO,pk]
     simp only[bA,jI,tg,bG,turn];exact e3
   . have e1:∀x,(getKD (.inr x) ks l).getD (.bl false)=.bl (lI x p (β x) (n,s,b)):=fun x=>by
      unfold lI;rw[if_neg (fun z=>hh z.2)];exact hβ x
     obtain⟨ks',l',y4,y5,y6,e2,e3⟩:=vF p x0 x1 ds _ _ _ (.v (.str n)) (.v (spD s)) (.v (.bl b)) hl (by omega) e1;refine⟨ks',l',y4,y5,y6,e2,?_⟩
     have turn:gQ [x0,x1,.v (.int p),.ob none (.dct ks (l.map OT.val)),.v (.str n),.v (spD s),.v (.bl b)]=some (.nx [x0,x1,.v (.int p),.ob none (.dct ks (l.map OT.val)),.v (.str n),.v (spD s),.v (.bl b)]):=by
      unfold gQ;simp[hs,hh]
     simp only[bA,jI,tg,bG,turn];exact e3
theorem JJ(l:List Str):flats (l.map D.str)=true:=by
 induction l with
 |nil=>simp
 |cons a r ih=>simp[ih,flat]
theorem dueN_eq(ds:Dds)(ns:List Str)(p:Int)(hd:ds.length<=900)(hn:ns.length<64):iI [.lst (ds.map ddD),.lst (ns.map D.str),.int p]=some (.fresh (((srtT ns).filter fun x=>liesF ds x p).map D.str)):=by
 obtain⟨ks,l,y4,y5,y6,e1,e2⟩:=vF p (.v (.lst (ds.map ddD))) (.v (.lst (ns.map D.str))) ds [] [] (fun _=>false) .no .no .no rfl (by simp;omega) (fun x=>rfl);have fl:=JJ ((srtT ns).filter fun x=>liesF ds x p)
 have comp:(relFO 3 (compG (viaA (mkL (srtTA (zI 1))) asLT) [none,some 3] (zP 0) (testT (rH (qF 1) (qF 0) (zA (.bl false)))) (qF 0))) [.v (.lst (ds.map ddD)),.v (.lst (ns.map D.str)),.v (.int p),.ob none (.dct ks (l.map OT.val)),y4,y5,y6]=some (((srtT ns).filter fun x=>liesF ds x p).map D.str):=by
  have st:srtTA (zI 1) [.v (.lst (ds.map ddD)),.v (.lst (ns.map D.str)),.v (.int p),.v (.dct ks l),y4,y5,y6]=some ((srtT ns).map D.str):=by
   unfold srtTA;simp[yK,hn]
  have c:compG (viaA (mkL (srtTA (zI 1))) asLT) [none,some 3] (zP 0) (testT (rH (qF 1) (qF 0) (zA (.bl false)))) (qF 0) [.v (.lst (ds.map ddD)),.v (.lst (ns.map D.str)),.v (.int p),.v (.dct ks l),y4,y5,y6]=some (((srtT ns).filter fun x=>liesF ds x p).map D.str):=by
   have lp:=(srtT_perm ns).length_eq;refine yM (items:=(srtT ns).map D.str) (by simp[st]) (by simp;omega) ?_;rw[xR D.str (fun x=>liesF ds x p) D.str];intro x hx;have e:=e1 x;refine⟨_,rfl,?_,fun _=>by simp[qU]⟩;unfold liesF;simp[qU,rH,keyD,kdD,e]
  unfold relFO relO;simp only[cU,dJ,eX,eA,otD,yI,c,bG,fl,if_true]
 refine kH ?_;unfold nP
 rw[zT (ds':=[.v (.lst (ds.map ddD)),.v (.lst (ns.map D.str)),.v (.int p),.ob none (.dct [] []),.no,.no,.no]) (by simp[args,dO0]),
  zT (ds':=[.v (.lst (ds.map ddD)),.v (.lst (ns.map D.str)),.v (.int p),.ob none (.dct ks (l.map OT.val)),y4,y5,y6]) (by
   rw[xM];simp only[dC] at e2
   simp[e2])]
 unfold retOG;rw[comp];simp[flatF,fl]
theorem is_eq(l:List Str)(hl:l.length<=1000)(h:∀x∈l,PyData.strOk x=true):fS [.lst (l.map D.str),.lst (l.map D.str)]=some (.val (.bl true)):=by
 have eq:=XQ h;have i1:∀x:Str,isiD "str" (.str x)=some (.bl true):=fun x=>by simp[isiD,tyD,kitF,kitN,kitT]
 have i2:∀l:List D,isiD "list" (.lst l)=some (.bl true):=fun l=>by simp[isiD,tyD,kitF,kitN,kitT]
 have comp:compG (viaA (qF 0) asLT) [none] (zP 0) (fun _=>some true) (isiG "str" (zI 0)) [.v (.lst (l.map D.str)),.v (.lst (l.map D.str))]=some (l.map fun _=>D.bl true):=by
  refine yM (items:=l.map D.str) (by simp) (by simp;omega) ?_;rw[yJ D.str (fun _=>D.bl true) l];intro x hx;exact⟨_,rfl,by simp[qU,i1]⟩
 have al:allD [.lst (l.map fun _=>D.bl true)]=some (.bl true):=by
  have e:(l.map fun _=>D.bl true)=(l.map fun _=>true).map D.bl:=by simp
  rw[e,vP];simp
 unfold fS runG pB;generalize hc:compG (viaA (qF 0) asLT) [none] (zP 0) (fun _=>some true) (isiG "str" (zI 0))=C at *;simp[args,i2,eq,comp,al]
theorem KJ{b:Bs}{m:Nat}{ds:Dds}{ns:List Str}(ok:BOk b m)(lo:LOk b ds)(hk:b.map (·.1)=srtT ns)(hn:ns.length<64)(hd:ds.length<=900){T:OT}(hT:BT T b)(p:Int)(x0 x2 x4 x6 x7 x8 x9 x10:Sl) :
  (relTV 3 (notT (testT (jE 2 fS (zC (methV 1 [12] cN (qF 3) (zC (zI 11) qA)) (zC (jE 3 iI (zC (zI 5) (zC (zI 1) (zC (zI 11) qA)))) qA)))))) [x0,.v (.lst (ns.map D.str)),x2,.ob none T,x4,.own (ds.map ddD),x6,x7,x8,x9,x10,.v (.int p)]=some false:=by
 obtain⟨ts,rfl,ht⟩:=hT
 have lb:b.length<64:=by
  have:=congrArg List.length hk;rw[cB,(srtT_perm ns).length_eq] at this;omega
 have na:=rV ok (by omega) p;rw[BJ lo p,hk] at na;have du:=dueN_eq ds ns p hd hn
 have is:=is_eq ((srtT ns).filter fun x=>liesF ds x p) (by
  have:=List.length_filter_le (fun x=>liesF ds x p) (srtT ns);have:=(srtT_perm ns).length_eq
  omega) fun x hx=>by
   have h1:=(eJ.mp hx).1;rw[<- hk] at h1;obtain⟨q,hq,e⟩:=cM.mp h1;exact e▸VO (ok.nm q hq)
 generalize hL:((srtT ns).filter fun x=>liesF ds x p).map D.str=L at *;unfold relTV insV;simp[ht,methV,methR,na,du,is]
theorem SU{b:Bs}{m:Nat}(ok:BOk b m)(lo:LOk b [])(hb:b.length<=1000){T:OT}(hT:BT T b)(p:Int)(x0 x1 x2 x3 x5 x6 x7 x8 x9 x10:Sl) :
  (relTV 4 (notT (testT (jE 2 fS (zC (methV 1 [12] cN (qF 4) (zC (zI 11) qA)) (zC (mkL (qR qA)) qA)))))) [x0,x1,x2,x3,.ob none T,x5,x6,x7,x8,x9,x10,.v (.int p)]=some false:=by
 obtain⟨ts,rfl,ht⟩:=hT;have na:=rV ok hb p;rw[BJ lo p] at na;have e0:((b.map (·.1)).filter fun x=>liesF [] x p)=[]:=List.filter_eq_nil_iff.mpr fun x _=>by simp[liesF]
 rw[e0] at na;have is:=is_eq [] (by simp) (fun _ h=>nomatch h);simp only[dC] at na is;unfold relTV insV;simp[ht,methV,methR,na,is]
theorem MF{l:List D}{d:D}(hl:l.length<1000):ixD (.lst (l++[d])) (.int (-1))=some d:=by
 show(atI (l++[d]) (-1))=some d;unfold atI;rw[FV (by simp)];simp
theorem VD(c k:Int)(es:List Int)(hne:0<es.length)(hc:intBits c<=1048576)(hk:0<=k)(hk':k<=1000)(hl:es.length+2<16777216):∃(s:Spn) (a b:Int),okS s/\lH (oT es) [.int c,.int k,.non]=some (spD s,oT (es++[a,b])):=
 over_ex 48271 69621 7919 39373 16807 611953 (by decide) c k es hne hc hk hk' hl
structure St1(ns:List Str)(N:Sl)(x2 x4:Sl)(ds:Dds)(es:List Int)(b:Bs)(S:List Sl):Prop where
 ex:∃(T:OT) (x7 x8 x9 x10 x11:Sl),S=[N,.v (.lst (ns.map D.str)),x2,.ob none T,x4,.own (ds.map ddD),.ob none (oT es),x7,x8,x9,x10,x11]/\BT T b
 ok:BOk b (2*ds.length)
 lo:LOk b ds
 ks:b.map (·.1)=srtT ns
 el:es.length=1+2*ds.length
theorem turn1{ns:List Str}{N x2 x4:Sl}(h1:1<=ns.length)(h60:ns.length<=60){ds:Dds}{es:List Int}{b:Bs}{S:List Sl}(st:St1 ns N x2 x4 ds es b S){c:Int}(hc:intBits c<=1048576)(hd:ds.length<30) :
  ∃S1 S2 ds' es' b',zP 7 (.int c) S=some S1/\mV S1=some (.nx S2)/\ds'.length=ds.length+1/\St1 ns N x2 x4 ds' es' b' S2:=by
 obtain⟨⟨T,x7,x8,x9,x10,x11,rfl,hT⟩,ok,lo,ks,el⟩:=st;obtain⟨s,u,w,hs,eo⟩:=VD c (ds.length:Int) es (by omega) hc (by omega) (by omega) (by omega);have m1:eV c 50021:=dF hc (zU (m:=200) (by decide)) (by decide);have m2:eV (ds.length:Int) 104729:=dF (zU (m:=64) (by omega)) (zU (m:=64) (by decide)) (by decide);generalize hm1:(c*50021+(ds.length:Int)*104729+3571)%2147483587=m';have hm1':0<=m'/\m'<2147483587:=by omega
 have mm:eV m' m':=dF (zU (m:=64) (by omega)) (zU (m:=64) (by omega)) (by decide);generalize hm:m'*m'%2147483563=mx;have hm':0<=mx/\mx<2147483563:=by omega
 have i0:=gC (mx/3) (show(ns.length:Int)≠0 by omega);have i1:=mF (mx/3) (show 0<(ns.length:Int) by omega);have r1:=yZ (mx/3) (show 0<(ns.length:Int) by omega)
 obtain⟨x,hx,ex⟩:∃x,x∈ns/\ixD (.lst (ns.map D.str)) (.int (mx/3%(ns.length:Int)))=some (.str x):=by
  have hlt:(mx/3%(ns.length:Int)).toNat<ns.length:=by omega
  refine⟨ns[(mx/3%(ns.length:Int)).toNat],sE hlt,?_⟩;rw[yB _ i0 (by simpa using i1)];simp[hlt]
 have lb:b.length<=60:=by
  have:=congrArg List.length ks;rw[cB,(srtT_perm ns).length_eq] at this;omega
 obtain⟨ps,hps⟩:∃ps,(x,ps)∈b:=by
  have:x∈b.map (·.1):=by rw[ks];exact(srtT_perm ns).mem_iff.mpr hx
  obtain⟨q,hq,e⟩:=cM.mp this;exact⟨q.2,by rw[<- e];exact hq⟩
 obtain⟨la,hla⟩:∃la:Bool,la=decide (0<mx%3):=⟨_,rfl⟩
 obtain⟨T',hT',eT⟩:∃T',BT T' (updB x (fun ps=>put1 ps (s,layV la)) b)/\(if la=true then eF else dZ) T [.str x,spD s]=some T':=by
  cases la with
  |true=>exact lay_eq ok (by omega) (by omega) hT hps hs
  |false=>exact lift_eq ok (by omega) (by omega) hT hps hs
 have ok':BOk (updB x (fun ps=>put1 ps (s,layV la)) b) (2*(ds++[(x,s,la)]).length):=by
  have:=ok.upd (x:=x) (r:=(s,layV la)) hs;simpa[Nat.mul_add] using this
 have lo':=lok_upd ok lo (x:=x) hs la;have ks':(updB x (fun ps=>put1 ps (s,layV la)) b).map (·.1)=srtT ns:=by rw[NP,ks]
 obtain⟨pl,epl⟩:∃pl:Int,∀(a0 a1 a2 a3 a4 a5 a7 a8 a10 a11:Sl),(jS 11 (zF subD (relVO 6 (zF ixD (zI 6) (un1 negD (zA (.int 1))))) (zF qY (zF qO (zI 9) (zA (.int 300007))) (zA (.int 2))))) [a0,a1,a2,a3,a4,a5,.ob none (oT (es++[u,w])),a7,a8,.v (.int mx),a10,a11]=some (.nx [a0,a1,a2,a3,a4,a5,.ob none (oT (es++[u,w])),a7,a8,.v (.int mx),a10,.v (.int pl)]):=by
  refine⟨w-mx/300007%2,fun a0 a1 a2 a3 a4 a5 a7 a8 a10 a11=>?_⟩
  have li:ixD (.lst ((es++[u,w]).map D.int)) (.int (-1))=some (.int w):=by
   have:=MF (l:=(es++[u]).map D.int) (d:=.int w) (by simp;omega);simpa using this
  have:=IF (f:=zF ixD (zI 6) (un1 negD (zA (.int 1)))) (ds:=[a0,a1,a2,a3,a4,a5,.ob none (oT (es++[u,w])),a7,a8,.v (.int mx),a10,a11]) (i:=6) rfl (x:=w) (by
   generalize (es++[u,w]).map D.int=Q at *
   simp[li])
  simp[this]
 have ts:=KJ ok' lo' ks' (by omega) (by simp;omega) hT' pl N x2 x4 (.ob none (oT (es++[u,w]))) (.v (.int c)) (.v (spD s)) (.v (.int mx)) (.v .non);have e0:D.tup [.str x,spD s,.bl la]=ddD (x,s,la):=rfl;have lst:=MF (l:=ds.map ddD) (d:=ddD (x,s,la)) (by simp;omega);have i00:ixD (ddD (x,s,la)) (.int 0)=some (.str x):=rfl;refine⟨_,[N,.v (.lst (ns.map D.str)),x2,.ob none T',x4,.own ((ds++[(x,s,la)]).map ddD),.ob none (oT (es++[u,w])),.v (.int c),.v (spD s),.v (.int mx),.v .non,.v (.int pl)],ds++[(x,s,la)],es++[u,w],_,rfl,?_,by simp,⟨T',_,_,_,_,_,rfl,hT'⟩,ok',lo',ks',by simp;omega⟩;simp only[eX,eA];have ld:(ds.map ddD).length=ds.length:=by simp
 have lN:(ns.map D.str).length=ns.length:=by simp
 rw[dD] at ts ⊢;simp only[bA,dC] at ts ⊢;generalize hDD:ddD (x,s,la)=dd at *;generalize hDS:ds.map ddD=DS at *;generalize hNS:ns.map D.str=NS at *;have z1:ds.length<16777216:=by omega
 unfold mV
 rw[zT (ds':=[N,.v (.lst NS),x2,.ob none T,x4,.own DS,.ob none (oT (es++[u,w])),.v (.int c),.v (spD s),x9,x10,x11]) (by
   unfold setR callR
   simp[hereA,ld,eo,ref_oT]),
  zT (ds':=[N,.v (.lst NS),x2,.ob none T,x4,.own DS,.ob none (oT (es++[u,w])),.v (.int c),.v (spD s),.v (.int m'),x10,x11]) (by simp[qP m1,qP m2,ld,hm1]),
  zT (ds':=[N,.v (.lst NS),x2,.ob none T,x4,.own DS,.ob none (oT (es++[u,w])),.v (.int c),.v (spD s),.v (.int mx),x10,x11]) (by simp[qP mm,hm]),
  zT (ds':=[N,.v (.lst NS),x2,.ob none T,x4,.own (DS++[dd]),.ob none (oT (es++[u,w])),.v (.int c),.v (spD s),.v (.int mx),x10,x11]) (by simp[lN,r1,ex,<- hla,e0,ld,z1]),
  zT (ds':=[N,.v (.lst NS),x2,.ob none T',x4,.own (DS++[dd]),.ob none (oT (es++[u,w])),.v (.int c),.v (spD s),.v (.int mx),.v .non,x11]) (by
   obtain⟨tt,rfl,_⟩:=hT;cases la with
   | true =>
     have hq:0<mx%3:=of_decide_eq_true hla.symm;simp only[if_true] at eT;simp[hq,setR,lentV,lentG,varP,lst,i00,eT,putP,putO]
   | false =>
     have hq : ¬0<mx%3:=of_decide_eq_false hla.symm;simp only[bJ,if_false] at eT
     simp[hq,setR,lentV,lentG,varP,lst,i00,eT,putP,putO]),
  zT (ds':=[N,.v (.lst NS),x2,.ob none T',x4,.own (DS++[dd]),.ob none (oT (es++[u,w])),.v (.int c),.v (spD s),.v (.int mx),.v .non,x11]) (by simp[notD]),
  zT (epl _ _ _ _ _ _ _ _ _ _)]
 unfold ifG;rw[ts];rfl
theorem loop1{ns:List Str}{N x2 x4:Sl}(h1:1<=ns.length)(h60:ns.length<=60):∀(cs:List Int) (ds:Dds) (es:List Int) (b:Bs) (S:List Sl),St1 ns N x2 x4 ds es b S->(∀c∈cs,intBits c<=1048576)->ds.length+cs.length<=30 →
  ∃(ds':Dds) (es':List Int) (b':Bs) (S':List Sl),jI (zP 7) mV (cs.map D.int) S=some (.nx S')/\ds'.length<=30/\St1 ns N x2 x4 ds' es' b' S'
 |[],ds,es,b,S,st,_,hl=>⟨ds,es,b,S,rfl,by simpa using hl,st⟩
 | c :: cs, ds, es, b, S, st, hc, hl => by
   simp only[aO] at hl;obtain⟨S1,S2,ds1,es1,b1,e1,e2,l1,st1⟩:=turn1 h1 h60 st (hc c (.head _)) (by omega);obtain⟨ds',es',b',S',e,hl',st'⟩:=loop1 h1 h60 cs ds1 es1 b1 S2 st1 (fun d hd=>hc d (.tail _ hd)) (by omega);refine⟨ds',es',b',S',?_,hl',st'⟩;simp only[bA,jI,e1,bG,e2];exact e
theorem loop2{b b2:Bs}{m:Nat}{ds:Dds}{ns:List Str}(ok:BOk b m)(lo:LOk b ds)(hk:b.map (·.1)=srtT ns)(hn:ns.length<64)(hd:ds.length<=900){T T2:OT}(hT:BT T b)(ok2:BOk b2 m)(lo2:LOk b2 [])(hb2:b2.length<=1000)(hT2:BT T2 b2)(x0 x2 x6 x7 x8 x9 x10:Sl) :
  ∀(ps:List Int) (x11:Sl),∃y,jI (zP 11) mU (ps.map D.int) [x0,.v (.lst (ns.map D.str)),x2,.ob none T,.ob none T2,.own (ds.map ddD),x6,x7,x8,x9,x10,x11]=some (.nx [x0,.v (.lst (ns.map D.str)),x2,.ob none T,.ob none T2,.own (ds.map ddD),x6,x7,x8,x9,x10,y])
 |[],x11=>⟨x11,rfl⟩
 | p :: ps, x11 => by
   obtain⟨y,e⟩:=loop2 ok lo hk hn hd hT ok2 lo2 hb2 hT2 x0 x2 x6 x7 x8 x9 x10 ps (.v (.int p));refine⟨y,?_⟩;have t1:=KJ ok lo hk hn hd hT p x0 x2 (.ob none T2) x6 x7 x8 x9 x10;have t2:=SU ok2 lo2 hb2 hT2 p x0 (.v (.lst (ns.map D.str))) x2 (.ob none T) (.own (ds.map ddD)) x6 x7 x8 x9 x10
   have turn:mU [x0,.v (.lst (ns.map D.str)),x2,.ob none T,.ob none T2,.own (ds.map ddD),x6,x7,x8,x9,x10,.v (.int p)]=some (.nx [x0,.v (.lst (ns.map D.str)),x2,.ob none T,.ob none T2,.own (ds.map ddD),x6,x7,x8,x9,x10,.v (.int p)]):=by
    unfold mU;rw[zT (ds':=[x0,.v (.lst (ns.map D.str)),x2,.ob none T,.ob none T2,.own (ds.map ddD),x6,x7,x8,x9,x10,.v (.int p)]) (by unfold ifG;rw[t1];rfl)];unfold ifG;rw[t2];rfl
   simp only[bA,jI,zP,bG,eX,eA,turn];exact e
theorem run_law(zs:List Int)(hl:zs.length<=63)(hb:∀c∈zs,intBits c<=1048576):pZ [.lst (zs.map D.int)]=some (.val (.bl true)):=by
 obtain⟨ns,h1,h60,hn,nd,en⟩:=VX (cel zs 0) (cel zs 1);have c0:=DE zs 0;have c1:=DE zs 1;have c2:=DE zs 2;simp only[nB,ZA] at c0 c1 c2;have c2':eN [.lst (zs.map D.int),.int 2]=some (.val (.int (cel zs 2))):=c2;have bi:=GV h1 h60 hn nd;have bi2:=GV (ns:=ns.reverse) (by simpa using h1) (by simpa using h60) (fun x hx=>hn x (cJ.mp hx)) (kS.mpr (nd.imp fun h=>Ne.symm h));have fl:=XA (srtT ns);have t1:=YC (srtT ns);have t2:=YC (srtT ns.reverse);have ok1:=MU hn nd 0;have ok2:=MU (ns:=ns.reverse) (fun x hx=>hn x (cJ.mp hx)) (kS.mpr (nd.imp fun h=>Ne.symm h));have ne:=VV fun x hx=>VO (hn x hx);obtain⟨cs,l1,l2,hcs,ecs⟩:=QV zs hb 3 27;have ecs:cutD (zs.map D.int) (some 3) (some 27)=cs.map D.int:=ecs;generalize hT:OT.ins 12 [.dct ((srtT ns).map Sum.inr) ((srtT ns).map fun _=>.lst [])]=T at *;generalize hT2:OT.ins 12 [.dct ((srtT ns.reverse).map Sum.inr) ((srtT ns.reverse).map fun _=>.lst [])]=T2 at *
 obtain⟨ds,es,b,S,e1,hds,⟨⟨T',x7,x8,x9,x10,x11,rfl,hT'⟩,okF,loF,ksF,elF⟩⟩:=loop1 (ns:=ns) (N:=.v (.lst (zs.map D.int))) (x2:=.ob none (.lst [])) (x4:=.ob none T2) h1 h60 cs [] [cel zs 2%61-30] ((srtT ns).map fun x=>(x,[]))
  [.v (.lst (zs.map D.int)),.v (.lst (ns.map D.str)),.ob none (.lst []),.ob none T,.ob none T2,.own [],.ob none (oT [cel zs 2%61-30]),.no,.no,.no,.no,.no] ⟨⟨T,.no,.no,.no,.no,.no,rfl,t1⟩,ok1,MC _,by rw[fG];exact List.map_id _,rfl⟩ hcs (by simp;omega)
 obtain⟨y,e2⟩:=loop2 okF loF ksF (by omega) (by omega) hT' (ok2 (2*ds.length)) (MC _) (by have:=(srtT_perm ns.reverse).length_eq;simp at this ⊢;omega) t2 (.v (.lst (zs.map D.int))) (.ob none (.lst [])) (.ob none (oT es)) x7 x8 x9 x10 (srtU (es++es.map fun v=>v-1)) x11
 have pls:(viaA (mkL (srtSA (mkL (relFO 6 (catA (zI 6) (mkL (compG (viaA (qF 6) asLT) [none] (zP 0) (fun _=>some true) (zF subD (zI 0) (zA (.int 1)))))))))) asLT) [.v (.lst (zs.map D.int)),.v (.lst (ns.map D.str)),.ob none (.lst []),.ob none T',.ob none T2,.own (ds.map ddD),.ob none (oT es),x7,x8,x9,x10,x11]=some ((srtU (es++es.map fun v=>v-1)).map D.int):=by
  have cm:compG (viaA (qF 6) asLT) [none] (zP 0) (fun _=>some true) (zF subD (zI 0) (zA (.int 1))) [.v (.lst (zs.map D.int)),.v (.lst (ns.map D.str)),.ob none (.lst []),.ob none T',.ob none T2,.own (ds.map ddD),.v (.lst (es.map D.int)),x7,x8,x9,x10,x11]=some ((es.map fun v=>v-1).map D.int):=by
   refine yM (items:=es.map D.int) (by simp) (by simp;omega) ?_;rw[yJ D.int (fun v=>D.int (v-1)),fG]
   . rfl
   . intro v hv;exact⟨_,rfl,by simp[qU]⟩
  have ca:catA (zI 6) (mkL (compG (viaA (qF 6) asLT) [none] (zP 0) (fun _=>some true) (zF subD (zI 0) (zA (.int 1))))) [.v (.lst (zs.map D.int)),.v (.lst (ns.map D.str)),.ob none (.lst []),.ob none T',.ob none T2,.own (ds.map ddD),.v (.lst (es.map D.int)),x7,x8,x9,x10,x11]=some ((es++es.map fun v=>v-1).map D.int):=by
   have z:es.length+es.length<=16777216:=by omega
   generalize hC:compG (viaA (qF 6) asLT) [none] (zP 0) (fun _=>some true) (zF subD (zI 0) (zA (.int 1)))=C at *;rw[dD];generalize hE:(es.map fun v=>v-1).map D.int=E at *;have lE:E.length=es.length:=by rw[<- hE];simp
   simp[cm,lE,z]
  have fi:=JK (es++es.map fun v=>v-1);have hi:=BH (es++es.map fun v=>v-1)
  have rel:relFO 6 (catA (zI 6) (mkL (compG (viaA (qF 6) asLT) [none] (zP 0) (fun _=>some true) (zF subD (zI 0) (zA (.int 1)))))) [.v (.lst (zs.map D.int)),.v (.lst (ns.map D.str)),.ob none (.lst []),.ob none T',.ob none T2,.own (ds.map ddD),.ob none (oT es),x7,x8,x9,x10,x11]=some ((es++es.map fun v=>v-1).map D.int):=by
   unfold relFO relO;simp only[cU,dJ,eX,eA,LR,ca,bG,fi,if_true]
  have z4:(es++es.map fun v=>v-1).length+1<4096:=by simp;omega
  generalize relFO 6 (catA (zI 6) (mkL (compG (viaA (qF 6) asLT) [none] (zP 0) (fun _=>some true) (zF subD (zI 0) (zA (.int 1))))))=R at *;generalize hQ:es++es.map (fun v=>v-1)=Q at *;unfold srtSA;simp[rel,hi,z4]
 refine kH ?_;unfold pY;generalize hZ:zs.map D.int=Z at *;have rv:(ns.map D.str).reverse=ns.reverse.map D.str:=by simp
 generalize hNS:ns.map D.str=NS at *;generalize hNR:ns.reverse.map D.str=NR at *;have oV:otD (.lst (NS.map OT.val))=.lst NS:=by rw[otD,yI]
 rw[zT (ds':=[.v (.lst Z),.v (.lst NS),.no,.no,.no,.no,.no,.no,.no,.no,.no,.no]) (by simp[args,c0,c1,en]),
  zT (ds':=[.v (.lst Z),.v (.lst NS),.ob none (.lst (NS.map OT.val)),.no,.no,.no,.no,.no,.no,.no,.no,.no]) (by simp[lisA]),
  zT (ds':=[.v (.lst Z),.v (.lst NS),.ob none (.lst (NS.map OT.val)),.ob none T,.no,.no,.no,.no,.no,.no,.no,.no]) (by
   simp only[KO];unfold relGO relO makeO
   simp[oV,bi,fl]),
  zT (ds':=[.v (.lst Z),.v (.lst NS),.ob none (.lst (NS.map OT.val)),.ob none T,.ob none T2,.no,.no,.no,.no,.no,.no,.no]) (by
   simp only[KO];unfold makeO
   simp[revA,rv,bi2]),
  zT (ds':=[.v (.lst Z),.v (.lst NS),.ob none (.lst (NS.map OT.val)),.ob none T,.ob none T2,.no,.no,.no,.no,.no,.no,.no]) (by simp[oV,ne]),
  zT (ds':=[.v (.lst Z),.v (.lst NS),.ob none (.lst []),.ob none T,.ob none T2,.no,.no,.no,.no,.no,.no,.no]) (by simp[clrP,varP,isL,putP,putO]),
  zT (ds':=[.v (.lst Z),.v (.lst NS),.ob none (.lst []),.ob none T,.ob none T2,.own [],.no,.no,.no,.no,.no,.no]) (by simp),
  zT (ds':=[.v (.lst Z),.v (.lst NS),.ob none (.lst []),.ob none T,.ob none T2,.own [],.ob none (oT [cel zs 2%61-30]),.no,.no,.no,.no,.no]) (by simp[c2',sO,oT]),
  zT (by rw[xM];simp[ecs,e1];rfl),
  zT (ds':=[.v (.lst Z),.v (.lst NS),.ob none (.lst []),.ob none T',.ob none T2,.own (ds.map ddD),.ob none (oT es),x7,x8,x9,x10,y]) (by rw[xM,pls];exact e2)]
 simp
end K73
namespace K73
open PySem PyProof.Rows L2 FL
set_option maxHeartbeats 0 in
theorem all_mk{l:NE}{w:bW}{K:aL}{h:Heap}{mg:Str->Option aA}{fa:aB}(X:K.In h)(G:h.Ns aS mg)(hfa:mg "law" = some (.ref fa)){K12 f0 f1 f2 f3 f4 f5 f6 f7 f8 f9 f10 f11 f12 f13 f14 f15 f16 f17 f18 f19 f20 f21 f22 f23:aB}{t0 t1 t2:Tok}{f24:aB}{od24 an24:Option aB}{sl24:Array (Option aA)}{oc24 kV24 dc24 pm24 cd24 ct24:aA}(q12:CN K "Bundle" K12)(na12_lying:NoAttr K K12 "lying")(d0:DefM K "has" (top 5) f0)(d1:DefM K "later_low" (top 8) f1)(d2:DefM K "earlier_behind" (top 9) f2)(d3:DefM K "ends_ahead" (top 7) f3)(d4:DefM K "meet" (top 6) f4)(d5:DefM K "knit" (top 11) f5)(d6:DefM K "parts_in" (top 12) f6)(d7:DefM K "rows_over" (top 13) f7)(d8:DefM K "value_at" (top 15) f8)(d9:DefM K "is_name" (top 19) f9)(d10:DefM K "put" (top 21) f10)(d11:DefM K "check_names" (top 25) f11)(d12:DefC K K12 "__init__" "Bundle.__init__" (fT (top 24) 0) f12)(d13:DefC K K12 "only" "Bundle.only" (fT (top 24) 4) f13)(d14:DefC K K12 "lay" "Bundle.lay" (fT (top 24) 1) f14)(d15:DefC K K12 "lift" "Bundle.lift" (fT (top 24) 2) f15)(d16:DefC K K12 "names_at" "Bundle.names_at" (fT (top 24) 3) f16)(d17:DefM K "_law_cell_at" (top 27) f17)(d18:DefM K "_law_names" (top 28) f18)(d19:DefM K "_law_great" (top 29) f19)(d20:DefM K "_law_over" (top 30) f20)(d21:DefM K "_law_has" (top 31) f21)(d22:DefM K "_law_due" (top 32) f22)(d23:DefM K "_law_is" (top 33) f23)(a24:aY K aS "law" = some (some (.ref f24)))(l24:LkF K f24 oc24 od24 "law" "law" (top 34) .none kV24 dc24 pm24 an24 cd24 ct24 sl24)(c24:gH K cd24 "law" = true)(k24:cE K (.ref f24)=true)(mk12:rM K K12=true)(kc12:cE K (.ref K12)=true)(z0:aY K aS "all" = some none)(z1:aY K aS "int" = some none)(z2:aY K aS "isinstance" = some none)(z3:aY K aS "len" = some none)(z4:aY K aS "list" = some none)(z5:aY K aS "max" = some none)(z6:aY K aS "min" = some none)(z7:aY K aS "range" = some none)(z8:aY K aS "reversed" = some none)(z9:aY K aS "set" = some none)(z10:aY K aS "sorted" = some none)(z11:aY K aS "str" = some none)(v0:aY K aS "LETTERS" = some (some (.str "abcdefghijklmnopqrstuvwxyz" t0)))(v1:aY K aS "MOST_LETTERS" = some (some (.int 8 t1)))(v2:aY K aS "MOST_NAMES" = some (some (.int 60 t2))) :
  ∃fd:bN,(∀(s:aC) (v:aA),RL s fd ⟨[v],[]⟩ [("_law_script",v)])/\∀base:Heap,K.In base->base.Ns aS mg->FnOk l.prog w K mg base CX0 7 fa fd ["_law_script"] (HZ K 63):=by
 have e:=hfa.symm.trans (hJ X G a24);cases e;obtain⟨n12,cl12⟩:=q12.get;have T:Glb K mg:=⟨cK X G z0,cK X G z1,cK X G z2,cK X G z3,cK X G z4,cK X G z5,cK X G z6,cK X G z7,cK X G z8,cK X G z9,cK X G z10,cK X G z11,⟨_,hJ X G v0⟩,⟨_,hJ X G v1⟩,⟨_,hJ X G v2⟩,(fldOk_c n12 cl12 na12_lying QJ),(newOk (t:=24) (by exact n12) cl12 na12_lying)⟩
 obtain⟨_,F12,a12,k12,i12⟩:=d12.get;have b12:=F12.binds (ps:=["self","names"]) fun _ _ _ _ _ _=>len2 fun _ _=>rfl;have F24:=JH (st:=(top 34)) l24 c24 k24;refine⟨cZ "law" "law" (jL (top 34)) (qT (top 34)) (zH (top 34)) .none kV24 dc24 pm24 an24 cd24 ct24,fun s v=>.of_eq rfl,fun base _ _=>?_⟩;have S:SysAt l.prog w base K mg:=⟨h,X,G⟩
 have C_has:=d0.cal S fun F=>fok_has F T;have C_later_low:=d1.cal S fun F=>uT F T;have C_earlier_behind:=d2.cal S fun F=>pH F T;have C_ends_ahead:=d3.cal S fun F=>tQ F T;have C_meet:=d4.cal S fun F=>WY F T C_later_low C_earlier_behind C_ends_ahead;have C_knit:=d5.cal S fun F=>WZ F T;have C_parts_in:=d6.cal S fun F=>CZ F T C_meet;have C_rows_over:=d7.cal S fun F=>uS F T C_parts_in;have C_value_at:=d8.cal S fun F=>CY F T C_has;have C_is_name:=d9.cal S fun F=>GC F T;have C_put:=d10.cal S fun F=>fok_put F T C_knit C_rows_over;have C_check_names:=d11.cal S fun F=>sG F T C_is_name;have G12:=oH F12 T C_check_names;have M_only:MCal l.prog w K mg base "only" 2 1 [12] dE:=(d13.mc n12 cl12 (fun F=>sH F T C_is_name) FM)
 have C__law_cell_at:=d17.cal S fun F=>rE F T;have C__law_names:=d18.cal S fun F=>tR F T;have C__law_great:=d19.cal S fun F=>tS F T;have C__law_over:=d20.calR S fun F=>uU F T C__law_great;have C__law_has:=d21.cal S fun F=>DA F T;have C__law_due:=d22.cal S fun F=>DB F T C__law_has;have C__law_is:=d23.cal S fun F=>GD F T;have M_lay:LCal l.prog w K mg base "lay" 6 2 [12] (fun _=>eF):=(d14.lc n12 cl12 (fun F=>tT F T C_put M_only) FQ)
 have M_lift:LCal l.prog w K mg base "lift" 6 2 [12] (fun _=>dZ):=(d15.lc n12 cl12 (fun F=>sI F T C_put M_only) FQ)
 have M_names_at:MCal l.prog w K mg base "names_at" 3 1 [12] cN:=(d16.mc n12 cl12 (fun F=>oG F T C_value_at) FM)
 have Mk_Bundle_0:LMk l.prog w K mg base 24 3 1 0 cV:=⟨⟨K12,f12,_,_,by exact n12,hJ X G n12,⟨mk12,a12,i12,kc12⟩,G12,b12⟩⟩
 exact law_ofB (F:=pZ) (fok_law F24 T C__law_names C__law_cell_at C__law_over C__law_is C__law_due M_lay M_lift M_names_at Mk_Bundle_0) run_law
end K73
namespace PySem.W.Fast
def tw18173074891921973996:=0
def tw8498587034323999385:=0
def tw4707809208218452185:=0
def tw12326814808542202005:=0
def tw17019922765444583261:=0
def tw6234688765207302978:=0
def tw10431967323452210851:=0
def tw1973610791779394757:=0
def tw1312586361652976290:=0
def tw9965685329195668196:=0
def tw16863233783826363192:=0
def tw8572215461899316206:=0
def tw14152273671534984583:=0
def tw9513950047961388056:=0
def tw18338404783757934626:=0
def tw14830680838963655971:=0
def tw9068154511762008921:=0
def tw637375025274876217:=0
def tw7327888891417586832:=0
def tw6316852404088794848:=0
def tw14229323694977364268:=0
def tw3344694543324826238:=0
def tw2130502881683382159:=0
def tw955629870217193259:=0
def tw2569280643266610542:=0
def tw17714722476367518866:=0
def tw2205846863506283674:=0
def tw5246385761517049652:=0
def tw17457052868068787797:=0
def tw1390487634017441391:=0
def tw4587559799877618508:=0
def tw6370425719278325577:=0
def tw18221907074020814413:=0
def tw1437477695496915022:=0
def tw2037320508011850669:=0
def tw12351836860143816691:=0
def tw2741700515772593165:=0
def tw6033033210505707414:=0
def tw9131623566360250688:=0
def tw18008634671129066056:=0
def tw17031511158487758437:=0
def tw14407927424888711512:=0
def tw4692617257722330156:=0
def tw13329609769075124711:=0
def tw14834180908852349068:=0
def tw10120408230795571701:=0
def tw3655501932382315828:=0
def tw2383023679821080804:=0
def tw10836485608800036007:=0
def tw14026778661051203820:=0
def tw8580445378074330758:=0
def tw12915588292242407772:=0
def tw12557812123039013919:=0
def tw14396921645220868024:=0
def tw3261211731225737413:=0
def tw17409859578819007769:=0
def tw5397980861841886463:=0
def tw15876845608543188209:=0
def tw1250606190292624439:=0
def tw14922633112950816421:=0
def tw16757336525464526254:=0
def tw4132126216535102414:=0
def tw14298007249058703036:=0
def tw3043837796243648238:=0
def tw8291023626156808476:=0
def tw11560524002906685330:=0
def tw17452484589747014691:=0
def tw18341685970856543086:=0
def tw18421446253453406724:=0
def tw16971067770649192157:=0
def tw2911598664079756128:=0
def tw1030482646243206430:=0
def tw132805688105053029:=0
def tw11542029750706945256:=0
def tw17870213309823500168:=0
def tw753913713731787232:=0
def tw9588867124598758052:=0
def tw156010577176171877:=0
def tw7320642767201446591:=0
def tw5484170106041484650:=0
def tw9035726265710618791:=0
def tw1528711733619622460:=0
def tw15637956454078238062:=0
def tw2325228867370921452:=0
def tw6039816537989669485:=0
def tw11900820066561335147:=0
def tw3831953577400135114:=0
def tw7294628550027775495:=0
def tw6319922635434506825:=0
def tw4167288572551060549:=0
def tw15271415510767387899:=0
def tw16123924478108887973:=0
def tw17348064423565648663:=0
def tw11707469219468559411:=0
def tw9120943313133060928:=0
def tw5559446488459357978:=0
def tw7706300137290844485:=0
def tw5258182894997091091:=0
def tw2600525958880082484:=0
def tw4364361405884237443:=0
def tw7717556271584570382:=0
def tw18282063381421715369:=0
def tw12951494545273161508:=0
def tw5562771484434912427:=0
def tw6894081603058011520:=0
def tw5973698941713283394:=0
def tw13165218860927833901:=0
def tw12032793267383655184:=0
def tw4830808494182017907:=0
def tw16722531282023446946:=0
def tw15227383276459395776:=0
def tw11125198831982847497:=0
def tw4031019293600977187:=0
end PySem.W.Fast
def PySem.W.Fast.tw16146040500711588922:Unit:=()
def PySem.W.Fast.tw7490707798570910745:Unit:=()
def PySem.W.Fast.tw6810873507285823920:Unit:=()
def PySem.W.Fast.tw18046275605861867130:Unit:=()
def PySem.W.Fast.tw9156316859894935140:Unit:=()
def PySem.W.Fast.tw11671599060623130592:Unit:=()
def PySem.W.Fast.tw10515289303553784153:Unit:=()
def PySem.W.Fast.tw12428181708438395336:Unit:=()
def PySem.W.Fast.tw4228629641098279103:Unit:=()
def PySem.W.Fast.tw7600855081164665777:Unit:=()
def PySem.W.Fast.tw17283319629627198649:Unit:=()
def PySem.W.Fast.tw5525745755858792235:Unit:=()
open PySem PySem.W PyProof.Rows
set_option maxRecDepth 100000 in
set_option maxHeartbeats 0 in
theorem PySem.Challenge.cw_spanmap_k73_names_at_holds : PySem.Challenge.rw_spanmap_k73_names_at.Holds := by
 w_on; o_law; k_head; (case hw=>w_witness2)
 k_fill
 refine' FL.walkB (l:=PySem.Challenge.rw_spanmap_k73_names_at) (k:=7) rfl rfl ⟨rfl,by decide,by decide⟩ (fun w h Y=>PySem.W.kIn_of Y) (fun w=>by kernel_rfl) ?T ?F
 case T =>
  intro w;dsimp only [L2.makers]
  repeat (first
   | exact FL.TabL.nil
   | (apply FL.tabL_no; k_is)
   | (apply FL.tabL_yes; k_is; k_is; exact rfl; k_is; exact rfl; kernel_rfl))
  all_goals decide
 case F =>
  intro w mg fa h KX G hmg;refine' K73.all_mk KX G hmg ..
  all_goals first | ((first | unfold FL.DefM | unfold FL.DefC); iterate 9 (apply Exists.intro); repeat' (first | (unfold FL.LkF; k_is) | k_is | apply And.intro)) | ((first | unfold FL.CN | unfold FL.XN | unfold FL.XI); repeat' (first | k_is | apply And.intro | decide)) | (unfold L2.NoAttr; k_is) | (unfold FL.LkF; k_is) | k_is | k_exc | decide | exact rfl | skip
#print axioms PySem.Challenge.cw_spanmap_k73_names_at_holds
