import PyProof.Rows.All
import Wide.All
import OpenK.AllK
import Wide.FinOn
import Lean
import PyProof.EqAt
import PyProof.DictItems
import PyProof.DictWalks
import PyProof.Rows.SortStr
import PyProof.Rows.SortShellK
import PyProof.Rows.SortWalk
import KE.KRevIter
import KE.KDictList
import PyProof.CollectIter
import PyProof.DictValues
import KE.KDictSum
import PyProof.EqKinds
import PyProof.TupleCall
import PyProof.ListRange
import PyProof.P3In
import PyProof.NeData
import PyProof.NsDelKeeps
import PyProof.SliceList
import KE.KLam
import KE.KIntText
import PySem.Challenge.RW_spanmap_k74_only_and_sets
set_option compiler.extract_closed false
set_option genSizeOfSpec false
set_option bootstrap.genMatcherCode false
set_option Elab.async false
set_option linter.all false
set_option maxRecDepth 100000
open PySem renaming wpAny_bind→aA,Addr→aG,wpAny_pure→aJ,starEach→aK,Value→aN,mainGlobals→aV,model→aZ,Shared→bH,wpAny→bL,FuncData→bR,Program→cF,eval→cI,World→dE,behindInMarks→dH,wpAny_holding→dR,backTo→dS,wpAny_mono→eA,compareOp→eC,wpAny_newObj_type→eI,foldedSetIterable→eJ,swapsWith→eM,IntMulOk→eS,Around→eX,attributeBase→fA,bootBuiltins→fG,wpAny_call_entry→fJ,wpAny_Call_Name_kw→fO,mem_of_lookup→fY,wpAny_truthy_bool→fZ,keywordEach→gA,assignEach→gD,holding→gN,codeAny→gO,codeAny_mono→gX,wpAny_passesOwn→hX,wpAny_setState_of→iG,wpAny_rule→iP,scanBound→iX,binaryOp→kS,codeAny_builtin→kT,sysModules→kX,sizeLine_eq→lD,wpAny_setField→lP,backToKw→lQ,builtinLookup_eq_fast→mM,standAt→mX,sliceBounds→nA,getMethod→nS,tupleKind_room_in1→nX,NameKind→oA,wpAny_pyIter_list→oR,getItem→oU,fits_of_scanBound→oV,Keyword→oW,rawInt→oX,wpAny_callSpecial?_slot→pW,wpAny_typeOf→rG,wpAny_specialOf→sA,wpAny_execs_nil→sB,typeLookup_type→sC,bindArgs→sW,IsPart→sY,hashInt→tG,plainId_quiet→uN,wpAny_call→uZ,builtinsNs→AA,assign→AB,Paired→AG,setField→DP,relayAll→DQ,intKind→DR,callerA→DT,callWith→DU,SetTable→DW,wpAny_askSetting→EV,tupleKind→EW,pyIter→EX,isTrue→EY,PassesOwn→FD,subscripted→HX,letOwnedTupleGo→JU,codeAny_of_tree→JV,valueAt→JZ,setNext→KA,wpAny_runValue→NP,isSubtype_type→NR,wpAny_standAt→RL,wpAny_newList→RM,swapsWithSole→RN,swappedStores→RO,putSet_of→VL,bindL→VN,bindC→VO,atKey→VP,seqIndex_neg→ZE,argsOk→ZH,BindsTo→ZO
open List renaming mem_cons→aB,getElem?_set_ne→aE,getElem?_eq_getElem→aF,length_cons→aH,mem_append_right→aI,mem_cons_of_mem→aL,mem_singleton→aO,map_cons→aQ,mem_cons_self→aS,getElem?_eq_some_iff→aW,getElem?_eq_none→aY,mem_append_left→bA,getElem?_set_self→bB,size_toArray→bC,mem_append→bE,pairwise_cons→bF,getElem?_map→bI,append_assoc→bK,nodup_cons→bM,mem_map→bN,pairwise_iff_getElem→bP,getElem?_append_left→bW,length_append→bX,foldl_cons→cB,length_map→cD,lookup_cons→cH,nodup_append→cJ,find?_cons→cK,getElem?_append_right→cL,drop_eq_getElem_cons→cO,take_of_length_le→cQ,map_nil→cR,nil_append→cT,map_append→cU,map_map→cV,mem_reverse→cX,getElem_of_mem→dA,cons_append→dD,append_nil→dM,set_cons_zero→dP,pairwise_singleton→dU,length_take→dW,getElem?_replicate→dX,getElem?_cons_succ→dY,getD_eq_getElem?_getD→eE,set_cons_succ→eO,getElem?_cons_zero→fB,mem_filter→fC,take_append_drop→fH,mem_of_find?_eq_some→fM,take_sublist→fQ,getElem?_take_of_lt→fT,map_congr_left→gB,drop_length→gC,find?_cons_of_neg→gP,drop_sublist→gZ,length_drop→iH,getElem_mem→iI,reverse_append→iM,filterMap_cons→iN,any_cons→iR,find?_eq_none→kM,find?_cons_of_pos→kU,ext_getElem?→kW,perm_append_comm→lJ,reverse_reverse→lV,mem_of_mem_take→lW,mem_of_getElem?→lX,mem_iff_getElem→lY,length_nil→mN,find?_some→mO,length_reverse→mS,getElem?_range→mT,mem_range→nD,getElem?_drop→nE,sum_cons→nU,range_succ→oZ,length_singleton→pL,length_replicate→pM,pairwise_append→rA,mem_of_mem_drop→rB,drop_zero→rC,drop_drop→rD,all_cons→sI,mem_filterMap→sM,pairwise_map→tH,all_eq_true→uO,of_mem_zip→AU,take_zero→EF,nodup_nil→EG,length_eraseIdx_of_lt→EH,length_eq_zero_iff→JX,getElem_cons_succ→KC,drop_of_length_le→KD,pairwise_reverse→NX,mem_of_mem_head?→NZ,getElem?_toArray→OA,append_of_mem→VS,reverse_cons→ZK,length_range→ZL,flatMap_cons→ZM,find?_append→ZN,not_mem_nil→aAf,filter_cons→aAg
open PySem.Heap renaming get?_push_of_some→aD,get?_push_size→aU,lt_size→bJ,get?_update_other→bU,get?_update_self→eN,size_push→EI
open Nat renaming le_refl→aM,ne_of_lt→bO,lt_of_lt_of_le→bY,zero_le→bZ,le_trans→cW,lt_irrefl→cZ,lt_succ_of_lt→fS,lt_succ_self→gF,lt_of_le_of_lt→kO,le_succ→mD,ne_of_gt→tW,lt_trichotomy→tX,le_of_eq→tY,zero_add→NT,sub_zero→NU,lt_trans→NV,le_of_lt→NW,le_succ_of_le→aAe
open PySem.W renaming Frag→aP,nsIn→aX,keepIn→cE,mg_none_of→cG,findIn→cP,kia_one→cS,fnOf→dL,emptyDict→eW,instObj→fI,mg_of→fP,codeIn→fV,tabIn→iJ,plainGet→kY,hasDictIn→nC,isFn→nZ,lookIn→oY,plainGet_of→pY,kitx_tuple→rJ,callWith_K→rK,plainOver→sG,kitx_list→sH,takerIn→tU,makesIn→tV,tabObj→AC,noTabs→AD,kitOne→AE,mroIn→DX,cellsFrom_some→EZ,methodCall_KW→HY,kitx_dict→OD,handedIn→RQ,OpenLaw→VQ,typeIn→ZI,CodeHd→ZJ
open Option renaming bind_some→aR,map_some→dC,getD_some→nT,isSome_map→sL,isSome_iff_exists→ED,map_eq_some_iff→HZ,getD_none→VR
open PyProof.Rows renaming wpS_bind→aT,wpS_pure→bD,pendingOf→bQ,arrOf→bT,slot_tuple_getitem→cY,wpS_forRange→dB,mulOk_of_bits→dG,IntsAre→eR,setArr→fU,callWith_type1→gE,wpS_mono→gU,oneType'→iQ,callWith_builtin1→iZ,seqObj→kN,elem'→lE,wpS_modify→mQ,reverseSlice'→mY,envOfC→nH,setPending→nY,gallopOf→pX,wpS_get→rF,size_push'→rH,AllBare→rL,wpS_lift→sV,failedOf→DS,StrsAre→DV,mergeAt'→NQ,listUpdate_at→RP,ltAt'→VM,pairsOf_size→ZF,pairsOf→ZG
open Array renaming length_toList→bG,getElem?_toList→cM,toList_append→dI,getD_eq_getD_getElem?→dZ,toList_push→eD,toList_extract→eU,size_extract→gL,toList_reverse→lT,perm_iff_toList_perm→nB,getElem?_extract→JY
open Bool renaming false_eq_true→bS,and_eq_true→bV,false_ne_true→dQ,eq_iff_iff→pB,eq_false_iff→tI
open List.Pairwise renaming sublist→cA,imp_of_mem→sX
open Int renaming le_refl→dJ,le_of_lt→eF,le_trans→fF,emod_nonneg→fR,emod_lt_of_pos→kP,natCast_zero→oO,not_lt→pA,toNat_of_nonneg→sJ,toNat_natCast→tZ,mul_le_mul→FG
open List.Perm renaming append_left→gK,refl→gW,append_right→iY,of_eq→OE
open PySem.F renaming slot_NoneType_hash→gY,called_set→mR,plainAttrs_list→nQ,sub_list_frozenset→AF,type_list_append→DY,slot_list_append→DZ,slot_dict_values→EA,entry_type_call→EC,entry_set_init→FC,sub_list_set→JW
open Array.Perm renaming refl→lF
open PySem.Heap.SameBut renaming update→EB
namespace HT
noncomputable def sIx(n d:Nat):Option Int->Nat
 |none=>d
 |some v=>if v<0 then (v+(n:Int)).toNat else min v.toNat n
end HT
namespace L2
open PySem
abbrev Key:=Sum (Option Int) Str
noncomputable def ixN(n:Nat)(i:Int):Option Nat:=if 0<=i then (if i<n then some i.toNat else none)else if -(n:Int)<=i then some (i+n).toNat else none
noncomputable def atI{α:Type}(xs:List α)(i:Int):Option α:=(ixN xs.length i).bind λj=>xs[j]?
end L2
namespace FL
open PySem PySem.Spec PyProof.Rows L2
def bnd{α β:Type}{o:Option α}{f:α->Option β}{b:β}(h:o.bind f=some b):∃a,o=some a/\f a=some b:=Option.bind_eq_some_iff.mp h
def mpd{α β:Type}{o:Option α}{f:α->β}{b:β}(h:o.map f=some b):∃a,o=some a/\f a=b:=HZ.mp h
noncomputable def eP:Nat->Str
 |0=>"Put" | 1=>"Widen" | 2=>"Narrow" | 3=>"Move" | 4=>"Stretch" | 5=>"Mirror" | 6=>"Deed" | 7=>"Shut" | 8=>"Open" | 9=>"Endless" | 10=>"End" | 11=>"Line" | 12=>"Bundle" | 13=>"Desk"
 |20=>"Line" | 21=>"Line" | 22=>"Line" | 23=>"Line" | 24=>"Bundle" | 25=>"Desk" | _=>""
noncomputable def fD:Nat->List Str
 |0=>["span","fill"]|1=>["fill","at","many"]|2=>["fill","at","many"]|3=>["fill","far"]|4=>["fill","top","bottom"]|5=>["fill"]|6=>["fill"]|7=>["place"]|8=>["place"]|11=>["pieces","places","earlier","later"]|12=>["lying"]|13=>["lines"]
 |21=>["pieces"]|22=>["pieces","places"]|23=>["pieces","places","earlier"]|_=>[]
noncomputable def tN:Nat->Str
 |0=>"either" | 1=>"if_both" | 2=>"if_alone" | 3=>"summed" | 4=>"_law_first" | 5=>"_law_both" | 6=>"_law_left" | 7=>"_law_sum" | 8=>"_law_none" | _=>""
inductive D where
 |non|bl (b:Bool)|int (i:Int)|str (x:Str)|tup (ds:List D)|lst (ds:List D)
 |dct (ks:List Key) (ds:List D)|ins (t:Nat) (ds:List D)|clo (m n:Nat) (ds:List D)
 |dcf (ks:List Key) (ds:List D)
mutual
noncomputable def flat:D->Bool
 |.non|.bl _|.int _|.str _=>true
 |.tup ds=>flats ds
 |_=>false
noncomputable def flats:List D->Bool
 |[]=>true
 |d::r=>flat d&&flats r
end
noncomputable def xName:Nat->Str
 |0=>"SpanError" | 1=>"Empty" | 2=>"NoEnd" | 3=>"Clash" | 4=>"NoCount" | 5=>"NoShare" | 6=>"NoName" | 7=>"NoMark" | 8=>"NoDeed" | 9=>"NoRule" | 10=>"TooMuch" | 11=>"NoText" | _=>"NoRow"
inductive OT where
 |val (d:D)|lst (l:List OT)|tup (l:List OT)|dct (ks:List Key) (l:List OT)|ins (t:Nat) (l:List OT)
mutual
noncomputable def otD:OT->D
 |.val d=>d
 |.lst l=>.lst (otDs l)
 |.tup l=>.tup (otDs l)
 |.dct ks l=>.dct ks (otDs l)
 |.ins t l=>.ins t (otDs l)
noncomputable def otDs:List OT->List D
 |[]=>[]
 |t::r=>otD t::otDs r
end
inductive Sl where
 |no|v (d:D)|own (l:List D)|exc (t:Nat)|fr (l:List D)|ob (r:Option Nat) (t:OT)
abbrev FE:=List Sl->Option D
abbrev FT:=List Sl->Option Bool
abbrev FA:=List Sl->Option (List D)
noncomputable def mkL(f:FA):FE:=λds=>(f ds).map D.lst
noncomputable def qB(i:Nat):FE:=λds=>match ds[i]? with|some (.v d)=>some d|_=>none
noncomputable def zG(i:Nat):FE:=λds=>match ds[i]? with|some (.v d)=>some d|some (.own l)=>some (.lst l)|_=>none
noncomputable def zA(d:D):FE:=λ_=>some d
noncomputable def zF(op:D->D->Option D)(fa fb:FE):FE:=λds=>(fa ds).bind λx=>(fb ds).bind λy=>op x y
noncomputable def isB:D->Option Bool
 |.bl b=>some b
 |_=>none
noncomputable def zK(f:FE):FT:=λds=>(f ds).bind isB
noncomputable def xK:D->D->Option D
 |.int i,.int j=>some (.int (i+j))
 |.str x,.str y=>if x.length+y.length<=sizeLine then some (.str (x++y))else none
 |_,_=>none
noncomputable def subD:D->D->Option D
 |.int i,.int j=>some (.int (i-j))
 |_,_=>none
def divOk(j:Int):Prop:=0<j/\j.natAbs.log2<9000
noncomputable instance divOkD(j:Int):Decidable (divOk j):=Classical.propDecidable _
noncomputable def qT:D->D->Option D
 |.int i,.int j=>if divOk j then some (.int (i/j))else none
 |_,_=>none
noncomputable def jA:D->D->Option D
 |.int i,.int j=>if 0<j then some (.int (i%j))else none
 |_,_=>none
noncomputable def cmpI(p:Int->Int->Bool):D->D->Option D
 |.int i,.int j=>some (.bl (p i j))
 |_,_=>none
noncomputable def andT(c d:FT):FT:=λds=>(c ds).bind λb=>if b=true then d ds else some false
noncomputable def orT(c d:FT):FT:=λds=>(c ds).bind λb=>if b=true then some true else d ds
noncomputable def notT(c:FT):FT:=λds=>(c ds).map not
noncomputable def andV(f g:FE):FE:=λds=>(f ds).bind λd=>match d with|.bl true=>g ds|.bl false=>some (.bl false)|_=>none
noncomputable def orV(f g:FE):FE:=λds=>(f ds).bind λd=>match d with|.bl true=>some (.bl true)|.bl false=>g ds|_=>none
noncomputable def notV(f:FE):FE:=λds=>(f ds).bind λd=>match d with|.bl b=>some (.bl (!b))|_=>none
noncomputable def ifV(c:FT)(f g:FE):FE:=λds=>(c ds).bind λb=>if b=true then f ds else g ds
noncomputable def chain(op op':D->D->Option D)(fa fb fc:FE):FE:=λds=>(fa ds).bind λx=>(fb ds).bind λy=>(op x y).bind λz=>match z with
 |.bl true=>(fc ds).bind λw=>op' y w
 |.bl false=>some (.bl false)
 |_=>none
noncomputable def zC(f:FE)(g:FA):FA:=λds=>(f ds).bind λx=>(g ds).map λr=>x::r
noncomputable def zT:FA:=λ_=>some []
noncomputable def qI(f:FA):FA:=λds=>(f ds).bind λl=>if l.length<=sizeLine then some l else none
noncomputable def mkT(f:FA):FE:=λds=>(f ds).map D.tup
noncomputable def ixD:D->D->Option D
 |.lst l,.int i=>atI l i
 |.tup l,.int i=>atI l i
 |.str x,.int i=>if x.length<=sizeLine then (atI x.cps.toList i).map λc=>.str ⟨#[c]⟩else none
 |_,_=>none
inductive Ret where
 |val (d:D)|fresh (l:List D)|any (d:D)|obj (t:OT)
noncomputable def retV:Ret->Option D
 |.val d=>some d
 |.fresh l=>some (.lst l)
 |.any _=>none
 |.obj t=>some (otD t)
noncomputable def retF:Ret->Option (List D)
 |.fresh l=>some l
 |_=>none
noncomputable def qZ(n:Nat)(F:List D->Option Ret)(g:FA):FE:=λds=>(g ds).bind λl=>if l.length=n then (F l).bind retV else none
noncomputable def xL(n:Nat)(F:List D->Option Ret)(g:FA):FA:=λds=>(g ds).bind λl=>if l.length=n then (F l).bind retF else none
noncomputable def callB(F:List D->Option D)(g:FA):FE:=λds=>(g ds).bind F
noncomputable def lenD:List D->Option D
 |[.lst l]=>some (.int l.length)
 |[.tup l]=>some (.int l.length)
 |[.str x]=>if x.length<=sizeLine then some (.int x.length)else none
 |_=>none
inductive Out where
 |nx (ds:List Sl)|rt (r:Ret)|bk (ds:List Sl)|ct (ds:List Sl)
abbrev FS:=List Sl->Option Out
noncomputable def qJ:FS:=λds=>some (.nx ds)
noncomputable def qL(f g:FS):FS:=λds=>(f ds).bind λo=>match o with|.nx ds'=>g ds'|o=>some o
noncomputable def ifG(c:FT)(f g:FS):FS:=λds=>(c ds).bind λb=>if b=true then f ds else g ds
noncomputable def jK(i:Nat)(f:FE):FS:=λds=>(f ds).map λd=>.nx (ds.set i (.v d))
noncomputable def setOG(i:Nat)(f:FA):FS:=λds=>(f ds).map λl=>.nx (ds.set i (.own l))
noncomputable def flatR(d:D):Option Out:=if flat d=true then some (.rt (.val d))else none
noncomputable def retG(f:FE):FS:=λds=>(f ds).bind flatR
noncomputable def flatF(l:List D):Option Out:=if flats l=true then some (.rt (.fresh l))else none
noncomputable def retOG(f:FA):FS:=λds=>(f ds).bind flatF
noncomputable def retXG(i:Nat):FS:=λds=>match ds[i]? with|some (.own l)=>flatF l|_=>none
noncomputable def putG(i:Nat)(fk fe:FE):FS:=λds=>match ds[i]? with
 |some (.own l)=>(fe ds).bind λd=>(fk ds).bind λk=>match k with
   |.int n=>(ixN l.length n).map λj=>.nx (ds.set i (.own (l.set j d)))
   |_=>none
 |_=>none
noncomputable def appG(i:Nat)(fe:FE):FS:=λds=>match ds[i]? with
 |some (.own l)=>(fe ds).bind λd=>if l.length<sizeLine then some (.nx (ds.set i (.own (l++[d]))))else none
 |_=>none
noncomputable def args(n:Nat)(ds:List D):List Sl:=ds.map Sl.v++List.replicate (n-ds.length) Sl.no
noncomputable def sgns(x:Str):List D:=x.cps.toList.map λc=>D.str ⟨#[c]⟩
noncomputable def asS:D->Option (List D)
 |.str x=>some (sgns x)
 |_=>none
noncomputable def viaA(f:FE)(k:D->Option (List D)):FA:=λds=>(f ds).bind k
noncomputable def iT(lo:Int)(n:Nat):List D:=(List.range n).map λ(k:Nat)=>D.int (lo+(k:Int))
def okR(j:Int):Prop:=-(2^62)<=j/\j<2^62
noncomputable instance okRD(j:Int):Decidable (okR j):=Classical.propDecidable _
noncomputable def rng1(f:FE):FA:=λds=>(f ds).bind λd=>match d with|.int j=>if okR j then some (iT 0 j.toNat)else none|_=>none
noncomputable def zN(i:Nat):D->List Sl->Option (List Sl):=λd ds=>some (ds.set i (.v d))
noncomputable def tgNil:List D->List Sl->Option (List Sl)
 |[],ds=>some ds
 |_,_=>none
noncomputable def zW(g:D->List Sl->Option (List Sl))(h:List D->List Sl->Option (List Sl)):List D->List Sl->Option (List Sl)
 |d::r,ds=>(g d ds).bind λds'=>h r ds'
 |_,_=>none
noncomputable def tupG(n:Nat)(h:List D->List Sl->Option (List Sl)):D->List Sl->Option (List Sl)
 |.tup l,ds=>if l.length=n then h l ds else none
 |_,_=>none
noncomputable def qQ(ga:D->List Sl->Option (List Sl))(body:FS):List D->List Sl->Option Out
 |[],ds=>some (.nx ds)
 |d::r,ds=>(ga d ds).bind λds1=>(body ds1).bind λo=>match o with
   |.nx ds2=>qQ ga body r ds2
   |.ct ds2=>qQ ga body r ds2
   |.bk ds2=>some (.nx ds2)
   |.rt r=>some (.rt r)
noncomputable def forG(fi:FA)(ga:D->List Sl->Option (List Sl))(body:FS):FS:=λds=>(fi ds).bind λitems=>qQ ga body items ds
noncomputable def compL(ga:D->List Sl->Option (List Sl))(tt:FT)(fe:FE)(s0:List Sl):List D->Option (List D)
 |[]=>some []
 |d::r=>(ga d s0).bind λds1=>(tt ds1).bind λb=>if b=true then (fe ds1).bind λy=>(compL ga tt fe s0 r).map λys=>y::ys else compL ga tt fe s0 r
noncomputable def jJ(mp:List (Option Nat))(ds:List Sl):List Sl:=mp.map λo=>match o with
 |some j=>(match ds[j]? with|some (.v d)=>.v d|_=>.no)
 |none=>.no
noncomputable def compG(fi:FA)(mp:List (Option Nat))(ga:D->List Sl->Option (List Sl))(tt:FT)(fe:FE):FA:=λds=>(fi ds).bind λitems=>if items.length<=sizeLine then compL ga tt fe (jJ mp ds) items else none
noncomputable def tyD:D->Option String
 |.non=>some "NoneType"
 |.bl _=>some "bool"
 |.int _=>some "int"
 |.str _=>some "str"
 |.tup _=>some "tuple"
 |.lst _=>some "list"
 |.dct _ _=>some "dict"
 |.ins _ _=>none
 |.clo _ _ _=>none
 |.dcf _ _=>none
noncomputable def kitN:List String:=["NoneType","bool","int","str","tuple","list","dict"]
noncomputable def kitT:List String:=["bool","int","str","tuple","list","dict"]
noncomputable def kitF(t T:String):Option Bool:=if t∈kitN/\T∈kitT then some (t==T||(t=="bool"&&T=="int"))else none
noncomputable def isiD(T:String)(d:D):Option D:=(tyD d).bind λt=>(kitF t T).map D.bl
noncomputable def isiG(T:String)(f:FE):FE:=λds=>(f ds).bind (isiD T)
noncomputable def blsD:List D->Option (List Bool)
 |[]=>some []
 |.bl b::r=>(blsD r).map λbs=>b::bs
 |_=>none
noncomputable def allD:List D->Option D
 |[.lst l]=>(blsD l).map λbs=>.bl (bs.all id)
 |_=>none
noncomputable def strsD:List D->Option (List Str)
 |[]=>some []
 |.str b::r=>(strsD r).map λbs=>b::bs
 |_=>none
noncomputable def joinD:D->D->Option D
 |.str z,.lst l=>(strsD l).bind λts=>if z.length<=16/\(ts.map (·.length)).sum+ts.length<=1048576 then some (.str (Txt.join z ts))else none
 |_,_=>none
noncomputable def negD:D->Option D
 |.int i=>some (.int (-i))
 |_=>none
noncomputable def un1(op:D->Option D)(f:FE):FE:=λds=>(f ds).bind op
noncomputable def inS:D->D->Option D
 |.str i,.str j=>some (.bl (!(Builtin.Str.occurrences j i 0 j.length 1).isEmpty))
 |_,_=>none
noncomputable def retDG(f:FE):FS:=λds=>(f ds).map λd=>.rt (.val d)
noncomputable def runG(g:FS)(n:Nat):List D->Option Ret:=λds=>match g (args n ds)with
 |some (.rt r)=>some r
 |some (.nx _)=>some (.val .non)
 |_=>none
def CPowB(i j:Int):Prop:=0<=j/\(Builtin.Int.intBits i:Int)*j<=2^27
mutual
noncomputable def toPy:D->PyData
 |.non=>.none
 |.bl b=>.bool b
 |.int i=>.int i
 |.str x=>.str x
 |.tup ds=>.tuple (toPys ds)
 |.lst ds=>.list (toPys ds)
 |.dct _ _=>.none
 |.ins _ _=>.none
 |.clo _ _ _=>.none
 |.dcf _ _=>.none
noncomputable def toPys:List D->List PyData
 |[]=>[]
 |d::r=>toPy d::toPys r
end
mutual
noncomputable def shal:Nat->D->Bool
 |_,.non=>true
 |_,.bl _=>true
 |_,.int _=>true
 |_,.str x=>PyData.strOk x
 |n,.tup ds=>shals n ds
 |n,.lst ds=>shals n ds
 |_,.dct _ _=>false
 |_,.ins _ _=>false
 |_,.clo _ _ _=>false
 |_,.dcf _ _=>false
noncomputable def shals:Nat->List D->Bool
 |_,[]=>true
 |0,_::_=>false
 |n+1,d::r=>shal n d&&shals (n+1) r
end
noncomputable def eqvD(x y:D):Bool:=PyData.eqv (toPy x) (toPy y)
noncomputable def eqvs(x y:List D):Bool:=PyData.eqvAll (toPys x) (toPys y)
noncomputable def eqD(x y:D):Option D:=if shal 40 x=true/\shal 40 y=true then some (.bl (eqvD x y))else none
noncomputable def neD(x y:D):Option D:=if shal 40 x=true/\shal 40 y=true then some (.bl (!eqvD x y))else none
noncomputable def isD:D->D->Option D
 |.non,.non=>some (.bl true)
 |_,.non=>some (.bl false)
 |_,_=>none
noncomputable def notD:D->D->Option D
 |.non,.non=>some (.bl false)
 |_,.non=>some (.bl true)
 |_,_=>none
noncomputable def sclD:D->Bool
 |.non|.bl _|.int _|.str _=>true
 |_=>false
noncomputable def asLT:D->Option (List D)
 |.lst l=>some l
 |.tup l=>some l
 |_=>none
noncomputable def inD(neg:Bool)(x y:D):Option D:=(asLT y).bind λl=>if sclD x=true/\l.all sclD=true then some (.bl (if neg then !l.any (λz=>eqvD z x)else l.any λz=>eqvD z x))else none
noncomputable instance mulOkD(i j:Int):Decidable (eS i j):=Classical.propDecidable _
noncomputable instance powOkD(i j:Int):Decidable (CPowB i j):=Classical.propDecidable _
noncomputable def xJ:D->D->Option D
 |.int i,.int j=>if eS i j then some (.int (i*j))else none
 |_,_=>none
noncomputable def powD:D->D->Option D
 |.int i,.int j=>if CPowB i j then some (.int (i^j.toNat))else none
 |_,_=>none
noncomputable def catA(fa fb:FE):FA:=λds=>(fa ds).bind λx=>(fb ds).bind λy=>match x,y with
 |.lst a,.lst b=>if a.length+b.length<=sizeLine then some (a++b)else none
 |_,_=>none
noncomputable def noP:List Sl->Option (Option Int):=λ_=>some none
noncomputable def soP(f:FE):List Sl->Option (Option Int):=λds=>(f ds).bind λd=>match d with|.int i=>some (some i)|_=>none
noncomputable def cutD(l:List D)(lo hi:Option Int):List D:=(l.drop (HT.sIx l.length 0 lo)).take (HT.sIx l.length l.length hi-HT.sIx l.length 0 lo)
noncomputable def sliA(f:FE)(lo hi:List Sl->Option (Option Int)):FA:=λds=>(f ds).bind λd=>(lo ds).bind λa=>(hi ds).bind λb=>match d with
 |.lst l=>some (cutD l a b)
 |_=>none
noncomputable def lisA(f:FE):FA:=λds=>(f ds).bind asLT
noncomputable def mxD:List D->Option D
 |[.int i,.int j]=>some (.int (if j>i then j else i))
 |_=>none
noncomputable def mnD:List D->Option D
 |[.int i,.int j]=>some (.int (if j<i then j else i))
 |_=>none
noncomputable def absD:List D->Option D
 |[.int i]=>some (.int (if i<0 then -i else i))
 |_=>none
noncomputable def truD:D->Option Bool
 |.non=>some false
 |.bl b=>some b
 |.int i=>some (i != 0)
 |.str x=>if x.length<=sizeLine then some ((x.length:Int) != 0)else none
 |.tup l=>some (!l.isEmpty)
 |.lst l=>some (!l.isEmpty)
 |_=>none
noncomputable def testT(f:FE):FT:=λds=>(f ds).bind truD
noncomputable def relS(i:Nat)(ds:List Sl):List Sl:=match ds[i]? with|some (.own l)=>ds.set i (.v (.lst l))|_=>ds
noncomputable def iS(c:FT)(b:FS):Nat->FS
 |0,_=>none
 |n+1,ds=>(c ds).bind λk=>if k=true then (b ds).bind λo=>match o with
   |.nx ds2=>iS c b n ds2
   |.ct ds2=>iS c b n ds2
   |.bk ds2=>some (.nx ds2)
   |.rt r=>some (.rt r)else some (.nx ds)
noncomputable def asgG(ga:D->List Sl->Option (List Sl))(f:FE):FS:=λds=>(f ds).bind λd=>(ga d ds).map .nx
noncomputable def extG(i:Nat)(fe:FA):FS:=λds=>match ds[i]? with
 |some (.own l)=>(fe ds).bind λd=>if l.length+d.length<=sizeLine then some (.nx (ds.set i (.own (l++d))))else none
 |_=>none
noncomputable def clrG(i:Nat):FS:=λds=>match ds[i]? with
 |some (.own l)=>some (.nx (ds.set i (.own [])))
 |_=>none
noncomputable def ltD:D->D->Option D:=cmpI λi j=>decide (i<j)
noncomputable def leD:D->D->Option D:=cmpI λi j=>decide (i<=j)
noncomputable def gtD:D->D->Option D:=cmpI λi j=>decide (j<i)
noncomputable def geD:D->D->Option D:=cmpI λi j=>decide (j<=i)
noncomputable def rng2(fa fb:FE):FA:=λds=>(fa ds).bind λx=>(fb ds).bind λy=>match x,y with
 |.int i,.int j=>if okR i/\okR j then some (iT i (j-i).toNat)else none
 |_,_=>none
noncomputable def SJ(lo c:Int)(n:Nat):List D:=(List.range n).map λ(k:Nat)=>D.int (lo+(k:Int)*c)
noncomputable def aAx(i j c:Int):Nat:=if i<j then ((j-i-1)/c+1).toNat else 0
def okR3(i j c:Int):Prop:=-(2^61)<=i/\i<2^61/\-(2^61)<=j/\j<2^61/\0<c/\c<1000000
noncomputable instance okR3D(i j c:Int):Decidable (okR3 i j c):=Classical.propDecidable _
noncomputable def rng3(fa fb fc:FE):FA:=λds=>(fa ds).bind λx=>(fb ds).bind λy=>(fc ds).bind λz=>match x,y,z with
 |.int i,.int j,.int c=>if okR3 i j c then some (SJ i c (aAx i j c))else none
 |_,_,_=>none
noncomputable def revA(f:FE):FA:=λds=>(f ds).bind λd=>match d with
 |.lst l=>some l.reverse
 |_=>none
noncomputable def augA(i:Nat)(f:FE):FS:=λds=>(qB i ds).bind λx=>(f ds).bind λy=>match x,y with
 |.int a,.int b=>some (.nx (ds.set i (.v (.int (a+b)))))
 |_,_=>none
noncomputable def parG(i j:Nat)(f:FA):FS:=λds=>(f ds).bind λl=>match l with
 |[a,b]=>some (.nx ((ds.set i (.v a)).set j (.v b)))
 |_=>none
noncomputable def int1D:List D->Option D
 |[.int i]=>some (.int i)
 |[.bl b]=>some (.int (if b then 1 else 0))
 |_=>none
noncomputable def intsD:List D->Option (List Int)
 |[]=>some []
 |.int b::r=>(intsD r).map λbs=>b::bs
 |_=>none
abbrev Fun2:=D->List D->Option Ret
noncomputable def callW(Φ:Fun2)(i:Nat)(g:FA):FE:=λds=>(qB i ds).bind λf=>(g ds).bind λl=>(Φ f l).bind retV
open PySem PyProof.Rows L2
noncomputable def sumD:List D->Option D
 |[.lst l]=>(intsD l).map λns=>.int ns.sum
 |_=>none
noncomputable def fldD(ix:List (Nat×Nat)):D->Option D
 |.ins t ds=>(ix.lookup t).bind λi=>ds[i]?
 |_=>none
noncomputable def fldG(ix:List (Nat×Nat))(f:FE):FE:=λds=>(f ds).bind (fldD ix)
noncomputable def methR(n:Nat)(cs:List Nat)(F:Nat->List D->Option Ret)(o:D)(l:List D):Option Ret:=match o with
 |.ins t es=>if t∈cs/\l.length=n then F t (.ins t es::l)else none
 |_=>none
noncomputable def methV(n:Nat)(cs:List Nat)(F:Nat->List D->Option Ret)(fo:FE)(g:FA):FE:=λds=>(fo ds).bind λo=>(g ds).bind λl=>(methR n cs F o l).bind retV
noncomputable def methF(n:Nat)(cs:List Nat)(F:Nat->List D->Option Ret)(fo:FE)(g:FA):FA:=λds=>(fo ds).bind λo=>(g ds).bind λl=>(methR n cs F o l).bind retF
noncomputable def makeG(t n:Nat)(G:List D->Option (List D))(g:FA):FE:=λds=>(g ds).bind λl=>if l.length=n/\flats l=true then (G l).map (D.ins t)else none
open PySem
noncomputable def dropG(f:FE):FS:=λds=>(f ds).map λ_=>.nx ds
def okRB(i j:Int):Prop:=-(2^61)<=i/\i<2^61/\-(2^61)<=j/\j<2^61
noncomputable instance okRBD(i j:Int):Decidable (okRB i j):=Classical.propDecidable _
noncomputable def insU(k:Int):List Int->List Int
 |[]=>[k]
 |a::l=>if k<a then k::a::l else if k=a then a::l else a::insU k l
noncomputable def srtU(ns:List Int):List Int:=ns.foldr insU []
noncomputable def srtSA(f:FE):FA:=λds=>(f ds).bind λd=>match d with
 |.lst l=>(intsD l).bind λns=>if ns.length+1<4096 then some ((srtU ns).map D.int)else none
 |_=>none
noncomputable def sltW(f:FE)(lo hi:List Sl->Option (Option Int)):FE:=λds=>(f ds).bind λd=>(lo ds).bind λa=>(hi ds).bind λb=>match d with
 |.tup l=>some (.tup (cutD l a b))
 |_=>none
theorem CF k a:∀l,a∈insU k l↔a=k\/a∈l
 |[]=>by simp[insU]
 |b::l=>by
   unfold insU;split
   . simp
   . split
     . rename_i e;rw[e];simp
     . rw [aB,CF k a l,aB];constructor
       . rintro (h|h|h)
         . exact .inr (.inl h)
         . exact .inl h
         . exact .inr (.inr h)
       . rintro (h|h|h)
         . exact .inr (.inl h)
         . exact .inl h
         . exact .inr (.inr h)
theorem mem_srtU a:∀ns,a∈srtU ns↔a∈ns
 |[]=>Iff.rfl
 |k::ns=>by show a∈insU k (srtU ns)↔_;rw[CF,mem_srtU a ns,aB]
theorem UQ k:∀l,l.Pairwise (· < ·)->(insU k l).Pairwise (· < ·)
 |[],_=>dU _ _
 |a::l,h=>by
   obtain⟨h1,h2⟩:=bF.mp h;unfold insU;split
   . rename_i hk;refine bF.mpr ⟨λb hb=>?_,h⟩;rcases aB.mp hb with e|hb
     . rw[e];exact hk
     . exact Int.lt_trans hk (h1 b hb)
   . split
     . exact h
     . rename_i h3 h4;refine bF.mpr ⟨λb hb=>?_,UQ k l h2⟩;rcases (CF k b l).mp hb with e|hb
       . rw[e];omega
       . exact h1 b hb
theorem srtU_lt:∀ns,(srtU ns).Pairwise (· < ·)
 |[]=>List.Pairwise.nil
 |k::ns=>UQ k _ (srtU_lt ns)
theorem lt_unique:∀(l m:List Int),(∀a,a∈l↔a∈m)->l.Pairwise (· < ·)->m.Pairwise (· < ·)->l=m
 |[],[],_,_,_=>rfl
 |[],b::m,h,_,_=>absurd ((h b).mpr (.head _)) (by simp)
 |a::l,[],h,_,_=>absurd ((h a).mp (.head _)) (by simp)
 |a::l,b::m,h,h1,h2=>by
   obtain⟨p1,p2⟩:=bF.mp h1;obtain⟨q1,q2⟩:=bF.mp h2;have ha:a<=b:=by
    rcases aB.mp ((h b).mpr (.head _))with e|e
    . rw[e];exact dJ _
    . exact eF (p1 b e)
   have hb:b<=a:=by
    rcases aB.mp ((h a).mp (.head _))with e|e
    . rw[e];exact dJ _
    . exact eF (q1 a e)
   have e:a=b:=Int.le_antisymm ha hb;subst e;rw[lt_unique l m (λc=>?_) p2 q2];constructor
   . intro hc;rcases aB.mp ((h c).mp (.tail _ hc))with e|e
     . exact absurd (p1 c hc) (by rw[e];exact Int.lt_irrefl _)
     . exact e
   . intro hc;rcases aB.mp ((h c).mpr (.tail _ hc))with e|e
     . exact absurd (q1 c hc) (by rw[e];exact Int.lt_irrefl _)
     . exact e
open PySem PyProof.Rows L2
noncomputable def fnF(n:Nat)(F:List D->Option Ret)(_ as:List D):Option Ret:=if as.length=n then F as else none
noncomputable def phiOf(l:List ((Nat×Nat)×(List D->List D->Option Ret))):Fun2:=λf as=>match f with
 |.clo m n caps=>(l.lookup (m,n)).bind λF=>F caps as
 |_=>none
noncomputable def rngL(fa fb:FE):FA:=λds=>(fa ds).bind λx=>(fb ds).bind λy=>match x,y with
 |.int i,.int j=>some (iT i (j-i).toNat)
 |_,_=>none
@[simp]theorem rngL_eq(fa fb:FE)(ds:List Sl):rngL fa fb ds=(fa ds).bind λx=>(fb ds).bind λy=>match x,y with
 |.int i,.int j=>some (iT i (j-i).toNat)
 |_,_=>none:=rfl
noncomputable instance mulOkSD(x:Str)(n:Int):Decidable (MulOk x n):=Classical.propDecidable _
abbrev FO:=List Sl->Option OT
abbrev FOs:=List Sl->Option (List OT)
noncomputable def getN(i:Nat):FE:=λds=>match ds[i]? with
 |some (.v d)=>some d
 |some (.own l)=>some (.lst l)
 |some (.ob _ t)=>some (otD t)
 |_=>none
noncomputable def vO(f:FE):FO:=λds=>(f ds).map OT.val
noncomputable def lO(f:FA):FO:=λds=>(f ds).map λl=>.lst (l.map OT.val)
noncomputable def nilO:FOs:=λ_=>some []
noncomputable def consO(f:FO)(g:FOs):FOs:=λds=>(f ds).bind λx=>(g ds).map λr=>x::r
noncomputable def tO(f:FOs):FO:=λds=>(f ds).bind λl=>if l.length<=sizeLine then some (.tup l)else none
noncomputable def sO(f:FOs):FO:=λds=>(f ds).bind λl=>if l.length<=sizeLine then some (.lst l)else none
noncomputable def setB(i:Nat)(f:FO):FS:=λds=>(f ds).map λt=>.nx (ds.set i (.ob none t))
mutual
noncomputable def flatO:OT->Bool
 |.val d=>flat d
 |.lst l=>mC l
 |.tup l=>mC l
 |.dct _ l=>mC l
 |.ins _ l=>mC l
noncomputable def mC:List OT->Bool
 |[]=>true
 |t::r=>flatO t&&mC r
end
noncomputable def subO:List Nat->OT->Option OT
 |[],t=>some t
 |k::p,.tup l=>(l[k]?).bind (subO p)
 |k::p,.lst l=>(l[k]?).bind (subO p)
 |k::p,.dct _ l=>(l[k]?).bind (subO p)
 |k::p,.ins _ l=>(l[k]?).bind (subO p)
 |_::_,.val _=>none
noncomputable def putO(u:OT):List Nat->OT->OT
 |[],_=>u
 |k::p,.tup l=>.tup (l.modify k (putO u p))
 |k::p,.lst l=>.lst (l.modify k (putO u p))
 |k::p,.dct ks l=>.dct ks (l.modify k (putO u p))
 |k::p,.ins t l=>.ins t (l.modify k (putO u p))
 |_::_,.val d=>.val d
abbrev FP:=List Sl->Option (Nat×List Nat×OT)
noncomputable def varP(i:Nat):FP:=λds=>match ds[i]? with
 |some (.ob _ t)=>some (i,[],t)
 |_=>none
noncomputable def atP(ix:List (Nat×Nat))(f:FP):FP:=λds=>(f ds).bind λq=>match q.2.2 with
 |.ins t l=>(ix.lookup t).bind λk=>(l[k]?).map λu=>(q.1,q.2.1++[k],u)
 |_=>none
noncomputable def putP(q:Nat×List Nat×OT)(u:OT)(ds:List Sl):List Sl:=match ds[q.1]? with
 |some (.ob r t)=>ds.set q.1 (.ob r (putO u q.2.1 t))
 |_=>ds
noncomputable def retO:Ret->Option OT
 |.obj t=>some t
 |_=>none
noncomputable def callO(n:Nat)(F:List D->Option Ret)(g:FA):FO:=λds=>(g ds).bind λl=>if l.length=n then (F l).bind retO else none
@[simp]theorem getN_eq(i:Nat)(ds:List Sl):getN i ds=match ds[i]? with
 |some (.v d)=>some d
 |some (.own l)=>some (.lst l)
 |some (.ob _ t)=>some (otD t)
 |_=>none:=rfl
@[simp]theorem vO_eq f ds:vO f ds=(f ds).map OT.val:=rfl
@[simp]theorem lO_eq f ds:lO f ds=(f ds).map λl=>.lst (l.map OT.val):=rfl
@[simp]theorem nilO_eq ds:nilO ds=some []:=rfl
@[simp]theorem consO_eq f g ds:consO f g ds=(f ds).bind λx=>(g ds).map λr=>x::r:=rfl
@[simp]theorem tO_eq f ds:tO f ds=(f ds).bind λl=>if l.length<=sizeLine then some (.tup l)else none:=rfl
@[simp]theorem setB_eq i f ds:setB i f ds=(f ds).map λt=>.nx (ds.set i (.ob none t)):=rfl
theorem yS:∀l,otDs (l.map OT.val)=l
 |[]=>by simp[otDs]
 |d::r=>by simp[otDs,otD,yS r]
theorem xG:∀l,mC (l.map OT.val)=flats l
 |[]=>by simp[mC,flats]
 |d::r=>by simp[mC,flatO,flats,xG r]
noncomputable def appP(f:FP)(g:FE):FS:=λds=>(f ds).bind λq=>(g ds).bind λd=>match q.2.2 with
 |.lst l=>if l.length<sizeLine then some (.nx (putP q (.lst (l++[.val d])) ds))else none
 |_=>none
noncomputable def keyD:D->Option Key
 |.int i=>some (.inl (some i))
 |.non=>some (.inl none)
 |.str x=>some (.inr x)
 |_=>none
noncomputable def putTs(k:Key)(T:OT):List Key->List OT->List OT
 |k'::ks,t::ts=>(if k'=k then T else t)::putTs k T ks ts
 |_,ts=>ts
noncomputable def hasK(k:Key)(ks:List Key):Bool:=ks.any λk'=>decide (k'=k)
noncomputable def putKT(k:Key)(T:OT)(ks:List Key)(ts:List OT):OT:=if hasK k ks=true then .dct ks (putTs k T ks ts)else .dct (ks++[k]) (ts++[T])
noncomputable def getKD(k:Key):List Key->List D->Option D
 |k'::ks,d::ds=>if k'=k then some d else getKD k ks ds
 |_,_=>none
noncomputable def kdD:D->Option (List Key×List D)
 |.dct ks l=>some (ks,l)
 |.dcf ks l=>some (ks,l)
 |_=>none
noncomputable def dO0:FO:=λ_=>some (.dct [] [])
noncomputable def dputG(f:FP)(fk fv:FE):FS:=λds=>(fv ds).bind λd=>(f ds).bind λq=>(fk ds).bind λy=>(keyD y).bind λk=>match q.2.2 with
 |.dct ks ts=>if ks.length<sizeLine then some (.nx (putP q (putKT k (.val d) ks ts) ds))else none
 |_=>none
noncomputable def dgetG(fd fk:FE):FE:=λds=>(fd ds).bind λx=>(fk ds).bind λy=>(keyD y).bind λk=>(kdD x).bind λp=>getKD k p.1 p.2
noncomputable def dinG(fk fd:FE):FT:=λds=>(fk ds).bind λy=>(keyD y).bind λk=>(fd ds).bind λx=>(kdD x).map λp=>hasK k p.1
noncomputable def dnotG(fk fd:FE):FT:=λds=>(dinG fk fd ds).map λb=>!b
noncomputable def valsO:List OT->Option (List D)
 |[]=>some []
 |.val d::r=>(valsO r).map λl=>d::l
 |_::_=>none
noncomputable def frzDG(i:Nat)(g:FS):FS:=λds=>match ds[i]? with
 |some (.ob _ (.dct ks ts))=>(valsO ts).bind λl=>g (ds.set i (.v (.dcf ks l)))
 |_=>none
noncomputable def keyDD:Key->D
 |.inl (some i)=>.int i
 |.inl none=>.non
 |.inr x=>.str x
noncomputable def argsL(n:Nat)(T:OT)(l:List D):List Sl:=.ob (some 0) T::args (n-1) l
noncomputable def ob0:Option Sl->Option OT
 |some (.ob (some 0) T)=>some T
 |_=>none
noncomputable def lentF(g:FS)(n:Nat)(T:OT)(l:List D):Option OT:=match g (argsL n T l)with
 |some (.nx ds)=>ob0 ds[0]?
 |_=>none
noncomputable def lentG(n:Nat)(cs:List Nat)(F:Nat->OT->List D->Option OT)(f:FP)(g:FA):FS:=λds=>(f ds).bind λq=>(g ds).bind λl=>match q.2.2 with
 |.ins t ts=>if t∈cs/\l.length=n then (F t (.ins t ts) l).map λT'=>.nx (putP q T' ds)else none
 |_=>none
noncomputable def setNw(t t':Nat)(f:FP)(g:FO):FS:=λds=>(g ds).bind λT=>(f ds).bind λq=>match q.2.2 with
 |.ins c l=>if c=t/\l.length<900 then some (.nx (putP q (.ins t' (l++[T])) ds))else none
 |_=>none
noncomputable def makeO(t n m:Nat)(F:OT->List D->Option OT)(g:FA):FO:=λds=>(g ds).bind λl=>if l.length+m=n then F (.ins t []) (l++List.replicate m .non)else none
abbrev FX:=List Sl->Option (D×List Sl)
def leT(a b:Str):Prop:=¬b.cps.toList<a.cps.toList
def HB(h1:leT a b)(h2:leT b c):leT a c:=λh=>by
 rcases strKind.negTrans c.cps.toList b.cps.toList a.cps.toList (decide_eq_true h)with q|q
 . exact h2 (of_decide_eq_true q)
 . exact h1 (of_decide_eq_true q)
def XQ(h:a.cps.toList<b.cps.toList):leT a b:=λq=>List.lt_irrefl _ (List.lt_trans h q)
def IY(h1:leT a b)(h2:leT b a):a=b:=by have:=List.le_antisymm (List.not_lt.mp h1) (List.not_lt.mp h2);cases a;cases b;simp[Str.mk.injEq];exact Array.toList_inj.mp this
noncomputable def insT(k:Str):List Str->List Str
 |[]=>[k]
 |a::l=>if a.cps.toList<k.cps.toList then a::insT k l else k::a::l
noncomputable def srtT(ns:List Str):List Str:=ns.foldr insT []
theorem kJ k:∀l,(insT k l).Perm (k::l)
 |[]=>gW _
 |a::l=>by
   unfold insT;split
   . exact(List.Perm.cons a (kJ k l)).trans (List.Perm.swap _ _ _)
   . exact gW _
theorem srtT_perm:∀ns,(srtT ns).Perm ns
 |[]=>gW _
 |k::ns=>(kJ k _).trans (List.Perm.cons k (srtT_perm ns))
theorem UR k:∀l,l.Pairwise leT->(insT k l).Pairwise leT
 |[],_=>dU _ _
 |a::l,h=>by
   obtain⟨h1,h2⟩:=bF.mp h;unfold insT;split
   . rename_i hk;refine bF.mpr ⟨λb hb=>?_,UR k l h2⟩;rcases aB.mp ((kJ k l).mem_iff.mp hb)with e|hb
     . rw[e];exact XQ hk
     . exact h1 b hb
   . rename_i hk;refine bF.mpr ⟨λb hb=>?_,h⟩;rcases aB.mp hb with e|hb
     . rw[e];exact hk
     . exact HB hk (h1 b hb)
theorem srtT_le:∀ns,(srtT ns).Pairwise leT
 |[]=>List.Pairwise.nil
 |k::ns=>UR k _ (srtT_le ns)
theorem leT_unique:∀(l m:List Str),l.Perm m->l.Pairwise leT->m.Pairwise leT->l=m
 |[],m,hp,_,_=>(List.Perm.nil_eq hp)
 |a::l,[],hp,_,_=>by have:=hp.length_eq;simp at this
 |a::l,b::m,hp,h1,h2=>by
   obtain⟨p1,p2⟩:=bF.mp h1;obtain⟨q1,q2⟩:=bF.mp h2;have e:a=b:=by
    have ha:a∈b::m:=hp.mem_iff.mp (.head _);have hb:b∈a::l:=hp.mem_iff.mpr (.head _);rcases aB.mp ha with e|ha
    . exact e
    . rcases aB.mp hb with e|hb
      . exact e.symm
      . exact IY (p1 b hb) (q1 a ha)
   subst e;rw[leT_unique l m hp.cons_inv p2 q2]
theorem GB:∀l p,risingS p l=true->(p::l).Pairwise leT
 |[],p,_=>dU _ _
 |x::r,p,h=>by
   simp only[risingS,bV,Bool.not_eq_true',ltCps_eq,decide_eq_false_iff_not]at h;have ih:=GB r x h.2;obtain⟨i1,i2⟩:=bF.mp ih;refine bF.mpr ⟨λb hb=>?_,ih⟩;rcases aB.mp hb with e|hb
   . rw[e];exact h.1
   . exact HB h.1 (i1 b hb)
theorem sortedS_le:∀{l:List Str},sortedS l=true->l.Pairwise leT
 |[],_=>List.Pairwise.nil
 |p::l,h=>GB l p h
noncomputable def relO(i:Nat)(ds:List Sl):List Sl:=match ds[i]? with|some (.ob _ T)=>ds.set i (.v (otD T))|_=>ds
noncomputable def flV'(d:D):Option D:=if flat d=true then some d else none
noncomputable def relVO(i:Nat)(f:FE):FE:=λds=>(f (relO i ds)).bind flV'
noncomputable def relTO(i:Nat)(c:FT):FT:=λds=>c (relO i ds)
noncomputable def relFO(i:Nat)(f:FA):FA:=λds=>(f (relO i ds)).bind λl=>if flats l=true then some l else none
noncomputable def valsA(f:FE):FA:=λds=>(f ds).bind λx=>match x with
 |.dcf _ l=>some l
 |_=>none
noncomputable def seeO(f:FO):FE:=λds=>(f ds).map otD
noncomputable def retBv(i:Nat):FS:=λds=>match ds[i]? with
 |some (.ob none T)=>if flatO T=true then some (.rt (.obj T))else none
 |_=>none
noncomputable def refO:OT->Bool
 |.lst _=>true
 |.dct _ _=>true
 |.ins _ _=>true
 |_=>false
noncomputable def seqR(g:FS)(f:FX):FX:=λds=>(g ds).bind λo=>match o with
 |.nx ds'=>f ds'
 |_=>none
noncomputable def vR(f:FE):FX:=λds=>(f ds).map λd=>(d,ds)
noncomputable def obAt(p:Nat):Option Sl->Option OT
 |some (.ob (some q) T)=>if q=p then some T else none
 |_=>none
noncomputable def lentR(g:FX)(n p:Nat)(T:OT)(l:List D):Option (D×OT):=(g ((args n l).set p (.ob (some p) T))).bind λq=>(obAt p (q.2[p]?)).map λT'=>(q.1,T')
noncomputable def hereA(g:FA):FA:=λds=>(g ds).map λl=>D.non::l
noncomputable def callR(n i:Nat)(F:OT->List D->Option (D×OT))(g:FA):FX:=λds=>(g ds).bind λl=>match ds[i]? with
 |some (.ob r T)=>if refO T=true/\l.length=n then (F T l).map λq=>(q.1,ds.set i (.ob r q.2))else none
 |_=>none
noncomputable def setR(j:Nat)(f:FX):FS:=λds=>(f ds).map λq=>.nx (q.2.set j (.v q.1))
noncomputable def relGO(i:Nat)(f:FO):FO:=λds=>(f (relO i ds)).bind λT=>if flatO T=true then some T else none
noncomputable def ofO(f:FO):FE:=λds=>(f ds).map otD
open PySem
open PySem L2
noncomputable def keysA(f:FE):FA:=λds=>(f ds).bind λx=>match x with
 |.dcf ks _=>some (ks.map keyDD)
 |_=>none
noncomputable def cntT:List Str->Nat
 |[]=>0
 |x::r=>if x∈r then cntT r else cntT r+1
noncomputable def lsetE(f:FE):FE:=λds=>(f ds).bind λx=>match x with
 |.lst l=>(strsD l).bind λts=>if ts.length<1000 then some (.int (cntT ts.reverse:Nat))else none
 |_=>none
noncomputable def srtTA(f:FE):FA:=λds=>(f ds).bind λx=>match x with
 |.lst l=>(strsD l).bind λts=>if ts.length<64 then some ((srtT ts).map D.str)else none
 |_=>none
theorem cntT_le:∀l,cntT l<=l.length
 |[]=>aM _
 |x::r=>by have:=cntT_le r;unfold cntT;split<;>simp<;>omega
theorem DH:∀l,l.Nodup->cntT l=l.length
 |[],_=>rfl
 |x::r,h=>by rw[bM]at h;unfold cntT;rw[if_neg h.1,DH r h.2];rfl
noncomputable def dputN(f:FP)(fk:FE)(g:FO):FS:=λds=>(g ds).bind λT=>(f ds).bind λq=>(fk ds).bind λy=>(keyD y).bind λk=>match q.2.2 with
 |.dct ks ts=>if ks.length<sizeLine/\hasK k ks=false then some (.nx (putP q (.dct (ks++[k]) (ts++[T])) ds))else none
 |_=>none
noncomputable def insV(s:Option Sl):Option D:=match s with
 |some (.ob _ (.ins t [.dct ks ts]))=>some (.ins t [.dcf ks (otDs ts)])
 |_=>none
noncomputable def shlD:D->D->Option D
 |.int i,.int j=>if 0<=j/\j<=1000/\0<=i/\i<=1000 then some (.int (i*2^j.toNat))else none
 |_,_=>none
noncomputable def relGV(i:Nat)(f:FO):FO:=λds=>(insV ds[i]?).bind λd=>(f (ds.set i (.v d))).bind λT=>if flatO T=true then some T else none
end FL
namespace L2
open PySem PySem.Spec PyProof.Rows
noncomputable def isN0:aN->Bool
 |.none=>true
 |_=>false
noncomputable def keyIs:Key->aN->Bool:=λk v=>match k with
 |.inl (some n)=>aN.isInt n v
 |.inl none=>isN0 v
 |.inr x=>aN.isStrOf x v
noncomputable def keyH(w:dE):Key->Int:=λk=>match k with
 |.inl (some n)=>tG n
 |.inl none=>4238894112
 |.inr x=>hashStr w x
def jM(h:keyIs k v=true):(∃i t,k=Sum.inl (some i)/\v=aN.int i t)\/(∃x t,k=Sum.inr x/\v=aN.str x t)\/(k=Sum.inl none/\v=aN.none):=by
 rcases k with(_|i)|x
 . refine .inr (.inr ⟨rfl,?_⟩);cases v<;>first|rfl|cases h
 . obtain⟨t,e⟩:=aN.isInt_shape h;exact .inl ⟨i,t,rfl,e⟩
 . obtain⟨t,e⟩:=aN.isStrOf_shape h;exact .inr (.inl ⟨x,t,rfl,e⟩)
def YD(h:Q 4238894112 {s with toks:=s.toks+1}):bL (aZ prog w) A (PySem.pyHash .none) Q E s:=by
 have ht:s.TypeIs .none "NoneType":=rfl;have hv:[aN.none].any aN.onHeap=false:=rfl;refine aA ?_;refine aJ ?_;refine aA (sA ht gY.lookup ?_);refine aA (sA ht gY.lookup ?_)
 refine aA (wpAny_callSpecialIfBoundUnlessNone?_slot ht gY
  (fJ gY ht PySem.F.entry_NoneType_hash
    (wpAny_ret_mkInt ?_) (PySem.F.args_NoneType_hash_1 _)))
 exact aJ h
noncomputable def fN(prog:cF)(w:dE):PySem.KeyKind prog w Key where
 is:=keyIs
 hash:=keyH w
 inj:=λv a b ha hb=>by rcases jM ha with⟨i,t,rfl,rfl⟩|⟨x,t,rfl,rfl⟩|⟨rfl,rfl⟩<;>rcases jM hb with⟨j,u,rfl,e⟩|⟨y,u,rfl,e⟩|⟨rfl,e⟩<;>cases e<;>rfl
 byValue:=λk v h=>by rcases jM h with⟨i,t,rfl,rfl⟩|⟨x,t,rfl,rfl⟩|⟨rfl,rfl⟩<;>rfl
 pyHash:=λhv h=>by
  rcases jM hv with⟨i,t,rfl,rfl⟩|⟨x,t,rfl,rfl⟩|⟨rfl,rfl⟩
  . exact wpAny_pyHash_int h
  . exact wpAny_pyHash_str h
  . exact YD h
 eqBool:=λhu hv h=>by
  rcases jM hu with⟨i,t,rfl,rfl⟩|⟨x,t,rfl,rfl⟩|⟨rfl,rfl⟩<;>rcases jM hv with⟨j,u,rfl,rfl⟩|⟨y,u,rfl,rfl⟩|⟨rfl,rfl⟩
  . exact wpAny_eqBool_int (by simp only[Sum.inl.injEq,Option.some.injEq]at h;exact h)
  . exact SeqAt.EqAt.int_str i t y u _ _ _ _ (by simpa using h)
  . exact SeqAt.EqAt.int_none i t _ _ _ _ (by simpa using h)
  . exact SeqAt.EqAt.str_int x t j u _ _ _ _ (by simpa using h)
  . exact wpAny_eqBool_str (by simpa using h)
  . exact SeqAt.EqAt.str_none x t _ _ _ _ (by simpa using h)
  . exact SeqAt.EqAt.none_int j u _ _ _ _ (by simpa using h)
  . exact SeqAt.EqAt.none_str y u _ _ _ _ (by simpa using h)
  . exact SeqAt.EqAt.same .none _ _ _ _ (by simpa using h)
 «strs»:=λk x t v h=>by
  rcases jM h with⟨i,u,rfl,e⟩|⟨y,u,rfl,e⟩|⟨rfl,e⟩<;>cases e
  cases v<;>rfl
inductive V where
 |non|bl (b:Bool)|int (i:Int)|str (x:Str)|byt (b:Array UInt8)|flt (b:UInt64)|ref (a:aG)|ty (n:String)
 deriving DecidableEq
noncomputable def RelV:V->aN->Prop
 |.non,u=>u=aN.none
 |.bl b,u=>u=aN.bool b
 |.int i,u=>∃t,u=aN.int i t
 |.str x,u=>∃t,u=aN.str x t
 |.byt b,u=>∃t,u=aN.bytes b t
 |.flt b,u=>∃t,u=aN.float b t
 |.ref a,u=>u=aN.ref a
 |.ty n,u=>u=aN.type n
abbrev Vals:List V->List aN->Prop:=AG RelV
theorem Vals.length(r:Vals xs us):xs.length=us.length:=AG.length r
theorem Vals.get:∀{xs:List V}{us:List aN}{i:Nat}{x:V},Vals xs us->xs[i]?=some x->∃u,us[i]?=some u/\RelV x u
 |_,_,_,_,.nil,e=>by simp at e
 |_,_,0,_,.cons r _,e=>by simp at e;subst e;exact⟨_,rfl,r⟩
 |_,_,i+1,x,.cons _ t,e=>by obtain⟨u,h1,h2⟩:=Vals.get (i:=i) (x:=x) t (by simpa using e);exact⟨u,by simpa using h1,h2⟩
theorem Vals.set(r:RelV x u):∀{xs:List V}{us:List aN} (i:Nat),Vals xs us->Vals (xs.set i x) (us.set i u)
 |_,_,_,.nil=>.nil
 |_,_,0,.cons _ t=>.cons r t
 |_,_,i+1,.cons q t=>.cons q (Vals.set r i t)
theorem Vals.append:∀{xs ys:List V}{us ws:List aN},Vals xs us->Vals ys ws->Vals (xs++ys) (us++ws)
 |_,_,_,_,.nil,s=>s
 |_,_,_,_,.cons r t,s=>.cons r (Vals.append t s)
theorem Vals.take:∀{xs:List V}{us:List aN} (n:Nat),Vals xs us->Vals (xs.take n) (us.take n)
 |_,_,0,_=>.nil
 |_,_,_+1,.nil=>.nil
 |_,_,n+1,.cons r t=>.cons r (Vals.take n t)
theorem Vals.drop:∀{xs:List V}{us:List aN} (n:Nat),Vals xs us->Vals (xs.drop n) (us.drop n)
 |_,_,0,r=>r
 |_,_,_+1,.nil=>.nil
 |_,_,n+1,.cons _ t=>Vals.drop n t
noncomputable def RelO:Option V->Option aN->Prop
 |some v,some u=>RelV v u
 |none,none=>True
 |_,_=>False
def KV{κ:Type}: List (κ×V)->List (κ×aN)->Prop:=AG λ(p:κ×V) (q:κ×aN)=>p.1=q.1/\RelV p.2 q.2
noncomputable def kV:Key->V:=λk=>match k with
 |.inl (some n)=>.int n
 |.inl none=>.non
 |.inr x=>.str x
inductive HO where
 |lst (xs:List V)
 |tup (xs:List V)
 |dK (kvs:List (Key×V))|dT (kvs:List (List Key×V))
 |set (S:Int->Bool) (n:Nat)
 |ins (C dx:aG) (fs:List (Str×V))
 |own (x:aG)
 |xd (fs:List (Str×V))
 |met (f x:aG)
 |rng (lo hi:Int)
 |frz (o:Obj) (u:HO)
 |tbl (q:Nat->Nat->Str)
 |ext (φ:Heap->Prop)
abbrev Hp:=aG->Option HO
noncomputable def upd(H:Hp)(a:aG)(o:HO):Hp:=λb=>if b=a then some o else H b
def zQ:upd H a o a=some o:=by unfold upd;rw[if_pos rfl]
def upd_ne(h:b≠a):upd H a o b=H b:=by unfold upd;rw[if_neg h]
def ne_of{H:Hp}(h:H a=some o)(h':H b=some u)(d:o≠u):a≠b:=by intro e;subst e;rw[h]at h';exact d (Option.some.inj h')
def yA{H:Hp}(h:H a=some o)(h':H b=none):a≠b:=by intro e;subst e;rw[h]at h';cases h'
def TblOk(H:Hp)(q:Nat->Nat->Str)(ps:Array aN):Prop:=TriplesOk ps.toList/\∀pos v,codeAmong pos ps.toList=some v->∃c o u vs t,v=.ref c/\H c=some (.frz o u)/\o.data=.fields vs/\vs[1]?=some (.str (q pos.line pos.col) t)
noncomputable def Fixed:HO->Prop
 |.tup _=>True
 |.frz o _=>∃vs,o.data=.fields vs
 |_=>False
noncomputable def Fx:={u:HO // Fixed u}
section
variable(P:cF)(w:dE)
noncomputable def ObjOk(H:Hp)(h:Heap)(a:aG):HO->Prop
 |.lst xs=>xs.length<=sizeLine/\∃(its:List aN) (n:Nat),Vals xs its/\h.get? a=some {cls:=.type "list",data:=.seq its.toArray n}
 |.tup xs=>xs.length<=sizeLine/\∃its:List aN,Vals xs its/\IsTup h a its.toArray
 |.dK kvs=>kvs.length<=sizeLine/\(a==kX)=false/\∃vs,KV kvs vs/\h.DictOf (fN P w) a vs
 |.dT kvs=>kvs.length<=sizeLine/\(a==kX)=false/\∃xs:List (List Key×aG×aN),
    AG (λ(p:List Key×V) (q:List Key×aG×aN)=>p.1=q.1/\H q.2.1=some (.tup (p.1.map kV))/\RelV p.2 q.2.2) kvs xs ∧
    ∃o es ep,h.get? a=some o/\o.ExactDict/\o.data=.dict es ep/\es.toList=xs.map (entryOfKey (EW (fN P w)))/\(xs.map (·.1)).Nodup
 |.set S n=>h.SetOf (DR P w) a S n
 |.ins C dx fs=>H dx=some (.own a)/\fs.length<=1000/\dx≠a/\h.get? a=some (fI C dx) ∧
    ∃mA,h.Ns1 dx mA/\(∀f,RelO (fs.lookup f) (mA f))/\PySem.Within mA (fs.map (·.1))
 |.own _=>∃o,h.get? a=some o
 |.xd fs=>∃mA,h.Ns1 a mA/\∀f,RelO (fs.lookup f) (mA f)
 |.rng lo hi=>∃t u v,h.get? a=some {cls:=.type "range",data:=.fields #[.int lo t,.int hi u,.int 1 v]}
 |.frz o u=>h.get? a=some o/\ObjOk H h a u
 |.tbl q=>∃ps,h.get? a=some (AC ps)/\TblOk H q ps
 |.met f x=>h.get? a=some (PySem.W.methodObj (.ref f) (.ref x))
 |.ext φ=>φ h/\(∃o,h.get? a=some o)/\∀h1 h2:Heap,φ h1->(∀o,h1.get? a=some o->h2.get? a=some o)->φ h2
def HOk(H:Hp)(h:Heap):Prop:=∀a o,H a=some o->ObjOk P w H h a o
end
theorem ObjOk.lt(x:ObjOk P w H h a o):a<h.objs.size:=by
 cases o with
 |lst xs=>obtain⟨_,_,_,_,e⟩:=x;exact bJ e
 |tup xs=>obtain⟨_,_,_,p⟩:=x;exact p.lt
 |dK kvs=>obtain⟨_,_,_,_,o,_,_,e,_⟩:=x;exact bJ e
 |dT kvs=>obtain⟨_,_,_,_,o,_,_,e,_⟩:=x;exact bJ e
 |set S n=>obtain⟨o,_,_,_,e,_⟩:=x;exact bJ e
 |ins C dx fs=>obtain⟨_,_,_,e,_⟩:=x;exact bJ e
 |own y=>obtain⟨_,e⟩:=x;exact bJ e
 |xd fs=>obtain⟨_,⟨_,_,_,e,_⟩,_⟩:=x;exact bJ e
 |rng lo hi=>obtain⟨_,_,_,e⟩:=x;exact bJ e
 |frz ob u=>obtain⟨e,_⟩:=x;exact bJ e
 |tbl q=>obtain⟨_,e,_⟩:=x;exact bJ e
 |met f y=>exact bJ (show h.get? a=some _ from x)
 |ext φ=>obtain⟨_,⟨_,e⟩,_⟩:=x;exact bJ e
theorem AG.mapP:∀{l₁:List α}{l₂:List β},AG F l₁ l₂->(∀a b,F a b->G a b)->AG G l₁ l₂
 |_,_,.nil,_=>.nil
 |_,_,.cons r t,f=>.cons (f _ _ r) (AG.mapP t f)
def ObjOk.stay(x:ObjOk P w H h a o)(k:∀b u,(b=a\/H b=some (.own a))->h.get? b=some u->h'.get? b=some u)(ho:∀b,H b=some (.own a)->H' b=some (.own a))(ht:∀b (xs:Fx),H b=some xs.1->H' b=some xs.1):ObjOk P w H' h' a o:=by
 induction o with
 |lst xs=>obtain⟨z,its,n,r,e⟩:=x;exact⟨z,its,n,r,k _ _ (.inl rfl) e⟩
 |tup xs=>obtain⟨z,its,r,ob,e,c⟩:=x;exact⟨z,its,r,ob,k _ _ (.inl rfl) e,c⟩
 |dK kvs=>obtain⟨z,y,vs,r,ob,es,ep,e,c⟩:=x;exact⟨z,y,vs,r,ob,es,ep,k _ _ (.inl rfl) e,c⟩
 |dT kvs=>obtain⟨z,y,xs,r,ob,es,ep,e,c⟩:=x;exact⟨z,y,xs,AG.mapP r λp q z=>⟨z.1,ht _ ⟨.tup _,trivial⟩ z.2.1,z.2.2⟩,ob,es,ep,k _ _ (.inl rfl) e,c⟩
 |set S n=>obtain⟨ob,es,ep,t,e,c⟩:=x;exact⟨ob,es,ep,t,k _ _ (.inl rfl) e,c⟩
 |ins C dx fs=>obtain⟨d,z,ne,e,mA,⟨od,es,ep,e2,c⟩,r⟩:=x;exact⟨ho _ d,z,ne,k _ _ (.inl rfl) e,mA,⟨od,es,ep,k _ _ (.inr d) e2,c⟩,r⟩
 |own y=>obtain⟨ob,e⟩:=x;exact⟨ob,k _ _ (.inl rfl) e⟩
 |xd fs=>obtain⟨mA,⟨od,es,ep,e,c⟩,r⟩:=x;exact⟨mA,⟨od,es,ep,k _ _ (.inl rfl) e,c⟩,r⟩
 |rng lo hi=>obtain⟨t,u,v,e⟩:=x;exact⟨t,u,v,k _ _ (.inl rfl) e⟩
 |frz ob u ih=>obtain⟨e,q⟩:=x;exact⟨k _ _ (.inl rfl) e,ih q⟩
 |tbl q=>obtain⟨ps,e,t1,t2⟩:=x;refine⟨ps,k a _ (.inl rfl) e,t1,λpos v z=>?_⟩;obtain⟨c,o,u,vs,t,h1,h2,h3,h4⟩:=t2 pos v z;exact⟨c,o,u,vs,t,h1,ht c ⟨.frz o u,vs,h3⟩ h2,h3,h4⟩
 |met f y=>have e:=x;exact k a _ (.inl rfl) e
 |ext φ=>obtain⟨p,⟨o,e⟩,st⟩:=x;exact⟨st _ _ p λo q=>k _ _ (.inl rfl) q,⟨o,k _ _ (.inl rfl) e⟩,st⟩
theorem HOk.lt(x:HOk P w H h)(e:H a=some o):a<h.objs.size:=(x a o e).lt
def HOk.fresh(x:HOk P w H h)(e:h.objs.size<=a):H a=none:=by
 cases q:H a with
 |none=>rfl
 |some u=>exact absurd (bY (x.lt q) e) (cZ _)
def HOk.kept(x:HOk P w H h)(k:∀b u,h.get? b=some u->h'.get? b=some u):HOk P w H h':=λa o e=>(x a o e).stay (λb u _ q=>k b u q) (λ_ q=>q) λ_ _ q=>q
def HOk.laid(x:HOk P w H h)(k:∀b u,h.get? b=some u->h'.get? b=some u)(hp:h.objs.size<=a)(new:ObjOk P w (upd H a o) h' a o):HOk P w (upd H a o) h':=λb u e=>by
 have hn:=x.fresh hp;by_cases hb:b=a
 . subst hb;rw[zQ]at e;cases e;exact new
 . rw[upd_ne hb]at e;exact(x b u e).stay (λc v _ q=>k c v q) (λc q=>by rw[upd_ne (yA q hn)];exact q) λc xs q=>by rw[upd_ne (yA q hn)];exact q
def Rd(H:Hp)(a:aG)(u:HO):Prop:=H a=some u\/∃o,H a=some (.frz o u)
def Rd.of(h:H a=some u):Rd H a u:=.inl h
def Rd.ok(r:Rd H a u)(x:HOk P w H h):ObjOk P w H h a u:=by
 rcases r with r|⟨o,r⟩
 . exact x a u r
 . obtain⟨_,q⟩:=x a _ r;exact q
noncomputable def Mut:Option HO->Prop
 |some (.lst _)=>True
 |some (.dK _)=>True
 |some (.dT _)=>True
 |some (.set _ _)=>True
 |some (.ins _ _ _)=>True
 |some (.ext _)=>True
 |_=>False
def HOk.write(ok:HOk P w H h)(mu:Mut (H x))(he:e=x\/H e=some (.own x))(k:∀b u,b≠e->h.get? b=some u->h'.get? b=some u)(heo:∃u,h'.get? e=some u)(new:ObjOk P w (upd H x o') h' x o'):HOk P w (upd H x o') h':=λb u q=>by
 have nown:∀c y,H c=some (.own y)->c≠x:=λc y r z=>by subst z;rw[r]at mu;exact mu
 have ntup:∀c (xs:Fx),H c=some xs.1->c≠x:=λc xs r z=>by subst z;rw[r]at mu;obtain⟨u,hu⟩:=xs;cases u<;>first|exact False.elim mu|exact False.elim hu
 by_cases hb:b=x
 . subst hb;rw[zQ]at q;cases q;exact new
 . rw [upd_ne hb]at q;by_cases hbe:b=e
   . have q':H b=some (.own x):=by
      rcases he with z|z
      . exact absurd (hbe.trans z) hb
      . rw[hbe];exact z
     rw[q]at q';cases q';obtain⟨v,hv⟩:=heo;exact⟨v,by rw[hbe];exact hv⟩
   . refine (ok b u q).stay (λc v hc r=>k c v ?_ r) (λc r=>by rw [upd_ne (nown c b r)];exact r) λc xs r=>by rw [upd_ne (ntup c xs r)];exact r
     rcases hc with rfl|hc
     . exact hbe
     . rintro rfl;rcases he with z|z
       . exact nown c b hc z
       . rw[hc]at z;cases z;exact hb rfl
structure Un(fs ex:List aG)(H H':Hp)(h h':Heap):Prop where
 keep:∀b o,h.get? b=some o->H b=none->b∉fs->b∉ex->h'.get? b=some o
 slot:∀b o,h.get? b=some o->H b=none->b∈fs->b∉ex->∃sl,h'.get? b=some {o with slots:=sl}
 free:∀b o,h.get? b=some o->H b=none->b∉ex->H' b=none
 there:∀b o,h.get? b=some o->b∉ex->∃o',h'.get? b=some o'
 tups:∀b xs,H b=some (.tup xs)->H' b=some (.tup xs)
 frzs:∀b o u,H b=some (.frz o u)->H' b=some (.frz o u)
 tbls:∀b ps,H b=some (.tbl ps)->H' b=some (.tbl ps)
section
variable{fs fs' ex ex':List aG}{H H1 H2:Hp}{h h1 h2 h':Heap}{a x e:aG}{o:HO}
def Un.any(u:Un fs ex H H1 h h1)(q:h.get? b=some ob)(n:H b=none)(hx:b∉ex):∃sl,h1.get? b=some {ob with slots:=sl}:=by
 by_cases hb:b∈fs
 . exact u.slot b ob q n hb hx
 . exact⟨ob.slots,u.keep b ob q n hb hx⟩
def Un.trans(a:Un fs ex H H1 h h1)(b:Un fs ex H1 H2 h1 h2):Un fs ex H H2 h h2 where
 keep:=λc ob q n hc hx=>b.keep c ob (a.keep c ob q n hc hx) (a.free c ob q n hx) hc hx
 slot:=λc ob q n hc hx=>by obtain⟨sl,e1⟩:=a.slot c ob q n hc hx;obtain⟨sl',e2⟩:=b.slot c _ e1 (a.free c ob q n hx) hc hx;exact⟨sl',e2⟩
 free:=λc ob q n hx=>by obtain⟨o',e1⟩:=a.there c ob q hx;exact b.free c o' e1 (a.free c ob q n hx) hx
 there:=λc ob q hx=>by obtain⟨o',e1⟩:=a.there c ob q hx;exact b.there c o' e1 hx
 tups:=λc xs q=>b.tups c xs (a.tups c xs q)
 frzs:=λc ob xs q=>b.frzs c ob xs (a.frzs c ob xs q)
 tbls:=λc ps q=>b.tbls c ps (a.tbls c ps q)
def Un.kept(k:∀b u,h.get? b=some u->h'.get? b=some u):Un fs ex H H h h':=
 ⟨λb ob q _ _ _=>k b ob q,λb ob q _ _ _=>⟨ob.slots,k b ob q⟩,λ_ _ _ n _=>n,λb ob q _=>⟨ob,k b ob q⟩,λ_ _ q=>q,λ_ _ _ q=>q,λ_ _ q=>q⟩
def Un.refl:Un fs ex H H h h:=Un.kept λ_ _ q=>q
def Un.laid(k:∀b u,h.get? b=some u->h'.get? b=some u)(hp:h.objs.size<=a)(hn:H a=none):Un fs ex H (upd H a o) h h' where
 keep:=λb u q _ _ _=>k b u q
 slot:=λb u q _ _ _=>⟨u.slots,k b u q⟩
 free:=λb u q n _=>by rw[upd_ne (bO (bY (bJ q) hp))];exact n
 there:=λb u q _=>⟨u,k b u q⟩
 tups:=λb xs q=>by rw[upd_ne (yA q hn)];exact q
 frzs:=λb u xs q=>by rw[upd_ne (yA q hn)];exact q
 tbls:=λb ps q=>by rw[upd_ne (yA q hn)];exact q
def Un.write(mu:Mut (H x))(he:e=x\/H e=some (.own x))(k:∀b u,b≠e->h.get? b=some u->h'.get? b=some u)(heo:∃u,h'.get? e=some u):Un fs ex H (upd H x o) h h':=by
 have hx:∀b,H b=none->b≠x:=λb n z=>by subst z;rw[n]at mu;exact mu
 have hb:∀b,H b=none->b≠e:=λb n z=>by
  subst z;rcases he with r|r
  . exact hx b n r
  . rw[n]at r;cases r
 have hm:∀b u,H b=some u->¬Mut (some u)->b≠x:=λb u q nm z=>by subst z;rw[q]at mu;exact nm mu
 refine⟨λb u q n _ _=>k b u (hb b n) q,λb u q n _ _=>⟨u.slots,k b u (hb b n) q⟩,λb u q n _=>by rw[upd_ne (hx b n)];exact n,λb u q _=>?_,
  λb xs q=>by rw[upd_ne (hm b _ q λz=>z)];exact q,λb u xs q=>by rw[upd_ne (hm b _ q λz=>z)];exact q,λb ps q=>by rw[upd_ne (hm b _ q λz=>z)];exact q⟩
 by_cases hbe:b=e
 . subst hbe;exact heo
 . exact⟨u,k b u hbe q⟩
def Un.mono(u:Un fs ex H H1 h h1)(hs:∀b∈fs,b∈fs')(hx:∀b∈ex,b∈ex'):Un fs' ex' H H1 h h1:=
 ⟨λb ob q n hb he=>u.keep b ob q n (λz=>hb (hs b z)) λz=>he (hx b z),λ_ _ q n _ he=>u.any q n λz=>he (hx _ z),λb ob q n he=>u.free b ob q n λz=>he (hx b z),λb ob q he=>u.there b ob q λz=>he (hx b z),u.tups,u.frzs,u.tbls⟩
end
noncomputable def trk(h:Heap)(H:Hp):List aG:=(List.range h.objs.size).filter λa=>(H a).isSome
noncomputable def hidT(h:Heap)(H:Hp):Heap:=PySem.W.hideAll h (trk h H)
def YC h H:(hidT h H).objs.size=h.objs.size:=PySem.W.hideAll_size _ _
def MU(e:h.get? b=some o)(n:H b=none):(hidT h H).get? b=some o:=
 PySem.W.hideAll_get _ e λhm=>by have q:=(fC.mp hm).2;rw[n]at q;simp at q
def of_hidT(e:(hidT h H).get? b=some o):h.get? b=some o/\H b=none:=by
 have e':=PySem.W.of_hideAll (trk h H) e;refine⟨e',?_⟩;cases q:H b with
 |none=>rfl
 |some x=>have hm:b∈trk h H:=fC.mpr ⟨nD.mpr (bJ e'),by simp[q]⟩;have z:(hidT h H).get? b=none:=PySem.W.hideAll_none (trk h H) hm;rw[z]at e;cases e
noncomputable def allNews(g h:Heap)(L:aG):List (aG×Obj):=(List.range h.objs.size).filterMap λa=>if a=L\/(g.get? a).isSome=true then none else (h.get? a).map λo=>(a,o)
noncomputable def rest(g h:Heap)(L d:aG):List (aG×Obj):=(allNews g h L).filter λp=>decide (p.1≠d)
structure Mod(K:aP)(mg:Str->Option aN)(base:Heap):Prop where
 kin:K.In base
 glob:base.Ns aV mg
 blt:∃mb,base.Ns AA mb/\∀x:Str,x≠"__name__"->mb x=fG x
 nolimit:base.NoLimit
structure Cx where
 prog:cF
 w:dE
 K:aP
 mg:Str->Option aN
 base:Heap
 A:eX
 N:List Str
 s₀:bH
 H₀:Hp
 env:Env
 outer:List Env
 stack:List Env
 ex:List aG
 fn:Str->Bool
 calm:Bool
 pn:List (aG×Obj)
 xe:aN->bH->Prop
noncomputable def frs(l:List Env):List aG:=l.filterMap (·.frame)
noncomputable abbrev Cx.fs(X:Cx):List aG:=frs X.outer
def Vis(sc:Scope)(x:Str):Prop:=sc.names.lookup x=some .local\/sc.names.lookup x=some .cell\/sc.names.lookup x=some .free
def Loc(sc:Scope)(x:Str):Prop:=sc.names.lookup x=some .local\/sc.names.lookup x=some .cell
def Look(env:Env)(h:Heap)(m:Str->Option aN)(x:Str)(u:aN):Prop:=
 (env.kindOf x=some .local/\m x=some u)\/((env.kindOf x=some .cell\/env.kindOf x=some .free)/\∃c,env.cells.lookup x=some c/\h.IsCell c (some u))
noncomputable def makers:List Str:=["law","_law_with_itself","_law_ways","_law_way","holding","_law_any_test","_law_test","_law_turned","_law_right","wheel_run","answer_run"]
noncomputable def QU:List Stmt->Nat->Nat->Str
 |[],_,_=>"<lambda>"
 |.FunctionDef n _ _ _ _ _ _ _ _ pos::r,l,c=>if pos.line=l/\pos.col=c then n else QU r l c
 |_::r,l,c=>QU r l c
noncomputable def sE(K:aP)(x:Str)(l c:Nat):Str:=match aX K aV x with
 |some (some (.ref f))=>(match K.lookup f with
   |some ⟨_,_,.func fd,_⟩=>(match fd.body with
     |.stmts b=>x++".<locals>."++QU b l c
     |_=>x)
   |_=>x)
 |_=>x
structure TabsK(K:aP)(mg:Str->Option aN)(base:Heap)(H:Hp):Prop where
 bm:∃bm ob,mg "__builtins__" = some (.ref bm)/\bm≠AA/\base.get? bm=some ob/\ob.cls=.type "module"/\ob.dict=some AA/\ob.data=.plain
 tab:∀x c P,x∈makers->iJ K x=some (c,P)->ZJ base c P/\H P=some (.tbl (sE K x))
def Bsz(K:aP)(mg:Str->Option aN)(base h:Heap)(H:Hp):Prop:=base.objs.size<=h.objs.size/\TabsK K mg base H
def FreeC(X:Cx)(H:Hp)(x:Str)(c:aG):Prop:=H c=none\/(X.fn x=false/\∃o u,H c=some (.frz o u))
def FreeC.now(h:FreeC X H x c)(hf:X.fn x=true):H c=none:=h.elim id λz=>by rw[hf]at z;cases z.1
structure Cx.Ok(X:Cx):Prop where
 mod:Mod X.K X.mg X.base
 kind:X.env.scope.kind=.function
 glob:X.env.globals=aV
 blt:X.env.builtins=AA
 above:X.s₀.heap.objs.size<=X.env.locals
 inj:∀x y c,X.env.cells.lookup x=some c->X.env.cells.lookup y=some c->x=y
 has:∀x,(X.env.kindOf x=some .cell\/X.env.kindOf x=some .free)->∃c,X.env.cells.lookup x=some c
 cab:∀x c,X.fn x=true->X.env.cells.lookup x=some c->X.s₀.heap.objs.size<=c
 hd:X.calm=true->X.A.handled=none
 frames:X.A.frames=some X.stack
 stk:X.stack=X.outer\/(X.stack=X.env::X.outer/\X.env.frame=some X.env.locals)
 exf:∀b∈X.ex,b≠X.env.locals/\∀x c,X.env.cells.lookup x=some c->c≠b
 bs:∀b o,X.base.get? b=some o->X.s₀.heap.get? b=some o/\X.H₀ b=none
 bsz:Bsz X.K X.mg X.base X.s₀.heap X.H₀
 noex:∀b o,X.base.get? b=some o->b∉X.ex
 exfs:∀b∈X.ex,b∉X.fs
 funs:X.s₀.heap.FunFrames X.base X.outer
 frf:∀b∈X.fs,X.H₀ b=none
structure Inv(X:Cx)(aC:List (aG×Obj))(σ:List (Option V))(H:Hp)(s:bH):Prop where
 ok:X.Ok
 os:s.os=X.s₀.os
 bare:rL s.gens
 base:Un X.fs X.ex X.H₀ H X.s₀.heap s.heap
 loc:∃m,s.heap.Ns X.env.locals m/\∀(i:Nat) (x:Str) (v:V),X.N[i]?=some x->σ[i]?=some (some v)->Vis X.env.scope x->∃u,RelV v u/\Look X.env s.heap m x u
 cell:∀x c,X.env.cells.lookup x=some c->∃v,s.heap.IsCell c v
 free:H X.env.locals=none
 freeC:∀x c,X.env.cells.lookup x=some c->FreeC X H x c
 pin:∀p∈X.pn++aC,s.heap.get? p.1=some p.2/\H p.1=none/\p.1≠X.env.locals/\p.1∉X.fs/\∀v,p.2.data≠.cell v
 hok:HOk X.prog X.w H s.heap
 len:σ.length=X.N.length
section
variable{X:Cx}
def Cx.Ok.nofr(ok:X.Ok)(e:X.base.get? b=some o):b∉X.fs:=λhb=>by have:=(ok.funs.mem hb).1;rw[e]at this;cases this
theorem Inv.bs(I:Inv X aC σ H s):∀b o,X.base.get? b=some o->s.heap.get? b=some o/\H b=none:=λb o e=>⟨I.base.keep b o (I.ok.bs b o e).1 (I.ok.bs b o e).2 (I.ok.nofr e) (I.ok.noex b o e),I.base.free b o (I.ok.bs b o e).1 (I.ok.bs b o e).2 (I.ok.noex b o e)⟩
def Inv.bk(I:Inv X aC σ H s):∀b o,X.base.get? b=some o->s.heap.get? b=some o:=λb o e=>(I.bs b o e).1
theorem Inv.mod(I:Inv X aC σ H s):Mod X.K X.mg X.base:=I.ok.mod
def Inv.kIn(I:Inv X aC σ H s):X.K.In s.heap:=I.ok.mod.kin.keeps I.bk
theorem Inv.lt(I:Inv X aC σ H s):X.env.locals<s.heap.objs.size:=let ⟨_,hn,_⟩:=I.loc;hn.lt
def Inv.sz(I:Inv X aC σ H s):X.s₀.heap.objs.size<=s.heap.objs.size:=cW I.ok.above (NW I.lt)
def Inv.nofs(I:Inv X aC σ H s)(h:s.heap.objs.size<=a):a∉X.fs:=λhb=>by obtain⟨_,o,ho,_⟩:=I.ok.funs.mem hb;exact absurd (bY (bJ ho) (cW I.sz h)) (cZ _)
def Inv.cne(I:Inv X aC σ H s):∀x c,X.env.cells.lookup x=some c->c≠X.env.locals:=λx c e z=>by obtain⟨v,o,ho,hd⟩:=I.cell x c e;obtain⟨m,⟨o',es,ep,ho',hd',_⟩,_⟩:=I.loc;rw[z,ho']at ho;cases ho;rw[hd']at hd;cases hd
theorem Inv.funs(I:Inv X aC σ H s):s.heap.FunFrames X.base X.outer:=by
 have all:∀(l:List Env),(∀b∈frs l,b∈X.fs)->X.s₀.heap.FunFrames X.base l->s.heap.FunFrames X.base l:=by
  intro l;induction l with
  |nil=>intro _ _;trivial
  |cons env r ih=>intro hs hl;obtain⟨hk,⟨L,o,hf,hn,ho,hd⟩,hr⟩:=hl;have hL:L∈X.fs:=hs L (by unfold frs;rw[iN,hf];exact aS);obtain⟨sl,e⟩:=I.base.slot L o ho (I.ok.frf L hL) hL λz=>I.ok.exfs L z hL;exact⟨hk,⟨L,_,hf,hn,e,hd⟩,ih (λb hb=>hs b (by unfold frs;rw[iN,hf];exact aL _ hb)) hr⟩
 exact all X.outer (λ_ hb=>hb) I.ok.funs
theorem Inv.stack(I:Inv X aC σ H s):s.heap.FunFrames X.base X.stack:=by
 rcases I.ok.stk with e|⟨e,hf⟩
 . rw[e];exact I.funs
 . rw[e];obtain⟨m,hn,_⟩:=I.loc;refine .cons (by rw[I.ok.kind];decide) hf hn ?_ I.funs;exact Heap.get?_none_of_le (cW I.ok.bsz.1 I.ok.above)
def Inv.stkSub(I:Inv X aC σ H s):∀b∈frs X.stack,b∈X.env.locals::X.fs:=λb hb=>by
 rcases I.ok.stk with e|⟨e,hf⟩
 . rw[e]at hb;exact aL _ hb
 . rw[e]at hb;unfold frs at hb;rw[iN,hf]at hb;exact hb
def Inv.stkFree(I:Inv X aC σ H s):∀b∈frs X.stack,H b=none:=λb hb=>by
 rcases aB.mp (I.stkSub b hb)with e|hb
 . rw[e];exact I.free
 . obtain⟨_,o,ho,_⟩:=I.ok.funs.mem hb;exact I.base.free b o ho (I.ok.frf b hb) λz=>I.ok.exfs b z hb
def Inv.step{ch:List aG}(I:Inv X aC σ H s)(hch:∀b∈ch,(b∈X.ex\/X.s₀.heap.objs.size<=b)/\b≠X.env.locals/\(∀x c,X.env.cells.lookup x=some c->c≠b)/\∀p∈X.pn++aC,p.1≠b)(keep:∀b o,b≠X.env.locals->b∉X.fs->b∉ch->s.heap.get? b=some o->H b=none->h'.get? b=some o)(slot:∀b o,b≠X.env.locals->b∈X.fs->b∉ch->s.heap.get? b=some o->H b=none->∃sl,h'.get? b=some {o with slots:=sl})(free:∀b o,b∉ch->s.heap.get? b=some o->H b=none->H' b=none)(there:∀b o,b∉ch->s.heap.get? b=some o->∃o',h'.get? b=some o')(tups:∀b xs,H b=some (.tup xs)->H' b=some (.tup xs))(frzs:∀b o u,H b=some (.frz o u)->H' b=some (.frz o u))(tbls:∀b ps,H b=some (.tbl ps)->H' b=some (.tbl ps))(ns:∀m,s.heap.Ns X.env.locals m->h'.Ns X.env.locals m)(hok:HOk X.prog X.w H' h')(hg:rL g') :
  Inv X aC σ H' {s with heap:=h',gens:=g',drawn:=d',toks:=t'}:=by
 have neL:∀b o,X.s₀.heap.get? b=some o->b≠X.env.locals:=λb o e=>bO (bY (bJ e) I.ok.above);have neC:∀b o,X.s₀.heap.get? b=some o->b∉X.ex->b∉ch:=λb o e hx hb=>by
  rcases(hch b hb).1 with z|z
  . exact hx z
  . exact absurd (bY (bJ e) z) (cZ _)
 have cellK:∀x c,X.env.cells.lookup x=some c->∀v,s.heap.IsCell c v->h'.IsCell c v:=λx c e v ⟨o,ho,hd⟩=>by
  have nch:=λz=>(hch c z).2.2.1 x c e rfl;rcases I.freeC x c e with fr|⟨_,of,uf,fr⟩
  . by_cases hc:c∈X.fs
    . obtain⟨sl,q⟩:=slot c o (I.cne x c e) hc nch ho fr;exact⟨_,q,hd⟩
    . exact⟨o,keep c o (I.cne x c e) hc nch ho fr,hd⟩
  . obtain⟨e1,_⟩:=I.hok c _ fr;obtain⟨e2,_⟩:=hok c _ (frzs c of uf fr);rw[ho]at e1;cases e1;exact⟨o,e2,hd⟩
 refine⟨I.ok,I.os,hg,⟨λb o e n hb hx=>?_,λb o e n hb hx=>?_,λb o e n hx=>?_,λb o e hx=>?_,λb xs e=>tups b xs (I.base.tups b xs e),λb o xs e=>frzs b o xs (I.base.frzs b o xs e),λb ps e=>?_⟩,?_,λx c e=>?_,?_,λx c e=>?_,λp hp=>?_,hok,I.len⟩
 . exact keep b o (neL b o e) hb (neC b o e hx) (I.base.keep b o e n hb hx) (I.base.free b o e n hx)
 . obtain⟨sl,e1⟩:=I.base.slot b o e n hb hx;obtain⟨sl',e2⟩:=slot b _ (neL b o e) hb (neC b o e hx) e1 (I.base.free b o e n hx);exact⟨sl',e2⟩
 . obtain⟨o',e1⟩:=I.base.there b o e hx;exact free b o' (neC b o e hx) e1 (I.base.free b o e n hx)
 . obtain⟨o',e1⟩:=I.base.there b o e hx;exact there b o' (neC b o e hx) e1
 . exact tbls b ps (I.base.tbls b ps e)
 . obtain ⟨m,hn,hl⟩:=I.loc;refine ⟨m,ns m hn,λi x v e1 e2 e3=>?_⟩;obtain ⟨u,r,l⟩:=hl i x v e1 e2 e3;refine ⟨u,r,?_⟩;rcases l with l|⟨k,c,e,z⟩
   . exact .inl l
   . exact .inr ⟨k,c,e,cellK x c e _ z⟩
 . obtain⟨v,z⟩:=I.cell x c e;exact⟨v,cellK x c e v z⟩
 . obtain⟨m,⟨o,_,_,ho,_⟩,_⟩:=I.loc;exact free _ o (λz=>(hch _ z).2.1 rfl) ho I.free
 . obtain⟨v,o,ho,hd⟩:=I.cell x c e;exact(I.freeC x c e).elim (λfr=>.inl (free c o (λz=>(hch c z).2.2.1 x c e rfl) ho fr)) λ⟨h1,of,uf,fr⟩=>.inr ⟨h1,of,uf,frzs c of uf fr⟩
 . obtain⟨e,n,ne,nf,d⟩:=I.pin p hp;have nch:=λz=>(hch p.1 z).2.2.2 p hp rfl;exact⟨keep p.1 p.2 ne nf nch e n,free p.1 p.2 nch e n,ne,nf,d⟩
def Inv.un(I:Inv X aC σ H s)(u:Un X.fs [] H H' s.heap h')(hok:HOk X.prog X.w H' h'):Inv X aC σ H' {s with heap:=h',toks:=t'}:=by
 obtain⟨m,⟨o,es,ep,ho,r⟩,_⟩:=id I.loc;obtain⟨sl,hL⟩:=u.any ho I.free (by simp);exact I.step (ch:=[]) (λ_ z=>nomatch z) (λb o _ hb _ e n=>u.keep b o e n hb (by simp)) (λb o _ hb _ e n=>u.slot b o e n hb (by simp)) (λb o _ e n=>u.free b o e n (by simp)) (λb o _ e=>u.there b o e (by simp)) u.tups u.frzs u.tbls (λm' hm=>by
  obtain⟨o',es',ep',ho',r'⟩:=hm;rw[ho]at ho';cases ho'
  exact⟨_,es',ep',hL,r'⟩) hok I.bare
def Inv.call(I:Inv X aC σ H s)(u:Un (frs X.stack) ch H H' s.heap h')(hok:HOk X.prog X.w H' h')(hg:rL g')(hch:∀b∈ch,(b∈X.ex\/X.s₀.heap.objs.size<=b)/\b≠X.env.locals/\(∀x c,X.env.cells.lookup x=some c->c≠b)/\∀p∈X.pn++aC,p.1≠b) :
  Inv X aC σ H' {s with heap:=h',gens:=g',drawn:=d',toks:=t'}:=by
 obtain⟨m,⟨o,es,ep,ho,r⟩,_⟩:=id I.loc;obtain⟨sl,hL⟩:=u.any ho I.free λz=>(hch _ z).2.1 rfl;exact I.step hch (λb o hL hb hc e n=>u.keep b o e n (λz=>(aB.mp (I.stkSub b z)).elim hL hb) hc) (λb o _ _ hc e n=>u.any e n hc) (λb o hc e n=>u.free b o e n hc) (λb o hc e=>u.there b o e hc) u.tups u.frzs u.tbls (λm' hm=>by
  obtain⟨o',es',ep',ho',r'⟩:=hm;rw[ho]at ho';cases ho'
  exact⟨_,es',ep',hL,r'⟩) hok hg
def Inv.turned(I:Inv X aC σ H s)(k:∀b o,b≠it->s.heap.get? b=some o->h'.get? b=some o)(hn:H it=none)(hL:it≠X.env.locals)(h1:it∈X.ex\/X.s₀.heap.objs.size<=it)(h2:∀x c,X.env.cells.lookup x=some c->c≠it)(h3:∀p∈X.pn++aC,p.1≠it):Inv X aC σ H {s with heap:=h',toks:=t'}:=by
 have nit:∀b u,H b=some u->b≠it:=λb u e z=>by rw[z,hn]at e;cases e
 refine I.step (ch:=[it]) (λb hb=>?_) (λb o _ _ hc e _=>k b o (λz=>hc (by simp[z])) e) (λb o _ _ hc e _=>⟨o.slots,k b o (λz=>hc (by simp[z])) e⟩) (λ_ _ _ _ n=>n)
  (λb o hc e=>⟨o,k b o (λz=>hc (by simp[z])) e⟩) (λ_ _ e=>e) (λ_ _ _ e=>e) (λ_ _ e=>e) (λm hm=>?_) (λb u e=>?_) I.bare
 . have e:b=it:=by simpa using hb
   subst e;exact⟨h1,hL,h2,h3⟩
 . obtain⟨o,es,ep,ho,r⟩:=hm;exact⟨o,es,ep,k _ o (Ne.symm hL) ho,r⟩
 . refine (I.hok b u e).stay (λc v hc q=>k c v ?_ q) (λ_ q=>q) λ_ _ q=>q;rcases hc with z|z
   . rw[z];exact nit b u e
   . exact nit c _ z
def Inv.tok(I:Inv X aC σ H s) t:Inv X aC σ H {s with toks:=t}:=I.un (h':=s.heap) (t':=t) Un.refl I.hok
theorem Inv.kept(I:Inv X aC σ H s)(k:∀b u,s.heap.get? b=some u->h'.get? b=some u):Inv X aC σ H {s with heap:=h',toks:=t'}:=I.un (Un.kept k) (I.hok.kept k)
theorem Inv.laid(I:Inv X aC σ H s)(k:∀b u,s.heap.get? b=some u->h'.get? b=some u)(hp:s.heap.objs.size<=a)(new:ObjOk X.prog X.w (upd H a o) h' a o) :
  Inv X aC σ (upd H a o) {s with heap:=h',toks:=t'}:=I.un (Un.laid k hp (I.hok.fresh hp)) (I.hok.laid k hp new)
theorem Inv.write(I:Inv X aC σ H s)(mu:Mut (H x))(he:e=x\/H e=some (.own x))(k:∀b u,b≠e->s.heap.get? b=some u->h'.get? b=some u)(heo:∃u,h'.get? e=some u)(new:ObjOk X.prog X.w (upd H x o) h' x o):Inv X aC σ (upd H x o) {s with heap:=h',toks:=t'}:=I.un (Un.write mu he k heo) (I.hok.write mu he k heo new)
def Inv.pins_of(I:Inv X aC σ H s)(h:∀p∈pins',s.heap.get? p.1=some p.2/\H p.1=none/\p.1≠X.env.locals/\p.1∉X.fs/\∀v,p.2.data≠.cell v):Inv X pins' σ H s:=
 ⟨I.ok,I.os,I.bare,I.base,I.loc,I.cell,I.free,I.freeC,λp hp=>(bE.mp hp).elim (λz=>I.pin p (bA _ z)) (h p),I.hok,I.len⟩
def ME{N:List Str}(hN:N.Nodup){i j:Nat}(a:N[i]?=some x)(b:N[j]?=some x):i=j:=by obtain⟨h1,e1⟩:=aW.mp a;obtain⟨h2,e2⟩:=aW.mp b;exact(List.getElem_inj hN).mp (e1.trans e2.symm)
def FQ(I:Inv X aC σ H s)(hN:X.N.Nodup)(hi:X.N[i]?=some x)(hx:Loc X.env.scope x)(r:RelV v u)(h:∀s',Inv X aC (σ.set i (some v)) H s'->(∃a,Heap.SameBut a s.heap s'.heap/\(a=X.env.locals\/X.env.cells.lookup x=some a))->Q () s')(hf:X.fn x=true\/X.env.scope.names.lookup x=some .local:=by first | exact .inl rfl | exact .inr rfl | assumption):bL M A (storeName X.env x u) Q E s:=by
 obtain⟨m,hn,hl⟩:=id I.loc;have hcls:(X.env.scope.kind==.class||(X.env.scope.kind==.module&&X.env.locals != X.env.globals))=false:=by rw[I.ok.kind];rfl
 have hiσ:i<σ.length:=by rw[I.len];exact(aW.mp hi).1
 have cne:=I.cne;have tracked:∀{a:aG}{h':Heap},(∃o,s.heap.get? a=some o/\H a=none)->Heap.SameBut a s.heap h'->HOk X.prog X.w H h':=λ{a h'} ha hs b ob e=>by
  obtain⟨_,_,hfree⟩:=ha;refine(I.hok b ob e).stay (λc w' hc q=>(hs.2 c ?_).trans q) (λ_ q=>q) λ_ _ q=>q;rintro rfl;rcases hc with rfl|hc
  . rw[hfree]at e;cases e
  . rw[hfree]at hc;cases hc
 rcases hx with hk|hk
 . refine wpAny_storeName_local hk hn (λh' hn' hs=>?_) hcls;obtain ⟨oL,_,_,hoL,_⟩:=id hn;refine h _ ⟨I.ok,I.os,I.bare,⟨λb o e n hb hx=>?_,λb o e n hb hx=>?_,I.base.free,λb o e hx=>?_,I.base.tups,I.base.frzs,I.base.tbls⟩,⟨_,hn',λj y v' e1 e2 e3=>?_⟩,λy c e=>?_,I.free,I.freeC,λp hp=>?_,tracked ⟨oL,hoL,I.free⟩ hs,by simpa using I.len⟩ ⟨_,hs,.inl rfl⟩
   . exact(hs.2 b (bO (bY (bJ e) I.ok.above))).trans (I.base.keep b o e n hb hx)
   . obtain⟨sl,e1⟩:=I.base.slot b o e n hb hx;exact⟨sl,(hs.2 b (bO (bY (bJ e) I.ok.above))).trans e1⟩
   . obtain⟨o',e1⟩:=I.base.there b o e hx;exact⟨o',(hs.2 b (bO (bY (bJ e) I.ok.above))).trans e1⟩
   . by_cases hj:j=i
     . subst hj;rw[hi]at e1;cases e1;rw[bB hiσ]at e2;cases e2;exact⟨u,r,.inl ⟨hk,by simp⟩⟩
     . rw [aE (Ne.symm hj)]at e2;obtain ⟨u',r',q⟩:=hl j y v' e1 e2 e3;refine ⟨u',r',?_⟩;rcases q with ⟨k,e⟩|⟨k,c,e,z⟩
       . refine .inl ⟨k,?_⟩;have:y≠x:=λe=>hj (ME hN e1 (e▸hi));simp[this,e]
       . exact .inr ⟨k,c,e,z.sameBut hs (cne y c e)⟩
   . obtain⟨w',z⟩:=I.cell y c e;exact⟨w',z.sameBut hs (cne y c e)⟩
   . obtain⟨e,n,ne,nf,d⟩:=I.pin p hp;exact⟨(hs.2 p.1 ne).trans e,n,ne,nf,d⟩
 . have hfn:X.fn x=true:=by
    rcases hf with z|z
    . exact z
    . rw[z]at hk;cases hk
   obtain⟨c,hc⟩:=I.ok.has x (.inl hk);obtain⟨w',z⟩:=I.cell x c hc;refine wpAny_storeName_cell I.ok.kind hk hc z (λh' hc' hs=>?_);obtain⟨oc,hoc,hocd⟩:=id z;refine h {s with heap:=h'} ⟨I.ok,I.os,I.bare,⟨λb o e n hb hx=>?_,λb o e n hb hx=>?_,I.base.free,λb o e hx=>?_,I.base.tups,I.base.frzs,I.base.tbls⟩,⟨m,hn.sameBut hs (Ne.symm (cne x c hc)),λj y v' e1 e2 e3=>?_⟩,λy c' e=>?_,I.free,I.freeC,λp hp=>?_,tracked ⟨oc,hoc,(I.freeC x c hc).now hfn⟩ hs,by simpa using I.len⟩ ⟨c,hs,.inr hc⟩
   . exact(hs.2 b (bO (bY (bJ e) (I.ok.cab x c hfn hc)))).trans (I.base.keep b o e n hb hx)
   . obtain⟨sl,e1⟩:=I.base.slot b o e n hb hx;exact⟨sl,(hs.2 b (bO (bY (bJ e) (I.ok.cab x c hfn hc)))).trans e1⟩
   . obtain⟨o',e1⟩:=I.base.there b o e hx;exact⟨o',(hs.2 b (bO (bY (bJ e) (I.ok.cab x c hfn hc)))).trans e1⟩
   . by_cases hj:j=i
     . subst hj;rw[hi]at e1;cases e1;rw[bB hiσ]at e2;cases e2;exact⟨u,r,.inr ⟨.inl hk,c,hc,hc'⟩⟩
     . rw [aE (Ne.symm hj)]at e2;obtain ⟨u',r',q⟩:=hl j y v' e1 e2 e3;refine ⟨u',r',?_⟩;rcases q with q|⟨k,c',e,z'⟩
       . exact .inl q
       . refine .inr ⟨k,c',e,z'.sameBut hs ?_⟩;rintro rfl;exact hj (ME hN e1 (I.ok.inj _ _ _ e hc▸hi))
   . by_cases hcc:c'=c
     . subst hcc;exact⟨_,hc'⟩
     . obtain⟨w2,z2⟩:=I.cell y c' e;exact⟨w2,z2.sameBut hs hcc⟩
   . obtain⟨e,n,ne,nf,d⟩:=I.pin p hp;refine⟨(hs.2 p.1 ?_).trans e,n,ne,nf,d⟩;intro q;rw[q,hoc]at e;have q':=Option.some.inj e;exact d w' (by rw[<-q'];exact hocd)
def BH(I:Inv X aC σ H s)(hN:X.N.Nodup)(hi:X.N[i]?=some x)(hx:Loc X.env.scope x)(r:RelV v u)(h:∀s',Inv X aC (σ.set i (some v)) H s'->Q () s')(hf:X.fn x=true\/X.env.scope.names.lookup x=some .local:=by first|exact .inl rfl|exact .inr rfl|assumption):bL M A (storeName X.env x u) Q E s:=
 FQ I hN hi hx r (λs' I' _=>h s' I') hf
def Inv.call'(I:Inv X aC σ H s)(ho:s'.os=s.os)(u:Un (frs X.stack) ch H H' s.heap s'.heap)(hok:HOk X.prog X.w H' s'.heap)(hg:rL s'.gens)(hch:∀b∈ch,(b∈X.ex\/X.s₀.heap.objs.size<=b)/\b≠X.env.locals/\(∀x c,X.env.cells.lookup x=some c->c≠b)/\∀p∈X.pn++aC,p.1≠b):Inv X aC σ H' s':=by obtain⟨h',g',d',t',o'⟩:=s';have e:=ho;subst e;exact I.call u hok hg hch
end
abbrev XK:=aN->Option aG->Hp->Prop
abbrev St:=List (Option V)
abbrev VK:=V->Hp->Prop
abbrev TE:=St->Hp->VK->Prop
abbrev TT:=St->Hp->(Bool->Hp->Prop)->Prop
abbrev TA:=St->Hp->(List V->Hp->Prop)->Prop
structure Ends where
 nx:St->Hp->Prop
 rt:VK
 bk:St->Hp->Prop:=λ_ _=>False
 ct:St->Hp->Prop:=λ_ _=>False
abbrev TS:=Ends->St->Hp->Prop
def EP(X:Cx)(aC:List (aG×Obj))(σ:St)(Q:VK)(u:aN)(s':bH):Prop:=∃v H',Inv X aC σ H' s'/\RelV v u/\Q v H'
def TP(X:Cx)(aC:List (aG×Obj))(σ:St)(Q:Bool->Hp->Prop)(b:Bool)(s':bH):Prop:=∃H',Inv X aC σ H' s'/\Q b H'
def AP(X:Cx)(aC:List (aG×Obj))(σ:St)(Q:List V->Hp->Prop)(us:List aN)(s':bH):Prop:=∃vs H',Inv X aC σ H' s'/\Vals vs us/\Q vs H'
def SP(X:Cx)(aC:List (aG×Obj))(D:Ends)(f:Flow)(s':bH):Prop:=
 match f with
 |.next=>∃σ' H',Inv X aC σ' H' s'/\D.nx σ' H'
 |.brk=>∃σ' H',Inv X aC σ' H' s'/\D.bk σ' H'
 |.cont=>∃σ' H',Inv X aC σ' H' s'/\D.ct σ' H'
 |.ret u=>∃v σ' H',Inv X aC σ' H' s'/\RelV v u/\D.rt v H'
def PE(X:Cx)(e:Expr)(t:TE):Prop:=
 ∀(aC:List (aG×Obj)) (s:bH) (σ:St) (H:Hp) (Q:VK),Inv X aC σ H s->t σ H Q->bL (aZ X.prog X.w) X.A (cI e X.env) (EP X aC σ Q) X.xe s
def PT(X:Cx)(e:Expr)(t:TT):Prop:=
 ∀(aC:List (aG×Obj)) (s:bH) (σ:St) (H:Hp) (Q:Bool->Hp->Prop),Inv X aC σ H s->t σ H Q->bL (aZ X.prog X.w) X.A (EY e X.env (cI e X.env)) (TP X aC σ Q) X.xe s
def PW(X:Cx)(e:Expr)(t:TT):Prop:=
 ∀(whole:Sem aN) (aC:List (aG×Obj)) (s:bH) (σ:St) (H:Hp) (Q:Bool->Hp->Prop),Inv X aC σ H s->t σ H Q->bL (aZ X.prog X.w) X.A (EY e X.env whole) (TP X aC σ Q) X.xe s
def PW.pt(h:PW X e t):PT X e t:=h _
def PA(X:Cx)(es:List Expr)(t:TA):Prop:=
 ∀(pos:Pos) (aC:List (aG×Obj)) (s:bH) (σ:St) (H:Hp) (Q:List V->Hp->Prop),Inv X aC σ H s->t σ H Q->bL (aZ X.prog X.w) X.A (spliced (dS pos (aK es X.env))) (AP X aC σ Q) X.xe s
def PS(X:Cx)(st:Stmt)(t:TS):Prop:=
 ∀(aC:List (aG×Obj)) (s:bH) (σ:St) (H:Hp) (D:Ends),Inv X aC σ H s->t D σ H->bL (aZ X.prog X.w) X.A (exec st X.env) (SP X aC D) X.xe s
def PSs(X:Cx)(st:List Stmt)(t:TS):Prop:=
 ∀(aC:List (aG×Obj)) (s:bH) (σ:St) (H:Hp) (D:Ends),Inv X aC σ H s->t D σ H->bL (aZ X.prog X.w) X.A (execs st X.env) (SP X aC D) X.xe s
def thn(h:bL M A t Q E s)(hQ:∀a s,Q a s->Q' a s):bL M A t Q' E s:=eA h hQ λ_ _ x=>x
section
variable{X:Cx}
def tVar(i:Nat):TE:=λσ H Q=>∃v,σ[i]?=some (some v)/\Q v H
def tC(v:V):TE:=λ_ H Q=>Q v H
def xT(hN:X.N[i]?=some x)(hv:Vis X.env.scope x)(hd:(x==("__debug__" : Str))=false:=by decide)(hcd:(x==("__classdict__" : Str))=false:=by decide):PE X (.Name x pos) (tVar i):=by
 intro aC s σ H Q I h;obtain⟨v,e,h⟩:=h;obtain⟨m,hn,hl⟩:=I.loc;obtain⟨u,r,l⟩:=hl i x v hN e hv;have fin:EP X aC σ Q u s:=⟨v,H,I,r,h⟩
 rcases l with⟨hk,hm⟩|⟨hk,c,hc,hcell⟩
 . exact wpAny_Name (wpAny_loadName_local I.ok.kind hk hn hm fin) hd
 . rcases hk with hk|hk
   . exact wpAny_Name (wpAny_loadName_cell I.ok.kind hk hc hcell fin) hd
   . exact wpAny_Name (wpAny_loadName_free I.ok.kind hk hc hcell fin hcd) hd
def pe_int{i j pos}: PE X (.Constant (.int i) j pos) (tC (.int i)):=λ_ _ _ H _ I h=>wpAny_Constant_int ⟨.int i,H,I.tok _,⟨_,rfl⟩,h⟩
def pe_bl{b j pos}: PE X (.Constant (.bool b) j pos) (tC (.bl b)):=λ_ _ _ H _ I h=>Constant_bool ⟨.bl b,H,I,rfl,h⟩
def pe_non{j pos}: PE X (.Constant .none j pos) (tC .non):=λ_ _ _ H _ I h=>Constant_none ⟨.non,H,I,rfl,h⟩
def pe_str{x j pos}: PE X (.Constant (.str x) j pos) (tC (.str x)):=λ_ _ _ H _ I h=>Calls.Constant_str ⟨.str x,H,I.tok _,⟨_,rfl⟩,h⟩
def Gl(X:Cx)(x:Str):Prop:=X.env.kindOf x=some .globalImplicit
def IZ(I:Inv X aC σ H s)(hg:Gl X x)(hm:X.mg x=some u)(h:Q u s)(hd:(x==("__debug__" : Str))=false:=by decide):bL (aZ X.prog X.w) X.A (cI (.Name x pos) X.env) Q E s:=
 Calls.Name_function_global I.ok.kind hg (Calls.loadGlobal_global (by rw[I.ok.glob];exact I.mod.glob.keeps I.bk) hm h) hd
def wX(I:Inv X aC σ H s)(hg:Gl X x)(hm:X.mg x=none)(hv:fG x=some u)(h:Q u s)(hn:x≠"__name__":=by decide)(hd:(x==("__debug__" : Str))=false:=by decide):bL (aZ X.prog X.w) X.A (cI (.Name x pos) X.env) Q E s:=by obtain⟨mb,h1,h2⟩:=I.mod.blt;exact Calls.Name_function_global I.ok.kind hg (Calls.loadGlobal_builtin (by rw[I.ok.glob];exact I.mod.glob.keeps I.bk) hm (by rw[I.ok.blt];exact h1.keeps I.bk) ((h2 x hn).trans hv) h) hd
def TV(hg:Gl X x)(hm:X.mg x=some u)(r:RelV v u)(hd:(x==("__debug__" : Str))=false:=by decide):PE X (.Name x pos) (tC v):=
 λ_ _ _ H _ I h=>IZ I hg hm ⟨v,H,I,r,h⟩ hd
def pe_bltn(hg:Gl X x)(hm:X.mg x=none)(hv:fG x=some u)(r:RelV v u)(hn:x≠"__name__":=by decide)(hd:(x==("__debug__" : Str))=false:=by decide):PE X (.Name x pos) (tC v):=
 λ_ _ _ H _ I h=>wX I hg hm hv ⟨v,H,I,r,h⟩ hn hd
variable{a b:Expr}{ta tb:TE}
def PC(X:Cx)(op:CmpOp)(a b:Expr)(t:TE):Prop:=
 ∀(aC:List (aG×Obj)) (s:bH) (σ:St) (H:Hp) (Q:VK),Inv X aC σ H s->t σ H Q →
  bL (aZ X.prog X.w) X.A (cI a X.env) (λv s₁=>bL (aZ X.prog X.w) X.A (cI b X.env) (λu s₂=>bL (aZ X.prog X.w) X.A (eC op v u) (EP X aC σ Q) X.xe s₂) X.xe s₁) X.xe s
def aDd b(h:op≠.In)(h2:op≠.NotIn):dH op b=false:=by
 have e1:(op==CmpOp.In)=false:=by cases op<;>first|rfl|exact absurd rfl h
 have e2:(op==CmpOp.NotIn)=false:=by cases op<;>first|rfl|exact absurd rfl h2
 cases b<;>simp[dH,e1,e2]
def tB(t:TE):TT:=λσ H Q=>t σ H λx H1=>∃c,x=.bl c/\Q c H1
def aBw(h:PC X op a b t)(h1:dH op b=false:=by first|exact aDd _ (by decide) (by decide)|rfl):PT X (.Compare a [op] [b] pos) (tB t):=by intro aC s σ H Q I hw;refine wpAny_isTrue_Compare1 (thn (h aC s σ H _ I hw) λv s1 h1=>thn h1 λu s2 h2=>thn h2 λc s3 zq=>?_) h1;obtain⟨x,H1,I1,r1,q1⟩:=zq;obtain⟨d,rfl,q⟩:=q1;cases r1;exact fZ ⟨H1,I1,q⟩
def pt_val(h:PE X e t)(he:∀whole,EY e X.env whole=(do let v <- whole;mX e.pos;gN [v] (truthy v)):=by intro _;rfl):PT X e (tB t):=by intro aC s σ H Q I hw;refine isTrue_plain (thn (h aC s σ H _ I hw) λv s1 zq=>?_) (he _);obtain⟨x,H1,I1,r1,q1⟩:=zq;obtain⟨d,rfl,q⟩:=q1;cases r1;exact fZ ⟨H1,I1,q⟩
variable{rest:List Expr}
def tAnd(t u:TT):TT:=λσ H Q=>t σ H λc H1=>if c=true then u σ H1 Q else Q false H1
def tOr(t u:TT):TT:=λσ H Q=>t σ H λc H1=>if c=true then Q true H1 else u σ H1 Q
def tNot(t:TT):TT:=λσ H Q=>t σ H λc H1=>Q (!c) H1
def pw_and1(ha:PT X a tA):PW X (.BoolOp .And [a] pos) tA:=by
 intro wh aC s σ H Q I h;refine isTrue_and (thn (ha aC s σ H Q I h) λc s1 e=>?_);cases c with
 |true=>exact isTrue_and_nil e
 |false=>exact e
def pw_or1(ha:PT X a tA):PW X (.BoolOp .Or [a] pos) tA:=by
 intro wh aC s σ H Q I h;refine isTrue_or (thn (ha aC s σ H Q I h) λc s1 e=>?_);cases c with
 |false=>exact isTrue_or_nil e
 |true=>exact e
def pw_and(ha:PT X a tA)(hb:PW X (.BoolOp .And (b::rest) pos) tB'):PW X (.BoolOp .And (a::b::rest) pos) (tAnd tA tB'):=by
 intro wh aC s σ H Q I h;refine isTrue_and (thn (ha aC s σ H _ I h) λc s1 zq=>?_);obtain⟨H1,I1,q1⟩:=zq;cases c with
 |true=>exact hb wh aC s1 σ H1 Q I1 q1
 |false=>exact⟨H1,I1,q1⟩
def pw_or(ha:PT X a tA)(hb:PW X (.BoolOp .Or (b::rest) pos) tB'):PW X (.BoolOp .Or (a::b::rest) pos) (tOr tA tB'):=by
 intro wh aC s σ H Q I h;refine isTrue_or (thn (ha aC s σ H _ I h) λc s1 zq=>?_);obtain⟨H1,I1,q1⟩:=zq;cases c with
 |true=>exact⟨H1,I1,q1⟩
 |false=>exact hb wh aC s1 σ H1 Q I1 q1
def pt_not(ha:PT X a tA):PT X (.UnaryOp .Not a pos) (tNot tA):=by intro aC s σ H Q I h;exact isTrue_not (ha aC s σ H (λc H1=>Q (!c) H1) I h)
def tAndV(ta tb:TE):TE:=λσ H Q=>ta σ H λx H1=>∃c,x=.bl c/\if c=true then tb σ H1 Q else Q (.bl false) H1
def tNotV(ta:TE):TE:=λσ H Q=>ta σ H λx H1=>∃c,x=.bl c/\Q (.bl (!c)) H1
def pe_one{op}(h:PE X a t):PE X (.BoolOp op [a] pos) t:=λaC s σ H Q I hw=>BoolOp_one (h aC s σ H Q I hw)
def pe_and(ha:PE X a ta)(hb:PE X (.BoolOp .And (b::rest) pos) tb):PE X (.BoolOp .And (a::b::rest) pos) (tAndV ta tb):=by
 intro aC s σ H Q I h;refine BoolOp_and (thn (ha aC s σ H _ I h) λv s1 zq=>?_);obtain⟨x,H1,I1,r1,q1⟩:=zq;obtain⟨c,rfl,q1⟩:=q1;cases r1;refine fZ ?_;cases c with
 |true=>exact hb aC s1 σ H1 Q I1 q1
 |false=>exact⟨.bl false,H1,I1,rfl,q1⟩
def pe_not(ha:PE X a ta):PE X (.UnaryOp .Not a pos) (tNotV ta):=by intro aC s σ H Q I h;refine UnaryOp_ (thn (ha aC s σ H _ I h) λv s1 zq=>?_);obtain⟨x,H1,I1,r1,q1⟩:=zq;obtain⟨c,rfl,q1⟩:=q1;cases r1;exact not_of (fZ ⟨.bl (!c),H1,I1,rfl,q1⟩)
def tIf(t:TT)(ta tb:TE):TE:=λσ H Q=>t σ H λc H1=>if c=true then ta σ H1 Q else tb σ H1 Q
def aCn(hc:PT X c tA)(ha:PE X a ta)(hb:PE X b tb):PE X (.IfExp c a b pos) (tIf tA ta tb):=by
 intro aC s σ H Q I h;refine wpAny_IfExp (thn (hc aC s σ H _ I h) λd s1 zq=>?_);obtain⟨H1,I1,q1⟩:=zq;cases d with
 |true=>exact ha aC s1 σ H1 Q I1 q1
 |false=>exact hb aC s1 σ H1 Q I1 q1
end
def SqL(K:aP)(H:Hp)(a:aG)(xs:List V):Prop:=
 Rd H a (.lst xs) ∨
  ∃(o:Obj) (its:Array aN) (n:Nat),K.lookup a=some o/\o.cls=.type "list"/\o.dict=none/\o.data=.seq its n/\its.size<=sizeLine/\Vals xs its.toList
def SqT(K:aP)(H:Hp)(a:aG)(xs:List V):Prop:=
 Rd H a (.tup xs) ∨
  ∃(o:Obj) (its:Array aN) (n:Nat),K.lookup a=some o/\o.cls=.type "tuple"/\o.data=.seq its n/\its.size<=sizeLine/\Vals xs its.toList
noncomputable def absV:aN->Option V
 |.none=>some .non
 |.bool b=>some (.bl b)
 |.int i _=>some (.int i)
 |.str x _=>some (.str x)
 |.bytes b _=>some (.byt b)
 |.float b _=>some (.flt b)
 |.ref a=>some (.ref a)
 |.type n=>some (.ty n)
 |_=>none
def RelV.abs(r:RelV x u):absV u=some x:=by
 cases x with
 |non=>cases r;rfl
 |bl _=>cases r;rfl
 |int _=>obtain⟨t,rfl⟩:=r;rfl
 |str _=>obtain⟨t,rfl⟩:=r;rfl
 |byt _=>obtain⟨t,rfl⟩:=r;rfl
 |flt _=>obtain⟨t,rfl⟩:=r;rfl
 |ref _=>cases r;rfl
 |ty _=>cases r;rfl
theorem RelV.inj(r:RelV x u)(q:RelV y u):x=y:=Option.some.inj (r.abs.symm.trans q.abs)
theorem Vals.inj:∀{xs ys:List V}{us:List aN},Vals xs us->Vals ys us->xs=ys
 |_,_,_,.nil,.nil=>rfl
 |_,_,_,.cons r t,.cons r' t'=>by rw[r.inj r',Vals.inj t t']
def SqL.of{K:aP}(h:H a=some (.lst xs)):SqL K H a xs:=.inl (.inl h)
def SqT.of{K:aP}(h:H a=some (.tup xs)):SqT K H a xs:=.inl (.inl h)
def Inv.list(I:Inv X aC σ H s)(h:SqL X.K H a xs):∃its:List aN,Vals xs its/\PlainL s.heap a its.toArray/\xs.length<=sizeLine:=by
 rcases h with h|⟨o,its,n,hk,hc,hd,hs,hz,r⟩
 . obtain⟨z,its,n,r,e⟩:=h.ok I.hok;exact⟨its,r,⟨_,n,e,rfl,rfl,rfl⟩,z⟩
 . refine ⟨its.toList,r,⟨o,n,I.kIn a o hk,hc,hd,by simpa using hs⟩,?_⟩;have e:=r.length;simp [bG]at e
   lia
def Inv.tuple(I:Inv X aC σ H s)(h:SqT X.K H a xs):∃its,Vals xs its/\IsTup s.heap a its.toArray/\xs.length<=sizeLine:=by
 rcases h with h|⟨o,its,n,hk,hc,hs,hz,r⟩
 . obtain⟨z,its,r,p⟩:=h.ok I.hok;exact⟨its,r,p,z⟩
 . refine ⟨its.toList,r,⟨o,I.kIn a o hk,hc,n,by simpa using hs⟩,?_⟩;have e:=r.length;simp [bG]at e
   lia
def Inv.list_inj(I:Inv X aC σ H s)(h:SqL X.K H a xs)(h':SqL X.K H a ys):xs=ys:=by
 obtain⟨its,r,⟨o,n,e,_,_,d⟩,_⟩:=I.list h;obtain⟨its',r',⟨o',n',e',_,_,d'⟩,_⟩:=I.list h';rw[e]at e';cases e';rw[d]at d';injection d' with d1 _
 have:its=its':=by simpa using congrArg Array.toList d1
 subst this;exact r.inj r'
def Inv.tuple_inj(I:Inv X aC σ H s)(h:SqT X.K H a xs)(h':SqT X.K H a ys):xs=ys:=by
 obtain⟨its,r,⟨o,e,_,n,d⟩,_⟩:=I.tuple h;obtain⟨its',r',⟨o',e',_,n',d'⟩,_⟩:=I.tuple h';rw[e]at e';cases e';rw[d]at d';injection d' with d1 _
 have:its=its':=by simpa using congrArg Array.toList d1
 subst this;exact r.inj r'
noncomputable abbrev Cx.wish(X:Cx)(E:aN->bH->Prop):Cx:={X with xe:=E}
noncomputable abbrev Cx.nox(X:Cx):Cx:=X.wish λ_ _=>False
theorem Cx.Ok.wish{X:Cx}(ok:X.Ok) E:(X.wish E).Ok:=
 ⟨ok.mod,ok.kind,ok.glob,ok.blt,ok.above,ok.inj,ok.has,ok.cab,ok.hd,ok.frames,ok.stk,ok.exf,ok.bs,ok.bsz,ok.noex,ok.exfs,ok.funs,ok.frf⟩
def Cx.Ok.unwish{X:Cx}(ok:(X.wish E).Ok):X.Ok:=
 ⟨ok.mod,ok.kind,ok.glob,ok.blt,ok.above,ok.inj,ok.has,ok.cab,ok.hd,ok.frames,ok.stk,ok.exf,ok.bs,ok.bsz,ok.noex,ok.exfs,ok.funs,ok.frf⟩
theorem Inv.wish(I:Inv X aC σ H s) E:Inv (X.wish E) aC σ H s:=⟨I.ok.wish E,I.os,I.bare,I.base,I.loc,I.cell,I.free,I.freeC,I.pin,I.hok,I.len⟩
theorem Inv.unwish(I:Inv (X.wish E) aC σ H s):Inv X aC σ H s:=⟨I.ok.unwish,I.os,I.bare,I.base,I.loc,I.cell,I.free,I.freeC,I.pin,I.hok,I.len⟩
theorem SP.unwish(h:SP (X.wish E) aC D f s'):SP X aC D f s':=by
 cases f with
 |next=>obtain⟨σ',H',I,q⟩:=h;exact⟨σ',H',I.unwish,q⟩
 |brk=>obtain⟨σ',H',I,q⟩:=h;exact⟨σ',H',I.unwish,q⟩
 |cont=>obtain⟨σ',H',I,q⟩:=h;exact⟨σ',H',I.unwish,q⟩
 |ret u=>obtain⟨v,σ',H',I,r,q⟩:=h;exact⟨v,σ',H',I.unwish,r,q⟩
theorem PSs.nox{st:List Stmt}(h:PSs X.nox st t):PSs X st t:=λaC s σ H D I hw=>eA (h aC s σ H D (I.wish _) hw) (λ_ _ q=>q.unwish) λ_ _ z=>False.elim z
section
variable{st:Stmt}{rest:List Stmt}{t u:TS}{te:TE}
def tNext:TS:=λD σ H=>D.nx σ H
def tSeq(t u:TS):TS:=λD σ H=>t {D with nx:=u D} σ H
def pss_nil:PSs X [] tNext:=λ_ _ σ H _ I h=>sB ⟨σ,H,I,h⟩
def LR(h1:PS X st t)(h2:PSs X rest u):PSs X (st::rest) (tSeq t u):=by
 intro aC s σ H D I h;refine wpAny_execs_cons (thn (h1 aC s σ H {D with nx:=u D} I h) λf s1 q=>?_);cases f with
 |next=>obtain⟨σ',H',I',q⟩:=q;exact h2 aC s1 σ' H' D I' q
 |ret v=>exact q
 |brk=>exact q
 |cont=>exact q
def TK(h1:PS X st t):PSs X [st] t:=by
 intro aC s σ H D I h;refine wpAny_execs_cons (thn (h1 aC s σ H D I h) λf s1 q=>?_);cases f with
 |next=>exact sB q
 |ret v=>exact q
 |brk=>exact q
 |cont=>exact q
def tCont:TS:=λD σ H=>D.ct σ H
def LS:PS X (.Continue pos) tCont:=λ_ _ σ H _ I h=>wpAny_Continue ⟨σ,H,I,h⟩
def Inv.quiet(I:Inv X aC σ H s):interactive X.env=false:=by simp[interactive,I.ok.kind]
def tDrop(te:TE):TS:=λD σ H=>te σ H λ_ H1=>D.nx σ H1
def kB(he:PE X e te)(hs:eM e none pos.line X.env=pure false:=by rfl):PS X (.Expr e pos) (tDrop te):=by intro aC s σ H D I h;exact wpAny_Expr_any (thn (he aC s σ H _ I h) λv s1 ⟨x,H1,I1,r1,q1⟩=>⟨σ,H1,I1,q1⟩) I.quiet hs
def tRet(te:TE):TS:=λD σ H=>te σ H D.rt
def BV(he:PE X e te):PS X (.Return (some e) pos) (tRet te):=by intro aC s σ H D I h;exact wpAny_Return_some (thn (he aC s σ H _ I h) λv s1 ⟨x,H1,I1,r1,q1⟩=>⟨x,σ,H1,I1,r1,q1⟩)
def tIfS(c:TT)(t u:TS):TS:=λD σ H=>c σ H λb H1=>if b=true then t D σ H1 else u D σ H1
def ps_if(hc:PT X c tc)(ha:PSs X a t)(hb:PSs X b u):PS X (.If c a b pos) (tIfS tc t u):=by
 intro aC s σ H D I h;refine wpAny_If (thn (hc aC s σ H _ I h) λd s1 zq=>?_);obtain⟨H1,I1,q1⟩:=zq;cases d with
 |true=>exact ha aC s1 σ H1 D I1 q1
 |false=>exact hb aC s1 σ H1 D I1 q1
def tNever:TS:=λ_ _ _=>False
def aCc:PS X st tNever:=λ_ _ _ _ _ _ h=>h.elim
end
abbrev TG:=V->St->Hp->(St->Hp->Prop)->Prop
abbrev TGs:=List V->St->Hp->(St->Hp->Prop)->Prop
def PG(X:Cx)(target:Expr)(t:TG):Prop:=
 ∀(aC:List (aG×Obj)) (s:bH) (σ:St) (H:Hp) (v:V) (u:aN) (Q:St->Hp->Prop),Inv X aC σ H s->RelV v u->t v σ H Q →
  bL (aZ X.prog X.w) X.A (AB target X.env u) (λ_ s'=>∃σ' H',Inv X aC σ' H' s'/\Q σ' H') X.xe s
def PGs(X:Cx)(ts:List Expr)(t:TGs):Prop:=
 ∀(aC:List (aG×Obj)) (s:bH) (σ:St) (H:Hp) (vs:List V) (us:List aN) (Q:St->Hp->Prop),Inv X aC σ H s->Vals vs us->t vs σ H Q →
  bL (aZ X.prog X.w) X.A (assignInOrder ((gD ts X.env).map (·.2)) us) (λ_ s'=>∃σ' H',Inv X aC σ' H' s'/\Q σ' H') X.xe s
abbrev TSet:=V->V->V->Hp->(Hp->Prop)->Prop
def PSet(X:Cx)(t:TSet):Prop:=
 ∀(aC:List (aG×Obj)) (s:bH) (σ:St) (H:Hp) (o i v:V) (ov iv u:aN) (Q:Hp->Prop),Inv X aC σ H s->RelV o ov->RelV i iv->RelV v u->t o i v H Q →
  bL (aZ X.prog X.w) X.A (setItem ov iv u) (λ_ s'=>∃H',Inv X aC σ H' s'/\Q H') X.xe s
abbrev TIp:=V->V->Hp->VK->Prop
def PIp(X:Cx)(op:Operator)(t:TIp):Prop:=
 ∀(aC:List (aG×Obj)) (s:bH) (σ:St) (H:Hp) (x y:V) (v u:aN) (Q:VK),Inv X aC σ H s->RelV x v->RelV y u->t x y H Q →
  bL (aZ X.prog X.w) X.A (inplaceOp op v u) (EP X aC σ Q) X.xe s
section
variable{X:Cx}
def gName(i:Nat):TG:=λv σ H Q=>Q (σ.set i (some v)) H
def pg_name(hN:X.N.Nodup)(hi:X.N[i]?=some x)(hx:Loc X.env.scope x)(hf:X.fn x=true\/X.env.scope.names.lookup x=some .local:=by first|exact .inl rfl|exact .inr rfl|assumption):PG X (.Name x pos) (gName i):=by intro aC s σ H v u Q I r h;exact wpAny_assign_Name (BH I hN hi hx r (λs' I'=>⟨_,H,I',h⟩) hf)
def gNil:TGs:=λvs σ H Q=>vs=[]/\Q σ H
def gCons(t:TG)(u:TGs):TGs:=λvs σ H Q=>∃v r,vs=v::r/\t v σ H λσ' H'=>u r σ' H' Q
def pgs_nil:PGs X [] gNil:=by intro aC s σ H vs us Q I r h;obtain⟨e,h⟩:=h;subst e;exact assignInOrder_nil ⟨σ,H,I,h⟩
def aCl(h1:PG X e t)(h2:PGs X es u)(hs:(gD (e::es) X.env).map (·.2)=AB e X.env::(gD es X.env).map (·.2):=by rfl):PGs X (e::es) (gCons t u):=by
 intro aC s σ H vs us Q I r h;obtain⟨v,vr,e1,h⟩:=h;subst e1;cases r with
 |cons r rr=>rw[hs];refine assignInOrder_cons (thn (h1 aC s σ H _ _ _ I r h) λ_ s1 zq=>?_);obtain⟨σ1,H1,I1,q1⟩:=zq;exact h2 aC s1 σ1 H1 _ _ Q I1 rr q1
def gTup(K:aP)(n:Nat)(t:TGs):TG:=λv σ H Q=>∃a xs,v=.ref a/\SqT K H a xs/\xs.length=n/\t xs σ H Q
def pg_tup(hc:X.calm=true)(h:PGs X es t)(hn:(gD es X.env).length=n:=by rfl)(hst:(gD es X.env).findIdx? (·.1)=none:=by rfl):PG X (.Tuple es k pos) (gTup X.K n t):=by intro aC s σ H v u Q I r hw;obtain⟨a,xs,e1,hq,hl,hw⟩:=hw;subst e1;cases r;obtain⟨its,rv,ht,hz⟩:=I.tuple hq;refine assign_Tuple_tuple (I.ok.hd hc) ht (by simp[hn,<-hl,rv.length]) hst λh' hx=>?_;have I1:=I.kept (t':=s.toks) λb o e=>hx b o (bO (bJ e)) e;exact h aC _ σ H xs _ Q I1 (by simpa using rv) hw
def gSub(to ti:TE)(t:TSet):TG:=λv σ H Q=>to σ H λo H1=>ti σ H1 λi H2=>t o i v H2 λH3=>Q σ H3
def pg_sub(ho:PE X o to)(hi:PE X i ti)(hs:PSet X t)(ha:∀v,AB (.Subscript o i pos) X.env v=(do
    let ov <- gN [v] (cI o X.env)
    let iv <- gN [v,ov] (cI i X.env)
    mX pos
    gN [v,ov,iv] (setItem ov iv v)
    release [v,ov,iv] []):=by intro _;rfl):PG X (.Subscript o i pos) (gSub to ti t):=by
 intro aC s σ H v u Q I r h;refine aA (dR (thn (ho aC s σ H _ I h) λov s1 zq=>?_));obtain⟨x,H1,I1,r1,q1⟩:=zq;refine aA (dR (thn (hi aC s1 σ H1 _ I1 q1) λiv s2 zq=>?_));obtain⟨y,H2,I2,r2,q2⟩:=zq;refine aA (RL (aA (dR (thn (hs aC s2 σ H2 x y v ov iv u _ I2 r1 r2 r q2) λ_ s3 zq=>?_))));obtain⟨H3,I3,q3⟩:=zq;exact wpAny_release ⟨σ,H3,I3,q3⟩
def tAsg(te:TE)(g:TG):TS:=λD σ H=>te σ H λx H1=>g x σ H1 D.nx
def aCe(he:PE X e te)(hg:PG X tg g)(hs:RN [tg] e pos.line X.env=pure false:=by rfl)(hw:RO [tg] e X.env=pure none:=by rfl)(h1:(gD [tg] X.env).map (·.2)=[AB tg X.env]:=by rfl):PS X (.Assign [tg] e pos) (tAsg te g):=by intro aC s σ H D I h;refine wpAny_Assign_stores (thn (he aC s σ H _ I h) λv s1 zq=>?_) hs hw;obtain⟨x,H1,I1,r1,q1⟩:=zq;rw[h1];exact thn (hg aC s1 σ H1 x v _ I1 r1 q1) λ_ s2 q=>q
def IU(hN:X.N.Nodup)(hi:X.N[i]?=some x)(hx:Loc X.env.scope x)(he:PE X e te)(hs:eM e (some (.Name x pos')) pos.line X.env=pure false:=by rfl)(hf:X.fn x=true\/X.env.scope.names.lookup x=some .local:=by first|exact .inl rfl|exact .inr rfl|assumption) :
  PS X (.Assign [.Name x pos'] e pos) (tAsg te (gName i)):=by
 intro aC s σ H D I h;refine wpAny_Assign_Name (thn (he aC s σ H _ I h) λv s1 zq=>?_) hs;obtain⟨y,H1,I1,r1,q1⟩:=zq;exact BH I1 hN hi hx r1 (λs2 I2=>⟨_,H1,I2,q1⟩) hf
def tAug(i:Nat)(te:TE)(ti:TIp):TS:=λD σ H=>∃x,σ[i]?=some (some x)/\te σ H λy H1=>ti x y H1 λz H2=>D.nx (σ.set i (some z)) H2
def ps_aug(hN:X.N.Nodup)(hi:X.N[i]?=some x)(hx:Loc X.env.scope x)(he:PE X e te)(ho:PIp X op ti)(hf:X.fn x=true\/X.env.scope.names.lookup x=some .local:=by first|exact .inl rfl|exact .inr rfl|assumption) :
  PS X (.AugAssign (.Name x pos') op e pos) (tAug i te ti):=by
 intro aC s σ H D I h;obtain⟨v,e1,h⟩:=h;obtain⟨m,hn,hl⟩:=I.loc;have vis:Vis X.env.scope x:=by rcases hx with k|k;exact .inl k;exact .inr (.inl k)
 obtain⟨u,r,l⟩:=hl i x v hi e1 vis;refine wpAny_AugAssign_Name ?_;have go:bL (aZ X.prog X.w) X.A (cI e X.env) (λw s₂=>bL (aZ X.prog X.w) X.A (inplaceOp op u w) (λr s₃=>bL (aZ X.prog X.w) X.A (storeName X.env x r) (λ_=>SP X aC D .next) X.xe s₃) X.xe s₂) X.xe s:=by refine thn (he aC s σ H _ I h) λw s1 zq=>?_;obtain⟨y,H1,I1,r1,q1⟩:=zq;refine thn (ho aC s1 σ H1 v y u w _ I1 r r1 q1) λz s2 zq=>?_;obtain⟨zv,H2,I2,r2,q2⟩:=zq;exact BH I2 hN hi hx r2 (λs3 I3=>⟨_,H2,I3,q2⟩) hf
 rcases l with⟨hk,hm⟩|⟨hk,c,hc,hcell⟩
 . exact wpAny_loadName_local I.ok.kind hk hn hm go
 . rcases hk with hk|hk
   . exact wpAny_loadName_cell I.ok.kind hk hc hcell go
   . rcases hx with k|k
     . have:X.env.scope.names.lookup x=some .free:=hk;rw[k]at this;cases this
     . have:X.env.scope.names.lookup x=some .free:=hk;rw[k]at this;cases this
def ipI(f:Int->Int->Int):TIp:=λx y H Q=>∃i j,x=.int i/\y=.int j/\Q (.int (f i j)) H
def ip_add:PIp X .Add (ipI λi j=>i+j):=by intro aC s σ H x y v u Q I r1 r2 h;obtain⟨i,j,e1,e2,q⟩:=h;subst e1;subst e2;obtain⟨t,rfl⟩:=r1;obtain⟨t',rfl⟩:=r2;exact iadd_int ⟨.int _,H,I.tok _,⟨_,rfl⟩,q⟩
end
def tWhile(c:TT)(tb:TS):TS:=λD σ H=>∃W:Nat->St->Hp->Prop,(∃m,W m σ H)/\∀m σ H,W m σ H →
 c σ H λb H1=>if b=true then ∃N:St->Hp->Prop,(∀σ' H',N σ' H'->∃m',m'<m/\W m' σ' H')/\tb {D with nx:=N,ct:=N,bk:=D.nx} σ H1 else D.nx σ H1
def aCb(hp:FD (aZ X.prog X.w) X.A X.env X.xe)(hc:PT X c tc)(hb:PSs X body tb):PS X (.While c body [] pos) (tWhile tc tb):=by
 intro aC s σ H D I h;obtain⟨W,⟨m0,w0⟩,turn⟩:=h;refine wpAny_While (codeAny_whileLoop (λn s'=>∃σ' H',Inv X aC σ' H' s'/\W n σ' H') ?_ m0 ⟨σ,H,I,w0⟩);rintro n s1 ⟨σ1,H1,I1,w1⟩;refine hX hp (thn (hc aC s1 σ1 H1 _ I1 (turn n σ1 H1 w1)) λb s2 zq=>?_);obtain⟨H2,I2,q2⟩:=zq;cases b with
 |true=>
   obtain⟨N,hN,q2⟩:=q2;refine hX hp (thn (hb aC s2 σ1 H2 _ I2 q2) λf s3 q3=>?_);cases f with
   |next=>obtain⟨σ3,H3,I3,n3⟩:=q3;obtain⟨m',hm,w3⟩:=hN σ3 H3 n3;exact⟨m',hm,σ3,H3,I3,w3⟩
   |cont=>obtain⟨σ3,H3,I3,n3⟩:=q3;obtain⟨m',hm,w3⟩:=hN σ3 H3 n3;exact⟨m',hm,σ3,H3,I3,w3⟩
   |brk=>exact q3
   |ret v=>exact q3
 |false=>exact sB ⟨σ1,H2,I2,q2⟩
structure It where
 go:Nat->Hp->Prop
 yld:Nat->Hp->V->Hp->Prop
 stop:Nat->Hp->Prop
def FpOk(X:Cx)(aC:List (aG×Obj))(H:Hp)(b:aG):Prop:=
 H b=none/\b≠X.env.locals/\b∉X.fs/\(b∈X.ex\/X.s₀.heap.objs.size<=b)/\(∀x c,X.env.cells.lookup x=some c->c≠b)/\∀p∈X.pn++aC,p.1≠b
def Inv.fpOk(I:Inv X aC σ H s)(hb:s.heap.objs.size<=b)(hn:H' b=none):FpOk X aC H' b:=by
 refine⟨hn,tW (bY I.lt hb),I.nofs hb,.inr (cW I.sz hb),λx c e z=>?_,λp hp z=>?_⟩
 . obtain⟨v,q⟩:=I.cell x c e;exact absurd (bY q.lt (by rw[z];exact hb)) (cZ _)
 . exact absurd (bY (bJ (I.pin p hp).1) (by rw[z];exact hb)) (cZ _)
structure Turn(P:cF)(w:dE)(K:aP)(tg:Expr)(J:It)(fp:List aG)(it:aG)(tn:Nat->Heap->Prop)(cm:Cx->Prop:=λX=>X.calm=true):Prop where
 mem:it∈fp
 obj:∀i h,tn i h->∀b∈fp,∃o,h.get? b=some o/\∀v,o.data≠.cell v
 keep:∀i h h',tn i h->(∀b∈fp,∀o,h.get? b=some o->h'.get? b=some o)->tn i h'
 item:∀(X:Cx),X.prog=P->X.w=w->X.K=K->cm X->∀(i:Nat) (aC:List (aG×Obj)) (s:bH) (σ:St) (H:Hp) (E:aN->bH->Prop),Inv X aC σ H s->(∀b∈fp,FpOk X aC H b)->tn i s.heap->J.go i H →
  bL (aZ P w) X.A (pyNext (.ref it)) (λr s1=>∃u,r=some u ∧
   bL (aZ P w) X.A (JU tg (.ref it) u) (λ_ s2=>∃x H',Inv X aC σ H' s2/\RelV x u/\J.yld i H x H'/\tn (i+1) s2.heap/\∀b∈fp,H' b=none) E s1) E s
 done:∀(X:Cx),X.prog=P->X.w=w->X.K=K->cm X->∀(i:Nat) (aC:List (aG×Obj)) (s:bH) (σ:St) (H:Hp) (E:aN->bH->Prop),Inv X aC σ H s->(∀b∈fp,FpOk X aC H b)->tn i s.heap->J.stop i H →
  bL (aZ P w) X.A (pyNext (.ref it)) (λr s1=>r=none/\Inv X aC σ H s1) E s
 self:∀(A:eX) (i:Nat) (s:bH) (Q:aN->bH->Prop) (E:aN->bH->Prop),tn i s.heap->Q (.ref it) s->bL (aZ P w) A (EX (.ref it)) Q E s
abbrev TI:=St->Hp->(It->Hp->Prop)->Prop
def PIE(X:Cx)(aC:List (aG×Obj))(σ:St)(tg:Expr)(R:It->Hp->Prop)(cm:Cx->Prop:=λX=>X.calm=true)(itv:aN)(s2:bH):Prop:=
 ∃(it:aG) (fp:List aG) (tn:Nat->Heap->Prop) (J:It) (H':Hp),itv=.ref it/\Inv X aC σ H' s2/\Turn X.prog X.w X.K tg J fp it tn cm/\tn 0 s2.heap/\(∀b∈fp,FpOk X aC H' b)/\R J H'
def PI(X:Cx)(tg iter:Expr)(wi:TI)(cm:Cx->Prop:=λX=>X.calm=true):Prop:=
 ∀(aC:List (aG×Obj)) (s:bH) (σ:St) (H:Hp) (R:It->Hp->Prop),Inv X aC σ H s->wi σ H R →
  bL (aZ X.prog X.w) X.A (cI iter X.env) (λv s1=>bL (aZ X.prog X.w) X.A (EX v) (PIE X aC σ tg R cm) X.xe s1) X.xe s
def HN(ho:s.heap.get? it=some o)(hc:o.cls=.type n)(hd:o.data=.fields vs)(hn:["enumerate","zip","dict_itemiterator","dict_reverseitemiterator","odict_iterator","itertools.zip_longest","itertools.pairwise"].contains n=false)(hQ:Q () s):bL M A (JU tg (.ref it) u) Q E s:=by
 cases tg<;>first
  |exact aJ hQ
  |(cases u<;>first
      |exact aJ hQ
      | (refine aA (wpAny_load ho ?_)
         rw[hc,hd];show bL M A (if (["enumerate","zip","dict_itemiterator","dict_reverseitemiterator","odict_iterator","itertools.zip_longest","itertools.pairwise"].contains n&&vs[0]?==some (oX _))=true then _ else _) Q E s;rw[if_neg (by intro h;rw[hn,Bool.false_and]at h;cases h)]
         exact aJ hQ))
noncomputable def Itl(K:aP)(a:aG):It:=
 ⟨λi H=>∃xs x,SqL K H a xs/\xs[i]?=some x,λi H x H'=>H'=H/\∀xs,SqL K H a xs->xs[i]?=some x,λi H=>∃xs,SqL K H a xs/\xs.length<=i⟩
noncomputable def Itt(K:aP)(a:aG):It:=
 ⟨λi H=>∃xs x,SqT K H a xs/\xs[i]?=some x,λi H x H'=>H'=H/\∀xs,SqT K H a xs->xs[i]?=some x,λi H=>∃xs,SqT K H a xs/\xs.length<=i⟩
noncomputable def Itr(lo:Int)(n:Nat):It:=⟨λi _=>i<n,λi H x H'=>H'=H/\x=.int (lo+i),λi _=>n<=i⟩
def WC{P:cF}{w:dE}{K:aP}{tg:Expr}(a it:aG):Turn P w K tg (Itl K a) [it] it (λi h=>h.IsListIter it a i) where
 mem:=by simp
 obj:=λi h st b hb=>by
  have e:b=it:=by simpa using hb
  subst e;obtain⟨o,e,c,d⟩:=st;exact⟨o,e,λv z=>by rw[d]at z;cases z⟩
 keep:=λi h h' st k=>st.at λo e=>k it (by simp) o e
 item:=by intro X hP hw hK hc i aC s σ H E I hf st hg;subst hP hw hK;obtain⟨xs,x,hq,hx⟩:=hg;obtain⟨its,rv,p,hz⟩:=I.list hq;obtain⟨u,hu,ru⟩:=rv.get hx;obtain⟨f0,f1,f2,f3,f4,f5⟩:=hf it (by simp);refine wpAny_pyNext_list_item st p.isList (by simpa using hu) λh' st' sb=>?_;have I1:=I.turned (t':=s.toks) (λb o hb e=>(sb.2 b hb).trans e) f0 f1 f3 f4 f5;obtain⟨o,e,c,d⟩:=id st';exact⟨u,rfl,HN e c d (by decide) ⟨x,H,I1,ru,⟨rfl,λys hy=>by rw[I.list_inj hy hq];exact hx⟩,st',λb hb=>(hf b hb).1⟩⟩
 done:=by intro X hP hw hK hc i aC s σ H E I hf st hg;subst hP hw hK;obtain⟨xs,hq,hx⟩:=hg;obtain⟨its,rv,p,hz⟩:=I.list hq;obtain⟨f0,f1,f2,f3,f4,f5⟩:=hf it (by simp);have hl:=rv.length;exact wpAny_pyNext_list_end (I.ok.hd hc) st p.isList (by simp;lia) λh' eb=>⟨rfl,I.turned (λb o hb e=>eb b o hb e) f0 f1 f3 f4 f5⟩
 self:=λ_ _ _ _ _ st h=>wpAny_pyIter_listiter st h
def OK{P:cF}{w:dE}{K:aP}{tg:Expr}(a it:aG):Turn P w K tg (Itt K a) [it] it (λi h=>h.IsTupleIter it a i) where
 mem:=by simp
 obj:=λi h st b hb=>by
  have e:b=it:=by simpa using hb
  subst e;obtain⟨o,e,c,d⟩:=st;exact⟨o,e,λv z=>by rw[d]at z;cases z⟩
 keep:=λi h h' st k=>st.at λo e=>k it (by simp) o e
 item:=by intro X hP hw hK hc i aC s σ H E I hf st hg;subst hP hw hK;obtain⟨xs,x,hq,hx⟩:=hg;obtain⟨its,rv,p,hz⟩:=I.tuple hq;obtain⟨u,hu,ru⟩:=rv.get hx;obtain⟨f0,f1,f2,f3,f4,f5⟩:=hf it (by simp);refine wpAny_pyNext_tuple_item st (p) (by simpa using hu) λh' st' sb=>?_;have I1:=I.turned (t':=s.toks) (λb o hb e=>(sb.2 b hb).trans e) f0 f1 f3 f4 f5;obtain⟨o,e,c,d⟩:=id st';exact⟨u,rfl,HN e c d (by decide) ⟨x,H,I1,ru,⟨rfl,λys hy=>by rw[I.tuple_inj hy hq];exact hx⟩,st',λb hb=>(hf b hb).1⟩⟩
 done:=by intro X hP hw hK hc i aC s σ H E I hf st hg;subst hP hw hK;obtain⟨xs,hq,hx⟩:=hg;obtain⟨its,rv,p,hz⟩:=I.tuple hq;obtain⟨f0,f1,f2,f3,f4,f5⟩:=hf it (by simp);have hl:=rv.length;exact wpAny_pyNext_tuple_end (I.ok.hd hc) st (p) (by simp;lia) λh' eb=>⟨rfl,I.turned (λb o hb e=>eb b o hb e) f0 f1 f3 f4 f5⟩
 self:=λ_ _ _ _ _ st h=>wpAny_pyIter_tupleiter st h
def OL{P:cF}{w:dE}{K:aP}{tg:Expr}(it:aG)(lo:Int)(n:Nat):Turn P w K tg (Itr lo n) [it] it (λi h=>IsRangeIter h it (lo+(i:Nat)*1) ((n:Int)-(i:Nat)) 1) where
 mem:=by simp
 obj:=λi h st b hb=>by
  have e:b=it:=by simpa using hb
  subst e;exact⟨_,st,λv z=>by
   have z':=z
   cases z'⟩
 keep:=λi h h' st k=>k it (by simp) _ st
 item:=by intro X hP hw hK hc i aC s σ H E I hf st hg;subst hP hw hK;obtain⟨f0,f1,f2,f3,f4,f5⟩:=hf it (by simp);have W:=Walks.range (prog:=X.prog) (w:=X.w) (I.ok.hd hc) it lo 1 n;refine W.item i s _ _ hg st λv h' tk hv st' kk=>?_;obtain⟨t,rfl⟩:=hv;have I1:Inv X aC σ H {s with heap:=h',toks:=tk}:=I.turned (λb o hb e=>kk b o (by simpa using hb) e) f0 f1 f3 f4 f5;refine⟨_,rfl,HN st' rfl rfl (by decide) ⟨.int (lo+i),H,I1,⟨t,?_⟩,⟨rfl,rfl⟩,st',λb hb=>(hf b hb).1⟩⟩;rw[Int.mul_one]
 done:=by intro X hP hw hK hc i aC s σ H E I hf st hg;obtain⟨f0,f1,f2,f3,f4,f5⟩:=hf it (by simp);exact wpAny_pyNext_range_end (I.ok.hd hc) st (by have:n<=i:=hg;lia) λh' eb=>⟨rfl,I.turned (λb o hb e=>eb b o hb e) f0 f1 f3 f4 f5⟩
 self:=λ_ _ _ _ _ st h=>wpAny_pyIter_rangeiter st h
def iList(K:aP)(tl:TE):TI:=λσ H R=>tl σ H λx H1=>∃a,x=.ref a/\(∃xs,SqL K H1 a xs)/\R (Itl K a) H1
def iTup(K:aP)(tl:TE):TI:=λσ H R=>tl σ H λx H1=>∃a,x=.ref a/\(∃xs,SqT K H1 a xs)/\R (Itt K a) H1
def pi_list(hl:PE X l tl):PI X tg l (iList X.K tl):=by
 intro aC s σ H R I h;refine thn (hl aC s σ H _ I h) λv s1 zq=>?_;obtain⟨x,H1,I1,r1,q1⟩:=zq;obtain⟨a,e,⟨xs,hq⟩,q⟩:=q1;subst e;cases r1;obtain⟨its,rv,p,hz⟩:=I1.list hq;refine oR p.isList ?_;refine⟨s1.heap.objs.size,[s1.heap.objs.size],_,_,H1,rfl,I1.kept λb o e=>aD _ e,WC a _,⟨_,aU _ rfl,rfl,rfl⟩,λb hb=>?_,q⟩;have e:b=s1.heap.objs.size:=by simpa using hb
 subst e;exact I1.fpOk (aM _) (I1.hok.fresh (aM _))
def pi_tup(hl:PE X l tl):PI X tg l (iTup X.K tl):=by
 intro aC s σ H R I h;refine thn (hl aC s σ H _ I h) λv s1 zq=>?_;obtain⟨x,H1,I1,r1,q1⟩:=zq;obtain⟨a,e,⟨xs,hq⟩,q⟩:=q1;subst e;cases r1;obtain⟨its,rv,p,hz⟩:=I1.tuple hq;refine wpAny_pyIter_tuple (p) ?_;refine⟨s1.heap.objs.size,[s1.heap.objs.size],_,_,H1,rfl,I1.kept λb o e=>aD _ e,OK a _,⟨_,aU _ rfl,rfl,rfl⟩,λb hb=>?_,q⟩;have e:b=s1.heap.objs.size:=by simpa using hb
 subst e;exact I1.fpOk (aM _) (I1.hok.fresh (aM _))
def aBi{lo hi:Int}(I:Inv X aC σ H s)(h1 : -(2^62)<=lo)(h2:lo<2^62)(h3 : -(2^62)<=hi)(h4:hi<2^62)(q:R (Itr lo (hi-lo).toNat) H):bL (aZ X.prog X.w) X.A (EX (.ref s.heap.objs.size)) (PIE X aC σ tg R) E {s with heap:=s.heap.push {cls:=.type "range",data:=.fields #[.int lo t,.int hi u,.int 1 v]},toks:=tk}:=by
 refine wpAny_pyIter_range (IsRange.new ..) (small_one h1 h2 h3 h4) ?_;have I1:Inv X aC σ H {s with heap:=s.heap.push {cls:=.type "range",data:=.fields #[.int lo t,.int hi u,.int 1 v]},toks:=tk}:=I.kept λb o e=>aD _ e
 refine⟨(s.heap.push {cls:=.type "range",data:=.fields #[.int lo t,.int hi u,.int 1 v]}).objs.size,[(s.heap.push {cls:=.type "range",data:=.fields #[.int lo t,.int hi u,.int 1 v]}).objs.size],_,_,H,rfl,
  I1.kept λb o e=>aD _ e,OL _ lo (hi-lo).toNat,?_,λb hb=>?_,q⟩
 . have e1:lo+((0:Nat):Int)*1=lo:=by simp
   have e2:(((hi-lo).toNat:Nat):Int)-((0:Nat):Int)=Builtin.Range.rangeSize lo hi 1:=by rw[rangeSize_one];split<;>lia
   rw[e1,e2];exact aU _ rfl
 . have e:b=(s.heap.push {cls:=.type "range",data:=.fields #[.int lo t,.int hi u,.int 1 v]}).objs.size:=by simpa using hb
   subst e;exact I1.fpOk (aM _) (I1.hok.fresh (aM _))
def iRng1(ta:TA):TI:=λσ H R=>ta σ H λvs H1=>∃j:Int,vs=[.int j]/\-(2^62)<=j/\j<2^62/\R (Itr 0 j.toNat) H1
def WP(hg:Gl X "range")(hm:X.mg "range" = none)(ha:PA X [a] ta)(hs:aK [a] X.env=[(false,cI a X.env)]:=by rfl):PI X tg (.Call (.Name "range" p) [a] [] pos) (iRng1 ta):=by
 intro aC s σ H R I h;refine Call_ (wX I hg hm boot_range (gE (thn (ha pos aC s σ H _ I h) λus s1 zq=>?_) hs rfl));obtain⟨vs,H1,I1,r1,q1⟩:=zq;obtain⟨j,e,q1,q2,q⟩:=q1;subst e;cases r1 with
 |cons r rr=>cases rr;obtain⟨t,rfl⟩:=r;exact call_range_1 (aBi I1 (by lia) (by lia) q1 q2 (by simpa using q))
def tFor(wi:TI)(g:TG)(tb:TS):TS:=λD σ H=>wi σ H λJ H1=>∃W:Nat->Nat->St->Hp->Prop,(∃m,W 0 m σ H1)/\∀i m σ H,W i m σ H →
 (J.stop i H/\D.nx σ H)\/(J.go i H/\∃N:St->Hp->Prop,(∀σ' H',N σ' H'->∃m',m'<m/\W (i+1) m' σ' H')/\∀x H',J.yld i H x H'->g x σ H' λσ2 H2=>tb {D with nx:=N,ct:=N,bk:=D.nx} σ2 H2)
noncomputable def BW(fp:List aG)(h:Heap):List (aG×Obj):=fp.filterMap λb=>(h.get? b).map λo=>(b,o)
def xU(hb:b∈fp)(e:h.get? b=some o):(b,o)∈BW fp h:=sM.mpr ⟨b,hb,by rw[e];rfl⟩
def WY(hp:p∈BW fp h):p.1∈fp/\h.get? p.1=some p.2:=by
 obtain⟨b,hb,e⟩:=sM.mp hp;cases q:h.get? b with
 |none=>rw[q]at e;cases e
 |some o=>rw[q]at e;have e':=Option.some.inj e;subst e';exact⟨hb,q⟩
def Inv.pinned(I:Inv X aC σ H s)(hf:∀b∈fp,FpOk X aC H b)(ho:∀b∈fp,∃o,s.heap.get? b=some o/\∀v,o.data≠.cell v):Inv X (aC++BW fp s.heap) σ H s:=
 I.pins_of λp hp=>(bE.mp hp).elim (λz=>I.pin p (aI _ z)) λz=>by obtain⟨hb,e⟩:=WY z;obtain⟨f0,f1,f2,_⟩:=hf p.1 hb;obtain⟨o,e',d⟩:=ho p.1 hb;rw[e]at e';cases e';exact⟨e,f0,f1,f2,d⟩
def Inv.unpinned(I:Inv X (aC++pl) σ H s):Inv X aC σ H s:=I.pins_of λp hp=>I.pin p (aI _ (bA _ hp))
def aCd{iter:Expr}(hp:FD (aZ X.prog X.w) X.A X.env X.xe)(hc:X.calm=true)(hi:PI X tg iter wi)(hg:PG X tg g)(hb:PSs X body tb)(hs:∀x,eJ iter X.env x=pure x:=by intro _;rfl):PS X (.For tg iter body [] pos) (tFor wi g tb):=by
 intro aC s σ H D I h;refine wpAny_For (thn (hi aC s σ H _ I h) λv s1 h1=>thn h1 λitv s2 h2=>?_) hs;obtain⟨it,fp,tn,J,H2,e,I2,T,st2,f2,W,⟨m0,w0⟩,turn⟩:=h2;subst e;have stat:∀{H':Hp},(∀b∈fp,H' b=none)->∀b∈fp,FpOk X aC H' b:=λhn b hb=>⟨hn b hb,(f2 b hb).2⟩
 refine codeAny_forLoop_any (λn s'=>∃i σ' H',Inv X aC σ' H' s'/\tn i s'.heap/\(∀b∈fp,H' b=none)/\W i n σ' H') ?_ m0 ⟨0,σ,H2,I2,st2,λb hb=>(f2 b hb).1,w0⟩;rintro n s3 ⟨i,σ3,H3,I3,st3,fr3,w3⟩;rcases turn i n σ3 H3 w3 with⟨stop,qn⟩|⟨go,N,hN,step⟩
 . refine hX hp (thn (T.done X rfl rfl rfl hc i aC s3 σ3 H3 X.xe I3 (stat fr3) st3 stop) λr s4 zq=>?_);obtain⟨hr,I4⟩:=zq;subst hr;exact sB ⟨σ3,H3,I4,qn⟩
 . refine hX hp (thn (T.item X rfl rfl rfl hc i aC s3 σ3 H3 X.xe I3 (stat fr3) st3 go) λr s4 zq=>?_);obtain ⟨u,hr,h4⟩:=zq;subst hr;refine hX hp (thn h4 λ_ s5 zq=>?_);obtain ⟨x,H5,I5,r5,y5,st5,fr5⟩:=zq;have I5':=I5.pinned (stat fr5) (T.obj _ _ st5);refine hX hp (thn (hg _ s5 σ3 H5 x u _ I5' r5 (step x H5 y5)) λ_ s6 zq=>?_);obtain ⟨σ6,H6,I6,q6⟩:=zq;refine hX hp (thn (hb _ s6 σ6 H6 _ I6 q6) λf s7 q7=>?_);have again:∀{σ7:St}{H7:Hp},Inv X (aC++BW fp s5.heap) σ7 H7 s7->N σ7 H7->∃m,m<n/\∃i σ' H',Inv X aC σ' H' s7/\tn i s7.heap/\(∀b∈fp,H' b=none)/\W i m σ' H':=λ{σ7 H7} I7 n7=>by obtain⟨m',hm,w7⟩:=hN σ7 H7 n7;refine⟨m',hm,i+1,σ7,H7,I7.unpinned,T.keep _ _ _ st5 λb hb o e=>(I7.pin (b,o) (aI _ (aI _ (xU hb e)))).1,λb hb=>?_,w7⟩;obtain⟨o,e,d⟩:=T.obj _ _ st5 b hb;exact(I7.pin (b,o) (aI _ (aI _ (xU hb e)))).2.1
   cases f with
   |next=>obtain⟨σ7,H7,I7,n7⟩:=q7;exact again I7 n7
   |cont=>obtain⟨σ7,H7,I7,n7⟩:=q7;exact again I7 n7
   |brk=>obtain⟨σ7,H7,I7,q7⟩:=q7;exact⟨σ7,H7,I7.unpinned,q7⟩
   |ret v=>obtain⟨x7,σ7,H7,I7,r7,q7⟩:=q7;exact⟨x7,σ7,H7,I7.unpinned,r7,q7⟩
abbrev R2:=V->V->Hp->VK->Prop
def OpR(X:Cx)(f:aN->aN->Sem aN)(r:R2):Prop:=
 ∀(aC:List (aG×Obj)) (s:bH) (σ:St) (H:Hp) (x y:V) (v u:aN) (Q:VK),Inv X aC σ H s->RelV x v->RelV y u->r x y H Q →
  bL (aZ X.prog X.w) X.A (f v u) (EP X aC σ Q) X.xe s
def UnR(X:Cx)(f:aN->Sem aN)(r:V->Hp->VK->Prop):Prop:=
 ∀(aC:List (aG×Obj)) (s:bH) (σ:St) (H:Hp) (x:V) (v:aN) (Q:VK),Inv X aC σ H s->RelV x v->r x H Q →
  bL (aZ X.prog X.w) X.A (f v) (EP X aC σ Q) X.xe s
def CallR(X:Cx)(f:aN)(r:List V->Hp->VK->Prop):Prop:=
 ∀(aC:List (aG×Obj)) (s:bH) (σ:St) (H:Hp) (xs:List V) (us:List aN) (Q:VK),Inv X aC σ H s->Vals xs us->r xs H Q →
  bL (aZ X.prog X.w) X.A (call f us) (EP X aC σ Q) X.xe s
def TruR(X:Cx)(r:V->Hp->(Bool->Hp->Prop)->Prop):Prop:=
 ∀(aC:List (aG×Obj)) (s:bH) (σ:St) (H:Hp) (x:V) (v:aN) (Q:Bool->Hp->Prop),Inv X aC σ H s->RelV x v->r x H Q →
  bL (aZ X.prog X.w) X.A (truthy v) (TP X aC σ Q) X.xe s
def tOp(r:R2)(ta tb:TE):TE:=λσ H Q=>ta σ H λx H1=>tb σ H1 λy H2=>r x y H2 Q
def tUn(r:V->Hp->VK->Prop)(ta:TE):TE:=λσ H Q=>ta σ H λx H1=>r x H1 Q
noncomputable def rI(C:Int->Int->Prop)(g:Int->Int->V):R2:=λx y H Q=>∃i j,x=.int i/\y=.int j/\C i j/\Q (g i j) H
noncomputable def rI0(g:Int->Int->V):R2:=λx y H Q=>∃i j,x=.int i/\y=.int j/\Q (g i j) H
def rU(g:Int->V):V->Hp->VK->Prop:=λx H Q=>∃i,x=.int i/\Q (g i) H
def binT(ha:PE X a ta)(hb:PE X b tb){R:V->V->Hp->Prop}(I:Inv X aC σ H s)(h:ta σ H λx H1=>tb σ H1 λy H2=>R x y H2){f:aN->aN->Sem aN}(hf:∀v u s2 x y H2,Inv X aC σ H2 s2->RelV x v->RelV y u->R x y H2->bL (aZ X.prog X.w) X.A (f v u) Q X.xe s2) :
  bL (aZ X.prog X.w) X.A (cI a X.env) (λv s₁=>bL (aZ X.prog X.w) X.A (cI b X.env) (λu s₂=>bL (aZ X.prog X.w) X.A (f v u) Q X.xe s₂) X.xe s₁) X.xe s:=by
 refine thn (ha aC s σ H _ I h) λv s1 zq=>?_;obtain⟨x,H1,I1,r1,q1⟩:=zq;refine thn (hb aC s1 σ H1 _ I1 q1) λu s2 zq=>?_;obtain⟨y,H2,I2,r2,q2⟩:=zq;exact hf v u s2 x y H2 I2 r1 r2 q2
def pe_op(ho:OpR X (kS op) r)(ha:PE X a ta)(hb:PE X b tb):PE X (.BinOp a op b pos) (tOp r ta tb):=by intro aC s σ H Q I h;exact wpAny_BinOp (binT ha hb I h λv u s2 x y H2 I2 rx ry q=>ho aC s2 σ H2 x y v u Q I2 rx ry q)
def pe_un(ho:UnR X (unaryOp op) r)(ha:PE X a ta):PE X (.UnaryOp op a pos) (tUn r ta):=by intro aC s σ H Q I h;exact UnaryOp_ (thn (ha aC s σ H _ I h) λv s1 ⟨x,H1,I1,r1,q1⟩=>ho aC s1 σ H1 x v Q I1 r1 q1)
def opI{g:Int->Int->Int}(rule:∀i j t u s Q E,C i j->Q (.int (g i j) s.toks) {s with toks:=s.toks+1}->bL (aZ X.prog X.w) X.A (f (.int i t) (.int j u)) Q E s) :
  OpR X f (rI C λi j=>.int (g i j)):=by
 intro aC s σ H x y v u Q I rx ry h;obtain⟨i,j,rfl,rfl,hc,q⟩:=h;obtain⟨t,rfl⟩:=rx;obtain⟨t',rfl⟩:=ry;exact rule i j t t' s _ _ hc ⟨.int (g i j),H,I.tok _,⟨_,rfl⟩,q⟩
def opI0{g:Int->Int->Int}(rule:∀i j t u s Q E,Q (.int (g i j) s.toks) {s with toks:=s.toks+1}->bL (aZ X.prog X.w) X.A (f (.int i t) (.int j u)) Q E s) :
  OpR X f (rI0 λi j=>.int (g i j)):=by
 intro aC s σ H x y v u Q I rx ry h;obtain⟨i,j,rfl,rfl,q⟩:=h;obtain⟨t,rfl⟩:=rx;obtain⟨t',rfl⟩:=ry;exact rule i j t t' s _ _ ⟨.int (g i j),H,I.tok _,⟨_,rfl⟩,q⟩
def opB0{g:Int->Int->Bool}(rule:∀i j t u s Q E,Q (.bool (g i j)) s->bL (aZ X.prog X.w) X.A (f (.int i t) (.int j u)) Q E s) :
  OpR X f (rI0 λi j=>.bl (g i j)):=by
 intro aC s σ H x y v u Q I rx ry h;obtain⟨i,j,rfl,rfl,q⟩:=h;obtain⟨t,rfl⟩:=rx;obtain⟨t',rfl⟩:=ry;exact rule i j t t' s _ _ ⟨.bl (g i j),H,I,rfl,q⟩
def CPow(i j:Int):Prop:=0<=j/\j<=1000000/\i.natAbs<2^64
def CMul(i j:Int):Prop:=(-(2^64)<i/\i<2^64)\/(-(2^64)<j/\j<2^64)
def CMul.ok(h:CMul i j):eS i j:=by
 rcases h with⟨h1,h2⟩|⟨h1,h2⟩
 . exact .of_left (intBits_le_64 h1 h2)
 . exact .of_right (intBits_le_64 h1 h2)
def op_add:OpR X (kS .Add) (rI0 λi j=>.int (i+j)):=opI0 λ_ _ _ _ _ _ _ q=>add_int q
def op_sub:OpR X (kS .Sub) (rI0 λi j=>.int (i-j)):=opI0 λ_ _ _ _ _ _ _ q=>sub_int q
def op_mod:OpR X (kS .Mod) (rI (λ_ j=>0<j) λi j=>.int (i%j)):=opI λi j _ _ _ _ _ hc q=>by exact mod_int' (by lia) (by rw[Int.fmod_eq_emod_of_nonneg i (by lia)];exact q)
def op_shl:OpR X (kS .LShift) (rI CPow λi j=>.int (i*2^j.toNat)):=opI λ_ _ _ _ _ _ _ hc q=>lshift_int_small hc.1 hc.2.1 hc.2.2 q
def unI{g:Int->Int}(rule:∀i t s Q E,Q (.int (g i) s.toks) {s with toks:=s.toks+1}->bL (aZ X.prog X.w) X.A (f (.int i t)) Q E s) :
  UnR X f (rU λi=>.int (g i)):=by
 intro aC s σ H x v Q I rx h;obtain⟨i,rfl,q⟩:=h;obtain⟨t,rfl⟩:=rx;exact rule i t s _ _ ⟨.int (g i),H,I.tok _,⟨_,rfl⟩,q⟩
def un_neg:UnR X (unaryOp .USub) (rU λi=>.int (-i)):=unI λ_ _ _ _ _ q=>neg_int q
section
variable{a b c:Expr}{ta tb tc:TE}
def RC(I:Inv X aC σ H s)(q:Q (.bl k) H)(e:k=k'):EP X aC σ Q (.bool k') s:=by subst e;exact⟨.bl k,H,I,rfl,q⟩
def op_lt:OpR X (eC .Lt) (rI0 λi j=>.bl (decide (i<j))):=opB0 λ_ _ _ _ _ _ _ q=>lt_int q
def op_le:OpR X (eC .LtE) (rI0 λi j=>.bl (decide (i<=j))):=opB0 λ_ _ _ _ _ _ _ q=>le_int q
def op_gt:OpR X (eC .Gt) (rI0 λi j=>.bl (decide (j<i))):=opB0 λ_ _ _ _ _ _ _ q=>gt_int q
def op_ge:OpR X (eC .GtE) (rI0 λi j=>.bl (decide (j<=i))):=opB0 λ_ _ _ _ _ _ _ q=>ge_int q
def WU:OpR X (eC .In) (λx y H Q=>∃i j,x=.str i/\y=.str j/\Q (.bl (!(Builtin.Str.occurrences j i 0 j.length 1).isEmpty)) H):=by intro aC s σ H x y v u Q I rx ry h;obtain⟨i,j,rfl,rfl,q⟩:=h;obtain⟨t,rfl⟩:=rx;obtain⟨t',rfl⟩:=ry;exact in_str (RC I q rfl)
def op_isN:OpR X (eC .Is) (λx y H Q=>y=.non/\Q (.bl (decide (x=.non))) H):=by
 intro aC s σ H x y v u Q I rx ry h;obtain⟨rfl,q⟩:=h;cases ry;refine is_none_gen (RC I q ?_)
 cases x<;>first
  |(cases rx;rfl)
  |(obtain⟨t,rfl⟩:=rx;rfl)
def UA:OpR X (eC .IsNot) (λx y H Q=>y=.non/\Q (.bl (!decide (x=.non))) H):=by
 intro aC s σ H x y v u Q I rx ry h;obtain⟨rfl,q⟩:=h;cases ry;refine isnot_none_gen (RC I q ?_)
 cases x<;>first
  |(cases rx;rfl)
  |(obtain⟨t,rfl⟩:=rx;rfl)
def OpR.or(h:OpR X f r)(h':OpR X f r'):OpR X f (λx y H Q=>r x y H Q\/r' x y H Q):=by
 intro aC s σ H x y v u Q I rx ry q;rcases q with q|q
 . exact h aC s σ H x y v u Q I rx ry q
 . exact h' aC s σ H x y v u Q I rx ry q
def mB b(h:op≠.In:=by decide)(h2:op≠.NotIn:=by decide):dH op b=false:=by
 have e1:(op==CmpOp.In)=false:=by cases op<;>first|rfl|exact absurd rfl h
 have e2:(op==CmpOp.NotIn)=false:=by cases op<;>first|rfl|exact absurd rfl h2
 cases b<;>simp[dH,e1,e2]
def TX(ho:OpR X (eC op) r)(ha:PE X a ta)(hb:PE X b tb)(hm:dH op b=false):PE X (.Compare a [op] [b] pos) (tOp r ta tb):=by intro aC s σ H Q I h;exact wpAny_Compare1 (binT ha hb I h λv u s2 x y H2 I2 rx ry q=>ho aC s2 σ H2 x y v u Q I2 rx ry q) hm
def tTest(t:TE):TT:=λσ H Q=>t σ H λx H'=>∃k,x=.bl k/\Q k H'
def TF(ho:OpR X (eC op) r)(ha:PE X a ta)(hb:PE X b tb)(hm:dH op b=false):PT X (.Compare a [op] [b] pos) (tTest (tOp r ta tb)):=by intro aC s σ H Q I h;refine wpAny_isTrue_Compare1 (thn (ha aC s σ H _ I h) λv s1 ⟨x,H1,I1,r1,q1⟩=>thn (hb aC s1 σ H1 _ I1 q1) λu s2 ⟨y,H2,I2,r2,q2⟩=>thn (ho aC s2 σ H2 x y v u _ I2 r1 r2 q2) λc s3 ⟨z,H3,I3,r3,k,e,q3⟩=>?_) hm;subst e;cases r3;exact fZ ⟨H3,I3,q3⟩
def TruV(K:aP)(x:V)(H:Hp)(k:Bool):Prop:=
 match x with
 |.non=>k=false
 |.bl b=>k=b
 |.int i=>k=(i != 0)
 |.str y=>y.length<=sizeLine/\k=((y.length:Int) != 0)
 |.byt y=>y.size<=sizeLine/\k=((y.size:Int) != 0)
 |.ref p=>(∃xs,SqL K H p xs/\k=!xs.isEmpty)\/(∃xs,SqT K H p xs/\k=!xs.isEmpty)\/∃kvs,H p=some (.dK kvs)/\k=!kvs.isEmpty
 |_=>False
def QT(r:KV kvs vs):(!vs.isEmpty)=!kvs.isEmpty:=by cases r<;>rfl
def CL(r:Vals xs its):(!its.toArray.isEmpty)=!xs.isEmpty:=by cases r<;>simp
def tL:(sizeLine:Nat)<2^63:=by rw[lD];decide
def tru_ok:TruR X (λx H Q=>∃k,TruV X.K x H k/\Q k H):=by
 intro aC s σ H x v Q I rx h;obtain⟨k,e,q⟩:=h;have hs:=lD;cases x with
 |non=>cases rx;have e':=e;subst e';exact truthy_none ⟨H,I,q⟩
 |bl b=>cases rx;have e':=e;subst e';exact fZ ⟨H,I,q⟩
 |int i=>obtain⟨t,rfl⟩:=rx;have e':=e;subst e';exact PySem.P.truthy_int ⟨H,I,q⟩
 |str y=>obtain⟨t,rfl⟩:=rx;obtain⟨hy,e'⟩:=e;subst e';exact PySem.P.truthy_str (by lia) ⟨H,I.tok _,q⟩
 |byt y=>obtain⟨t,rfl⟩:=rx;obtain⟨hy,e'⟩:=e;subst e';exact PySem.W.truthy_bytes (by lia) ⟨H,I.tok _,q⟩
 |ref p=>
   cases rx;have e':=e;rcases e' with⟨xs,hx,e'⟩|⟨xs,hx,e'⟩|⟨kvs,hx,e'⟩
   . subst e';obtain⟨its,r,pl,hz⟩:=I.list hx;have hlen:=r.length;exact wpAny_truthy_list pl.isList (by simp[bC];lia) ⟨H,I.tok _,by rw[CL r];exact q⟩
   . subst e';obtain⟨its,r,pl,hz⟩:=I.tuple hx;have hlen:=r.length;exact truthy_tuple pl (by simp[bC];lia) ⟨H,I.tok _,by rw[CL r];exact q⟩
   . subst e';obtain⟨hz,hS,vs,r,m⟩:=I.hok p _ hx;have hlen:=AG.length r;exact wpAny_truthy_dict hS m (by lia) ⟨H,I.tok _,by rw[QT r];exact q⟩
 |_=>exact(e).elim
def aBu(ha:PE X a ta)(he:∀whole,EY a X.env whole=(do let v <- whole;mX a.pos;gN [v] (truthy v))) :
  PT X a (λσ H Q=>ta σ H λx H'=>∃k,TruV X.K x H' k/\Q k H'):=by
 intro aC s σ H Q I h;exact isTrue_plain (thn (ha aC s σ H _ I h) λv s1 ⟨x,H1,I1,r1,q1⟩=>tru_ok aC s1 σ H1 x v Q I1 r1 q1) (he _)
def PY:OpR X (kS .Add) (λx y H Q=>∃i j,x=.str i/\y=.str j/\i.length+j.length<=sizeLine/\Q (.str (i++j)) H):=by intro aC s σ H x y v u Q I rx ry h;obtain⟨i,j,rfl,rfl,hz,q⟩:=h;obtain⟨t,rfl⟩:=rx;obtain⟨t',rfl⟩:=ry;exact add_str (λt' tk=>⟨.str (i++j),H,I.tok _,⟨_,rfl⟩,q⟩) hz
def vals1(r:Vals [x] us):∃u,us=[u]/\RelV x u:=by
 cases r with
 |cons r1 r2=>cases r2;exact⟨_,rfl,r1⟩
def vals2(r:Vals [x,y] us):∃u w',us=[u,w']/\RelV x u/\RelV y w':=by
 cases r with
 |cons r1 r2=>
   cases r2 with
   |cons r3 r4=>cases r4;exact⟨_,_,rfl,r1,r3⟩
def YY(hc:X.calm=true):CallR X (.builtin "max") (λxs H Q=>∃i j,xs=[.int i,.int j]/\Q (.int (if j>i then j else i)) H):=by
 intro aC s σ H xs us Q I r h;obtain⟨i,j,rfl,q⟩:=h;obtain⟨u,w',rfl,⟨t,rfl⟩,⟨t',rfl⟩⟩:=vals2 r;refine max_two_ints (I.ok.hd hc) λh' tk k=>⟨_,H,I.kept k,?_,q⟩
 by_cases hj:j>i
 . rw[if_pos hj,if_pos hj];exact⟨_,rfl⟩
 . rw[if_neg hj,if_neg hj];exact⟨_,rfl⟩
def YX(hc:X.calm=true):CallR X (.builtin "min") (λxs H Q=>∃i j,xs=[.int i,.int j]/\Q (.int (if j<i then j else i)) H):=by
 intro aC s σ H xs us Q I r h;obtain⟨i,j,rfl,q⟩:=h;obtain⟨u,w',rfl,⟨t,rfl⟩,⟨t',rfl⟩⟩:=vals2 r;refine min_two_ints (I.ok.hd hc) λh' tk k=>⟨_,H,I.kept k,?_,q⟩
 by_cases hj:j<i
 . rw[if_pos hj,if_pos hj];exact⟨_,rfl⟩
 . rw[if_neg hj,if_neg hj];exact⟨_,rfl⟩
def ZA:CallR X (.type "int") (λxs H Q=>(∃i,xs=[.int i]/\Q (.int i) H)\/∃k,xs=[.bl k]/\Q (.int (if k then 1 else 0)) H):=by
 intro aC s σ H xs us Q I r h;rcases h with⟨i,rfl,q⟩|⟨k,rfl,q⟩
 . obtain⟨u,rfl,t,rfl⟩:=vals1 r;exact call_int_int ⟨.int i,H,I,⟨_,rfl⟩,q⟩
 . obtain⟨u,rfl,r1⟩:=vals1 r;cases r1;exact call_int_bool ⟨.int (if k then 1 else 0),H,I.tok _,⟨_,rfl⟩,q⟩
end
structure ObjM(h:Heap)(x dx C:aG)(mA:Str->Option aN):Prop where
 obj:h.get? x=some (fI C dx)
 ns:h.Ns1 dx mA
 ne:dx≠x
def XO{h:Heap}(n:h.Ns1 dx mA):∃od,h.get? dx=some od/\∀name,oY name od=some (mA name):=by
 obtain⟨o,es,ep,ho,hd,hk,_,hm⟩:=n;refine⟨o,ho,λname=>?_⟩;have e:=hm name;unfold nsFind findBy at e;rw[<-Array.find?_toList]at e;unfold oY;rw[hd];dsimp only;split
 . rename_i y q;rw[q]at e;exact congrArg some e
 . rename_i q;rw [q]at e;have a:es.toList.any (·.refKey)=false:=by rw[List.any_eq_false];intro y hy;obtain⟨z,t,hkey⟩:=hk y (Array.mem_toList_iff.mp hy);simp[DictEntry.refKey,hkey]
   have a':¬es.toList.any (·.refKey)=true:=by rw[a];exact dQ
   rw[if_neg a'];exact congrArg some e
def ObjM.look(I:ObjM h x dx C mA):∃od,PySem.W.InstAt h x (fI C dx) C (some od)/\∀name,oY name od=some (mA name):=
 let ⟨od,ho,hl⟩:=XO I.ns
 ⟨od,⟨I.obj,rfl,rfl,ho⟩,hl⟩
section
variable{K:aP}
def get_map(X:K.In s.heap)(I:ObjM s.heap x dx C mA)(hg:kY K C name=true)(hh:nC K C=true)(ha:cP K (.ref C) name=some none)(hv:mA name=some v)(hv':RQ v=true)(h:Q v {s with toks:=s.toks+1}) :
  bL (aZ prog w) A (getAttr (.ref x) name expr) Q E s:=by
 obtain⟨od,J,hl⟩:=I.look;exact PySem.W.get_value X J (pY hg).1 (PySem.W.findObj_own hh ha rfl (by rw[hl,hv])) hv' h
def aEj(X:K.In s.heap)(I:ObjM s.heap x dx C mA)(hg:kY K C name=true)(hf:cP K (.ref C) name=some (some (.ref f)))(ht:nZ K (.ref f)=true)(hv:mA name=none)(h:Q (.ref f,[.ref x]) s) :
  bL (aZ prog w) A (nS (.ref x) name pl) Q E s:=by
 obtain⟨od,J,hl⟩:=I.look;exact PySem.W.method_fn X J (pY hg).1 (pY hg).2 hf (beq_iff_eq.mp ht) (by show(oY name od).map (·.isSome)=some false;rw[hl,hv];rfl) h
def set_map(X:K.In s.heap)(I:ObjM s.heap x dx C mA)(hs:cP K (.ref C) "__setattr__" = some (some (.builtin "object.__setattr__")))(hp:sG K C=true)(ht:tU K C name=some none)(hh:nC K C=true)(hw:PySem.Within mA ns)(hsz:ns.length<=sizeLine)(h:∀h',ObjM h' x dx C (λy=>if y=name then some v else mA y)->Heap.SameBut dx s.heap h'->Q () {s with heap:=h',toks:=s.toks+2}) :
  bL (aZ prog w) A (setAttr (.ref x) name v) Q E s:=by
 obtain⟨od,J,hl⟩:=I.look;refine PySem.W.set_plain X J hs (PySem.W.osa_open X J hp ht λb=>?_);obtain⟨cd,hc,hd'⟩:=PySem.W.any_some hh;have hx:=I.obj;refine aA (aJ (aA (aA (wpAny_loadPart hx (aA (PySem.W.Looks.here (PySem.W.looks_clsIn X hc) ?_))))));rw[hd'];refine aJ (aA (aJ (aA ?_)));refine wpAny_nsSet1 I.ns λh' hn2 hs2=>?_;obtain⟨oD,esD,epD,hoD,hdD,hcD⟩:=hn2.count (PySem.Within.cons name v hw);refine aA (wpAny_lookBehind hoD (by rw[hdD];exact pastItsLine_dict (cW hcD (by rw[aH];lia))) ?_);exact aJ (h _ ⟨(hs2.2 _ (Ne.symm I.ne)).trans I.obj,hn2,I.ne⟩ hs2)
def aDm(X:K.In s.heap)(hm:tV K C=true)(hi:cP K (.ref C) "__init__" = some (some (.ref f)))(hf:ZI K (.ref f)=some (.type "function"))(h:gO (aZ prog w) (A.under (.builtin "type.__call__" ⟨.ref C::vs,kw⟩)) (.call (.ref f) ⟨.ref (s.heap.objs.size+1)::vs,kw⟩) (PySem.W.InitBack (s.heap.objs.size+1) R)
    {s with heap:=(s.heap.push eW).push (fI C s.heap.objs.size)}) :
  gO (aZ prog w) A (.call (.ref C) ⟨vs,kw⟩) R s:=by
 exact PySem.W.make_core (PySem.W.makes_of X hm) (PySem.W.looks_findIn X hi) (λself=>PySem.W.bind_fn X self hf) (.inl rfl) h
end
noncomputable def putF(f:Str)(v:V):List (Str×V)->List (Str×V)
 |[]=>[(f,v)]
 |(g,x)::r=>if g=f then (g,v)::r else (g,x)::putF f v r
theorem uE f g v:∀fs,(putF f v fs).lookup g=if g=f then some v else fs.lookup g
 |[]=>by
   show List.lookup g [(f,v)]=_;by_cases h:g=f
   . have hb:(g==f)=true:=beq_iff_eq.mpr h;simp only[List.lookup,hb,if_pos h]
   . have hb:(g==f)=false:=beq_eq_false_iff_ne.mpr h;simp only[List.lookup,hb,if_neg h]
 |(k,x)::r=>by
   have ih:=uE f g v r;rw[show putF f v ((k,x)::r)=(if k=f then (k,v)::r else (k,x)::putF f v r) from rfl];by_cases hk:k=f
   . rw [if_pos hk];by_cases h:g=k
     . have hb:(g==k)=true:=beq_iff_eq.mpr h;simp only[List.lookup,hb,if_pos (h.trans hk)]
     . have hb:(g==k)=false:=beq_eq_false_iff_ne.mpr h;simp only[List.lookup,hb,if_neg (λe:g=f=>h (e.trans hk.symm))]
   . rw [if_neg hk];by_cases h:g=k
     . have hb:(g==k)=true:=beq_iff_eq.mpr h;simp only[List.lookup,hb,if_neg (λe:g=f=>hk (h.symm.trans e))]
     . have hb:(g==k)=false:=beq_eq_false_iff_ne.mpr h;simp only[List.lookup,hb];exact ih
theorem kE f v:∀fs,f∈(putF f v fs).map (·.1)/\∀g,g∈fs.map (·.1)->g∈(putF f v fs).map (·.1)
 |[]=>⟨by simp[putF],λg h=>by simp at h⟩
 |(k,x)::r=>by
   obtain⟨i1,i2⟩:=kE f v r;rw[show putF f v ((k,x)::r)=(if k=f then (k,v)::r else (k,x)::putF f v r) from rfl];by_cases hk:k=f
   . rw[if_pos hk];subst hk;exact⟨by simp,λg h=>by simpa using h⟩
   . rw [if_neg hk];refine ⟨?_,λg h=>?_⟩
     . rw[aQ];exact aL _ i1
     . rw [aQ]at h ⊢;rcases aB.mp h with e|e
       . exact aB.mpr (.inl e)
       . exact aL _ (i2 g e)
theorem uG f v:∀fs,(putF f v fs).length<=fs.length+1
 |[]=>by simp[putF]
 |(k,x)::r=>by
   have ih:=uG f v r;rw[show putF f v ((k,x)::r)=(if k=f then (k,v)::r else (k,x)::putF f v r) from rfl];by_cases hk:k=f
   . rw[if_pos hk,aH,aH];omega
   . rw[if_neg hk,aH,aH];omega
def RelO.some_of(r:RelO (some v) o):∃u,o=some u/\RelV v u:=by
 cases o with
 |none=>exact(r).elim
 |some u=>exact⟨u,rfl,r⟩
def RelO.none_of(r:RelO none o):o=none:=by
 cases o with
 |none=>rfl
 |some u=>exact(r).elim
def YF(r:RelV v u):RQ u=true:=by
 cases v with
 |non=>cases(r);rfl
 |bl b=>cases(r);rfl
 |int i=>obtain⟨t,e⟩:=(r);cases e;rfl
 |str x=>obtain⟨t,e⟩:=(r);cases e;rfl
 |byt b=>obtain⟨t,e⟩:=(r);cases e;rfl
 |flt b=>obtain⟨t,e⟩:=(r);cases e;rfl
 |ref a=>cases(r);rfl
 |ty n=>cases(r);rfl
def AR(hok:HOk P w H h)(e:H a=some (.ins C dx fs)):∃mA,ObjM h a dx C mA/\(∀f,RelO (fs.lookup f) (mA f))/\PySem.Within mA (fs.map (·.1))/\fs.length<=1000/\H dx=some (.own a):=by
 obtain⟨d,z,ne,ob,mA,n,r,q⟩:=(hok a _ e)
 exact⟨mA,⟨ob,n,ne⟩,r,q,z,d⟩
structure Cls(K:aP)(C:aG):Prop where
 pg:kY K C Str.empty=true
 hd:nC K C=true
 po:sG K C=true
 sa:cP K (.ref C) "__setattr__" = some (some (.builtin "object.__setattr__"))
def Cls.get{K:aP}(c:Cls K C) f:kY K C f=true:=c.pg
def NoAttr(K:aP)(C:aG)(f:Str):Prop:=cP K (.ref C) f=some none
def NoAttr.taker{K:aP}(n:NoAttr K C f):tU K C f=some none:=by unfold tU;rw[show cP K (.ref C) f=some none from n];rfl
structure Meth(K:aP)(C:aG)(m:Str)(f:aG):Prop where
 at_:cP K (.ref C) m=some (some (.ref f))
 fn:nZ K (.ref f)=true
 kp:cE K (.ref f)=true
def QV(I:Inv X aC σ H s)(e:H a=some (.ins C dx fs))(c:Cls X.K C)(n:NoAttr X.K C f)(l:fs.lookup f=some v)(h:∀u s',Inv X aC σ H s'->RelV v u->Q u s'):bL (aZ X.prog X.w) A (getAttr (.ref a) f b) Q E s:=by obtain⟨mA,O,r,_,_,_⟩:=AR I.hok e;obtain⟨u,hu,ru⟩:=RelO.some_of (by rw[<-l];exact r f);exact get_map I.kIn O (c.get f) c.hd n hu (YF ru) (h u _ (I.tok _) ru)
def CS(I:Inv X aC σ H s)(e:H a=some (.ins C dx fs))(c:Cls X.K C)(k:Meth X.K C m g)(l:fs.lookup m=none)(h:Q (.ref g,[.ref a]) s):bL (aZ X.prog X.w) A (nS (.ref a) m pl) Q E s:=by obtain⟨mA,O,r,_,_,_⟩:=AR I.hok e;have hn:=RelO.none_of (by rw[<-l];exact r m);exact aEj I.kIn O (c.get m) k.at_ k.fn hn h
def OY(I:Inv X aC σ H s)(e:H a=some (.ins C dx fs))(c:Cls X.K C)(n:NoAttr X.K C f)(hl:fs.length<1000)(ry:RelV y u)(h:∀s',Inv X aC σ (upd H a (.ins C dx (putF f y fs))) s'->Q () s'):bL (aZ X.prog X.w) A (setAttr (.ref a) f u) Q E s:=by
 obtain⟨mA,O,r,wi,_,ho⟩:=AR I.hok e;have hz:(fs.map (·.1)).length<=sizeLine:=by rw[cD,lD];lia
 refine set_map I.kIn O c.sa c.po n.taker c.hd wi hz λh' O' sb=>h _ ?_;have hd:∃o,h'.get? dx=some o:=let ⟨o,_,_,e',_⟩:=O'.ns;⟨o,e'⟩;refine I.write (by rw[e];exact True.intro) (.inr ho) (λb q hb z=>(sb.2 b hb).trans z) hd ?_;refine⟨by rw[upd_ne O.ne];exact ho,?_,O.ne,O'.obj,_,O'.ns,λg=>?_,λg hg=>?_⟩
 . have:=uG f y fs;lia
 . show RelO ((putF f y fs).lookup g) (if g=f then some u else mA g);rw [uE];by_cases q:g=f
   . rw[if_pos q,if_pos q];exact ry
   . rw[if_neg q,if_neg q];exact r g
 . by_cases q:g=f
   . rw[q];exact(kE f y fs).1
   . refine(kE f y fs).2 g (wi g λz=>hg ?_);show(if g=f then some u else mA g)=none;rw[if_neg q];exact z
def Inv.made(I:Inv X aC σ H s):Inv X aC σ (upd (upd H s.heap.objs.size (.own (s.heap.objs.size+1))) (s.heap.objs.size+1) (.ins C s.heap.objs.size []))
  {s with heap:=(s.heap.push eW).push (fI C s.heap.objs.size)}:=by
 have e1:(s.heap.push eW).get? s.heap.objs.size=some eW:=aU s.heap rfl;have e2:((s.heap.push eW).push (fI C s.heap.objs.size)).get? (s.heap.objs.size+1)=some (fI C s.heap.objs.size):=by have:=aU (s.heap.push eW) (o:=fI C s.heap.objs.size) rfl;rwa [EI]at this
 have e3:(s.heap.push eW).Ns s.heap.objs.size (λ_=>none):=⟨eW,#[],_,e1,rfl,(λe he=>absurd he (by simp)),λ_=>rfl⟩
 have I1:=I.laid (o:=.own (s.heap.objs.size+1)) (t':=s.toks) (λb u q=>aD _ q) (aM _) ⟨_,e1⟩;refine I1.laid (λb u q=>aD _ q) (tY (EI _ _)) ?_;have ne:s.heap.objs.size≠s.heap.objs.size+1:=bO (gF _);refine⟨by rw[upd_ne ne,zQ],bZ _,ne,e2,λ_=>none,(Heap.Ns1.of_empty e3).at λo q=>aD _ q,λ_=>True.intro,λy hy=>absurd rfl hy⟩
def attr_of(hb:fA e f env (cI e env)=cI e env)(h:bL (aZ prog w) A (cI e env) (λo s₁=>bL (aZ prog w) A (getAttr o f true) Q E s₁) E s):bL (aZ prog w) A (cI (.Attribute e f pos) env) Q E s:=
 Attribute_any_ h (by rw[arm_eval_Attribute,hb])
def tFld(K:aP)(ta:TE)(f:Str):TE:=λσ H Q=>ta σ H λx H1=>∃a C dx fs v,x=.ref a/\H1 a=some (.ins C dx fs)/\Cls K C/\NoAttr K C f/\fs.lookup f=some v/\Q v H1
def sFld(K:aP)(ta tv:TE)(f:Str):TS:=λD σ H=>tv σ H λy H1=>ta σ H1 λx H2=>∃a C dx fs,x=.ref a/\H2 a=some (.ins C dx fs)/\Cls K C/\NoAttr K C f/\fs.length<1000 ∧
 D.nx σ (upd H2 a (.ins C dx (putF f y fs)))
def aCo(he:PE X e ta)(hb:fA e f X.env (cI e X.env)=cI e X.env):PE X (.Attribute e f pos) (tFld X.K ta f):=by intro aC s σ H Q I h;refine attr_of hb (thn (he aC s σ H _ I h) λu s1 zq=>?_);obtain⟨x,H1,I1,rx,a,C,dx,fs,v,ex,ea,c,n,l,q⟩:=zq;subst ex;obtain rfl:u=aN.ref a:=rx;exact QV I1 ea c n l λu' s2 I2 ru=>⟨v,H1,I2,ru,q⟩
def ps_fld(ha:PE X o ta)(hv:PE X value tv)(hs:eM value (some (.Attribute o f pos')) pos.line X.env=pure false):PS X (.Assign [.Attribute o f pos'] value pos) (sFld X.K ta tv f):=by intro aC s σ H D I h;refine plainObj_wpAny_Assign_Attribute (thn (hv aC s σ H _ I h) λu s1 ⟨y,H1,I1,ry,q⟩=>thn (ha aC s1 σ H1 _ I1 q) λov s2 zq=>?_) hs;obtain⟨x,H2,I2,rx,a,C,dx,fs,ex,ea,c,n,l,q2⟩:=zq;subst ex;obtain rfl:ov=aN.ref a:=rx;exact OY I2 ea c n l ry λs3 I3=>⟨σ,_,I3,q2⟩
section
variable{H:Hp}
inductive TyOf(K:aP)(H:Hp):V->aN->Prop where
 |non:TyOf K H .non (.type "NoneType")
 |bl (x:Bool):TyOf K H (.bl x) (.type "bool")
 |int (i:Int):TyOf K H (.int i) (.type "int")
 |str (x:Str):TyOf K H (.str x) (.type "str")
 |flt (x:UInt64):TyOf K H (.flt x) (.type "float")
 |lst {a:aG}{xs:List V} (e:H a=some (.lst xs)):TyOf K H (.ref a) (.type "list")
 |frz {a:aG}{o:Obj}{xs:List V} (e:H a=some (.frz o (.lst xs))):TyOf K H (.ref a) (.type "list")
 |tup {a:aG}{xs:List V} (e:H a=some (.tup xs)):TyOf K H (.ref a) (.type "tuple")
 |dK {a:aG}{kvs:List (Key×V)} (e:H a=some (.dK kvs)):TyOf K H (.ref a) (.type "dict")
 |dT {a:aG}{kvs:List (List Key×V)} (e:H a=some (.dT kvs)):TyOf K H (.ref a) (.type "dict")
 |ins {a C dx:aG}{fs:List (Str×V)} (e:H a=some (.ins C dx fs)) (cl:Cls K C) (ha:cP K (.ref C) "__class__" = some (some (.builtin "object.__class__")))
    (hn:PySem.W.specialIn K (.builtin "object.__class__") "__get__" = some (some (.builtin "getset_descriptor.__get__"))) (htk:PySem.W.takesIn K (.builtin "object.__class__")=some true)
    (hm:DX K C (.type "object")=some true):TyOf K H (.ref a) (.ref C)
def XY(I:Inv X aC σ H s)(rx:RelV x u)(ty:TyOf X.K H x t)(e:AE X.K t c=some b)(h:∀tk,Q (.bool b) {s with toks:=tk}) :
  bL (aZ X.prog X.w) A (call (.builtin "isinstance") [u,c]) Q E s:=by
 cases ty with
 |non=>cases(rx);exact cS PySem.W.kitx_none I.kIn True.intro e (λz=>nomatch z) h
 |bl y=>cases(rx);exact cS PySem.W.kitx_bool I.kIn True.intro e (λz=>nomatch z) h
 |int i=>obtain⟨t,q⟩:=(rx);cases q;exact cS PySem.W.kitx_int I.kIn True.intro e (λz=>nomatch z) h
 |str y=>obtain⟨t,q⟩:=(rx);cases q;exact cS PySem.W.kitx_str I.kIn True.intro e (λz=>nomatch z) h
 |flt y=>obtain⟨t,q⟩:=(rx);cases q;exact cS PySem.W.kitx_float I.kIn True.intro e (λz=>nomatch z) h
 |@lst a xs ea=>
   cases(rx);obtain⟨_,_,n,_,h1⟩:=(I.hok a _ ea)
   exact cS sH I.kIn ⟨_,h1,rfl⟩ e (λz=>nomatch z) h
 |@frz a ob xs ea=>
   cases(rx);obtain⟨_,_,_,n,_,h1⟩:=(I.hok a _ ea)
   exact cS sH I.kIn ⟨_,h1,rfl⟩ e (λz=>nomatch z) h
 |@tup a xs ea=>
   cases(rx);obtain⟨_,_,_,p⟩:=(I.hok a _ ea)
   obtain⟨o,h1,h2,_⟩:=p;exact cS rJ I.kIn ⟨o,h1,h2⟩ e (λz=>nomatch z) h
 |@dK a kvs ea=>
   cases(rx);obtain⟨_,_,vs,_,p⟩:=(I.hok a _ ea)
   obtain⟨o,es,ep,h1,h2,_⟩:=p;exact cS OD I.kIn ⟨o,h1,h2.1⟩ e (λz=>nomatch z) h
 |@dT a kvs ea=>
   cases(rx);obtain⟨_,_,xs,_,o,es,ep,h1,h2,_⟩:=(I.hok a _ ea)
   exact cS OD I.kIn ⟨o,h1,h2.1⟩ e (λz=>nomatch z) h
 |@ins a C dx fs ea cl ha hn htk hm=>cases(rx);obtain⟨mA,O,_⟩:=AR I.hok ea;obtain⟨od,J,_⟩:=O.look;exact cS (PySem.W.kitx_own (cl.get _) cl.hd ha hn htk hm) I.kIn J e (λz=>nomatch z) h
end
structure Room(k:Nat)(A:eX):Prop where
 hd:A.handled=none
 dp:A.depth+3*k+5<recursionLimit
 un:A.units+16*k+200<cLine
def Room.mono(r:Room k A)(h:j<=k):Room j A:=⟨r.hd,by have:=r.dp;lia,by have:=r.un;lia⟩
theorem Room.deeper(r:Room (k+1) A) env:Room k (A.deeper env):=
 ⟨r.hd,by have:=r.dp;show A.depth+1+3*k+5<_;omega,by have:=r.un;show A.units+3+16*k+200<_;omega⟩
def QN{A:eX}:(A.under (.builtin "type.__call__" ⟨.ref C::us,kw⟩)).depth=A.depth+1:=by first|rfl|simp[eX.under,Code.weight,Code.isCreation,Code.isGuard,Code.isCaller,Code.frames,Code.isFrame,guardIds]
def QM{A:eX}:(A.under (.builtin "type.__call__" ⟨.ref C::us,kw⟩)).units=A.units+1:=by first|rfl|simp[eX.under,Code.cUnits,Code.frames,Code.isFrame]
def Room.make(r:Room (k+1) A) C us kw:Room k (A.under (.builtin "type.__call__" ⟨.ref C::us,kw⟩)):=
 ⟨r.hd,by have:=r.dp;rw[QN];lia,by have:=r.un;rw[QM];lia⟩
theorem Room.depth(r:Room k A):A.depth<recursionLimit:=by have:=r.dp;lia
theorem Room.units(r:Room k A):A.units+64<cLine:=by have:=r.un;lia
def tNil:TA:=λ_ H Q=>Q [] H
def tCons(ta:TE)(tr:TA):TA:=λσ H Q=>ta σ H λx H1=>tr σ H1 λxs H2=>Q (x::xs) H2
section
variable{t:TA}
def yV:PA X [] tNil:=λ_ _ _ _ H Q I h=>Calls.spliced_nil ⟨[],H,I,.nil,h⟩
def jN(ha:PE X e te)(hr:PA X es t)(hs:aK (e::es) X.env=(false,cI e X.env)::aK es X.env:=by rfl):PA X (e::es) (tCons te t):=by intro pos aC s σ H Q I h;rw[hs];refine Calls.spliced_cons (thn (ha aC s σ H _ I h) λu s1 zq=>?_);obtain⟨x,H1,I1,r1,q1⟩:=zq;exact thn (hr pos aC s1 σ H1 _ I1 q1) λus s2 ⟨xs,H2,I2,r2,q2⟩=>⟨x::xs,H2,I2,.cons r1 r2,q2⟩
def tTup(t:TA):TE:=λσ H Q=>t σ H λxs H1=>xs.length<=sizeLine/\∀p,H1 p=none->Q (.ref p) (upd H1 p (.tup xs))
def tLst(t:TA):TE:=λσ H Q=>t σ H λxs H1=>xs.length<=sizeLine/\∀p,H1 p=none->Q (.ref p) (upd H1 p (.lst xs))
def pe_tup{x1}(h:PA X es t):PE X (.Tuple es x1 pos) (tTup t):=by intro aC s σ H Q I hq;refine wpAny_Tuple_spliced (thn (h pos aC s σ H _ I hq) λus s1 ⟨xs,H1,I1,r,z,q⟩=>⟨by rw[<-r.length];exact z,?_⟩);have hf:=I1.hok.fresh (aM _);refine⟨.ref s1.heap.objs.size,upd H1 s1.heap.objs.size (.tup xs),I1.laid (λb u e=>aD _ e) (aM _) ?_,rfl,q _ hf⟩;exact⟨z,us,r,⟨_,aU _ rfl,rfl,_,rfl⟩⟩
def aCm(h:PA X es t):PE X (.List es pos) (tLst t):=by intro aC s σ H Q I hq;refine wpAny_List_spliced (thn (h pos aC s σ H _ I hq) λus s1 ⟨xs,H1,I1,r,z,q⟩=>⟨by rw[<-r.length];exact z,?_⟩);have hf:=I1.hok.fresh (aM _);refine⟨.ref s1.heap.objs.size,upd H1 s1.heap.objs.size (.lst xs),I1.laid (λb u e=>aD _ e) (aM _) ?_,rfl,q _ hf⟩;exact⟨z,us,0,r,aU _ rfl⟩
end
abbrev Sp:=List V->Hp->VK->XK->Prop
abbrev CXT:=List Env->Hp->bH->XK->aN->bH->Prop
structure Env0(P:cF)(w:dE)(K:aP)(mg:Str->Option aN)(base:Heap)(A:eX)(outer:List Env)(s:bH)(H:Hp):Prop where
 frames:A.frames=some outer
 mod:Mod K mg base
 bs:∀b o,base.get? b=some o->s.heap.get? b=some o/\H b=none
 bsz:Bsz K mg base s.heap H
 funs:s.heap.FunFrames base outer
 frf:∀b∈frs outer,H b=none
 hok:HOk P w H s.heap
 bare:rL s.gens
def CE(outer:List Env)(P:cF)(w:dE)(H:Hp)(s:bH)(Q:VK)(u:aN)(s':bH):Prop:=
 ∃v H',s'.os=s.os/\rL s'.gens/\Un (frs outer) [] H H' s.heap s'.heap/\HOk P w H' s'.heap/\RelV v u/\Q v H'
def CR(CX:CXT)(outer:List Env)(P:cF)(w:dE)(H:Hp)(s:bH)(Q:VK)(E:XK)(r:Result)(s':bH):Prop:=
 match r with
 |.ok (.ret u)=>CE outer P w H s Q u s'
 |.ok _=>False
 |.error e=>CX outer H s E e s'
structure FnOk(P:cF)(w:dE)(K:aP)(mg:Str->Option aN)(base:Heap)(CX:CXT)(k:Nat)(f:aG)(fd:bR)(ps:List Str)(sp:Sp):Prop where
 len:∀vs H Q E,sp vs H Q E->vs.length=ps.length
 run:∀(A:eX) (outer:List Env) (s:bH) (H:Hp) (args:Args) (us:List aN) (vs:List V) (Q:VK) (E:XK),Room k A->Env0 P w K mg base A outer s H->ZO s fd args (ps.zip us)->Vals vs us->sp vs H Q E →
  gO (aZ P w) A (.call (.ref f) args) (CR CX outer P w H s Q E) s
theorem FnOk.mono{K:aP}(F:FnOk P w K mg base CX j f fd ps sp)(h:j<=k) :
  FnOk P w K mg base CX k f fd ps sp:=⟨F.len,λA outer s H args us vs Q E hr=>F.run A outer s H args us vs Q E (hr.mono h)⟩
def FnOk.imp{K:aP}(F:FnOk P w K mg base CX k f fd ps sp)(h:∀vs H Q E,sp' vs H Q E->sp vs H Q E):FnOk P w K mg base CX k f fd ps sp':=
 ⟨λvs H Q E q=>F.len vs H Q E (h _ _ _ _ q),λA outer s H args us vs Q E hr he hb hv hs=>F.run A outer s H args us vs Q E hr he hb hv (h _ _ _ _ hs)⟩
def Env0.make{K:aP}(e:Env0 P w K mg base A outer s H) C us kw :
  Env0 P w K mg base (A.under (.builtin "type.__call__" ⟨.ref C::us,kw⟩)) outer s H:=⟨by first|exact e.frames|(simpa[eX.under,Code.envs,Code.isFrame,pushEnvs]using e.frames),e.mod,e.bs,e.bsz,e.funs,e.frf,e.hok,e.bare⟩
def Inv.tabsH(I:Inv X aC σ H s):TabsK X.K X.mg X.base H:=⟨I.ok.bsz.2.bm,λx c P hx ht=>⟨(I.ok.bsz.2.tab x c P hx ht).1,I.base.tbls _ _ (I.ok.bsz.2.tab x c P hx ht).2⟩⟩
def Inv.env0(I:Inv X aC σ H s):Env0 X.prog X.w X.K X.mg X.base X.A X.stack s H:=
 ⟨I.ok.frames,I.ok.mod,I.bs,⟨cW I.ok.bsz.1 I.sz,I.tabsH⟩,I.stack,I.stkFree,I.hok,I.bare⟩
def Inv.after(I:Inv X aC σ H s)(h:CE X.stack X.prog X.w H s Q u s'):EP X aC σ Q u s':=by obtain⟨v,H',os,bare,un,hok,r,q⟩:=h;obtain⟨hh,g,d,t,os'⟩:=s';obtain rfl:os'=s.os:=os;exact⟨v,H',I.call un hok bare (λb z=>absurd z (by simp)),r,q⟩
def tCall(sp:Sp)(dvs:List V)(E:XK)(t:TA):TE:=λσ H Q=>t σ H λvs H1=>sp (vs++dvs) H1 Q E
def tMake(C:aG)(sp:Sp)(dvs:List V)(E:XK)(t:TA):TE:=λσ H Q=>t σ H λvs H1=>∀x dx,H1 x=none->H1 dx=none->dx≠x →
 sp (.ref x::(vs++dvs)) (upd (upd H1 dx (.own x)) x (.ins C dx [])) (λv H2=>v=.non/\Q (.ref x) H2) E
def Binds(K:aP)(fd:bR)(ps:List Str)(ds:List aN):Prop:=
 ∀(s:bH) (us:List aN),K.In s.heap->(us++ds).length=ps.length->ZO s fd ⟨us,[]⟩ (ps.zip (us++ds))
def Binds.all{K:aP}(h:∀us,us.length=ps.length->sW fd ⟨us,[]⟩=pure (ps.zip us)):Binds K fd ps []:=λs us _ hl=>by rw[dM]at hl ⊢;exact .of_eq (h us hl)
def DO(CX:CXT)(X:Cx)(E:XK):Prop:=∀(aC:List (aG×Obj)) (σ:St) (H:Hp) (s:bH) (e:aN) (s':bH),Inv X aC σ H s->CX X.stack H s E e s'->X.xe e s'
section
variable{f C:aG}
def OZ(F:FnOk X.prog X.w X.K X.mg X.base CX k f fd ps sp)(hr:Room k X.A)(hb:Binds X.K fd ps ds)(hd:Vals dvs ds)(hx:DO CX X E)(I:Inv X aC σ H s)(r:Vals vs us)(h:sp (vs++dvs) H Q E):bL (aZ X.prog X.w) X.A (call (.ref f) us) (EP X aC σ Q) X.xe s:=by
 have r2:=r.append hd;have hl:(us++ds).length=ps.length:=by rw[<-r2.length];exact F.len _ _ _ _ h
 refine uZ (gX (F.run X.A X.stack s H ⟨us,[]⟩ (us++ds) (vs++dvs) Q E hr I.env0 (hb s us I.kIn hl) r2 h) λr s' hq=>?_);cases r with
 |error e=>exact hx aC σ H s e s' I hq
 |ok fl=>
   cases fl with
   |ret u=>exact I.after hq
   |next=>exact False.elim hq
   |brk=>exact False.elim hq
   |cont=>exact False.elim hq
def AO(F:FnOk X.prog X.w X.K X.mg X.base CX k f fd ps sp)(hr:Room k X.A)(hg:Gl X x)(hm:X.mg x=some (.ref f))(hk:cE X.K (.ref f)=true)(hb:Binds X.K fd ps ds)(hd:Vals dvs ds)(hx:DO CX X E)(ha:PA X (e::es) t)(hdb:(x==("__debug__" : Str))=false:=by decide)(he:aK (e::es) X.env=(false,cI e X.env)::aK es X.env:=by rfl)(hpl:(dS pos (aK es X.env)).any (·.1)=false:=by rfl) :
  PE X (.Call (.Name x p) (e::es) [] pos) (tCall sp dvs E t):=by
 intro aC s σ H Q I h;refine fO (IZ I hg hm ?_ hdb);refine rK I.ok.mod.kin hk (thn (ha pos aC s σ H _ I h) λus s1 ⟨vs,H1,I1,r,q⟩=>⟨I1.kIn,?_⟩) he hpl;exact OZ F hr hb hd hx I1 r q
structure Mk(K:aP)(C f:aG):Prop where
 makes:tV K C=true
 init:cP K (.ref C) "__init__" = some (some (.ref f))
 fn:nZ K (.ref f)=true
 kp:cE K (.ref C)=true
def aBe(M:Mk X.K C f)(F:FnOk X.prog X.w X.K X.mg X.base CX k f fd ps sp)(hr:Room (k+1) X.A)(hb:Binds X.K fd ps ds)(hd:Vals dvs ds)(hx:DO CX X E)(I:Inv X aC σ H s)(r:Vals vs us)(h:∀x dx,H x=none->H dx=none->dx≠x->sp (.ref x::(vs++dvs)) (upd (upd H dx (.own x)) x (.ins C dx [])) (λv H2=>v=.non/\Q (.ref x) H2) E) :
  bL (aZ X.prog X.w) X.A (call (.ref C) us) (EP X aC σ Q) X.xe s:=by
 have hq:=h (s.heap.objs.size+1) s.heap.objs.size (I.hok.fresh (mD _)) (I.hok.fresh (aM _)) (bO (gF _));have I2:=Inv.made (C:=C) I;have r2:Vals (V.ref (s.heap.objs.size+1)::(vs++dvs)) (aN.ref (s.heap.objs.size+1)::(us++ds)):=.cons rfl (r.append hd);have hl:(aN.ref (s.heap.objs.size+1)::us++ds).length=ps.length:=by have e:=r2.length;rw[F.len _ _ _ _ hq]at e;exact e.symm
 refine uZ (aDm I.kIn M.makes M.init (beq_iff_eq.mp M.fn) (gX (F.run _ X.stack _ _ ⟨aN.ref (s.heap.objs.size+1)::us,[]⟩ (aN.ref (s.heap.objs.size+1)::(us++ds)) _ _ E (hr.make C us [])
  (I2.env0.make C us []) (hb _ (aN.ref (s.heap.objs.size+1)::us) I2.kIn hl) r2 hq) λr s' hq'=>?_))
 cases r with
 |error e=>exact hx aC σ _ _ e s' I2 hq'
 |ok fl=>
   cases fl with
   |ret u=>obtain⟨v,H',I3,rv,ev,q3⟩:=I2.after hq';subst ev;exact⟨rv,⟨V.ref (s.heap.objs.size+1),H',I3,rfl,q3⟩⟩
   |next=>exact False.elim hq'
   |brk=>exact False.elim hq'
   |cont=>exact False.elim hq'
def pe_make(M:Mk X.K C f)(F:FnOk X.prog X.w X.K X.mg X.base CX k f fd ps sp)(hr:Room (k+1) X.A)(hg:Gl X x)(hm:X.mg x=some (.ref C))(hb:Binds X.K fd ps ds)(hd:Vals dvs ds)(hx:DO CX X E)(ha:PA X (e::es) t)(hdb:(x==("__debug__" : Str))=false:=by decide)(he:aK (e::es) X.env=(false,cI e X.env)::aK es X.env:=by rfl)(hpl:(dS pos (aK es X.env)).any (·.1)=false:=by rfl) :
  PE X (.Call (.Name x p) (e::es) [] pos) (tMake C sp dvs E t):=by
 intro aC s σ H Q I h;refine fO (IZ I hg hm ?_ hdb);refine rK I.ok.mod.kin M.kp (thn (ha pos aC s σ H _ I h) λus s1 ⟨vs,H1,I1,r,q⟩=>⟨I1.kIn,?_⟩) he hpl;exact aBe M F hr hb hd hx I1 r q
end
section
variable{fd:bR}{ps ks:List Str}{sp:Sp}{E:XK}{t tk:TA}
end
structure FnScope(N P:List Str)(sc:Scope):Prop where
 kind:sc.kind=.function:=by rfl
 co:sc.isCoroutine=false:=by rfl
 gen:sc.isGenerator=false:=by rfl
 nd:N.Nodup:=by decide +kernel
 pre:N.take P.length=P:=by rfl
 par:∀x∈P,sc.names.lookup x=some .local\/sc.names.lookup x=some .cell:=by decide +kernel
 nofree:∀y∈sc.names,y.2≠.free:=by decide +kernel
theorem HR{kindOf:Str->Option oA}:∀{binds:List (Str×aN)}{m:Str->Option aN},(∀v,(x,v)∉binds)->VN kindOf binds m x=m x
 |[],_,_=>rfl
 |(n,v)::r,m,h=>by
   unfold VN;rw[HR λw hw=>h w (aL _ hw)];split
   . have:x≠n:=by rintro rfl;exact h v aS
     simp[this]
   . rfl
theorem HU{kindOf:Str->Option oA}:∀{binds:List (Str×aN)}{m:Str->Option aN},(∀v,(x,v)∉binds)->VO kindOf binds m x=m x
 |[],_,_=>rfl
 |(n,v)::r,m,h=>by
   unfold VO;rw[HU λw hw=>h w (aL _ hw)];split
   . rfl
   . have:x≠n:=by rintro rfl;exact h v aS
     simp[this]
theorem HS{kindOf:Str->Option oA}:∀{P:List Str}{vs:List aN}{i:Nat}{m:Str->Option aN},P.Nodup->P[i]?=some x->vs[i]?=some v->kindOf x=some .local →
  VN kindOf (P.zip vs) m x=some v
 |[],_,_,_,_,h,_,_=>by simp at h
 |_::_,[],_,_,_,_,h,_=>by simp at h
 |p::P,w::vs,0,m,nd,h1,h2,hk=>by simp at h1 h2;subst h1;subst h2;show VN kindOf ((p,w)::P.zip vs) m p=_;unfold VN;rw[HR λv hv=>(bM.mp nd).1 (AU hv).1,if_pos hk];simp
 |p::P,w::vs,i+1,m,nd,h1,h2,hk=>by show VN kindOf ((p,w)::P.zip vs) m x=_;unfold VN;exact HS (i:=i) (bM.mp nd).2 (by simpa using h1) (by simpa using h2) hk
theorem HV{kindOf:Str->Option oA}:∀{P:List Str}{vs:List aN}{i:Nat}{m:Str->Option aN},P.Nodup->P[i]?=some x->vs[i]?=some v->kindOf x≠some .local →
  VO kindOf (P.zip vs) m x=some v
 |[],_,_,_,_,h,_,_=>by simp at h
 |_::_,[],_,_,_,_,h,_=>by simp at h
 |p::P,w::vs,0,m,nd,h1,h2,hk=>by simp at h1 h2;subst h1;subst h2;show VO kindOf ((p,w)::P.zip vs) m p=_;unfold VO;rw[HU λv hv=>(bM.mp nd).1 (AU hv).1,if_neg hk];simp
 |p::P,w::vs,i+1,m,nd,h1,h2,hk=>by show VO kindOf ((p,w)::P.zip vs) m x=_;unfold VO;exact HV (i:=i) (bM.mp nd).2 (by simpa using h1) (by simpa using h2) hk
noncomputable def start(N:List Str)(vs:List V):St:=vs.map some++List.replicate (N.length-vs.length) none
noncomputable def cxOf(CX:CXT)(P:cF)(w:dE)(K:aP)(mg:Str->Option aN)(base:Heap)(N:List Str)(qual:Str)(scope:Scope)(f:aG)(cd:aN)(A:eX)(outer:List Env)(s:bH)(H:Hp)(E:XK):Cx where
 prog:=P
 w:=w
 K:=K
 mg:=mg
 base:=base
 A:=A.deeper (nH qual scope s.heap.objs.size f cd)
 N:=N
 s₀:=s
 H₀:=H
 env:=nH qual scope s.heap.objs.size f cd
 outer:=outer
 stack:=nH qual scope s.heap.objs.size f cd::outer
 ex:=[]
 calm:=true
 fn:=λ_=>true
 pn:=[]
 xe:=λe s'=>bL (aZ P w) (A.deeper (nH qual scope s.heap.objs.size f cd)) (leaving (nH qual scope s.heap.objs.size f cd) e) (λ_ s''=>CX outer H s E e s'') (λe' s''=>CX outer H s E e' s'') s'
def NJ{sc:Scope}(h:sc.names.lookup x=some .cell):∃c,(cellsFrom n sc.names []).lookup x=some c:=by have q:=EZ sc.names n [] (.inl h);exact ED.mp q
def YA{K:aP}(S:FnScope N ps scope)(hd:A.handled=none)(e0:Env0 P w K mg base A outer s H)(hl:vs.length=ps.length)(r:Vals vs us)(x:InCallC s s.heap.objs.size (VN (nH qual scope s.heap.objs.size f cd).kindOf (ps.zip us) λ_=>none) (cellsFrom (s.heap.objs.size+1) scope.names []) (VO (nH qual scope s.heap.objs.size f cd).kindOf (ps.zip us) λ_=>none) s1) :
  Inv (cxOf CX P w K mg base N qual scope f cd A outer s H E) [] (start N vs) H s1:=by
 have hpl:ps.length<=N.length:=by have:=congrArg List.length S.pre;rw[dW]at this;lia
 obtain⟨h1,tk,rfl,hk⟩:=x.done;have noA:∀b:aG,b∉(cxOf CX P w K mg base N qual scope f cd A outer s H E).ex:=λb z=>absurd (show b∈([]:List aG) from z) (by simp)
 refine⟨⟨e0.mod,S.kind,rfl,rfl,aM _,λy z c h1 h2=>?_,λy hy=>?_,λy c _ h=>?_,λ_=>hd,eX.frames_deeper e0.frames,.inr ⟨rfl,rfl⟩,λb z=>absurd z (noA b),e0.bs,e0.bsz,λb _ _=>noA b,λb z=>absurd z (noA b),e0.funs,e0.frf⟩,
  rfl,e0.bare,Un.kept hk,⟨_,x.toInCall.ns,λi y v h1 h2 h3=>?_⟩,λy c h=>⟨_,x.cell y c h⟩,e0.hok.fresh (aM _),λy c h=>?_,λp hp=>absurd (show p∈([]:List (aG×Obj)) from hp) (by simp),e0.hok.kept hk,?_⟩
 . exact name_of_addr x.apart (fY h1) (fY h2)
 . have hy:scope.names.lookup y=some .cell\/scope.names.lookup y=some .free:=hy;rcases hy with hy|hy
   . exact NJ hy
   . exact absurd rfl (S.nofree _ (fY hy))
 . exact NW (x.above y c (fY h))
 . have hi:i<vs.length:=by
    unfold start at h2;by_cases hi:i<vs.length
    . exact hi
    . rw [cL (by simpa using hi)]at h2;rw [dX]at h2;split at h2<;>cases h2
   have ha:vs[i]?=some v:=by
    unfold start at h2;rw[bW (by simpa using hi),bI]at h2;cases e:vs[i]? with
    |none=>rw[e]at h2;cases h2
    |some a=>rw[e]at h2;cases h2;rfl
   obtain⟨u,hu,rv⟩:=r.get ha;have hp:ps[i]?=some y:=by rw[<-S.pre,fT (by lia)];exact h1
   have ndP:ps.Nodup:=by rw[<-S.pre];exact S.nd.sublist (fQ _ _)
   refine⟨u,rv,?_⟩;rcases S.par y (lX hp)with k|k
   . exact .inl ⟨k,HS ndP hp hu k⟩
   . obtain⟨c,e⟩:=NJ k;refine .inr ⟨.inl k,c,e,?_⟩;have q:=x.cell y c e;rw[HV ndP hp hu (by show scope.names.lookup y≠_;rw[k];decide)]at q;exact q
 . exact .inl (e0.hok.fresh (NW (x.above y c (fY h))))
 . unfold start;show _=N.length;rw [bX,cD,pM]
   lia
def fn_of{K:aP}{dV kV doc pm cdv ct oc:aN}(lk:K.lookup f=some ⟨oc,od,.func (dL name qual params body scope dV kV doc pm an cdv ct),osl⟩)(hcd:fV K cdv qual=true)(S:FnScope N ps scope)(len:∀vs H Q E,sp vs H Q E->vs.length=ps.length)(hbody:∀A outer s H vs Q E,Room k (A.deeper (nH qual scope s.heap.objs.size f cdv))->sp vs H Q E →
    ∃t,PSs (cxOf CX P w K mg base N qual scope f cdv A outer s H E) body t/\t {nx:=λ_ H'=>Q .non H',rt:=Q} (start N vs) H) :
  FnOk P w K mg base CX (k+1) f (dL name qual params body scope dV kV doc pm an cdv ct) ps sp:=by
 refine⟨len,λA outer s H args us vs Q E hr e0 hb r hsp=>?_⟩;have hl:=len _ _ _ _ hsp;have KX:=e0.mod.kin.keeps λb o e=>(e0.bs b o e).1;have lim:=e0.mod.nolimit.keeps λb o e=>(e0.bs b o e).1;have hkind:∀y∈ps.zip us,scope.names.lookup y.1=some .local\/(scope.names.lookup y.1=some .cell/\((cellsFrom (s.heap.objs.size+1) scope.names []).lookup y.1).isSome=true):=λ⟨n,v⟩ hy=>by
  rcases S.par n (AU hy).1 with q|q
  . exact .inl q
  . exact .inr ⟨q,EZ _ _ _ (.inl q)⟩
 refine codeAny_call_function hr.depth (KX _ _ lk) rfl S.co S.gen rfl (PySem.W.codeRec_of KX hcd) (hb _ _ _ _ ?_);refine wpAny_newFunctionEnv_cells S.kind hkind λenv he s1 x=>?_;subst he;refine⟨lim.keeps x.toInCall.keep,codeAny_func ?_⟩;obtain⟨t,ht,hq⟩:=hbody A outer s H vs Q E (hr.deeper _) hsp;have I:Inv (cxOf CX P w K mg base N qual scope f cdv A outer s H E) [] (start N vs) H s1:=YA S hr.hd e0 hl r x;refine eA (ht [] s1 (start N vs) H _ I hq) (λfl s' hs=>?_) λe s' hs=>hs
 have fin:∀{σ':St}{H':Hp}{v:V}{u:aN},Inv (cxOf CX P w K mg base N qual scope f cdv A outer s H E) [] σ' H' s'->RelV v u->Q v H'->CE outer P w H s Q u s':=
  λ{σ' H' v u} J rv q=>⟨v,H',J.os,J.bare,J.base,J.hok,rv,q⟩
 cases fl with
 |ret u=>obtain⟨v,σ',H',J,rv,q⟩:=hs;exact fin J rv q
 |next=>obtain⟨σ',H',J,q⟩:=hs;exact fin (v:=V.non) J rfl q
 |brk=>obtain⟨_,_,_,q⟩:=hs;exact False.elim q
 |cont=>obtain⟨_,_,_,q⟩:=hs;exact False.elim q
section
variable{t:TA}{id T:String}{r:List V->Hp->VK->Prop}
def tCB(r:List V->Hp->VK->Prop)(t:TA):TE:=λσ H Q=>t σ H λvs H1=>r vs H1 Q
def BZ(hc:CallR X (.builtin id) r)(hg:Gl X x)(hm:X.mg x=none)(hv:fG x=some (.builtin id))(ha:PA X (e::es) t)(hn:x≠"__name__":=by decide)(hdb:(x==("__debug__" : Str))=false:=by decide)(he:aK (e::es) X.env=(false,cI e X.env)::aK es X.env:=by rfl)(hpl:(dS pos (aK es X.env)).any (·.1)=false:=by rfl):PE X (.Call (.Name x p) (e::es) [] pos) (tCB r t):=by intro aC s σ H Q I h;refine fO (wX I hg hm hv ?_ hn hdb);exact iZ (thn (ha pos aC s σ H _ I h) λus s1 ⟨vs,H1,I1,r1,q1⟩=>hc aC s1 σ H1 vs us Q I1 r1 q1) he hpl
def GQ(hc:CallR X (.type T) r)(hg:Gl X x)(hm:X.mg x=none)(hv:fG x=some (.type T))(ha:PA X (e::es) t)(hn:x≠"__name__":=by decide)(hdb:(x==("__debug__" : Str))=false:=by decide)(he:aK (e::es) X.env=(false,cI e X.env)::aK es X.env:=by rfl)(hpl:(dS pos (aK es X.env)).any (·.1)=false:=by rfl):PE X (.Call (.Name x p) (e::es) [] pos) (tCB r t):=by intro aC s σ H Q I h;refine fO (wX I hg hm hv ?_ hn hdb);exact gE (thn (ha pos aC s σ H _ I h) λus s1 ⟨vs,H1,I1,r1,q1⟩=>hc aC s1 σ H1 vs us Q I1 r1 q1) he hpl
end
end L2
namespace HT
open PySem PyProof.Rows
section
open PySem.SeqAt
open PySem.AutoSeq1 (wpAny_loadPart')
open PySem.MeetsSeq PySem.MeetsSeq2 PySem.MeetsSeq3
end
def VC v(n d:Nat):(if v<0 then max (v+(n:Int)) 0 else min v (n:Int))=((sIx n d (some v):Nat):Int):=by
 show(if v<0 then max (v+(n:Int)) 0 else min v (n:Int))=(((if v<0 then (v+(n:Int)).toNat else min v.toNat n):Nat):Int)
 by_cases hv:v<0
 . simp only[if_pos hv];lia
 . simp only[if_neg hv];lia
def RK lo hi(n:Nat):Builtin.Slice.sliceAdjust lo hi 1 (n:Int)=(((sIx n 0 lo:Nat):Int),((sIx n n hi:Nat):Int)):=by
 have h1:¬((1:Int)<0):=by lia
 unfold Builtin.Slice.sliceAdjust;simp only[h1,if_false];refine Prod.ext ?_ ?_
 . cases lo with
   |none=>rfl
   |some v=>exact VC v n 0
 . cases hi with
   |none=>rfl
   |some v=>exact VC v n n
def PR(i j:Nat):Builtin.Slice.slicePlaces (i:Int) (j:Int) 1=j-i:=by
 unfold Builtin.Slice.slicePlaces;have h1:(1:Int)>0:=by lia
 split<;>lia
def BI(p:sY v o)(h:Q o s):bL (aZ prog w) A (Builtin.Slice.slicePartIndex v) Q E s:=by
 cases p with
 |none=>exact slicePart_none h
 |int i t=>exact slicePart_int h
def nV{lo hi:Option Int}{n:Nat}(hs:s.heap.IsSliceOf sl vl vu .none)(pl:sY vl lo)(pu:sY vu hi)(h:Q (((sIx n 0 lo:Nat):Int),1,sIx n n hi-sIx n 0 lo) s):bL (aZ prog w) A (Builtin.Slice.sliceApplied (.ref sl) (pure (n:Int))) Q E s:=by
 obtain⟨os,hos,hcs,hds⟩:=id hs;refine aA (aA (wpAny_field hos hds rfl (aA (wpAny_field hos hds rfl (aA (wpAny_field hos hds rfl (aJ ?_)))))));refine aA (slicePart_none ?_);refine aA (BI pl (aA (BI pu (aA (aJ ?_)))));show bL _ _ (match Builtin.Slice.sliceAdjust lo hi 1 (n:Int)with|(lo,hi)=>pure (lo,(1:Int),Builtin.Slice.slicePlaces lo hi 1)) _ _ s;rw[RK lo hi n];show bL _ _ (pure (((sIx n 0 lo:Nat):Int),(1:Int),Builtin.Slice.slicePlaces ((sIx n 0 lo:Nat):Int) ((sIx n n hi:Nat):Int) 1)) _ _ s;rw[PR];exact aJ h
def aCi(xs:Array aN)(i k:Nat):((List.range k).filterMap λ(m:Nat)=>xs[((i:Int)+(m:Int)*1).toNat]?).toArray=((xs.toList.drop i).take k).toArray:=by
 have e:(λ(m:Nat)=>xs[((i:Int)+(m:Int)*1).toNat]?)=λm=>xs[i+m]?:=by
  funext m;have:((i:Int)+(m:Int)*1).toNat=i+m:=by lia
  rw[this]
 rw[e];have:=pick_run xs i k;rw[List.filterMap_map]at this;have e2:((λx=>xs[x]?) ∘ λx=>i+x)=λm=>xs[i+m]?:=rfl;rw[e2]at this;rw[this]
def getItem_tuple_cut{lo hi:Option Int}(ht:IsTup s.heap t items)(hs:s.heap.IsSliceOf sl vl vu .none)(pl:sY vl lo)(pu:sY vu hi)(hw:¬(sIx items.size 0 lo=0/\sIx items.size items.size hi=items.size))(h:Q (.ref s.heap.objs.size) {s with heap:=s.heap.push {cls:=.type "tuple",data:=.seq ((items.toList.drop (sIx items.size 0 lo)).take (sIx items.size items.size hi-sIx items.size 0 lo)).toArray} })(hsz:items.size<=sizeLine):bL (aZ prog w) A (oU (.ref t) (.ref sl)) Q E s:=by
 have htake:sizeOk (.seq ((items.toList.drop (sIx items.size 0 lo)).take (sIx items.size items.size hi-sIx items.size 0 lo)).toArray):=by
  show((items.toList.drop (sIx items.size 0 lo)).take (sIx items.size items.size hi-sIx items.size 0 lo)).toArray.size<=sizeLine;rw[bC,dW,iH,bG]
  lia
 obtain⟨os,hos,hcs,hds⟩:=id hs;have hTs:s.TypeIs (.ref sl) "slice":=⟨os,hos,hcs⟩
 unfold oU
 try with_reducible refine dR ?_
 refine aA (wpAny_sequenceKey ht.typeIs (by decide) ?_)
 refine aA (pW ht.typeIs cY
  (fJ cY ht.typeIs entry_tuple_getitem ?_ (args_tuple_getitem _ _)))
 show bL _ _ (Builtin.Tuple.tupleItemsOf (.ref t) >>= _) _ _ s;refine aA (tupleItemsOf_ ht ?_);refine aA (rG hTs ?_);refine aA (nV hs pl pu ?_);have hno:¬((((sIx items.size 0 lo:Nat):Int)==0&&(1:Int)==1&&(sIx items.size items.size hi-sIx items.size 0 lo)==items.size)=true):=by intro q;rw[bV,bV]at q;exact hw ⟨by lia,by lia⟩
 show bL _ _ (if (((sIx items.size 0 lo:Nat):Int)==0&&(1:Int)==1&&(sIx items.size items.size hi-sIx items.size 0 lo)==items.size)=true then _ else _) _ _ s;rw[if_neg hno,aCi]
 first
  |exact aA (eI (aJ ⟨_,rfl,aJ h⟩) htake)
  |exact aA (eI (aA (aJ (aJ ⟨_,rfl,aJ h⟩))) htake)
  |exact aA (aA (eI (aJ (aJ ⟨_,rfl,aJ h⟩)) htake))
  |exact aA (aA (eI (aJ ⟨_,rfl,aJ h⟩) htake))
end HT
namespace L2
open PySem PySem.Spec PyProof.Rows
abbrev TO:=St->Hp->(Option Int->Hp->Prop)->Prop
def PO(X:Cx)(e:Option Expr)(t:TO):Prop:=
 ∀(aC:List (aG×Obj)) (s:bH) (σ:St) (H:Hp) (Q:Option Int->Hp->Prop),Inv X aC σ H s->t σ H Q →
  bL (aZ X.prog X.w) X.A (evalPart e X.env) (λu s'=>∃o H',Inv X aC σ H' s'/\sY u o/\Q o H') X.xe s
def tNoPart:TO:=λ_ H Q=>Q none H
def tPart(t:TE):TO:=λσ H Q=>t σ H λx H1=>∃i,x=.int i/\Q (some i) H1
def CP:∀{us:List aN},Vals (ns.map V.int) us->eR us ns:=by
 induction ns with
 |nil=>intro us r;rw[cR]at r;cases r;exact .nil
 |cons n ns ih=>
   intro us r;cases r with
   |cons r1 r2=>obtain⟨t,e⟩:=r1;subst e;exact .cons n t (ih r2)
section
variable{X:Cx}{te:TE}{lo hi:Option Expr}{tl th:TO}
def po_none:PO X none tNoPart:=by intro aC s σ H Q I h;exact aJ ⟨none,H,I,.none,h⟩
def po_some(h:PE X e te):PO X (some e) (tPart te):=by intro aC s σ H Q I hw;refine thn (h aC s σ H _ I hw) λu s1 zq=>?_;obtain⟨x,H1,I1,r1,q1⟩:=zq;obtain⟨i,rfl,q⟩:=q1;obtain⟨t,rfl⟩:=r1;exact⟨some i,H1,I1,.int i t,q⟩
def SlR(X:Cx)(r:V->Option Int->Option Int->Hp->VK->Prop):Prop:=
 ∀(aC:List (aG×Obj)) (s:bH) (σ:St) (H:Hp) (x:V) (v vl vu:aN) (lo hi:Option Int) (sl:aG) (Q:VK),Inv X aC σ H s->RelV x v->s.heap.IsSliceOf sl vl vu .none->sY vl lo->sY vu hi->r x lo hi H Q →
  ∃T id,typeLookup (.type T) "__getitem__" = pure (some (.builtin id))/\s.TypeIs v T/\bL (aZ X.prog X.w) X.A (oU v (.ref sl)) (EP X aC σ Q) X.xe s
def tSl(r:V->Option Int->Option Int->Hp->VK->Prop)(te:TE)(tl th:TO):TE:=λσ H Q=>te σ H λx H1=>tl σ H1 λl H2=>th σ H2 λu H3=>r x l u H3 Q
def LW(hr:SlR X r)(he:PE X e te)(hl:PO X lo tl)(hu:PO X hi th):PE X (.Subscript e (.Slice lo hi none p2) pos) (tSl r te tl th):=by intro aC s σ H Q I h;refine Subscript_ (thn (he aC s σ H _ I h) λv s1 zq=>?_);obtain⟨x,H1,I1,r1,q1⟩:=zq;refine wpAny_Slice (thn (hl aC s1 σ H1 _ I1 q1) λvl s2 ⟨l,H2,I2,pl,q2⟩=>thn (hu aC s2 σ H2 _ I2 q2) λvu s3 zq=>?_);obtain⟨u,H3,I3,pu,q3⟩:=zq;refine aJ ?_;have I4:Inv X aC σ H3 {s3 with heap:=s3.heap.push {cls:=.type "slice",data:=.fields #[vl,vu,.none]} }:=I3.kept λb ob q=>aD _ q;obtain⟨T,id,hT,ht,hg⟩:=hr aC {s3 with heap:=s3.heap.push {cls:=.type "slice",data:=.fields #[vl,vu,.none]} } σ H3 x v vl vu l u s3.heap.objs.size Q I4 r1 (Heap.IsSliceOf.new ..) pl pu q3;exact tail_any ht hT hg (by with_unfolding_all rfl)
noncomputable def cutV(xs:List V)(lo hi:Option Int):List V:=(xs.drop (HT.sIx xs.length 0 lo)).take (HT.sIx xs.length xs.length hi-HT.sIx xs.length 0 lo)
def uL xs lo hi:(cutV xs lo hi).length<=xs.length:=by
 unfold cutV;rw[dW,iH]
 lia
def rSlT(K:aP):V->Option Int->Option Int->Hp->VK->Prop:=λx lo hi H Q=>∃a xs,x=.ref a/\SqT K H a xs ∧
 ¬(HT.sIx xs.length 0 lo=0/\HT.sIx xs.length xs.length hi=xs.length)/\∀p,H p=none->Q (.ref p) (upd H p (.tup (cutV xs lo hi)))
def sl_tup:SlR X (rSlT X.K):=by
 intro aC s σ H x v vl vu lo hi sl Q I rx hs pl pu h;obtain⟨a,xs,rfl,hx,hw,q⟩:=h;cases rx;obtain⟨its,r,ht,hz⟩:=I.tuple hx;have hlen:its.toArray.size=xs.length:=by rw[bC];exact r.length.symm
 refine⟨"tuple",_,cY.lookup,ht.typeIs,?_⟩;refine HT.getItem_tuple_cut ht hs pl pu (by rw[hlen];exact hw) ?_ (by rw[hlen];exact hz);rw[hlen];refine⟨.ref s.heap.objs.size,_,I.laid (λb ob q=>aD _ q) (aM _) ?_,rfl,q _ (I.hok.fresh (aM _))⟩;exact⟨cW (uL xs lo hi) hz,_,(r.drop (HT.sIx xs.length 0 lo)).take (HT.sIx xs.length xs.length hi-HT.sIx xs.length 0 lo),IsTup.new _ _⟩
end
def UP(h:ixN n i=some j):seqIndex? i n=some j/\j<n/\-(n:Int)<=i/\i<n:=by
 unfold ixN at h;by_cases h0:0<=i
 . rw [if_pos h0]at h;by_cases h1:i<n
   . rw[if_pos h1]at h;have e:=Option.some.inj h;exact⟨by rw[seqIndex_of h0 h1,e],by lia,by lia,h1⟩
   . rw[if_neg h1]at h;cases h
 . rw [if_neg h0]at h;by_cases h1 : -(n:Int)<=i
   . rw[if_pos h1]at h;have e:=Option.some.inj h;exact⟨by rw[ZE (by lia) h1,e],by lia,h1,by lia⟩
   . rw[if_neg h1]at h;cases h
def JR(h:atI xs i=some v):∃j,seqIndex? i xs.length=some j/\xs[j]?=some v/\j<xs.length/\-(xs.length:Int)<=i/\i<xs.length:=by
 unfold atI at h;cases e:ixN xs.length i with
 |none=>rw[e]at h;cases h
 |some j=>rw[e]at h;obtain⟨h1,h2,h3,h4⟩:=UP e;exact⟨j,h1,h,h2,h3,h4⟩
def VJ(b:Expr):Prop:=∀o i,HX b false o i=operate [o,i] (oU o i)
def IxR(X:Cx)(r:R2):Prop:=
 ∀(value slice:Expr) (aC:List (aG×Obj)) (s:bH) (σ:St) (H:Hp) (x y:V) (v u:aN) (Q:VK),Inv X aC σ H s->RelV x v->RelV y u->r x y H Q →
  HX slice false v u=operate [v,u] (oU v u)->bL (aZ X.prog X.w) X.A (subscriptTail value slice v u) (EP X aC σ Q) X.xe s
def MtR(X:Cx)(id:String)(r:V->List V->Hp->VK->Prop):Prop:=
 ∀(aC:List (aG×Obj)) (s:bH) (σ:St) (H:Hp) (x:V) (xs:List V) (v:aN) (us:List aN) (Q:VK),Inv X aC σ H s->RelV x v->Vals xs us->r x xs H Q →
  bL (aZ X.prog X.w) X.A (call (.builtin id) (v::us)) (EP X aC σ Q) X.xe s
section
variable{a b:Expr}
def IxR.or(h:IxR X r)(h':IxR X r'):IxR X (λx y H Q=>r x y H Q\/r' x y H Q):=by
 intro value slice aC s σ H x y v u Q I rx ry q hs;rcases q with q|q
 . exact h value slice aC s σ H x y v u Q I rx ry q hs
 . exact h' value slice aC s σ H x y v u Q I rx ry q hs
def pe_ix(hr:IxR X r)(ha:PE X a ta)(hb:PE X b tb)(hs:VJ b):PE X (.Subscript a b pos) (tOp r ta tb):=by intro aC s σ H Q I h;exact Subscript_ (binT ha hb I h λv u s2 x y H2 I2 rx ry q=>hr a b aC s2 σ H2 x y v u Q I2 rx ry q (hs _ _))
noncomputable def rIxL(K:aP):R2:=λx y H Q=>∃p xs i v,x=.ref p/\y=.int i/\SqL K H p xs/\atI xs i=some v/\Q v H
noncomputable def rIxT(K:aP):R2:=λx y H Q=>∃p xs i v,x=.ref p/\y=.int i/\SqT K H p xs/\atI xs i=some v/\Q v H
noncomputable def rIxS:R2:=λx y H Q=>∃z i c,x=.str z/\y=.int i/\z.length<=sizeLine/\atI z.cps.toList i=some c/\Q (.str ⟨#[c]⟩) H
def ix_list:IxR X (rIxL X.K):=by
 intro value slice aC s σ H x y v u Q I rx ry h hs;obtain⟨p,xs,i,z,rfl,rfl,hq,he,q⟩:=h;cases rx;obtain⟨t,rfl⟩:=ry;obtain⟨its,r,pl,hz⟩:=I.list hq;obtain⟨j,h1,h2,h3,h4,h5⟩:=JR he;obtain⟨w,ew,rw'⟩:=r.get h2;have hl:=r.length;have hn:=tL;have fin:EP X aC σ Q w s:=⟨z,H,I,rw',q⟩
 by_cases h0:0<=i
 . have hj:i.toNat=j:=by
    rw[seqIndex_of h0 h5]at h1;exact Option.some.inj h1
   exact item_listR pl.isList h0 (by lia) (by rw[hj];simpa using ew) fin hs
 . have hj:(i+(its.toArray.size:Int)).toNat=j:=by
    rw[ZE (by lia) h4]at h1;rw[bC,<-hl];exact Option.some.inj h1
   exact subscriptTail_builtinR pl.isList.typeIs slot_list_getitem.lookup
    (wpAny_getItem_list_neg pl.isList (by lia) (by rw[bC]<;>lia) (by lia) (by rw[hj];simpa using ew) ⟨rfl,fin⟩) hs
def ix_tup:IxR X (rIxT X.K):=by
 intro value slice aC s σ H x y v u Q I rx ry h hs;obtain⟨p,xs,i,z,rfl,rfl,hq,he,q⟩:=h;cases rx;obtain⟨t,rfl⟩:=ry;obtain⟨its,r,pl,hz⟩:=I.tuple hq;obtain⟨j,h1,h2,h3,h4,h5⟩:=JR he;obtain⟨w,ew,rw'⟩:=r.get h2;have hl:=r.length;have hn:=tL;have fin:EP X aC σ Q w s:=⟨z,H,I,rw',q⟩
 exact subscriptTail_builtinR pl.typeIs slot_tuple_getitem.lookup
  (getItem_tuple pl (by lia) (by lia) (by rw[bC,<-hl];exact h1) (by simpa using ew) ⟨rfl,fin⟩) hs
def ix_str:IxR X rIxS:=by
 intro value slice aC s σ H x y v u Q I rx ry h hs;obtain⟨z,i,c,rfl,rfl,hz,he,q⟩:=h;obtain⟨t,rfl⟩:=rx;obtain⟨t',rfl⟩:=ry;obtain⟨j,h1,h2,h3,h4,h5⟩:=JR he;have hl:z.cps.toList.length=z.length:=by simp[Str.length]
 rw[hl]at h1 h4 h5;have hn:=tL;exact tail_any (typeIs_str s z t) slot_str_getitem.lookup (getItem_str (by
  have e1:decide (i < -(2^63:Int))=false:=decide_eq_false (by lia);have e2:decide (i≥2^63)=false:=decide_eq_false (by lia)
  rw[e1,e2,Bool.or_false]) (by rw[h1];simpa using h2) ⟨.str ⟨#[c]⟩,H,I.tok _,⟨_,rfl⟩,q⟩) hs
noncomputable def rIx(K:aP):R2:=λx y H Q=>rIxL K x y H Q\/rIxT K x y H Q\/rIxS x y H Q
def ix_seq:IxR X (rIx X.K):=ix_list.or (ix_tup.or ix_str)
def QJ(its:List aN) n j u:Obj.mapSeq (·.setIfInBounds j u) {cls:=.type "list",data:=.seq its.toArray n}={cls:=.type "list",data:=.seq (its.set j u).toArray n}:=by simp[Obj.mapSeq]
theorem Inv.lst{aC:List (aG×Obj)}{σ:St}{H:Hp}{s:bH}{p:aG}{xs:List V}(I:Inv X aC σ H s)(h:H p=some (.lst xs)) :
  ∃(its:List aN) (n:Nat),Vals xs its/\s.heap.get? p=some {cls:=.type "list",data:=.seq its.toArray n}/\xs.length<=sizeLine:=by
 obtain⟨z,its,n,r,e⟩:=I.hok p _ h;exact⟨its,n,r,e,z⟩
def Inv.lstUpd{its its':List aN}(I:Inv X aC σ H s)(h:H p=some (.lst xs))(ho:s.heap.get? p=some {cls:=.type "list",data:=.seq its.toArray n})(hf:f {cls:=.type "list",data:=.seq its.toArray n}={cls:=.type "list",data:=.seq its'.toArray n'})(r:Vals ys its')(hz:ys.length<=sizeLine) t :
  Inv X aC σ (upd H p (.lst ys)) {s with heap:=s.heap.update p f,toks:=t}:=by
 have e:(s.heap.update p f).get? p=some {cls:=.type "list",data:=.seq its'.toArray n'}:=by rw[eN f ho (by rw[hf]<;>rfl),hf]
 refine I.write (x:=p) (e:=p) (by rw[h];trivial) (.inl rfl) (λb u hb q=>(bU _ _ (Ne.symm hb)).trans q) ⟨_,e⟩ ?_;exact⟨hz,its',n',r,e⟩
def rSetL:V->V->V->Hp->(Hp->Prop)->Prop:=λo i v H Q=>∃p xs k j,o=.ref p/\i=.int k/\H p=some (.lst xs)/\ixN xs.length k=some j/\Q (upd H p (.lst (xs.set j v)))
def aAz:PSet X rSetL:=by
 intro aC s σ H o i v ov iv u Q I ro ri rv h;obtain⟨p,xs,k,j,rfl,rfl,hp,hj,q⟩:=h;cases ro;obtain⟨t,rfl⟩:=ri;obtain⟨its,n,r,ho,hz⟩:=I.lst hp;obtain⟨h1,h2,h3,h4⟩:=UP hj;have hl:=r.length;have hn:=tL
 have I':Inv X aC σ (upd H p (.lst (xs.set j v))) {s with heap:=s.heap.update p (Obj.mapSeq (·.setIfInBounds j u))}:=
  I.lstUpd hp ho (QJ its n j u) (r.set rv j) (by rw[List.length_set];exact hz) s.toks
 by_cases h0:0<=k
 . have hk:k.toNat=j:=by
    rw[seqIndex_of h0 h4]at h1;exact Option.some.inj h1
   exact PySem.W.ki_setAt ho h0 (by lia) (by rw[bC,<-hl];exact h4) (by rw[hk];exact⟨_,I',q⟩)
 . have hk:(k+(its.toArray.size:Int)).toNat=j:=by
    rw[ZE (by lia) h3]at h1;rw[bC,<-hl];exact Option.some.inj h1
   exact PySem.W.ki_setBack ho (by lia) (by rw[bC,<-hl];exact h3) (by lia) (by rw[hk];exact⟨_,I',q⟩)
def IF lo hi n:(nA lo hi none n).1=((HT.sIx n 0 lo:Nat):Int)/\(nA lo hi none n).2.1=((HT.sIx n n hi:Nat):Int)/\(nA lo hi none n).2.2=1:=by
 refine⟨?_,?_,rfl⟩
 . cases lo with
   |none=>simp[nA,HT.sIx]
   |some i=>
     simp only[nA,HT.sIx,VR,show(1:Int)>0 by decide,if_true];by_cases h:i<0
     . simp only[h,if_true]<;>lia
     . simp only[h,if_false]<;>lia
 . cases hi with
   |none=>simp[nA,HT.sIx]
   |some i=>
     simp only[nA,HT.sIx,VR,show(1:Int)>0 by decide,if_true];by_cases h:i<0
     . simp only[h,if_true]<;>lia
     . simp only[h,if_false]<;>lia
def EK(its:List aN) lo hi:slicePick its.toArray lo hi none=((its.drop (HT.sIx its.length 0 lo)).take (HT.sIx its.length its.length hi-HT.sIx its.length 0 lo)).toArray:=by obtain⟨h1,h2,h3⟩:=IF lo hi its.toArray.size;unfold slicePick;rw[h1,h2,h3];simp only[sliceRange_one,pick_run,bC]<;>rfl
def rSlL(K:aP):V->Option Int->Option Int->Hp->VK->Prop:=λx lo hi H Q=>∃a xs,x=.ref a/\SqL K H a xs/\∀p,H p=none->Q (.ref p) (upd H p (.lst (cutV xs lo hi)))
def sl_list:SlR X (rSlL X.K):=by intro aC s σ H x v vl vu lo hi sl Q I rx hs pl pu h;obtain⟨a,xs,rfl,hx,q⟩:=h;cases rx;obtain⟨its,r,ht,hz⟩:=I.list hx;have hlen:=r.length;refine⟨"list",_,slot_list_getitem.lookup,ht.isList.typeIs,?_⟩;refine wpAny_getItem_list_slice ht.isList hs pl pu .none (by simp) ?_ (by rw[bC]<;>lia);rw[EK,<-hlen];refine⟨.ref s.heap.objs.size,_,I.laid (λb ob q=>aD _ q) (aM _) ?_,rfl,q _ (I.hok.fresh (aM _))⟩;exact⟨cW (uL xs lo hi) hz,_,0,(r.drop (HT.sIx xs.length 0 lo)).take (HT.sIx xs.length xs.length hi-HT.sIx xs.length 0 lo),aU _ rfl⟩
noncomputable def flatV:V->Bool
 |.non=>true
 |.bl _=>true
 |.int _=>true
 |.str _=>true
 |_=>false
noncomputable def eqV:V->V->Bool
 |.non,.non=>true
 |.bl a,.bl b=>a==b
 |.bl a,.int b=>(if a then 1 else 0)==b
 |.int a,.bl b=>a==(if b then 1 else 0)
 |.int a,.int b=>a==b
 |.str a,.str b=>a==b
 |_,_=>false
def eqAt_V(ry:RelV y u)(rx:RelV x v)(fy:flatV y=true)(fx:flatV x=true):SeqAt.EqAt A s u v (eqV y x):=by
 cases y with
 |non=>
   cases ry;cases x with
   |non=>cases rx;exact SeqAt.EqAt.same _
   |bl b=>cases rx;exact SeqAt.EqAt.none_bool b
   |int b=>obtain⟨t,rfl⟩:=rx;exact SeqAt.EqAt.none_int b t
   |str b=>obtain⟨t,rfl⟩:=rx;exact SeqAt.EqAt.none_str b t
   |_=>exact absurd (fx) dQ
 |bl a=>
   cases ry;cases x with
   |non=>cases rx;exact SeqAt.EqAt.bool_none a
   |bl b=>cases rx;exact SeqAt.EqAt.bool_bool a b
   |int b=>obtain⟨t,rfl⟩:=rx;exact SeqAt.EqAt.bool_int a b t
   |str b=>obtain⟨t,rfl⟩:=rx;exact SeqAt.EqAt.bool_str a b t
   |_=>exact absurd (fx) dQ
 |int a=>
   obtain⟨t',rfl⟩:=ry;cases x with
   |non=>cases rx;exact SeqAt.EqAt.int_none a t'
   |bl b=>cases rx;exact SeqAt.EqAt.int_bool a t' b
   |int b=>obtain⟨t,rfl⟩:=rx;exact SeqAt.EqAt.int_int a t' b t
   |str b=>obtain⟨t,rfl⟩:=rx;exact SeqAt.EqAt.int_str a t' b t
   |_=>exact absurd (fx) dQ
 |str a=>
   obtain⟨t',rfl⟩:=ry;cases x with
   |non=>cases rx;exact SeqAt.EqAt.str_none a t'
   |bl b=>cases rx;exact SeqAt.EqAt.str_bool a t' b
   |int b=>obtain⟨t,rfl⟩:=rx;exact SeqAt.EqAt.str_int a t' b t
   |str b=>obtain⟨t,rfl⟩:=rx;exact SeqAt.EqAt.str_str a t' b t
   |_=>exact absurd (fx) dQ
 |_=>exact absurd (fy) dQ
noncomputable def eqU(x:V)(u:aN):Bool:=match u with
 |.none=>eqV .non x
 |.bool b=>eqV (.bl b) x
 |.int i _=>eqV (.int i) x
 |.str z _=>eqV (.str z) x
 |_=>false
def aEt(r:RelV y u)(f:flatV y=true):eqU x u=eqV y x:=by
 cases y with
 |non=>cases r;rfl
 |bl b=>cases r;rfl
 |int i=>obtain⟨t,rfl⟩:=r;rfl
 |str z=>obtain⟨t,rfl⟩:=r;rfl
 |_=>exact absurd (f) dQ
theorem JT:∀{xs:List V}{us:List aN},Vals xs us->xs.all flatV=true->us.any (eqU x)=xs.any λy=>eqV y x
 |_,_,.nil,_=>rfl
 |y::xs,u::us,.cons r t,f=>by rw[sI,bV]at f;rw[iR,iR,aEt r f.1,JT t f.2]
theorem CG(rx:RelV x v)(fx:flatV x=true):∀{xs:List V}{us:List aN},Vals xs us->xs.all flatV=true->∀u∈us,SeqAt.EqAt A s u v (eqU x u)
 |_,_,.nil,_=>λu hu=>by cases hu
 |y::xs,u::us,.cons r t,f=>λu' hu=>by
   rw[sI,bV]at f;rcases aB.mp hu with rfl|hu
   . rw[aEt r f.1];exact eqAt_V r rx f.1 fx
   . exact CG rx fx t f.2 u' hu
noncomputable def inV(x:V)(xs:List V):Bool:=xs.any λy=>eqV y x
noncomputable def rIn(K:aP)(neg:Bool):R2:=λx y H Q=>∃p xs,y=.ref p/\(SqL K H p xs\/SqT K H p xs)/\flatV x=true/\xs.all flatV=true/\Q (.bl (if neg then !inV x xs else inV x xs)) H
def WV:OpR X (eC .In) (rIn X.K false):=by
 intro aC s σ H x y v u Q I rx ry h;obtain⟨p,xs,rfl,hq,fx,fs,q⟩:=h;cases ry;rcases hq with hq|hq
 . obtain⟨its,r,pl,hz⟩:=I.list hq;refine SeqAt.in_listAt (eqU x) pl.isList (λw hw=>CG rx fx r fs w (by simpa using hw)) ⟨.bl _,H,I,rfl,?_⟩;rw[show its.toArray.any (eqU x)=its.any (eqU x) by simp,JT r fs];exact q
 . obtain⟨its,r,pl,hz⟩:=I.tuple hq;refine SeqAt.in_tupleAt (eqU x) pl (λw hw=>CG rx fx r fs w (by simpa using hw)) ⟨.bl _,H,I,rfl,?_⟩;rw[show its.toArray.any (eqU x)=its.any (eqU x) by simp,JT r fs];exact q
def JP:CallR X (.builtin "len") (λxs H Q=>∃p ys,xs=[.ref p]/\(SqL X.K H p ys\/SqT X.K H p ys)/\Q (.int ys.length) H):=by
 intro aC s σ H xs us Q I r h;obtain⟨p,ys,rfl,hq,q⟩:=h;obtain⟨u,rfl,rx⟩:=vals1 r;cases rx;have hn:=tL;rcases hq with hq|hq
 . obtain⟨its,r',pl,hz⟩:=I.list hq;have hlen:=r'.length;exact Calls.call_len_list pl.isList (by simp[bC]<;>lia) ⟨.int ys.length,H,I.tok _,⟨s.toks+1,by rw[bC,hlen]⟩,q⟩
 . obtain⟨its,r',pl,hz⟩:=I.tuple hq;have hlen:=r'.length;exact len_tuple pl (by simp[bC]<;>lia) ⟨.int ys.length,H,I.tok _,⟨s.toks+1,by rw[bC,hlen]⟩,q⟩
def JO:CallR X (.builtin "len") (λxs H Q=>∃z,xs=[.str z]/\z.length<=sizeLine/\Q (.int z.length) H):=by intro aC s σ H xs us Q I r h;obtain⟨z,rfl,hz,q⟩:=h;obtain⟨u,rfl,t,rfl⟩:=vals1 r;have hn:=tL;exact len_str (by lia) ⟨.int z.length,H,I.tok _,⟨_,rfl⟩,q⟩
def CallR.or(h:CallR X f r)(h':CallR X f r'):CallR X f (λxs H Q=>r xs H Q\/r' xs H Q):=by
 intro aC s σ H xs us Q I rs q;rcases q with q|q
 . exact h aC s σ H xs us Q I rs q
 . exact h' aC s σ H xs us Q I rs q
def JN:CallR X (.type "list") (λxs H Q=>∃p ys,xs=[.ref p]/\(SqL X.K H p ys\/SqT X.K H p ys)/\∀l,H l=none->Q (.ref l) (upd H l (.lst ys))):=by
 intro aC s σ H xs us Q I r h;obtain⟨p,ys,rfl,hq,q⟩:=h;obtain⟨u,rfl,rx⟩:=vals1 r;cases rx
 have fin:∀(its:List aN),Vals ys its->ys.length<=sizeLine->∀(h':Heap) (c':Nat),(∀b o',s.heap.get? b=some o'->h'.get? b=some o') →
   h'.get? s.heap.objs.size=some {cls:=.type "list",dict:=none,data:=.seq its.toArray c',slots:=#[]}->EP X aC σ Q (.ref s.heap.objs.size) {s with heap:=h'}:=λits r' hz h' c' kp e =>
  ⟨.ref s.heap.objs.size,_,I.laid kp (aM _) (show ObjOk X.prog X.w _ h' _ (.lst ys) from ⟨hz,its,c',r',e⟩),rfl,q _ (I.hok.fresh (aM _))⟩
 rcases hq with hq|hq
 . obtain⟨its,r',pl,hz⟩:=I.list hq;have hlen:=r'.length;obtain⟨o,ho,hc,n,hd⟩:=pl.isList;exact call_list_seq p (.inl rfl) ho hc hd (λh' c' kp e=>fin its r' hz h' c' kp e) (by simp[bC]<;>lia)
 . obtain⟨its,r',pl,hz⟩:=I.tuple hq;have hlen:=r'.length;obtain⟨o,ho,hc,n,hd⟩:=pl;exact call_list_seq p (.inr rfl) ho hc hd (λh' c' kp e=>fin its r' hz h' c' kp e) (by simp[bC]<;>lia)
def tyV(K:aP)(T:String)(x:V)(H:Hp):Prop:=match x with
 |.str _=>T = "str"
 |.int _=>T = "int"
 |.ref p=>(T = "list"/\∃xs,SqL K H p xs)\/(T = "tuple"/\∃o,K.lookup p=some o/\o.cls=.type "tuple"/\o.dict=none) ∨
    (T = "dict"/\((∃kvs,H p=some (.dK kvs))\/∃kvs,H p=some (.dT kvs)))\/(T = "set"/\∃S n,H p=some (.set S n))
 |_=>False
def tyV_is(I:Inv X aC σ H s)(r:RelV x v)(ty:tyV X.K T x H) :
  s.TypeIs v T/\∀a,v=.ref a->∃ob,s.heap.get? a=some ob/\ob.dict=none:=by
 cases x with
 |str z=>obtain⟨t,rfl⟩:=r;cases(ty);exact⟨typeIs_str s z t,λ_ e=>nomatch e⟩
 |int i=>obtain⟨t,rfl⟩:=r;cases(ty);exact⟨typeIs_int s i t,λ_ e=>nomatch e⟩
 |ref p=>
   cases r;rcases ty with⟨rfl,xs,hq⟩|⟨rfl,o,hk,hc,hd⟩|⟨rfl,hk⟩|⟨rfl,S,n,hk⟩
   . obtain⟨its,_,pl,_⟩:=I.list hq;refine⟨pl.isList.typeIs,λa e=>?_⟩;cases e;obtain⟨o,n,e,c,hd,_⟩:=pl;exact⟨o,e,hd⟩
   . refine⟨⟨o,I.kIn p o hk,hc⟩,λa e=>?_⟩;cases e;exact⟨o,I.kIn _ o hk,hd⟩
   . have z:∃o,s.heap.get? p=some o/\o.ExactDict:=by
      rcases hk with⟨kvs,hk⟩|⟨kvs,hk⟩
      . obtain⟨_,_,_,_,o,_,_,e,ex,_⟩:=I.hok p _ hk;exact⟨o,e,ex⟩
      . obtain⟨_,_,_,_,o,_,_,e,ex,_⟩:=I.hok p _ hk;exact⟨o,e,ex⟩
     obtain⟨o,e,ex⟩:=z;refine⟨⟨o,e,ex.1⟩,λa e2=>?_⟩;cases e2;exact⟨o,e,ex.2.1⟩
   . obtain⟨o,_,_,_,e,ex,_⟩:=I.hok p _ hk;refine⟨⟨o,e,ex.1⟩,λa e2=>?_⟩;cases e2;exact⟨o,e,ex.2.1⟩
 |_=>exact False.elim ty
def tBM(K:aP)(T:String)(r:V->List V->Hp->VK->Prop)(to:TE)(t:TA):TE:=λσ H Q=>to σ H λx H1=>tyV K T x H1/\t σ H1 λxs H2=>r x xs H2 Q
variable{T id:String}
def TY(pa:PlainAttrs T)(slot:Slot T name id)(hty:typeOf (.builtin id)=pure (.type "method_descriptor"))(hm:MtR X id r)(ho:PE X o to)(ha:PA X (e::es) t)(hbase:fA o name X.env (cI o X.env)=cI o X.env:=by rfl)(hfew:((dS cpos (aK (e::es) X.env)).all (λx=>!x.1)&&(lQ cpos (gA [] X.env)).all (λx=>x.1.isSome)
    && decide ((e::es).length+([]:List oW).length+(if ([]:List oW).isEmpty then 0 else 1)<30))=true:=by rfl)(hline:(apos.endLine==cpos.line)=true:=by rfl)(hs:aK (e::es) X.env=(false,cI e X.env)::aK es X.env:=by rfl)(hplain:(dS cpos (aK es X.env)).any (·.1)=false:=by rfl) :
  PE X (.Call (.Attribute o name apos) (e::es) [] cpos) (tBM X.K T r to t):=by
 intro aC s σ H Q I h;refine wpAny_Call_method_late hbase hfew hline rfl (thn (ho aC s σ H _ I h) λv s1 zq=>?_);obtain⟨x,H1,I1,r1,ty,q1⟩:=zq;obtain⟨h1,h2⟩:=tyV_is I1 r1 ty;refine⟨T,id,pa,slot,hty,h1,h2,?_⟩;have hA:=ha cpos aC s1 σ H1 _ I1 q1;rw[hs]at hA ⊢;refine Calls.callWith_builtin (by show(false||(dS cpos (aK es X.env)).any (·.1))=false;rw[hplain]<;>rfl) (Calls.evalArgs_plain ?_);exact thn hA λus s2 ⟨vs,H2,I2,r2,q2⟩=>hm aC s2 σ H2 x vs v us Q I2 r1 r2 q2
/- xs.append(e),list.index on a module's tuple .. are MtR facts of 06m -/
end
def MtM(X:Cx)(id:String)(r:V->List V->Hp->VK->Prop):Prop:=
 ∀(aC:List (aG×Obj)) (s:bH) (σ:St) (H:Hp) (x:V) (xs:List V) (v:aN) (us:List aN) (Q:VK),Inv X aC σ H s->RelV x v->Vals xs us->r x xs H Q →
  bL (aZ X.prog X.w) X.A (call (.builtin id) (v::us)) (EP X aC σ Q) X.xe s
theorem Vals.one:∀{x:V}{us:List aN},Vals [x] us->∃u,us=[u]/\RelV x u
 |_,_,.cons r .nil=>⟨_,rfl,r⟩
theorem Vals.reverse(h:Vals xs us):Vals xs.reverse us.reverse:=by
 induction h with
 |nil=>exact .nil
 |cons r t ih=>rw[ZK,ZK];exact Vals.append ih (.cons r .nil)
def Inv.lset{its its':List aN}(I:Inv X aC σ H s)(hH:H l=some (.lst xs))(e:s.heap.get? l=some {cls:=.type "list",data:=.seq its.toArray n})(hf:f its.toArray=its'.toArray)(hv:Vals ys its')(hz:ys.length<=sizeLine) :
  Inv X aC σ (upd H l (.lst ys)) {s with heap:=s.heap.update l (Obj.mapSeq f),toks:=t'}:=by
 have q:=PySem.IsL.update e f;rw[hf]at q;refine I.write (by rw[hH];exact trivial) (.inl rfl) (λb' u hb hu=>(bU s.heap (Obj.mapSeq f) (Ne.symm hb)).trans hu) ⟨_,q⟩ ?_;exact⟨hz,its',_,hv,q⟩
def Inv.lnew(I:Inv X aC σ H s)(hv:Vals ys its)(hz:ys.length<=sizeLine) :
  Inv X aC σ (upd H s.heap.objs.size (.lst ys)) {s with heap:=s.heap.push {cls:=.type "list",data:=.seq its.toArray},toks:=t'}:=
 I.laid (λ_ _ q=>aD _ q) (aM _) ⟨hz,its,0,hv,aU _ rfl⟩
theorem Inv.fresh(I:Inv X aC σ H s):H s.heap.objs.size=none:=I.hok.fresh (aM _)
def Inv.lstM(I:Inv X aC σ H s)(hH:H l=some (.lst xs)):xs.length<=sizeLine/\∃its n,Vals xs its/\xs.length=its.length/\s.heap.get? l=some {cls:=.type "list",data:=.seq its.toArray n}:=by obtain⟨z,its,n,r,e⟩:=I.hok l _ hH;exact⟨z,its,n,r,r.length,e⟩
def aDc(h:n<=sizeLine):Builtin.List.listTooLong n=false:=by exact decide_eq_false (by lia)
def rAppend:V->List V->Hp->VK->Prop:=λx vs H Q=>∃l xs y,x=.ref l/\vs=[y]/\H l=some (.lst xs)/\xs.length<sizeLine/\Q .non (upd H l (.lst (xs++[y])))
def GY:MtM X "list.append" rAppend:=by
 intro aC s σ H x vs v us Q I rx rv h;obtain⟨l,xs,y,rfl,rfl,hH,hz,q⟩:=h;cases rx;obtain⟨u,rfl,ru⟩:=rv.one;obtain⟨z,its,n,r,hl,e⟩:=I.lstM hH;refine call_meets F.slot_list_append ⟨_,e,rfl⟩ F.entry_list_append (F.args_list_append_2 _ _) (PySem.list_append l its.toArray n u (by rw[bC];lia)) ⟨e,?_⟩;refine⟨.non,_,I.lset hH e (by simp) (r.append (.cons ru .nil)) ?_,rfl,q⟩;rw[bX,pL]
 lia
def rExtend:V->List V->Hp->VK->Prop:=λx vs H Q=>∃l b xs zs,x=.ref l/\vs=[.ref b]/\H l=some (.lst xs)/\H b=some (.lst zs)/\xs.length+zs.length<=sizeLine/\Q .non (upd H l (.lst (xs++zs)))
def XH:MtM X "list.extend" rExtend:=by
 intro aC s σ H x vs v us Q I rx rv h;obtain⟨l,b,xs,zs,rfl,rfl,hH,hB,hz,q⟩:=h;cases rx;obtain⟨u,rfl,ru⟩:=rv.one;cases ru;obtain⟨z,its,n,r,hl,e⟩:=I.lstM hH;obtain⟨z2,its2,n2,r2,hl2,e2⟩:=I.lstM hB;have hsz:its.toArray.size+its2.toArray.size<=sizeLine:=by rw[bC,bC];lia
 have hlong:¬(!its.toArray.isEmpty&&Builtin.List.listTooLong (its.toArray.size+its2.toArray.size))=true:=by rw[aDc hsz,Bool.and_false];exact dQ
 refine call_meets F.slot_list_extend ⟨_,e,rfl⟩ F.entry_list_extend (F.args_list_extend_2 _ _)
  (AutoSeq1.list_extend_list_list_0 l its.toArray n b its2.toArray n2 hlong (by rw[bC];lia) (by lia)) ⟨e,e2,?_⟩
 refine⟨.non,_,I.lset hH e (by simp) (r.append r2) ?_,rfl,q⟩;rw[bX]
 lia
section
variable{κ:Type}[DecidableEq κ]
noncomputable def valV(kvs:List (κ×V))(k:κ):Option V:=(kvs.find? λkv=>decide (kv.1=k)).map (·.2)
noncomputable def putK(kvs:List (κ×V))(k:κ)(v:V):List (κ×V):=
 if (kvs.any λkv=>decide (kv.1=k))=true then kvs.map (λkv=>if kv.1=k then (kv.1,v)else kv)else kvs++[(k,v)]
def vA{k:κ}(e:p.1=k):valV (p::r) k=some p.2:=by simp[valV,cK,e]
def BA{k:κ}(e:¬p.1=k):valV (p::r) k=valV r k:=by simp[valV,cK,e]
theorem BC(k:κ):∀kvs,(kvs.any λkv=>decide (kv.1=k))=(valV kvs k).isSome
 |[]=>rfl
 |p::r=>by
   rw[iR];by_cases e:p.1=k
   . simp only[vA e,decide_eq_true e,Bool.true_or,Option.isSome_some]
   . rw[BA e,decide_eq_false e,Bool.false_or];exact BC k r
def uF kvs(k:κ) v:(putK kvs k v).length<=kvs.length+1:=by
 unfold putK;split
 . rw[cD];lia
 . rw[bX,aH,mN];lia
def vD{k:κ} v(h:valV kvs k=none):putK kvs k v=kvs++[(k,v)]:=by unfold putK;rw[BC,h];exact if_neg (by decide)
def RelO.isSome_eq(r:RelO o u):o.isSome=u.isSome:=by
 cases o with
 |none=>cases u with
   |none=>rfl
   |some _=>exact(r).elim
 |some _=>cases u with
   |none=>exact(r).elim
   |some _=>rfl
theorem RelO.getD(r:RelO o u)(rd:RelV d d'):RelV (o.getD d) (u.getD d'):=by
 cases o with
 |none=>cases u with
   |none=>exact rd
   |some _=>exact(r).elim
 |some _=>cases u with
   |none=>exact(r).elim
   |some _=>exact r
def KV.val(r:KV kvs vs)(k:κ):RelO (valV kvs k) (JZ vs k):=by
 induction r with
 |nil=>exact True.intro
 |@cons p q ps qs h t ih=>
   obtain⟨h1,h2⟩:=h;by_cases e:p.1=k
   . have e':q.1=k:=h1.symm.trans e;have b:JZ (q::qs) k=some q.2:=by simp [JZ,cK,e']
     rw[vA e,b];exact h2
   . have e':¬ q.1=k:=λz=>e (h1.trans z);have b:JZ (q::qs) k=JZ qs k:=by simp [JZ,cK,e']
     rw[BA e,b];exact ih
theorem KV.any(r:KV kvs vs)(k:κ):(kvs.any λkv=>decide (kv.1=k))=vs.any λkv=>decide (kv.1=k):=by
 induction r with
 |nil=>rfl
 |cons h t ih=>rw[iR,iR,ih,h.1]
def KV.repl(r:KV kvs vs)(k:κ)(ry:RelV y u) :
  KV (kvs.map λkv=>if kv.1=k then (kv.1,y)else kv) (vs.map λkv=>if kv.1=k then (kv.1,u)else kv):=by
 induction r with
 |nil=>exact .nil
 |@cons p q ps qs h t ih=>
   rw[aQ,aQ];refine .cons ?_ ih;obtain⟨h1,h2⟩:=h;by_cases e:p.1=k
   . rw[if_pos e,if_pos (h1.symm.trans e)];exact⟨h1,ry⟩
   . rw[if_neg e,if_neg (λz=>e (h1.trans z))];exact⟨h1,h2⟩
def KV.put(r:KV kvs vs)(k:κ)(ry:RelV y u):KV (putK kvs k y) (stored vs k u):=by
 unfold putK stored;rw[r.any k];by_cases e:(vs.any λkv=>decide (kv.1=k))=true
 . rw[if_pos e,if_pos e];exact r.repl k ry
 . rw[if_neg e,if_neg e];exact AG.snoc r ⟨rfl,ry⟩
theorem KV.length{kvs:List (κ×V)}(r:KV kvs vs):kvs.length=vs.length:=AG.length r
end
def MN(r:RelV (kV k) u):(fN P w).is k u=true:=by
 rcases k with(_|i)|x
 . cases(r);rfl
 . obtain⟨t,rfl⟩:=(r);simp[fN,keyIs,aN.isInt]
 . obtain⟨t,rfl⟩:=(r);simp[fN,keyIs,aN.isStrOf]
theorem HH:∀{ks:List Key}{us:List aN},Vals (ks.map kV) us->ItemsAre (fN P w) ks us
 |[],_,r=>by rw[cR]at r;cases r;exact .nil
 |k::ks,_,r=>by
   rw[aQ]at r;cases r with
   |cons h t=>exact .cons (MN h) (HH t)
abbrev KT(H:Hp):List (List Key×V)->List (List Key×aG×aN)->Prop:=AG λp q=>p.1=q.1/\H q.2.1=some (.tup (p.1.map kV))/\RelV p.2 q.2.2
def KT.val(r:KT H kvs xs) k:RelO (valV kvs k) ((VP xs k).map (·.2)):=by
 induction r with
 |nil=>exact True.intro
 |@cons p q ps qs h t ih=>
   obtain⟨h1,_,h2⟩:=h;by_cases e:p.1=k
   . have e':q.1=k:=h1.symm.trans e;have b:VP (q::qs) k=some q.2:=by simp [VP,cK,e']
     rw[vA e,b];exact h2
   . have e':¬ q.1=k:=λz=>e (h1.trans z);have b:VP (q::qs) k=VP qs k:=by simp [VP,cK,e']
     rw[BA e,b];exact ih
def KT.repl(r:KT H kvs xs) k(ry:RelV y u) :
  KT H (kvs.map λkv=>if kv.1=k then (kv.1,y)else kv) (xs.map (putAt k u)):=by
 induction r with
 |nil=>exact .nil
 |@cons p q ps qs h t ih=>
   rw[aQ,aQ];refine .cons ?_ ih;obtain⟨h1,h2,h3⟩:=h;unfold putAt;by_cases e:p.1=k
   . rw[if_pos e,if_pos (h1.symm.trans e)];exact⟨h1,h2,ry⟩
   . rw[if_neg e,if_neg (λz=>e (h1.trans z))];exact⟨h1,h2,h3⟩
def KT.put(r:KT H kvs xs) k(hb:H b=some (.tup (k.map kV)))(ry:RelV y u) :
  KT H (putK kvs k y) (storedH xs k b u):=by
 have e:(kvs.any λkv=>decide (kv.1=k))=(VP xs k).isSome:=by rw[BC,(r.val k).isSome_eq,sL]
 unfold putK storedH;rw[e];by_cases q:(VP xs k).isSome=true
 . rw[if_pos q,if_pos q];exact r.repl k ry
 . rw[if_neg q,if_neg q];exact AG.snoc r ⟨rfl,hb,ry⟩
def KT.keeps(r:KT H kvs xs)(ht:∀b ys,H b=some (.tup ys)->H' b=some (.tup ys)):KT H' kvs xs:=
 AG.mapP r λ_ _ z=>⟨z.1,ht _ _ z.2.1,z.2.2⟩
def rd_of(ok:HOk P w H h)(e:Rd H a u):ObjOk P w H h a u:=e.ok ok
def NC(ok:HOk P w H h)(e:Rd H a (.dK kvs)):kvs.length<=sizeLine/\(a==kX)=false/\∃vs,KV kvs vs/\h.DictOf (fN P w) a vs:=
 show ObjOk P w H h a (.dK kvs) from rd_of ok e
def dk_of(ok:HOk P w H h)(e:H a=some (.dK kvs)):kvs.length<=sizeLine/\(a==kX)=false/\∃vs,KV kvs vs/\h.DictOf (fN P w) a vs:=NC ok (.inl e)
def CJ(ok:HOk P w H h)(e:H a=some (.tup (ks.map kV))):(EW (fN P w)).is h ks a:=by
 obtain⟨_,its,r,o,h1,h2,n,h3⟩:=(ok a _ e)
 exact⟨o,its.toArray,n,h1,h2,h3,by simpa using HH r⟩
def NB(ok:HOk P w H h)(e:Rd H a (.dT kvs)):kvs.length<=sizeLine/\(a==kX)=false ∧
  ∃xs,KT H kvs xs/\h.DictOfH (EW (fN P w)) a xs:=by
 obtain⟨z,y,xs,r,o,es,ep,h1,h2,h3,h4,h5⟩:=(rd_of ok e)
 refine⟨z,y,xs,r,o,es,ep,h1,h2,h3,h4,λx hx=>?_,h5⟩;have all:∀{l:List (List Key×V)}{m:List (List Key×aG×aN)},KT H l m->∀x∈m,(EW (fN P w)).is h x.1 x.2.1:=by
  intro l m q;induction q with
  |nil=>intro x hx;exact nomatch hx
  |@cons p q ps qs hq t ih=>
    intro x hx;rcases aB.mp hx with e|hx
    . subst e;exact CJ ok (by rw[<-hq.1];exact hq.2.1)
    . exact ih x hx
 exact all r x hx
def dt_of(ok:HOk P w H h)(e:H a=some (.dT kvs)):kvs.length<=sizeLine/\(a==kX)=false ∧
  ∃xs,KT H kvs xs/\h.DictOfH (EW (fN P w)) a xs:=NB ok (.inl e)
def DGet(H:Hp)(a:aG)(y:V)(r:Option V):Prop:=
 (∃kvs k,Rd H a (.dK kvs)/\y=kV k/\r=valV kvs k)\/∃kvs k b,Rd H a (.dT kvs)/\y=.ref b/\H b=some (.tup (k.map kV))/\r=valV kvs k
def DPut(H:Hp)(a:aG)(y v:V)(H':Hp):Prop:=
 (∃kvs k,H a=some (.dK kvs)/\y=kV k/\kvs.length<sizeLine/\H'=upd H a (.dK (putK kvs k v))) ∨
 ∃kvs k b,H a=some (.dT kvs)/\y=.ref b/\H b=some (.tup (k.map kV))/\kvs.length<sizeLine/\H'=upd H a (.dT (putK kvs k v))
def DGet.t{k:List Key}(e:H a=some (.dT kvs))(eb:H b=some (.tup (k.map kV))):DGet H a (.ref b) (valV kvs k):=.inr ⟨kvs,k,b,.inl e,rfl,eb,rfl⟩
theorem DPut.k{k:Key}(e:H a=some (.dK kvs))(hl:kvs.length<sizeLine):DPut H a (kV k) v (upd H a (.dK (putK kvs k v))):=.inl ⟨kvs,k,e,rfl,hl,rfl⟩
def DPut.t{k:List Key}(e:H a=some (.dT kvs))(eb:H b=some (.tup (k.map kV)))(hl:kvs.length<sizeLine) :
  DPut H a (.ref b) v (upd H a (.dT (putK kvs k v))):=.inr ⟨kvs,k,b,e,rfl,eb,hl,rfl⟩
def Inv.big(I:Inv X aC σ H s):kX<s.heap.objs.size:=by have h:=(I.mod.glob.keeps I.bk).lt;exact NV (by decide) h
def YS(hu:A.units+1<cLine)(I:Inv X aC σ H s)(g:DGet H a y (some v))(ry:RelV y u)(h:∀w' s',Inv X aC σ H s'->RelV v w'->Q w' s') :
  bL (aZ X.prog X.w) A (oU (.ref a) u) Q E s:=by
 rcases g with⟨kvs,k,e,ey,l⟩|⟨kvs,k,b,e,ey,eb,l⟩
 . subst ey;obtain⟨z,hd,vs,rel,dd⟩:=NC I.hok e;obtain⟨w',hw,rw'⟩:=RelO.some_of (by rw[l];exact rel.val k);exact wpAny_getItem_of (MN ry) dd.mapOf hw (h w' _ (I.tok _) rw')
 . subst ey;cases(ry);obtain⟨z,hd,xs,rel,dd⟩:=NB I.hok e;obtain⟨w',hw,rw'⟩:=RelO.some_of (by rw[l];exact rel.val k);obtain⟨p,hp,hp2⟩:=HZ.mp hw;refine wpAny_getItem_heap (nX hu) (CJ I.hok eb) dd hp ?_;rw[hp2];exact h w' _ (I.tok _) rw'
def d_in(hu:A.units+1<cLine)(I:Inv X aC σ H s)(g:DGet H a y o)(ry:RelV y u)(h:∀s',Inv X aC σ H s'->Q (.bool o.isSome) s') :
  bL (aZ X.prog X.w) A (eC .In u (.ref a)) Q E s:=by
 rcases g with⟨kvs,k,e,ey,l⟩|⟨kvs,k,b,e,ey,eb,l⟩
 . subst ey;obtain⟨z,hd,vs,rel,dd⟩:=NC I.hok e;refine wpAny_in_of (MN ry) hd dd.mapOf ?_;rw[<-(rel.val k).isSome_eq,<-l];exact h _ (I.tok _)
 . subst ey;cases(ry);obtain⟨z,hd,xs,rel,dd⟩:=NB I.hok e;refine wpAny_in_heap (nX hu) (CJ I.hok eb) hd dd ?_;have q:=(rel.val k).isSome_eq;rw[sL]at q;rw[<-q,<-l];exact h _ (I.tok _)
def d_notIn(hu:A.units+1<cLine)(I:Inv X aC σ H s)(g:DGet H a y o)(ry:RelV y u)(h:∀s',Inv X aC σ H s'->Q (.bool (!o.isSome)) s') :
  bL (aZ X.prog X.w) A (eC .NotIn u (.ref a)) Q E s:=by
 rcases g with⟨kvs,k,e,ey,l⟩|⟨kvs,k,b,e,ey,eb,l⟩
 . subst ey;obtain⟨z,hd,vs,rel,dd⟩:=NC I.hok e;refine wpAny_notIn_of (MN ry) hd dd.mapOf ?_;rw[<-(rel.val k).isSome_eq,<-l];exact h _ (I.tok _)
 . subst ey;cases(ry);obtain⟨z,hd,xs,rel,dd⟩:=NB I.hok e;refine wpAny_notIn_heap (nX hu) (CJ I.hok eb) hd dd ?_;have q:=(rel.val k).isSome_eq;rw[sL]at q;rw[<-q,<-l];exact h _ (I.tok _)
def JJ(I:Inv X aC σ H s)(mu:Mut (H a))(hs:Heap.SameBut a s.heap h')(he:∃q,h'.get? a=some q)(new:ObjOk X.prog X.w (upd H a ob) h' a ob) :
  Inv X aC σ (upd H a ob) {s with heap:=h',toks:=t'}:=
 I.write mu (.inl rfl) (λb q hb z=>(hs.2 b hb).trans z) he new
def dk_new(z:kvs.length<=sizeLine)(hd:(a==kX)=false)(rel:KV kvs vs)(dd:h'.DictOf (fN P w) a vs) :
  ObjOk P w H' h' a (.dK kvs):=⟨z,hd,vs,rel,dd⟩
def YR(hu:A.units+1<cLine)(I:Inv X aC σ H s)(g:DPut H a y v H')(ry:RelV y u)(rv:RelV v r)(h:∀s',Inv X aC σ H' s'->Q () s') :
  bL (aZ X.prog X.w) A (setItem (.ref a) u r) Q E s:=by
 rcases g with⟨kvs,k,e,ey,l,eH⟩|⟨kvs,k,b,e,ey,eb,l,eH⟩
 . subst ey eH;obtain ⟨z,hd,vs,rel,dd⟩:=dk_of I.hok e;have hz:vs.length<=sizeLine:=by rw [<-rel.length];exact z
   have hl:(putK kvs k v).length<=sizeLine:=by have:=uF kvs k v;lia
   refine wpAny_setItem_pairs (MN ry) dd λh' dd' hs=>h _ ?_;have he:∃q,h'.get? a=some q:=let ⟨q,_,_,hq,_⟩:=dd';⟨q,hq⟩;exact JJ I (by rw[e];exact True.intro) hs he (dk_new hl hd (rel.put k rv) dd')
 . subst ey eH;cases (ry);obtain ⟨z,hd,xs,rel,dd⟩:=dt_of I.hok e;have hz:xs.length<=sizeLine:=by rw [<-AG.length rel];exact z
   have hl:(putK kvs k v).length<=sizeLine:=by have:=uF kvs k v;lia
   refine wpAny_setItem_heap (nX hu) (CJ I.hok eb) dd λh' dd' hs=>h _ ?_;obtain⟨q,es,ep,hq,h2,h3,h4,_,h5⟩:=dd';refine JJ I (by rw[e];exact True.intro) hs ⟨q,hq⟩ ⟨hl,hd,_,(rel.put k eb rv).keeps λc ys ec=>?_,q,es,ep,hq,h2,h3,h4,h5⟩;rw[upd_ne (ne_of ec e (λz=>nomatch z))];exact ec
def NoSl(i:Expr):Prop:=∀ov iv,HX i false ov iv=operate [ov,iv] (oU ov iv)
def subD_of{T id:String}(hl:typeLookup (.type T) "__getitem__" = pure (some (.builtin id)))(hs:NoSl slice)(h:bL (aZ prog w) A (cI value env) (λo s₁=>bL (aZ prog w) A (cI slice env) (λi s₂=>s₂.TypeIs o T/\bL (aZ prog w) A (oU o i) Q E s₂) E s₁) E s) :
  bL (aZ prog w) A (cI (.Subscript value slice pos) env) Q E s:=by
 refine Subscript_ (eA h (λo s₁ h₁=>eA h₁ (λi s₂ h₂=>?_) λ_ _ x=>x) λ_ _ x=>x);obtain⟨hT,h₂⟩:=h₂;refine aA ?_;refine aA (sA hT hl ?_);have fin:bL (aZ prog w) A (HX slice false o i) (λr s₃=>bL (aZ prog w) A (letTemporaryGo value o r >>= λ_=>pure r) Q E s₃) E s₂:=by rw[hs o i];exact wpAny_operating (eA h₂ (λr s₃ h₃=>aA (wpAny_letTemporaryGo (aJ h₃))) λ_ _ x=>x)
 first
  |exact aJ (aA fin)
  |exact aA (aJ (aA fin))
  |exact aA fin
def NE(I:Inv X aC σ H s)(g:DGet H a y o):s.TypeIs (.ref a) "dict":=by
 rcases g with⟨kvs,k,e,_,_⟩|⟨kvs,k,b,e,_,_,_⟩
 . obtain⟨_,_,vs,_,dd⟩:=NC I.hok e;exact dd.typeIs
 . obtain⟨_,_,xs,_,dd⟩:=NB I.hok e;exact dd.typeIs
def tDGet(td ty:TE):TE:=λσ H Q=>td σ H λx H1=>ty σ H1 λy H2=>∃a v,x=.ref a/\DGet H2 a y (some v)/\Q v H2
def tDIn(ty td:TE):TE:=λσ H Q=>ty σ H λy H1=>td σ H1 λx H2=>∃a o,x=.ref a/\DGet H2 a y o/\Q (.bl o.isSome) H2
def tDNotIn(ty td:TE):TE:=λσ H Q=>ty σ H λy H1=>td σ H1 λx H2=>∃a o,x=.ref a/\DGet H2 a y o/\Q (.bl (!o.isSome)) H2
def sDPut(td ty tv:TE):TS:=λD σ H=>tv σ H λv H1=>td σ H1 λx H2=>ty σ H2 λy H3=>∃a H4,x=.ref a/\DPut H3 a y v H4/\D.nx σ H4
def pe_dget(hu:X.A.units+1<cLine)(ho:PE X o td)(hi:PE X i ty)(hs:NoSl i):PE X (.Subscript o i pos) (tDGet td ty):=by intro aC s σ H Q I h;refine subD_of PySem.F.slot_dict_getitem.lookup hs (thn (ho aC s σ H _ I h) λu s1 ⟨x,H1,I1,rx,q1⟩=>thn (hi aC s1 σ H1 _ I1 q1) λiv s2 zq=>?_);obtain⟨y,H2,I2,ry,a,v,ex,g,q2⟩:=zq;subst ex;obtain rfl:u=aN.ref a:=rx;exact⟨NE I2 g,YS hu I2 g ry λw' s3 I3 rw'=>⟨v,H2,I3,rw',q2⟩⟩
def pc_din(hu:X.A.units+1<cLine)(hi:PE X i ty)(ho:PE X o td):PC X .In i o (tDIn ty td):=by intro aC s σ H Q I h;refine thn (hi aC s σ H _ I h) λiv s1 ⟨y,H1,I1,ry,q1⟩=>thn (ho aC s1 σ H1 _ I1 q1) λu s2 zq=>?_;obtain⟨x,H2,I2,rx,a,ov,ex,g,q2⟩:=zq;subst ex;obtain rfl:u=aN.ref a:=rx;exact d_in hu I2 g ry λs3 I3=>⟨.bl ov.isSome,H2,I3,rfl,q2⟩
def WR(hu:X.A.units+1<cLine)(hi:PE X i ty)(ho:PE X o td):PC X .NotIn i o (tDNotIn ty td):=by intro aC s σ H Q I h;refine thn (hi aC s σ H _ I h) λiv s1 ⟨y,H1,I1,ry,q1⟩=>thn (ho aC s1 σ H1 _ I1 q1) λu s2 zq=>?_;obtain⟨x,H2,I2,rx,a,ov,ex,g,q2⟩:=zq;subst ex;obtain rfl:u=aN.ref a:=rx;exact d_notIn hu I2 g ry λs3 I3=>⟨.bl (!ov.isSome),H2,I3,rfl,q2⟩
def TM(hu:X.A.units+1<cLine)(ho:PE X o td)(hi:PE X i ty)(hv:PE X value tv)(hs:eM value (some (.Subscript o i pos')) pos.line X.env=pure false) :
  PS X (.Assign [.Subscript o i pos'] value pos) (sDPut td ty tv):=by
 intro aC s σ H D I h;refine wpAny_Assign_Subscript (thn (hv aC s σ H _ I h) λr s1 ⟨v,H1,I1,rv,q1⟩=>thn (ho aC s1 σ H1 _ I1 q1) λu s2 ⟨x,H2,I2,rx,q2⟩=>thn (hi aC s2 σ H2 _ I2 q2) λiv s3 zq=>?_) hs;obtain⟨y,H3,I3,ry,a,H4,ex,g,q3⟩:=zq;subst ex;obtain rfl:u=aN.ref a:=rx;exact YR hu I3 g ry rv λs4 I4=>⟨σ,H4,I4,q3⟩
def aFb(h:Heap)(hb:kX<h.objs.size):ObjOk P w H (h.push {cls:=.type "dict",data:=.dict #[]}) h.objs.size (.dK []):=
 ⟨bZ _,beq_eq_false_iff_ne.mpr (Ne.symm (bO hb)),[],.nil,Heap.DictOf.new h⟩
def tDNewK:TE:=λ_ H Q=>∀p,H p=none->Q (.ref p) (upd H p (.dK []))
def aCp:PE X (.Dict [] [] pos) tDNewK:=λaC s σ H Q I h=>wpAny_Dict_empty ⟨.ref s.heap.objs.size,_,I.laid (λ_ _ q=>aD _ q) (aM _) (aFb s.heap I.big),rfl,h _ (I.hok.fresh (aM _))⟩
abbrev VV:List (V×V)->List (aN×aN)->Prop:=AG λp q=>RelV p.1 q.1/\RelV p.2 q.2
end L2
namespace Att
open PySem PySem.W PySem.Calls PyProof.Rows
def uP:∀ns vs,WellAll P h vs (ns.map WData.int)->eR vs ns:=by
 intro ns;induction ns with
 |nil=>intro vs w;cases w;exact .nil
 |cons n ns ih=>
   intro vs w;cases w with
   |cons a b=>cases a;exact .cons _ _ (ih _ b)
def WE{l:OpenLaw}(hn:l.most=some n)(hpre:l.row.toRowW.claim.pre args=true)(hwl:WellAll P h vals args) :
  ∃a vs ns,vals=[aN.ref a]/\args=[WData.list (ns.map WData.int)]/\h.get? a=some {cls:=.type "list",data:=.seq vs.toArray}/\eR vs ns/\ns.length<=n:=by
 have hsh:=(pre_splitW hpre).1;have hc:l.pre.holds [] {args:=args}=true:=(pre_splitW hpre).2;obtain⟨d,r,rfl,h1,h2⟩:=hasAllW_cons hsh;obtain rfl:=hasAllW_nil h2;obtain⟨xs,rfl,h3⟩:=hasW_list h1;obtain⟨ns,rfl⟩:=items_int h3;have hlen:ns.length<=n:=by
  have h4:(WTm.not (.lt (.lit (.int (n:Int))) (.len (.arg 0)))).holds [] {args:=[.list (ns.map .int)]}=true:=by have h4:=(holds_andW hc).1;rw[hn]at h4;exact h4
  have h5:=condW_of h4 (w_not (w_lt w_lit (w_len_list (w_arg rfl))));refine Nat.le_of_not_lt λq=>?_
  first
   |(rw[decide_eq_true q']at h5;exact absurd h5 (by decide))
   |(simp at h5;lia)
 cases hwl with
 |cons w1 w2=>
   cases w2;cases w1 with
   |list ho hall=>exact⟨_,_,ns,rfl,rfl,ho,uP ns _ hall,hlen⟩
def WN(l:OpenLaw) args:l.row.toRowW.claim.post args (.bool true) args=true:=
 postW_of (r:=l.row.toRowW) (X:=(true==true))
  (show WShape.has [] (.bool true) .bool=true by first|rfl|decide|simp[WShape.has,WShape.arms,WShape.armsAll])
  (show(WTm.eq .res (.lit (.bool true))).value [] {args:=args,res:=some (.bool true),after:=args}=some (.bool (true==true)) from w_eq_bool (w_res rfl) w_lit) rfl
section
variable{K:Frag}
end
end Att
namespace L2
open PySem PySem.Spec PyProof.Rows
theorem FK:∀{vs:List aN}{ns:List Int},eR vs ns->Vals (ns.map V.int) vs
 |_,_,.nil=>.nil
 |_,_,.cons n t h=>.cons ⟨t,rfl⟩ (FK h)
noncomputable def gJ(s:Stmt)(j:Nat):Stmt:=match s with
 |.ClassDef _ _ _ body _ _ _ _ _ _ _=>body.getD j (.Pass ⟨0,0,0,0⟩)
 |_=>.Pass ⟨0,0,0,0⟩
noncomputable def yI(s:Stmt):Arguments:=match s with
 |.FunctionDef _ a _ _ _ _ _ _ _ _=>a
 |_=>{posonlyargs:=[],args:=[],vararg:=none,kwonlyargs:=[],kw_defaults:=[],kwarg:=none,defaults:=[]}
noncomputable def jG(s:Stmt):List Stmt:=match s with
 |.FunctionDef _ _ b _ _ _ _ _ _ _=>b
 |_=>[]
noncomputable def zJ(s:Stmt):Scope:=match s with
 |.FunctionDef _ _ _ _ _ _ sc _ _ _=>sc
 |_=>{kind:=.function,names:=[],isGenerator:=false,isCoroutine:=false}
abbrev CX0:CXT:=λ_ _ _ _ _ _=>False
abbrev E0:XK:=λ_ _ _=>False
def pass0:DO CX0 X E0:=λ_ _ _ _ _ _ _ h=>h.elim
structure Fun(K:aP)(x qual:Str)(st:Stmt)(f:aG)(fd:bR):Prop where
 ex:∃(oc:aN) (od:Option aG) (kV doc pm:aN) (an:Option aG) (cdv ct:aN) (osl:Array (Option aN)),
  fd=dL x qual (yI st) (jG st) (zJ st) .none kV doc pm an cdv ct/\K.lookup f=some ⟨oc,od,.func fd,osl⟩/\fV K cdv qual=true
 kp:cE K (.ref f)=true
section
variable{K:aP}
def Fun.ok{st:Stmt}(F:Fun K x qual st f fd)(S:FnScope N ps (zJ st))(len:∀vs H Q E,sp vs H Q E->vs.length=ps.length)(hbody:∀cdv A outer s H vs Q E,Room k (A.deeper (nH qual (zJ st) s.heap.objs.size f cdv))->sp vs H Q E →
    ∃t,PSs (cxOf CX0 P w K mg base N qual (zJ st) f cdv A outer s H E).nox (jG st) t/\t {nx:=λ_ H'=>Q .non H',rt:=Q} (start N vs) H):FnOk P w K mg base CX0 (k+1) f fd ps sp:=by
 obtain⟨oc,od,kV,doc,pm,an,cdv,ct,osl,rfl,lk,hcd⟩:=F.ex;refine fn_of lk hcd S len λA outer s H vs Q E hr hsp=>?_;obtain⟨t,h,q⟩:=hbody cdv A outer s H vs Q E hr hsp;exact⟨t,h.nox,q⟩
def Fun.binds{st:Stmt}(F:Fun K x qual st f fd)(h:∀kV doc pm an cdv ct us,us.length=ps.length->sW (dL x qual (yI st) (jG st) (zJ st) .none kV doc pm an cdv ct) ⟨us,[]⟩=pure (ps.zip us)):Binds K fd ps []:=by obtain⟨oc,od,kV,doc,pm,an,cdv,ct,osl,rfl,lk,hcd⟩:=F.ex;exact .all (h kV doc pm an cdv ct)
def JF{st:Stmt}{kV doc pm cdv ct:aN}(l:K.lookup f=some ⟨oc,od,.func (dL x qual (yI st) (jG st) (zJ st) .none kV doc pm an cdv ct),osl⟩)(c:fV K cdv qual=true)(k:cE K (.ref f)=true):Fun K x qual st f (dL x qual (yI st) (jG st) (zJ st) .none kV doc pm an cdv ct):=⟨⟨oc,od,kV,doc,pm,an,cdv,ct,osl,rfl,l,c⟩,k⟩
end
def iteF{A B:Prop}(h:B):if false=true then A else B:=by exact h
def iteT{A B:Prop}(h:A):if true=true then A else B:=by exact h
def Same(H H':Hp):Prop:=∀b o,H b=some o->H' b=some o
def Same.refl H:Same H H:=λ_ _ h=>h
def Same.trans(a:Same H H1)(b:Same H1 H2):Same H H2:=λc o h=>b c o (a c o h)
def Same.free(e:Same H H')(h:H' l=Option.none):H l=Option.none:=by
 cases q:H l with
 |none=>rfl
 |some o=>rw[e l o q]at h;cases h
def Same.seq{K:aP}(e:Same H H')(h:SqL K H a xs):SqL K H' a xs:=by
 rcases h with(h|⟨o,h⟩)|h
 . exact .inl (.inl (e _ _ h))
 . exact .inl (.inr ⟨o,e _ _ h⟩)
 . exact .inr h
section
variable{κ:Type}[DecidableEq κ]
end
noncomputable def wY(env:Env):List (Str×oA)->List (Str×aG)->List (Str×aG)
 |[],cs=>cs
 |(n,k)::r,cs=>wY env r (if k==oA.free then (match env.cells.lookup n with|some c=>(n,c)::cs|none=>cs)else cs)
def rX(h:∀y∈scope.names,y.2=oA.free->∃c,env.cells.lookup y.1=some c):closureFor scope env=pure (wY env scope.names []):=by
 simp only[closureFor];generalize ([]:List (Str×aG))=cs;revert h cs;generalize scope.names=l;intro h;induction l with
 |nil=>intro cs;rfl
 |cons y r ih=>
   intro cs;obtain⟨n,k⟩:=y;have ihr:=ih λz hz=>h z (aL _ hz);simp only[List.forIn_cons,wY];by_cases hk:k=oA.free
   . obtain ⟨c,hc⟩:=h (n,k) aS hk;have hc':=hc;have hcell:cellOf env n=pure c:=by unfold cellOf;rw [hc']
     subst hk;simp[hcell,hc',beq_self_eq_true,if_true,pure_bind,bind_pure_comp,map_pure,bind_assoc]
     first
      |exact ihr _
      |simpa using ihr _
   . have hb:(k == oA.free)=false:=by simpa using hk
     simp[hb,bS,if_false,pure_bind]
     first
      |exact ihr _
      |simpa using ihr _
theorem DJ:∀l cs,(∀x c,cs.lookup x=some c->env.cells.lookup x=some c)->∀x c,(wY env l cs).lookup x=some c->env.cells.lookup x=some c
 |[],_,h=>h
 |(n,k)::r,cs,h=>by
   unfold wY;refine DJ r _ λx c e=>?_;split at e
   . cases hc:env.cells.lookup n with
     |none=>rw[hc]at e;exact h x c e
     |some c'=>
       rw[hc]at e;simp only[cH]at e;by_cases hx:x==n
       . rw[hx]at e;cases e;rw[beq_iff_eq]at hx;rw[hx];exact hc
       . have hx':(x == n)=false:=by simpa using hx
         rw[hx']at e;exact h x c e
   . exact h x c e
theorem DI:∀l cs x,(∃c,cs.lookup x=some c)->∃c,(wY env l cs).lookup x=some c
 |[],_,_,h=>h
 |(n,k)::r,cs,x,h=>by
   unfold wY;refine DI r _ x ?_;split
   . cases hc:env.cells.lookup n with
     |none=>exact h
     |some c'=>
       simp only[cH];by_cases hx:x==n
       . rw[hx];exact⟨_,rfl⟩
       . have hx':(x == n)=false:=by simpa using hx
         rw[hx'];exact h
   . exact h
theorem tR:∀l cs x c,(x,oA.free)∈l->env.cells.lookup x=some c->∃c,(wY env l cs).lookup x=some c
 |[],_,_,_,h,_=>nomatch h
 |(n,k)::r,cs,x,c,h,hc=>by
   unfold wY;rcases aB.mp h with e|e
   . cases e;refine DI r _ _ ?_;simp only[beq_self_eq_true,if_true,hc,cH];exact⟨_,rfl⟩
   . exact tR r _ x c e hc
theorem mE{env:Env}:∀{names:List (Str×oA)}{x:Str},names.lookup x=some oA.free →
  (names.map λ(n,k)=>if (k==oA.free&&env.scope.kind==.function&&env.kindOf n==some .cell)then (n,oA.cell)else (n,k)).lookup x=some oA.cell ∨
  (names.map λ(n,k)=>if (k==oA.free&&env.scope.kind==.function&&env.kindOf n==some .cell)then (n,oA.cell)else (n,k)).lookup x=some oA.free
 |[],_,h=>by simp at h
 |(n,k)::r,x,h=>by
   have ih:=@mE env r x;simp only[aQ];cases hx:x==n with
   |true=>
     simp only[cH,hx]at h;cases h
     by_cases hc:(oA.free==oA.free&&env.scope.kind==.function&&env.kindOf n==some .cell)=true
     . rw[if_pos hc];left;simp only[cH,hx]
     . rw[if_neg hc];right;simp only[cH,hx]
   |false=>
     simp only[cH,hx]at h;by_cases hc:(k==oA.free&&env.scope.kind==.function&&env.kindOf n==some .cell)=true
     . rw[if_pos hc];simp only[cH,hx];exact ih h
     . rw[if_neg hc];simp only[cH,hx];exact ih h
theorem wU{env:Env}:∀{names:List (Str×oA)}{x:Str}{k':oA},(∀y∈names,y.2≠oA.cell) →
  (names.map λ(n,k)=>if (k==oA.free&&env.scope.kind==.function&&env.kindOf n==some .cell)then (n,oA.cell)else (n,k)).lookup x=some k'->(k'=oA.cell\/k'=oA.free)->(x,oA.free)∈names
 |[],_,_,_,h,_=>by simp at h
 |(n,k)::r,x,k',hn,h,hk=>by
   have ih:=@wU env r x k' λy hy=>hn y (aL _ hy);simp only[aQ]at h;cases hx:x==n with
   |true=>
     have ex:x=n:=by simpa using hx
     by_cases hc:(k==oA.free&&env.scope.kind==.function&&env.kindOf n==some .cell)=true
     . have:k=oA.free:=by
        simp only[bV,beq_iff_eq]at hc;exact hc.1.1
       subst this;subst ex;exact aS
     . rw [if_neg hc]at h;simp only [cH,hx]at h;cases h;rcases hk with hk|hk
       . exact absurd hk (hn (n,k) aS)
       . subst hk;subst ex;exact aS
   |false=>
     by_cases hc:(k==oA.free&&env.scope.kind==.function&&env.kindOf n==some .cell)=true
     . rw[if_pos hc]at h;simp only[cH,hx]at h;exact aL _ (ih h hk)
     . rw[if_neg hc]at h;simp only[cH,hx]at h;exact aL _ (ih h hk)
section
variable{X:Cx}
structure CI where
 C:aG
 s:bH
 H:Hp
 ex:List aG
noncomputable def jC(X:Cx)(scope:Scope)(NY:List Str)(c:CI):Cx where
 prog:=X.prog
 w:=X.w
 K:=X.K
 mg:=X.mg
 base:=X.base
 A:=X.A
 N:=NY
 s₀:=c.s
 H₀:=c.H
 env:=compEnvC scope (wY X.env scope.names []) c.C X.env
 outer:=X.stack
 stack:=X.stack
 ex:=c.ex
 fn:=λ_=>false
 calm:=X.calm
 pn:=[]
 xe:=λ_ _=>False
def Inv.adopt(I:Inv X aC σ H s)(hn:H a=none)(young:X.s₀.heap.objs.size<=a)(hL:a≠X.env.locals)(hc:∀x c,X.env.cells.lookup x=some c->c≠a)(hp:∀p∈X.pn++aC,p.1≠a)(new:ObjOk X.prog X.w (upd H a o) s.heap a o):Inv X aC σ (upd H a o) s:=by
 have ne:∀{b:aG}{u:HO},H b=some u->b≠a:=λe z=>by rw[z,hn]at e;cases e
 refine⟨I.ok,I.os,I.bare,⟨I.base.keep,I.base.slot,λb ob q n hx=>?_,I.base.there,λb xs q=>?_,λb ob u q=>?_,λb ps q=>?_⟩,I.loc,I.cell,?_,λx c e=>?_,λp hpm=>?_,λb u e=>?_,I.len⟩
 . rw[upd_ne (bO (bY (bJ q) young))];exact I.base.free b ob q n hx
 . have:=I.base.tups b xs q;rw[upd_ne (ne this)];exact this
 . have:=I.base.frzs b ob u q;rw[upd_ne (ne this)];exact this
 . have:=I.base.tbls b ps q;rw[upd_ne (ne this)];exact this
 . rw[upd_ne (Ne.symm hL)];exact I.free
 . have:=I.freeC x c e;unfold FreeC at this ⊢;rw[upd_ne (hc x c e)];exact this
 . obtain⟨h1,h2,h3⟩:=I.pin p hpm;exact⟨h1,by rw[upd_ne (hp p hpm)];exact h2,h3⟩
 . by_cases hb:b=a
   . subst hb;rw[zQ]at e;cases e;exact new
   . rw[upd_ne hb]at e;exact(I.hok b u e).stay (λc v _ q=>q) (λc q=>by rw[upd_ne (ne q)];exact q) λc xs q=>by rw[upd_ne (ne q)];exact q
def PF(X:Cx)(ifs:List Expr)(t:TT):Prop:=
 ∀(aC:List (aG×Obj)) (s:bH) (σ:St) (H:Hp) (Q:Bool->Hp->Prop),Inv X aC σ H s->t σ H Q →
  bL (aZ X.prog X.w) X.A (forIn ifs true λc r=>if r=true then do let ok <- EY c X.env (cI c X.env);pure (ForInStep.yield ok) else pure (ForInStep.yield r)) (TP X aC σ Q) X.xe s
def tNoIf:TT:=λ_ H Q=>Q true H
def pf_nil:PF X [] tNoIf:=λ_ _ _ H _ I h=>wpAny_tests_nil ⟨H,I,h⟩
def pf_one(h:PT X c t):PF X [c] t:=λaC s σ H Q I q=>wpAny_tests_one (h aC s σ H Q I q)
noncomputable def lG(mp:List (Option Nat))(σ:St):St:=mp.map λo=>o.bind λj=>σ[j]?.join
def aAv(J:It)(mp:List (Option Nat))(g:CI->TG)(tt:CI->TT)(te:CI->TE)(σ:St)(H1:Hp)(R:List V->Hp->Prop):Prop:=
 ∀c:CI,∃W:Nat->Nat->List V->Hp->Prop,(∃m,W 0 m [] H1)/\∀i m ys H,W i m ys H →
  (J.stop i H/\R ys H) ∨
  (J.go i H/\ys.length<sizeLine/\∀x H',J.yld i H x H'->g c x (lG mp σ) H' λσ2 H2=>tt c σ2 H2 λb H3=>if b=true then te c σ2 H3 λy H4=>∃m',m'<m/\W (i+1) m' (ys++[y]) H4 else ∃m',m'<m/\W (i+1) m' ys H3)
def tComp(wi:TI)(mp:List (Option Nat))(g:CI->TG)(tt:CI->TT)(te:CI->TE):TE:=λσ H Q=>wi σ H λJ H1 =>
 aAv J mp g tt te σ H1 λys H'=>ys.length<=sizeLine/\∀p,H' p=none->Q (.ref p) (upd H' p (.lst ys))
structure CompScope(X:Cx)(scope:Scope)(NY:List Str)(mp:List (Option Nat)):Prop where
 kind:scope.kind=.function
 nocell:∀y∈scope.names,y.2≠.cell
 names:∀y∈scope.names,y.2=.local->scope.names.lookup y.1=some .local
 free:∀y∈scope.names,y.2=.free->(X.env.kindOf y.1=some .cell\/X.env.kindOf y.1=some .free)
 len:mp.length=NY.length
 map:∀(i:Nat) (x:Str) (j:Nat),NY[i]?=some x->mp[i]?=some (some j)->X.N[j]?=some x/\scope.names.lookup x=some .free
theorem JK(hZ:∀e s,Z e s->notedBy (aZ prog w) A env (λx s'=>R (.error x) s') e s)(I:Nat->bH->Prop)(turn:∀n s,I n s->bL (aZ prog w) A (pyNext it) (λr s₁=>match r with
    |none=>R (.ok .next) s₁
    |some v=>bL (aZ prog w) A (JU target it v) (λ_ s₁'=>bL (aZ prog w) A (AB target env v) (λ_ s₂ =>
       bL (aZ prog w) A (forIn ifs true λc r=>if r=true then do let ok <- EY c env (cI c env);pure (ForInStep.yield ok) else pure (ForInStep.yield r)) (λok s₃ =>
        if ok=true then bL (aZ prog w) A (cI elt env) (λx s₄=>bL (aZ prog w) A (call (.builtin "list.append") [acc,x]) (λ_ s₅=>∃m,m<n/\I m s₅) (λ_ _=>False) s₄) Z s₃
        else ∃m,m<n/\I m s₃) (λ_ _=>False) s₂) (λ_ _=>False) s₁') (λ_ _=>False) s₁) (λ_ _=>False) s)
  n (h:I n s) :
  gO (aZ prog w) A (.compLoop (.ListComp elt [⟨target,iter,ifs,0⟩] scope pos) 0 it acc env) R s:=by
 refine codeAny_loop rfl I (λn s hI=>?_) n h;show bL _ A ((compTurn (.ListComp elt [⟨target,iter,ifs,0⟩] scope pos) 0 it acc env).onRaise (λx=>do noteFrame x env;theTreesLotGoes x)) _ _ s;refine wpAny_noted ?_;rw[compTurn_list];refine aA (RL (aA (eA (turn n s hI) (λr s₁ h₁=>?_) λ_ _ h'=>h'.elim)));cases r with
 |none=>exact aJ h₁
 |some v=>
   refine aA (eA h₁ (λ_ s₁' h₁'=>?_) λ_ _ h'=>h'.elim);refine aA (eA h₁' (λ_ s₂ h₂=>aA (eA h₂ (λok s₃ h₃=>?_) λ_ _ h'=>h'.elim)) λ_ _ h'=>h'.elim);cases ok with
   |false=>exact aJ ⟨rfl,h₃⟩
   |true=>exact aA (aA (eA h₃ (λx s₄ h₄=>aA (eA h₄ (λ_ s₅ h₅=>aJ (aJ ⟨rfl,h₅⟩)) λ_ _ h'=>h'.elim)) λe s' h'=>hZ e s' h'))
def DG{iter:Expr}{RR:aN->aG->Result->bH->Prop}{WW:CI->aN->bH->Prop}(S:CompScope X scope NY mp)(hc:∀c,c.H=H->cm (jC X scope NY c))(I:Inv X aC σ H s₂)(T:Turn X.prog X.w X.K tg J fp it tn cm)(st:tn 0 s₂.heap)(hf:∀b∈fp,FpOk X aC H b)(hg:∀c,PG (jC X scope NY c) tg (g c))(ht:∀c,PF (jC X scope NY c) ifs (tt c))(he:∀c,PE ((jC X scope NY c).wish (WW c)) elt (te c))(err:∀c,X.s₀.heap.objs.size<=c.C->c.C∉frs X.stack->(∀pl σ' H' s1,Inv (jC X scope NY c) pl σ' H' s1->Inv X aC σ H' s1)->∀e s',WW c e s'->notedBy (aZ X.prog X.w) X.A (jC X scope NY c).env (λx s''=>RR (.ref s₂.heap.objs.size) c.C (.error x) s'') e s')(h:aAv J mp g tt te σ H R)(fin:∀s' C m ys H',R ys H'->H' s₂.heap.objs.size=none->H' C=none->C≠s₂.heap.objs.size->s'.heap.Ns C m →
    (ys.length<=sizeLine->Inv X aC σ (upd H' s₂.heap.objs.size (.lst ys)) s') →
    (C≠X.env.locals/\X.s₀.heap.objs.size<=C/\(∀x c,X.env.cells.lookup x=some c->c≠C)/\∀p∈X.pn++aC,p.1≠C)->RR (.ref s₂.heap.objs.size) C (.ok .next) s') :
  bL (aZ X.prog X.w) X.A (newList []) (λacc s₃=>bL (aZ X.prog X.w) X.A (newFunctionEnv scope X.env.globals (wY X.env scope.names []) [] X.env.qual none .none (some X.env)) (λcenv s₄ =>
   gO (aZ X.prog X.w) X.A (.compStart (.ListComp elt [⟨tg,iter,ifs,0⟩] scope pos) 0 (.ref it) acc {cenv with scope:=relabel scope X.env}) (RR acc cenv.locals) s₄) E s₃) E s₂:=by
 refine eI (wpAny_newFunctionEnv S.nocell (by intro y hy;simp at hy) (λh₁ hns₁ hsb₁=>?_) S.kind);generalize hH2:s₂.heap.push {cls:=.type "list",dict:=none,data:=.seq ([]:List aN).toArray}=H2 at hns₁ hsb₁ ⊢;have hC:(H2.objs.size:Nat)=s₂.heap.objs.size+1:=by rw[<-hH2,EI]
 generalize hDd:s₂.heap.objs.size=D at fin err hC ⊢;generalize hCC:H2.objs.size=C at hns₁ hsb₁ hC ⊢;have hDC:D≠C:=λz=>absurd (z.trans hC) (bO (gF _));have ltC:∀{b:aG},b<D->b≠C:=λ{b} h=>bO (Nat.lt_of_lt_of_eq (fS h) hC.symm);have ltD:∀{b:aG},b<D->b≠D:=λ{b} h=>bO h;have hlt:∀{b:aG}{o:Obj},s₂.heap.get? b=some o->(b:Nat)<D:=λe=>hDd▸bJ e;have k2:∀b o,s₂.heap.get? b=some o->H2.get? b=some o:=λb o e=>hH2▸aD _ e;have k1:∀b o,H2.get? b=some o->h₁.get? b=some o:=λb o e=>by have hb:=hCC▸bJ e;exact hsb₁.extBut b o (bO hb) (aD _ e)
 have fr:∀a,D<=a->H a=none:=λa ha=>I.hok.fresh (hDd▸ha);have accP:h₁.PlainList D #[]:=⟨_,k1 _ _ (by rw[<-hH2,<-hDd];exact aU _ rfl)⟩
 have fpo:=λb hb=>let ⟨o,e,_⟩:=T.obj 0 _ st b hb;hlt e;have clF:∀x c,(wY X.env scope.names []).lookup x=some c->X.env.cells.lookup x=some c:=DJ _ _ λx c e=>nomatch e;have cellLt:∀x c,X.env.cells.lookup x=some c->(c:Nat)<D:=λx c e=>by obtain⟨v,o,ho,_⟩:=I.cell x c e;exact hlt ho
 have locLt:=hDd▸I.lt;have stkLt:∀b∈frs X.stack,(b:Nat)<D:=λb hb=>by obtain⟨_,o,ho,_⟩:=I.stack.mem hb;exact hlt ho
 have fpStk:∀b∈fp,b∉frs X.stack:=λb hb z=>by
  obtain⟨_,f1,f2,_⟩:=hf b hb;rcases aB.mp (I.stkSub b z)with q|q
  . exact f1 q
  . exact f2 q
 have pinLt:=λp hp=>hlt (I.pin p hp).1
 let Y:Cx:=jC X scope NY ⟨C,{s₂ with heap:=H2},H,D::fp⟩
 obtain⟨W,⟨m0,w0⟩,turn⟩:=h ⟨C,{s₂ with heap:=H2},H,D::fp⟩;have okY:Y.Ok:=by
  refine⟨I.ok.mod,S.kind,I.ok.glob,I.ok.blt,tY hCC,λx y c h1 h2=>I.ok.inj x y c (clF _ _ h1) (clF _ _ h2),λx hx=>?_,λx c hfn=>absurd hfn (by intro z;cases z),I.ok.hd,I.ok.frames,.inl rfl,λb hb=>?_,λb o e=>?_,?_,λb o e=>?_,λb hb=>?_,?_,I.stkFree⟩
  . have hx':(x,oA.free)∈scope.names:=by
     rcases hx with hx|hx
     . exact wU S.nocell hx (.inl rfl)
     . exact wU S.nocell hx (.inr rfl)
    obtain⟨c,e⟩:=I.ok.has x (S.free _ hx' rfl);exact tR _ _ x c hx' e
  . rcases aB.mp hb with z|z
    . subst z;exact⟨hDC,λx c e q=>absurd (cellLt x c (clF x c e)) (by rw[q];exact cZ _)⟩
    . have:=fpo b z;exact⟨ltC this,λx c e q=>(hf b z).2.2.2.2.1 x c (clF x c e) q⟩
  . have:=I.bs b o e;exact⟨k2 b o this.1,this.2⟩
  . refine ⟨?_,I.tabsH⟩;show (X.base.objs.size:Nat)<=H2.objs.size;have h1:=cW I.ok.bsz.1 I.sz
    lia
  . have hb:=I.bs b o e;have hb':=hlt hb.1;intro z;rcases aB.mp z with z|z
    . rw[z]at hb';exact cZ _ hb'
    . rcases (hf b z).2.2.2.1 with q|q
      . exact I.ok.noex b o e q
      . exact absurd (bY (bJ (I.ok.bs b o e).1) q) (cZ _)
  . rcases aB.mp hb with z|z
    . subst z;exact λq=>absurd (stkLt _ q) (cZ _)
    . exact fpStk b z
  . exact I.stack.of_keeps λb o e _=>⟨o,k2 b o e,rfl⟩
 have capt:∀(i:Nat) (x:Str) (v:V),NY[i]?=some x->(lG mp σ)[i]?=some (some v)->∃u c,RelV v u/\(Y.env.kindOf x=some .cell\/Y.env.kindOf x=some .free)/\Y.env.cells.lookup x=some c/\H2.IsCell c (some u)/\(H c=none\/∃o u,H c=some (.frz o u))/\c∉D::fp:=by
  intro i x v e1 e2;have e2':(mp[i]?.map λo=>o.bind λj=>σ[j]?.join)=some (some v):=by unfold lG at e2;rwa [bI]at e2
  cases hm:mp[i]? with
  |none=>rw[hm]at e2';cases e2'
  |some o=>
    rw[hm]at e2';cases o with
    |none=>simp at e2'
    |some j=>
      simp only[dC,aR,Option.some.injEq]at e2';have e4:σ[j]?=some (some v):=by
       cases hs:σ[j]? with
       |none=>rw[hs]at e2';cases e2'
       |some q=>rw[hs]at e2';simp at e2';rw[e2']
      obtain⟨hXj,hfr⟩:=S.map i x j e1 hm;have hmem:=fY hfr;have hk:=S.free _ hmem rfl;obtain⟨m,hn,hl⟩:=I.loc;obtain⟨u,ru,l⟩:=hl j x v hXj e4 (hk.elim (λz=>.inr (.inl z)) λz=>.inr (.inr z));have hlook:∃c,X.env.cells.lookup x=some c/\s₂.heap.IsCell c (some u):=by
       rcases l with⟨kl,_⟩|⟨_,c,ec,hcell⟩
       . rcases hk with q|q
         . exact absurd (kl.symm.trans q) (by intro z;cases z)
         . exact absurd (kl.symm.trans q) (by intro z;cases z)
       . exact⟨c,ec,hcell⟩
      obtain⟨c,ec,oc,hoc,hocd⟩:=hlook;obtain⟨c',ec'⟩:=tR (env:=X.env) scope.names [] x c hmem ec;have:=Option.some.inj ((clF x c' ec').symm.trans ec);subst this;refine⟨u,c',ru,mE hfr,ec',⟨oc,k2 _ _ hoc,hocd⟩,(I.freeC x c' ec).imp id And.right,λz=>?_⟩;rcases aB.mp z with z|z
      . have:=cellLt x c' ec;rw[z]at this;exact cZ _ this
      . exact(hf c' z).2.2.2.2.1 x c' ec rfl
 have lenY:(lG mp σ).length=NY.length:=by unfold lG;rw[cD];exact S.len
 have I0:∀tk,Inv Y [] (lG mp σ) H {s₂ with heap:=h₁,toks:=tk}:=by
  intro tk;refine⟨okY,rfl,I.bare,Un.kept k1,⟨_,hns₁,λi x v e1 e2 e3=>?_⟩,λx c e=>?_,fr C (by show(D:Nat)<=C;lia),λx c e=>(I.freeC x c (clF x c e)).imp id λz=>⟨rfl,z.2⟩,λp hp=>absurd (show p∈([]:List (aG×Obj)) from hp) (by simp),I.hok.kept λb o e=>k1 b o (k2 b o e),lenY⟩
  . obtain⟨u,c,ru,hk,ec,⟨oc,hoc,hocd⟩,_⟩:=capt i x v e1 e2;exact⟨u,ru,.inr ⟨hk,c,ec,oc,k1 _ _ hoc,hocd⟩⟩
  . obtain⟨v,o,ho,hd⟩:=I.cell x c (clF x c e);exact⟨v,o,k1 _ _ (k2 _ _ ho),hd⟩
 have stat:∀{H':Hp}{pl:List (aG×Obj)},(∀p∈pl,p.1∉fp)->(∀b∈fp,H' b=none)->∀b∈fp,FpOk Y pl H' b:=λhpl hn b hb=>by have hbD:=fpo b hb;refine⟨hn b hb,ltC hbD,fpStk b hb,.inl (aL _ hb),λx c e=>(hf b hb).2.2.2.2.1 x c (clF x c e),λp hp z=>hpl p (show p∈_ from hp) (z▸hb)⟩
 have dN:D∉Y.fs:=λq=>absurd (stkLt _ q) (cZ _);have dFp:D∉fp:=λq=>absurd (fpo _ q) (cZ _);have plD:∀(o:Obj),∀p∈[(D,o)],p.1∉fp:=λo p hp=>by
  have e:p=(D,o):=by simpa using hp
  rw[e];exact dFp
 have toX:∀pl σ' H3 s4,Inv Y pl σ' H3 s4->Inv X aC σ H3 s4:=λpl σ' H3 s4 I4=>by
  have u:Un (frs X.stack) fp H H3 s₂.heap s4.heap:=by
   have B:=I4.base;have nx:∀{b:aG}{o:Obj},s₂.heap.get? b=some o->b∉fp->b∉D::fp:=λe hb z=>by
    rcases aB.mp z with z|z
    . have:=hlt e;rw[z]at this;exact cZ _ this
    . exact hb z
   exact⟨λb o q n hb hx=>B.keep b o (k2 b o q) n hb (nx q hx),λb o q n hb hx=>B.slot b o (k2 b o q) n hb (nx q hx),λb o q n hx=>B.free b o (k2 b o q) n (nx q hx),λb o q hx=>B.there b o (k2 b o q) (nx q hx),B.tups,B.frzs,B.tbls⟩
  exact I.call' I4.os u I4.hok I4.bare λb hb=>⟨(hf b hb).2.2.2.1,(hf b hb).2.1,(hf b hb).2.2.2.2.1,(hf b hb).2.2.2.2.2⟩
 have keyC:∀(tk:Nat) (it':aN),it'=.ref it->gO (aZ X.prog X.w) X.A (.compLoop (.ListComp elt [⟨tg,iter,ifs,0⟩] scope pos) 0 it' (.ref D) Y.env) (RR (.ref D) C) {s₂ with heap:=h₁,toks:=tk}:=by
  rintro tk _ rfl
  refine JK (Z:=WW ⟨C,{s₂ with heap:=H2},H,D::fp⟩) (λe s' z=>err ⟨C,{s₂ with heap:=H2},H,D::fp⟩ (by have:(X.s₀.heap.objs.size:Nat)<=D:=hDd▸I.sz;show(X.s₀.heap.objs.size:Nat)<=C;lia) (λq=>absurd (stkLt _ q) (by show ¬(C:Nat)<D;lia)) toX e s' z) (λn s'=>∃i ys H' its,Inv Y [] (lG mp σ) H' s'/\tn i s'.heap/\(∀b∈fp,H' b=none)/\H' D=none/\s'.heap.PlainList D its/\Vals ys its.toList/\W i n ys H') ?_ m0
   ⟨0,[],H,#[],I0 tk,T.keep 0 _ _ st λb _ o e=>k1 b o (k2 b o e),λb hb=>(hf b hb).1,fr D (aM _),accP,.nil,w0⟩
  rintro n s3 ⟨i,ys,H3,its,I3,st3,fr3,d3,⟨kk,pl3⟩,rv3,w3⟩;have I3':Inv Y [(D,{cls:=.type "list",data:=.seq its kk})] (lG mp σ) H3 s3:=I3.pins_of λp hp=>by
   have e:p=(D,{cls:=.type "list",data:=.seq its kk}):=by simpa using hp
   subst e;exact⟨pl3,d3,hDC,dN,λv z=>nomatch (show Data.seq its kk=Data.cell v from z)⟩
  rcases turn i n ys H3 w3 with⟨stop,qn⟩|⟨go,hsz,step⟩
  . refine thn (T.done Y rfl rfl rfl (hc ⟨C,{s₂ with heap:=H2},H,D::fp⟩ rfl) i _ s3 _ H3 _ I3' (stat (plD _) fr3) st3 stop) λr s4 zq=>?_;obtain ⟨hr,I4⟩:=zq;subst hr;have hD4:s4.heap.get? D=some {cls:=.type "list",data:=.seq its kk}:=(I4.pin (D,_) (by simp)).1;have J4:Inv X aC σ H3 s4:=toX _ _ _ _ I4;obtain ⟨m4,hn4,_⟩:=I4.loc;refine fin s4 C m4 ys H3 qn d3 I4.free (Ne.symm hDC) hn4 (λhz=>?_) ⟨(ltC locLt).symm,?_,λx c e=>?_,λp hp=>?_⟩
    . refine J4.adopt d3 ?_ (ltD locLt).symm (λx c e=>?_) (λp hp=>?_) ⟨hz,its.toList,kk,rv3,hD4⟩
      . exact hDd▸I.sz
      . exact ltD (cellLt x c e)
      . exact ltD (pinLt p hp)
    . have:(X.s₀.heap.objs.size:Nat)<=D:=hDd ▸ I.sz;show (X.s₀.heap.objs.size:Nat)<=C
      lia
    . exact ltC (cellLt x c e)
    . exact ltC (pinLt p hp)
  . refine thn (T.item Y rfl rfl rfl (hc ⟨C,{s₂ with heap:=H2},H,D::fp⟩ rfl) i _ s3 _ H3 _ I3' (stat (plD _) fr3) st3 go) λr s4 zq=>?_;obtain ⟨u,hr,h4⟩:=zq;subst hr;refine thn h4 λ_ s5 zq=>?_;obtain ⟨x,H5,I5,r5,y5,st5,fr5⟩:=zq;have I5':=I5.pinned (stat (plD _) fr5) (T.obj _ _ st5);refine thn (hg _ _ s5 _ H5 x u _ I5' r5 (step x H5 y5)) λ_ s6 zq=>?_;obtain ⟨σ6,H6,I6,q6⟩:=zq;refine thn (ht _ _ s6 σ6 H6 _ I6 q6) λok s7 zq=>?_;obtain ⟨H7,I7,q7⟩:=zq
    have back:∀{s8:bH}{σ8:St}{H8:Hp},Inv Y ([(D,{cls:=.type "list",data:=.seq its kk})]++BW fp s5.heap) σ8 H8 s8 →
      tn (i+1) s8.heap/\(∀b∈fp,H8 b=none)/\H8 D=none/\s8.heap.get? D=some {cls:=.type "list",data:=.seq its kk}:=λ{s8 σ8 H8} I8=>by
     refine⟨T.keep _ _ _ st5 λb hb o e=>(I8.pin (b,o) (aI _ (aI _ (xU hb e)))).1,λb hb=>?_,?_,?_⟩
     . obtain⟨o,e,d⟩:=T.obj _ _ st5 b hb;exact(I8.pin (b,o) (aI _ (aI _ (xU hb e)))).2.1
     . exact(I8.pin (D,_) (aI _ (bA _ (aO.mpr rfl)))).2.1
     . exact(I8.pin (D,_) (aI _ (bA _ (aO.mpr rfl)))).1
    have drop:∀{s8:bH}{σ8:St}{H8:Hp}{pl:List (aG×Obj)},Inv Y pl σ8 H8 s8->Inv Y [] (lG mp σ) H8 s8:=λ{s8 σ8 H8 pl} I8=>by
     obtain⟨m8,hn8,_⟩:=I8.loc;refine⟨I8.ok,I8.os,I8.bare,I8.base,⟨m8,hn8,λi x v e1 e2 e3=>?_⟩,I8.cell,I8.free,I8.freeC,λp hp=>absurd (show p∈([]:List (aG×Obj)) from hp) (by simp),I8.hok,lenY⟩;obtain⟨u,c,ru,hk,ec,⟨oc,hoc,hocd⟩,hn,hx⟩:=capt i x v e1 e2;rcases hn with hn|⟨ob,ub,hn⟩
     . obtain⟨sl,e⟩:=I8.base.any hoc hn hx;exact⟨u,ru,.inr ⟨hk,c,ec,_,e,hocd⟩⟩
     . obtain⟨e1,_⟩:=I.hok c _ hn;obtain⟨e2,_⟩:=I8.hok c _ (I8.base.frzs c ob ub hn);have e3:=k2 _ _ e1;rw[hoc]at e3;cases e3;exact⟨u,ru,.inr ⟨hk,c,ec,oc,e2,hocd⟩⟩
    cases ok with
    |false=>obtain⟨m',hm',w'⟩:=q7;obtain⟨b1,b2,b3,b4⟩:=back I7;exact⟨m',hm',i+1,ys,H7,its,drop I7,b1,b2,b3,⟨kk,b4⟩,rv3,w'⟩
    |true=>
      refine thn (he _ _ s7 σ6 H7 _ (I7.wish _) q7) λy s8 zq=>?_;obtain⟨yv,H8,I8w,r8,q8⟩:=zq;have I8:=I8w.unwish;obtain⟨b1,b2,b3,b4⟩:=back I8;have hl:ys.length=its.size:=by simpa using rv3.length
      refine wpAny_list_append_plain (items:=its) ⟨kk,b4⟩ (λh' pl' sb=>?_) (by lia);obtain⟨m',hm',w'⟩:=q8;have I9:Inv Y [] (lG mp σ) H8 {s8 with heap:=h'}:=(drop I8).turned (it:=D) (t':=s8.toks) (λb o hb e=>(sb.2 b hb).trans e) b3 hDC (.inl aS) (λx c e=>ltD (cellLt x c (clF x c e))) λp hp=>absurd (show p∈([]:List (aG×Obj)) from hp) (by simp);refine⟨m',hm',i+1,ys++[yv],H8,its.push y,I9,?_,b2,b3,pl',?_,w'⟩
      . exact T.keep _ _ _ b1 λb hb o e=>(sb.2 b (λz=>dFp (z▸hb))).trans e
      . rw[eD];exact rv3.append (.cons r8 .nil)
 exact codeAny_compStart_list (keyC _ _ rfl) (T.self _ 0 _ _ _ (T.keep 0 _ _ st λb _ o e=>k1 b o (k2 b o e)) (keyC _ _ rfl))
def aCq{iter:Expr}(S:CompScope X scope NY mp)(hc:∀aC σ H s,Inv X aC σ H s->∀c,c.H=H->cm (jC X scope NY c))(hi:PI X tg iter wi cm)(hg:∀c,PG (jC X scope NY c) tg (g c))(ht:∀c,PF (jC X scope NY c) ifs (tt c))(he:∀c,PE (jC X scope NY c) elt (te c))(hs:∀x,eJ iter X.env x=pure x:=by intro _;rfl):PE X (.ListComp elt [⟨tg,iter,ifs,0⟩] scope pos) (tComp wi mp g tt te):=by intro aC s σ H Q I h;refine wpAny_comprehension_free rfl hs (rX λy hy hk=>I.ok.has y.1 (S.free y hy hk)) S.kind S.names (thn (hi aC s σ H _ I h) λv s1 h1=>thn h1 λitv s2 h2=>?_);obtain⟨it,fp,tn,J,H2,e,I2,T,st2,f2,hk⟩:=h2;subst e;refine DG S (hc _ _ _ _ I2) I2 T st2 f2 hg ht he (λ_ _ _ _ _ _ z=>z.elim) hk ?_;intro s' C m ys H' q hD hC hCD hn hI hct;refine⟨m,hn,λh' sb=>?_⟩;have J':=hI q.1;refine⟨.ref s2.heap.objs.size,_,J'.turned (λb o hb e=>(sb.2 b hb).trans e) (by rw[upd_ne hCD];exact hC) hct.1 (.inr hct.2.1) hct.2.2.1 hct.2.2.2,rfl,q.2 _ hD⟩
def TW{iter:Expr}(S:CompScope X scope NY mp)(hc:X.calm=true)(hi:PI X tg iter wi)(hg:∀c,PG (jC X scope NY c) tg (g c))(ht:∀c,PF (jC X scope NY c) ifs (tt c))(he:∀c,PE (jC X scope NY c) elt (te c))(hs:∀x,eJ iter X.env x=pure x:=by intro _;rfl):PE X (.ListComp elt [⟨tg,iter,ifs,0⟩] scope pos) (tComp wi mp g tt te):=aCq S (λ_ _ _ _ _ _ _=>hc) hi hg ht he hs
def tCompS(wi:TI)(mp:List (Option Nat))(g:CI->TG)(tt:CI->TT)(te:CI->TE)(i:Nat):TS:=λD σ H=>tComp wi mp g tt te σ H λv H1=>D.nx (σ.set i (some v)) H1
def ps_comp{iter:Expr}(hN:X.N.Nodup)(hy:X.N[i]?=some y)(hl:X.env.scope.names.lookup y=some .local)(hsw:eM (.ListComp elt [⟨tg,iter,ifs,0⟩] scope pos) (some (.Name y py)) spos.line X.env=pure true)(S:CompScope X scope NY mp)(hc:X.calm=true)(hi:PI X tg iter wi)(hg:∀c,PG (jC X scope NY c) tg (g c))(ht:∀c,PF (jC X scope NY c) ifs (tt c))(he:∀c,PE (jC X scope NY c) elt (te c))(hs:∀x,eJ iter X.env x=pure x:=by intro _;rfl):PS X (.Assign [.Name y py] (.ListComp elt [⟨tg,iter,ifs,0⟩] scope pos) spos) (tCompS wi mp g tt te i):=by
 intro aC s σ H D I h;rw[exec_Assign_Name_used _ _ _ _ hsw];refine aA (RL (aA ?_))
 refine aA (eA (wpAny_comprehension_free rfl hs (rX λy hy hk=>I.ok.has y.1 (S.free y hy hk)) S.kind S.names
  (thn (hi aC s σ H _ I h) λv s1 h1=>thn h1 λitv s2 h2=>?_)) (λ_ s' hq=>aJ (aJ hq)) λ_ _ e=>e)
 obtain⟨it,fp,tn,J,H2,e,I2,T,st2,f2,hk⟩:=h2;subst e;refine DG S (λ_ _=>hc) I2 T st2 f2 hg ht he (λ_ _ _ _ _ _ z=>z.elim) hk ?_;intro s' C m ys H' q hD hC hCD hn hI hct;have J':=hI q.1;refine wpAny_assign_Name (FQ J' hN hy (.inl hl) (v:=.ref s2.heap.objs.size) rfl (λs'' I'' sb=>?_) (.inr hl));obtain⟨a,sba,ha⟩:=sb;have haC:C≠a:=by
  rcases ha with rfl|ha
  . exact hct.1
  . exact λz=>hct.2.2.1 _ _ ha z.symm
 refine⟨m,hn.sameBut sba haC,λh' sb'=>?_⟩;exact⟨_,_,I''.turned (λb o hb e=>(sb'.2 b hb).trans e) (by rw[upd_ne hCD];exact hC) hct.1 (.inr hct.2.1) hct.2.2.1 hct.2.2.2,q.2 _ hD⟩
end
end L2
namespace TS
open PySem PyProof.Rows
noncomputable def ky(p:Keyed):Int:=numOf p.1
def IsI(p:Keyed):Prop:=∃n t,p.1=.int n t
structure TB(a₀:Array Keyed)(st:SortSt):Prop where
 pm:(bT st).Perm a₀
 kd:kindOf st=iQ
 nf:DS st=none
def Seg(xs:Array Keyed)(i j:Nat):Prop:=∀p q,i<=p->p<=q->q<j->K xs p<=K xs q
def Dsc(xs:Array Keyed)(i j:Nat):Prop:=∀p q,i<=p->p<=q->q<j->K xs q<=K xs p
def Ch(xs ys:Array Keyed)(i j:Nat):Prop:=xs.Perm ys/\∀k,(k<i\/j<=k)->K xs k=K ys k
def Ch.rfl':Ch xs xs i j:=⟨lF _,λ_ _=>rfl⟩
def Ch.tr(a:Ch xs ys i j)(b:Ch ys zs i j):Ch xs zs i j:=
 ⟨a.1.trans b.1,λk hk=>(a.2 k hk).trans (b.2 k hk)⟩
def Ch.wide(a:Ch xs ys i j)(h1:i'<=i)(h2:j<=j'):Ch xs ys i' j':=
 ⟨a.1,λk hk=>a.2 k (by lia)⟩
def TB.arr{st:SortSt}(h:TB a₀ st)(hp:xs.Perm (bT st)):TB a₀ (fU st xs):=⟨hp.trans h.pm,h.kd,h.nf⟩
def TB.sz{st:SortSt}(h:TB a₀ st):(bT st).size=a₀.size:=h.pm.size_eq
def aFr{a₀ xs:Array Keyed}(hp:xs.Perm a₀)(h0:IntKeys a₀)(hi:i<a₀.size):∃t q,xs[i]?=some (.int (K xs i) t,q):=by
 have hi':i<xs.size:=by rw[hp.size_eq];exact hi
 obtain⟨n,t,hn⟩:=h0 _ ((nB.mp hp).mem_iff.mp (show xs[i]∈xs.toList by simp));have e:xs[i]?=some xs[i]:=getElem?_pos _ i hi';refine⟨t,xs[i].2,?_⟩;unfold K;rw[e];simp only[hn,numOf];exact congrArg some (Prod.ext hn rfl)
section
variable{a₀:Array Keyed}
def aDq{st:SortSt}(hB:TB a₀ st)(h0:IntKeys a₀)(hi:i<a₀.size)(hj:j<a₀.size)(told:Q (some (decide (K (bT st) i<K (bT st) j))) st):wpS (aZ prog w) A E s (VM i j) Q st:=by obtain⟨t,p,e1⟩:=aFr hB.pm h0 hi;obtain⟨u,q,e2⟩:=aFr hB.pm h0 hj;exact wpS_ltAt hB.kd e1 e2 told
def aDp{st:SortSt}(hB:TB a₀ (fU st xs))(h0:IntKeys a₀)(hi:i<a₀.size)(hj:j<a₀.size)(h:Q (some (decide (K xs i<K xs j))) (fU st xs)):wpS (aZ prog w) A E s (VM i j) Q (fU st xs):=aDq hB h0 hi hj h
def UT{st:SortSt}(hj:j<=(bT st).size)(h:∀xs,Ch xs (bT st) i j->(∀k,i<=k->k<j->K xs k=K (bT st) (i+j-1-k))->Q () (fU st xs)) :
  wpS (aZ prog w) A E s (mY i j) Q st:=by
 rw[reverseSlice'_eq];refine mQ (h _ ⟨mirror_perm _ _ _ _,λk hk=>?_⟩ λk h1 h2=>?_)
 . rw[K_mirror hj,if_neg (by lia)]
 . rw[K_mirror hj,if_pos ⟨h1,h2⟩]
def vQ{st:SortSt}(hj:j<=(bT st).size)(he:∀k,i<=k->k<j->K (bT st) k=K (bT st) (j-1))(h:∀xs,xs.Perm (bT st)->(∀k,K xs k=K (bT st) k)->Q () (fU st xs)) :
  wpS (aZ prog w) A E s (mY i j) Q st:=by
 refine UT hj λxs c hk=>h xs c.1 λk=>?_;by_cases hh:i<=k/\k<j
 . rw[hk k hh.1 hh.2,he _ (by lia) (by lia),he k hh.1 hh.2]
 . exact c.2 k (by lia)
noncomputable def dTail(lo m0 nrem:Nat):StateT SortSt Sem (Option Nat):=do
 let mut m:=m0
 mY lo (lo+m)
 for _ in [m:nrem] do
  let some less <- VM (lo+m) (lo+m-1) | return none
  if less then break
  m:=m+1
 return some m
noncomputable def dPart(lo m0 nrem:Nat):StateT SortSt Sem (Option Nat):=do
 let mut m:=m0
 rule "list.sort.descending-run"
 m:=m+1
 let mut q:=0
 for _ in [m:nrem] do
  let some less <- VM (lo+m) (lo+m-1) | return none
  if less then
   if q>0 then mY (lo+m-(q+1)) (lo+m)
   q:=0
  else
   let some more <- VM (lo+m-1) (lo+m) | return none
   if more then break
   q:=q+1
  m:=m+1
 if q>0 then mY (lo+m-(q+1)) (lo+m)
 dTail lo m nrem
noncomputable def cRun(lo nrem:Nat):StateT SortSt Sem (Option Nat):=do
 let mut m:=1
 for _ in [1:nrem] do
  let some less <- VM (lo+m) (lo+m-1) | return none
  if less then break
  m:=m+1
 if m==nrem then return some m
 if m>1 then
  let some more <- VM lo (lo+m-1) | return none
  if more then return some m
  mY lo (lo+m)
 dPart lo m nrem
def NG lo nrem:countRun' lo nrem=cRun lo nrem:=by rw[countRun'_eq];rfl
def aBa(hs:Seg xs i j)(h:i<j->K xs (j-1)<=K xs j):Seg xs i (j+1):=by
 intro p q h1 h2 h3;by_cases hq:q<j
 . exact hs p q h1 h2 hq
 . have:q=j:=by lia
   subst this;by_cases hp:p=q
   . subst hp;exact dJ _
   . exact fF (hs p (q-1) h1 (by lia) (by lia)) (h (by lia))
def vC(hs:Dsc xs i j)(h:i<j->K xs j<=K xs (j-1)):Dsc xs i (j+1):=by
 intro p q h1 h2 h3;by_cases hq:q<j
 . exact hs p q h1 h2 hq
 . have:q=j:=by lia
   subst this;by_cases hp:p=q
   . subst hp;exact dJ _
   . exact fF (h (by lia)) (hs p (q-1) h1 (by lia) (by lia))
def DE(hs:Dsc xs i j)(h:∀k,K ys k=K xs k):Dsc ys i j:=by intro p q h1 h2 h3;rw[h,h];exact hs p q h1 h2 h3
def NO{lo:Nat}{st:SortSt}(h0:IntKeys a₀)(hn:lo+nrem<=a₀.size)(ha:1<=a)(han:a<=nrem)(hB:TB a₀ st)(hs:Seg (bT st) lo (lo+a))(h:∀n,a<=n->n<=nrem->Seg (bT st) lo (lo+n)->(n=nrem\/K (bT st) (lo+n)<K (bT st) (lo+n-1))->R (none,n) st) :
  wpS (aZ prog w) A E s (forIn [a:nrem] ((none,a):Option (Option Nat)×Nat) λ_ c=>do
        let x <- VM (lo+c.snd) (lo+c.snd-1)
        match x with
         |some less=>if less=true then pure (ForInStep.done (none,c.snd))else pure (ForInStep.yield (none,c.snd+1))
         |_=>pure (ForInStep.done (some none,c.snd))) R st:=by
 refine dB (I:=λx c z=>z=st/\c=(none,x)/\Seg (bT st) lo (lo+x)) ?_ ?_ ⟨rfl,rfl,hs⟩
 . rintro x c z hax hxn ⟨rfl,rfl,hz⟩;refine aT (aDq hB h0 (by lia) (by lia) ?_);by_cases hl:K (bT z) (lo+x)<K (bT z) (lo+x-1)
   . simp[hl,decide_true,if_true];exact bD (h x hax (by lia) hz (.inr hl))
   . simp[hl,decide_false,bS,if_false];exact bD ⟨rfl,rfl,aBa hz λ_=>pA.mp hl⟩
 . rintro c z ⟨rfl,rfl,hz⟩;rw[show max a nrem=nrem by lia]at hz ⊢;exact h nrem han (aM _) hz (.inl rfl)
def wp_tail{lo:Nat}{st:SortSt}(h0:IntKeys a₀)(hn:lo+nrem<=a₀.size)(h1:1<=n)(hnn:n<=nrem)(hB:TB a₀ st)(hs:Dsc (bT st) lo (lo+n))(h:∀m xs,Ch xs (bT st) lo (lo+nrem)->1<=m->m<=nrem->Seg xs lo (lo+m)->Q (some m) (fU st xs)) :
  wpS (aZ prog w) A E s (dTail lo n nrem) Q st:=by
 refine aT (UT (by rw[hB.sz];lia) λxs c hk=>?_);refine aT (NO h0 hn h1 hnn (hB.arr c.1) ?_ λm hm1 hm2 hsm _=>bD (h m xs (c.wide (aM _) (by lia)) (by lia) hm2 hsm));intro p q g1 g2 g3;rw[hk p g1 (by lia),hk q (by lia) g3];exact hs _ _ (by lia) (by lia) (by lia)
def RU{lo:Nat}{st:SortSt}(h0:IntKeys a₀)(hn:lo+nrem<=a₀.size)(hnn:n+1<=nrem)(hB:TB a₀ st)(hs:Dsc (bT st) lo (lo+(n+1)))(h:∀m xs,Ch xs (bT st) lo (lo+nrem)->1<=m->m<=nrem->Seg xs lo (lo+m)->Q (some m) (fU st xs)) :
  wpS (aZ prog w) A E s (dPart lo n nrem) Q st:=by
 refine aT (sV (iP ⟨rfl,?_⟩))
 refine aT (gU (dB
  (I:=λx c z=>∃q xs,c=(none,x,q)/\z=fU st xs/\xs.Perm (bT st)/\(∀k,K xs k=K (bT st) k)/\Dsc xs lo (lo+x)/\q+1<=x/\∀i,lo+x-(q+1)<=i->i<lo+x->K xs i=K xs (lo+x-1))
  (Q:=λc z=>∃x q xs,n+1<=x/\x<=nrem/\c=(none,x,q)/\z=fU st xs/\xs.Perm (bT st)/\(∀k,K xs k=K (bT st) k)/\Dsc xs lo (lo+x)/\q+1<=x/\∀i,lo+x-(q+1)<=i->i<lo+x->K xs i=K xs (lo+x-1))
  ?step ?fin ⟨0,bT st,rfl,rfl,lF _,λ_=>rfl,hs,by lia,λi _ _=>by congr 1;lia⟩) ?post)
 case fin=>rintro c z ⟨q,xs,e1,e2,e3,e4,e5,e6,e7⟩;rw[show max (n+1) nrem=nrem by lia]at e1 e5 e6 e7;exact⟨nrem,q,xs,hnn,aM _,e1,e2,e3,e4,e5,e6,e7⟩
 case step =>
  rintro x c z hax hxn ⟨q,xs,rfl,rfl,hp,hk,hd,hq,he⟩;have hB':=hB.arr hp;have hsz:lo+x<=(bT (fU st xs)).size:=by rw[hB'.sz];lia
  refine aT (aDp hB' h0 (by lia) (by lia) ?_);by_cases hl:K xs (lo+x)<K xs (lo+x-1)
  . simp only [hl,decide_true,if_true];have hd1:=vC hd λ_=>eF hl;by_cases hq0:q>0
    . rw[if_pos hq0];refine aT (vQ hsz he λys y1 y2=>bD ?_);exact⟨0,ys,rfl,rfl,y1.trans hp,λk=>(y2 k).trans (hk k),DE hd1 y2,by lia,λi _ _=>by congr 1;lia⟩
    . rw[if_neg hq0];exact bD ⟨0,xs,rfl,rfl,hp,hk,hd1,by lia,λi _ _=>by congr 1;lia⟩
  . simp only [hl,decide_false,bS,if_false];refine aT (aDp hB' h0 (by lia) (by lia) ?_);by_cases hm:K xs (lo+x-1)<K xs (lo+x)
    . simp only[hm,decide_true,if_true];exact bD ⟨x,q,xs,hax,by lia,rfl,rfl,hp,hk,hd,hq,he⟩
    . simp only [hm,decide_false,bS,if_false];have eq:K xs (lo+x)=K xs (lo+x - 1):=by lia
      refine bD ⟨q+1,xs,rfl,rfl,hp,hk,vC hd λ_=>Int.le_of_eq eq,by lia,λi g1 g2=>?_⟩;rw[show lo+(x+1)-1=lo+x by lia];by_cases hi:i=lo+x
      . rw[hi]
      . rw[eq];exact he i (by lia) (by lia)
 case post =>
  rintro c z ⟨x,q,xs,hx1,hx2,rfl,rfl,hp,hk,hd,hq,he⟩;have hB':=hB.arr hp;have hsz:lo+x<=(bT (fU st xs)).size:=by rw[hB'.sz];lia
  have fin:∀ys:Array Keyed,ys.Perm xs->(∀k,K ys k=K xs k)->wpS (aZ prog w) A E s (dTail lo x nrem) Q (fU st ys):=λys y1 y2=>wp_tail h0 hn (by lia) hx2 (hB.arr (y1.trans hp)) (DE hd y2) λm zs c z1 z2 z3=>h m zs (c.tr ⟨y1.trans hp,λk _=>(y2 k).trans (hk k)⟩) z1 z2 z3;dsimp only;by_cases hq0:q>0
  . rw[if_pos hq0];exact aT (vQ hsz he λys y1 y2=>fin ys y1 y2)
  . rw[if_neg hq0];exact fin xs (lF _) λ_=>rfl
def wp_run{lo:Nat}{st:SortSt}(h0:IntKeys a₀)(hn:lo+nrem<=a₀.size)(h1:1<=nrem)(hB:TB a₀ st)(h:∀m xs,Ch xs (bT st) lo (lo+nrem)->1<=m->m<=nrem->Seg xs lo (lo+m)->Q (some m) (fU st xs)) :
  wpS (aZ prog w) A E s (countRun' lo nrem) Q st:=by
 rw[NG];refine aT (NO h0 hn (aM 1) h1 hB (λp q _ _ _=>by rw[show p=q by lia];exact dJ _) λn g1 g2 hs hor=>?_);dsimp only;by_cases hnn:n=nrem
 . rw[if_pos (by simpa using hnn)];exact bD (h n _ Ch.rfl' g1 g2 hs)
 rw[if_neg (by simpa using hnn)];have hl:=hor.resolve_left hnn;by_cases hgt:n>1
 . rw [if_pos hgt];refine aT (aDq hB h0 (by lia) (by lia) ?_);by_cases hr:K (bT st) lo<K (bT st) (lo+n-1)
   . simp[hr,decide_true,if_true];exact bD (h n _ Ch.rfl' g1 g2 hs)
   . simp [hr,decide_false,bS,if_false];have hall:∀k,lo<=k->k<lo+n->K (bT st) k=K (bT st) (lo+n-1):=λk k1 k2=>by
      have a1:=hs lo k (aM _) k1 k2;have a2:=hs k (lo+n-1) k1 (by lia) (by lia)
      lia
     refine aT (vQ (by rw[hB.sz];lia) hall λys y1 y2=>?_);refine RU h0 hn (by lia) (hB.arr y1) ?_ λm zs c z1 z2 z3=>h m zs (c.tr ⟨y1,λk _=>y2 k⟩) z1 z2 z3;refine DE ?_ y2;refine vC (λp q k1 k2 k3=>?_) λ_=>eF hl;rw[hall p k1 (by lia),hall q (by lia) k3];exact dJ _
 . rw [if_neg hgt];have e:n=1:=by lia
   refine RU h0 hn (by lia) hB ?_ h;exact vC (λp q _ _ _=>by rw[show p=q by lia];exact dJ _) λ_=>eF hl
def wp_ins{lo:Nat}{st:SortSt}(h0:IntKeys a₀)(hn:lo+n<=a₀.size)(hok:ok<=n)(hB:TB a₀ st)(hs:Seg (bT st) lo (lo+ok))(h:∀xs,Ch xs (bT st) lo (lo+n)->Seg xs lo (lo+n)->Q true (fU st xs)):wpS (aZ prog w) A E s (binarySort' lo n ok) Q st:=by
 refine aT (gU (dB (I:=λk c z=>∃xs,c=(none,())/\z=fU st xs/\Ch xs (bT st) lo (lo+n)/\Seg xs lo (lo+min k n))
  (Q:=λc z=>∃xs,c=(none,())/\z=fU st xs/\Ch xs (bT st) lo (lo+n)/\Seg xs lo (lo+n)) ?step ?fin ?init) ?post)
 case post=>rintro c z ⟨xs,rfl,rfl,c,hz⟩;exact bD (h xs c hz)
 case init =>
  refine⟨bT st,rfl,rfl,Ch.rfl',λp q k1 k2 k3=>?_⟩;by_cases g:ok=0
  . have e:p=q:=by lia
    rw[e];exact dJ _
  . exact hs p q k1 k2 (by lia)
 case fin=>rintro c z ⟨xs,e1,e2,e3,e4⟩;refine⟨xs,e1,e2,e3,?_⟩;rwa [show min (max (max ok 1) n) n=n by lia]at e4
 case step =>
  rintro k c z hak hkn ⟨xs,rfl,rfl,c,hz⟩;have hB':=hB.arr c.1
  refine aT (gU (dB (I:=λx e y=>y=fU st xs/\∃l r,e=(none,l,r)/\l<=r/\r<=k/\r-l<=k-x ∧
    (∀i,i<l->K xs (lo+i)<=K xs (lo+k))/\(∀i,r<=i->i<k->K xs (lo+k)<K xs (lo+i)))
   (Q:=λe y=>y=fU st xs/\∃l r,e=(none,l,r)/\l<=k ∧
     (∀i,i<l->K xs (lo+i)<=K xs (lo+k))/\(∀i,l<=i->i<k->K xs (lo+k)<K xs (lo+i))) ?a ?b ?c) ?d)
  case c=>exact⟨rfl,0,k,rfl,by lia,by lia,by lia,λi hi=>by lia,λi _ _=>by lia⟩
  case b =>
   rintro e y ⟨rfl,l,r,rfl,g1,g2,g3,g4,g5⟩;have e:l=r:=by lia
   subst e;exact⟨rfl,l,l,rfl,g2,g4,g5⟩
  case a =>
   rintro x e y _ hx ⟨rfl,l,r,rfl,g1,g2,g3,g4,g5⟩;by_cases hge:l≥r
   . rw [if_pos hge];have e:l=r:=by lia
     subst e;exact bD ⟨rfl,l,l,rfl,g2,g4,g5⟩
   . rw [if_neg hge];refine aT (aDp hB' h0 (by lia) (by lia) ?_);by_cases hl:K xs (lo+k)<K xs (lo+(l+r)/2)
     . simp[hl,decide_true,if_true];exact bD ⟨rfl,l,(l+r)/2,rfl,by lia,by lia,by lia,g4,λi k1 k2=>Int.lt_of_lt_of_le hl (hz _ _ (by lia) (by lia) (by lia))⟩
     . simp[hl,decide_false,bS,if_false];exact bD ⟨rfl,(l+r)/2+1,r,rfl,by lia,by lia,by lia,λi k1=>fF (hz (lo+i) (lo+(l+r)/2) (by lia) (by lia) (by lia)) (pA.mp hl),g5⟩
  case d =>
   rintro e y ⟨rfl,l,r,rfl,g1,g2,g3⟩;show wpS _ _ _ _ (do moveDown' (lo+k) (lo+l);pure (ForInStep.yield (none,()))) _ _;rw[moveDown'_eq];have hks:lo+k<xs.size:=by have:=hB'.sz;change xs.size=_ at this;lia
   have hkk:∀i,K (bubble xs (lo+k) (lo+k-(lo+l))) i=if i=lo+l then K xs (lo+k)else if lo+l<i/\i<=lo+k then K xs (i-1)else K xs i:=λi=>by rw[K_bubble hks (by lia),show lo+k-(lo+k-(lo+l))=lo+l by lia]
   refine aT (mQ (bD ⟨_,rfl,rfl,⟨(bubble_perm _ _ _).trans c.1,λi hi=>?_⟩,?_⟩))
   . show K (bubble xs (lo+k) (lo+k-(lo+l))) i=_;rw[hkk,if_neg (by lia),if_neg (by lia)];exact c.2 i hi
   . rw [show min (k+1) n=k+1 by lia];intro p q k1 k2 k3;rw [hkk,hkk];have lo':∀ i,lo<=i->i < lo+l->K xs i<=K xs (lo+k):=λi a b=>by have:=g2 (i - lo) (by lia);rwa [show lo+(i - lo)=i by lia]at this
     have hi':∀i,lo+l<=i->i<lo+k->K xs (lo+k)<=K xs i:=λi a b=>by have:=g3 (i-lo) (by lia) (by lia);rw[show lo+(i-lo)=i by lia]at this;exact eF this
     repeat' split
     all_goals first
      |(exfalso;lia)
      |exact dJ _
      |exact lo' _ (by lia) (by lia)
      |exact hi' _ (by lia) (by lia)
      |exact hz _ _ (by lia) (by lia) (by lia)
end
noncomputable def nJ:Bool->Keyed->Array Keyed->Nat->Nat->Nat->StateT SortSt Sem (Option Nat):=sortPriv% PySem.Builtin.gallop
noncomputable def galB(ask:Nat->StateT SortSt Sem (Option Bool))(n l₀ h₀:Nat):StateT SortSt Sem (Option Nat):=do
 let mut lo:=l₀
 let mut hi:=h₀
 for _ in [0:n] do
  if lo≥hi then break
  let mid:=lo+(hi-lo)/2
  let some yes <- ask mid | return none
  if yes then lo:=mid+1 else hi:=mid
 return some hi
noncomputable def gal(ask:Nat->StateT SortSt Sem (Option Bool))(n hint:Nat):StateT SortSt Sem (Option Nat):=do
 let mut last:=0
 let mut off:=1
 let mut lo:=0
 let mut hi:=0
 let some right <- ask hint | return none
 if right then
  let top:=n-hint
  for _ in [0:n] do
   if off≥top then break
   let some yes <- ask (hint+off) | return none
   if !yes then break
   last:=off
   off:=2*off+1
  lo:=hint+last+1
  hi:=hint+min off top
 else
  let top:=hint+1
  for _ in [0:n] do
   if off≥top then break
   let some yes <- ask (hint-off) | return none
   if yes then break
   last:=off
   off:=2*off+1
  lo:=hint+1-min off top
  hi:=hint-last
 galB ask n lo hi
def YG left key arr base n hint:nJ left key arr base n hint=gal (λi=>do
  let x <- lE arr (base+i)
  if left then lt' x key else return (<-lt' key x).map (!·)) n hint:=rfl
section
variable{prog:cF}{w:dE}{A:eX}{E:aN->bH->Prop}{s:bH}
def Cut(g:Nat->Bool)(n r:Nat):Prop:=r<=n/\(∀i,i<r->g i=true)/\∀i,r<=i->i<n->g i=false
variable{st:SortSt}{ask:Nat->StateT SortSt Sem (Option Bool)}{g:Nat->Bool}{n:Nat}(hask:∀(i:Nat) (R:Option Bool->SortSt->Prop),i<n->R (some (g i)) st->wpS (aZ prog w) A E s (ask i) R st)(mono:∀i j,i<=j->j<n->g j=true->g i=true)
include hask mono
def RW{l₀ h₀:Nat}{Q:Option Nat->SortSt->Prop}(hle:l₀<=h₀)(hh:h₀<=n)(hl:∀i,i<l₀->g i=true)(hg:∀i,h₀<=i->i<n->g i=false)(h:∀r,Cut g n r->Q (some r) st):wpS (aZ prog w) A E s (galB ask n l₀ h₀) Q st:=by
 refine aT (gU (dB
  (I:=λx c z=>z=st/\∃l r,c=(none,l,r)/\l<=r/\r<=n/\r-l<=n-x/\(∀i,i<l->g i=true)/\(∀i,r<=i->i<n->g i=false))
  (Q:=λc z=>z=st/\∃l,∃r,c=(none,l,r)/\Cut g n r) ?a ?b ⟨rfl,l₀,h₀,rfl,hle,hh,by lia,hl,hg⟩) ?c)
 case c=>rintro c z ⟨rfl,l,r,rfl,hc⟩;exact bD (h r hc)
 case b =>
  rintro c z ⟨rfl,l,r,rfl,g1,g2,g3,g4,g5⟩;have e:l=r:=by lia
  subst e;exact⟨rfl,l,l,rfl,g2,g4,g5⟩
 case a =>
  rintro x c z _ hx ⟨rfl,l,r,rfl,g1,g2,g3,g4,g5⟩;by_cases hge:l≥r
  . rw [if_pos hge];have e:l=r:=by lia
    subst e;exact bD ⟨rfl,l,l,rfl,g2,g4,g5⟩
  . rw [if_neg hge];refine aT (hask _ _ (by lia) ?_);cases hy:g (l+(r - l) / 2)with
    |true=>exact bD ⟨rfl,l+(r-l)/2+1,r,rfl,by lia,g2,by lia,λi hi=>mono i _ (by lia) (by lia) hy,g5⟩
    |false=>
      refine bD ⟨rfl,l,l+(r-l)/2,rfl,by lia,by lia,by lia,g4,λi h1 h2=>?_⟩;cases hi:g i with
      |false=>rfl
      |true=>rw[mono _ i h1 h2 hi]at hy;cases hy
def wp_gal{hint:Nat}{Q:Option Nat->SortSt->Prop}(hhint:hint<n)(h:∀r,Cut g n r->Q (some r) st):wpS (aZ prog w) A E s (gal ask n hint) Q st:=by
 refine aT (hask _ _ hhint ?_);cases hr:g hint with
 |true=>
   refine aT (gU (dB
    (I:=λx c z=>z=st/\∃l o,c=(none,l,o)/\l<o/\x+1<=o/\hint+l<n/\g (hint+l)=true)
    (Q:=λc z=>z=st/\∃l o,c=(none,l,o)/\l<o/\hint+l<n/\g (hint+l)=true/\(n-hint<=o\/(hint+o<n/\g (hint+o)=false))) ?a ?b ⟨rfl,0,1,rfl,by lia,by lia,hhint,hr⟩) ?c)
   case c =>
    rintro c z ⟨rfl,l,o,rfl,h1,h2,h3,h4⟩;refine RW hask mono (by lia) (by lia) (λi hi=>mono i _ (by lia) h2 h3) (λi i1 i2=>?_) h;rcases h4 with h4|⟨h4,h5⟩
    . lia
    . cases hi:g i with
      |false=>rfl
      |true=>rw[mono _ i (by lia) i2 hi]at h5;cases h5
   case b=>rintro c z ⟨rfl,l,o,rfl,h1,h2,h3,h4⟩;exact⟨rfl,l,o,rfl,h1,h3,h4,.inl (by lia)⟩
   case a =>
    rintro x c z _ hx ⟨rfl,l,o,rfl,h1,h2,h3,h4⟩;by_cases hge:o≥n-hint
    . rw[if_pos hge];exact bD ⟨rfl,l,o,rfl,h1,h3,h4,.inl hge⟩
    . rw [if_neg hge];refine aT (hask _ _ (by lia) ?_);cases hy:g (hint+o)with
      |true=>exact bD ⟨rfl,o,2*o+1,rfl,by lia,by lia,by lia,hy⟩
      |false=>exact bD ⟨rfl,l,o,rfl,h1,h3,h4,.inr ⟨by lia,hy⟩⟩
 |false=>
   refine aT (gU (dB
    (I:=λx c z=>z=st/\∃l o,c=(none,l,o)/\l<o/\x+1<=o/\l<=hint/\g (hint-l)=false)
    (Q:=λc z=>z=st/\∃l o,c=(none,l,o)/\l<o/\l<=hint/\g (hint-l)=false/\(hint+1<=o\/(o<=hint/\g (hint-o)=true))) ?a ?b ⟨rfl,0,1,rfl,by lia,by lia,by lia,hr⟩) ?c)
   case c =>
    rintro c z ⟨rfl,l,o,rfl,h1,h2,h3,h4⟩;refine RW hask mono (by lia) (by lia) (λi hi=>?_) (λi i1 i2=>?_) h
    . rcases h4 with h4|⟨h4,h5⟩
      . lia
      . exact mono i _ (by lia) (by lia) h5
    . cases hi:g i with
      |false=>rfl
      |true=>rw[mono _ i i1 i2 hi]at h3;cases h3
   case b=>rintro c z ⟨rfl,l,o,rfl,h1,h2,h3,h4⟩;exact⟨rfl,l,o,rfl,h1,h3,h4,.inl (by lia)⟩
   case a =>
    rintro x c z _ hx ⟨rfl,l,o,rfl,h1,h2,h3,h4⟩;by_cases hge:o≥hint+1
    . rw[if_pos hge];exact bD ⟨rfl,l,o,rfl,h1,h3,h4,.inl hge⟩
    . rw [if_neg hge];refine aT (hask _ _ (by lia) ?_);cases hy:g (hint - o)with
      |true=>exact bD ⟨rfl,l,o,rfl,h1,h3,h4,.inr ⟨by lia,hy⟩⟩
      |false=>exact bD ⟨rfl,o,2*o+1,rfl,by lia,by lia,by lia,hy⟩
end
section
variable{st:SortSt}
def RV(hk:kindOf st=iQ)(hx:IsI x)(hy:IsI y)(h:Q (some (decide (ky x<ky y))) st) :
  wpS (aZ prog w) A E s (lt' x y) Q st:=by
 obtain⟨x1,x2⟩:=x;obtain⟨y1,y2⟩:=y;obtain⟨a,t,ha⟩:=hx;obtain⟨b,u,hb⟩:=hy;subst ha hb;rw[lt'_eq];refine aT (rF ?_);rw[hk,keyLt'_oneType];refine aT (sV (wpAny_attempt (oneLt_int ⟨rfl,?_⟩)));exact bD h
def qY(hp:arr[i]?=some p)(h:Q p st):wpS (aZ prog w) A E s (lE arr i) Q st:=by rw[elem'_eq,hp];exact bD h
def xB(hk:kindOf st=iQ)(hkey:IsI key)(hI:∀p∈arr.toList,IsI p)(hb:base+n<=arr.size)(hs:Seg arr base (base+n))(hhint:hint<n)(h:∀r,r<=n->(∀i,base<=i->i<base+r->if left then K arr i<ky key else K arr i<=ky key)->(∀i,base+r<=i->i<base+n->if left then ky key<=K arr i else ky key<K arr i)->Q (some r) st) :
  wpS (aZ prog w) A E s (nJ left key arr base n hint) Q st:=by
 rw[YG];refine wp_gal (g:=λi=>if left then decide (K arr (base+i)<ky key)else decide (K arr (base+i)<=ky key)) ?_ ?_ hhint ?_
 . intro i R hi hR;have hi':base+i < arr.size:=by lia
   have e:=getElem?_pos arr (base+i) hi';have hp:IsI arr[base+i]:=hI _ (by simp);have eK:K arr (base+i)=ky arr[base+i]:=K_eq hi';refine aT (qY e ?_);cases left with
   |true=>refine RV hk hp hkey ?_;rw[<-eK];exact hR
   |false=>
     refine aT (RV hk hkey hp ?_);refine bD ?_;have:(Option.map (λx=>!x) (some (decide (ky key<ky arr[base+i]))))=some (decide (K arr (base+i)<=ky key)):=by
      rw[eK];by_cases hlt:ky key<ky arr[base+i]
      . simp[hlt,Int.not_le.mpr hlt]
      . simp[hlt,pA.mp hlt]
     rw[this];exact hR
 . intro i j hij hj hg;have:=hs (base+i) (base+j) (by lia) (by lia) (by lia);cases left<;>simp[bS,if_false,if_true,decide_eq_true_eq]at hg ⊢<;>lia
 . rintro r ⟨h1,h2,h3⟩;refine h r h1 (λi i1 i2=>?_) λi i1 i2=>?_
   . have:=h2 (i-base) (by lia);dsimp only at this;rw[show base+(i-base)=i by lia]at this;cases left<;>simpa using this
   . have:=h3 (i-base) (by lia) (by lia);dsimp only at this;rw[show base+(i-base)=i by lia]at this;cases left<;>simpa using this
end
def Sd(l:List Keyed):Prop:=l.Pairwise λp q=>ky p<=ky q
def Sd.app:Sd (l++r)↔Sd l/\Sd r/\∀p∈l,∀q∈r,ky p<=ky q:=by unfold Sd;rw[rA]
def tK(h:Sd a.toList)(hj:j<=a.size):Seg a i j:=by
 intro p q h1 h2 h3;rw[K_eq (show p<a.size by lia),K_eq (show q<a.size by lia)];by_cases e:p=q
 . subst e;exact dJ _
 . have:=bP.mp h p q (by simp;lia) (by simp;lia) (by lia);simpa[ky]using this
def yP(h:a.toList[i]?=some p):i<a.size/\K a i=ky p:=by
 obtain⟨h1,h2⟩:=aW.mp h;have h1':i<a.size:=by simpa using h1
 refine⟨h1',?_⟩;rw[K_eq h1',<-h2];simp[ky]
def DF{l:List Keyed}(h:p∈l.drop x):∃i,x<=i/\l[i]?=some p:=by obtain⟨i,hi,e⟩:=dA h;refine⟨x+i,by lia,?_⟩;rw[<-nE,aF hi,e]
def yC{l:List Keyed}(h:p∈(l.drop x).take k):∃i,x<=i/\i<x+k/\l[i]?=some p:=by
 obtain⟨i,hi,e⟩:=dA h;have hk:i<k:=by rw[dW]at hi;lia
 refine⟨x+i,by lia,by lia,?_⟩;rw[<-nE,<-fT hk,aF hi,e]
def vN{l:List Keyed}(h:p∈l.take k):∃i,i<k/\l[i]?=some p:=by
 obtain⟨i,hi,e⟩:=dA h;have hk:i<k:=by rw[dW]at hi;lia
 exact⟨i,hk,by rw[<-fT hk,aF hi,e]⟩
def AJ{a:Array Keyed}(h:Sd a.toList)(hp:a.toList[x]?=some p):∀q∈a.toList.drop x,ky p<=ky q:=by intro q hq;obtain⟨i,h1,h2⟩:=DF hq;obtain⟨g1,g2⟩:=yP hp;obtain⟨g3,g4⟩:=yP h2;rw[<-g2,<-g4];exact tK h (aM _) x i (aM _) h1 g3
def sd_take{a:Array Keyed}(h:Sd a.toList)(hp:a.toList[x]?=some p):∀q∈a.toList.take (x+1),ky q<=ky p:=by intro q hq;obtain⟨i,h1,h2⟩:=vN hq;obtain⟨g1,g2⟩:=yP hp;obtain⟨g3,g4⟩:=yP h2;rw[<-g2,<-g4];exact tK h (aM _) i x (bZ _) (by lia) g1
structure Mg(a b:List Keyed)(o:List Keyed)(x y:Nat):Prop where
 xa:x<=a.length
 yb:y<=b.length
 pm:(o++(a.drop x++b.drop y)).Perm (a++b)
 sd:Sd o
 le:∀p∈o,∀q,(q∈a.drop x\/q∈b.drop y)->ky p<=ky q
def Mg.stepA(m:Mg a b o x y)(ha:Sd a) t k(ht:t=(a.drop x).take k)(hk:x+k<=a.length)(h:∀p∈t,∀q∈b.drop y,ky p<=ky q) :
  Mg a b (o++t) (x+k) y:=by
 have e:a.drop x=t++a.drop (x+k):=by rw[ht,<-rD,fH]
 have hs:Sd (t++a.drop (x+k)):=by rw[<-e];exact cA (gZ ..) ha
 obtain⟨s1,s2,s3⟩:=Sd.app.mp hs;refine⟨hk,m.yb,?_,?_,?_⟩
 . have:=m.pm;rw[e]at this;rw[bK,<-bK t];exact this
 . exact Sd.app.mpr ⟨m.sd,s1,λp hp q hq=>m.le p hp q (.inl (by rw[e];exact bA _ hq))⟩
 . intro p hp q hq;rcases bE.mp hp with hp|hp
   . refine m.le p hp q ?_;rcases hq with hq|hq
     . exact .inl (by rw[e];exact aI _ hq)
     . exact .inr hq
   . rcases hq with hq|hq
     . exact s3 p hp q hq
     . exact h p hp q hq
def Mg.stepB(m:Mg a b o x y)(hb:Sd b) t k(ht:t=(b.drop y).take k)(hk:y+k<=b.length)(h:∀p∈t,∀q∈a.drop x,ky p<=ky q) :
  Mg a b (o++t) x (y+k):=by
 have e:b.drop y=t++b.drop (y+k):=by rw[ht,<-rD,fH]
 have hs:Sd (t++b.drop (y+k)):=by rw[<-e];exact cA (gZ ..) hb
 obtain⟨s1,s2,s3⟩:=Sd.app.mp hs;refine⟨m.xa,hk,?_,?_,?_⟩
 . refine List.Perm.trans ?_ m.pm;rw[e,bK];refine gK _ ?_;rw[<-bK,<-bK];exact iY _ lJ
 . exact Sd.app.mpr ⟨m.sd,s1,λp hp q hq=>m.le p hp q (.inr (by rw[e];exact bA _ hq))⟩
 . intro p hp q hq;rcases bE.mp hp with hp|hp
   . refine m.le p hp q ?_;rcases hq with hq|hq
     . exact .inl hq
     . exact .inr (by rw[e];exact aI _ hq)
   . rcases hq with hq|hq
     . exact h p hp q hq
     . exact s3 p hp q hq
def Dn(a b:List Keyed)(r:List Keyed):Prop:=r.Perm (a++b)/\Sd r
def Mg.endF(m:Mg a b o x y)(ha:Sd a)(hb:Sd b)(h:x=a.length\/y=b.length):Dn a b (o++a.drop x++b.drop y):=by
 refine⟨by rw[bK];exact m.pm,?_⟩;rw[bK];refine Sd.app.mpr ⟨m.sd,?_,λp hp q hq=>m.le p hp q (bE.mp hq)⟩;rcases h with h|h
 . rw[h,gC,cT];exact cA (gZ ..) hb
 . rw[h,gC,dM];exact cA (gZ ..) ha
def Mg.endA(m:Mg a b o x y)(hb:Sd b)(h:x+1=a.length)(hl:∀q∈b,∀p,a[a.length-1]?=some p->ky q<=ky p):Dn a b (o++b.drop y++a.drop x):=by
 obtain⟨p,hp⟩:=List.length_eq_one_iff.mp (show(a.drop x).length=1 by rw[iH];lia);have hp':a[a.length-1]?=some p:=by have:=nE (xs:=a) (i:=x) (j:=0);rw[hp]at this;rw[show a.length-1=x+0 by lia,<-this];rfl
 refine⟨?_,?_⟩
 . refine List.Perm.trans ?_ m.pm;rw[bK];exact gK _ lJ
 . rw [bK];refine Sd.app.mpr ⟨m.sd,Sd.app.mpr ⟨cA (gZ ..) hb,?_,?_⟩,?_⟩
   . rw[hp];exact dU _ _
   . intro q hq r hr;rw[hp]at hr;rw[aO.mp hr];exact hl q (rB hq) p hp'
   . intro q hq r hr;rcases bE.mp hr with hr|hr
     . exact m.le q hq r (.inr hr)
     . exact m.le q hq r (.inl hr)
noncomputable def CC:Array Keyed->Array Keyed->StateT SortSt Sem (Array Keyed):=sortPriv% PySem.Builtin.mergeLo
noncomputable def CD:Array Keyed->Array Keyed->StateT SortSt Sem (Array Keyed):=sortPriv% PySem.Builtin.mergeHi
noncomputable def setMG(g:Nat):StateT SortSt Sem Unit:=(sortPriv% PySem.Builtin.setMinGallop) g
abbrev gst(z:SortSt)(g:Nat):SortSt:=SortSt.mk' (kindOf z) (bT z) (bQ z) g (DS z)
abbrev GS:=Option (Array Keyed)×Array Keyed×Nat×Nat×Nat×Nat×Nat
abbrev OS:=Option (Array Keyed)×Array Keyed×Nat×Nat×Nat×Nat
abbrev TSt:=Option (Array Keyed)×Array Keyed×Nat×Nat×Nat
noncomputable def fin(a b o:Array Keyed)(x y:Nat):Array Keyed:=o++a.extract x a.size++b.extract y b.size
noncomputable def finA(a b o:Array Keyed)(x y:Nat):Array Keyed:=o++b.extract y b.size++a.extract x a.size
noncomputable def lo3(a b o:Array Keyed)(x y mg ca cb:Nat):StateT SortSt Sem (ForInStep GS):=do
 let p <- lE a x
 if (x+1+1==a.size)=true then pure (ForInStep.done (some (finA a b (o.push p) (x+1) y),o.push p,x+1,y,mg,ca,cb))
 else if (decide (ca<7)&&decide (cb<7))=true then pure (ForInStep.done (none,o.push p,x+1,y,mg,ca,cb))
 else pure (ForInStep.yield (none,o.push p,x+1,y,mg,ca,cb))
noncomputable def lo2(a b o:Array Keyed)(x y mg ca cb:Nat):StateT SortSt Sem (ForInStep GS):=do
 let p <- lE b y
 if (y+1==b.size)=true then pure (ForInStep.done (some (fin a b (o.push p) x (y+1)),o.push p,x,y+1,mg,ca,cb))
 else do
  let q <- lE a x
  let r <- nJ true q b (y+1) (b.size-(y+1)) 0
  match r with
   |some k=>
     if k>0 then
      if (y+1+k==b.size)=true then pure (ForInStep.done (some (fin a b (o.push p++b.extract (y+1) (y+1+k)) x (y+1+k)),o.push p++b.extract (y+1) (y+1+k),x,y+1+k,mg,ca,k))
      else lo3 a b (o.push p++b.extract (y+1) (y+1+k)) x (y+1+k) mg ca k
     else lo3 a b (o.push p) x (y+1) mg ca k
   |_=>pure (ForInStep.done (some (fin a b (o.push p) x (y+1)),o.push p,x,y+1,mg,ca,cb))
noncomputable def lo1(a b o:Array Keyed)(x y mg ca cb:Nat):StateT SortSt Sem (ForInStep GS):=do
 setMG mg
 let q <- lE b y
 let r <- nJ false q a x (a.size-x) 0
 match r with
  |some k=>
    if k>0 then
     if (x+k+1==a.size)=true then pure (ForInStep.done (some (finA a b (o++a.extract x (x+k)) (x+k) y),o++a.extract x (x+k),x+k,y,mg,k,cb))
     else if (x+k==a.size)=true then pure (ForInStep.done (some (fin a b (o++a.extract x (x+k)) (x+k) y),o++a.extract x (x+k),x+k,y,mg,k,cb))
     else lo2 a b (o++a.extract x (x+k)) (x+k) y mg k cb
    else lo2 a b o x y mg k cb
  |_=>pure (ForInStep.done (some (fin a b o x y),o,x,y,mg,ca,cb))
noncomputable def loO(a b:Array Keyed)(mg:Nat)(c:OS):StateT SortSt Sem (ForInStep OS):=do
 let p <- lE b c.2.2.2.1
 let q <- lE a c.2.2.1
 let r <- lt' p q
 match r with
  |some bw=>
    if bw=true then do
     let p <- lE b c.2.2.2.1
     if (c.2.2.2.1+1==b.size)=true then pure (ForInStep.done (some (fin a b (c.2.1.push p) c.2.2.1 (c.2.2.2.1+1)),c.2.1.push p,c.2.2.1,c.2.2.2.1+1,0,c.2.2.2.2.2+1))
     else if c.2.2.2.2.2+1≥mg then pure (ForInStep.done (none,c.2.1.push p,c.2.2.1,c.2.2.2.1+1,0,c.2.2.2.2.2+1))
     else pure (ForInStep.yield (none,c.2.1.push p,c.2.2.1,c.2.2.2.1+1,0,c.2.2.2.2.2+1))
    else do
     let p <- lE a c.2.2.1
     if (c.2.2.1+1+1==a.size)=true then pure (ForInStep.done (some (finA a b (c.2.1.push p) (c.2.2.1+1) c.2.2.2.1),c.2.1.push p,c.2.2.1+1,c.2.2.2.1,c.2.2.2.2.1+1,0))
     else if c.2.2.2.2.1+1≥mg then pure (ForInStep.done (none,c.2.1.push p,c.2.2.1+1,c.2.2.2.1,c.2.2.2.2.1+1,0))
     else pure (ForInStep.yield (none,c.2.1.push p,c.2.2.1+1,c.2.2.2.1,c.2.2.2.2.1+1,0))
  |_=>pure (ForInStep.done (some (fin a b c.2.1 c.2.2.1 c.2.2.2.1),c.2.1,c.2.2.1,c.2.2.2.1,c.2.2.2.2.1,c.2.2.2.2.2))
noncomputable def loT(a b:Array Keyed)(c:TSt):StateT SortSt Sem (ForInStep TSt):=do
 let d <- forIn [0:a.size+b.size] ((none,c.2.1,c.2.2.1,c.2.2.2.1,0,0):OS) λ_ d=>loO a b c.2.2.2.2 d
 match d.1 with
  |some r=>pure (ForInStep.done (some r,d.2.1,d.2.2.1,d.2.2.2.1,c.2.2.2.2))
  |none=>do
    liftM (rule "list.sort.gallop")
    let e <- forIn [0:a.size+b.size] ((none,d.2.1,d.2.2.1,d.2.2.2.1,c.2.2.2.2+1,d.2.2.2.2.1,d.2.2.2.2.2):GS) λ_ e =>if e.2.2.2.2.1>1 then lo1 a b e.2.1 e.2.2.1 e.2.2.2.1 (e.2.2.2.2.1-1) e.2.2.2.2.2.1 e.2.2.2.2.2.2 else lo1 a b e.2.1 e.2.2.1 e.2.2.2.1 e.2.2.2.2.1 e.2.2.2.2.2.1 e.2.2.2.2.2.2
    match e.1 with
     |some r=>pure (ForInStep.done (some r,e.2.1,e.2.2.1,e.2.2.2.1,e.2.2.2.2.1))
     |none=>do
       setMG (e.2.2.2.2.1+1)
       pure (ForInStep.yield (none,e.2.1,e.2.2.1,e.2.2.2.1,e.2.2.2.2.1+1))
noncomputable def mLo(a b:Array Keyed):StateT SortSt Sem (Array Keyed):=do
 liftM (rule "list.sort.merge-lo")
 let p <- lE b 0
 if (1==b.size)=true then pure (fin a b #[p] 0 1)
 else if (0+1==a.size)=true then pure (finA a b #[p] 0 1)
 else do
  let z <- get
  let c <- forIn [0:a.size+b.size] ((none,#[p],0,1,pX z):TSt) λ_ c=>loT a b c
  match c.1 with
   |some r=>pure r
   |none=>liftM (unsupported "internal:list.sort.merge-bound" : Sem (Array Keyed))
def QF a b:CC a b=mLo a b:=by kernel_rfl
structure Two(a b:Array Keyed):Prop where
 sa:Sd a.toList
 sb:Sd b.toList
 ia:∀p∈a.toList,IsI p
 ib:∀p∈b.toList,IsI p
 na:1<=a.size
 nb:1<=b.size
 fst:∀p∈a.toList,∀q,b.toList[0]?=some q->ky q<=ky p
 lst:∀q∈b.toList,∀p,a.toList[a.toList.length-1]?=some p->ky q<=ky p
def aEq a b o x y:(fin a b o x y).toList=o.toList++a.toList.drop x++b.toList.drop y:=by
 unfold fin;simp only[dI,eU,List.extract_eq_drop_take];congr 1
 . congr 1;rw[cQ (by simp)]
 . rw[cQ (by simp)]
def YJ a b o x y:(finA a b o x y).toList=o.toList++b.toList.drop y++a.toList.drop x:=by
 unfold finA;simp only[dI,eU,List.extract_eq_drop_take];congr 1
 . congr 1;rw[cQ (by simp)]
 . rw[cQ (by simp)]
def vK(a:Array Keyed) x k:(a.extract x (x+k)).toList=(a.toList.drop x).take k:=by
 simp only[eU,List.extract_eq_drop_take];congr 1
 lia
def vM{l:List Keyed}(h:l[x]?=some p):[p]=(l.drop x).take 1:=by obtain⟨h1,h2⟩:=aW.mp h;rw[cO h1,h2];rfl
def jU{a:Array Keyed}(h:x<a.size):∃p,a[x]?=some p/\a.toList[x]?=some p/\p∈a.toList:=
 ⟨a[x],getElem?_pos a x h,by rw[cM];exact getElem?_pos a x h,by simp⟩
section
variable{a b:Array Keyed}
structure In(a b o:Array Keyed)(x y:Nat):Prop where
 mg:Mg a.toList b.toList o.toList x y
 x1:x+1<a.size
 y1:y<b.size
def Told(a b:Array Keyed)(r:Array Keyed):Prop:=Dn a.toList b.toList r.toList
def Mg.pushA{o:Array Keyed}(T:Two a b)(m:Mg a.toList b.toList o.toList x y)(hp:a.toList[x]?=some p)(h:∀q∈b.toList.drop y,ky p<=ky q) :
  Mg a.toList b.toList (o.push p).toList (x+1) y:=by
 rw[eD];refine m.stepA T.sa [p] 1 (vM hp) ?_ λq hq=>by rw[aO.mp hq];exact h
 obtain⟨h1,_⟩:=aW.mp hp
 lia
def Mg.pushB{o:Array Keyed}(T:Two a b)(m:Mg a.toList b.toList o.toList x y)(hp:b.toList[y]?=some p)(h:∀q∈a.toList.drop x,ky p<=ky q) :
  Mg a.toList b.toList (o.push p).toList x (y+1):=by
 rw[eD];refine m.stepB T.sb [p] 1 (vM hp) ?_ λq hq=>by rw[aO.mp hq];exact h
 obtain⟨h1,_⟩:=aW.mp hp
 lia
def Mg.told(T:Two a b)(m:Mg a.toList b.toList o.toList x y)(h:x=a.size\/y=b.size):Told a b (fin a b o x y):=by unfold Told;rw[aEq];exact m.endF T.sa T.sb (by simpa using h)
def Mg.toldA(T:Two a b)(m:Mg a.toList b.toList o.toList x y)(h:x+1=a.size):Told a b (finA a b o x y):=by unfold Told;rw[YJ];exact m.endA T.sb (by simpa using h) T.lst
def GOk(a b:Array Keyed)(st:SortSt)(n:Nat)(c:GS)(z:SortSt):Prop:=
 (∃g,z=gst st g)/\((∃r o x y mg ca cb,c=(some r,o,x,y,mg,ca,cb)/\Told a b r)\/∃o x y mg ca cb,c=(none,o,x,y,mg,ca,cb)/\In a b o x y/\n<=x+y)
def OOk(a b:Array Keyed)(st:SortSt)(n:Nat)(c:OS)(z:SortSt):Prop:=
 (∃g,z=gst st g)/\((∃r o x y ca cb,c=(some r,o,x,y,ca,cb)/\Told a b r)\/∃o x y ca cb,c=(none,o,x,y,ca,cb)/\In a b o x y/\n<=x+y)
def aAh{st:SortSt}(T:Two a b)(m:In a b o x y)(hn:n<=x+y+1)(hle:∀p,a.toList[x]?=some p->∀q∈b.toList.drop y,ky p<=ky q)(hd:∀c,GOk a b st n c (gst st g)->Q (.done c) (gst st g))(hy:∀o x y mg ca cb,In a b o x y->n<=x+y->Q (.yield (none,o,x,y,mg,ca,cb)) (gst st g)) :
  wpS (aZ prog w) A E s (lo3 a b o x y mg ca cb) Q (gst st g):=by
 obtain⟨p,p1,p2,p3⟩:=jU (a:=a) (x:=x) (by have:=m.x1;lia);have m':=m.mg.pushA T p2 (hle p p2);refine aT (qY p1 ?_);by_cases h1:x+1+1=a.size
 . rw[if_pos (by simpa using h1)];exact bD (hd _ ⟨⟨g,rfl⟩,.inl ⟨_,_,_,_,_,_,_,rfl,m'.toldA T h1⟩⟩)
 . rw [if_neg (by simpa using h1)];have hin:In a b (o.push p) (x+1) y:=⟨m',by have:=m.x1;lia,m.y1⟩
   split
   . exact bD (hd _ ⟨⟨g,rfl⟩,.inr ⟨_,_,_,_,_,_,rfl,hin,by lia⟩⟩)
   . exact bD (hy _ _ _ _ _ _ hin (by lia))
def aAi{st:SortSt}(hk:kindOf st=iQ)(T:Two a b)(m:In a b o x y)(hn:n<=x+y+1)(hle:∀p,b.toList[y]?=some p->∀q∈a.toList.drop x,ky p<=ky q)(hd:∀c,GOk a b st n c (gst st g)->Q (.done c) (gst st g))(hy:∀o x y mg ca cb,In a b o x y->n<=x+y->Q (.yield (none,o,x,y,mg,ca,cb)) (gst st g)) :
  wpS (aZ prog w) A E s (lo2 a b o x y mg ca cb) Q (gst st g):=by
 obtain⟨p,p1,p2,p3⟩:=jU m.y1;obtain⟨q,q1,q2,q3⟩:=jU (a:=a) (x:=x) (by have:=m.x1;lia);have m':=m.mg.pushB T p2 (hle p p2);refine aT (qY p1 ?_);by_cases h1:y+1=b.size
 . rw[if_pos (by simpa using h1)];exact bD (hd _ ⟨⟨g,rfl⟩,.inl ⟨_,_,_,_,_,_,_,rfl,m'.told T (.inr h1)⟩⟩)
 . rw [if_neg (by simpa using h1)];have hy1:y+1 < b.size:=by have:=m.y1;lia
   refine aT (qY q1 ?_);refine aT (xB hk (T.ia q q3) T.ib (by lia) (tK T.sb (by lia)) (by lia) λk k1 k2 k3=>?_);dsimp only;have hrest:∀j,j=y+1+k->∀p',a.toList[x]?=some p'->∀u∈b.toList.drop j,ky p'<=ky u:=by rintro j rfl p' hp' u hu;rw[q2]at hp';cases hp';obtain⟨i,i1,i2⟩:=DF hu;obtain⟨i3,i4⟩:=yP i2;rw[<-i4];exact k3 i i1 (by lia)
   by_cases hk0:k>0
   . rw [if_pos hk0];have m2:Mg a.toList b.toList (o.push p++b.extract (y+1) (y+1+k)).toList x (y+1+k):=by
      rw[dI];refine m'.stepB T.sb _ k (vK b (y+1) k) (by rw[bG];lia) λu hu v hv=>?_;rw[vK]at hu;obtain⟨i,i1,i2,i3⟩:=yC hu;obtain⟨i4,i5⟩:=yP i3;have:=k2 i i1 i2;have h2:=AJ T.sa q2 v hv
      lia
     by_cases h2:y+1+k=b.size
     . rw[if_pos (by simpa using h2)];exact bD (hd _ ⟨⟨g,rfl⟩,.inl ⟨_,_,_,_,_,_,_,rfl,m2.told T (.inr h2)⟩⟩)
     . rw[if_neg (by simpa using h2)];exact aAh T ⟨m2,m.x1,by lia⟩ (by lia) (hrest _ rfl) hd hy
   . rw[if_neg hk0];exact aAh T ⟨m',m.x1,hy1⟩ (by lia) (hrest _ (by lia)) hd hy
def aAj{st:SortSt}(hk:kindOf st=iQ)(T:Two a b)(m:In a b o x y)(hn:n<=x+y+1)(hd:∀c z,GOk a b st n c z->Q (.done c) z)(hy:∀o x y mg ca cb g,In a b o x y->n<=x+y->Q (.yield (none,o,x,y,mg,ca,cb)) (gst st g)) :
  wpS (aZ prog w) A E s (lo1 a b o x y mg ca cb) Q (gst st g):=by
 obtain⟨p,p1,p2,p3⟩:=jU m.y1;have hx1:=m.x1;unfold lo1;refine aT (mQ ?_);refine aT (qY p1 ?_);refine aT (xB hk (T.ib p p3) T.ia (by lia) (tK T.sa (by lia)) (by lia) λk k1 k2 k3=>?_);dsimp only;have hrest:∀j,j=x+k->∀p',b.toList[y]?=some p'->∀u∈a.toList.drop j,ky p'<=ky u:=by rintro j rfl p' hp' u hu;rw[p2]at hp';cases hp';obtain⟨i,i1,i2⟩:=DF hu;obtain⟨i3,i4⟩:=yP i2;rw[<-i4];exact eF (k3 i i1 (by lia))
 by_cases hk0:k>0
 . rw [if_pos hk0];have m2:Mg a.toList b.toList (o++a.extract x (x+k)).toList (x+k) y:=by
    rw[dI];refine m.mg.stepA T.sa _ k (vK a x k) (by rw[bG];lia) λu hu v hv=>?_;rw[vK]at hu;obtain⟨i,i1,i2,i3⟩:=yC hu;obtain⟨i4,i5⟩:=yP i3;have:=k2 i i1 i2;have h2:=AJ T.sb p2 v hv
    lia
   by_cases h1:x+k+1=a.size
   . rw[if_pos (by simpa using h1)];exact bD (hd _ _ ⟨⟨_,rfl⟩,.inl ⟨_,_,_,_,_,_,_,rfl,m2.toldA T h1⟩⟩)
   rw[if_neg (by simpa using h1)];by_cases h2:x+k=a.size
   . rw[if_pos (by simpa using h2)];exact bD (hd _ _ ⟨⟨_,rfl⟩,.inl ⟨_,_,_,_,_,_,_,rfl,m2.told T (.inl h2)⟩⟩)
   rw[if_neg (by simpa using h2)];exact aAi hk T ⟨m2,by lia,m.y1⟩ (by lia) (hrest _ rfl) (λc h=>hd c _ h) λo x y mg' ca cb=>hy o x y mg' ca cb mg
 . rw[if_neg hk0];exact aAi hk T m hn (hrest _ (by lia)) (λc h=>hd c _ h) λo x y mg' ca cb=>hy o x y mg' ca cb mg
def wp_loO{st:SortSt}(hk:kindOf st=iQ)(T:Two a b)(m:In a b o x y)(hn:n<=x+y+1)(hd:∀c,OOk a b st n c (gst st g)->Q (.done c) (gst st g))(hy:∀o x y ca cb,In a b o x y->n<=x+y->Q (.yield (none,o,x,y,ca,cb)) (gst st g)) :
  wpS (aZ prog w) A E s (loO a b mg (none,o,x,y,ca,cb)) Q (gst st g):=by
 obtain⟨p,p1,p2,p3⟩:=jU m.y1;obtain⟨q,q1,q2,q3⟩:=jU (a:=a) (x:=x) (by have:=m.x1;lia);have hx1:=m.x1;have hy1:=m.y1;unfold loO;refine aT (qY p1 (aT (qY q1 ?_)));refine aT (RV hk (T.ib p p3) (T.ia q q3) ?_);dsimp only;by_cases hl:ky p<ky q
 . rw [if_pos (by simpa using hl)];have m':=m.mg.pushB T p2 λu hu=>fF (eF hl) (AJ T.sa q2 u hu);refine aT (qY p1 ?_);by_cases h1:y+1=b.size
   . rw[if_pos (by simpa using h1)];exact bD (hd _ ⟨⟨_,rfl⟩,.inl ⟨_,_,_,_,_,_,rfl,m'.told T (.inr h1)⟩⟩)
   rw[if_neg (by simpa using h1)];have hin:In a b (o.push p) x (y+1):=⟨m',hx1,by lia⟩
   split
   . exact bD (hd _ ⟨⟨_,rfl⟩,.inr ⟨_,_,_,_,_,rfl,hin,by lia⟩⟩)
   . exact bD (hy _ _ _ _ _ hin (by lia))
 . rw [if_neg (by simpa using hl)];have m':=m.mg.pushA T q2 λu hu=>fF (pA.mp hl) (AJ T.sb p2 u hu);refine aT (qY q1 ?_);by_cases h1:x+1+1=a.size
   . rw[if_pos (by simpa using h1)];exact bD (hd _ ⟨⟨_,rfl⟩,.inl ⟨_,_,_,_,_,_,rfl,m'.toldA T h1⟩⟩)
   rw[if_neg (by simpa using h1)];have hin:In a b (o.push q) (x+1) y:=⟨m',by lia,hy1⟩
   split
   . exact bD (hd _ ⟨⟨_,rfl⟩,.inr ⟨_,_,_,_,_,rfl,hin,by lia⟩⟩)
   . exact bD (hy _ _ _ _ _ hin (by lia))
def wp_loT{st:SortSt}(hk:kindOf st=iQ)(T:Two a b)(m:In a b o x y)(hd:∀r o x y mg g,Told a b r->Q (.done (some r,o,x,y,mg)) (gst st g))(hy:∀o' x' y' mg g,In a b o' x' y'->x+y+1<=x'+y'->Q (.yield (none,o',x',y',mg)) (gst st g)) :
  wpS (aZ prog w) A E s (loT a b (none,o,x,y,mg)) Q (gst st g):=by
 have hna:=T.na;unfold loT
 refine aT (gU (dB (I:=λi c z=>∃o' x' y' ca cb g,c=(none,o',x',y',ca,cb)/\z=gst st g/\In a b o' x' y'/\x+y+i<=x'+y')
  (Q:=λc z=>OOk a b st (x+y+1) c z) ?s1 ?s2 ⟨o,x,y,0,0,g,rfl,rfl,m,by lia⟩) ?s3)
 case s2=>rintro c z ⟨o',x',y',ca,cb,g',rfl,rfl,m',hle⟩;exact⟨⟨_,rfl⟩,.inr ⟨_,_,_,_,_,rfl,m',by lia⟩⟩
 case s1 =>
  rintro i c z _ hi ⟨o',x',y',ca,cb,g',rfl,rfl,m',hle⟩;refine wp_loO hk T m' (by lia) (λc hc=>?_) λo2 x2 y2 ca cb m2 h2=>⟨o2,x2,y2,ca,cb,g',rfl,rfl,m2,h2⟩
  obtain⟨h1,h2⟩:=hc;refine⟨h1,?_⟩;rcases h2 with h2|⟨o2,x2,y2,ca,cb,e,m2,h2⟩
  . exact .inl h2
  . exact .inr ⟨o2,x2,y2,ca,cb,e,m2,by lia⟩
 case s3 =>
  rintro c z ⟨⟨g',rfl⟩,hc⟩;rcases hc with⟨r,o2,x2,y2,ca,cb,rfl,hr⟩|⟨o2,x2,y2,ca,cb,rfl,m2,h2⟩
  . dsimp only;exact bD (hd _ _ _ _ _ _ hr)
  . dsimp only;refine aT (sV (iP ⟨rfl,?_⟩))
    refine aT (gU (dB (I:=λi c z=>∃o' x' y' mg ca cb g,c=(none,o',x',y',mg,ca,cb)/\z=gst st g/\In a b o' x' y'/\x+y+1<=x'+y')
     (Q:=λc z=>GOk a b st (x+y+1) c z) ?s4 ?s5 ⟨o2,x2,y2,mg+1,ca,cb,g',rfl,rfl,m2,h2⟩) ?s6)
    case s5=>rintro c z ⟨o',x',y',mg',ca,cb,g',rfl,rfl,m',hle⟩;exact⟨⟨_,rfl⟩,.inr ⟨_,_,_,_,_,_,rfl,m',by lia⟩⟩
    case s4 =>
     rintro i c z _ hi ⟨o',x',y',mg',ca,cb,g',rfl,rfl,m',hle⟩;split
     . exact aAj hk T m' (by lia) (λc z hc=>hc) λo2 x2 y2 mg ca cb g m2 h2=>⟨o2,x2,y2,mg,ca,cb,g,rfl,rfl,m2,h2⟩
     . exact aAj hk T m' (by lia) (λc z hc=>hc) λo2 x2 y2 mg ca cb g m2 h2=>⟨o2,x2,y2,mg,ca,cb,g,rfl,rfl,m2,h2⟩
    case s6 =>
     rintro c z ⟨⟨g',rfl⟩,hc⟩;rcases hc with⟨r,o2,x2,y2,mg',ca,cb,rfl,hr⟩|⟨o2,x2,y2,mg',ca,cb,rfl,m2,h2⟩
     . dsimp only;exact bD (hd _ _ _ _ _ _ hr)
     . dsimp only;exact aT (mQ (bD (hy _ _ _ _ _ m2 h2)))
def OF{st:SortSt}(hk:kindOf st=iQ)(T:Two a b)(h:∀r g,Told a b r->Q r (gst st g)) :
  wpS (aZ prog w) A E s (CC a b) Q st:=by
 have hna:=T.na;have hnb:=T.nb;obtain⟨p,p1,p2,p3⟩:=jU (a:=b) (x:=0) (by lia);have m0:Mg a.toList b.toList [] 0 0:=⟨bZ _,bZ _,by simp,List.Pairwise.nil,λp hp=>absurd hp (by simp)⟩
 have m1:=m0;have m:=m1.pushB T p2 λq hq=>T.fst q (rB hq) p p2;rw[QF];refine aT (sV (iP ⟨rfl,?_⟩));refine aT (qY p1 ?_);by_cases h1:1=b.size
 . rw[if_pos (by simpa using h1)];exact bD (h _ (pX st) (m.told T (.inr h1)))
 rw[if_neg (by simpa using h1)];by_cases h2:0+1=a.size
 . rw[if_pos (by simpa using h2)];exact bD (h _ (pX st) (m.toldA T h2))
 rw[if_neg (by simpa using h2)];refine aT (rF ?_)
 refine aT (gU (dB (I:=λi c z=>∃o x y mg g,c=(none,o,x,y,mg)/\z=gst st g/\In a b o x y/\i+1<=x+y)
  (Q:=λc z=>∃r o x y mg g,c=(some r,o,x,y,mg)/\z=gst st g/\Told a b r) ?s1 ?s2 ⟨#[p],0,1,_,pX st,rfl,rfl,⟨m,by lia,by lia⟩,by lia⟩) ?s3)
 case s2 =>
  rintro c z ⟨o,x,y,mg,g,rfl,rfl,m,hle⟩;have:=m.x1;have:=m.y1
  lia
 case s1=>rintro i c z _ hi ⟨o,x,y,mg,g,rfl,rfl,m,hle⟩;exact wp_loT hk T m (λr o x y mg g hr=>⟨r,o,x,y,mg,g,rfl,rfl,hr⟩) λo x y mg g m h=>⟨o,x,y,mg,g,rfl,rfl,m,by lia⟩
 case s3=>rintro c z ⟨r,o,x,y,mg,g,rfl,rfl,hr⟩;exact bD (h r g hr)
end
noncomputable def fiH(a b o:Array Keyed)(x y:Nat):Array Keyed:=a.extract 0 x++b.extract 0 y++o.reverse
noncomputable def fiB(a b o:Array Keyed)(x y:Nat):Array Keyed:=b.extract 0 y++a.extract 0 x++o.reverse
abbrev GH:=Option (Array Keyed)×Nat×Nat×Array Keyed×Nat×Nat×Nat
abbrev OH:=Option (Array Keyed)×Nat×Nat×Array Keyed×Nat×Nat
abbrev TH:=Option (Array Keyed)×Nat×Nat×Array Keyed×Nat
noncomputable def hi3(a b o:Array Keyed)(x y mg ca cb:Nat):StateT SortSt Sem (ForInStep GH):=do
 let p <- lE a (x-1)
 if (x-1==0)=true then pure (ForInStep.done (some (fiH a b (o.push p) (x-1) y),x-1,y,o.push p,mg,ca,cb))
 else if (decide (ca<7)&&decide (cb<7))=true then pure (ForInStep.done (none,x-1,y,o.push p,mg,ca,cb))
 else pure (ForInStep.yield (none,x-1,y,o.push p,mg,ca,cb))
noncomputable def hi2(a b o:Array Keyed)(x y mg ca cb:Nat):StateT SortSt Sem (ForInStep GH):=do
 let p <- lE b (y-1)
 if (y-1==1)=true then pure (ForInStep.done (some (fiB a b (o.push p) x (y-1)),x,y-1,o.push p,mg,ca,cb))
 else do
  let q <- lE a (x-1)
  let r <- nJ true q b 0 (y-1) (y-1-1)
  match r with
   |some t=>
     if y-1-t>0 then
      if (t==1)=true then pure (ForInStep.done (some (fiB a b (o.push p++(b.extract t (y-1)).reverse) x t),x,t,o.push p++(b.extract t (y-1)).reverse,mg,ca,y-1-t))
      else if (t==0)=true then pure (ForInStep.done (some (fiH a b (o.push p++(b.extract t (y-1)).reverse) x t),x,t,o.push p++(b.extract t (y-1)).reverse,mg,ca,y-1-t))
      else hi3 a b (o.push p++(b.extract t (y-1)).reverse) x t mg ca (y-1-t)
     else hi3 a b (o.push p) x (y-1) mg ca (y-1-t)
   |_=>pure (ForInStep.done (some (fiH a b (o.push p) x (y-1)),x,y-1,o.push p,mg,ca,cb))
noncomputable def hi1(a b o:Array Keyed)(x y mg ca cb:Nat):StateT SortSt Sem (ForInStep GH):=do
 setMG mg
 let q <- lE b (y-1)
 let r <- nJ false q a 0 x (x-1)
 match r with
  |some t=>
    if x-t>0 then
     if (t==0)=true then pure (ForInStep.done (some (fiH a b (o++(a.extract t x).reverse) t y),t,y,o++(a.extract t x).reverse,mg,x-t,cb))
     else hi2 a b (o++(a.extract t x).reverse) t y mg (x-t) cb
    else hi2 a b o x y mg (x-t) cb
  |_=>pure (ForInStep.done (some (fiH a b o x y),x,y,o,mg,ca,cb))
noncomputable def hiO(a b:Array Keyed)(mg:Nat)(c:OH):StateT SortSt Sem (ForInStep OH):=do
 let p <- lE b (c.2.2.1-1)
 let q <- lE a (c.2.1-1)
 let r <- lt' p q
 match r with
  |some aw=>
    if aw=true then do
     let p <- lE a (c.2.1-1)
     if (c.2.1-1==0)=true then pure (ForInStep.done (some (fiH a b (c.2.2.2.1.push p) (c.2.1-1) c.2.2.1),c.2.1-1,c.2.2.1,c.2.2.2.1.push p,c.2.2.2.2.1+1,0))
     else if c.2.2.2.2.1+1≥mg then pure (ForInStep.done (none,c.2.1-1,c.2.2.1,c.2.2.2.1.push p,c.2.2.2.2.1+1,0))
     else pure (ForInStep.yield (none,c.2.1-1,c.2.2.1,c.2.2.2.1.push p,c.2.2.2.2.1+1,0))
    else do
     let p <- lE b (c.2.2.1-1)
     if (c.2.2.1-1==1)=true then pure (ForInStep.done (some (fiB a b (c.2.2.2.1.push p) c.2.1 (c.2.2.1-1)),c.2.1,c.2.2.1-1,c.2.2.2.1.push p,0,c.2.2.2.2.2+1))
     else if c.2.2.2.2.2+1≥mg then pure (ForInStep.done (none,c.2.1,c.2.2.1-1,c.2.2.2.1.push p,0,c.2.2.2.2.2+1))
     else pure (ForInStep.yield (none,c.2.1,c.2.2.1-1,c.2.2.2.1.push p,0,c.2.2.2.2.2+1))
  |_=>pure (ForInStep.done (some (fiH a b c.2.2.2.1 c.2.1 c.2.2.1),c.2.1,c.2.2.1,c.2.2.2.1,c.2.2.2.2.1,c.2.2.2.2.2))
noncomputable def hiT(a b:Array Keyed)(c:TH):StateT SortSt Sem (ForInStep TH):=do
 let d <- forIn [0:a.size+b.size] ((none,c.2.1,c.2.2.1,c.2.2.2.1,0,0):OH) λ_ d=>hiO a b c.2.2.2.2 d
 match d.1 with
  |some r=>pure (ForInStep.done (some r,d.2.1,d.2.2.1,d.2.2.2.1,c.2.2.2.2))
  |none=>do
    liftM (rule "list.sort.gallop")
    let e <- forIn [0:a.size+b.size] ((none,d.2.1,d.2.2.1,d.2.2.2.1,c.2.2.2.2+1,d.2.2.2.2.1,d.2.2.2.2.2):GH) λ_ e =>if e.2.2.2.2.1>1 then hi1 a b e.2.2.2.1 e.2.1 e.2.2.1 (e.2.2.2.2.1-1) e.2.2.2.2.2.1 e.2.2.2.2.2.2 else hi1 a b e.2.2.2.1 e.2.1 e.2.2.1 e.2.2.2.2.1 e.2.2.2.2.2.1 e.2.2.2.2.2.2
    match e.1 with
     |some r=>pure (ForInStep.done (some r,e.2.1,e.2.2.1,e.2.2.2.1,e.2.2.2.2.1))
     |none=>do
       setMG (e.2.2.2.2.1+1)
       pure (ForInStep.yield (none,e.2.1,e.2.2.1,e.2.2.2.1,e.2.2.2.2.1+1))
noncomputable def mHi(a b:Array Keyed):StateT SortSt Sem (Array Keyed):=do
 liftM (rule "list.sort.merge-hi")
 let p <- lE a (a.size-1)
 if (a.size-1==0)=true then pure (fiH a b #[p] (a.size-1) b.size)
 else if (b.size==1)=true then pure (fiB a b #[p] (a.size-1) b.size)
 else do
  let z <- get
  let c <- forIn [0:a.size+b.size] ((none,a.size-1,b.size,#[p],pX z):TH) λ_ c=>hiT a b c
  match c.1 with
   |some r=>pure r
   |none=>liftM (unsupported "internal:list.sort.merge-bound" : Sem (Array Keyed))
def QG a b:CD a b=mHi a b:=by kernel_rfl
structure Mh(a b:List Keyed)(o:List Keyed)(x y:Nat):Prop where
 xa:x<=a.length
 yb:y<=b.length
 pm:((a.take x++b.take y)++o.reverse).Perm (a++b)
 sd:Sd o.reverse
 le:∀p∈o,∀q,(q∈a.take x\/q∈b.take y)->ky q<=ky p
def KW(l:List Keyed)(h:j<=x):l.take x=l.take j++(l.drop j).take (x-j):=by conv=>lhs;rw[show x=j+(x-j) by lia,List.take_add]
def Mh.stepA(m:Mh a b o x y)(ha:Sd a) t j(ht:t=(a.drop j).take (x-j))(hj:j<=x)(h:∀p∈t,∀q∈b.take y,ky q<=ky p) :
  Mh a b (o++t.reverse) j y:=by
 have e:a.take x=a.take j++t:=by rw[ht];exact KW a hj
 have hs:Sd (a.take j++t):=by rw[<-e];exact cA (fQ ..) ha
 obtain⟨s1,s2,s3⟩:=Sd.app.mp hs;refine⟨cW hj m.xa,m.yb,?_,?_,?_⟩
 . refine List.Perm.trans ?_ m.pm;rw[e,iM,lV,<-bK];refine iY _ ?_;rw[bK,bK];exact gK _ lJ
 . rw[iM,lV];exact Sd.app.mpr ⟨s2,m.sd,λq hq p hp=>m.le p (cX.mp hp) q (.inl (by rw[e];exact aI _ hq))⟩
 . intro p hp q hq;rcases bE.mp hp with hp|hp
   . refine m.le p hp q ?_;rcases hq with hq|hq
     . exact .inl (by rw[e];exact bA _ hq)
     . exact .inr hq
   . rcases hq with hq|hq
     . exact s3 q hq p (cX.mp hp)
     . exact h p (cX.mp hp) q hq
def Mh.stepB(m:Mh a b o x y)(hb:Sd b) t j(ht:t=(b.drop j).take (y-j))(hj:j<=y)(h:∀p∈t,∀q∈a.take x,ky q<=ky p) :
  Mh a b (o++t.reverse) x j:=by
 have e:b.take y=b.take j++t:=by rw[ht];exact KW b hj
 have hs:Sd (b.take j++t):=by rw[<-e];exact cA (fQ ..) hb
 obtain⟨s1,s2,s3⟩:=Sd.app.mp hs;refine⟨m.xa,cW hj m.yb,?_,?_,?_⟩
 . refine List.Perm.trans ?_ m.pm;rw[e,iM,lV,<-bK,<-bK]
 . rw[iM,lV];exact Sd.app.mpr ⟨s2,m.sd,λq hq p hp=>m.le p (cX.mp hp) q (.inr (by rw[e];exact aI _ hq))⟩
 . intro p hp q hq;rcases bE.mp hp with hp|hp
   . refine m.le p hp q ?_;rcases hq with hq|hq
     . exact .inl hq
     . exact .inr (by rw[e];exact bA _ hq)
   . rcases hq with hq|hq
     . exact h p (cX.mp hp) q hq
     . exact s3 q hq p (cX.mp hp)
def Mh.endF(m:Mh a b o x y)(ha:Sd a)(hb:Sd b)(h:x=0\/y=0):Dn a b (a.take x++b.take y++o.reverse):=by
 refine⟨m.pm,Sd.app.mpr ⟨?_,m.sd,λq hq p hp=>m.le p (cX.mp hp) q (bE.mp hq)⟩⟩;rcases h with h|h
 . rw[h,EF,cT];exact cA (fQ ..) hb
 . rw[h,EF,dM];exact cA (fQ ..) ha
def Mh.endB(m:Mh a b o x y)(ha:Sd a)(h:y=1)(hf:∀p∈a,∀q,b[0]?=some q->ky q<=ky p):Dn a b (b.take y++a.take x++o.reverse):=by
 subst h;refine⟨?_,Sd.app.mpr ⟨Sd.app.mpr ⟨?_,cA (fQ ..) ha,?_⟩,m.sd,?_⟩⟩
 . refine List.Perm.trans ?_ m.pm;exact iY _ lJ
 . match b with
   |[]=>exact List.Pairwise.nil
   |q::r=>exact dU _ _
 . intro q hq p hp;obtain ⟨i,i1,i2⟩:=vN hq;have:i=0:=by lia
   subst this;exact hf p (lW hp) q i2
 . intro q hq p hp;refine m.le p (cX.mp hp) q ?_;rcases bE.mp hq with h|h
   . exact .inr h
   . exact .inl h
def aEr a b o x y:(fiH a b o x y).toList=a.toList.take x++b.toList.take y++o.toList.reverse:=by unfold fiH;simp only[dI,eU,List.extract_eq_drop_take,lT,rC,NU]
def aEs a b o x y:(fiB a b o x y).toList=b.toList.take y++a.toList.take x++o.toList.reverse:=by unfold fiB;simp only[dI,eU,List.extract_eq_drop_take,lT,rC,NU]
def yQ(a:Array Keyed) j x:(a.extract j x).toList=(a.toList.drop j).take (x-j):=by simp only[eU,List.extract_eq_drop_take]
section
variable{a b:Array Keyed}
structure InH(a b o:Array Keyed)(x y:Nat):Prop where
 mh:Mh a.toList b.toList o.toList x y
 x1:1<=x
 y1:2<=y
def Mh.pushA{o:Array Keyed}(T:Two a b)(m:Mh a.toList b.toList o.toList x y)(hx:1<=x)(hp:a.toList[x-1]?=some p)(h:∀q∈b.toList.take y,ky q<=ky p) :
  Mh a.toList b.toList (o.push p).toList (x-1) y:=by
 rw[eD];exact m.stepA T.sa [p] (x-1) (by rw[show x-(x-1)=1 by lia];exact vM hp) (by lia) λq hq=>by rw[aO.mp hq];exact h
def Mh.pushB{o:Array Keyed}(T:Two a b)(m:Mh a.toList b.toList o.toList x y)(hy:1<=y)(hp:b.toList[y-1]?=some p)(h:∀q∈a.toList.take x,ky q<=ky p) :
  Mh a.toList b.toList (o.push p).toList x (y-1):=by
 rw[eD];exact m.stepB T.sb [p] (y-1) (by rw[show y-(y-1)=1 by lia];exact vM hp) (by lia) λq hq=>by rw[aO.mp hq];exact h
def Mh.told(T:Two a b)(m:Mh a.toList b.toList o.toList x y)(h:x=0\/y=0):Told a b (fiH a b o x y):=by unfold Told;rw[aEr];exact m.endF T.sa T.sb h
def Mh.toldB(T:Two a b)(m:Mh a.toList b.toList o.toList x y)(h:y=1):Told a b (fiB a b o x y):=by unfold Told;rw[aEs];exact m.endB T.sa h T.fst
def GHok(a b:Array Keyed)(st:SortSt)(n:Nat)(c:GH)(z:SortSt):Prop:=
 (∃g,z=gst st g)/\((∃r x y o mg ca cb,c=(some r,x,y,o,mg,ca,cb)/\Told a b r)\/∃x y o mg ca cb,c=(none,x,y,o,mg,ca,cb)/\InH a b o x y/\x+y<=n)
def OHok(a b:Array Keyed)(st:SortSt)(n:Nat)(c:OH)(z:SortSt):Prop:=
 (∃g,z=gst st g)/\((∃r x y o ca cb,c=(some r,x,y,o,ca,cb)/\Told a b r)\/∃x y o ca cb,c=(none,x,y,o,ca,cb)/\InH a b o x y/\x+y<=n)
def InH.xs(m:InH a b o x y):x-1<a.size:=by have:=m.mh.xa;have:=m.x1;rw[bG]at *;lia
def InH.ys(m:InH a b o x y):y-1<b.size:=by have:=m.mh.yb;have:=m.y1;rw[bG]at *;lia
def IB{c:Array Keyed}(h:Sd c.toList)(hx:1<=x)(hp:c.toList[x-1]?=some p):∀q∈c.toList.take x,ky q<=ky p:=by have:=sd_take h hp;rwa [show x-1+1=x by lia]at this
def aAk{st:SortSt}(T:Two a b)(m:InH a b o x y)(hn:x+y<=n+1)(hle:∀p,a.toList[x-1]?=some p->∀q∈b.toList.take y,ky q<=ky p)(hd:∀c,GHok a b st n c (gst st g)->Q (.done c) (gst st g))(hy:∀x y o mg ca cb,InH a b o x y->x+y<=n->Q (.yield (none,x,y,o,mg,ca,cb)) (gst st g)) :
  wpS (aZ prog w) A E s (hi3 a b o x y mg ca cb) Q (gst st g):=by
 obtain⟨p,p1,p2,p3⟩:=jU m.xs;have hx:=m.x1;have m':=m.mh.pushA T hx p2 (hle p p2);refine aT (qY p1 ?_);by_cases h1:x-1=0
 . rw[if_pos (by simpa using h1)];exact bD (hd _ ⟨⟨g,rfl⟩,.inl ⟨_,_,_,_,_,_,_,rfl,m'.told T (.inl h1)⟩⟩)
 . rw [if_neg (by simpa using h1)];have hin:InH a b (o.push p) (x - 1) y:=⟨m',by lia,m.y1⟩
   split
   . exact bD (hd _ ⟨⟨g,rfl⟩,.inr ⟨_,_,_,_,_,_,rfl,hin,by lia⟩⟩)
   . exact bD (hy _ _ _ _ _ _ hin (by lia))
def aAl{st:SortSt}(hk:kindOf st=iQ)(T:Two a b)(m:InH a b o x y)(hn:x+y<=n+1)(hle:∀p,b.toList[y-1]?=some p->∀q∈a.toList.take x,ky q<=ky p)(hd:∀c,GHok a b st n c (gst st g)->Q (.done c) (gst st g))(hy:∀x y o mg ca cb,InH a b o x y->x+y<=n->Q (.yield (none,x,y,o,mg,ca,cb)) (gst st g)) :
  wpS (aZ prog w) A E s (hi2 a b o x y mg ca cb) Q (gst st g):=by
 obtain⟨p,p1,p2,p3⟩:=jU m.ys;obtain⟨q,q1,q2,q3⟩:=jU m.xs;have hx:=m.x1;have hy2:=m.y1;have hys:=m.ys;have m':=m.mh.pushB T (by lia) p2 (hle p p2);refine aT (qY p1 ?_);by_cases h1:y-1=1
 . rw[if_pos (by simpa using h1)];exact bD (hd _ ⟨⟨g,rfl⟩,.inl ⟨_,_,_,_,_,_,_,rfl,m'.toldB T h1⟩⟩)
 . rw [if_neg (by simpa using h1)];refine aT (qY q1 ?_);refine aT (xB hk (T.ia q q3) T.ib (by lia) (tK T.sb (by lia)) (by lia) λt k1 k2 k3=>?_);simp only [if_true,NT]at k2 k3;dsimp only;have hrest:∀j,j=t->∀p',a.toList[x-1]?=some p'->∀u∈b.toList.take j,ky u<=ky p':=by rintro j rfl p' hp' u hu;rw[q2]at hp';cases hp';obtain⟨i,i1,i2⟩:=vN hu;obtain⟨i3,i4⟩:=yP i2;rw[<-i4];exact eF (k2 i (bZ _) i1)
   by_cases hk0:y-1-t>0
   . rw [if_pos hk0];have m2:Mh a.toList b.toList (o.push p++(b.extract t (y-1)).reverse).toList x t:=by
      rw[dI,lT];refine m'.stepB T.sb _ t (yQ b t (y-1)) k1 λu hu v hv=>?_;rw[yQ]at hu;obtain⟨i,i1,i2,i3⟩:=yC hu;obtain⟨i4,i5⟩:=yP i3;have:=k3 i i1 (by lia);have h2:=IB T.sa hx q2 v hv
      lia
     by_cases h2:t=1
     . rw[if_pos (by simpa using h2)];exact bD (hd _ ⟨⟨g,rfl⟩,.inl ⟨_,_,_,_,_,_,_,rfl,m2.toldB T h2⟩⟩)
     rw[if_neg (by simpa using h2)];by_cases h3:t=0
     . rw[if_pos (by simpa using h3)];exact bD (hd _ ⟨⟨g,rfl⟩,.inl ⟨_,_,_,_,_,_,_,rfl,m2.told T (.inr h3)⟩⟩)
     rw[if_neg (by simpa using h3)];exact aAk T ⟨m2,hx,by lia⟩ (by lia) (hrest _ rfl) hd hy
   . rw[if_neg hk0];exact aAk T ⟨m',hx,by lia⟩ (by lia) (hrest _ (by lia)) hd hy
def aAm{st:SortSt}(hk:kindOf st=iQ)(T:Two a b)(m:InH a b o x y)(hn:x+y<=n+1)(hd:∀c z,GHok a b st n c z->Q (.done c) z)(hy:∀x y o mg ca cb g,InH a b o x y->x+y<=n->Q (.yield (none,x,y,o,mg,ca,cb)) (gst st g)) :
  wpS (aZ prog w) A E s (hi1 a b o x y mg ca cb) Q (gst st g):=by
 obtain⟨p,p1,p2,p3⟩:=jU m.ys;have hx:=m.x1;have hy2:=m.y1;have hxs:=m.xs;unfold hi1;refine aT (mQ ?_);refine aT (qY p1 ?_);refine aT (xB hk (T.ib p p3) T.ia (by lia) (tK T.sa (by lia)) (by lia) λt k1 k2 k3=>?_);simp only[bS,if_false,NT]at k2 k3;dsimp only;have hrest:∀j,j=t->∀p',b.toList[y-1]?=some p'->∀u∈a.toList.take j,ky u<=ky p':=by rintro j rfl p' hp' u hu;rw[p2]at hp';cases hp';obtain⟨i,i1,i2⟩:=vN hu;obtain⟨i3,i4⟩:=yP i2;rw[<-i4];exact k2 i (bZ _) i1
 by_cases hk0:x-t>0
 . rw [if_pos hk0];have m2:Mh a.toList b.toList (o++(a.extract t x).reverse).toList t y:=by
    rw[dI,lT];refine m.mh.stepA T.sa _ t (yQ a t x) k1 λu hu v hv=>?_;rw[yQ]at hu;obtain⟨i,i1,i2,i3⟩:=yC hu;obtain⟨i4,i5⟩:=yP i3;have:=k3 i i1 (by lia);have h2:=IB T.sb (by lia) p2 v hv
    lia
   by_cases h1:t=0
   . rw[if_pos (by simpa using h1)];exact bD (hd _ _ ⟨⟨_,rfl⟩,.inl ⟨_,_,_,_,_,_,_,rfl,m2.told T (.inl h1)⟩⟩)
   rw[if_neg (by simpa using h1)];exact aAl hk T ⟨m2,by lia,hy2⟩ (by lia) (hrest _ rfl) (λc h=>hd c _ h) λx y o mg' ca cb=>hy x y o mg' ca cb mg
 . rw[if_neg hk0];exact aAl hk T m hn (hrest _ (by lia)) (λc h=>hd c _ h) λx y o mg' ca cb=>hy x y o mg' ca cb mg
def wp_hiO{st:SortSt}(hk:kindOf st=iQ)(T:Two a b)(m:InH a b o x y)(hn:x+y<=n+1)(hd:∀c,OHok a b st n c (gst st g)->Q (.done c) (gst st g))(hy:∀x y o ca cb,InH a b o x y->x+y<=n->Q (.yield (none,x,y,o,ca,cb)) (gst st g)) :
  wpS (aZ prog w) A E s (hiO a b mg (none,x,y,o,ca,cb)) Q (gst st g):=by
 obtain⟨p,p1,p2,p3⟩:=jU m.ys;obtain⟨q,q1,q2,q3⟩:=jU m.xs;have hx:=m.x1;have hy2:=m.y1;unfold hiO;refine aT (qY p1 (aT (qY q1 ?_)));refine aT (RV hk (T.ib p p3) (T.ia q q3) ?_);dsimp only;by_cases hl:ky p<ky q
 . rw [if_pos (by simpa using hl)];have m':=m.mh.pushA T hx q2 λu hu=>fF (IB T.sb (by lia) p2 u hu) (eF hl);refine aT (qY q1 ?_);by_cases h1:x-1=0
   . rw[if_pos (by simpa using h1)];exact bD (hd _ ⟨⟨_,rfl⟩,.inl ⟨_,_,_,_,_,_,rfl,m'.told T (.inl h1)⟩⟩)
   rw[if_neg (by simpa using h1)];have hin:InH a b (o.push q) (x-1) y:=⟨m',by lia,hy2⟩
   split
   . exact bD (hd _ ⟨⟨_,rfl⟩,.inr ⟨_,_,_,_,_,rfl,hin,by lia⟩⟩)
   . exact bD (hy _ _ _ _ _ hin (by lia))
 . rw [if_neg (by simpa using hl)];have m':=m.mh.pushB T (by lia) p2 λu hu=>fF (IB T.sa hx q2 u hu) (pA.mp hl);refine aT (qY p1 ?_);by_cases h1:y-1=1
   . rw[if_pos (by simpa using h1)];exact bD (hd _ ⟨⟨_,rfl⟩,.inl ⟨_,_,_,_,_,_,rfl,m'.toldB T h1⟩⟩)
   rw[if_neg (by simpa using h1)];have hin:InH a b (o.push p) x (y-1):=⟨m',hx,by lia⟩
   split
   . exact bD (hd _ ⟨⟨_,rfl⟩,.inr ⟨_,_,_,_,_,rfl,hin,by lia⟩⟩)
   . exact bD (hy _ _ _ _ _ hin (by lia))
def wp_hiT{st:SortSt}(hk:kindOf st=iQ)(T:Two a b)(m:InH a b o x y)(hd:∀r x y o mg g,Told a b r->Q (.done (some r,x,y,o,mg)) (gst st g))(hy:∀x' y' o' mg g,InH a b o' x' y'->x'+y'+1<=x+y->Q (.yield (none,x',y',o',mg)) (gst st g)) :
  wpS (aZ prog w) A E s (hiT a b (none,x,y,o,mg)) Q (gst st g):=by
 have hna:=T.na;have hx:=m.x1;unfold hiT
 refine aT (gU (dB (I:=λi c z=>∃x' y' o' ca cb g,c=(none,x',y',o',ca,cb)/\z=gst st g/\InH a b o' x' y'/\x'+y'+i<=x+y)
  (Q:=λc z=>OHok a b st (x+y-1) c z) ?s1 ?s2 ⟨x,y,o,0,0,g,rfl,rfl,m,by lia⟩) ?s3)
 case s2=>rintro c z ⟨x',y',o',ca,cb,g',rfl,rfl,m',hle⟩;exact⟨⟨_,rfl⟩,.inr ⟨_,_,_,_,_,rfl,m',by lia⟩⟩
 case s1 =>
  rintro i c z _ hi ⟨x',y',o',ca,cb,g',rfl,rfl,m',hle⟩;have h1':=m'.x1;refine wp_hiO (n:=x'+y'-1) hk T m' (by lia) (λc hc=>?_) λx2 y2 o2 ca cb m2 h2=>⟨x2,y2,o2,ca,cb,g',rfl,rfl,m2,by lia⟩
  obtain⟨h1,h2⟩:=hc;refine⟨h1,?_⟩;rcases h2 with h2|⟨x2,y2,o2,ca,cb,e,m2,h2⟩
  . exact .inl h2
  . exact .inr ⟨x2,y2,o2,ca,cb,e,m2,by lia⟩
 case s3 =>
  rintro c z ⟨⟨g',rfl⟩,hc⟩;rcases hc with⟨r,x2,y2,o2,ca,cb,rfl,hr⟩|⟨x2,y2,o2,ca,cb,rfl,m2,h2⟩
  . dsimp only;exact bD (hd _ _ _ _ _ _ hr)
  . dsimp only;refine aT (sV (iP ⟨rfl,?_⟩))
    refine aT (gU (dB (I:=λi c z=>∃x' y' o' mg ca cb g,c=(none,x',y',o',mg,ca,cb)/\z=gst st g/\InH a b o' x' y'/\x'+y'<=x+y-1)
     (Q:=λc z=>GHok a b st (x+y-1) c z) ?s4 ?s5 ⟨x2,y2,o2,mg+1,ca,cb,g',rfl,rfl,m2,h2⟩) ?s6)
    case s5=>rintro c z ⟨x',y',o',mg',ca,cb,g',rfl,rfl,m',hle⟩;exact⟨⟨_,rfl⟩,.inr ⟨_,_,_,_,_,_,rfl,m',by lia⟩⟩
    case s4 =>
     rintro i c z _ hi ⟨x',y',o',mg',ca,cb,g',rfl,rfl,m',hle⟩;split
     . exact aAm hk T m' (by lia) (λc z hc=>hc) λx2 y2 o2 mg ca cb g m2 h2=>⟨x2,y2,o2,mg,ca,cb,g,rfl,rfl,m2,h2⟩
     . exact aAm hk T m' (by lia) (λc z hc=>hc) λx2 y2 o2 mg ca cb g m2 h2=>⟨x2,y2,o2,mg,ca,cb,g,rfl,rfl,m2,h2⟩
    case s6 =>
     rintro c z ⟨⟨g',rfl⟩,hc⟩;rcases hc with⟨r,x2,y2,o2,mg',ca,cb,rfl,hr⟩|⟨x2,y2,o2,mg',ca,cb,rfl,m2,h2⟩
     . dsimp only;exact bD (hd _ _ _ _ _ _ hr)
     . dsimp only;exact aT (mQ (bD (hy _ _ _ _ _ m2 (by lia))))
def OG{st:SortSt}(hk:kindOf st=iQ)(T:Two a b)(h:∀r g,Told a b r->Q r (gst st g)) :
  wpS (aZ prog w) A E s (CD a b) Q st:=by
 have hna:=T.na;have hnb:=T.nb;obtain⟨p,p1,p2,p3⟩:=jU (a:=a) (x:=a.size-1) (by lia);have m1:Mh a.toList b.toList (#[]:Array Keyed).toList a.size b.size:=by refine⟨by simp,by simp,?_,List.Pairwise.nil,λp hp=>absurd hp (by simp)⟩;rw[cQ (by simp),cQ (by simp)];simp
 have m:=m1.pushA T (by lia) p2 λq hq=>T.lst q (lW hq) p (by rw[bG];exact p2);rw[QG];refine aT (sV (iP ⟨rfl,?_⟩));refine aT (qY p1 ?_);by_cases h1:a.size-1=0
 . rw[if_pos (by simpa using h1)];exact bD (h _ (pX st) (m.told T (.inl h1)))
 rw[if_neg (by simpa using h1)];by_cases h2:b.size=1
 . rw[if_pos (by simpa using h2)];exact bD (h _ (pX st) (m.toldB T h2))
 rw[if_neg (by simpa using h2)];refine aT (rF ?_)
 refine aT (gU (dB (I:=λi c z=>∃x y o mg g,c=(none,x,y,o,mg)/\z=gst st g/\InH a b o x y/\x+y+i+1<=a.size+b.size)
  (Q:=λc z=>∃r x y o mg g,c=(some r,x,y,o,mg)/\z=gst st g/\Told a b r) ?s1 ?s2 ⟨a.size-1,b.size,#[p],_,pX st,rfl,rfl,⟨m,by lia,by lia⟩,by lia⟩) ?s3)
 case s2 =>
  rintro c z ⟨x,y,o,mg,g,rfl,rfl,m,hle⟩
  lia
 case s1=>rintro i c z _ hi ⟨x,y,o,mg,g,rfl,rfl,m,hle⟩;exact wp_hiT hk T m (λr x y o mg g hr=>⟨r,x,y,o,mg,g,rfl,rfl,hr⟩) λx y o mg g m h=>⟨x,y,o,mg,g,rfl,rfl,m,by lia⟩
 case s3=>rintro c z ⟨r,x,y,o,mg,g,rfl,rfl,hr⟩;exact bD (h r g hr)
end
noncomputable def mAt(i:Nat):StateT SortSt Sem Bool:=do
 let z <- get
 let (some (sa,na,pw),some (sb,nb,_)):=((bQ z)[i]?,(bQ z)[i+1]?)|unsupported "internal:list.sort.pending"
 set (nY z (((bQ z).setIfInBounds i (sa,na+nb,pw)).eraseIdxIfInBounds (i+1)))
 let some k <- nJ false (<- lE (bT z) sb) (bT z) sa na 0 | return false
 let (sa,na):=(sa+k,na-k)
 if na==0 then return true
 let some nb <- nJ true (<- lE (bT z) (sa+na-1)) (bT z) sb nb (nb-1) | return false
 if nb==0 then return true
 let x:=(bT z).extract sa sb
 let y:=(bT z).extract sb (sb+nb)
 let r <- if na<=nb then CC x y else CD x y
 modify λz=>fU z (r.toList.zipIdx.foldl (λa (p,j)=>a.setIfInBounds (sa+j) p) (bT z))
 return (DS (<-get)).isNone
def QH i:NQ i=mAt i:=by kernel_rfl
noncomputable def lay(xs:Array Keyed)(sa:Nat)(r:List Keyed):Array Keyed:=r.zipIdx.foldl (λa (p,j)=>a.setIfInBounds (sa+j) p) xs
theorem UL sa i:∀(r:List Keyed) n (xs:Array Keyed),sa+n+r.length<=xs.size →
  ((r.zipIdx n).foldl (λa (p,j)=>a.setIfInBounds (sa+j) p) xs)[i]?=if sa+n<=i/\i<sa+n+r.length then r[i-(sa+n)]? else xs[i]?
 |[],n,xs,h=>by rw[if_neg (by simp)];rfl
 |p::r,n,xs,h=>by
   rw[List.zipIdx_cons,cB];have h':sa+(n+1)+r.length<=(xs.setIfInBounds (sa+n) p).size:=by simp only[Array.size_setIfInBounds];simp only[aH]at h;omega
   rw[UL sa i r (n+1) _ h',Array.getElem?_setIfInBounds];simp only[aH]at h ⊢;by_cases h1:sa+n=i
   . subst h1;rw[if_neg (by omega),if_pos rfl,if_pos (by omega),if_pos (by omega)];simp
   . by_cases h2:sa+(n+1)<=i/\i < sa+(n+1)+r.length
     . rw[if_pos h2,if_pos (by omega),show i-(sa+n)=(i-(sa+(n+1)))+1 by omega,dY]
     . rw[if_neg h2,if_neg h1,if_neg (by omega)]
def aDy(h:sa+r.length<=xs.size) i:(lay xs sa r)[i]?=if sa<=i/\i<sa+r.length then r[i-sa]? else xs[i]?:=
 UL sa i r 0 xs h
def aDx(h:sa+r.length<=xs.size):(lay xs sa r).toList=xs.toList.take sa++r++xs.toList.drop (sa+r.length):=by
 apply kW;intro i;rw[cM,aDy h,bK];have hl:(xs.toList.take sa).length=sa:=by rw[dW,bG];lia
 by_cases h1:i<sa
 . rw[if_neg (by lia),bW (by lia),fT h1,cM]
 . rw [cL (by lia),hl];by_cases h2:i<sa+r.length
   . rw[if_pos ⟨by lia,h2⟩,bW (by lia)]
   . rw [if_neg (by lia),cL (by lia),nE,cM];congr 1
     lia
def aDw(h:sa+r.length<=xs.size)(hp:r.Perm ((xs.toList.drop sa).take r.length)):(lay xs sa r).Perm xs:=by
 rw[nB,aDx h];have e:xs.toList=xs.toList.take sa++(xs.toList.drop sa).take r.length++xs.toList.drop (sa+r.length):=by rw[bK,<-rD,fH,fH]
 conv=>rhs;rw[e]
 exact iY _ (gK _ hp)
def lay_K(h:sa+r.length<=xs.size):(sa<=i->i<sa+r.length->∃p,r[i-sa]?=some p/\K (lay xs sa r) i=ky p)/\((i<sa\/sa+r.length<=i)->K (lay xs sa r) i=K xs i):=by
 have e:=aDy h i;refine⟨λh1 h2=>?_,λh1=>?_⟩
 . rw[if_pos ⟨h1,h2⟩]at e;refine⟨r[i-sa],aF (by lia),?_⟩;unfold K;rw[e,aF (by lia)];rfl
 . rw[if_neg (by lia)]at e;exact K_congr e
def LD(h1:Seg xs i j)(h2:Seg xs j k)(h:i<j->j<k->K xs (j-1)<=K xs j):Seg xs i k:=by
 intro p q a b c;by_cases hp:p<j
 . by_cases hq:q < j
   . exact h1 p q a b hq
   . exact fF (h1 p (j-1) a (by lia) (by lia)) (fF (h (by lia) (by lia)) (h2 j q (aM _) (by lia) c))
 . exact h2 p q (by lia) b c
def aBb(h:Seg xs i j)(hj:j<=xs.size):Sd (xs.extract i j).toList:=by refine bP.mpr λp q h1 h2 hpq=>?_;rw[bG,gL]at h1 h2;have:=h (i+p) (i+q) (by lia) (by lia) (by lia);rw[K_eq (show i+p<xs.size by lia),K_eq (show i+q<xs.size by lia)]at this;simpa[ky]using this
def wV(hj:j<=xs.size)(h:p∈(xs.extract i j).toList):∃k,i<=k/\k<j/\K xs k=ky p/\p∈xs.toList:=by rw[yQ]at h;obtain⟨k,k1,k2,k3⟩:=yC h;exact⟨k,k1,by lia,(yP k3).2,lX k3⟩
section
variable{a₀:Array Keyed}
def wpS_set{x:σ}{Q:PUnit->σ->Prop}{st:σ}(h:Q ⟨⟩ x):wpS M A E s (set x:StateT σ Sem PUnit) Q st:=by unfold wpS;rw[StateT.run_set];exact aJ ⟨rfl,h⟩
def pend_at{P:Array (Nat×Nat×Nat)}(h:P.toList=pre++u::v::post) c :
  P[pre.length]?=some u/\P[pre.length+1]?=some v/\((P.setIfInBounds pre.length c).eraseIdxIfInBounds (pre.length+1)).toList=pre++c::post:=by
 obtain⟨l⟩:=P;simp only at h;subst h;refine⟨by simp,by simp,?_⟩;simp[Array.eraseIdxIfInBounds,List.eraseIdx_append_of_length_le]
def OI{st:SortSt}(h0:IntKeys a₀)(hB:TB a₀ st)(hP:(bQ st).toList=pre++(sa,na,pw)::(sb,nb,pw2)::post)(hi:i=pre.length)(hsb:sb=sa+na)(hna:1<=na)(hnb:1<=nb)(hsz:sb+nb<=a₀.size)(s1:Seg (bT st) sa sb)(s2:Seg (bT st) sb (sb+nb))(h:∀st',TB a₀ st'->(bQ st').toList=pre++(sa,na+nb,pw)::post->(∀k,(k<sa\/sb+nb<=k)->K (bT st') k=K (bT st) k)->Seg (bT st') sa (sb+nb)->Q true st') :
  wpS (aZ prog w) A E s (NQ i) Q st:=by
 subst hi;obtain⟨e1,e2,e3⟩:=pend_at hP (sa,na+nb,pw);have hs:=hB.sz;have hI:=λp hp=>h0 p ((nB.mp hB.pm).mem_iff.mp hp);rw[QH];refine aT (rF ?_);rw[e1,e2];refine aT (wpS_set ?_);generalize hP':((bQ st).setIfInBounds pre.length (sa,na+nb,pw)).eraseIdxIfInBounds (pre.length+1)=P' at e3 ⊢;have hB1:TB a₀ (nY st P'):=⟨hB.pm,hB.kd,hB.nf⟩
 obtain⟨p,p1,p2,p3⟩:=jU (a:=bT st) (x:=sb) (by lia);have pK:=(yP p2).2;refine aT (qY p1 ?_);refine aT (xB hB.kd (hI p p3) hI (by lia) (by rw[<-hsb];exact s1) (by lia) λk k1 k2 k3=>?_);dsimp only;by_cases hz:na-k=0
 . rw[if_pos (by simpa using hz)];refine bD (h _ hB1 e3 (λ_ _=>rfl) (LD s1 s2 λ_ _=>?_));rw[pK];exact k2 _ (by lia) (by lia)
 rw[if_neg (by simpa using hz)];have hlast:sa+k+(na-k)-1=sb-1:=by lia
 obtain⟨q,q1,q2,q3⟩:=jU (a:=bT st) (x:=sb-1) (by lia);have qK:=(yP q2).2;rw[hlast];refine aT (qY q1 ?_);refine aT (xB hB.kd (hI q q3) hI (by lia) s2 (by lia) λm m1 m2 m3=>?_);dsimp only;by_cases hm:m=0
 . rw[if_pos (by simpa using hm)];refine bD (h _ hB1 e3 (λ_ _=>rfl) (LD s1 s2 λ_ _=>?_));rw[qK];exact m3 _ (by lia) (by lia)
 rw[if_neg (by simpa using hm)];have T:Two ((bT st).extract (sa+k) sb) ((bT st).extract sb (sb+m)):=by
  refine⟨aBb (λa b c d e=>s1 a b (by lia) d e) (by lia),aBb (λa b c d e=>s2 a b (by lia) d (by lia)) (by lia),λu hu=>?_,λu hu=>?_,?_,?_,λu hu v hv=>?_,λu hu v hv=>?_⟩
  . obtain⟨_,_,_,_,hh⟩:=wV (by lia) hu;exact hI u hh
  . obtain⟨_,_,_,_,hh⟩:=wV (by lia) hu;exact hI u hh
  . rw[gL];lia
  . rw[gL];lia
  . obtain⟨j,j1,j2,j3,_⟩:=wV (by lia) hu;rw[cM,JY]at hv;rw[if_pos (by lia),Nat.add_zero,p1]at hv;cases hv;rw[<-j3];exact eF (k3 j j1 (by lia))
  . obtain⟨j,j1,j2,j3,_⟩:=wV (by lia) hu;rw[cM,bG,gL,JY]at hv;rw[if_pos (by lia),show sa+k+(min sb (bT st).size-(sa+k)-1)=sb-1 by lia,q1]at hv;cases hv;rw[<-j3];exact eF (m2 j j1 j2)
 have fin:∀r g,Told ((bT st).extract (sa+k) sb) ((bT st).extract sb (sb+m)) r →
   wpS (aZ prog w) A E s (do
    modify λz=>fU z (r.toList.zipIdx.foldl (λa (p,j)=>a.setIfInBounds (sa+k+j) p) (bT z))
    return (DS (<-get)).isNone) Q (gst (nY st P') g):=by
  rintro r g ⟨r1,r2⟩;have hlen:r.toList.length=sb+m-(sa+k):=by rw[r1.length_eq,bX,bG,bG,gL,gL];lia
  have hfit:sa+k+r.toList.length<=(bT st).size:=by lia
  have hpm:(lay (bT st) (sa+k) r.toList).Perm (bT st):=by refine aDw hfit (r1.trans (OE ?_));rw[yQ,yQ,hlen,show sb+m-(sa+k)=(sb-(sa+k))+m by lia,List.take_add,rD,show sa+k+(sb-(sa+k))=sb by lia,show sb+m-sb=m by lia]
  have rmem:∀u∈r.toList,K (bT st) sb<=ky u/\ky u<=K (bT st) (sb-1):=λu hu=>by
   rcases bE.mp (r1.mem_iff.mp hu)with hu|hu
   . obtain ⟨j,j1,j2,j3,_⟩:=wV (by lia) hu;have a1:=k3 j j1 (by lia);have a2:=s1 j (sb - 1) (by lia) (by lia) (by lia)
     lia
   . obtain ⟨j,j1,j2,j3,_⟩:=wV (by lia) hu;have a1:=m2 j j1 j2;have a2:=s2 sb j (aM _) j1 (by lia)
     lia
  refine aT (mQ (aT (rF (bD ?_))));rw[hB.nf];have hin:∀i,sa+k<=i->i<sb+m->∃u,r.toList[i-(sa+k)]?=some u/\K (lay (bT st) (sa+k) r.toList) i=ky u:=λi i1 i2=>(lay_K hfit).1 i1 (by lia);have hout:∀i,(i<sa+k\/sb+m<=i)->K (lay (bT st) (sa+k) r.toList) i=K (bT st) i:=λi i1=>(lay_K hfit).2 (by lia);refine h _ ⟨hpm.trans hB.pm,hB.kd,hB.nf⟩ e3 (λj hj=>hout j (by lia)) ?_;intro x y x1 xy y1;show K (lay (bT st) (sa+k) r.toList) x<=K (lay (bT st) (sa+k) r.toList) y;by_cases hx1:x<sa+k
  . rw [hout x (.inl hx1)];by_cases hy1:y<sa+k
    . rw[hout y (.inl hy1)];exact s1 x y x1 xy (by lia)
    . have hxk:=k2 x x1 hx1;by_cases hy2:y<sb+m
      . obtain ⟨u,u1,u2⟩:=hin y (by lia) hy2;have:=(rmem u (lX u1)).1
        lia
      . rw [hout y (.inr (by lia))];have:=s2 sb y (aM _) (by lia) y1
        lia
  . by_cases hx2:x < sb+m
    . obtain ⟨u,u1,u2⟩:=hin x (by lia) hx2;rw [u2];by_cases hy2:y<sb+m
      . obtain ⟨v,v1,v2⟩:=hin y (by lia) hy2;rw [v2];by_cases hxy:x=y
        . subst hxy;rw[u1]at v1;cases v1;exact dJ _
        . obtain ⟨g1,g2⟩:=aW.mp u1;obtain ⟨g3,g4⟩:=aW.mp v1;have:=bP.mp r2 _ _ g1 g3 (by lia);rwa [g2,g4]at this
      . rw [hout y (.inr (by lia))];have a1:=(rmem u (lX u1)).2;have a2:=m3 y (by lia) y1
        lia
    . rw[hout x (.inr (by lia)),hout y (.inr (by lia))];exact s2 x y (by lia) xy y1
 split
 . exact aT (OF hB.kd T λr g hr=>fin r g hr)
 . exact aT (OG hB.kd T λr g hr=>fin r g hr)
end
abbrev PQ:=Nat×Nat×Nat
noncomputable def Rn(xs:Array Keyed):List PQ->Nat->Nat->Prop
 |[],s,e=>s=e
 |(a,n,_)::r,s,e=>a=s/\1<=n/\Seg xs s (s+n)/\Rn xs r (s+n) e
theorem sD:∀{l:List PQ}{s:Nat},Rn xs (l++r) s e↔∃m,Rn xs l s m/\Rn xs r m e
 |[],s=>⟨λh=>⟨s,rfl,h⟩,λ⟨m,h1,h2⟩=>by cases h1;exact h2⟩
 |(a,n,p)::l,s=>by
   constructor
   . rintro⟨h1,h2,h3,h4⟩;obtain⟨m,g1,g2⟩:=sD.mp h4;exact⟨m,⟨h1,h2,h3,g1⟩,g2⟩
   . rintro⟨m,⟨h1,h2,h3,g1⟩,g2⟩;exact⟨h1,h2,h3,sD.mpr ⟨m,g1,g2⟩⟩
theorem SH:∀{l:List PQ}{s:Nat},Rn xs l s e->s+l.length<=e
 |[],s,h=>by cases h;simp
 |(a,n,p)::l,s,⟨h1,h2,h3,h4⟩=>by have:=SH h4;simp only[aH];omega
theorem kF:∀{l:List PQ}{s:Nat},Rn xs l s e->(∀k,s<=k->k<e->K ys k=K xs k)->Rn ys l s e
 |[],s,h,_=>h
 |(a,n,p)::l,s,⟨h1,h2,h3,h4⟩,h=>by have hle:=SH h4;exact⟨h1,h2,λi j a b c=>by rw[h i a (by omega),h j (by omega) (by omega)];exact h3 i j a b c,kF h4 λk k1 k2=>h k (by omega) k2⟩
noncomputable def rsOld(pw:Nat)(_:Option Unit×Unit):StateT SortSt Sem (ForInStep (Option Unit×Unit)):=do
 let z <- get
 match if (bQ z).size>1 then (bQ z)[(bQ z).size-2]? else none with
  |some (_,_,older)=>
    if older<=pw then pure (ForInStep.done (none,()))
    else do
     let b <- NQ ((bQ z).size-2)
     if (!b)=true then pure (ForInStep.done (some (),()))else pure (ForInStep.yield (none,()))
  |_=>pure (ForInStep.done (none,()))
noncomputable def PD(size lo n:Nat):StateT SortSt Sem (ForInStep (Option Unit×Nat)):=do
 let z <- get
 match (bQ z).back? with
  |some (s1,n1,_)=>do
    let c <- forIn [0:size] (none,()) λ_ c=>rsOld (power' size (2*s1+n1) (2*s1+n1+n1+n) size) c
    match c.1 with
     |some r=>pure (ForInStep.done (some r,lo))
     |none=>do
       modify λz=>nY z ((bQ z).modify ((bQ z).size-1) λx=>match x with|(a,l,_)=>(a,l,power' size (2*s1+n1) (2*s1+n1+n1+n) size))
       modify λz=>nY z ((bQ z).push (lo,n,0))
       pure (ForInStep.yield (none,lo+n))
  |_=>do
    modify λz=>nY z ((bQ z).push (lo,n,0))
    pure (ForInStep.yield (none,lo+n))
noncomputable def PB(size mr:Nat)(c:Option Unit×Nat):StateT SortSt Sem (ForInStep (Option Unit×Nat)):=
 if c.2≥size then pure (ForInStep.done (none,c.2))
 else do
  let x <- countRun' c.2 (size-c.2)
  match x with
   |some n=>
     if n<mr then do
      liftM (rule "list.sort.binary-insertion")
      let b <- binarySort' c.2 (min (size-c.2) mr) n
      if (!b)=true then pure (ForInStep.done (some (),c.2))else PD size c.2 (min (size-c.2) mr)
     else PD size c.2 n
   |_=>pure (ForInStep.done (some (),c.2))
noncomputable def pick(p:Array PQ):Nat:=
 if Option.any (λx=>decide (x<p[p.size-2+1]?.elim 0 λx=>x.2.1)) (if p.size-2>0 then Option.map (λx=>x.2.1) p[p.size-2-1]? else none)=true then p.size-2-1 else p.size-2
noncomputable def rsEnd(_:Option Unit×Unit):StateT SortSt Sem (ForInStep (Option Unit×Unit)):=do
 let z <- get
 if (bQ z).size<=1 then pure (ForInStep.done (none,()))
 else do
  let b <- NQ (pick (bQ z))
  if (!b)=true then pure (ForInStep.done (some (),()))else pure (ForInStep.yield (none,()))
noncomputable def sR:StateT SortSt Sem Unit:=do
 let z <- get
 let c <- forIn [0:(bT z).size] (none,0) λ_ c=>PB (bT z).size (minRun' (bT z).size (bT z).size 0) c
 match c.1 with
  |some r=>pure r
  |none=>do
    let d <- forIn [0:(bT z).size] (none,()) λ_ d=>rsEnd d
    match d.1 with
     |some r=>pure r
     |none=>pure ()
def LB:sortRuns'=sR:=by kernel_rfl
section
variable{a₀:Array Keyed}
structure RS(a₀:Array Keyed)(st:SortSt)(lo:Nat):Prop where
 tb:TB a₀ st
 rn:Rn (bT st) (bQ st).toList 0 lo
 le:lo<=a₀.size
def AW{lo:Nat}{st:SortSt}(h0:IntKeys a₀)(R:RS a₀ st lo)(hi:i+1<(bQ st).size)(h:∀st',RS a₀ st' lo->(bQ st').size+1=(bQ st).size->(∀k,lo<=k->K (bT st') k=K (bT st) k)->Q true st'):wpS (aZ prog w) A E s (NQ i) Q st:=by
 have hlen:(bQ st).toList.length=(bQ st).size:=bG;obtain⟨pre,u,v,post,e,hpl⟩:∃pre u v post,(bQ st).toList=pre++u::v::post/\pre.length=i:=by
  refine⟨(bQ st).toList.take i,(bQ st).toList[i]'(by lia),(bQ st).toList[i+1]'(by lia),(bQ st).toList.drop (i+2),?_,by rw[dW];lia⟩
  conv=>lhs;rw[<-fH i (bQ st).toList]
  rw[cO (by lia),cO (by lia)]
 have hr:=R.rn;obtain⟨sa,na,pw⟩:=u;obtain⟨sb,nb,pw2⟩:=v;rw[e]at hr;obtain⟨m,g1,g2,g3,g4,g5,g6,g7,g8⟩:=sD.mp hr;subst g2;have hle:=SH g8;have hlo:=R.le;refine OI h0 R.tb e hpl.symm g5 g3 g6 (by lia) (by rw[g5];exact g4) (by rw[g5];exact g7) λst' b1 b2 b3 b4=>h st' ⟨b1,?_,hlo⟩ ?_ λk hk=>b3 k (.inr (by lia))
 . rw[b2];refine sD.mpr ⟨sa,kF g1 λk _ k2=>b3 k (.inl k2),rfl,by lia,by rw[<-Nat.add_assoc,<-g5];exact b4,?_⟩;rw[<-Nat.add_assoc];exact kF g8 λk k1 _=>b3 k (.inr (by lia))
 . have l1:(bQ st').toList.length=(bQ st').size:=bG;rw [b2]at l1;rw [e]at hlen;simp [bX,aH]at l1 hlen
   lia
def pick_lt(h:2<=p.size):pick p+1<p.size:=by
 have:∀c:Bool,(if c=true then p.size-2-1 else p.size-2)+1<p.size:=λc=>by cases c<;>simp<;>lia
 exact this _
theorem MG f:∀l (u:PQ),(l++[u]).modify l.length f=l++[f u]
 |[],u=>rfl
 |a::l,u=>by rw[dD,aH,List.modify_succ_cons,MG f l u];rfl
def RT{lo:Nat}{st:SortSt}(h0:IntKeys a₀)(R:RS a₀ st lo)(hn:1<=n)(hle:lo+n<=a₀.size)(hs:Seg (bT st) lo (lo+n))(h:∀st',RS a₀ st' (lo+n)->Q (.yield (none,lo+n)) st'):wpS (aZ prog w) A E s (PD a₀.size lo n) Q st:=by
 have fin:∀st':SortSt,TB a₀ st'->Rn (bT st') (bQ st').toList 0 lo->(∀k,lo<=k->K (bT st') k=K (bT st) k) →
   wpS (aZ prog w) A E s (do
    modify λz=>nY z ((bQ z).push (lo,n,0))
    pure (ForInStep.yield ((none,lo+n):Option Unit×Nat))) Q st':=λst' tb rn kk=>by
  refine aT (mQ (bD (h _ ⟨⟨tb.pm,tb.kd,tb.nf⟩,?_,hle⟩)));rw[eD];exact sD.mpr ⟨lo,rn,rfl,hn,λi j a b c=>by rw[kk i a,kk j (by lia)];exact hs i j a b c,rfl⟩
 refine aT (rF ?_);cases hb:(bQ st).back? with
 |none=>exact fin st R.tb R.rn λ_ _=>rfl
 |some u=>
   obtain⟨s1,n1,u3⟩:=u
   refine aT (gU (dB (I:=λ_ c z=>c=(none,())/\RS a₀ z lo/\(∀k,lo<=k->K (bT z) k=K (bT st) k))
    ?s1 (λ_ _ hh=>hh) ⟨rfl,R,λ_ _=>rfl⟩) ?s3)
   case s1 =>
    rintro i c z _ _ ⟨rfl,Rz,kz⟩;refine aT (rF ?_);by_cases hsz:(bQ z).size>1
    . rw [if_pos hsz,getElem?_pos (bQ z) ((bQ z).size - 2) (by lia)];dsimp only;split
      . exact bD ⟨rfl,Rz,kz⟩
      . refine aT (AW h0 Rz (by lia) λst' R' _ k'=>?_);exact bD ⟨rfl,R',λk hk=>(k' k hk).trans (kz k hk)⟩
    . rw[if_neg hsz];exact bD ⟨rfl,Rz,kz⟩
   case s3 =>
    rintro c z ⟨rfl,Rz,kz⟩;refine fin _ ⟨Rz.tb.pm,Rz.tb.kd,Rz.tb.nf⟩ ?_ kz;have hr:=Rz.rn;have e:∀(P:Array PQ) (pw:Nat),Rn (bT z) P.toList 0 lo->Rn (bT z) (P.modify (P.size-1) λx=>match x with|(a,l,_)=>(a,l,pw)).toList 0 lo:=by
     rintro⟨l⟩ pw hl;simp only[bC]at hl ⊢;rcases List.eq_nil_or_concat l with rfl|⟨l',u,rfl⟩
     . simpa using hl
     . obtain ⟨u1,u2,u3⟩:=u;rw [List.concat_eq_append]at hl ⊢;obtain ⟨m,m1,m2,m3,m4,m5⟩:=sD.mp hl;have e2:(Array.modify (l'++[(u1,u2,u3)]).toArray ((l'++[(u1,u2,u3)]).length-1) λx=>match x with|(a,l,_)=>(a,l,pw)).toList=l'++[(u1,u2,pw)]:=by simp[MG]
       rw[e2];exact sD.mpr ⟨m,m1,m2,m3,m4,m5⟩
    exact e _ _ hr
def wp_turn{lo:Nat}{st:SortSt}(h0:IntKeys a₀)(R:RS a₀ st lo)(hd:lo=a₀.size->Q (.done (none,lo)) st)(h:∀st' lo',lo+1<=lo'->RS a₀ st' lo'->Q (.yield (none,lo')) st'):wpS (aZ prog w) A E s (PB a₀.size mr (none,lo)) Q st:=by
 unfold PB;have hlo:=R.le;by_cases hge:lo≥a₀.size
 . rw[if_pos hge];exact bD (hd (by lia))
 rw[if_neg hge];refine aT (wp_run h0 (by lia) (by lia) R.tb λn xs c n1 n2 sg=>?_);have R':RS a₀ (fU st xs) lo:=⟨R.tb.arr c.1,kF R.rn λk _ k2=>c.2 k (.inl k2),hlo⟩
 dsimp only;split
 . refine aT (sV (iP ⟨rfl,?_⟩));refine aT (wp_ins h0 (by lia) (by lia) R'.tb sg λys c2 sg2=>?_);refine RT h0 (⟨R'.tb.arr c2.1,kF R'.rn λk _ k2=>c2.2 k (.inl k2),hlo⟩:RS a₀ (fU (fU st xs) ys) lo) (by lia) (by lia) sg2 λst' r'=>h st' _ (by lia) r'
 . exact RT h0 R' n1 (by lia) sg λst' r'=>h st' _ (by lia) r'
def KG{st:SortSt}(h0:IntKeys a₀)(hB:TB a₀ st)(hp:bQ st=#[])(h:∀st',(bT st').Perm a₀->DS st'=none->Seg (bT st') 0 a₀.size->Q () st'):wpS (aZ prog w) A E s sortRuns' Q st:=by
 rw[LB];refine aT (rF ?_);rw[hB.sz];have R0:RS a₀ st 0:=⟨hB,by rw[hp];rfl,bZ _⟩
 refine aT (gU (dB (I:=λi c z=>∃lo,c=(none,lo)/\i<=lo/\RS a₀ z lo) (Q:=λc z=>c=(none,a₀.size)/\RS a₀ z a₀.size) ?s1 ?s2 ⟨0,rfl,aM _,R0⟩) ?s3)
 case s2 =>
  rintro c z ⟨lo,rfl,h1,R⟩;have:=R.le;have e:lo=a₀.size:=by lia
  subst e;exact⟨rfl,R⟩
 case s1 =>
  rintro i c z _ hi ⟨lo,rfl,h1,R⟩;refine wp_turn h0 R (λe=>?_) λst' lo' h2 R'=>⟨lo',rfl,by lia,R'⟩
  subst e;exact⟨rfl,R⟩
 case s3 =>
  rintro c z ⟨rfl,R⟩;have hfirst:=SH R.rn;rw[bG]at hfirst
  refine aT (gU (dB (I:=λi c z=>c=(none,())/\RS a₀ z a₀.size/\(bQ z).size+i<=a₀.size+1/\(bQ z).size+i<=max a₀.size (1+i))
   (Q:=λc z=>c=(none,())/\RS a₀ z a₀.size/\(bQ z).size<=1) ?s4 ?s5 ⟨rfl,R,by lia,by lia⟩) ?s6)
  case s5=>rintro c z ⟨rfl,R,h1,h2⟩;exact⟨rfl,R,by lia⟩
  case s4 =>
   rintro i c z _ hi ⟨rfl,R,h1,h2⟩;refine aT (rF ?_);by_cases hsz:(bQ z).size<=1
   . rw[if_pos hsz];exact bD ⟨rfl,R,hsz⟩
   . rw[if_neg hsz];refine aT (AW h0 R (pick_lt (by lia)) λst' R' e' _=>?_);exact bD ⟨rfl,R',by lia,by lia⟩
  case s6 =>
   rintro c z ⟨rfl,R,h1⟩;refine bD (h z R.tb.pm R.tb.nf ?_);have hr:=R.rn;rw[<-bG]at h1
   match hl:(bQ z).toList,h1 with
   |[],_=>
     rw[hl]at hr;have e:0=a₀.size:=hr;intro i j _ _ hj
     lia
   |[(u,n,v)],_=>rw[hl]at hr;obtain⟨g1,g2,g3,g4⟩:=hr;have e:=g4;rw[e]at g3;exact g3
end
def aAy(ho:s.heap.get? a=some (kN "list" vs.toArray n))(hI:eR vs ns)(hsl:vs.length<=sizeLine)(h:∀us ms,eR us.toList ms->ms.Perm ns->ms.Pairwise (·<=·)->R (.done (.ret .none)) {s with heap:=sortedHeap s.heap a vs us}) :
  bL (aZ prog w) A (Builtin.«list.sort» ⟨[.ref a],[]⟩) R E s:=by
 rw[list_sort_plain];have hsz:vs.toArray.size=vs.length:=by simp
 refine aA (listItems_at ho rfl ?_);refine aA (RP ho rfl ?_ (by rw[hsz];exact hsl) (bZ _));obtain⟨ep,ho1⟩:∃ep,(s.heap.update a (Obj.mapSeq λ_=>#[])).get? a=some (kN "list" #[] ep):=⟨_,get?_update_seq ho (λ_=>#[])⟩
 refine aA (seqEpoch_at ho1 rfl (aA (wpAny_newTuple (aA (RM (dR ?_))))));have ho6:(((s.heap.update a (Obj.mapSeq λ_=>#[])).push (kN "tuple" vs.toArray 0)).push (kN "list" #[] 0)).get? a=some (kN "list" #[] ep):=by have h1:=aD (kN "tuple" vs.toArray 0) ho1;exact aD (kN "list" #[] 0) h1
 dsimp only;have last:∀z:SortSt,(bT z).Perm (ZG vs)->Seg (bT z) 0 (ZG vs).size->R (.done (.ret .none)) {s with heap:=sortedHeap s.heap a vs ((bT z).map (·.2))}:=λz g1 g2=>by obtain⟨ns',u1,u2,u3⟩:=sorted_out hI g1 λi j hij hj=>g2 i j (bZ _) hij hj;exact h _ ns' u1 u2 u3
 by_cases hlt:vs.toArray.size<2
 . rw [if_pos hlt,if_pos hlt];refine aA (aJ ?_);refine aA (aJ ?_);refine aA (seqEpoch_at ho6 rfl (aA (RP ho6 rfl ?_ (bZ _) ?_)))
   . simp only [bne_self_eq_false,bS,if_false];refine aJ (last (SortSt.mk' general' (vs.toArray.zip vs.toArray) #[] 7 none) (lF _) ?_);intro i j _ hij hj;rw [ZF]at hj;have e:i=j:=by lia
     rw[e];exact dJ _
   . rw[Array.size_map];show(ZG vs).size<=_;rw[ZF];lia
 . rw [if_neg hlt,if_neg hlt];obtain⟨x,y,r,rfl⟩:∃x y r,vs=x::y::r:=by
    match vs,hsz,hlt with
    |[],_,h2=>simp at h2
    |[_],_,h2=>simp at h2
    |x::y::r,_,_=>exact⟨x,y,r,rfl⟩
   rw[keyKind_ints hI];refine aA (aJ ?_)
   refine aA (eA (KG
    (Q:=λ_ z=>(bT z).Perm (ZG (x::y::r))/\DS z=none/\Seg (bT z) 0 (ZG (x::y::r)).size)
    hI.intKeys ⟨lF _,rfl,rfl⟩ rfl λz g1 g2 g3=>⟨g1,g2,g3⟩) ?_ λ_ _ e=>e)
   rintro⟨⟨⟩,z⟩ s' ⟨rfl,hp,hf,hs⟩;refine aA (seqEpoch_at ho6 rfl (aA (RP ho6 rfl ?_ (bZ _) ?_)))
   . rw[hf];simp[bne_self_eq_false,bS,if_false];exact aJ (last z hp hs)
   . refine cW (tY ((Array.size_map ..).trans (hp.size_eq.trans (ZF _)))) (by lia)
def Rise(xs:Array Nat):Prop:=xs.toList.Pairwise (· < ·)
def Rise.lt(h:Rise xs)(hik:i<k)(hk:k<xs.size) d:xs.getD i d<xs.getD k d:=by have:=bP.mp h i k (by simp;lia) (by simpa using hk) hik;simp only[dZ,getElem?_pos xs i (by lia),getElem?_pos xs k hk,nT];simpa using this
theorem DM(hr:Rise xs):∀fuel lo hi,lo<=hi->hi<=xs.size->hi-lo<=fuel->(∀i,i<lo->xs.getD i j<j)->(∀i,hi<=i->i<xs.size->j<=xs.getD i j) →
  DW.below.go xs j fuel lo hi<=xs.size/\(∀i,i<DW.below.go xs j fuel lo hi->xs.getD i j<j)/\∀i,DW.below.go xs j fuel lo hi<=i->i<xs.size->j<=xs.getD i j
 |0,lo,hi,h1,h2,h3,h4,h5=>by
   unfold DW.below.go;have e:lo=hi:=by omega
   subst e;exact⟨h2,h4,h5⟩
 |fuel+1,lo,hi,h1,h2,h3,h4,h5=>by
   unfold DW.below.go;by_cases hlt:lo<hi
   . rw [if_pos hlt];dsimp only;by_cases hm:xs.getD ((lo+hi)/2) j<j
     . rw [if_pos hm];refine DM hr fuel _ hi (by omega) h2 (by omega) (λi hi'=>?_) h5;by_cases e:i=(lo+hi)/2
       . rw[e];exact hm
       . exact NV (hr.lt (by omega) (by omega) j) hm
     . rw [if_neg hm];refine DM hr fuel lo _ (by omega) (by omega) (by omega) h4 λi i1 i2=>?_;by_cases e:i=(lo+hi)/2
       . rw[e];omega
       . have:=hr.lt (show(lo+hi)/2<i by omega) i2 j;omega
   . rw [if_neg hlt];have e:lo=hi:=by omega
     subst e;exact⟨h2,h4,h5⟩
def NM(hr:Rise xs) j :
  DW.below xs j<=xs.size/\(∀i,i<DW.below xs j->xs.getD i j<j)/\∀i,DW.below xs j<=i->i<xs.size->j<=xs.getD i j:=
 DM hr xs.size 0 xs.size (bZ _) (aM _) (by lia) (λi hi=>absurd hi (Nat.not_lt_zero _)) λi i1 i2=>by lia
def Tidy(t:DW):Prop:=Rise t.place/\t.dummies=#[]
def MS{α:Type} xs(p:Nat)(x:α):(DW.insertAt xs p x).toList=xs.toList.take p++x::xs.toList.drop p:=by unfold DW.insertAt;simp only[dI,eD,eU,List.extract_eq_drop_take,rC,NU,bK,List.singleton_append];congr 2;rw[cQ (by simp)]
def aBq(h:Tidy t)(hj:t.place[DW.below t.place j]?≠some j):Tidy (t.put j).1:=by
 obtain⟨b1,b2,b3⟩:=NM h.1 j;refine⟨?_,?_⟩
 . show Rise (DW.insertAt t.place (DW.below t.place j) j);unfold Rise;rw [MS,rA];have gt:∀q∈t.place.toList.drop (DW.below t.place j),j<q:=λq hq=>by
    obtain⟨i,hi,e⟩:=dA hq;rw[iH,bG]at hi;have hlt:DW.below t.place j+i<t.place.size:=by lia
    have eq:t.place.getD (DW.below t.place j+i) j=q:=by rw[<-e,dZ,getElem?_pos t.place (DW.below t.place j+i) hlt];simp
    have h3:=b3 (DW.below t.place j+i) (by lia) hlt;rw[eq]at h3;by_cases hi0:i=0
    . subst hi0;rw [getElem?_pos t.place (DW.below t.place j) (by lia)]at hj;rw [dZ,Nat.add_zero,getElem?_pos t.place (DW.below t.place j) (by lia)]at eq;simp [nT]at eq;rw [eq]at hj;have:q≠j:=λz=>hj (by rw [z])
      lia
    . have h4:=h.1.lt (i:=DW.below t.place j) (by lia) hlt j;have h5:=b3 (DW.below t.place j) (aM _) (by lia)
      lia
   have lt:∀q∈t.place.toList.take (DW.below t.place j),q<j:=λq hq=>by
    obtain⟨i,hi,e⟩:=dA hq;rw[dW,bG]at hi;have eq:t.place.getD i j=q:=by rw[<-e,dZ,getElem?_pos t.place i (by lia)];simp
    rw[<-eq];exact b2 i (by lia)
   refine⟨cA (fQ ..) h.1,bF.mpr ⟨gt,cA (gZ ..) h.1⟩,λa ha b hb=>?_⟩;rcases aB.mp hb with rfl|hb
   . exact lt a ha
   . exact NV (lt a ha) (gt b hb)
 . show(if DW.has t.dummies j then DW.eraseAt t.dummies (DW.below t.dummies j)else t.dummies)=#[];rw[h.2];unfold DW.has;simp
theorem LU(h:t.dummies=#[]) f hs:∀fuel p,p.dummy=none->∀j d,DW.probe.go t f hs fuel p=some (.empty j d)->d=none/\t.slot j=.empty
 |0,p,_,j,d,e=>by unfold DW.probe.go at e;cases e
 |fuel+1,p,hp,j,d,e=>by
   have ha:∀q:DW.Probe,(t.advance q).dummy=q.dummy:=λq=>by unfold DW.advance;split<;>rfl
   unfold DW.probe.go at e;cases hsl:t.slot p.j with
   |empty=>rw[hsl]at e;simp only[Option.some.injEq,DW.Met.empty.injEq]at e;obtain⟨rfl,rfl⟩:=e;exact⟨hp,hsl⟩
   |dummy=>
     exfalso;unfold DW.slot at hsl;dsimp only at hsl;split at hsl
     . cases hsl
     . rw [h]at hsl;split at hsl
       . rename_i hh;unfold DW.has at hh;simp at hh
       . cases hsl
   |live i=>
     rw[hsl]at e;dsimp only at e;split at e
     . cases e
     . exact LU h f hs fuel _ (by rw[ha];exact hp) j d e
def OW{t:DW}(h:t.slot j=.empty):t.place[DW.below t.place j]?≠some j:=by intro hh;unfold DW.slot at h;rw[if_pos (by rw[hh];simp)]at h;cases h
def free_is(h:Tidy t)(e:t.freeSlot hs=some (j,d)):t.place[DW.below t.place j]?≠some j:=by
 unfold DW.freeSlot at e;split at e
 . rename_i j' d' he;obtain⟨rfl,h2⟩:=LU h.2 _ hs _ _ rfl j' d' he;obtain⟨rfl,rfl⟩:=e;exact OW h2
 . cases e
def Okt(bt:Bool)(t:DW):Prop:=t.led=!bt/\(t.plain=true->Tidy t)
def QP{bt:Bool}(h:Okt bt t) es hs x:Okt bt (layNew t es hs x).2.1:=by
 unfold layNew;split
 . rename_i j d he;dsimp only;unfold DW.orStandIn;split
   . exact⟨h.1,λhp=>aBq (h.2 hp) (free_is (h.2 hp) he)⟩
   . exact⟨h.1,λhp=>by cases hp⟩
 . exact⟨h.1,λhp=>by cases hp⟩
def aEa{plain:Bool}{bt:Bool}(hl:led=!bt)(e:DW.laid mask finger moves led plain hs=some (t,o)):Okt bt t:=by
 unfold DW.laid at e;cases ho:DW.layClean mask hs with
 |none=>rw[ho]at e;cases e
 |some owner=>
   rw[ho]at e;obtain⟨rfl,rfl⟩:=e;refine⟨hl,λ_=>⟨?_,rfl⟩⟩;have key:∀l:List Nat,l.Pairwise (· < ·)->((l.filterMap λj=>(owner.getD j none).map (j,·)).map (·.1)).Pairwise (· < ·):=by
    intro l hl;refine cA (?_:List.Sublist _ l) hl;clear hl;induction l with
    |nil=>exact List.Sublist.refl _
    |cons a l ih=>
      rw[iN];cases owner.getD a none with
      |none=>exact List.Sublist.cons _ ih
      |some b=>exact List.Sublist.cons₂ _ ih
   exact key _ List.pairwise_lt_range
def IJ{bt:Bool}(h:Okt bt t) es n:Okt bt (DQ t es n).2.1:=by
 unfold DQ;split
 . rename_i t' o he;dsimp only;split
   . exact aEa h.1 he
   . exact⟨h.1,λhp=>by cases hp⟩
 . exact⟨h.1,λhp=>by cases hp⟩
section
variable{prog:cF}{w:dE}
noncomputable def bt(w:dE):Bool:=w.params.followText "set-order"
def SI(prog:cF)(w:dE)(h:Heap)(a:aG)(ns:List Int):Prop:=
 ∃o es ep t ks,h.get? a=some o/\o.ExactSet/\o.data=.set es ep t/\ElemsOf (DR prog w) es.toList/\eR (es.toList.map (·.2)) ks/\ks.Nodup/\(∀k,k∈ks↔k∈ns)
  /\ es.size<iX/\t.fits es.size=true/\Okt (bt w) t
def HK:∀{us vs:List aN}{ns:List Int},eR vs ns->us.Perm vs->∃ms,eR us ms/\ms.Perm ns:=by intro us vs ns hI hp;refine⟨us.map numOf,intsAre_map us λv hv=>hI.all v (hp.mem_iff.mp hv),?_⟩;have:=hp.map numOf;rwa [hI.nums]at this
theorem HJ:∀{vs:List aN}{ns:List Int},eR vs ns->∀k t,eR (vs++[.int k t]) (ns++[k])
 |_,_,.nil,k,t=>.cons k t .nil
 |_,_,.cons n u h,k,t=>.cons n u (HJ h k t)
theorem MR:∀{vs:List aN}{ns:List Int},eR vs ns->∀k,k∈ns↔∃v∈vs,aN.isInt k v=true
 |_,_,.nil,k=>by simp
 |_,_,.cons n u h,k=>by
   rw[aB,MR h k];constructor
   . rintro (rfl|⟨v,h1,h2⟩)
     . exact⟨_,.head _,by simp[aN.isInt]⟩
     . exact⟨v,.tail _ h1,h2⟩
   . rintro ⟨v,h1,h2⟩;rcases aB.mp h1 with rfl|h1
     . have e:n=k:=by simpa [aN.isInt]using h2
       exact .inl e.symm
     . exact .inr ⟨v,h1,h2⟩
def add_one(hS:SI prog w s.heap a ns)(hroom:∀o es ep t,s.heap.get? a=some o->o.data=.set es ep t->es.size+1<iX)(h:∀h' b,Heap.SameBut a s.heap h'->SI prog w h' a (ns++[k])->(∀o es ep t o' es' ep' t',s.heap.get? a=some o->o.data=.set es ep t->h'.get? a=some o'->o'.data=.set es' ep' t'->es'.size<=es.size+1)->Q b {s with heap:=h'}) :
  bL (aZ prog w) A (setAddHashed a (.int k tk) (tG k)) Q E s:=by
 obtain⟨o,es,ep,t,ks,ho,hex,hd,hel,hI,hnd,hmem,hb,hf,hok⟩:=hS;have hb1:=hroom o es ep t ho hd;have hkey:(DR prog w).is k (.int k tk)=true:=intKind_is _ _ _ _;have old:∀o₂ es₂ ep₂ t₂,s.heap.get? a=some o₂->o₂.data=.set es₂ ep₂ t₂->es₂=es:=λo₂ es₂ ep₂ t₂ e1 e2=>by rw[ho]at e1;cases e1;rw[hd]at e2;cases e2;rfl
 refine dR (aA (iG ho hd hf ?_));dsimp only;rw[byScan_of rfl hb hel];refine aA (aA (iP (aA (wpAny_setScan_of hkey ho hd hf hel ?_))));have hks:k∈ks↔∃e∈es.toList,(DR prog w).is k e.2=true:=by
  rw[MR hI k];constructor
  . rintro⟨v,h1,h2⟩;obtain⟨e,he,rfl⟩:=bN.mp h1;exact⟨e,he,h2⟩
  . rintro⟨e,he,h2⟩;exact⟨e.2,bN.mpr ⟨e,he,rfl⟩,h2⟩
 cases hr:List.findIdx? (λe=>(DR prog w).is k e.2) es.toList with
 |some j=>
   obtain⟨hj,hpj,_⟩:=List.findIdx?_eq_some_iff_getElem.mp hr;have hin:=hks.mpr ⟨es.toList[j],iI hj,hpj⟩;refine aJ (aJ ?_);have:=h s.heap false (Heap.SameBut.refl a s.heap) ⟨o,es,ep,t,ks,ho,hex,hd,hel,hI,hnd,λz=>?_,hb,hf,hok⟩ λo₁ es₁ ep₁ t₁ o₂ es₂ ep₂ t₂ e1 e2 e3 e4=>by rw[old _ _ _ _ e1 e2,old _ _ _ _ e3 e4];lia
   . exact this
   . rw[bE,aO,<-hmem z];exact⟨.inl,λq=>q.elim id λe=>e▸hin⟩
 |none=>
   have hout:k∉ks:=λhin=>by obtain⟨e,he,hp⟩:=hks.mp hin;have:=List.findIdx?_eq_none_iff.mp hr e he;rw[hp]at this;cases this
   have said:∀(way:Bool) {z:bH}{T:Unit->bH->Prop},T () z->bL (aZ prog w) A (match way with|true=>rule "set.scan.the-table-gave-way" | false=>pure ()) T E z:=λway z T q=>match way with
    |true=>iP q
    |false=>aJ q
   have hperm:=layNew_perm t es (tG k) (.int k tk);have hfits:=layNew_fits t es (tG k) (.int k tk);have hokt:=QP hok es (tG k) (.int k tk);generalize hL:layNew t es (tG k) (.int k tk)=L at hperm hfits hokt ⊢;obtain⟨es1,t1,wd,gave⟩:=L;rw[eD]at hperm;have mk:∀es2:Array (Int×aN),es2.toList.Perm es1.toList->ElemsOf (DR prog w) es2.toList/\(∃ks2,eR (es2.toList.map (·.2)) ks2/\ks2.Nodup/\∀z,z∈ks2↔z∈ns++[k])/\es2.size=es.size+1:=λes2 hp2=>by
    have hp3:=hp2.trans hperm;refine⟨(hel.push hkey rfl).perm hp3,?_,?_⟩
    . have e1:eR ((es.toList++[(tG k,aN.int k tk)]).map (·.2)) (ks++[k]):=by
       rw[cU];exact HJ hI k tk
      obtain⟨ks2,g1,g2⟩:=HK e1 (hp3.map (·.2));refine⟨ks2,g1,g2.nodup_iff.mpr ?_,λz=>?_⟩
      . rw[cJ];exact⟨hnd,by simp,λx hx y hy=>by rw[aO.mp hy];exact λe=>hout (e▸hx)⟩
      . rw[g2.mem_iff,bE,bE,hmem z]
    . have:=hp3.length_eq;simpa using this
   obtain⟨hel1,⟨ks1,hI1,hnd1,hm1⟩,hsz1⟩:=mk es1 (gW _);refine aA (said _ ?_)
   have fin:∀(t2:DW),t2.fits es1.size=true->Okt (bt w) t2->bL (aZ prog w) A (do
     storeSet a es1 t2
     if (!wd && t2.tooFull) = true then do
         (match (DQ t2 es1 (DW.grown es1.size)).2.2 with|true=>rule "set.scan.the-table-gave-way" | false=>pure ():Sem Unit)
         storeSet a (DQ t2 es1 (DW.grown es1.size)).1 (DQ t2 es1 (DW.grown es1.size)).2.1;pure (some true)
      else pure (some true)) (λr s'=>bL (aZ prog w) A (match r with|some added=>pure added|none=>setAddHashedIn a (.int k tk) (tG k) 99999) Q E s') E s:=λt2 hf2 ok2=>by
    refine aA (wpAny_storeSet_of ho hd ?_ (oV (by lia)));have hg1:(s.heap.update a (Obj.putSet es1 t2)).get? a=some {o with data:=.set es1 (ep+1) t2}:=by have:=eN (Obj.putSet es1 t2) ho (by rw[VL es1 t2 hd];rfl);rw[VL es1 t2 hd]at this;exact this
    have sb1:=EB s.heap a (Obj.putSet es1 t2);split
    . have hp:=relayAll_perm t2 es1 (DW.grown es1.size);have hfr:=relayAll_fits t2 es1 (DW.grown es1.size);have hor:=IJ ok2 es1 (DW.grown es1.size);generalize DQ t2 es1 (DW.grown es1.size)=Rl at hp hfr hor ⊢;obtain ⟨es2,t3,g2⟩:=Rl;obtain ⟨hel2,⟨ks2,hI2,hnd2,hm2⟩,hsz2⟩:=mk es2 hp;refine aA (said _ ?_);refine aA (wpAny_storeSet_of hg1 rfl ?_ (oV (by lia)));have hg2:((s.heap.update a (Obj.putSet es1 t2)).update a (Obj.putSet es2 t3)).get? a=some {o with data:=.set es2 (ep+1+1) t3}:=by have:=eN (Obj.putSet es2 t3) hg1 (by rw[VL es2 t3 rfl];rfl);rw[VL es2 t3 rfl]at this;exact this
      refine aJ (aJ (h _ true (sb1.trans (EB _ a _)) ⟨_,es2,_,t3,ks2,hg2,hex,rfl,hel2,hI2,hnd2,hm2,by lia,hfr,hor⟩ λo₁ es₁ ep₁ t₁ o₂ es₂ ep₂ t₂ e1 e2 e3 e4=>?_));rw[hg2]at e3;cases e3;cases e4;lia
    . refine aJ (aJ (h _ true sb1 ⟨_,es1,_,t2,ks1,hg1,hex,rfl,hel1,hI1,hnd1,hm1,by lia,hf2,ok2⟩ λo₁ es₁ ep₁ t₁ o₂ es₂ ep₂ t₂ e1 e2 e3 e4=>?_));rw[hg1]at e3;cases e3;cases e4;lia
   split
   . refine aA ?_;refine aJ ?_;exact fin t1 hfits hokt
   . refine aA (aJ ?_);exact fin t1 hfits hokt
end
section
variable{prog:cF}{w:dE}
def SIm(prog:cF)(w:dE)(h:Heap)(a:aG)(ns:List Int)(m:Nat):Prop:=
 SI prog w h a ns/\∀o es ep t,h.get? a=some o->o.data=.set es ep t->es.size<=m
theorem SIm.at(hS:SIm prog w h a ns m)(k:∀o,h.get? a=some o->h'.get? a=some o):SIm prog w h' a ns m:=by obtain⟨⟨o,es,ep,t,ks,ho,r⟩,hm⟩:=hS;refine⟨⟨o,es,ep,t,ks,k o ho,r⟩,λo' es' ep' t' e1 e2=>?_⟩;rw[k o ho]at e1;cases e1;exact hm o es' ep' t' ho e2
theorem vL(h:bL (aZ prog w) A.in1 (pyNext (.ref J)) (λr z'=>match r with
   |none=>R (.ok (.ret .none)) z'
   |some v=>bL (aZ prog w) A.in1 (setAdd c v) (λ_ z2=>gO (aZ prog w) A (.builtin "set.update.loop" ⟨[.ref c,.ref J],[]⟩) R z2) (λe z2=>R (.error e) z2) z') (λe z2=>R (.error e) z2) z) :
  gO (aZ prog w) A (.builtin "set.update.loop" ⟨[.ref c,.ref J],[]⟩) R z:=by
 have pl:=F.plain_set_update_loop;refine kT F.entry_set_update_loop (Eq.mpr (congrArg (λB=>bL _ B _ _ _ z) (eX.under_plainId pl _)) ?_);refine aA (eA h (λr z' q=>?_) λ_ _ q=>q);cases r with
 |none=>exact aJ q
 |some v=>exact aA (dR (eA q (λ_ z2 q2=>aJ ⟨uN pl _,q2⟩) λ_ _ q2=>q2))
def aAq(W:WalksS prog w A.in1 J feet hand G n P Z) c(off:c∉feet) num(isn:∀i v,P i v->∃t,v=.int (num i) t)(few:n+1<iX) :
  ∀k i z,n-i=k->i<=n->Z i z->SIm prog w z.heap c ((List.range i).map num) i →
   (∀z',Moved (c::hand) G z z'->SIm prog w z'.heap c ((List.range n).map num) n->R (.ok (.ret .none)) z') →
   gO (aZ prog w) A (.builtin "set.update.loop" ⟨[.ref c,.ref J],[]⟩) R z:=by
 have away:c∉hand:=λq=>off (W.sub c q);have more:∀b,b∈hand->b∈c::hand:=λb q=>.tail _ q;intro k;induction k with
 |zero=>
   intro i z hk hi here hS done;have e:i=n:=by lia
   subst e;refine vL (W.done z _ _ here λz' mv=>?_);exact done z' (mv.mono more) (hS.at λo e=>mv.heap c o away e)
 |succ k ih=>
   intro i z hk hi here hS done;have hlt:i<n:=by lia
   refine vL (W.item i z _ _ hlt here λv z' hv here' mv=>?_);obtain⟨t,rfl⟩:=isn i v hv;have hS':=hS.at λo e=>mv.heap c o away e;dsimp only;unfold setAdd;refine dR (aA ((DR prog w).pyHash (k:=num i) (intKind_is _ _ _ _) ?_));refine add_one (s:={z' with toks:=z'.toks+1}) hS'.1 (λo es ep t e1 e2=>?_) λh' b same hS2 hsz=>?_
   . have:=hS'.2 o es ep t e1 e2
     lia
   have rest:∀b,b≠c->h'.get? b=z'.heap.get? b:=same.2;have hS3:SIm prog w h' c ((List.range (i+1)).map num) (i+1):=by
    refine⟨by rw[oZ,cU];exact hS2,λo es ep t e1 e2=>?_⟩;obtain⟨⟨o₀,es₀,ep₀,t₀,_,ho₀,_,hd₀,_⟩,hm₀⟩:=hS';have:=hsz o₀ es₀ ep₀ t₀ o es ep t ho₀ hd₀ e1 e2;have:=hm₀ o₀ es₀ ep₀ t₀ ho₀ hd₀
    lia
   refine ih (i+1) _ (by lia) hlt (W.frame _ z' _ _ here' (mD _) λb q o e=>(rest b λy=>off (y▸q)).trans e) hS3 λz2 mv2 hS4=>done z2 (Moved.trans W.gtrans ((mv.mono more).then_heap (mD _) λb o q e=>(rest b λy=>q (y▸.head _)).trans e) mv2) hS4
section
variable{s:bH}
abbrev nset(led:Bool):Obj:={cls:=.type "set",dict:=none,data:=.set #[] 0 (.fresh 0 0 led)}
def MF x(h:Q (.ref s.heap.objs.size) {s with heap:=s.heap.push (nset (!bt w))}) :
  gO (aZ prog w) A (.call (.builtin "set.__new__") ⟨[.type "set",x],[]⟩) (wants Q E) s:=by
 have own:=sub_set_self;have pl:=PySem.F.plain_set_new;refine JV ?_;show bL _ A.in1 (checkBuiltinCall "set.__new__" ⟨[.type "set",x],[]⟩ >>= λ_=>again (.builtin "set.__new__" ⟨[.type "set",x],[]⟩)) _ _ s;refine aA (wpAny_of_eq (PySem.F.newCall_set_1 x) (aJ ⟨uN pl _,kT PySem.F.entry_set_new ?_⟩));rw[eX.under_plainId pl _];obtain⟨hp,gens,dr,toks,sys⟩:=s;unfold Builtin.«set.__new__»;unfold Builtin.Frozenset.newClass
 wp_walk
 exact EV (aJ (aA (wpAny_alloc (aJ (aJ h)))))
def si_new(h:Heap):SIm prog w (h.push (nset (!bt w))) h.objs.size [] 0:=by have hg:(h.push (nset (!bt w))).get? h.objs.size=some (nset (!bt w)):=aU _ rfl;refine⟨⟨_,#[],0,_,[],hg,⟨rfl,rfl,rfl⟩,rfl,λe he=>by simp at he,.nil,EG,λ_=>Iff.rfl,by decide,by rfl,rfl,λ_=>⟨List.Pairwise.nil,rfl⟩⟩,λo es ep t e1 e2=>?_⟩;rw[hg]at e1;cases e1;cases e2;exact aM _
def aDb{items:Array aN}(hi:eR items.toList ns):(List.range items.size).map (λi=>ns.getD i 0)=ns:=by
 have hlen:items.size=ns.length:=by rw[<-eR.length hi,bG]
 apply kW;intro i;rw[bI];by_cases hi':i<ns.length
 . rw[mT (by lia)];simp[eE,aF hi']
 . rw[aY (by simp;lia),aY (by lia)];rfl
def aEf(free:A.handled=none)(hl:s.heap.IsList l items)(hi:eR items.toList ns)(few:items.size+1<iX)(h:∀h' tk,SIm prog w h' s.heap.objs.size ns items.size->(∀b o,s.heap.get? b=some o->h'.get? b=some o)->Q .none {s with heap:=h',toks:=tk}) :
  gO (aZ prog w) A (.call (.builtin "set.__init__") ⟨[.ref s.heap.objs.size,.ref l],[]⟩) (wants Q E) {s with heap:=s.heap.push (nset (!bt w))}:=by
 have hS:(s.heap.push (nset (!bt w))).get? s.heap.objs.size=some (nset (!bt w)):=aU _ rfl;refine codeAny_call_builtin mR.init.plain FC (check_set_init_1 ⟨_,hS,rfl⟩ ?_);obtain⟨lo,hlo,c1,nl,d1⟩:=hl;obtain⟨k1,k2,k3,k4⟩:=lo;cases c1;cases d1;have old:(s.heap.push (nset (!bt w))).get? l=some {cls:=.type "list",dict:=k2,data:=.seq items nl,slots:=k4}:=aD _ hlo;have no1:=JW;have no2:=AF;have hl1:(s.heap.push (nset (!bt w))).IsList l items:=⟨_,old,rfl,nl,rfl⟩
 have lS:=bJ hlo;have sz:(s.heap.push (nset (!bt w))).objs.size=s.heap.objs.size+1:=rH _ _;have far:∀b:aG,b<s.heap.objs.size->b≠(s.heap.push (nset (!bt w))).objs.size:=λb hb=>by rw[sz];exact bO (fS hb)
 unfold Builtin.«set.__init__» noKeywords;unfold Builtin.Frozenset.updateFrom;generalize walker:EX=PI
 wp_walk
 subst walker;refine oR hl1 (aA (NP ?_))
 refine aAq ((Walks.list (by simp[free]) _ l (far l lS) items).toS) s.heap.objs.size ?off (λi=>ns.getD i 0) (λi v hv=>eR.int_at hi i v (by rw[cM];exact hv)) few items.size 0 _ rfl (bZ _)
  ⟨⟨_,aU _ rfl,rfl,rfl⟩,hl1.push _⟩ ((si_new s.heap).at λo e=>aD _ e) ?fin
 case off =>
  rw[sz];intro q;rcases aB.mp q with e|q
  . exact bO (gF _) e
  . exact tW lS (aO.mp q)
 case fin =>
  rintro⟨h2,g2,d2,t2,s2⟩ mv full;have eg:=mv.gens;have ed:=mv.drawn;have es:=mv.os;rw[aDb hi]at full;subst eg ed es;refine aJ (aJ (h h2 t2 full λb o e=>?_));have hb:=bJ e;refine mv.heap b o (λq=>?_) (aD _ (aD _ e));rcases aB.mp q with y|q
  . exact bO hb y
  . exact far b hb (aO.mp q)
set_option maxHeartbeats 4000000 in
def call_set(free:A.handled=none)(hl:s.heap.IsList l items)(hi:eR items.toList ns)(few:items.size+1<iX)(h:∀h' tk,SIm prog w h' s.heap.objs.size ns items.size->(∀b o,s.heap.get? b=some o->h'.get? b=some o)->Q (.ref s.heap.objs.size) {s with heap:=h',toks:=tk}) :
  bL (aZ prog w) A (call (.type "set") [.ref l]) Q E s:=by
 have C:=mR;have made:=C.made;have below:=C.sub;refine uZ (JV (aJ ⟨Code.quiet_builtin _ (by decide +kernel),kT EC ?_⟩));rw[eX.under_plain (weight_type_call_type _ _ _) rfl]
 repeat (any_goals first|assumption|wp_step)
 refine gX (MF (.ref l) (E:=E) (Q:=λv z=>v=.ref s.heap.objs.size/\z={s with heap:=s.heap.push (nset (!bt w))}) ⟨rfl,rfl⟩) λr z q=>?_;rcases r with e|fl
 . exact q
 cases fl<;>try exact q.elim
 obtain⟨rfl,rfl⟩:=q;have look:=C.init.lookup;have bound:=C.init.bind (.ref s.heap.objs.size)
 repeat (any_goals first|assumption|wp_step)
 refine gX (aEf (E:=E) (Q:=λv z=>v=.none/\∃h' tk,z={s with heap:=h',toks:=tk}/\SIm prog w h' s.heap.objs.size ns items.size/\∀b o,s.heap.get? b=some o->h'.get? b=some o) (by simp[free]) hl hi few
  λh' tk q1 q2=>⟨rfl,h',tk,rfl,q1,q2⟩) λr z q=>?_
 rcases r with e|fl
 . exact q
 cases fl<;>try exact q.elim
 obtain⟨rfl,h',tk,rfl,q1,q2⟩:=q
 repeat (any_goals first|assumption|wp_step)
 exact h h' tk q1 q2
end
end
def rM:Slot "set" "__iter__" "set.__iter__" :=
 .of (owner:="set") (n:="__iter__") (by rw[sC,mM];kernel_rfl) (by decide +kernel) (by decide +kernel) (by decide +kernel) (by first|exact .inl (by decide +kernel)|exact .inr (by decide +kernel)) (by rw[NR];kernel_rfl)
def gQ:Slot "set_iterator" "__next__" "set_iterator.__next__" :=
 .of (owner:="set_iterator") (n:="__next__") (by rw[sC,mM];kernel_rfl) (by decide +kernel) (by decide +kernel) (by decide +kernel) (by first|exact .inl (by decide +kernel)|exact .inr (by decide +kernel)) (by rw[NR];kernel_rfl)
def oP:Slot "set_iterator" "__iter__" "set_iterator.__iter__" :=
 .of (owner:="set_iterator") (n:="__iter__") (by rw[sC,mM];kernel_rfl) (by decide +kernel) (by decide +kernel) (by decide +kernel) (by first|exact .inl (by decide +kernel)|exact .inr (by decide +kernel)) (by rw[NR];kernel_rfl)
def DC:entryFor table "set.__iter__" = some Builtin.«frozenset.__iter__»:=entryFor_alias (id':="frozenset.__iter__") (by kernel_rfl) rfl (by decide +kernel) (by kernel_rfl)
def tQ:entryFor table "set_iterator.__iter__" = some Builtin.«dict_keyiterator.__iter__»:=entryFor_alias (id':="dict_keyiterator.__iter__") (by kernel_rfl) rfl (by decide +kernel) (by kernel_rfl)
def uY a:ZH "set_iterator.__iter__" ⟨[a],[]⟩:=by unfold ZH;kernel_rfl
theorem wT{α:Type}:∀{l:List α}{i:Nat} (h:i<l.length),(l[i]::l.eraseIdx i).Perm l
 |a::l,0,h=>gW _
 |a::l,i+1,h=>by rw[List.eraseIdx_cons_succ,KC];exact(List.Perm.swap _ _ _).trans (List.Perm.cons _ (wT (by simpa using h)))
def tP:entryFor table "set_iterator.__next__" = some Builtin.«set_iterator.__next__»:=entryFor_of_fast (by kernel_rfl)
def EU a:ZH "set.__iter__" ⟨[a],[]⟩:=by unfold ZH;kernel_rfl
def uX a:ZH "set_iterator.__next__" ⟨[a],[]⟩:=by unfold ZH;kernel_rfl
def LC:typeLookup (.type "set") "__len__" = pure (some (.builtin "set.__len__")):=by rw[sC,mM];kernel_rfl
theorem TQ{α:Type} next:∀(fuel k:Nat) (left:List α) (out:Array α),left.length=fuel->(pickOrder.go next fuel k left out).toList.Perm (out.toList++left)
 |0,k,left,out,h=>by have e:left=[]:=JX.mp h;subst e;unfold pickOrder.go;simp
 |fuel+1,k,left,out,h=>by unfold pickOrder.go;have hi:next k%left.length<left.length:=Nat.mod_lt _ (by omega);rw[aF hi];dsimp only;refine(TQ next fuel (k+1) _ _ (by rw[EH hi];omega)).trans ?_;rw[eD,bK];exact gK _ (wT hi)
def WO{α:Type} next(xs:Array α):(pickOrder next xs).toList.Perm xs.toList:=by have:=TQ next xs.size 0 xs.toList #[] (by simp);simpa[pickOrder]using this
section
variable{prog:cF}{w:dE}{A:eX}{E:aN->bH->Prop}{s:bH}
def VT(hn:n≠0)(h:∀i d,i<n->Q i {s with drawn:=d}):bL M A (choose src n) Q E s:=by intro Γ p hΓ;unfold choose;refine⟨hn,?_⟩;exact h _ _ (Nat.mod_lt _ (by lia))
theorem RX:∀n xs z {Q:List α->bH->Prop},xs.length=n->(∀ys d,ys.Perm xs->Q ys {z with drawn:=d})->bL M A (drawOrder n xs) Q E z
 |0,xs,z,Q,hl,h=>by have e:xs=[]:=JX.mp hl;subst e;unfold drawOrder;exact aJ (h [] z.drawn (gW _))
 |n+1,[],z,Q,hl,h=>by simp at hl
 |n+1,x::xs,z,Q,hl,h=>by unfold drawOrder;refine aA (VT (by simp) λi d hi=>?_);rw[aF hi];dsimp only;refine aA (RX n _ _ (by rw[EH hi,hl];rfl) λys d' hp=>aJ ?_);exact h _ d' ((List.Perm.cons _ hp).trans (wT hi))
def wI(h:Q (bt w) s):bL (aZ prog w) A setsByText Q E s:=by exact aA (EV (aJ h))
abbrev sit(f:aN)(i:Nat)(a:aG)(n ep:Nat):Obj:={cls:=.type "set_iterator",data:=.fields #[f,.int i 0,.ref a,.int n 0,.int ep 0]}
def KY{M:Model}{it:aG}{Q:aN->bH->Prop}(hh:A.handled=none)(h:∀h' e,(∀b o,s.heap.get? b=some o->h'.get? b=some o)->bH.TypeIs {s with heap:=h'} e "StopIteration"->E e {s with heap:=h'}) :
  bL M A (do raiseNew (<-newExc (.type "StopIteration") []):Sem PySem.Fin) (λr s'=>∃v,r=.done (.ret v)/\Q v s') E s:=by
 refine aA ?_;refine aA (m:=firstArgMember _ _) (wpAny_of_eq rfl ?_);refine eI ?_ (by size_fits);refine aA (wpAny_handled ?_);rw[hh];refine aA (aJ (wpAny_throw ?_));refine h _ _ (λb o e=>aD _ (aD _ e)) ⟨_,aU _ rfl,rfl⟩
def vI(hit:s.heap.get? it=some (sit f i a n ep))(h:bL (aZ prog w) A.in1 (Builtin.«set_iterator.__next__» ⟨[.ref it],[]⟩) (λr s'=>∃v,r=.done (.ret v)/\Q (some v) s')
    (λe s'=>s'.TypeIs e "StopIteration"/\Q none s') s):bL (aZ prog w) A (pyNext (.ref it)) Q E s:=by
 refine aA (wpAny_attempt (pW ⟨_,hit,rfl⟩ gQ
  (fJ gQ ⟨_,hit,rfl⟩ tP (eA h (λr s' ⟨v,e,q⟩=>⟨v,e,aJ q⟩) λe s' ⟨ht,q⟩=>?_) (uX _))))
 refine aA (wpAny_isInstance ht isSubtype_stop ?_);exact aJ q
def AL(hit:s.heap.get? it=some (sit f i a n ep))(ho:s.heap.get? a=some o)(hd:o.data=.set es ep t)(hf:t.fits es.size=true)(hn:es.size=n)(h:bL (aZ prog w) A (
    if let .int slot _:=f then do
     match <-KA a slot.toNat i ep with
     |some (x,next)=>
       DP (.ref it) 0 (oX next)
       DP (.ref it) 1 (oX ((i:Int)+1))
       ret x
     |none=>DP (.ref it) 2 .none;raiseNew (<-newExc (.type "StopIteration") [])
    else do
     let some places <- seqItems? f | unsupported "internal:set_iterator"
     match places[i]? with
     |some (.int place _)=>
       let x <- setNextDrawn a place.toNat ep
       DP (.ref it) 1 (oX ((i:Int)+1))
       ret x
     |some _=>unsupported "internal:set_iterator"
     |none=>DP (.ref it) 0 (oX 0);DP (.ref it) 2 .none;raiseNew (<-newExc (.type "StopIteration") [])) Q E' s) :
  bL (aZ prog w) A (Builtin.«set_iterator.__next__» ⟨[.ref it],[]⟩) Q E' s:=by
 show bL (aZ prog w) A (fieldsOf (.ref it) >>= _) Q E' s;refine aA (aA (wpAny_load hit (aJ ?_)));refine aA (wpAny_setEntries_of ho hd hf ?_);rw[if_neg (by simp[hn])];exact h
def CK(hit:s.heap.get? it=some (sit f i a n ep))(h:Q (.ref it) s):bL (aZ prog w) A (EX (.ref it)) Q E s:=by refine wpAny_pyIter_slot ⟨_,hit,rfl⟩ oP (fJ oP ⟨_,hit,rfl⟩ tQ ?_ (uY _));exact aJ ⟨_,rfl,"set_iterator",_,⟨_,hit,rfl⟩,gQ.lookup,h⟩
def SD{h:Heap}(hit:h.get? it=some (sit f i a n ep)):(h.update it (Obj.mapFields (·.setIfInBounds 0 g))).get? it=some (sit g i a n ep):=
 eN _ hit rfl
def SA{h:Heap}(hit:h.get? it=some (sit f i a n ep)):(h.update it (Obj.mapFields (·.setIfInBounds 1 (oX ((i:Int)+1))))).get? it=some (sit f (i+1) a n ep):=by
 have:=eN (Obj.mapFields (·.setIfInBounds 1 (oX ((i:Int)+1)))) hit rfl;rw[this];have e:((i+1:Nat):Int)=(i:Int)+1:=by lia
 unfold sit;rfl
def KJ{it a:aG}{o:Obj}{es:Array (Int×aN)}{ep:Nat}{t:DW}{sl:Nat->Nat}{ord:List aN}(hh:A.in1.handled=none)(hne:a≠it)(hd:o.data=.set es ep t)(hf:t.fits es.size=true)(hn:ord.length=es.size)(hx:∀(i:Nat) (z:bH) (Q:Option (aN×Nat)->bH->Prop) (E:aN->bH->Prop),z.heap.get? a=some o->i<=es.size->Q (ord[i]?.map λx=>(x,sl (i+1))) z->bL (aZ prog w) A.in1 (KA a (sl i) i ep) Q E z) :
  WalksS prog w A it [it,a] [it] (λa b=>b=a) es.size (λi v=>ord[i]?=some v) (λi z=>z.heap.get? it=some (sit (.int (sl i) 0) i a es.size ep)/\z.heap.get? a=some o) where
 sub:=λb hb=>by simp at hb;simp[hb]
 grefl:=λ_=>rfl
 gtrans:=λ_ _ _ h1 h2=>h2.trans h1
 frame:=λi z h' tk st _ hk=>⟨hk it (by simp) _ st.1,hk a (by simp) _ st.2⟩
 self:=λi z Q E st h=>CK st.1 h
 item:=λi z Q E hi st h=>by
  refine vI st.1 (AL st.1 st.2 hd hf rfl ?_);refine aA (hx i z _ _ st.2 (by lia) ?_);rw[aF (by lia)];refine aA (lP st.1 rfl (by simp) ?_);have s1:=SD (g:=oX (sl (i+1):Int)) st.1;refine aA (lP s1 rfl (by simp) (aJ ⟨_,rfl,?_⟩));have s2:=SA s1;refine h _ _ (aF (by lia)) ⟨s2,?_⟩ ⟨λb o' hb e=>?_,rfl,rfl,rfl,aM _⟩
  . exact(bU _ _ (Ne.symm hne)).trans ((bU _ _ (Ne.symm hne)).trans st.2)
  . have hb':it≠b:=λz=>hb (by simp[z]);exact(bU _ _ hb').trans ((bU _ _ hb').trans e)
 done:=λz Q E st h=>by
  refine vI st.1 (AL st.1 st.2 hd hf rfl ?_);refine aA (hx es.size z _ _ st.2 (aM _) ?_);rw[aY (by lia)];refine aA (lP st.1 rfl (by simp) ?_);refine KY (it:=it) hh λh' e hk ht=>⟨ht,h _ ⟨λb o' hb e=>hk b o' ?_,rfl,rfl,rfl,aM _⟩⟩
  exact(bU _ _ (λz=>hb (by simp[z]))).trans e
def OJ{it a T:aG}{o oT:Obj}{es:Array (Int×aN)}{ep:Nat}{t:DW}{pl:List Nat}{n0:Nat}(hh:A.in1.handled=none)(hne:a≠it)(hnT:T≠it)(hd:o.data=.set es ep t)(hf:t.fits es.size=true)(hT:oT=kN "tuple" (pl.map λ(i:Nat)=>oX i).toArray n0)(hp:pl.Perm (List.range es.size)) :
  WalksS prog w A it [it,a,T] [it] (λa b=>b=a) es.size (λi v=>((pl.map λi=>(es.toList.map (·.2)).getD i .none))[i]?=some v)
   (λi z=>z.heap.get? it=some (sit (.ref T) i a es.size ep)/\z.heap.get? a=some o/\z.heap.get? T=some oT) where
 sub:=λb hb=>by simp at hb;simp[hb]
 grefl:=λ_=>rfl
 gtrans:=λ_ _ _ h1 h2=>h2.trans h1
 frame:=λi z h' tk st _ hk=>⟨hk it (by simp) _ st.1,hk a (by simp) _ st.2.1,hk T (by simp) _ st.2.2⟩
 self:=λi z Q E st h=>CK st.1 h
 item:=λi z Q E hi st h=>by
  have hl:pl.length=es.size:=by rw[hp.length_eq];simp
  have hpi:pl[i]?=some (pl[i]'(by lia)):=aF (by lia);have hlt:pl[i]'(by lia)<es.size:=nD.mp (hp.mem_iff.mp (iI _));refine vI st.1 (AL st.1 st.2.1 hd hf rfl ?_);refine aA (wpAny_seqItems st.2.2 (by rw[hT]) ?_);dsimp only;have e1:(pl.map λ(i:Nat)=>oX i).toArray[i]?=some (oX (pl[i]'(by lia):Int)):=by rw[OA,bI,hpi];rfl
  rw[e1];refine aA (aA (iG st.2.1 hd hf ?_));dsimp only;rw[if_neg (by simp)];rw[tZ,getElem?_pos es (pl[i]'(by lia)) hlt];refine aJ (aA (lP st.1 rfl (by simp) (aJ ⟨_,rfl,?_⟩)));refine h _ _ ?_ ⟨SA st.1,(bU _ _ (Ne.symm hne)).trans st.2.1,(bU _ _ (Ne.symm hnT)).trans st.2.2⟩ ⟨λb o' hb e=>(bU _ _ (λz=>hb (by simp[z]))).trans e,rfl,rfl,rfl,aM _⟩;rw[bI,hpi];simp[eE,hlt]
 done:=λz Q E st h=>by
  have hl:pl.length=es.size:=by rw[hp.length_eq];simp
  refine vI st.1 (AL st.1 st.2.1 hd hf rfl ?_);refine aA (wpAny_seqItems st.2.2 (by rw[hT]) ?_);dsimp only;have e1:(pl.map λ(i:Nat)=>oX i).toArray[es.size]?=none:=by rw[OA,aY (by simp;lia)]
  rw[e1];refine aA (lP st.1 rfl (by simp) ?_);refine aA (lP (SD st.1) rfl (by simp) ?_);refine KY (it:=it) hh λh' e hk ht=>⟨ht,h _ ⟨λb o' hb e=>hk b o' ?_,rfl,rfl,rfl,aM _⟩⟩
  have hb':it≠b:=λz=>hb (by simp[z]);exact(bU _ _ hb').trans ((bU _ _ hb').trans e)
end
section
variable{A:eX}
noncomputable def slOf(pl:Array Nat)(i:Nat):Nat:=if i=0 then 0 else pl.getD (i-1) 0+1
def aFm(h:Rise pl)(hi:i<=pl.size):DW.below pl (slOf pl i)=i:=by
 obtain⟨b1,b2,b3⟩:=NM h (slOf pl i);have gd:∀k d d',k<pl.size->pl.getD k d=pl.getD k d':=λk d d' hk=>by simp[dZ,getElem?_pos pl k hk,nT]
 rcases tX (DW.below pl (slOf pl i)) i with hlt|he|hgt
 . exfalso;have h3:=b3 (i - 1) (by lia) (by lia);unfold slOf at h3
   lia
 . exact he
 . exfalso;have h2:=b2 i hgt;by_cases hi0:i=0
   . subst hi0;unfold slOf at h2;simp at h2
   . have h4:=h.lt (i:=i - 1) (k:=i) (by lia) (by lia) 0;unfold slOf at h2
     lia
def XA(hd:o.data=.set es ep t)(hf:t.fits es.size=true)(hb:bt w=true) i z Q E(ho:z.heap.get? a=some o)(h:Q ((((pickOrder (w.params.setOrder a ep) es).toList.map (·.2))[i]?).map λx=>(x,0)) z):bL (aZ prog w) A (KA a 0 i ep) Q E z:=by unfold KA;refine aA (iG ho hd hf ?_);dsimp only;refine aA (wI ?_);rw[hb];simp only[if_true,bne_self_eq_false,bS,if_false];unfold setWalk;refine aA (aA (iG ho hd hf ?_));dsimp only;refine aA (wI ?_);rw[hb];simp only[if_true];refine aA (EV (aJ (aJ ?_)));rw[bI,cM,Option.map_map]at h;exact h
def QA(hd:o.data=.set es ep t)(hf:t.fits es.size=true)(hb:bt w=false)(hl:t.led=true)(hnd:(!t.plain&&decide (es.size>1))=false)(hr:Rise t.place) i z
  Q E (ho:z.heap.get? a=some o) (hi:i<=es.size) (h:Q (((es.toList.map (·.2))[i]?).map λx=>(x,slOf t.place (i+1))) z):bL (aZ prog w) A (KA a (slOf t.place i) i ep) Q E z:=by
 have hps:t.place.size=es.size:=by simp only[DW.fits,bV,beq_iff_eq]at hf;exact hf.1
 unfold KA;refine aA (iG ho hd hf ?_);dsimp only;refine aA (wI ?_);rw[hb];simp only[bS,if_false];split
 . rename_i hh;have hh':(!t.plain&&decide (es.size>1))=true:=hh;rw[hnd]at hh';cases hh'
 . refine aA ?_;show bL (aZ prog w) A (if (!t.led && !es.isEmpty)=true then unsupported "set:maker-not-led" else pure ()) _ _ _;rw [hl];simp only [Bool.not_true,Bool.false_and,bS,if_false];refine aJ (aJ ?_);rw [aFm hr (by lia)];by_cases hlt:i<es.size
   . rw [getElem?_pos es i hlt,getElem?_pos t.place i (by lia)];rw [aF (by simpa using hlt)]at h;have e:slOf t.place (i+1)=t.place[i]+1:=by unfold slOf;rw[if_neg (by lia),Nat.add_sub_cancel,dZ,getElem?_pos t.place i (by lia)];rfl
     rw[e]at h;simpa using h
   . rw[getElem?_neg es i hlt,getElem?_neg t.place i (by lia)];rw[aY (by simp;lia)]at h;exact h
def aEd(hh:A.in1.handled=none)(ho:s.heap.get? a=some o)(hex:o.ExactSet)(hd:o.data=.set es ep t)(hf:t.fits es.size=true)(hok:Okt (bt w) t)(hb:es.size<iX)(h:∀I fp (ord:List aN) St h' d,WalksS prog w A I fp [I] (λa b=>b=a) es.size (λi v=>ord[i]?=some v) St->St 0 { s with heap:=h',drawn:=d } →
    ord.length=es.size->ord.Perm (es.toList.map (·.2))->s.heap.objs.size<=I->(∀b∈fp,b=a\/s.heap.objs.size<=b)->(∀b u,s.heap.get? b=some u->h'.get? b=some u)->Q (.ref I) {s with heap:=h',drawn:=d}) :
  bL (aZ prog w) A (EX (.ref a)) Q E s:=by
 have haL:=bJ ho;have hps:t.place.size=es.size:=by have hf':=hf;simp[DW.fits,bV,beq_iff_eq]at hf';exact hf'.1
 refine wpAny_pyIter_slot ⟨_,ho,hex.1⟩ rM (fJ rM ⟨_,ho,hex.1⟩ DC ?_ (EU _));show bL (aZ prog w) A.in1 (Builtin.Frozenset.sizeOf a >>= _) _ _ s;refine aA (aA (wpAny_setEntries_of ho hd hf (aJ ?_)));refine aA ?_;refine aA (iG ho hd hf ?_);refine aA (wI (aJ ?_));have hlen:(es.toList.map (·.2)).length=es.size:=by simp
 split
 . rename_i hD;refine aA (RX es.size (List.range es.size) s (by simp) λpl d hp=>?_);refine aA (wpAny_newTuple ?_ (hsz:=by rw [cD,hp.length_eq,ZL];exact oV hb));refine aA (wpAny_setEpoch_of (aD _ ho) hd hf ?_);refine aA (eI (aJ ⟨_,rfl,"set_iterator",_,⟨_,aU _ rfl,rfl⟩,gQ.lookup,?_⟩));have hsz1:∀ u:Obj,(s.heap.push u).objs.size=s.heap.objs.size+1:=λu=>rH _ _;refine h _ _ _ _ _ d (OJ (n0:=0) hh ?_ ?_ hd hf rfl hp) ⟨aU _ rfl,?_,?_⟩ ?_ ?_ ?_ ?_ ?_
   . rw[hsz1];exact bO (fS haL)
   . rw[hsz1];exact bO (gF _)
   . exact aD _ (aD _ ho)
   . exact aD _ (aU _ rfl)
   . rw[cD,hp.length_eq];simp
   . refine (hp.map _).trans (OE ?_);apply kW;intro i;rw [bI];by_cases hi:i<es.size
     . rw[mT hi,aF (by simpa using hi)];simp[eE,hi]
     . rw[aY (by simp;lia),aY (by simp;lia)];rfl
   . rw[hsz1];exact mD _
   . intro b hb;rw [hsz1]at hb;simp [aB,aAf,or_false]at hb;rcases hb with rfl|rfl|rfl
     . exact .inr (mD _)
     . exact .inl rfl
     . exact .inr (aM _)
   . exact λb u e=>aD _ (aD _ e)
 . rename_i hD;have hD':¬ ((!bt w && (!t.plain && decide (es.size > 1)))=true):=hD;refine aA (aJ ?_);refine aA (wpAny_setEpoch_of ho hd hf ?_);refine aA (eI (aJ ⟨_,rfl,"set_iterator",_,⟨_,aU _ rfl,rfl⟩,gQ.lookup,?_⟩));have hfp:∀b∈[s.heap.objs.size,a],b=a\/s.heap.objs.size<=b:=λb hb=>by
    simp[aB,aAf,or_false]at hb;rcases hb with rfl|rfl
    . exact .inr (aM _)
    . exact .inl rfl
   cases hb:bt w with
   |true=>
     have hpk:=WO (w.params.setOrder a ep) es
     refine h _ _ _ _ _ s.drawn (KJ hh (bO haL) hd hf (by rw[cD,hpk.length_eq,bG])
      λi z Q' E' hz _ hq=>XA hd hf hb i z Q' E' hz hq) ⟨aU _ rfl,aD _ ho⟩ ?_ (hpk.map _) (aM _) hfp λb u e=>aD _ e
     rw[cD,hpk.length_eq,bG]
   |false=>
     have hnd:(!t.plain&&decide (es.size>1))=false:=by rw[hb]at hD';simpa using hD'
     have hr:Rise t.place:=by
      cases hp:t.plain with
      |true=>exact(hok.2 hp).1
      |false=>
        unfold Rise;have hl:t.place.toList.length<=1:=by rw[bG];lia
        match t.place.toList,hl with
        |[],_=>exact List.Pairwise.nil
        |[x],_=>exact dU _ _
     refine h _ _ _ _ _ s.drawn (KJ hh (bO haL) hd hf hlen
      λi z Q' E' hz hi hq=>QA hd hf hb (by rw[hok.1,hb];rfl) hnd hr i z Q' E' hz hi hq) ⟨aU _ rfl,aD _ ho⟩ hlen (gW _) (aM _) hfp λb u e=>aD _ e
def XX{ord:List aN}(h:ItemsOf (λi v=>ord[i]?=some v) acc n)(hl:ord.length=n):acc.toList=ord:=by
 apply kW;intro i;by_cases hi:i<n
 . have hi':i < acc.size:=by rw [h.1];exact hi
   have e:acc.toList[i]?=some acc[i]:=by rw[cM];exact getElem?_pos acc i hi'
   rw[e];exact(h.2 i acc[i] (getElem?_pos acc i hi')).symm
 . rw[aY (by rw[bG,h.1];lia),aY (by lia)]
def EJ:splitId "set.__len__" = some ("set","__len__"):=by kernel_rfl
def NI(hh:A.handled=none)(hS:SIm prog w s.heap a ns m)(h:∀h' d tk ord ks,eR ord ks->ks.Nodup->(∀k,k∈ks↔k∈ns)->ord.length<=m->(∀b o,s.heap.get? b=some o->h'.get? b=some o)->Q ord {s with heap:=h',drawn:=d,toks:=tk}) :
  bL (aZ prog w) A (collect (.ref a)) Q E s:=by
 obtain⟨⟨o,es,ep,t,ks,ho,hex,hd,hel,hI,hnd,hmem,hb,hf,hok⟩,hm⟩:=hS;have hsz:=hm o es ep t ho hd;have haL:=bJ ho;have hline:=oV hb;refine aA (NP (kT PySem.F.entry_proto_collect ?_));refine aA (eI ?_);refine aJ ⟨uN PySem.F.plain_list_iadd _,kT PySem.F.entry_list_iadd ?_⟩;generalize hL:s.heap.objs.size=L;show bL _ A.in1 (Builtin.List.listExtendWith (.ref L) (.ref a) (.ref L)) _ _ {s with heap:=s.heap.push {cls:=.type "list",data:=.seq ([]:List aN).toArray} };have ho1:(s.heap.push {cls:=.type "list",data:=.seq ([]:List aN).toArray}).get? a=some o:=aD _ ho;have hL1:(s.heap.push {cls:=.type "list",data:=.seq ([]:List aN).toArray}).get? L=some {cls:=.type "list",data:=.seq ([]:List aN).toArray}:=by rw[<-hL];exact aU _ rfl
 have hz1:(s.heap.push {cls:=.type "list",data:=.seq ([]:List aN).toArray}).objs.size=L+1:=by rw[rH,hL]
 refine aA (rG ⟨_,ho1,hex.1⟩ ?_);have g1:Builtin.List.listSameRef (.ref L) (.ref a)=false:=by simp[Builtin.List.listSameRef];rw[<-hL];exact tW haL
 have g2:(aN.type "set"==aN.type "list")=false:=by decide
 have g3:(aN.type "set"==aN.type "tuple")=false:=by decide
 simp only[g1,g2,g3,Bool.or_false,bS,if_false];refine aA (aEd (by simp[hh]) ho1 hex hd hf hok hb λI fp ord St h1 d W st0 hlo hpo hI1 hfp hk1=>?_);rw[hz1]at hI1;have hoz:=hk1 _ _ ho1;have hLz:=hk1 _ _ hL1;have hSf:L∉fp:=λz=>by
  rw[hz1]at hfp;rcases hfp L z with e|e
  . rw[<-e,<-hL]at haL;exact cZ _ haL
  . exact cZ _ e
 refine aA (dR ?_);refine aA (sA ⟨_,hoz,hex.1⟩ LC ?_);dsimp only;rw[EJ];refine aA (wpAny_isInstance ⟨_,hoz,hex.1⟩ sub_set_self ?_);rw[if_neg (show ¬((!true)=true) by decide)];refine aA (rG ⟨_,hoz,hex.1⟩ (aJ ?_));refine aA (iP ?_);refine aA ?_;refine aA (wpAny_updateSeq hLz rfl ?_);have hL2:=eN (Obj.mapSeq (·.push aN.none)) hLz rfl;refine wpAny_updateSeq hL2 rfl ?_;have hL3:=eN (Obj.mapSeq (·.pop)) hL2 rfl
 have oth:∀b u,b≠L->h1.get? b=some u->((h1.update L (Obj.mapSeq (·.push aN.none))).update L (Obj.mapSeq (·.pop))).get? b=some u:=
  λb u hb e=>(bU _ _ (Ne.symm hb)).trans ((bU _ _ (Ne.symm hb)).trans e)
 refine aJ ⟨uN PySem.F.plain_extend_loop _,codeAny_extend_loopS W hline _ hSf _ es.size 0 _ _ _ rfl (bZ _)
  (W.frame 0 ({s with heap:=h1,drawn:=d}: bH) _ s.toks st0 (aM _) λb hb u e=>oth b u (λz=>hSf (z▸hb)) e) hL3 (ItemsOf.nil _) λz' acc c' hmv hS' hacc=>?_⟩
 refine aA (wpAny_load hS' (aJ ?_));rw[XX hacc hlo];obtain⟨h2,gs,d2,tk,os2⟩:=z';have eg:=hmv.gens;have ed:d2=d:=hmv.drawn;have eo:=hmv.os;subst eg ed eo;obtain⟨kk,q1,q2⟩:=HK hI hpo;refine h h2 d2 tk ord kk q1 (q2.nodup_iff.mpr hnd) (λk=>q2.mem_iff.trans (hmem k)) (by lia) λb u e=>?_;have hbs:=bJ e;have hbL:b≠L:=by rw[<-hL];exact bO hbs
 have hbI:=bO (bY (by rw[<-hL];exact fS hbs) hI1);exact hmv.heap b u (by simp[hbL,hbI]) (oth b u hbL (hk1 b u (aD _ e)))
def OV{Q:aN->bH->Prop}(hI:eR vs ns)(hsl:vs.length<=sizeLine)(h:∀h2 vs' ns' e,(∀b o,s.heap.get? b=some o->h2.get? b=some o)->h2.get? s.heap.objs.size=some (kN "list" vs'.toArray e)->eR vs' ns'->ns'.Perm ns->ns'.Pairwise (·<=·) →
    Q (.ref s.heap.objs.size) {s with heap:=h2}) :
  bL (aZ prog w) A.in1 (do
   let l <- newList vs
   let _ <- gN [l] (call (.builtin "list.sort") [l] [])
   ret l) (λr z=>∃v,r=.done (.ret v)/\Q v z) E s:=by
 refine aA (RM ?_);have hoL:(s.heap.push (kN "list" vs.toArray 0)).get? s.heap.objs.size=some (kN "list" vs.toArray 0):=aU _ rfl;refine aA (dR (fJ slot_list_sort ⟨_,hoL,rfl⟩ entry_list_sort (aAy hoL hI hsl λout ns' a1 a2 a3=>⟨_,rfl,?_⟩) (args_list_sort _)));obtain⟨e,he⟩:=sortedHeap_at hoL;refine aJ ⟨_,rfl,h _ out.toList ns' e (λb o q=>?_) (by simpa using he) a1 a2 a3⟩;have hb:=bJ q;have q1:=aD (kN "list" vs.toArray 0) q;rw[sortedHeap_old (bO hb) (by rw[rH];exact fS hb)];exact q1
def sorted_set(hh:A.handled=none)(hS:SIm prog w s.heap a ns m)(hm:m<=sizeLine)(h:∀(h1 h2:Heap) d tk vs ks e,(∀b o,s.heap.get? b=some o->h1.get? b=some o)->(∀b o,h1.get? b=some o->h2.get? b=some o)->h2.get? h1.objs.size=some (kN "list" vs.toArray e) →
    eR vs ks->ks.Pairwise (· < ·)->(∀k,k∈ks↔k∈ns)->vs.length<=m->Q (.ref h1.objs.size) {s with heap:=h2,drawn:=d,toks:=tk}) :
  bL (aZ prog w) A (call (.builtin "sorted") [.ref a]) Q E s:=by
 refine Calls.call_function_entry kind_sorted plain_sorted entry_sorted (args_sorted1 _) ?_;refine aA (aJ (aA (NI (by simp[hh]) hS λh1 d tk ord ks q1 q2 q3 q4 q5=>?_)));refine OV q1 (cW q4 hm) λh2 vs ks' e p1 p2 p3 p4 p5=>?_;have hlt:ks'.Pairwise (· < ·):=by have hnd:=p4.nodup_iff.mpr q2;exact List.Pairwise.imp₂ (λa b h1 h2=>Int.lt_iff_le_and_ne.mpr ⟨h1,h2⟩) p5 hnd
 refine h h1 h2 d tk vs ks' e q5 p1 p2 p3 hlt (λk=>p4.mem_iff.trans (q3 k)) ?_;have l1:=eR.length p3;have l2:=eR.length q1;have l3:=p4.length_eq
 lia
end
end TS
namespace TU
open PySem PyProof.Rows
variable{A:eX}
def sorted_endS{Q:aN->bH->Prop}(hI:DV vs ss)(h64:vs.length<64)(h:∀h2 vs' ns' e,(∀b o,s.heap.get? b=some o->h2.get? b=some o)->h2.get? s.heap.objs.size=some (kN "list" vs'.toArray e)->DV vs' ns'->ns'.Perm ss->sortedS ns'=true →
    Q (.ref s.heap.objs.size) {s with heap:=h2}) :
  bL (aZ prog w) A.in1 (do
   let l <- newList vs
   let _ <- gN [l] (call (.builtin "list.sort") [l] [])
   ret l) (λr z=>∃v,r=.done (.ret v)/\Q v z) E s:=by
 refine aA (RM ?_);have hoL:(s.heap.push (kN "list" vs.toArray 0)).get? s.heap.objs.size=some (kN "list" vs.toArray 0):=aU _ rfl;refine aA (dR (fJ slot_list_sort ⟨_,hoL,rfl⟩ entry_list_sort (list_sort_treeK strKind_oneLt hoL hI.keysOf (λv₁ v₂ rest e=>keyKind_strs (by rw[<-e];exact hI)) h64 λst' hp hs=>⟨_,rfl,?_⟩) (args_list_sort _)));obtain⟨ns',a1,a2,a3⟩:=sorted_out_str hI hp hs;generalize (bT st').map (·.2)=out at *;obtain⟨e,he⟩:=sortedHeap_at hoL;refine aJ ⟨_,rfl,h _ out.toList ns' e (λb o q=>?_) (by simpa using he) a1 a2 a3⟩;have hb:=bJ q;have q1:=aD (kN "list" vs.toArray 0) q;rw[sortedHeap_old (bO hb) (by rw[rH];exact fS hb)];exact q1
end TU
open PySem PySem.Spec PyProof.Rows L2
variable{X:Cx}
namespace FL
abbrev Frag:=aP
def KLst(K:Frag)(a:aG)(xs:List V):Prop:=∃(o:Obj) (its:Array aN) (n:Nat),K.lookup a=some o/\o.cls=.type "list"/\o.dict=none/\o.data=.seq its n/\its.size<=sizeLine/\Vals xs its.toList
def KTup(K:Frag)(a:aG)(xs:List V):Prop:=∃(o:Obj) (its:Array aN) (n:Nat),K.lookup a=some o/\o.cls=.type "tuple"/\o.data=.seq its n/\its.size<=sizeLine/\Vals xs its.toList
structure LamT where
 qual:Str
 params:Arguments
 body:FuncBody
 scope:Scope
noncomputable def lamsE(q:Str):Nat->Expr->List LamT
 |0,_=>[]
 |n+1,e=>match e with
   |.Lambda a b sc _=>[⟨q++"<lambda>",a,.expr b,sc⟩]
   |.Call _ as _ _=>as.flatMap (lamsE q n)
   |.Compare l _ cs _=>lamsE q n l++cs.flatMap (lamsE q n)
   |.BoolOp _ vs _=>vs.flatMap (lamsE q n)
   |.UnaryOp _ o _=>lamsE q n o
   |.BinOp l _ r _=>lamsE q n l++lamsE q n r
   |.IfExp t b o _=>lamsE q n t++(lamsE q n b++lamsE q n o)
   |.List es _=>es.flatMap (lamsE q n)
   |.Tuple es _ _=>es.flatMap (lamsE q n)
   |.Subscript v i _=>lamsE q n v++lamsE q n i
   |_=>[]
noncomputable def lamsS(q:Str):Nat->Stmt->List LamT
 |0,_=>[]
 |n+1,s=>match s with
   |.FunctionDef x a b _ _ _ sc _ _ _=>[⟨q++x,a,.stmts b,sc⟩]
   |.Assign _ e _=>lamsE q 12 e
   |.Return (some e) _=>lamsE q 12 e
   |.Expr e _=>lamsE q 12 e
   |.If t a b _=>lamsE q 12 t++(a.flatMap (lamsS q n)++b.flatMap (lamsS q n))
   |.For _ _ a _ _=>a.flatMap (lamsS q n)
   |.While _ a _ _=>a.flatMap (lamsS q n)
   |_=>[]
noncomputable def lamsOf(x:Str)(b:List Stmt):List LamT:=b.flatMap (lamsS (x++".<locals>.") 8)
noncomputable def OO(K:aP)(m n:Nat):Option LamT:=(makers[m]?).bind λx=>match aX K aV x with
 |some (some (.ref f))=>(match K.lookup f with
   |some ⟨_,_,.func fd,_⟩=>(match fd.body with
     |.stmts b=>(lamsOf x b)[n]?
     |_=>none)
   |_=>none)
 |_=>none
noncomputable def freeR(l:List (Str×oA)):List Str:=((l.filter λy=>y.2==oA.free).map (·.1)).reverse
inductive ClosOk(H:Hp)(O:aG->Prop):List (Str×aG)->List V->Prop
 |nil:ClosOk H O [] []
 |cons {n:Str}{c:aG}{o:Obj}{u:HO}{w:aN}{x:V}{cl:List (Str×aG)}{xs:List V} (no:¬O c) (h:H c=some (.frz o u)) (d:o.data=.cell (some w)) (r:RelV x w) (t:ClosOk H O cl xs):ClosOk H O ((n,c)::cl) (x::xs)
def LamAt(H:Hp)(O:aG->Prop)(f:aG)(t:LamT)(cl:List (Str×aG)):Prop:=¬O f/\∃(o oc:Obj) (u uc:HO) (fd:bR) (c:aG) (vs:Array aN) (tq:Tok),
 H f=some (.frz o u)/\o.cls=.type "function"/\o.data=.func fd/\fd.qualname=t.qual/\fd.params=t.params/\fd.body=t.body/\fd.scope=t.scope/\fd.globals=aV/\fd.closure=cl/\fd.defaults=.none/\fd.kwdefaults=.none/\fd.code=.ref c/\fd.builtins=AA ∧
 ¬O c/\H c=some (.frz oc uc)/\oc.data=.fields vs/\vs[1]?=some (.str t.qual tq)
mutual
inductive Rep(K:Frag)(H:Hp)(O:aG->Prop):V->D->Prop
 |non:Rep K H O .non .non
 |bl (b:Bool):Rep K H O (.bl b) (.bl b)
 |int (i:Int):Rep K H O (.int i) (.int i)
 |str (x:Str):Rep K H O (.str x) (.str x)
 |tup {a:aG}{xs:List V}{ds:List D} (n:¬O a) (h:Rd H a (.tup xs)) (r:Reps K H O xs ds):Rep K H O (.ref a) (.tup ds)
 |tupK {a:aG}{xs:List V}{ds:List D} (h:KTup K a xs) (r:Reps K H O xs ds):Rep K H O (.ref a) (.tup ds)
 |lst {a:aG}{xs:List V}{ds:List D} (n:¬O a) (h:Rd H a (.lst xs)) (r:Reps K H O xs ds):Rep K H O (.ref a) (.lst ds)
 |lstK {a:aG}{xs:List V}{ds:List D} (h:KLst K a xs) (r:Reps K H O xs ds):Rep K H O (.ref a) (.lst ds)
 |dct {a:aG}{kvs:List (Key×V)}{ks:List Key}{ds:List D} (n:¬O a) (h:H a=some (.dK kvs)) (e:kvs.map (·.1)=ks) (r:Reps K H O (kvs.map (·.2)) ds):Rep K H O (.ref a) (.dct ks ds)
 |dcf {a:aG}{o:Obj}{kvs:List (Key×V)}{ks:List Key}{ds:List D} (n:¬O a) (h:H a=some (.frz o (.dK kvs))) (e:kvs.map (·.1)=ks) (r:Reps K H O (kvs.map (·.2)) ds):Rep K H O (.ref a) (.dcf ks ds)
 |ins {a C dx:aG}{t:Nat}{kvs:List (Str×V)}{ds:List D} (c:aX K aV (eP t)=some (some (.ref C))) (n:¬O a) (h:H a=some (.ins C dx kvs)) (e:kvs.map (·.1)=fD t) (r:Reps K H O (kvs.map (·.2)) ds):Rep K H O (.ref a) (.ins t ds)
 |clo {f:aG}{m n:Nat}{t:LamT}{cl:List (Str×aG)}{xs:List V}{ds:List D} (tx:OO K m n=some t) (h:LamAt H O f t cl) (e:cl.map (·.1)=freeR t.scope.names) (nd:(cl.map (·.2)).Nodup) (c:ClosOk H O cl xs) (r:Reps K H O xs ds):Rep K H O (.ref f) (.clo m n ds)
 |fnK {f:aG}{k:Nat} (h:aX K aV (tN k)=some (some (.ref f))):Rep K H O (.ref f) (.clo 1000 k [])
inductive Reps(K:Frag)(H:Hp)(O:aG->Prop):List V->List D->Prop
 |nil:Reps K H O [] []
 |cons {x:V}{d:D}{xs:List V}{ds:List D} (h:Rep K H O x d) (t:Reps K H O xs ds):Reps K H O (x::xs) (d::ds)
end
section
variable{K:Frag}{H H':Hp}{O O':aG->Prop}
def Keep(O:aG->Prop)(H H':Hp):Prop:=∀b o,¬O b->H b=some o->H' b=some o
def Keep.of_same(h:Same H H'):Keep O H H':=λb o _ e=>h b o e
def Keep.rd(k:Keep O H H')(n:¬O a)(h:Rd H a u):Rd H' a u:=by
 rcases h with h|⟨o,h⟩
 . exact .inl (k _ _ n h)
 . exact .inr ⟨o,k _ _ n h⟩
def Kp(O O':aG->Prop)(H H':Hp):Prop:=∀b o,¬O b->H b=some o->¬O' b/\H' b=some o
def Kp.rd(k:Kp O O' H H')(n:¬O a)(h:Rd H a u):¬O' a/\Rd H' a u:=by
 rcases h with h|⟨o,h⟩
 . exact⟨(k _ _ n h).1,.inl (k _ _ n h).2⟩
 . exact⟨(k _ _ n h).1,.inr ⟨o,(k _ _ n h).2⟩⟩
def ClosOk.gen(k:Kp O O' H H')(h:ClosOk H O cl xs):ClosOk H' O' cl xs:=by
 induction h with
 |nil=>exact .nil
 |cons no h d r _ ih=>exact .cons (k _ _ no h).1 (k _ _ no h).2 d r ih
def LamAt.gen(k:Kp O O' H H')(h:LamAt H O f t cl):LamAt H' O' f t cl:=by obtain⟨n,o,oc,u,uc,fd,c,vs,tq,h1,h2,h3,h4,h5,h6,h7,h8,h9,h10,h11,h12,h13,h14,h15,h16,h17⟩:=h;exact⟨(k _ _ n h1).1,o,oc,u,uc,fd,c,vs,tq,(k _ _ n h1).2,h2,h3,h4,h5,h6,h7,h8,h9,h10,h11,h12,h13,(k _ _ h14 h15).1,(k _ _ h14 h15).2,h16,h17⟩
def Kp.of(k:Keep O H H'):Kp O O H H':=λb o n e=>⟨n,k b o n e⟩
def Kp.less(k:∀a,O' a->O a):Kp O O' H H:=λb o n e=>⟨λz=>n (k _ z),e⟩
def ClosOk.keep(k:Keep O H H')(h:ClosOk H O cl xs):ClosOk H' O cl xs:=h.gen (.of k)
def LamAt.keep(k:Keep O H H')(h:LamAt H O f t cl):LamAt H' O f t cl:=h.gen (.of k)
theorem ClosOk.of(k:∀a o u,H a=some (.frz o u)->¬O' a):∀{cl:List (Str×aG)}{xs:List V},ClosOk H O cl xs->ClosOk H O' cl xs
 |_,_,.nil=>.nil
 |_,_,.cons no h d r t=>.cons (k _ _ _ h) h d r (ClosOk.of k t)
def LamAt.of(k:∀a o u,H a=some (.frz o u)->¬O' a)(h:LamAt H O f t cl):LamAt H O' f t cl:=by obtain⟨n,o,oc,u,uc,fd,c,vs,tq,h1,h2,h3,h4,h5,h6,h7,h8,h9,h10,h11,h12,h13,h14,h15,h16,h17⟩:=h;exact⟨k _ _ _ h1,o,oc,u,uc,fd,c,vs,tq,h1,h2,h3,h4,h5,h6,h7,h8,h9,h10,h11,h12,h13,k _ _ _ h15,h15,h16,h17⟩
def ins1(p:aG)(O:aG->Prop):aG->Prop:=λb=>b=p\/O b
def Kp.ins{p:aG}(hp:H p=none):Kp O (ins1 p O) H H:=λb o n e=>⟨λz=>z.elim (λq=>by rw[q,hp]at e;cases e) n,e⟩
mutual
theorem Rep.gen(k:Kp O O' H H'):∀{v:V}{d:D},Rep K H O v d->Rep K H' O' v d
 |_,_,.non=>.non
 |_,_,.bl b=>.bl b
 |_,_,.int i=>.int i
 |_,_,.str x=>.str x
 |_,_,.tup n h r=>.tup (k.rd n h).1 (k.rd n h).2 (Reps.gen k r)
 |_,_,.tupK h r=>.tupK h (Reps.gen k r)
 |_,_,.lst n h r=>.lst (k.rd n h).1 (k.rd n h).2 (Reps.gen k r)
 |_,_,.lstK h r=>.lstK h (Reps.gen k r)
 |_,_,.dct n h e r=>.dct (k _ _ n h).1 (k _ _ n h).2 e (Reps.gen k r)
 |_,_,.dcf n h e r=>.dcf (k _ _ n h).1 (k _ _ n h).2 e (Reps.gen k r)
 |_,_,.ins c n h e r=>.ins c (k _ _ n h).1 (k _ _ n h).2 e (Reps.gen k r)
 |_,_,.clo tx h e nd c r=>.clo tx (h.gen k) e nd (c.gen k) (Reps.gen k r)
 |_,_,.fnK h=>.fnK h
theorem Reps.gen(k:Kp O O' H H'):∀{vs:List V}{ds:List D},Reps K H O vs ds->Reps K H' O' vs ds
 |_,_,.nil=>.nil
 |_,_,.cons h t=>.cons (Rep.gen k h) (Reps.gen k t)
end
def Rep.keep(k:Keep O H H')(h:Rep K H O v d):Rep K H' O v d:=h.gen (.of k)
def Reps.keep(k:Keep O H H')(h:Reps K H O v d):Reps K H' O v d:=h.gen (.of k)
def Rep.mono(k:Same H H')(h:Rep K H O v d):Rep K H' O v d:=h.keep (.of_same k)
def Reps.mono(k:Same H H')(h:Reps K H O v d):Reps K H' O v d:=h.keep (.of_same k)
theorem Rep.less(k:∀a,O' a->O a)(h:Rep K H O v d):Rep K H O' v d:=h.gen (.less k)
theorem Reps.less(k:∀a,O' a->O a)(h:Reps K H O v d):Reps K H O' v d:=h.gen (.less k)
def Rd.some(h:Rd H a u):H a≠none:=by rcases h with h|⟨o,h⟩<;>(rw[h];simp)
def Rep.more(hp:H p=none)(h:Rep K H O v d):Rep K H (ins1 p O) v d:=h.gen (.ins hp)
def Reps.more(hp:H p=none)(h:Reps K H O v d):Reps K H (ins1 p O) v d:=h.gen (.ins hp)
noncomputable def mutO:HO->Bool
 |.lst _|.dK _|.dT _|.set _ _|.ins _ _ _=>true
 |_=>false
noncomputable def MutHO:={u:HO // mutO u=true}
def Old(H:Hp):aG->Prop:=λa=>∃o,H a=some o/\mutO o=true
def Old.mono(k:Same H H')(h:Old H a):Old H' a:=let ⟨o,e,m⟩:=h;⟨o,k _ _ e,m⟩
def yF:aG->Prop:=λ_=>False
mutual
theorem Rep.flattn(ho:∀a,O a->Old H a):∀{v:V}{d:D},Rep K H O' v d->flat d=true->Rep K H O v d
 |_,_,.non=>λ_=>.non
 |_,_,.bl b=>λ_=>.bl b
 |_,_,.int i=>λ_=>.int i
 |_,_,.str x=>λ_=>.str x
 |_,_,.tup n h r=>λf=>.tup (λz=>by
    obtain⟨u,e,m⟩:=ho _ z;rcases h with h|⟨o,h⟩
    . rw[e]at h;cases h;cases m
    . rw[e]at h;cases h;cases m) h (Reps.flattn ho r (by simpa[flat]using f))
 |_,_,.tupK h r=>λf=>.tupK h (Reps.flattn ho r (by simpa[flat]using f))
 |_,_,.lst _ _ _=>λf=>by simp[flat]at f
 |_,_,.lstK _ _=>λf=>by simp[flat]at f
 |_,_,.dct _ _ _ _=>λf=>by simp[flat]at f
 |_,_,.dcf _ _ _ _=>λf=>by simp[flat]at f
 |_,_,.ins _ _ _ _ _=>λf=>by simp[flat]at f
 |_,_,.clo _ _ _ _ _ _=>λf=>by simp[flat]at f
 |_,_,.fnK _=>λf=>by simp[flat]at f
theorem Reps.flattn(ho:∀a,O a->Old H a):∀{vs:List V}{ds:List D},Reps K H O' vs ds->flats ds=true->Reps K H O vs ds
 |_,_,.nil=>λ_=>.nil
 |_,_,.cons h t=>λf=>by simp only[flats,bV]at f;exact .cons (Rep.flattn ho h f.1) (Reps.flattn ho t f.2)
end
def Rep.flatten(ho:∀a,O a->Old H a)(f:flat d=true)(r:Rep K H O' v d):Rep K H O v d:=r.flattn ho f
def Reps.flatten(ho:∀a,O a->Old H a)(f:flats d=true)(r:Reps K H O' v d):Reps K H O v d:=r.flattn ho f
theorem Reps.length:∀{vs:List V}{ds:List D},Reps K H O vs ds->vs.length=ds.length
 |_,_,.nil=>rfl
 |_,_,.cons _ t=>by simp[Reps.length t]
theorem Reps.get:∀{vs:List V}{ds:List D}{i:Nat}{d:D},Reps K H O vs ds->ds[i]?=some d->∃v,vs[i]?=some v/\Rep K H O v d
 |_,_,_,_,.nil,e=>by simp at e
 |_,_,0,_,.cons h _,e=>by simp at e;subst e;exact⟨_,rfl,h⟩
 |_,_,i+1,d,.cons _ t,e=>by obtain⟨v,h1,h2⟩:=Reps.get (i:=i) (d:=d) t (by simpa using e);exact⟨v,by simpa using h1,h2⟩
theorem Reps.append:∀{xs ys:List V}{ds es:List D},Reps K H O xs ds->Reps K H O ys es->Reps K H O (xs++ys) (ds++es)
 |_,_,_,_,.nil,s=>s
 |_,_,_,_,.cons r t,s=>.cons r (Reps.append t s)
theorem Reps.set(r:Rep K H O x d):∀{xs:List V}{ds:List D} (i:Nat),Reps K H O xs ds->Reps K H O (xs.set i x) (ds.set i d)
 |_,_,_,.nil=>.nil
 |_,_,0,.cons _ t=>.cons r t
 |_,_,i+1,.cons q t=>.cons q (Reps.set r i t)
theorem Reps.drop:∀{xs:List V}{ds:List D} (n:Nat),Reps K H O xs ds->Reps K H O (xs.drop n) (ds.drop n)
 |_,_,0,r=>r
 |_,_,_+1,.nil=>.nil
 |_,_,n+1,.cons _ t=>Reps.drop n t
theorem Reps.take:∀{xs:List V}{ds:List D} (n:Nat),Reps K H O xs ds->Reps K H O (xs.take n) (ds.take n)
 |_,_,0,_=>.nil
 |_,_,_+1,.nil=>.nil
 |_,_,n+1,.cons r t=>.cons r (Reps.take n t)
theorem Reps.ints:∀(ns:List Int),Reps K H O (ns.map V.int) (ns.map D.int)
 |[]=>.nil
 |n::r=>.cons (.int n) (Reps.ints r)
def WRep(K:Frag)(H:Hp)(O:aG->Prop)(v:V)(d:D):Prop:=Rep K H O v d\/∃a xs l,v=.ref a/\d=.lst l/\O a/\H a=some (.lst xs)/\Reps K H O xs l
theorem WRep.mono(k:Same H H')(h:WRep K H O v d):WRep K H' O v d:=by
 rcases h with h|⟨a,xs,l,e1,e2,ho,h,r⟩
 . exact .inl (h.mono k)
 . exact .inr ⟨a,xs,l,e1,e2,ho,k _ _ h,r.mono k⟩
def WRep.any(h:WRep K H O v d):Rep K H yF v d:=by
 rcases h with h|⟨a,xs,l,rfl,rfl,ho,h,r⟩
 . exact h.less (λ_ z=>z.elim)
 . exact .lst (λz=>z.elim) (.inl h) (r.less λ_ z=>z.elim)
def WRep.seqL(h:WRep K H O v (.lst l)):∃a xs,v=.ref a/\SqL K H a xs/\Reps K H O xs l:=by
 rcases h with h|⟨a,xs,l',rfl,e,ho,h,r⟩
 . cases h with
   |lst n h r=>exact⟨_,_,rfl,.inl h,r⟩
   |lstK h r=>exact⟨_,_,rfl,.inr h,r⟩
 . cases e;exact⟨a,xs,rfl,.inl (.inl h),r⟩
def WRep.seqT(h:WRep K H O v (.tup l)):∃a xs,v=.ref a/\SqT K H a xs/\Reps K H O xs l:=by
 rcases h with h|⟨a,xs,l',rfl,e,ho,h,r⟩
 . cases h with
   |tup n h r=>exact⟨_,_,rfl,.inl h,r⟩
   |tupK h r=>exact⟨_,_,rfl,.inr h,r⟩
 . cases e
def WRep.int'(h:WRep K H O v (.int i)):v=.int i:=by
 rcases h with h|⟨a,xs,l',rfl,e,_⟩
 . cases h;rfl
 . cases e
def WRep.bl'(h:WRep K H O v (.bl i)):v=.bl i:=by
 rcases h with h|⟨a,xs,l',rfl,e,_⟩
 . cases h;rfl
 . cases e
def WRep.str'(h:WRep K H O v (.str i)):v=.str i:=by
 rcases h with h|⟨a,xs,l',rfl,e,_⟩
 . cases h;rfl
 . cases e
end
mutual
inductive RepO(K:Frag)(H:Hp)(O:aG->Prop):V->OT->List aG->Prop
 |val {v:V}{d:D} (r:Rep K H O v d):RepO K H O v (.val d) []
 |lst {a:aG}{xs:List V}{ts:List OT}{fs:List aG} (n:O a) (h:H a=some (.lst xs)) (r:RepsO K H O xs ts fs):RepO K H O (.ref a) (.lst ts) (a::fs)
 |tup {a:aG}{xs:List V}{ts:List OT}{fs:List aG} (n:¬O a) (h:Rd H a (.tup xs)) (r:RepsO K H O xs ts fs):RepO K H O (.ref a) (.tup ts) fs
 |dct {a:aG}{kvs:List (Key×V)}{ks:List Key}{ts:List OT}{fs:List aG} (n:O a) (h:H a=some (.dK kvs)) (e:kvs.map (·.1)=ks) (r:RepsO K H O (kvs.map (·.2)) ts fs):RepO K H O (.ref a) (.dct ks ts) (a::fs)
 |ins {a C dx:aG}{t:Nat}{kvs:List (Str×V)}{ts:List OT}{fs:List aG} (c:aX K aV (eP t)=some (some (.ref C))) (n:O a) (h:H a=some (.ins C dx kvs)) (e:kvs.map (·.1)=fD t) (r:RepsO K H O (kvs.map (·.2)) ts fs):RepO K H O (.ref a) (.ins t ts) (a::fs)
inductive RepsO(K:Frag)(H:Hp)(O:aG->Prop):List V->List OT->List aG->Prop
 |nil:RepsO K H O [] [] []
 |cons {x:V}{t:OT}{xs:List V}{ts:List OT}{fs gs:List aG} (h:RepO K H O x t fs) (r:RepsO K H O xs ts gs):RepsO K H O (x::xs) (t::ts) (fs++gs)
end
section
variable{K:Frag}{H H':Hp}{O O':aG->Prop}
mutual
theorem RepO.gen(k:Kp O O' H H'):∀{v:V}{t:OT}{fs:List aG},RepO K H O v t fs->(∀b∈fs,∀u,O b->H b=some u->O' b/\H' b=some u)->RepO K H' O' v t fs
 |_,_,_,.val r=>λ_=>.val (r.gen k)
 |_,_,_,.lst n h r=>λhb=>.lst (hb _ (.head _) _ n h).1 (hb _ (.head _) _ n h).2 (RepsO.gen k r λb z=>hb b (.tail _ z))
 |_,_,_,.tup n h r=>λhb=>.tup (k.rd n h).1 (k.rd n h).2 (RepsO.gen k r hb)
 |_,_,_,.dct n h e r=>λhb=>.dct (hb _ (.head _) _ n h).1 (hb _ (.head _) _ n h).2 e (RepsO.gen k r λb z=>hb b (.tail _ z))
 |_,_,_,.ins c n h e r=>λhb=>.ins c (hb _ (.head _) _ n h).1 (hb _ (.head _) _ n h).2 e (RepsO.gen k r λb z=>hb b (.tail _ z))
theorem RepsO.gen(k:Kp O O' H H'):∀{v:List V}{t:List OT}{fs:List aG},RepsO K H O v t fs->(∀b∈fs,∀u,O b->H b=some u->O' b/\H' b=some u)->RepsO K H' O' v t fs
 |_,_,_,.nil=>λ_=>.nil
 |_,_,_,.cons h r=>λhb=>.cons (RepO.gen k h λb z=>hb b (bA _ z)) (RepsO.gen k r λb z=>hb b (aI _ z))
end
def RepO.keep(k:Keep O H H')(h:RepO K H O v t fs)(hb:∀b∈fs,∀u,H b=some u->H' b=some u):RepO K H' O v t fs:=h.gen (.of k) λb z u o e=>⟨o,hb b z u e⟩
def RepsO.keep(k:Keep O H H')(h:RepsO K H O v t fs)(hb:∀b∈fs,∀u,H b=some u->H' b=some u):RepsO K H' O v t fs:=h.gen (.of k) λb z u o e=>⟨o,hb b z u e⟩
def RepO.mono(k:Same H H')(h:RepO K H O v t fs):RepO K H' O v t fs:=h.keep (.of_same k) λb _ u e=>k b u e
def RepsO.mono(k:Same H H')(h:RepsO K H O v t fs):RepsO K H' O v t fs:=h.keep (.of_same k) λb _ u e=>k b u e
theorem RepO.less(k:∀a,O' a->O a)(h:RepO K H O v t fs)(hb:∀b∈fs,O' b):RepO K H O' v t fs:=h.gen (.less k) λb z _ _ e=>⟨hb b z,e⟩
theorem RepsO.less(k:∀a,O' a->O a)(h:RepsO K H O v t fs)(hb:∀b∈fs,O' b):RepsO K H O' v t fs:=h.gen (.less k) λb z _ _ e=>⟨hb b z,e⟩
def RepO.more(hp:H p=none)(h:RepO K H O v t fs):RepO K H (ins1 p O) v t fs:=h.gen (.ins hp) λ_ _ _ o e=>⟨.inr o,e⟩
def RepsO.more(hp:H p=none)(h:RepsO K H O v t fs):RepsO K H (ins1 p O) v t fs:=h.gen (.ins hp) λ_ _ _ o e=>⟨.inr o,e⟩
mutual
theorem RepO.owns:∀{v:V}{t:OT}{fs:List aG},RepO K H O v t fs->∀b∈fs,O b/\∃u:MutHO,H b=some u.1
 |_,_,_,.val r=>λb z=>nomatch z
 |_,_,_,.lst n h r=>λb z=>(aB.mp z).elim (λq=>q▸⟨n,⟨_,rfl⟩,h⟩) (RepsO.owns r b)
 |_,_,_,.tup n h r=>RepsO.owns r
 |_,_,_,.dct n h e r=>λb z=>(aB.mp z).elim (λq=>q▸⟨n,⟨_,rfl⟩,h⟩) (RepsO.owns r b)
 |_,_,_,.ins c n h e r=>λb z=>(aB.mp z).elim (λq=>q▸⟨n,⟨_,rfl⟩,h⟩) (RepsO.owns r b)
theorem RepsO.owns:∀{v:List V}{t:List OT}{fs:List aG},RepsO K H O v t fs->∀b∈fs,O b/\∃u:MutHO,H b=some u.1
 |_,_,_,.nil=>λb z=>nomatch z
 |_,_,_,.cons h r=>λb z=>(bE.mp z).elim (RepO.owns h b) (RepsO.owns r b)
end
mutual
theorem RepO.val':∀{v:V}{t:OT}{fs:List aG},RepO K H O v t fs->(∀a,O' a->O a/\a∉fs)->Rep K H O' v (otD t)
 |_,_,_,.val r=>λk=>r.less λa z=>(k a z).1
 |_,_,_,.lst n h r=>λk=>by unfold otD;exact .lst (λz=>(k _ z).2 (.head _)) (.inl h) (RepsO.val' r λa z=>⟨(k a z).1,λq=>(k a z).2 (.tail _ q)⟩)
 |_,_,_,.tup n h r=>λk=>by unfold otD;exact .tup (λz=>n (k _ z).1) h (RepsO.val' r k)
 |_,_,_,.dct n h e r=>λk=>by unfold otD;exact .dct (λz=>(k _ z).2 (.head _)) h e (RepsO.val' r λa z=>⟨(k a z).1,λq=>(k a z).2 (.tail _ q)⟩)
 |_,_,_,.ins c n h e r=>λk=>by unfold otD;exact .ins c (λz=>(k _ z).2 (.head _)) h e (RepsO.val' r λa z=>⟨(k a z).1,λq=>(k a z).2 (.tail _ q)⟩)
theorem RepsO.val':∀{v:List V}{t:List OT}{fs:List aG},RepsO K H O v t fs->(∀a,O' a->O a/\a∉fs)->Reps K H O' v (otDs t)
 |_,_,_,.nil=>λ_=>by unfold otDs;exact .nil
 |_,_,_,.cons h r=>λk=>by unfold otDs;exact .cons (RepO.val' h λa z=>⟨(k a z).1,λq=>(k a z).2 (bA _ q)⟩) (RepsO.val' r λa z=>⟨(k a z).1,λq=>(k a z).2 (aI _ q)⟩)
end
def RepO.any(h:RepO K H O v t fs):Rep K H yF v (otD t):=h.val' λ_ z=>z.elim
def RepsO.any(h:RepsO K H O v t fs):Reps K H yF v (otDs t):=h.val' λ_ z=>z.elim
end
noncomputable def SlOk(K:Frag)(H₀ H:Hp)(O:aG->Prop):Option V->Sl->Prop
 |_,.no=>True
 |some x,.v d=>Rep K H O x d
 |some (.ref a),.own l=>O a/\∃xs,H a=some (.lst xs)/\Reps K H O xs l
 |some (.ref a),.fr l=>¬O a/\H₀ a=none/\∃xs,H a=some (.lst xs)/\Reps K H O xs l
 |_,.ob _ _=>True
 |some (.ref a),.exc t=>∃C o u,aX K aV (xName t)=some (some (.ref C))/\H a=some (.frz o u)/\o.cls=.ref C
 |_,_=>False
def IsOwn(ds:List Sl)(i:Nat):Prop:=∃l,ds[i]?=some (.own l)
inductive HI where
 |rep (v:V) (d:D)|base (B:aG->Prop)|root (k a:Nat)|fz (a:aG) (o:Obj) (kvs:List (Key×V)) (l:List D)
abbrev Hold:=List HI
noncomputable def HOk(K:Frag)(H₀ H:Hp)(O:aG->Prop):HI->Prop
 |.rep v d=>Rep K H O v d
 |.base B=>∀a,B a->O a/\H₀ a≠none
 |.root _ _=>True
 |.fz a o kvs l=>¬O a/\H a=some (.frz o (.dK kvs))/\Reps K H O (kvs.map (·.2)) l
def Obs(K:Frag)(H₀ H:Hp)(O:aG->Prop)(σ:L2.St)(ds:List Sl)(hd:Hold):Prop:=∃F:Nat->List aG,∀(i:Nat) (r:Option Nat) (t:OT),ds[i]?=some (.ob r t)->∃v,σ[i]?=some (some v)/\RepO K H O v t (F i)/\(∀k a,r=some k->HI.root k a∈hd->v=.ref a)/\(F i).Nodup ∧
 ∀b∈F i,H₀ b=none/\(∀j r' t',j≠i->ds[j]?=some (.ob r' t')->b∉F j)/\∀j,IsOwn ds j->σ[j]?≠some (some (.ref b))
structure Ok(K:Frag)(H₀ H:Hp)(O:aG->Prop)(σ:L2.St)(ds:List Sl)(hd:Hold):Prop where
 same:Same H₀ H
 fresh:∀(i:Nat) (l:List D) (a:aG),ds[i]?=some (.own l)->σ[i]?=some (some (.ref a))->H₀ a=none
 dom:∀a,O a->∃u:MutHO,H a=some u.1
 len:σ.length=ds.length
 sl:∀(i:Nat) (s:Sl),ds[i]?=some s->SlOk K H₀ H O (σ[i]?.join) s
 apart:∀(i j:Nat) (a:aG),i≠j->IsOwn ds i->IsOwn ds j->σ[i]?=some (some (.ref a))->σ[j]?=some (some (.ref a))->False
 hold:∀p∈hd,HOk K H₀ H O p
 obs:Obs K H₀ H O σ ds hd
section
variable{K:Frag}{ds:List Sl}
theorem HOk.mono(k:Same H H'):∀{p:HI},HOk K H₀ H O p->HOk K H₀ H' O p
 |.rep _ _,h=>Rep.mono k h
 |.base _,h=>h
 |.root _ _,h=>h
 |.fz _ _ _ _,h=>⟨h.1,k _ _ h.2.1,Reps.mono k h.2.2⟩
theorem HOk.keep(k:Keep O H H'):∀{p:HI},HOk K H₀ H O p->HOk K H₀ H' O p
 |.rep _ _,h=>Rep.keep k h
 |.base _,h=>h
 |.root _ _,h=>h
 |.fz _ _ _ _,h=>⟨h.1,k _ _ h.1 h.2.1,Reps.keep k h.2.2⟩
theorem Obs.tr(h:Obs K H₀ H O σ ds hd)(tr:∀v t fs,RepO K H O v t fs->(∀b∈fs,H₀ b=none/\∀j,IsOwn ds j->σ[j]?≠some (some (.ref b)))->RepO K H' O' v t fs)(hob:∀(i:Nat) r t,ds'[i]?=some (.ob r t)->ds[i]?=some (.ob r t)/\σ'[i]?=σ[i]?)(hown:∀j b,IsOwn ds' j->σ'[j]?=some (some (.ref b))->(IsOwn ds j/\σ[j]?=some (some (.ref b)))\/H b=none):Obs K H₀ H' O' σ' ds' hd:=by
 obtain⟨F,hF⟩:=h;refine⟨F,λi r t e=>?_⟩;obtain⟨e1,e2⟩:=hob i r t e;obtain⟨v,h1,h2,h3,h4,h5⟩:=hF i r t e1;refine⟨v,e2.trans h1,tr v t _ h2 λb hb=>⟨(h5 b hb).1,(h5 b hb).2.2⟩,h3,h4,λb hb=>⟨(h5 b hb).1,λj r' t' hj ej=>(h5 b hb).2.1 j r' t' hj (hob j r' t' ej).1,λj oj ej=>?_⟩⟩;rcases hown j b oj ej with⟨o1,o2⟩|hn
 . exact(h5 b hb).2.2 j o1 o2
 . obtain⟨_,xs,z⟩:=h2.owns b hb;rw[hn]at z;cases z
def Obs.no(h:∀(i:Nat) r t,ds[i]?≠some (.ob r t)):Obs K H₀ H O σ ds hd:=⟨λ_=>[],λi r t e=>(h i r t e).elim⟩
theorem Obs.mono(k:Same H H')(h:Obs K H₀ H O σ ds hd):Obs K H₀ H' O σ ds hd:=h.tr (λ_ _ _ r _=>r.mono k) (λ_ _ _ e=>⟨e,rfl⟩) λ_ _ o e=>.inl ⟨o,e⟩
def wA(hs:∀r t,s≠.ob r t)(e:(ds.set i s)[j]?=some (.ob r t)):ds[j]?=some (.ob r t)/\j≠i:=by
 by_cases hj:j=i
 . subst hj;by_cases hl:j<ds.length
   . rw[bB hl]at e;cases e;exact(hs r t rfl).elim
   . rw[aY (by simpa using hl)]at e;cases e
 . rw[aE (Ne.symm hj)]at e;exact⟨e,hj⟩
def wD(hs:∀l,s≠.own l)(e:IsOwn (ds.set i s) j):IsOwn ds j/\j≠i:=by
 obtain⟨l,e⟩:=e;by_cases hj:j=i
 . subst hj;by_cases hl:j<ds.length
   . rw[bB hl]at e;cases e;exact(hs l rfl).elim
   . rw[aY (by simpa using hl)]at e;cases e
 . rw[aE (Ne.symm hj)]at e;exact⟨⟨l,e⟩,hj⟩
theorem SlOk.mono(k:Same H H'):∀{x:Option V}{s:Sl},SlOk K H₀ H O x s->SlOk K H₀ H' O x s
 |none,.no,_=>trivial
 |some (.ref _),.no,_=>trivial
 |some _,.no,_=>by simp[SlOk]
 |x,.ob _ _,_=>by cases x with
   |none=>trivial
   |some x=>cases x<;>trivial
 |some x,.v d,h=>by
   have h:Rep K H O x d:=by cases x<;>exact h
   show SlOk K H₀ H' O (some x) (.v d);have:=h.mono k;cases x<;>exact this
 |some (.ref a),.own l,⟨ho,xs,h,r⟩=>⟨ho,xs,k _ _ h,r.mono k⟩
 |some (.ref a),.fr l,⟨ho,h0,xs,h,r⟩=>⟨ho,h0,xs,k _ _ h,r.mono k⟩
 |some (.ref a),.exc t,⟨C,o,u,h1,h2,h3⟩=>⟨C,o,u,h1,k _ _ h2,h3⟩
def Ok.old(o:Ok K H₀ H O σ ds hd)(h:O a):Old H a:=let ⟨xs,e⟩:=o.dom a h;⟨_,e,xs.2⟩
theorem Ok.mono(k:Same H H')(o:Ok K H₀ H O σ ds hd):Ok K H₀ H' O σ ds hd:=
 ⟨o.same.trans k,o.fresh,λa h=>let ⟨xs,e⟩:=o.dom a h;⟨xs,k _ _ e⟩,o.len,λi s e=>(o.sl i s e).mono k,o.apart,λp hp=>(o.hold p hp).mono k,o.obs.mono k⟩
def Ok.free(o:Ok K H₀ H O σ ds hd)(h:H p=none):¬O p:=λz=>by obtain⟨xs,e⟩:=o.dom p z;rw[h]at e;cases e
def Ok.read{i:Nat}(o:Ok K H₀ H O σ ds hd)(e:ds[i]?=some (.v d)):∃v,σ[i]?=some (some v)/\Rep K H O v d:=by
 have h:=o.sl i _ e;cases q:σ[i]? with
 |none=>rw[q]at h;exact h.elim
 |some x=>
   rw[q]at h;cases x with
   |none=>exact h.elim
   |some x=>exact⟨x,rfl,by cases x<;>exact h⟩
def Ok.readO{i:Nat}(o:Ok K H₀ H O σ ds hd)(e:ds[i]?=some (.own l)):∃a xs,σ[i]?=some (some (.ref a))/\O a/\H a=some (.lst xs)/\Reps K H O xs l:=by
 have h:=o.sl i _ e;cases q:σ[i]? with
 |none=>rw[q]at h;exact h.elim
 |some x=>
   rw[q]at h;cases x with
   |none=>exact h.elim
   |some x=>
     cases x with
     |ref a=>obtain⟨ho,xs,h1,h2⟩:=h;exact⟨a,xs,rfl,ho,h1,h2⟩
     |_=>exact h.elim
def Ok.readX{i t:Nat}(o:Ok K H₀ H O σ ds hd)(e:ds[i]?=some (.exc t)):∃a C ob u,σ[i]?=some (some (.ref a))/\aX K aV (xName t)=some (some (.ref C))/\H a=some (.frz ob u)/\ob.cls=.ref C:=by
 have h:=o.sl i _ e;cases q:σ[i]? with
 |none=>rw[q]at h;exact h.elim
 |some x=>
   rw[q]at h;cases x with
   |none=>exact h.elim
   |some x=>
     cases x with
     |ref a=>obtain⟨C,ob,u,h1,h2,h3⟩:=h;exact⟨a,C,ob,u,rfl,h1,h2,h3⟩
     |_=>exact h.elim
def Ok.readF{i:Nat}(o:Ok K H₀ H O σ ds hd)(e:ds[i]?=some (.fr l)):∃a xs,σ[i]?=some (some (.ref a))/\¬O a/\H₀ a=none/\H a=some (.lst xs)/\Reps K H O xs l:=by
 have h:=o.sl i _ e;cases q:σ[i]? with
 |none=>rw[q]at h;exact h.elim
 |some x=>
   rw[q]at h;cases x with
   |none=>exact h.elim
   |some x=>
     cases x with
     |ref a=>obtain⟨ho,h0,xs,h1,h2⟩:=h;exact⟨a,xs,rfl,ho,h0,h1,h2⟩
     |_=>exact h.elim
def jI:SlOk K H₀ H O x .no:=by
 cases x with
 |none=>trivial
 |some x=>cases x<;>trivial
def yL:SlOk K H₀ H O x (.ob r t):=by
 cases x with
 |none=>trivial
 |some x=>cases x<;>trivial
def yH(h:Rep K H O x d):SlOk K H₀ H O (some x) (.v d):=by cases x<;>exact h
theorem Ok.set(o:Ok K H₀ H O σ ds hd)(r:Rep K H O v d):Ok K H₀ H O (σ.set i (some v)) (ds.set i (.v d)) hd:=by
 have own':∀{j:Nat},IsOwn (ds.set i (.v d)) j->j≠i/\IsOwn ds j:=λ{j} ⟨l,e⟩=>by
  by_cases hj:j=i
  . subst hj;by_cases hl:j<ds.length
    . rw[bB hl]at e;cases e
    . rw[aY (by simpa using hl)]at e;cases e
  . rw[aE (Ne.symm hj)]at e;exact⟨hj,l,e⟩
 refine⟨o.same,λj l a e1 e2=>?_,o.dom,by simpa using o.len,λj s e=>?_,λj k a hjk hj hk e1 e2=>?_,o.hold,o.obs.tr (λ_ _ _ r _=>r) (λj r t e=>by
  obtain⟨e1,hj⟩:=wA (λr t=>by intro z;cases z) e
  exact⟨e1,by rw[aE (Ne.symm hj)]⟩) (λj b oj ej=>by
  obtain⟨o1,hj⟩:=wD (λl=>by intro z;cases z) oj;rw[aE (Ne.symm hj)]at ej
  exact .inl ⟨o1,ej⟩)⟩
 . obtain⟨n1,h1⟩:=own' ⟨l,e1⟩;rw[aE (Ne.symm n1)]at e1 e2;exact o.fresh j l a e1 e2
 . by_cases hj:j=i
   . subst hj;by_cases hl:j<ds.length
     . rw[bB hl]at e;cases e;rw[bB (by rw[o.len];exact hl)];exact yH r
     . rw[aY (by simpa using hl)]at e;cases e
   . rw[aE (Ne.symm hj)]at e;rw[aE (Ne.symm hj)];exact o.sl j s e
 . obtain⟨n1,h1⟩:=own' hj;obtain⟨n2,h2⟩:=own' hk;rw[aE (Ne.symm n1)]at e1;rw[aE (Ne.symm n2)]at e2;exact o.apart j k a hjk h1 h2 e1 e2
def Ok.setO(o:Ok K H₀ H O σ ds hd)(k:Same H H')(hn:H a=none)(e:H' a=some (.lst xs))(r:Reps K H' (ins1 a O) xs l) :
  Ok K H₀ H' (ins1 a O) (σ.set i (some (.ref a))) (ds.set i (.own l)) hd:=by
 have up:∀{v:V}{d:D},Rep K H O v d->Rep K H' (ins1 a O) v d:=λh=>(h.more hn).mono k;have ups:∀{v:List V}{d:List D},Reps K H O v d->Reps K H' (ins1 a O) v d:=λh=>(h.more hn).mono k;have other:∀j:Nat,IsOwn ds j->σ[j]?=some (some (.ref a))->False:=λj ⟨l',e'⟩ q=>by obtain⟨b,ys,h1,h2,h3,_⟩:=o.readO e';rw[q]at h1;cases h1;rw[hn]at h3;cases h3
 have own':∀{j:Nat},j≠i->IsOwn (ds.set i (.own l)) j->IsOwn ds j:=λ{j} hj ⟨l',e'⟩=>⟨l',by rwa [aE (Ne.symm hj)]at e'⟩
 refine⟨o.same.trans k,λj l' b e1 e2=>?_,λb hb=>?_,by simpa using o.len,λj s es=>?_,λj m b hjm hj hm e1 e2=>?_,λp hp=>?_,o.obs.tr (λ_ _ _ r _=>(r.more hn).mono k) (λj r t e=>by
  obtain⟨e1,hj⟩:=wA (λr t=>by intro z;cases z) e
  exact⟨e1,by rw[aE (Ne.symm hj)]⟩) (λj b oj ej=>by
  by_cases hj:j=i
  . subst hj;by_cases hl:j<σ.length
    . rw[bB hl]at ej;cases ej;exact .inr hn
    . rw[aY (by simpa using hl)]at ej;cases ej
  . rw [aE (Ne.symm hj)]at ej;obtain ⟨l',e'⟩:=oj;rw [aE (Ne.symm hj)]at e'
    exact .inl ⟨⟨l',e'⟩,ej⟩)⟩
 rotate_left 4
 . have:=o.hold p hp;cases p with
   |rep v d=>exact up this
   |base B=>exact λb hb=>⟨.inr (this b hb).1,(this b hb).2⟩
   |root k a=>exact True.intro
   |fz a' o' kvs' l'=>exact⟨λz=>z.elim (λz=>by have:=this.2.1;rw[z,hn]at this;cases this) this.1,k _ _ this.2.1,(Reps.more hn this.2.2).mono k⟩
 . by_cases hj:j=i
   . subst hj;by_cases hl:j<σ.length
     . rw[bB hl]at e2;cases e2;exact o.same.free hn
     . rw[aY (by simpa using hl)]at e2;cases e2
   . rw[aE (Ne.symm hj)]at e1 e2;exact o.fresh j l' b e1 e2
 . rcases hb with rfl|hb
   . exact⟨⟨.lst xs,rfl⟩,e⟩
   . obtain⟨ys,q⟩:=o.dom b hb;exact⟨ys,k _ _ q⟩
 . by_cases hj:j=i
   . subst hj;by_cases hl:j<ds.length
     . rw[bB hl]at es;cases es;rw[bB (by rw[o.len];exact hl)];exact⟨.inl rfl,xs,e,r⟩
     . rw[aY (by simpa using hl)]at es;cases es
   . rw [aE (Ne.symm hj)]at es;rw [aE (Ne.symm hj)];cases s with
     |no=>exact jI
     |ob r t=>exact yL
     |exc t=>obtain⟨a',C',ob',u',q1,q2,q3,q4⟩:=o.readX es;rw[q1];exact⟨C',ob',u',q2,k _ _ q3,q4⟩
     |fr l'=>obtain⟨a',xs',q1,q2,q0,q3,q4⟩:=o.readF es;rw[q1];exact⟨λz=>z.elim (λe'=>by rw[e',hn]at q3;cases q3) q2,q0,xs',k _ _ q3,ups q4⟩
     |v d=>obtain⟨v,h1,h2⟩:=o.read es;rw[h1];exact yH (up h2)
     |own l'=>obtain⟨b,ys,h1,h2,h3,h4⟩:=o.readO es;rw[h1];exact⟨.inr h2,ys,k _ _ h3,ups h4⟩
 . have hs:∀{q:Nat},q=i->(σ.set i (some (V.ref a)))[q]?=some (some (.ref b))->b=a:=λ{q} hq eq=>by
    subst hq;by_cases hl:q<σ.length
    . rw[bB hl]at eq;cases eq;rfl
    . rw[aY (by simpa using hl)]at eq;cases eq
   by_cases h1:j=i
   . have hb:=hs h1 e1;have h2:m≠i:=λz=>hjm (h1.trans z.symm);rw[aE (Ne.symm h2),hb]at e2;exact other m (own' h2 hm) e2
   . by_cases h2:m=i
     . have hb:=hs h2 e2;rw[aE (Ne.symm h1),hb]at e1;exact other j (own' h1 hj) e1
     . rw[aE (Ne.symm h1)]at e1;rw[aE (Ne.symm h2)]at e2;exact o.apart j m b hjm (own' h1 hj) (own' h2 hm) e1 e2
def Ok.release(o:Ok K H₀ H O σ ds hd)(e:ds[i]?=some (.own l)):∃O',Ok K H₀ H O' σ (ds.set i (.v (.lst l))) hd:=by
 obtain⟨a,xs,h1,h2,h3,h4⟩:=o.readO e;have hl:=(aW.mp e).1
 let O':aG->Prop:=λb=>O b/\b≠a
 have sub:∀b,O' b->O b:=λb hb=>hb.1;have na:¬O' a:=λhb=>hb.2 rfl;have own0:∀{j:Nat}{l':List D},(ds.set i (.v (.lst l)))[j]?=some (.own l')->ds[j]?=some (.own l'):=λ{j l'} e'=>by
  by_cases hj:j=i
  . subst hj;rw[bB hl]at e';cases e'
  . rwa [aE (Ne.symm hj)]at e'
 refine⟨O',o.same,λj l' b e1 e2=>o.fresh j l' b (own0 e1) e2,λb hb=>o.dom b (sub b hb),by simpa using o.len,λj s es=>?_,λj m b hjm hj hm e1 e2=>?_,λp hp=>?_,o.obs.tr (λ_ _ _ r hb=>r.less sub λb z=>⟨(r.owns b z).1,λq=>(hb b z).2 i ⟨l,e⟩ (by rw[q];exact h1)⟩) (λj r t ej=>by
  obtain⟨e1,hj⟩:=wA (λr t=>by intro z;cases z) ej
  exact⟨e1,rfl⟩) (λj b oj ej=>.inl ⟨(wD (λl=>by intro z;cases z) oj).1,ej⟩)⟩
 rotate_left 2
 . have:=o.hold p hp;cases p with
   |rep v d=>exact Rep.less sub this
   |base B=>exact λb hb=>⟨⟨(this b hb).1,λz=>(this b hb).2 (z▸o.fresh i l a e h1)⟩,(this b hb).2⟩
   |root k a=>exact True.intro
   |fz a' o' kvs' l'=>exact⟨λz=>this.1 (sub _ z),this.2.1,Reps.less sub this.2.2⟩
 . by_cases hj:j=i
   . subst hj;rw[bB hl]at es;cases es;rw[h1];exact yH (.lst na (.inl h3) (h4.less sub))
   . rw [aE (Ne.symm hj)]at es;cases s with
     |no=>exact jI
     |ob r t=>exact yL
     |exc t=>obtain⟨a',C',ob',u',q1,q2,q3,q4⟩:=o.readX es;rw[q1];exact⟨C',ob',u',q2,q3,q4⟩
     |fr l'=>obtain⟨a',xs',q1,q2,q0,q3,q4⟩:=o.readF es;rw[q1];exact⟨λz=>q2 (sub _ z),q0,xs',q3,q4.less sub⟩
     |v d=>obtain⟨v,q1,q2⟩:=o.read es;rw[q1];exact yH (q2.less sub)
     |own l'=>obtain⟨b,ys,q1,q2,q3,q4⟩:=o.readO es;rw[q1];refine⟨⟨q2,λz=>?_⟩,ys,q3,q4.less sub⟩;subst z;exact o.apart j i b hj ⟨l',es⟩ ⟨l,e⟩ q1 h1
 . have own':∀{j:Nat},IsOwn (ds.set i (.v (.lst l))) j->IsOwn ds j:=λ{j} ⟨l',e'⟩=>by
    by_cases hj:j=i
    . subst hj;rw[bB hl]at e';cases e'
    . rw[aE (Ne.symm hj)]at e';exact⟨l',e'⟩
   exact o.apart j m b hjm (own' hj) (own' hm) e1 e2
def Ok.modify(o:Ok K H₀ H O σ ds hd)(e:ds[i]?=some (.own l))(ea:σ[i]?=some (some (.ref a)))(r:Reps K H O xs' l') :
  Ok K H₀ (upd H a (.lst xs')) O σ (ds.set i (.own l')) hd:=by
 obtain⟨a',xs,h1,h2,h3,h4⟩:=o.readO e;rw[ea]at h1;cases h1;have hl:=(aW.mp e).1;have k:Keep O H (upd H a (.lst xs')):=λb u hb eb=>by rw[upd_ne (λ(z:b=a)=>hb (z.symm▸h2))];exact eb
 refine⟨λb u eb=>?_,λj l2 b e1 e2=>?_,λb hb=>?_,by simpa using o.len,λj s es=>?_,λj m b hjm hj hm e1 e2=>?_,λp hp=>(o.hold p hp).keep k,o.obs.tr (λ_ _ _ r hb=>r.keep k λb z u eu=>by rw[upd_ne (λq=>(hb b z).2 i ⟨l,e⟩ (by rw[q];exact ea))];exact eu) (λj r t ej=>by
  obtain⟨e1,hj⟩:=wA (λr t=>by intro z;cases z) ej
  exact⟨e1,rfl⟩) (λj b oj ej=>by
  by_cases hj:j=i
  . subst hj;exact .inl ⟨⟨l,e⟩,ej⟩
  . obtain ⟨l',e'⟩:=oj;rw [aE (Ne.symm hj)]at e'
    exact .inl ⟨⟨l',e'⟩,ej⟩)⟩
 rotate_left 1
 . by_cases hj:j=i
   . subst hj;exact o.fresh j l b e e2
   . rw[aE (Ne.symm hj)]at e1;exact o.fresh j l2 b e1 e2
 rotate_right 1
 . rw[upd_ne (λz=>by rw[z,o.fresh i l a e ea]at eb;cases eb)];exact o.same b u eb
 . by_cases hba:b=a
   . subst hba;exact⟨⟨.lst xs',rfl⟩,zQ⟩
   . rw[upd_ne hba];exact o.dom b hb
 . by_cases hj:j=i
   . subst hj;rw[bB hl]at es;cases es;rw[ea];exact⟨h2,xs',zQ,r.keep k⟩
   . rw [aE (Ne.symm hj)]at es;cases s with
     |no=>exact jI
     |ob r t=>exact yL
     |exc t=>obtain⟨a',C',ob',u',q1,q2,q3,q4⟩:=o.readX es;rw[q1];exact⟨C',ob',u',q2,by rw[upd_ne (λz=>by rw[z,h3]at q3;cases q3)];exact q3,q4⟩
     |fr l'=>obtain⟨a',xs'',q1,q2,q0,q3,q4⟩:=o.readF es;rw[q1];exact⟨q2,q0,xs'',by rw[upd_ne (λz=>q2 (by rw[z];exact h2))];exact q3,q4.keep k⟩
     |v d=>obtain⟨v,q1,q2⟩:=o.read es;rw[q1];exact yH (q2.keep k)
     |own l''=>
       obtain⟨b,ys,q1,q2,q3,q4⟩:=o.readO es;rw[q1];refine⟨q2,ys,?_,q4.keep k⟩;rw[upd_ne (λz=>?_)]
       . exact q3
       . subst z;exact o.apart j i b hj ⟨_,es⟩ ⟨l,e⟩ q1 ea
 . have own':∀{j:Nat},IsOwn (ds.set i (.own l')) j->IsOwn ds j:=λ{j} ⟨l'',e'⟩=>by
    by_cases hj:j=i
    . subst hj;exact⟨l,e⟩
    . rw[aE (Ne.symm hj)]at e';exact⟨l'',e'⟩
   exact o.apart j m b hjm (own' hj) (own' hm) e1 e2
def Ok.holdMore(o:Ok K H₀ H O σ ds hd)(r:HOk K H₀ H O p)(hp:∀k a,HI.root k a≠p:=by intro _ _ z;cases z):Ok K H₀ H O σ ds (p::hd):=
 ⟨o.same,o.fresh,o.dom,o.len,o.sl,o.apart,λq hq=>(aB.mp hq).elim (λe=>e▸r) (o.hold q),let ⟨F,hF⟩:=o.obs;⟨F,λi r t e=>let ⟨v,h1,h2,h3,h4⟩:=hF i r t e;⟨v,h1,h2,λk a z y=>(aB.mp y).elim (λy=>(hp k a y).elim) (h3 k a z),h4⟩⟩⟩
def Ok.holdLess(o:Ok K H₀ H O σ ds (p::hd)):Ok K H₀ H O σ ds hd:=
 ⟨o.same,o.fresh,o.dom,o.len,o.sl,o.apart,λq hq=>o.hold q (aL _ hq),let ⟨F,hF⟩:=o.obs;⟨F,λi r t e=>let ⟨v,h1,h2,h3,h4⟩:=hF i r t e;⟨v,h1,h2,λk a z y=>h3 k a z (aL _ y),h4⟩⟩⟩
end
section
variable(X:Cx)
def PV(e:Expr)(f:FE):Prop:=∃t,PE X e t/\∀H₀ H O σ ds hd d Q,Ok X.K H₀ H O σ ds hd->f ds=some d->(∀v H',Same H H'->Rep X.K H' O v d->Q v H')->t σ H Q
def PVw(e:Expr)(f:FE):Prop:=∃t,PE X e t/\∀H₀ H O σ ds hd d Q,Ok X.K H₀ H O σ ds hd->f ds=some d->(∀v H',Same H H'->WRep X.K H' O v d->Q v H')->t σ H Q
def PVf(e:Expr)(f:FA):Prop:=∃t,PE X e t/\∀H₀ H O σ ds hd l Q,Ok X.K H₀ H O σ ds hd->f ds=some l →
 (∀a xs H',Same H H'->H a=none->H' a=some (.lst xs)->Reps X.K H' (ins1 a O) xs l->Q (.ref a) H')->t σ H Q
def PTv(e:Expr)(c:FT):Prop:=∃t,PT X e t/\∀H₀ H O σ ds hd b Q,Ok X.K H₀ H O σ ds hd->c ds=some b->(∀H',Same H H'->Q b H')->t σ H Q
def PWv(e:Expr)(c:FT):Prop:=∃t,PW X e t/\∀H₀ H O σ ds hd b Q,Ok X.K H₀ H O σ ds hd->c ds=some b->(∀H',Same H H'->Q b H')->t σ H Q
def PAv(es:List Expr)(f:FA):Prop:=∃t,PA X es t/\∀H₀ H O σ ds hd l Q,Ok X.K H₀ H O σ ds hd->f ds=some l->(∀vs H',Same H H'->AG (WRep X.K H' O) vs l->Q vs H')->t σ H Q
def PAs(es:List Expr)(f:FA):Prop:=∃t,PA X es t/\∀H₀ H O σ ds hd l Q,Ok X.K H₀ H O σ ds hd->f ds=some l->(∀vs H',Same H H'->Reps X.K H' O vs l->Q vs H')->t σ H Q
end
def PV.w(h:PV X e f):PVw X e f:=by obtain⟨t,ht,hf⟩:=h;exact⟨t,ht,λH₀ H O σ ds hd d Q o e q=>hf H₀ H O σ ds hd d Q o e λv H' s r=>q v H' s (.inl r)⟩
theorem PVf.s(h:PVf X e f):PV X e (mkL f):=by obtain⟨t,ht,hf⟩:=h;refine⟨t,ht,λH₀ H O σ ds hd d Q o e q=>?_⟩;unfold mkL at e;obtain⟨l,hl,rfl⟩:=mpd e;rw[hl]at e;cases e;refine hf H₀ H O σ ds hd l Q o hl λa xs H' s hn he r=>q _ _ s ?_;exact .lst (o.free hn) (.inl he) (r.less λ_ z=>.inr z)
def zL i(hN:X.N[i]?=some x:=by rfl)(hv:Vis X.env.scope x:=by first|exact Or.inl rfl|exact Or.inr (Or.inl rfl)|exact Or.inr (Or.inr rfl))(hd:(x==("__debug__" : Str))=false:=by decide)(hcd:(x==("__classdict__" : Str))=false:=by decide):PV X (.Name x pos) (qB i):=by
 refine⟨_,xT hN hv hd hcd,λH₀ H O σ ds hd d Q o e q=>?_⟩;unfold qB at e;cases hs:ds[i]? with
 |none=>rw[hs]at e;cases e
 |some s=>
   rw[hs]at e;cases s with
   |v d'=>cases e;obtain⟨v,h1,h2⟩:=o.read hs;exact⟨v,h1,q v H (Same.refl _) h2⟩
   |no=>cases e
   |exc _=>cases e
   |fr _=>cases e
   |ob _ _=>cases e
   |own l=>cases e
def zD i(hN:X.N[i]?=some x:=by rfl)(hv:Vis X.env.scope x:=by first|exact Or.inl rfl|exact Or.inr (Or.inl rfl)|exact Or.inr (Or.inr rfl))(hd:(x==("__debug__" : Str))=false:=by decide)(hcd:(x==("__classdict__" : Str))=false:=by decide):PVw X (.Name x pos) (zG i):=by
 refine⟨_,xT hN hv hd hcd,λH₀ H O σ ds hd d Q o e q=>?_⟩;unfold zG at e;cases hs:ds[i]? with
 |none=>rw[hs]at e;cases e
 |some s=>
   rw[hs]at e;cases s with
   |v d'=>cases e;obtain⟨v,h1,h2⟩:=o.read hs;exact⟨v,h1,q v H (Same.refl _) (.inl h2)⟩
   |no=>cases e
   |exc _=>cases e
   |fr _=>cases e
   |ob _ _=>cases e
   |own l=>cases e;obtain⟨a,xs,h1,h2,h3,h4⟩:=o.readO hs;exact⟨.ref a,h1,q _ H (Same.refl _) (.inr ⟨a,xs,l,rfl,rfl,h2,h3,h4⟩)⟩
def jY{j pos}: PV X (.Constant (.int i) j pos) (zA (.int i)):=⟨_,pe_int,λ_ H _ _ _ _ _ _ _ e q=>by cases e;exact q _ H (Same.refl _) (.int i)⟩
def wZ{j pos}: PV X (.Constant (.bool b) j pos) (zA (.bl b)):=⟨_,pe_bl,λ_ H _ _ _ _ _ _ _ e q=>by cases e;exact q _ H (Same.refl _) (.bl b)⟩
def qO{j pos}: PV X (.Constant .none j pos) (zA .non):=⟨_,pe_non,λ_ H _ _ _ _ _ _ _ e q=>by cases e;exact q _ H (Same.refl _) .non⟩
def aBm{j pos}: PV X (.Constant (.str x) j pos) (zA (.str x)):=⟨_,pe_str,λ_ H _ _ _ _ _ _ _ e q=>by cases e;exact q _ H (Same.refl _) (.str x)⟩
def SV(hg:Gl X x)(hm:X.mg x=some u)(r:RelV v u)(hr:∀H O,Rep X.K H O v d)(hd:(x==("__debug__" : Str))=false:=by decide):PV X (.Name x pos) (zA d):=
 ⟨_,TV hg hm r hd,λ_ H O _ _ _ _ _ _ e q=>by cases e;exact q _ H (Same.refl _) (hr H O)⟩
def OpS(X:Cx)(r:R2)(op:D->D->Option D):Prop:=∀H O x y dx dy d Q,(∀a,O a->∃u:MutHO,H a=some u.1)->WRep X.K H O x dx->WRep X.K H O y dy->op dx dy=some d->(∀v H',Same H H'->Rep X.K H' O v d->Q v H')->r x y H Q
def IK{r:R2}{op:D->D->Option D}(hs:OpS X r op){a b:Expr}{fa fb:FE}{ta tb:TE}(ha:∀H₀ H O σ ds hd d Q,Ok X.K H₀ H O σ ds hd->fa ds=some d->(∀v H',Same H H'->WRep X.K H' O v d->Q v H')->ta σ H Q)(hb:∀H₀ H O σ ds hd d Q,Ok X.K H₀ H O σ ds hd->fb ds=some d->(∀v H',Same H H'->WRep X.K H' O v d->Q v H')->tb σ H Q) :
  ∀H₀ H O σ ds hd d Q,Ok X.K H₀ H O σ ds hd->zF op fa fb ds=some d->(∀v H',Same H H'->Rep X.K H' O v d->Q v H')->tOp r ta tb σ H Q:=by
 intro H₀ H O σ ds hd d Q o e q;obtain⟨dx,h1,e⟩:=bnd e;obtain⟨dy,h2,e⟩:=bnd e;refine ha H₀ H O σ ds hd dx _ o h1 λx H1 s1 r1=>?_;refine hb H₀ H1 O σ ds hd dy _ (o.mono s1) h2 λy H2 s2 r2=>?_;exact hs H2 O x y dx dy d Q ((o.mono s1).mono s2).dom (r1.mono s2) r2 e λv H' s r=>q v H' ((s1.trans s2).trans s) r
def vV(ho:OpR X (kS op) r)(hs:OpS X r opD)(ha:PVw X a fa)(hb:PVw X b fb):PV X (.BinOp a op b pos) (zF opD fa fb):=by obtain⟨ta,pa,ha⟩:=ha;obtain⟨tb,pb,hb⟩:=hb;exact⟨_,pe_op ho pa pb,IK hs (a:=a) (b:=b) ha hb⟩
def PL(ho:OpR X (eC op) r)(hs:OpS X r opD)(ha:PVw X a fa)(hb:PVw X b fb)(hm:dH op b=false):PV X (.Compare a [op] [b] pos) (zF opD fa fb):=by obtain⟨ta,pa,ha⟩:=ha;obtain⟨tb,pb,hb⟩:=hb;exact⟨_,TX ho pa pb hm,IK hs (a:=a) (b:=b) ha hb⟩
def AN(ho:OpR X (eC op) r)(hs:OpS X r opD)(ha:PVw X a fa)(hb:PVw X b fb)(hm:dH op b=false):PTv X (.Compare a [op] [b] pos) (zK (zF opD fa fb)):=by
 obtain⟨ta,pa,ha⟩:=ha;obtain⟨tb,pb,hb⟩:=hb;refine⟨_,TF ho pa pb hm,λH₀ H O σ ds hd k Q o e q=>?_⟩;obtain⟨d,h,e⟩:=bnd e;refine IK hs (a:=a) (b:=b) ha hb H₀ H O σ ds hd d _ o h λv H' s r=>?_;cases d with
 |bl c=>cases e;cases r;exact⟨_,rfl,q H' s⟩
 |_=>cases e
def os_add:OpS X (λx y H Q=>rI0 (λi j=>.int (i+j)) x y H Q\/∃i j,x=.str i/\y=.str j/\i.length+j.length<=sizeLine/\Q (.str (i++j)) H) xK:=by
 intro H O x y dx dy d Q ho rx ry e q;cases dx<;>cases dy<;>first|(simp[xK]at e;done)|skip
 . cases e;rw[rx.int',ry.int'];exact .inl ⟨_,_,rfl,rfl,q _ H (Same.refl _) (.int _)⟩
 . rename_i x y;simp only [xK]at e;split at e
   . rename_i hl;cases e;rw[rx.str',ry.str'];exact .inr ⟨_,_,rfl,rfl,hl,q _ H (Same.refl _) (.str _)⟩
   . cases e
def op_addU:OpR X (kS .Add) (λx y H Q=>rI0 (λi j=>.int (i+j)) x y H Q\/∃i j,x=.str i/\y=.str j/\i.length+j.length<=sizeLine/\Q (.str (i++j)) H):=op_add.or PY
def os_sub:OpS X (rI0 λi j=>.int (i-j)) subD:=by
 intro H O x y dx dy d Q ho rx ry e q;cases dx<;>cases dy<;>first|(simp[subD]at e;done)|skip
 cases e;rw[rx.int',ry.int'];exact⟨_,_,rfl,rfl,q _ H (Same.refl _) (.int _)⟩
def CDivB(i j:Int):Prop:=divOk j
def aCw:OpR X (kS .FloorDiv) (rI CDivB λi j=>.int (i/j)):=opI λi j _ _ _ _ _ hc q=>by have e:i.fdiv j=i/j:=Int.fdiv_eq_ediv_of_nonneg _ (eF hc.1);refine floordiv_int (by have:=hc.1;lia) ?_ (.inl (PyProof.noPylong_of_log2 hc.2));rw[e];exact q
def os_fdiv:OpS X (rI CDivB λi j=>.int (i/j)) qT:=by
 intro H O x y dx dy d Q ho rx ry e q;cases dx<;>cases dy<;>first|(simp[qT]at e;done)|skip
 simp only[qT]at e;split at e
 . rename_i hc;cases e;rw[rx.int',ry.int'];exact⟨_,_,rfl,rfl,hc,q _ H (Same.refl _) (.int _)⟩
 . cases e
def os_mod:OpS X (rI (λ_ j=>0<j) λi j=>.int (i%j)) jA:=by
 intro H O x y dx dy d Q ho rx ry e q;cases dx<;>cases dy<;>first|(simp[jA]at e;done)|skip
 simp only[jA]at e;split at e
 . rename_i hc;cases e;rw[rx.int',ry.int'];exact⟨_,_,rfl,rfl,hc,q _ H (Same.refl _) (.int _)⟩
 . cases e
def wS:OpS X (rI0 λi j=>.bl (p i j)) (cmpI p):=by
 intro H O x y dx dy d Q ho rx ry e q;cases dx<;>cases dy<;>first|(simp[cmpI]at e;done)|skip
 cases e;rw[rx.int',ry.int'];exact⟨_,_,rfl,rfl,q _ H (Same.refl _) (.bl _)⟩
theorem PV.t(h:PV X e f)(he:∀whole,EY e X.env whole=(do let v <- whole;mX e.pos;gN [v] (truthy v)):=by intro _;rfl):PTv X e (zK f):=by
 obtain⟨t,ht,hf⟩:=h;refine⟨_,pt_val ht he,λH₀ H O σ ds hd k Q o e q=>?_⟩;unfold zK at e;obtain⟨d,h,e⟩:=bnd e;refine hf H₀ H O σ ds hd d _ o h λv H' s r=>?_;cases d with
 |bl c=>cases e;cases r;exact⟨_,rfl,q H' s⟩
 |_=>cases e
def jR(ha:PTv X a c):PWv X (.BoolOp .And [a] pos) c:=by obtain⟨t,ht,hf⟩:=ha;exact⟨_,pw_and1 ht,hf⟩
def yJ(ha:PTv X a c):PWv X (.BoolOp .Or [a] pos) c:=by obtain⟨t,ht,hf⟩:=ha;exact⟨_,pw_or1 ht,hf⟩
def jT{rest:List Expr}(ha:PTv X a c)(hb:PWv X (.BoolOp .And (b::rest) pos) d):PWv X (.BoolOp .And (a::b::rest) pos) (andT c d):=by
 obtain⟨t,ht,hf⟩:=ha;obtain⟨u,hu,hg⟩:=hb;refine⟨_,pw_and ht hu,λH₀ H O σ ds hd k Q o e q=>?_⟩;obtain⟨b,h,e⟩:=bnd e;refine hf H₀ H O σ ds hd b _ o h λH' s=>?_;cases b with
 |true=>exact iteT (hg H₀ H' O σ ds hd k Q (o.mono s) (by simpa using e) λH'' s'=>q H'' (s.trans s'))
 |false=>
   have:false=k:=by simpa using e
   subst this;exact iteF (q H' s)
def xA{rest:List Expr}(ha:PTv X a c)(hb:PWv X (.BoolOp .Or (b::rest) pos) d):PWv X (.BoolOp .Or (a::b::rest) pos) (orT c d):=by
 obtain⟨t,ht,hf⟩:=ha;obtain⟨u,hu,hg⟩:=hb;refine⟨_,pw_or ht hu,λH₀ H O σ ds hd k Q o e q=>?_⟩;obtain⟨b,h,e⟩:=bnd e;refine hf H₀ H O σ ds hd b _ o h λH' s=>?_;cases b with
 |false=>exact iteF (hg H₀ H' O σ ds hd k Q (o.mono s) (by simpa using e) λH'' s'=>q H'' (s.trans s'))
 |true=>
   have:true=k:=by simpa using e
   subst this;exact iteT (q H' s)
theorem PWv.t(h:PWv X e c):PTv X e c:=by obtain⟨t,ht,hf⟩:=h;exact⟨t,ht.pt,hf⟩
def yR(ha:PTv X a c):PTv X (.UnaryOp .Not a pos) (notT c):=by obtain⟨t,ht,hf⟩:=ha;refine⟨_,pt_not ht,λH₀ H O σ ds hd k Q o e q=>?_⟩;obtain⟨b,h,rfl⟩:=mpd e;exact hf H₀ H O σ ds hd b _ o h λH' s=>q H' s
def PJ{op}(ha:PV X a f):PV X (.BoolOp op [a] pos) f:=by obtain⟨t,ht,hf⟩:=ha;exact⟨_,pe_one ht,hf⟩
def IS{rest:List Expr}(ha:PV X a f)(hb:PV X (.BoolOp .And (b::rest) pos) g):PV X (.BoolOp .And (a::b::rest) pos) (andV f g):=by
 obtain⟨t,ht,hf⟩:=ha;obtain⟨u,hu,hg⟩:=hb;refine⟨_,pe_and ht hu,λH₀ H O σ ds hd d Q o e q=>?_⟩;obtain⟨dd,h,e⟩:=bnd e;refine hf H₀ H O σ ds hd dd _ o h λv H' s r=>?_;cases dd with
 |bl c=>
   cases r;cases c with
   |true=>exact⟨true,rfl,iteT (hg H₀ H' O σ ds hd d Q (o.mono s) e λv H'' s'=>q v H'' (s.trans s'))⟩
   |false=>have:=Option.some.inj e;subst this;exact⟨false,rfl,iteF (q _ H' s (.bl false))⟩
 |_=>cases e
def pv_not(ha:PV X a f):PV X (.UnaryOp .Not a pos) (notV f):=by
 obtain⟨t,ht,hf⟩:=ha;refine⟨_,pe_not ht,λH₀ H O σ ds hd d Q o e q=>?_⟩;obtain⟨dd,h,e⟩:=bnd e;refine hf H₀ H O σ ds hd dd _ o h λv H' s r=>?_;cases dd with
 |bl c=>cases r;cases e;exact⟨c,rfl,q _ H' s (.bl _)⟩
 |_=>cases e
def pv_if(hc:PTv X c fc)(ha:PV X a f)(hb:PV X b g):PV X (.IfExp c a b pos) (ifV fc f g):=by
 obtain⟨tc,pc,hc⟩:=hc;obtain⟨t,ht,hf⟩:=ha;obtain⟨u,hu,hg⟩:=hb;refine⟨_,aCn pc ht hu,λH₀ H O σ ds hd d Q o e q=>?_⟩;obtain⟨k,h,e⟩:=bnd e;refine hc H₀ H O σ ds hd k _ o h λH' s=>?_;cases k with
 |true=>exact iteT (hf H₀ H' O σ ds hd d Q (o.mono s) (by simpa using e) λv H'' s'=>q v H'' (s.trans s'))
 |false=>exact iteF (hg H₀ H' O σ ds hd d Q (o.mono s) (by simpa using e) λv H'' s'=>q v H'' (s.trans s'))
def qG:PAv X [] zT:=⟨_,yV,λ_ H _ _ _ _ _ _ _ e q=>by cases e;exact q _ H (Same.refl _) .nil⟩
def zU:PAs X [] zT:=⟨_,yV,λ_ H _ _ _ _ _ _ _ e q=>by cases e;exact q _ H (Same.refl _) .nil⟩
def zS(ha:PVw X e f)(hr:PAv X es g)(hs:aK (e::es) X.env=(false,cI e X.env)::aK es X.env:=by rfl):PAv X (e::es) (zC f g):=by obtain⟨t,ht,hf⟩:=ha;obtain⟨u,hu,hg⟩:=hr;refine⟨_,jN ht hu hs,λH₀ H O σ ds hd l Q o e q=>?_⟩;obtain⟨x,h,e⟩:=bnd e;obtain⟨r,h2,rfl⟩:=mpd e;refine hf H₀ H O σ ds hd x _ o h λv H1 s1 r1=>?_;refine hg H₀ H1 O σ ds hd r _ (o.mono s1) h2 λvs H2 s2 r2=>?_;exact q _ H2 (s1.trans s2) (.cons (r1.mono s2) r2)
def zI(ha:PV X e f)(hr:PAs X es g)(hs:aK (e::es) X.env=(false,cI e X.env)::aK es X.env:=by rfl):PAs X (e::es) (zC f g):=by obtain⟨t,ht,hf⟩:=ha;obtain⟨u,hu,hg⟩:=hr;refine⟨_,jN ht hu hs,λH₀ H O σ ds hd l Q o e q=>?_⟩;obtain⟨x,h,e⟩:=bnd e;obtain⟨r,h2,rfl⟩:=mpd e;refine hf H₀ H O σ ds hd x _ o h λv H1 s1 r1=>?_;refine hg H₀ H1 O σ ds hd r _ (o.mono s1) h2 λvs H2 s2 r2=>?_;exact q _ H2 (s1.trans s2) (.cons (r1.mono s2) r2)
def qM(h:H p=none) o:Same H (upd H p o):=λb u q=>by rw[upd_ne (yA q h)];exact q
def qV(h:PAs X es g):PVf X (.List es pos) (qI g):=by
 obtain⟨t,ht,hf⟩:=h;refine⟨_,aCm ht,λH₀ H O σ ds hd l Q o e q=>?_⟩;unfold qI at e;cases h:g ds with
 |none=>rw[h]at e;cases e
 |some l'=>
   rw[h]at e;simp only[aR]at e;split at e
   . rename_i hl;cases e;refine hf H₀ H O σ ds hd l _ o h λvs H1 s1 r1=>⟨by rw [r1.length];exact hl,λp hp=>?_⟩
     refine q p vs _ (s1.trans (qM hp _)) (s1.free hp) zQ ?_;exact(r1.more hp).mono (qM hp _)
   . cases e
def jX{x1}(h:PAs X es g):PV X (.Tuple es x1 pos) (mkT (qI g)):=by
 obtain⟨t,ht,hf⟩:=h;refine⟨_,pe_tup ht,λH₀ H O σ ds hd d Q o e q=>?_⟩;unfold mkT qI at e;cases h:g ds with
 |none=>rw[h]at e;cases e
 |some l'=>
   rw[h]at e;simp only[aR]at e;split at e
   . rename_i hl;cases e;refine hf H₀ H O σ ds hd l' _ o h λvs H1 s1 r1=>⟨by rw [r1.length];exact hl,λp hp=>?_⟩
     refine q _ _ (s1.trans (qM hp _)) ?_;exact .tup ((o.mono s1).free hp) (.inl zQ) (r1.mono (qM hp _))
   . cases e
def VG{K:Frag}(r:Reps K H O xs l)(e:atI l i=some d):∃v,atI xs i=some v/\Rep K H O v d:=by
 unfold atI at e ⊢;rw[r.length];cases h:ixN l.length i with
 |none=>rw[h]at e;cases e
 |some j=>rw[h]at e;exact r.get e
def ix_sem{K:Frag}(rx:WRep K H O x dx)(ry:WRep K H O y dy)(e:ixD dx dy=some d)(q:∀v H',Same H H'->Rep K H' O v d->Q v H'):rIx K x y H Q:=by
 cases dx<;>cases dy<;>first|(simp[ixD]at e;done)|skip
 . simp only [ixD]at e;split at e
   . rename_i hl;rw[rx.str',ry.int'];obtain⟨c,hc,rfl⟩:=mpd e;exact .inr (.inr ⟨_,_,c,rfl,rfl,hl,hc,q _ H (Same.refl _) (.str _)⟩)
   . cases e
 . obtain⟨a,xs,rfl,hs,r⟩:=rx.seqT;rw[ry.int'];obtain⟨v,h1,h2⟩:=VG r e;exact .inr (.inl ⟨a,xs,_,v,rfl,rfl,hs,h1,q _ H (Same.refl _) h2⟩)
 . obtain⟨a,xs,rfl,hs,r⟩:=rx.seqL;rw[ry.int'];obtain⟨v,h1,h2⟩:=VG r e;exact .inl ⟨a,xs,_,v,rfl,rfl,hs,h1,q _ H (Same.refl _) h2⟩
def os_ix:OpS X (rIx X.K) ixD:=λH O x y dx dy d Q ho rx ry e q=>ix_sem rx ry e q
def qE(ha:PVw X a fa)(hb:PVw X b fb)(hs:VJ b:=by exact λ_ _=>rfl):PV X (.Subscript a b pos) (zF ixD fa fb):=by obtain⟨ta,pa,ha⟩:=ha;obtain⟨tb,pb,hb⟩:=hb;exact⟨_,pe_ix ix_seq pa pb hs,IK os_ix (a:=a) (b:=b) ha hb⟩
noncomputable def RetOk(K:Frag)(H H':Hp)(v:V):Ret->Prop
 |.val d=>Rep K H' (Old H) v d
 |.fresh l=>∃a xs,v=.ref a/\H a=none/\H' a=some (.lst xs)/\Reps K H' (ins1 a (Old H)) xs l
 |.any d=>Rep K H' yF v d
 |.obj t=>∃fs,RepO K H' (λb=>b∈fs\/Old H b) v t fs/\fs.Nodup/\∀b∈fs,H b=none
noncomputable def RetB(K:Frag)(H:Hp)(hd:Hold)(v:V):Ret->Prop
 |.any d=>∀B,HI.base B∈hd->Rep K H B v d
 |_=>True
noncomputable def spF(K:Frag)(n:Nat)(F:List D->Option Ret):Sp:=λvs H Q _=>vs.length=n/\∃ds r,Reps K H yF vs ds/\F ds=some r/\∀v H',Same H H'->RetOk K H H' v r->Q v H'
def IH{K:Frag}(h:RetOk K H H' v r)(e:retV r=some d)(ho:∀a,O a->Old H a):Rep K H' O v d:=by
 cases r with
 |any d'=>cases e
 |val d'=>cases e;exact h.less ho
 |obj t=>
   cases e;obtain⟨fs,h1,h2,h3⟩:=h;refine h1.val' λa z=>⟨.inr (ho a z),λq=>?_⟩
   obtain⟨o,e,_⟩:=ho a z;rw[h3 a q]at e;cases e
 |fresh l=>cases e;obtain⟨a,xs,rfl,h1,h2,h3⟩:=h;refine .lst (λz=>?_) (.inl h2) (h3.less λb z=>.inr (ho b z));obtain⟨o,e,_⟩:=ho a z;rw[h1]at e;cases e
def II{K:Frag}(h:RetOk K H H' v r)(e:retF r=some l)(ho:∀a,O a->Old H a):∃a xs,v=.ref a/\H a=none/\H' a=some (.lst xs)/\Reps K H' (ins1 a O) xs l:=by
 cases r with
 |any d'=>cases e
 |val d'=>cases e
 |obj t=>cases e
 |fresh l'=>cases e;obtain⟨a,xs,rfl,h1,h2,h3⟩:=h;exact⟨a,xs,rfl,h1,h2,h3.less λb z=>z.elim .inl λz=>.inr (ho b z)⟩
def CallS(X:Cx)(r:List V->Hp->VK->Prop)(F:List D->Option D):Prop:=∀H O vs l d Q,(∀a,O a->∃u:MutHO,H a=some u.1)->AG (WRep X.K H O) vs l->F l=some d->(∀v H',Same H H'->Rep X.K H' O v d->Q v H')->r vs H Q
def wL{id:String}(hc:CallR X (.builtin id) r)(hs:CallS X r F)(hm:X.mg x=none)(hv:fG x=some (.builtin id))(ha:PAv X (e::es) g)(hg:Gl X x)(hn:x≠"__name__":=by decide)(hdb:(x==("__debug__" : Str))=false:=by decide)(he:aK (e::es) X.env=(false,cI e X.env)::aK es X.env:=by rfl)(hpl:(dS pos (aK es X.env)).any (·.1)=false:=by rfl) :
  PV X (.Call (.Name x p) (e::es) [] pos) (callB F g):=by
 obtain⟨t,ht,hf⟩:=ha;refine⟨_,BZ hc hg hm hv ht hn hdb he hpl,λH₀ H O σ ds hd d Q o e q=>?_⟩;obtain⟨l,h,e⟩:=bnd e;refine hf H₀ H O σ ds hd l _ o h λvs H1 s1 r1=>?_;exact hs H1 O vs l d Q (o.mono s1).dom r1 e λv H' s' r=>q v H' (s1.trans s') r
def YZ:CallR X (.builtin "len") (λxs H Q=>(∃p ys,xs=[.ref p]/\(SqL X.K H p ys\/SqT X.K H p ys)/\Q (.int ys.length) H)\/∃z,xs=[.str z]/\z.length<=sizeLine/\Q (.int z.length) H):=JP.or JO
def cs_len:CallS X (λxs H Q=>(∃p ys,xs=[.ref p]/\(SqL X.K H p ys\/SqT X.K H p ys)/\Q (.int ys.length) H)\/∃z,xs=[.str z]/\z.length<=sizeLine/\Q (.int z.length) H) lenD:=by
 intro H O vs l d Q ho r e q;unfold lenD at e;split at e
 . cases e;cases r with
   |cons r rn=>cases rn;obtain⟨a,xs,rfl,hs,rs⟩:=r.seqL;refine .inl ⟨a,xs,rfl,.inl hs,?_⟩;rw[rs.length];exact q _ H (Same.refl _) (.int _)
 . cases e;cases r with
   |cons r rn=>cases rn;obtain⟨a,xs,rfl,hs,rs⟩:=r.seqT;refine .inl ⟨a,xs,rfl,.inr hs,?_⟩;rw[rs.length];exact q _ H (Same.refl _) (.int _)
 . split at e
   . rename_i hl;cases e;cases r with
     |cons r rn=>cases rn;rw[r.str'];exact .inr ⟨_,rfl,hl,q _ H (Same.refl _) (.int _)⟩
   . cases e
 . cases e
def jZ(hm:X.mg "len" = none)(ha:PAv X [e] g)(hg:Gl X "len":=by rfl)(he:aK [e] X.env=[(false,cI e X.env)]:=by rfl) :
  PV X (.Call (.Name "len" p) [e] [] pos) (callB lenD g):=wL YZ cs_len hm PySem.boot_len ha hg (by decide) (by decide) he rfl
noncomputable def After(X:Cx)(H₀:Hp)(hd:Hold)(E:Ends):Out->Prop
 |.nx ds=>∀σ H O,Ok X.K H₀ H O σ ds hd->E.nx σ H
 |.bk ds=>∀σ H O,Ok X.K H₀ H O σ ds hd->E.bk σ H
 |.ct ds=>∀σ H O,Ok X.K H₀ H O σ ds hd->E.ct σ H
 |.rt r=>∀v H,Same H₀ H->RetOk X.K H₀ H v r->RetB X.K H hd v r->E.rt v H
variable(X) in
def PSv(st:Stmt)(g:FS):Prop:=∃t,PS X st t/\∀H₀ H O σ ds hd out E,Ok X.K H₀ H O σ ds hd->g ds=some out->After X H₀ hd E out->t E σ H
variable(X) in
def PSsv(st:List Stmt)(g:FS):Prop:=∃t,PSs X st t/\∀H₀ H O σ ds hd out E,Ok X.K H₀ H O σ ds hd->g ds=some out->After X H₀ hd E out->t E σ H
def zP:PSsv X [] qJ:=⟨_,pss_nil,λ_ H O σ ds hd out E o e h=>by cases e;exact h σ H O o⟩
def zB{st:Stmt}{rest:List Stmt}(h1:PSv X st f)(h2:PSsv X rest g):PSsv X (st::rest) (qL f g):=by
 obtain⟨t,ht,hf⟩:=h1;obtain⟨u,hu,hg⟩:=h2;refine⟨_,LR ht hu,λH₀ H O σ ds hd out E o e h=>?_⟩;obtain⟨o1,h1,e⟩:=bnd e;refine hf H₀ H O σ ds hd o1 _ o h1 ?_;cases o1 with
 |nx ds'=>exact λσ' H' O' o'=>hg H₀ H' O' σ' ds' hd out E o' e h
 |rt r=>cases e;exact h
 |bk ds'=>cases e;exact h
 |ct ds'=>cases e;exact h
def zE{st:Stmt}(h1:PSv X st f):PSsv X [st] f:=by obtain⟨t,ht,hf⟩:=h1;exact⟨_,TK ht,hf⟩
def IT:PSv X (.Continue pos) (λds=>some (.ct ds)):=⟨_,LS,λ_ H O σ ds hd out E o e h=>by cases e;exact h σ H O o⟩
def qF(hc:PTv X c fc)(ha:PSsv X a f)(hb:PSsv X b g):PSv X (.If c a b pos) (ifG fc f g):=by
 obtain⟨tc,pc,hc⟩:=hc;obtain⟨t,ht,hf⟩:=ha;obtain⟨u,hu,hg⟩:=hb;refine⟨_,ps_if pc ht hu,λH₀ H O σ ds hd out E o e h=>?_⟩;obtain⟨k,h1,e⟩:=bnd e;refine hc H₀ H O σ ds hd k _ o h1 λH' s=>?_;cases k with
 |true=>exact iteT (hf H₀ H' O σ ds hd out E (o.mono s) (by simpa using e) h)
 |false=>exact iteF (hg H₀ H' O σ ds hd out E (o.mono s) (by simpa using e) h)
def zR(hN:X.N.Nodup)(he:PV X e f)(hi:X.N[i]?=some x:=by rfl)(hx:Loc X.env.scope x:=by first|exact Or.inl rfl|exact Or.inr rfl)(hs:eM e (some (.Name x pos')) pos.line X.env=pure false:=by rfl)(hf:X.fn x=true\/X.env.scope.names.lookup x=some .local:=by first|exact .inl rfl|exact .inr rfl):PSv X (.Assign [.Name x pos'] e pos) (jK i f):=by obtain⟨t,ht,hg⟩:=he;refine⟨_,IU hN hi hx ht hs hf,λH₀ H O σ ds hd out E o e h=>?_⟩;obtain⟨d,h1,rfl⟩:=mpd e;exact hg H₀ H O σ ds hd d _ o h1 λv H' s r=>h _ _ _ ((o.mono s).set r)
def jE(hN:X.N.Nodup)(he:PVf X e f)(hi:X.N[i]?=some x:=by rfl)(hx:Loc X.env.scope x:=by first|exact Or.inl rfl|exact Or.inr rfl)(hs:eM e (some (.Name x pos')) pos.line X.env=pure false:=by rfl)(hf:X.fn x=true\/X.env.scope.names.lookup x=some .local:=by first|exact .inl rfl|exact .inr rfl):PSv X (.Assign [.Name x pos'] e pos) (setOG i f):=by obtain⟨t,ht,hg⟩:=he;refine⟨_,IU hN hi hx ht hs hf,λH₀ H O σ ds hd out E o e h=>?_⟩;obtain⟨l,h1,rfl⟩:=mpd e;exact hg H₀ H O σ ds hd l _ o h1 λa xs H' s hn he r=>h _ _ _ (o.setO s hn he r)
def qH(he:PVw X e f):PSv X (.Return (some e) pos) (retG f):=by
 obtain⟨t,ht,hg⟩:=he;refine⟨_,BV ht,λH₀ H O σ ds hd out E o e h=>?_⟩;obtain⟨d,h1,e⟩:=bnd e;simp only[aR,flatR]at e;split at e
 . rename_i hf;cases e;exact hg H₀ H O σ ds hd d _ o h1 λv H' s r=>h _ _ (o.same.trans s) (Rep.flatten (λa z=>Old.mono (o.same.trans s) z) hf r.any) True.intro
 . cases e
def xH(he:PVf X e f):PSv X (.Return (some e) pos) (retOG f):=by
 obtain⟨t,ht,hg⟩:=he;refine⟨_,BV ht,λH₀ H O σ ds hd out E o e h=>?_⟩;obtain⟨l,h1,e⟩:=bnd e;simp only[aR,flatF]at e;split at e
 . rename_i hf;cases e;refine hg H₀ H O σ ds hd l _ o h1 λa xs H' s hn he r=>h _ _ (o.same.trans s) ⟨a,xs,rfl,o.same.free hn,he,Reps.flatten (λb z=>?_) hf r⟩ True.intro;rcases z with rfl|z
   . exact⟨_,he,rfl⟩
   . exact Old.mono (o.same.trans s) z
 . cases e
def yN i(hN:X.N[i]?=some x:=by rfl)(hv:Vis X.env.scope x:=by first|exact Or.inl rfl|exact Or.inr (Or.inl rfl)|exact Or.inr (Or.inr rfl))(hd:(x==("__debug__" : Str))=false:=by decide)(hcd:(x==("__classdict__" : Str))=false:=by decide):PSv X (.Return (some (.Name x pos')) pos) (retXG i):=by
 refine⟨_,BV (xT hN hv hd hcd),λH₀ H O σ ds hd out E o e h=>?_⟩;unfold retXG at e;cases hs:ds[i]? with
 |none=>rw[hs]at e;cases e
 |some s=>
   rw[hs]at e;cases s with
   |v d'=>cases e
   |no=>cases e
   |exc _=>cases e
   |fr _=>cases e
   |ob _ _=>cases e
   |own l=>
     simp only[flatF]at e;split at e
     . rename_i hf;cases e;obtain ⟨a,xs,h1,h2,h3,h4⟩:=o.readO hs;refine ⟨.ref a,h1,h _ _ o.same ⟨a,xs,rfl,o.fresh i l a hs h1,h3,Reps.flatten (λb z=>?_) hf h4⟩ True.intro⟩;rcases z with rfl|z
       . exact⟨_,h3,rfl⟩
       . exact Old.mono o.same z
     . cases e
def psv_put(he:PV X e fe)(hk:PV X ek fk)(hN:X.N[i]?=some x:=by rfl)(hv:Vis X.env.scope x:=by first|exact Or.inl rfl|exact Or.inr (Or.inl rfl)|exact Or.inr (Or.inr rfl))(hd:(x==("__debug__" : Str))=false:=by decide)(hcd:(x==("__classdict__" : Str))=false:=by decide)(ha:∀v,AB (.Subscript (.Name x p1) ek p2) X.env v=(do
    let ov <- gN [v] (cI (.Name x p1) X.env)
    let iv <- gN [v,ov] (cI ek X.env)
    mX p2
    gN [v,ov,iv] (setItem ov iv v)
    release [v,ov,iv] []):=by intro _;rfl)(hs:RN [.Subscript (.Name x p1) ek p2] e pos.line X.env=pure false:=by rfl)(hw:RO [.Subscript (.Name x p1) ek p2] e X.env=pure none:=by rfl)(h1:(gD [.Subscript (.Name x p1) ek p2] X.env).map (·.2)=[AB (.Subscript (.Name x p1) ek p2) X.env]:=by rfl):PSv X (.Assign [.Subscript (.Name x p1) ek p2] e pos) (putG i fk fe):=by
 obtain⟨te,pe,he⟩:=he;obtain⟨tk,pk,hk⟩:=hk;refine⟨_,aCe pe (pg_sub (xT hN hv hd hcd) pk aAz ha) hs hw h1,λH₀ H O σ ds hd out E o e h=>?_⟩;unfold putG at e;cases hsl:ds[i]? with
 |none=>rw[hsl]at e;cases e
 |some s=>
   rw[hsl]at e;cases s with
   |v d'=>cases e
   |no=>cases e
   |exc _=>cases e
   |fr _=>cases e
   |ob _ _=>cases e
   |own l=>
     obtain⟨d,h1,e⟩:=bnd e;obtain⟨kd,h2,e⟩:=bnd e;cases kd with
     |int n=>obtain⟨j,h3,rfl⟩:=mpd e;refine he H₀ H O σ ds hd d _ o h1 λv H1 s1 r1=>?_;obtain⟨a,xs,q1,q2,q3,q4⟩:=(o.mono s1).readO hsl;refine⟨.ref a,q1,?_⟩;refine hk H₀ H1 O σ ds hd _ _ (o.mono s1) h2 λkv H2 s2 r2=>?_;cases r2;refine⟨a,xs,n,j,rfl,rfl,s2 _ _ q3,by rw[q4.length];exact h3,?_⟩;exact h _ _ _ (((o.mono s1).mono s2).modify hsl q1 ((q4.mono s2).set (r1.mono s2) j))
     |_=>cases e
def jW(he:PV X e fe)(hN:X.N[i]?=some x:=by rfl)(hv:Vis X.env.scope x:=by first|exact Or.inl rfl|exact Or.inr (Or.inl rfl)|exact Or.inr (Or.inr rfl))(hd:(x==("__debug__" : Str))=false:=by decide)(hcd:(x==("__classdict__" : Str))=false:=by decide)(hfew:((dS p3 (aK [e] X.env)).all (λx=>!x.1)&&(lQ p3 (gA [] X.env)).all (λx=>x.1.isSome)
    && decide ([e].length+([]:List oW).length+(if ([]:List oW).isEmpty then 0 else 1)<30))=true:=by rfl)(hline:(p2.endLine==p3.line)=true:=by rfl)(hs:aK [e] X.env=(false,cI e X.env)::aK [] X.env:=by rfl)(hbase:fA (.Name x p1) "append" X.env (cI (.Name x p1) X.env)=cI (.Name x p1) X.env:=by rfl)(hsw:eM (.Call (.Attribute (.Name x p1) "append" p2) [e] [] p3) none pos.line X.env=pure false:=by rfl) :
  PSv X (.Expr (.Call (.Attribute (.Name x p1) "append" p2) [e] [] p3) pos) (appG i fe):=by
 obtain⟨te,pe,he⟩:=he;refine⟨_,kB (TY nQ DZ DY GY (xT hN hv hd hcd) (jN pe yV hs) hbase hfew hline hs rfl) hsw,λH₀ H O σ ds hd out E o e h=>?_⟩;unfold appG at e;cases hsl:ds[i]? with
 |none=>rw[hsl]at e;cases e
 |some s=>
   rw[hsl]at e;cases s with
   |v d'=>cases e
   |no=>cases e
   |exc _=>cases e
   |fr _=>cases e
   |ob _ _=>cases e
   |own l=>
     obtain⟨d,h1,e⟩:=bnd e;split at e
     . rename_i hl;cases e;obtain⟨a,xs,q1,q2,q3,q4⟩:=o.readO hsl;refine⟨.ref a,q1,.inl ⟨rfl,xs,SqL.of q3⟩,?_⟩;refine he H₀ H O σ ds hd d _ o h1 λv H1 s1 r1=>?_;refine⟨a,xs,v,rfl,rfl,s1 _ _ q3,by rw[q4.length];exact hl,?_⟩;exact h _ _ _ ((o.mono s1).modify hsl q1 ((q4.mono s1).append (.cons r1 .nil)))
     . cases e
def VI n ds(i:Nat) r t:(args n ds)[i]?≠some (.ob r t):=λe=>by
 unfold args at e;by_cases hi:i<ds.length
 . rw [bW (by simpa using hi),bI]at e;cases h:ds[i]? with
   |none=>rw[h]at e;cases e
   |some d=>rw[h]at e;cases e
 . rw [cL (by simpa using hi),dX]at e;split at e<;>cases e
def aDa{K:Frag}(r:Reps K H yF vs ds):Ok K H H yF (L2.start N vs) (args N.length ds) []:=by
 have hl:=r.length;have no:∀i,IsOwn (args N.length ds) i->False:=λi ⟨l,e⟩=>by
  unfold args at e;by_cases hi:i<ds.length
  . rw [bW (by simpa using hi),bI]at e;cases h:ds[i]? with
    |none=>rw[h]at e;cases e
    |some d=>rw[h]at e;cases e
  . rw [cL (by simpa using hi),dX]at e;split at e<;>cases e
 refine⟨Same.refl _,λi l a e _=>(no i ⟨l,e⟩).elim,λ_ z=>z.elim,by simp[L2.start,args,hl],λi s e=>?_,λi j a _ hi _ _ _=>no i hi,(λp hp=>nomatch hp),.no (VI _ _)⟩;unfold args at e;unfold L2.start;by_cases hi:i<ds.length
 . rw[bW (by simpa using hi),bI]at e;rw[bW (by simpa[hl]using hi),bI];obtain⟨d,h,rfl⟩:=mpd e;obtain⟨v,h1,h2⟩:=r.get h;rw[h1];exact yH h2
 . rw [cL (by simpa using hi),dX]at e;split at e
   . cases e;exact jI
   . cases e
def Does(g:FS)(n:Nat)(ds:List D)(r:Ret):Prop:=g (args n ds)=some (.rt r)\/(r=.val .non/\∃ds',g (args n ds)=some (.nx ds'))
def qU{K:Frag}{st:Stmt}(Fn:Fun K x qual st f fd)(S:FnScope N ps (zJ st))(hbody:∀cdv A outer s H E,Room k (A.deeper (nH qual (zJ st) s.heap.objs.size f cdv))->PSsv (cxOf CX0 P w K mg base N qual (zJ st) f cdv A outer s H E).nox (jG st) g)(hg:∀ds r,ds.length=ps.length->F ds=some r->Does g N.length ds r):FnOk P w K mg base CX0 (k+1) f fd ps (spF K ps.length F):=by
 refine Fn.ok S (λvs H Q E h=>h.1) (λcdv A outer s H vs Q E hr h=>?_);obtain⟨hl,ds,r,rv,e,q⟩:=h;obtain⟨t,ht,hf⟩:=hbody cdv A outer s H E hr;refine⟨t,ht,?_⟩;have o:=aDa (N:=N) rv;rcases hg ds r (by rw[<-rv.length];exact hl) e with e'|⟨rfl,ds',e'⟩
 . exact hf H H yF _ _ [] _ _ o e' (λv H' s r _=>q v H' s r)
 . exact hf H H yF _ _ [] _ _ o e' (λσ H' O o'=>q .non H' o'.same .non)
end FL
namespace L2
noncomputable def Its(x:Str):It:=⟨λi _=>i<x.cps.size,λi H v H'=>H'=H/\∃c,x.cps[i]?=some c/\v=.str ⟨#[c]⟩,λi _=>i=x.cps.size⟩
def KP{P:cF}{w:dE}{K:aP}{tg:Expr}(x:Str)(t:Tok)(it:aG)(ty:String)(hn:["enumerate","zip","dict_itemiterator","dict_reverseitemiterator","odict_iterator","itertools.zip_longest","itertools.pairwise"].contains ty=false)(Wk:∀A:eX,A.handled=none->Walks P w A it [it] [it] x.cps.size (SignAt x) (λi h=>h.IsStrIter it ty x t i))(hself:∀(A:eX) (i:Nat) (s:bH) (Q:aN->bH->Prop) (E:aN->bH->Prop),s.heap.IsStrIter it ty x t i->Q (.ref it) s->bL (aZ P w) A (EX (.ref it)) Q E s):Turn P w K tg (Its x) [it] it (λi h=>h.IsStrIter it ty x t i) where
 mem:=by simp
 obj:=λi h st b hb=>by
  have e:b=it:=by simpa using hb
  subst e;obtain⟨o,e,c,d⟩:=st;exact⟨o,e,λv z=>by rw[d]at z;cases z⟩
 keep:=λi h h' st k=>by obtain⟨o,e,r⟩:=st;exact⟨o,k it (by simp) o e,r⟩
 item:=by intro X hP hw hK hc i aC s σ H E I hf st hg;obtain⟨f0,f1,f2,f3,f4,f5⟩:=hf it (by simp);refine(Wk X.A (I.ok.hd hc)).item i s _ _ hg st λv h' tk hv st' kk=>?_;obtain⟨c,u,hc',rfl⟩:=hv;have I1:Inv X aC σ H {s with heap:=h',toks:=tk}:=I.turned (λb o hb e=>kk b o (by simpa using hb) e) f0 f1 f3 f4 f5;obtain⟨o,e,c1,d⟩:=id st';exact⟨_,rfl,HN e c1 d hn ⟨.str ⟨#[c]⟩,H,I1,⟨u,rfl⟩,⟨rfl,c,hc',rfl⟩,st',λb hb=>(hf b hb).1⟩⟩
 done:=by intro X hP hw hK hc i aC s σ H E I hf st hg;obtain⟨f0,f1,f2,f3,f4,f5⟩:=hf it (by simp);have hg':=hg;subst hg';exact(Wk X.A (I.ok.hd hc)).done s _ _ st λh' tk eb=>⟨rfl,I.turned (λb o hb e=>eb b o (by simpa using hb) e) f0 f1 f3 f4 f5⟩
 self:=hself
def iStr(tl:TE):TI:=λσ H R=>tl σ H λx H1=>∃z,x=.str z/\R (Its z) H1
def pi_str(hl:PE X l tl):PI X tg l (iStr tl):=by
 intro aC s σ H R I h;refine thn (hl aC s σ H _ I h) λv s1 zq=>?_;obtain⟨x,H1,I1,r1,q1⟩:=zq;obtain⟨z,e,q⟩:=q1;subst e;obtain⟨t,rfl⟩:=r1;cases ha:z.cps.all (· < 128)
 . refine wpAny_pyIter_wide ha ⟨s1.heap.objs.size,[s1.heap.objs.size],_,_,H1,rfl,I1.kept λb o e=>aD _ e,KP z t _ "str_iterator" (by decide) (λA hA=>Walks.strWide hA _ z t) (λ_ _ _ _ _ st h=>wpAny_pyIter_striter_wide st h),⟨_,aU _ rfl,rfl,rfl⟩,λb hb=>?_,q⟩;have e:b=s1.heap.objs.size:=by simpa using hb
   subst e;exact I1.fpOk (aM _) (I1.hok.fresh (aM _))
 . refine wpAny_pyIter_ascii ha ⟨s1.heap.objs.size,[s1.heap.objs.size],_,_,H1,rfl,I1.kept λb o e=>aD _ e,KP z t _ "str_ascii_iterator" (by decide) (λA hA=>Walks.strAscii hA _ z t) (λ_ _ _ _ _ st h=>wpAny_pyIter_striter_ascii st h),⟨_,aU _ rfl,rfl,rfl⟩,λb hb=>?_,q⟩;have e:b=s1.heap.objs.size:=by simpa using hb
   subst e;exact I1.fpOk (aM _) (I1.hok.fresh (aM _))
end L2
namespace FL
def Wlk(K:Frag)(J:It)(p:V×D)(items:List D):Prop:=∀H O,(∀a,O a->∃u:MutHO,H a=some u.1)->Rep K H O p.1 p.2 →
 (∀i d,items[i]?=some d->J.go i H/\∀x H',J.yld i H x H'->Same H H'/\Rep K H' O x d)/\J.stop items.length H
variable(X) in
def PIv(tg iter:Expr)(fi:FA):Prop:=∃wi,PI X tg iter wi/\∀H₀ H O σ ds hd items R,Ok X.K H₀ H O σ ds hd->fi ds=some items →
 (∀J p H',Same H H'->Rep X.K H' O p.1 p.2->Wlk X.K J p items->R J H')->wi σ H R
def aAn{K:Frag}: Wlk K (Itl K a) (.ref a,.lst l) l:=by intro H O _ r;obtain⟨b,xs,e,hs,rs⟩:=WRep.seqL (.inl r);cases e;refine⟨λi d hd=>?_,⟨xs,hs,by rw[rs.length];exact aM _⟩⟩;obtain⟨v,h1,h2⟩:=rs.get hd;refine⟨⟨xs,v,hs,h1⟩,λx H' y=>?_⟩;obtain⟨rfl,y⟩:=y;have:=y xs hs;rw[h1]at this;cases this;exact⟨Same.refl _,h2⟩
def wlk_tup{K:Frag}: Wlk K (Itt K a) (.ref a,.tup l) l:=by intro H O _ r;obtain⟨b,xs,e,hs,rs⟩:=WRep.seqT (.inl r);cases e;refine⟨λi d hd=>?_,⟨xs,hs,by rw[rs.length];exact aM _⟩⟩;obtain⟨v,h1,h2⟩:=rs.get hd;refine⟨⟨xs,v,hs,h1⟩,λx H' y=>?_⟩;obtain⟨rfl,y⟩:=y;have:=y xs hs;rw[h1]at this;cases this;exact⟨Same.refl _,h2⟩
def VU{K:Frag}{lo:Int}: Wlk K (Itr lo n) (.non,.non) (iT lo n):=by
 intro H O _ r;have hl:(iT lo n).length=n:=by simp[iT]
 refine⟨λi d hd=>?_,show n<=_ by rw[hl];exact aM _⟩;have hi:i<n:=by have:=(aW.mp hd).1;rwa [hl]at this
 refine⟨hi,λx H' y=>?_⟩;obtain⟨rfl,rfl⟩:=y;have:d=D.int (lo+(i:Int)):=by simp only[iT,bI,mT hi,dC]at hd;exact(Option.some.inj hd).symm
 subst this;exact⟨Same.refl _,.int _⟩
def wlk_str{K:Frag}: Wlk K (Its x) (.non,.non) (sgns x):=by
 intro H O _ r;have hl:(sgns x).length=x.cps.size:=by simp[sgns]
 refine⟨λi d hd=>?_,show _=x.cps.size from hl⟩;have hi:i<x.cps.size:=by have:=(aW.mp hd).1;rwa [hl]at this
 refine⟨hi,λv H' y=>?_⟩;obtain⟨rfl,c,hc,rfl⟩:=y;have:d=D.str ⟨#[c]⟩:=by simp only[sgns,bI,cM,hc,dC]at hd;exact(Option.some.inj hd).symm
 subst this;exact⟨Same.refl _,.str _⟩
def piv_str(h:PV X e f):PIv X tg e (viaA f asS):=by
 obtain⟨t,ht,hf⟩:=h;refine⟨_,pi_str ht,λH₀ H O σ ds hd items R o e q=>?_⟩;obtain⟨d,h1,e⟩:=bnd e;cases d with
 |str x=>cases e;refine hf H₀ H O σ ds hd _ _ o h1 λv H' s r=>?_;cases r;exact⟨x,rfl,q _ (.non,.non) H' s .non wlk_str⟩
 |_=>cases e
def xZ(hm:X.mg "range" = none)(h:PV X e f)(hg:Gl X "range":=by rfl)(hs:aK [e] X.env=[(false,cI e X.env)]:=by rfl):PIv X tg (.Call (.Name "range" p) [e] [] pos) (rng1 f):=by
 obtain⟨t,ht,hf⟩:=h;refine⟨_,WP hg hm (jN ht yV hs) hs,λH₀ H O σ ds hd items R o e q=>?_⟩;obtain⟨d,h1,e⟩:=bnd e;cases d with
 |int j=>
   simp only at e;split at e
   . rename_i hj;cases e;refine hf H₀ H O σ ds hd _ _ o h1 λv H' s r=>?_;cases r;exact⟨j,rfl,hj.1,hj.2,q _ (.non,.non) H' s .non VU⟩
   . cases e
 |_=>cases e
variable(X) in
def PGv(tg:Expr)(ga:D->List Sl->Option (List Sl)):Prop:=∃g,PG X tg g/\∀H₀ H O σ ds hd v d ds' Q,Ok X.K H₀ H O σ ds hd->Rep X.K H O v d->ga d ds=some ds'->(∀σ',Ok X.K H₀ H O σ' ds' hd->Q σ' H)->g v σ H Q
variable(X) in
def PGsv(tgs:List Expr)(ga:List D->List Sl->Option (List Sl)):Prop:=∃g,PGs X tgs g/\∀H₀ H O σ ds hd vs l ds' Q,Ok X.K H₀ H O σ ds hd->Reps X.K H O vs l->ga l ds=some ds'->(∀σ',Ok X.K H₀ H O σ' ds' hd->Q σ' H)->g vs σ H Q
def zO(hN:X.N.Nodup)(hi:X.N[i]?=some x:=by rfl)(hx:Loc X.env.scope x:=by first|exact Or.inl rfl|exact Or.inr rfl)(hf:X.fn x=true\/X.env.scope.names.lookup x=some .local:=by first|exact .inl rfl|exact .inr rfl):PGv X (.Name x pos) (zN i):=
 ⟨_,pg_name hN hi hx hf,λH₀ H O σ ds hd v d ds' Q o r e q=>by cases e;exact q _ (o.set r)⟩
def yW:PGsv X [] tgNil:=⟨_,pgs_nil,λH₀ H O σ ds hd vs l ds' Q o r e q=>by
 cases r with
 |nil=>cases e;exact⟨rfl,q _ o⟩
 |cons _ _=>cases e⟩
def zZ(h1:PGv X e g)(h2:PGsv X es h)(hs:(gD (e::es) X.env).map (·.2)=AB e X.env::(gD es X.env).map (·.2):=by rfl):PGsv X (e::es) (zW g h):=by
 obtain⟨t,ht,hf⟩:=h1;obtain⟨u,hu,hg⟩:=h2;refine⟨_,aCl ht hu hs,λH₀ H O σ ds hd vs l ds' Q o r e q=>?_⟩;cases r with
 |nil=>cases e
 |cons r1 rr=>rename_i v d vr dr;obtain⟨ds1,h1,e⟩:=bnd e;exact⟨v,vr,rfl,hf H₀ H O σ ds hd v d ds1 _ o r1 h1 λσ' o'=>hg H₀ H O σ' ds1 hd vr dr ds' Q o' rr e q⟩
def xQ(hc:X.calm=true)(hh:PGsv X es h)(hn:(gD es X.env).length=n:=by rfl)(hst:(gD es X.env).findIdx? (·.1)=none:=by rfl):PGv X (.Tuple es k pos) (tupG n h):=by
 obtain⟨t,ht,hf⟩:=hh;refine⟨_,pg_tup hc ht hn hst,λH₀ H O σ ds hd v d ds' Q o r e q=>?_⟩;cases d with
 |tup l=>
   simp only[tupG]at e;split at e
   . rename_i hl;obtain⟨a,xs,rfl,hs,rs⟩:=WRep.seqT (.inl r);exact⟨a,xs,rfl,hs,by rw[rs.length];exact hl,hf H₀ H O σ ds hd xs l ds' Q o rs e q⟩
   . cases e
 |_=>cases e
def GC{K:Frag}(h:RetB K H (q::hd) v r):RetB K H hd v r:=by
 cases r with
 |any d=>exact λB hB=>h B (aL _ hB)
 |_=>exact True.intro
def jV{iter:Expr}(hp:FD (aZ X.prog X.w) X.A X.env X.xe)(hc:X.calm=true)(hi:PIv X tg iter fi)(hg:PGv X tg ga)(hb:PSsv X body g)(hs:∀x,eJ iter X.env x=pure x:=by intro _;rfl):PSv X (.For tg iter body [] pos) (forG fi ga g):=by
 obtain⟨wi,pi,hi⟩:=hi;obtain⟨tg',pg,hg⟩:=hg;obtain⟨tb,pb,hb⟩:=hb;refine⟨_,aCd hp hc pi pg pb hs,λH₀ H O σ ds hd out E o e h=>?_⟩;obtain⟨items,h1,e⟩:=bnd e;refine hi H₀ H O σ ds hd items _ o h1 λJ p H' s r wk=>?_;refine⟨λi m σ' H'=>i<=items.length/\m=items.length-i/\∃O' ds',Ok X.K H₀ H' O' σ' ds' (HI.rep p.1 p.2::hd)/\qQ ga g (items.drop i) ds'=some out,⟨items.length,bZ _,rfl,O,ds,(o.mono s).holdMore r,by simpa using e⟩,?_⟩;rintro i m σ1 H1 ⟨hi1,rfl,O1,ds1,o1,e1⟩;obtain⟨go,stop⟩:=wk H1 O1 o1.dom (o1.hold (HI.rep p.1 p.2) aS);by_cases hlt:i<items.length
 . right;have hd0:=aF hlt;obtain ⟨hgo,hy⟩:=go i _ hd0;rw [cO hlt,qQ]at e1;refine ⟨hgo,λσ' H'=>i+1<=items.length/\∃ O' ds',Ok X.K H₀ H' O' σ' ds' (HI.rep p.1 p.2::hd)/\qQ ga g (items.drop (i+1)) ds'=some out,λσ' H' ⟨q1,q2⟩=>⟨items.length - (i+1),by lia,q1,rfl,q2⟩,λx H2 y=>?_⟩;obtain ⟨s2,r2⟩:=hy x H2 y;obtain ⟨ds2,h2,e1⟩:=bnd e1;obtain ⟨o3,h3,e1⟩:=bnd e1;refine hg H₀ H2 O1 σ1 ds1 (HI.rep p.1 p.2::hd) x _ ds2 _ (o1.mono s2) r2 h2 λσ' o'=>?_;refine hb H₀ H2 O1 σ' ds2 (HI.rep p.1 p.2::hd) o3 _ o' h3 ?_;cases o3 with
   |nx ds3=>exact λσ3 H3 O3 ok3=>⟨hlt,O3,ds3,ok3,e1⟩
   |ct ds3=>exact λσ3 H3 O3 ok3=>⟨hlt,O3,ds3,ok3,e1⟩
   |bk ds3=>cases e1;exact λσ3 H3 O3 ok3=>h σ3 H3 O3 ok3.holdLess
   |rt rr=>cases e1;exact λv H s r b=>h v H s r (GC b)
 . left;have ei:i=items.length:=by lia
   subst ei;rw[gC,qQ]at e1;cases e1;exact⟨stop,h σ1 H1 O1 o1.holdLess⟩
variable(X) in
def PFv(ifs:List Expr)(c:FT):Prop:=∃t,PF X ifs t/\∀H₀ H O σ ds hd b Q,Ok X.K H₀ H O σ ds hd->c ds=some b->(∀H',Same H H'->Q b H')->t σ H Q
def xR:PFv X [] (λ_=>some true):=⟨_,pf_nil,λ_ H _ _ _ _ _ _ _ e q=>by cases e;exact q H (Same.refl _)⟩
def TR(h:PTv X c fc):PFv X [c] fc:=by obtain⟨t,ht,hf⟩:=h;exact⟨_,pf_one ht,hf⟩
def Ok.inner{K:Frag}(o:Ok K H₀ H O σ ds hd) mp:Ok K H₀ H O (lG mp σ) (jJ mp ds) hd:=by
 have no:∀{i:Nat}{l:List D},(jJ mp ds)[i]?=some (.own l)->False:=λ{i l} e=>by
  unfold jJ at e;rw[bI]at e;cases hm:mp[i]? with
  |none=>rw[hm]at e;cases e
  |some m=>
    rw[hm]at e;simp only[dC,Option.some.injEq]at e;cases m with
    |none=>cases e
    |some j=>simp only at e;split at e<;>cases e
 refine⟨o.same,λi l a e _=>(no e).elim,o.dom,by simp[lG,jJ],λi s e=>?_,λi j a hij hi hj e1 e2=>?_,o.hold,.no λi r t e=>by
  unfold jJ at e;rw[bI]at e;cases hm:mp[i]? with
  |none=>rw[hm]at e;cases e
  |some m=>
    rw[hm]at e;simp only[dC,Option.some.injEq]at e;cases m with
    |none=>cases e
    |some j=>
      simp only at e
      split at e<;>cases e⟩
 . unfold jJ at e;unfold lG;rw [bI]at e ⊢;cases hm:mp[i]? with
   |none=>rw[hm]at e;cases e
   |some m=>
     rw[hm]at e;simp only[dC,Option.some.injEq]at e;cases m with
     |none=>simp only at e;subst e;exact jI
     |some j=>
       simp only at e;cases hj:ds[j]? with
       |none=>rw[hj]at e;subst e;exact jI
       |some s'=>
         rw[hj]at e;cases s' with
         |no=>subst e;exact jI
         |exc _=>subst e;exact jI
         |fr _=>subst e;exact jI
         |ob _ _=>subst e;exact jI
         |own l=>subst e;exact jI
         |v d=>simp only at e;subst e;obtain⟨v,h1,h2⟩:=o.read hj;simp only[dC,aR,h1,Option.join_some];exact yH h2
 . obtain ⟨l,e⟩:=hi;unfold jJ at e;rw [bI]at e;cases hm:mp[i]? with
   |none=>rw[hm]at e;cases e
   |some m=>
     rw[hm]at e;simp only[dC,Option.some.injEq]at e;cases m with
     |none=>cases e
     |some j=>
       simp only at e;cases hj:ds[j]? with
       |none=>rw[hj]at e;cases e
       |some s'=>rw[hj]at e;cases s'<;>cases e
def NH(hi:∀H₀ H O σ ds hd items R,Ok X.K H₀ H O σ ds hd->fi ds=some items->(∀J p H',Same H H'->Rep X.K H' O p.1 p.2->Wlk X.K J p items->R J H')->wi σ H R)(hg:∀c H₀ H O σ ds hd v d ds' Q,Ok X.K H₀ H O σ ds hd->Rep X.K H O v d->ga d ds=some ds'->(∀σ',Ok X.K H₀ H O σ' ds' hd->Q σ' H)->g c v σ H Q)(ht:∀c H₀ H O σ ds hd b Q,Ok X.K H₀ H O σ ds hd->tt ds=some b->(∀H',Same H H'->Q b H')->t1 c σ H Q)(he:∀c H₀ H O σ ds hd d Q,Ok X.K H₀ H O σ ds hd->fe ds=some d->(∀v H',Same H H'->Rep X.K H' O v d->Q v H')->t2 c σ H Q) :
  ∀H₀ H O σ ds hd l Q,Ok X.K H₀ H O σ ds hd->compG fi mp ga tt fe ds=some l →
   (∀a xs H',Same H H'->H a=none->H' a=some (.lst xs)->Reps X.K H' (ins1 a O) xs l->Q (.ref a) H')->tComp wi mp g t1 t2 σ H Q:=by
 intro H₀ H O σ ds hd l Q o e q;obtain⟨items,h1,e⟩:=bnd e;split at e
 . rename_i hsz;refine hi H₀ H O σ ds hd items _ o h1 λJ p H1 s1 r1 wk=>λc=>?_;have oI:=((o.mono s1).holdMore (p:=HI.rep p.1 p.2) r1).inner mp
   refine⟨λi m ys H2=>i<=items.length/\m=items.length-i/\Same H1 H2/\ys.length<=i/\∃l' rest,Reps X.K H2 O ys l'/\compL ga tt fe (jJ mp ds) (items.drop i)=some rest/\l=l'++rest,
    ⟨items.length,bZ _,rfl,Same.refl _,aM _,[],l,.nil,by simpa using e,rfl⟩,?_⟩
   rintro i m ys H2 ⟨hi1,rfl,s2,hy,l',rest,ry,er,el⟩;have o2:=oI.mono s2;obtain⟨go,stop⟩:=wk H2 O o2.dom (o2.hold (HI.rep p.1 p.2) aS);by_cases hlt:i<items.length
   . right;have hd0:=aF hlt;obtain ⟨hgo,hyl⟩:=go i _ hd0;refine ⟨hgo,by lia,λx H3 y=>?_⟩;obtain ⟨s3,r3⟩:=hyl x H3 y;rw [cO hlt,compL]at er;obtain ⟨ds1,h2,er⟩:=bnd er;refine hg c H₀ H3 O _ _ (HI.rep p.1 p.2::hd) x _ ds1 _ (o2.mono s3) r3 h2 λσ' o3=>?_;obtain ⟨b,h3,er⟩:=bnd er;refine ht c H₀ H3 O σ' ds1 (HI.rep p.1 p.2::hd) b _ o3 h3 λH4 s4=>?_;cases b with
     |false=>refine iteF ⟨items.length-(i+1),by lia,hlt,rfl,(s2.trans s3).trans s4,aAe hy,l',rest,(ry.mono s3).mono s4,by simpa using er,el⟩
     |true=>
       obtain⟨yd,h4,er⟩:=bnd er;cases h5:compL ga tt fe (jJ mp ds) (items.drop (i+1))with
       |none=>rw[h5]at er;cases er
       |some rest'=>rw[h5]at er;cases er;refine he c H₀ H4 O σ' ds1 (HI.rep p.1 p.2::hd) yd _ (o3.mono s4) h4 λv H5 s5 r5=>?_;refine⟨items.length-(i+1),by lia,hlt,rfl,((s2.trans s3).trans s4).trans s5,by simp;lia,l'++[yd],rest',(((ry.mono s3).mono s4).mono s5).append (.cons r5 .nil),h5,?_⟩;rw[el];simp
   . left;have ei:i=items.length:=by lia
     subst ei;rw[gC,compL]at er;cases er;rw[dM]at el;subst el;refine⟨stop,by lia,λa ha=>?_⟩;refine q a ys _ ((s1.trans s2).trans (qM ha _)) ((s1.trans s2).free ha) zQ ?_;exact(ry.more ha).mono (qM ha _)
 . cases e
def yX{iter:Expr}(S:CompScope X scope NY mp)(hc:X.calm=true)(hi:PIv X tg iter fi)(hg:∀c,PGv (jC X scope NY c) tg ga)(ht:∀c,PFv (jC X scope NY c) ifs tt)(he:∀c,PV (jC X scope NY c) elt fe)(hs:∀x,eJ iter X.env x=pure x:=by intro _;rfl):PVf X (.ListComp elt [⟨tg,iter,ifs,0⟩] scope pos) (compG fi mp ga tt fe):=by obtain⟨wi,pi,hi⟩:=hi;refine⟨_,TW S hc pi (λc=>(Classical.choose_spec (hg c)).1) (λc=>(Classical.choose_spec (ht c)).1) (λc=>(Classical.choose_spec (he c)).1) hs,?_⟩;exact NH hi (λc=>(Classical.choose_spec (hg c)).2) (λc=>(Classical.choose_spec (ht c)).2) (λc=>(Classical.choose_spec (he c)).2)
end FL
namespace L2
inductive TyV(K:aP)(H:Hp):V->aN->Prop where
 |of {x:V}{t:aN} (h:TyOf K H x t):TyV K H x t
 |lstK {a:aG}{o:Obj} (h:K.lookup a=some o) (c:o.cls=.type "list"):TyV K H (.ref a) (.type "list")
 |tupK {a:aG}{o:Obj} (h:K.lookup a=some o) (c:o.cls=.type "tuple"):TyV K H (.ref a) (.type "tuple")
 |tupF {a:aG}{o:Obj}{xs:List V} (h:H a=some (.frz o (.tup xs))):TyV K H (.ref a) (.type "tuple")
noncomputable def clsV:V->aN->Prop
 |.ty n,u=>u=.type n
 |.ref a,u=>u=.ref a
 |_,_=>False
def aFh:CallR X (.builtin "isinstance") (λxs H Q=>∃x c cv t b,xs=[x,c]/\clsV c cv/\TyV X.K H x t/\AE X.K t cv=some b/\Q (.bl b) H):=by
 intro aC s σ H xs us Q I r h;obtain⟨x,c,cv,t,b,rfl,hc,ty,e,q⟩:=h;obtain⟨u,u2,rfl,ru,ru2⟩:=vals2 r;have e2:u2=cv:=by
  cases c with
  |ty n=>cases(hc);cases(ru2);rfl
  |ref a=>cases(hc);cases(ru2);rfl
  |_=>exact(hc).elim
 subst e2;have fin:∀tk,EP X aC σ Q (.bool b) {s with toks:=tk}:=λtk=>⟨.bl b,H,I.tok tk,rfl,q⟩
 cases ty with
 |of h=>exact XY I ru h e fin
 |@lstK a o h c=>cases(ru);exact cS sH I.kIn ⟨o,I.kIn _ _ h,c⟩ e (λz=>nomatch z) fin
 |@tupK a o h c=>cases(ru);exact cS rJ I.kIn ⟨o,I.kIn _ _ h,c⟩ e (λz=>nomatch z) fin
 |@tupF a o xs ea=>
   cases(ru);obtain⟨e0,_,_,_,p⟩:=(I.hok a _ ea)
   obtain⟨o',h1,h2,_⟩:=p;exact cS rJ I.kIn ⟨o',h1,h2⟩ e (λz=>nomatch z) fin
theorem NK:∀{bs:List Bool}{us:List aN},Vals (bs.map V.bl) us->LSm.BoolsAre us bs
 |[],_,.nil=>.nil
 |b::r,_,.cons h t=>by cases(show _=aN.bool b from h);exact .cons b (NK t)
def ZB(hc:X.calm=true):CallR X (.builtin "all") (λxs H Q=>∃(p:aG) (bs:List Bool),xs=[.ref p]/\SqL X.K H p (bs.map V.bl)/\Q (.bl (bs.all id)) H):=by
 intro aC s σ H xs us Q I r h;obtain⟨p,bs,rfl,hq,q⟩:=h;obtain⟨u,rfl,ru⟩:=vals1 r;cases ru;obtain⟨its,rv,pl,hz⟩:=I.list hq;have hlt:p<s.heap.objs.size:=by obtain⟨_,e,_⟩:=pl.isList;exact bJ e
 have hb:=NK rv;refine call_all_walk (oR pl.isList ?_)
 refine⟨s.heap.objs.size,[s.heap.objs.size,p],[s.heap.objs.size],its.toArray.size,_,_,λi=>(bs[i]?).getD true,rfl,Walks.list (A:=X.A.in1) (I.ok.hd hc) _ p (bO hlt) its.toArray,
  ⟨⟨_,aU _ rfl,rfl,rfl⟩,pl.isList.push _⟩,λi v s' Q' E' hP hQ=>?_,λh' tk hk=>?_⟩
 . obtain⟨b,e,rfl⟩:=hb.get i v (by simpa using hP);simp[e,nT]at hQ;exact fZ hQ
 . have e:((List.range its.toArray.size).all λi=>(bs[i]?).getD true)=bs.all id:=by
    rw[bC,hb.length];exact LSm.range_all bs
   rw[e];exact⟨.bl _,H,I.kept (LSm.kept_iter hk),rfl,q⟩
theorem AI:∀{ts:List Str}{us:List aN},Vals (ts.map V.str) us->DV us ts
 |[],_,.nil=>.nil
 |b::r,_,.cons h t=>by
   obtain⟨tk,rfl⟩:=(show ∃tk,_=aN.str b tk from h)
   exact .cons b tk (AI t)
def rJoin(K:aP):V->List V->Hp->VK->Prop:=λx vs H Q=>∃(z:Str) (p:aG) (ts:List Str),x=.str z/\vs=[.ref p]/\SqL K H p (ts.map V.str)/\z.length<=16/\(ts.map (·.length)).sum+ts.length<=1048576/\Q (.str (Txt.join z ts)) H
def mt_join:MtR X "str.join" (rJoin X.K):=by
 intro aC s σ H x vs v us Q I rx rv h;obtain⟨z,p,ts,rfl,rfl,hq,hz,hw,q⟩:=h;obtain⟨tk,rfl⟩:=(rx)
 obtain⟨u,rfl,ru⟩:=rv.one;cases ru;obtain⟨its,rv,pl,hl⟩:=I.list hq;exact join_listW pl.isList (by simpa using AI rv) hz hw λt' k=>⟨.str _,H,I.tok k,⟨t',rfl⟩,q⟩
end L2
namespace FL
noncomputable def kitO(t T:String):Option Bool:=if ((aN.type t)==(aN.type T))=true then some true else if PySem.W.kitMeta T=true then (fastBuiltinMro t).map (·.contains (.type T))else none
def kit_all:∀t∈kitN,∀T∈kitT,kitO t T=some (t==T||(t=="bool"&&T=="int")):=by decide +kernel
def kit_of{K:Frag}(h:kitF t T=some b):AE K (.type t) (.type T)=some b:=by
 unfold kitF at h;split at h
 . rename_i hm;cases h;exact kit_all t hm.1 T hm.2
 . cases h
def ty_of{K:Frag}(r:WRep K H O v d)(e:tyD d=some t):TyV K H v (.type t):=by
 rcases r with r|⟨a,xs,l,rfl,rfl,ho,h,rs⟩
 . cases r with
   |non=>cases e;exact .of .non
   |bl b=>cases e;exact .of (.bl b)
   |int i=>cases e;exact .of (.int i)
   |str x=>cases e;exact .of (.str x)
   |tup n h r=>
     cases e;rcases h with h|⟨o,h⟩
     . exact .of (.tup h)
     . exact .tupF h
   |tupK h r=>cases e;obtain⟨o,its,m,hk,hc,_⟩:=h;exact .tupK hk hc
   |lst n h r=>
     cases e;rcases h with h|⟨o,h⟩
     . exact .of (.lst h)
     . exact .of (.frz h)
   |lstK h r=>cases e;obtain⟨o,its,m,hk,hc,_⟩:=h;exact .lstK hk hc
   |dct n h e' r=>cases e;exact .of (.dK h)
   |dcf n h e' r=>cases e
   |ins c n h e' r=>cases e
   |clo tx h e' nd c r=>cases e
   |fnK h=>cases e
 . cases e;exact .of (.lst h)
def BS(hm:X.mg "isinstance" = none)(hT:X.mg x=none)(hv:fG x=some (.type T))(he:PVw X e f)(hg:Gl X "isinstance":=by rfl)(hgT:Gl X x:=by rfl)(h1:aK [e,.Name x pT] X.env=(false,cI e X.env)::aK [.Name x pT] X.env:=by rfl)(h2:aK [.Name x pT] X.env=(false,cI (.Name x pT) X.env)::aK [] X.env:=by rfl)(h3:(dS pos (aK [.Name x pT] X.env)).any (·.1)=false:=by rfl)(hn:x≠"__name__":=by decide)(hd:(x==("__debug__" : Str))=false:=by decide):PV X (.Call (.Name "isinstance" p) [e,.Name x pT] [] pos) (isiG T f):=by obtain⟨t,ht,hf⟩:=he;refine⟨_,BZ aFh hg hm (by decide +kernel) (jN ht (jN (pe_bltn (v:=.ty T) hgT hT hv rfl hn hd) yV h2) h1) (by decide) (by decide) h1 h3,λH₀ H O σ ds hd d Q o e q=>?_⟩;obtain⟨dx,hh,e⟩:=bnd e;obtain⟨t,ht,e⟩:=bnd e;obtain⟨b,hk,rfl⟩:=mpd e;refine hf H₀ H O σ ds hd dx _ o hh λv H' s r=>?_;exact⟨v,.ty T,.type T,.type t,b,rfl,rfl,ty_of r ht,kit_of hk,q _ H' s (.bl b)⟩
theorem VD{K:Frag}:∀{xs:List V}{l:List D}{bs:List Bool},Reps K H O xs l->blsD l=some bs->xs=bs.map V.bl
 |_,_,_,.nil,e=>by cases e;rfl
 |_,_,bs,.cons (d:=d) h t,e=>by
   cases d with
   |bl b=>rename_i ds;simp only[blsD]at e;obtain⟨r,hr,rfl⟩:=mpd e;cases h;rw[VD t hr];rfl
   |_=>cases e
def cs_all:CallS X (λxs H Q=>∃(p:aG) (bs:List Bool),xs=[.ref p]/\SqL X.K H p (bs.map V.bl)/\Q (.bl (bs.all id)) H) allD:=by
 intro H O vs l d Q ho r e q;unfold allD at e;split at e
 . obtain ⟨bs,hb,rfl⟩:=mpd e;cases r with
   |cons r rn=>cases rn;obtain⟨a,xs,rfl,hs,rs⟩:=r.seqL;refine⟨a,bs,rfl,?_,q _ H (Same.refl _) (.bl _)⟩;rw[<-VD rs hb];exact hs
 . cases e
def PM(hc:X.calm=true)(hm:X.mg "all" = none)(ha:PAv X [e] g)(hg:Gl X "all":=by rfl)(he:aK [e] X.env=[(false,cI e X.env)]:=by rfl) :
  PV X (.Call (.Name "all" p) [e] [] pos) (callB allD g):=wL (ZB hc) cs_all hm (by decide +kernel) ha hg (by decide) (by decide) he rfl
theorem vB{K:Frag}:∀{xs:List V}{l:List D}{bs:List Str},Reps K H O xs l->strsD l=some bs->xs=bs.map V.str
 |_,_,_,.nil,e=>by cases e;rfl
 |_,_,bs,.cons (d:=d) h t,e=>by
   cases d with
   |str b=>rename_i ds;simp only[strsD]at e;obtain⟨r,hr,rfl⟩:=mpd e;cases h;rw[vB t hr];rfl
   |_=>cases e
def pv_join(ho:PVw X o f)(he:PVw X e g)(hbase:fA o "join" X.env (cI o X.env)=cI o X.env:=by rfl)(hfew:((dS cpos (aK [e] X.env)).all (λx=>!x.1)&&(lQ cpos (gA [] X.env)).all (λx=>x.1.isSome)
    && decide ([e].length+([]:List oW).length+(if ([]:List oW).isEmpty then 0 else 1)<30))=true:=by rfl)(hline:(apos.endLine==cpos.line)=true:=by rfl)(hs:aK [e] X.env=(false,cI e X.env)::aK [] X.env:=by rfl) :
  PV X (.Call (.Attribute o "join" apos) [e] [] cpos) (zF joinD f g):=by
 obtain⟨to,po,ho⟩:=ho;obtain⟨te,pe,he⟩:=he;refine⟨_,TY PySem.F.plainAttrs_str PySem.F.slot_str_join PySem.F.type_str_join mt_join po (jN pe yV hs) hbase hfew hline hs rfl,λH₀ H O σ ds hd d Q o e q=>?_⟩;obtain⟨dx,h1,e⟩:=bnd e;obtain⟨dy,h2,e⟩:=bnd e;cases dx with
 |str z=>
   cases dy with
   |lst l=>
     obtain⟨ts,h3,e⟩:=bnd e;split at e
     . rename_i hc;cases e;refine ho H₀ H O σ ds hd _ _ o h1 λx H1 s1 r1=>?_;rw[r1.str'];refine⟨rfl,?_⟩;refine he H₀ H1 O σ ds hd _ _ (o.mono s1) h2 λy H2 s2 r2=>?_;obtain⟨a,xs,rfl,hs,rs⟩:=r2.seqL;refine⟨z,a,ts,rfl,rfl,?_,hc.1,hc.2,q _ H2 (s1.trans s2) (.str _)⟩;rw[<-vB rs h3];exact hs
     . cases e
   |_=>simp[joinD]at e
 |_=>simp[joinD]at e
def IM(ha:PV X a f):PV X (.UnaryOp .USub a pos) (un1 negD f):=by
 obtain⟨ta,pa,ha⟩:=ha;refine⟨_,pe_un un_neg pa,λH₀ H O σ ds hd d Q o e q=>?_⟩;obtain⟨dx,h1,e⟩:=bnd e;cases dx with
 |int i=>cases e;refine ha H₀ H O σ ds hd _ _ o h1 λx H1 s1 r1=>?_;cases r1;exact⟨i,rfl,q _ H1 s1 (.int _)⟩
 |_=>cases e
def os_inS:OpS X (λx y H Q=>∃i j,x=.str i/\y=.str j/\Q (.bl (!(Builtin.Str.occurrences j i 0 j.length 1).isEmpty)) H) inS:=by
 intro H O x y dx dy d Q ho rx ry e q;cases dx<;>cases dy<;>first|(simp[inS]at e;done)|skip
 cases e;rw[rx.str',ry.str'];exact⟨_,_,rfl,rfl,q _ H (Same.refl _) (.bl _)⟩
variable(X) in
def PVd(e:Expr)(f:FE):Prop:=∃t,PE X e t/\∀H₀ H O σ ds hd d Q,Ok X.K H₀ H O σ ds hd->f ds=some d->(∀v H',Same H H'->Rep X.K H' (Old H) v d->Q v H')->t σ H Q
noncomputable def aFd(sc scope:Scope)(N NY:List Str)(mp:List (Option Nat)):Bool:=
 scope.kind==.function&&scope.names.all (λy=>y.2 != .cell)&&scope.names.all (λy=>y.2 != .local||scope.names.lookup y.1==some .local)
 && scope.names.all (λy=>y.2 != .free||(sc.names.lookup y.1==some .cell||sc.names.lookup y.1==some .free))&&mp.length==NY.length
 && (List.range NY.length).all (λi=>match NY[i]?,mp[i]? with|some x,some (some j)=>N[j]?==some x&&scope.names.lookup x==some .free|_,_=>true)
def jF(h:aFd X.env.scope scope X.N NY mp=true):CompScope X scope NY mp:=by
 unfold aFd at h;simp only[bV,uO,beq_iff_eq]at h;obtain⟨⟨⟨⟨⟨h1,h2⟩,h3⟩,h4⟩,h5⟩,h6⟩:=h;refine⟨h1,λy hy=>by simpa using h2 y hy,λy hy hk=>?_,λy hy hk=>?_,h5,λi x j e1 e2=>?_⟩
 . have:=h3 y hy;simpa[hk]using this
 . have:=h4 y hy;simp[hk,bne_self_eq_false,Bool.false_or,Bool.or_eq_true,beq_iff_eq]at this;exact this
 . have hi:i∈List.range NY.length:=nD.mpr (aW.mp e1).1;have:=h6 i hi;rw[e1,e2]at this;simpa using this
def zY(e:runG g n ds=some r):Does g n ds r:=by
 unfold runG at e;cases h:g (args n ds)with
 |none=>rw[h]at e;cases e
 |some o=>
   rw[h]at e;cases o with
   |rt r'=>cases e;exact .inl h
   |nx ds'=>cases e;exact .inr ⟨rfl,ds',h⟩
   |bk ds'=>cases e
   |ct ds'=>cases e
end FL
namespace L2
def op_mulB:OpR X (kS .Mult) (rI eS λi j=>.int (i*j)):=opI λ_ _ _ _ _ _ _ hc q=>mul_int q hc
def op_powB:OpR X (kS .Pow) (rI FL.CPowB λi j=>.int (i^j.toNat)):=opI λ_ _ _ _ _ _ _ hc q=>pow_int hc.1 hc.2 q
noncomputable def rCatS(K:aP):R2:=λx y H Q=>∃l b xs zs,x=.ref l/\y=.ref b/\SqL K H l xs/\SqL K H b zs/\xs.length+zs.length<=sizeLine/\∀p,H p=none->Q (.ref p) (upd H p (.lst (xs++zs)))
def op_catS:OpR X (kS .Add) (rCatS X.K):=by
 intro aC s σ H x y v u Q I rx ry h;obtain⟨l,b,xs,zs,rfl,rfl,hH,hB,hz,q⟩:=h;cases rx;cases ry;obtain⟨its,r,pl,z⟩:=I.list hH;obtain⟨its2,r2,pl2,z2⟩:=I.list hB;obtain⟨⟨cls,dd,data,sl⟩,ho,hc,n,hd⟩:=pl.isList;obtain⟨⟨cls2,dd2,data2,sl2⟩,ho2,hc2,n2,hd2⟩:=pl2.isList;subst hc hd hc2 hd2;have hl:=r.length;have hl2:=r2.length;refine concat_meets ⟨_,ho,rfl⟩ ⟨_,ho2,rfl⟩ noFill_list_add seq_list_add PySem.F.slot_list_add PySem.F.entry_list_add (PySem.F.args_list_add_2 _ _) (list_addW l b its.toArray its2.toArray n n2 dd dd2 sl sl2 (by simp[bC];lia)) ⟨ho,ho2,?_⟩;have ea:its.toArray++its2.toArray=(its++its2).toArray:=by simp
 rw[ea];exact⟨.ref _,_,I.lnew (r.append r2) (by rw[bX];lia),rfl,q _ I.fresh⟩
end L2
namespace FL
variable(X) in
def PVn(e:Expr)(f:FE):Prop:=∃t,PE X e t/\∀H₀ H O σ ds hd d Q,Ok X.K H₀ H O σ ds hd->f ds=some d->(∀v H',Same H H'->Rep X.K H' yF v d->Q v H')->t σ H Q
variable(X) in
def PAn(es:List Expr)(f:FA):Prop:=∃t,PA X es t/\∀H₀ H O σ ds hd l Q,Ok X.K H₀ H O σ ds hd->f ds=some l->(∀vs H',Same H H'->Reps X.K H' yF vs l->Q vs H')->t σ H Q
def PVw.n(h:PVw X e f):PVn X e f:=by obtain⟨t,ht,hf⟩:=h;exact⟨t,ht,λH₀ H O σ ds hd d Q o e q=>hf H₀ H O σ ds hd d Q o e λv H' s r=>q v H' s r.any⟩
theorem PV.n(h:PV X e f):PVn X e f:=h.w.n
def zV:PAn X [] zT:=⟨_,yV,λ_ H _ _ _ _ _ _ _ e q=>by cases e;exact q _ H (Same.refl _) .nil⟩
def zH(ha:PVn X e f)(hr:PAn X es g)(hs:aK (e::es) X.env=(false,cI e X.env)::aK es X.env:=by rfl):PAn X (e::es) (zC f g):=by obtain⟨t,ht,hf⟩:=ha;obtain⟨u,hu,hg⟩:=hr;refine⟨_,jN ht hu hs,λH₀ H O σ ds hd l Q o e q=>?_⟩;obtain⟨x,h,e⟩:=bnd e;obtain⟨r,h2,rfl⟩:=mpd e;refine hf H₀ H O σ ds hd x _ o h λv H1 s1 r1=>?_;refine hg H₀ H1 O σ ds hd r _ (o.mono s1) h2 λvs H2 s2 r2=>?_;exact q _ H2 (s1.trans s2) (.cons (r1.mono s2) r2)
def aBp(Fn:FnOk X.prog X.w X.K X.mg X.base CX0 k f fd ps (spF X.K n F))(hr:Room k X.A)(hm:X.mg x=some (.ref f))(hk:cE X.K (.ref f)=true)(hb:Binds X.K fd ps [])(ha:PAn X (e::es) g)(hg:Gl X x:=by rfl)(hdb:(x==("__debug__" : Str))=false:=by decide)(he:aK (e::es) X.env=(false,cI e X.env)::aK es X.env:=by rfl)(hpl:(dS pos (aK es X.env)).any (·.1)=false:=by rfl) :
  PV X (.Call (.Name x p) (e::es) [] pos) (qZ n F g):=by
 obtain⟨t,ht,hf⟩:=ha;refine⟨_,AO Fn hr hg hm hk hb .nil pass0 ht hdb he hpl,λH₀ H O σ ds hd d Q o e q=>?_⟩;obtain⟨l,h,e⟩:=bnd e;split at e
 . rename_i hln;obtain⟨r,h2,e⟩:=bnd e;refine hf H₀ H O σ ds hd l _ o h λvs H1 s1 r1=>?_;have hl:=r1.length;refine⟨by simp[dM];lia,l,r,by simpa using r1,h2,λv H' s' ro=>q v H' (s1.trans s') ?_⟩;exact IH ro e λa ha=>(o.mono s1).old ha
 . cases e
def WJ(Fn:FnOk X.prog X.w X.K X.mg X.base CX0 k f fd ps (spF X.K n F))(hr:Room k X.A)(hm:X.mg x=some (.ref f))(hk:cE X.K (.ref f)=true)(hb:Binds X.K fd ps [])(ha:PAn X (e::es) g)(hg:Gl X x:=by rfl)(hdb:(x==("__debug__" : Str))=false:=by decide)(he:aK (e::es) X.env=(false,cI e X.env)::aK es X.env:=by rfl)(hpl:(dS pos (aK es X.env)).any (·.1)=false:=by rfl) :
  PVf X (.Call (.Name x p) (e::es) [] pos) (xL n F g):=by
 obtain⟨t,ht,hf⟩:=ha;refine⟨_,AO Fn hr hg hm hk hb .nil pass0 ht hdb he hpl,λH₀ H O σ ds hd d Q o e q=>?_⟩;obtain⟨l,h,e⟩:=bnd e;split at e
 . rename_i hln;obtain⟨r,h2,e⟩:=bnd e;refine hf H₀ H O σ ds hd l _ o h λvs H1 s1 r1=>?_;have hl:=r1.length;refine⟨by simp[dM];lia,l,r,by simpa using r1,h2,λv H' s' ro=>?_⟩;obtain⟨a,xs,rfl,h3,h4,h5⟩:=II ro e λa ha=>(o.mono s1).old ha;exact q a xs H' (s1.trans s') (s1.free h3) h4 h5
 . cases e
def OpN(X:Cx)(r:R2)(op:D->D->Option D):Prop:=∀H O x y dx dy d Q,Rep X.K H yF x dx->Rep X.K H yF y dy->op dx dy=some d->(∀v H',Same H H'->Rep X.K H' O v d->Q v H')->r x y H Q
def SO(hs:OpN X r op)(ha:∀H₀ H O σ ds hd d Q,Ok X.K H₀ H O σ ds hd->fa ds=some d->(∀v H',Same H H'->Rep X.K H' yF v d->Q v H')->ta σ H Q)(hb:∀H₀ H O σ ds hd d Q,Ok X.K H₀ H O σ ds hd->fb ds=some d->(∀v H',Same H H'->Rep X.K H' yF v d->Q v H')->tb σ H Q) :
  ∀H₀ H O σ ds hd d Q,Ok X.K H₀ H O σ ds hd->zF op fa fb ds=some d->(∀v H',Same H H'->Rep X.K H' O v d->Q v H')->tOp r ta tb σ H Q:=by
 intro H₀ H O σ ds hd d Q o e q;obtain⟨dx,h1,e⟩:=bnd e;obtain⟨dy,h2,e⟩:=bnd e;refine ha H₀ H O σ ds hd dx _ o h1 λx H1 s1 r1=>?_;refine hb H₀ H1 O σ ds hd dy _ (o.mono s1) h2 λy H2 s2 r2=>?_;exact hs H2 O x y dx dy d Q (r1.mono s2) r2 e λv H' s r=>q v H' ((s1.trans s2).trans s) r
def SX(ho:OpR X (eC op) r)(hs:OpN X r opD)(ha:PVn X a fa)(hb:PVn X b fb)(hm:dH op b=false):PV X (.Compare a [op] [b] pos) (zF opD fa fb):=by obtain⟨ta,pa,ha⟩:=ha;obtain⟨tb,pb,hb⟩:=hb;exact⟨_,TX ho pa pb hm,SO hs ha hb⟩
def vX(ho:OpR X (eC op) r)(hs:OpN X r opD)(ha:PVn X a fa)(hb:PVn X b fb)(hm:dH op b=false):PTv X (.Compare a [op] [b] pos) (zK (zF opD fa fb)):=by
 obtain⟨ta,pa,ha⟩:=ha;obtain⟨tb,pb,hb⟩:=hb;refine⟨_,TF ho pa pb hm,λH₀ H O σ ds hd k Q o e q=>?_⟩;obtain⟨d,h,e⟩:=bnd e;refine SO hs ha hb H₀ H O σ ds hd d _ o h λv H' s r=>?_;cases d with
 |bl c=>cases e;cases r;exact⟨_,rfl,q H' s⟩
 |_=>cases e
mutual
theorem Rep.reads{aC:List (aG×Obj)}{σ:L2.St}{H:Hp}{s:bH}{O:aG->Prop}(I:Inv X aC σ H s):∀{v:V}{d:D},Rep X.K H O v d->∀{u:aN}{n:Nat},RelV v u->shal n d=true->∃as,Reads s.heap u (toPy d) as/\(toPy d).canLay0=true/\(toPy d).depth<=n+1
 |_,_,.non=>λr _=>by cases r;exact⟨[],.none,rfl,bZ _⟩
 |_,_,.bl b=>λr _=>by cases r;exact⟨[],.bool b,rfl,bZ _⟩
 |_,_,.int i=>λr _=>by obtain⟨t,rfl⟩:=r;exact⟨[],.int i t,rfl,bZ _⟩
 |_,_,.str x=>λr h=>by obtain⟨t,rfl⟩:=r;exact⟨[],.str x t,by simpa[toPy,PyData.canLay0,shal]using h,bZ _⟩
 |_,_,.tup m h q=>λr hs=>by cases r;obtain⟨its,rv,⟨o,ho,hc,k,hd⟩,hz⟩:=I.tuple (.inl h);obtain⟨as,h1,h2,h3⟩:=Reps.reads I q rv (by simpa[shal]using hs);exact⟨as,.tuple ho hc hd (by simpa using h1),by simpa[toPy,PyData.canLay0]using h2,by simpa[toPy,PyData.depth]using h3⟩
 |_,_,.tupK h q=>λr hs=>by cases r;obtain⟨its,rv,⟨o,ho,hc,k,hd⟩,hz⟩:=I.tuple (.inr h);obtain⟨as,h1,h2,h3⟩:=Reps.reads I q rv (by simpa[shal]using hs);exact⟨as,.tuple ho hc hd (by simpa using h1),by simpa[toPy,PyData.canLay0]using h2,by simpa[toPy,PyData.depth]using h3⟩
 |_,_,.lst m h q=>λr hs=>by cases r;obtain⟨its,rv,pl,hz⟩:=I.list (.inl h);obtain⟨o,ho,hc,k,hd⟩:=pl.isList;obtain⟨as,h1,h2,h3⟩:=Reps.reads I q rv (by simpa[shal]using hs);exact⟨_,.list ho hc hd (by simpa using h1),by simpa[toPy,PyData.canLay0]using h2,by simpa[toPy,PyData.depth]using h3⟩
 |_,_,.lstK h q=>λr hs=>by cases r;obtain⟨its,rv,pl,hz⟩:=I.list (.inr h);obtain⟨o,ho,hc,k,hd⟩:=pl.isList;obtain⟨as,h1,h2,h3⟩:=Reps.reads I q rv (by simpa[shal]using hs);exact⟨_,.list ho hc hd (by simpa using h1),by simpa[toPy,PyData.canLay0]using h2,by simpa[toPy,PyData.depth]using h3⟩
 |_,_,.dct _ _ _ _=>λ_ hs=>by simp[shal]at hs
 |_,_,.dcf _ _ _ _=>λ_ hs=>by simp[shal]at hs
 |_,_,.ins _ _ _ _ _=>λ_ hs=>by simp[shal]at hs
 |_,_,.clo _ _ _ _ _ _=>λ_ hs=>by simp[shal]at hs
 |_,_,.fnK _=>λ_ hs=>by simp[shal]at hs
theorem Reps.reads{aC:List (aG×Obj)}{σ:L2.St}{H:Hp}{s:bH}{O:aG->Prop}(I:Inv X aC σ H s):∀{vs:List V}{ds:List D},Reps X.K H O vs ds->∀{us:List aN}{n:Nat},Vals vs us->shals n ds=true->∃as,ReadsAll s.heap us (toPys ds) as/\PyData.canLayAll0 (toPys ds)=true/\PyData.depthAll (toPys ds)<=n
 |_,_,.nil=>λr _=>by cases r;exact⟨[],.nil,rfl,bZ _⟩
 |_,_,.cons h t=>λr hs=>by
   rename Nat=>n
   cases n with
   |zero=>simp[shals]at hs
   |succ n =>
    cases r with
    |cons r1 r2=>simp only[shals,bV]at hs;obtain⟨as,h1,h2,h3⟩:=Rep.reads I h r1 hs.1;obtain⟨bs,k1,k2,k3⟩:=Reps.reads I t r2 hs.2;exact⟨_,.cons h1 k1,by simp[toPys,PyData.canLayAll0,h2,k2],by simp only[toPys,PyData.depthAll];omega⟩
end
noncomputable def rEqD(X:Cx)(neg:Bool):R2:=λx y H Q=>∃dx dy,Rep X.K H yF x dx/\Rep X.K H yF y dy/\shal 40 dx=true/\shal 40 dy=true/\Q (.bl (if neg then !eqvD dx dy else eqvD dx dy)) H
def aCx(hu:X.A.units+100<cLine):OpR X (eC .Eq) (rEqD X false):=by intro aC s σ H x y v u Q I rx ry h;obtain⟨dx,dy,r1,r2,s1,s2,q⟩:=h;obtain⟨as,a1,a2,a3⟩:=r1.reads I rx s1;obtain⟨bs,b1,b2,b3⟩:=r2.reads I ry s2;exact SeqAt.compareEq_reads a1 b1 a2 b2 (by lia) ⟨.bl _,H,I,rfl,q⟩
def op_neD(hu:X.A.units+100<cLine):OpR X (eC .NotEq) (rEqD X true):=by intro aC s σ H x y v u Q I rx ry h;obtain⟨dx,dy,r1,r2,s1,s2,q⟩:=h;obtain⟨as,a1,a2,a3⟩:=r1.reads I rx s1;obtain⟨bs,b1,b2,b3⟩:=r2.reads I ry s2;exact SeqAt.compareNe_reads a1 b1 a2 b2 (by lia) ⟨.bl _,H,I,rfl,q⟩
def aCz:OpN X (rEqD X false) eqD:=by
 intro H O x y dx dy d Q rx ry e q;unfold eqD at e;split at e
 . rename_i hs;cases e;exact⟨dx,dy,rx,ry,hs.1,hs.2,q _ H (Same.refl _) (.bl _)⟩
 . cases e
def on_neD:OpN X (rEqD X true) neD:=by
 intro H O x y dx dy d Q rx ry e q;unfold neD at e;split at e
 . rename_i hs;cases e;exact⟨dx,dy,rx,ry,hs.1,hs.2,q _ H (Same.refl _) (.bl _)⟩
 . cases e
def hu100(hr:Room k A):A.units+100<cLine:=by have:=hr.un;lia
def SW(hr:Room k X.A)(ha:PVn X a fa)(hb:PVn X b fb):PV X (.Compare a [.Eq] [b] pos) (zF eqD fa fb):=SX (aCx (hu100 hr)) aCz ha hb (mB _)
def wB(hr:Room k X.A)(ha:PVn X a fa)(hb:PVn X b fb):PTv X (.Compare a [.Eq] [b] pos) (zK (zF eqD fa fb)):=vX (aCx (hu100 hr)) aCz ha hb (mB _)
def LN(hr:Room k X.A)(ha:PVn X a fa)(hb:PVn X b fb):PTv X (.Compare a [.NotEq] [b] pos) (zK (zF neD fa fb)):=vX (op_neD (hu100 hr)) on_neD ha hb (mB _)
def UC{K:Frag}{H:Hp}{O:aG->Prop}{v:V}(r:Rep K H O v d):decide (v=.non)=(match d with|.non=>true|_=>false):=by cases r<;>rfl
def on_is:OpN X (λx y H Q=>y=.non/\Q (.bl (decide (x=.non))) H) isD:=by
 intro H O x y dx dy d Q rx ry e q;cases dy<;>first|(cases dx<;>simp[isD]at e;done)|skip
 cases ry;refine⟨rfl,?_⟩;rw[UC rx];cases dx<;>(simp[isD,Option.some.injEq]at e;subst e;exact q _ H (Same.refl _) (.bl _))
def aCy:OpN X (λx y H Q=>y=.non/\Q (.bl (!decide (x=.non))) H) notD:=by
 intro H O x y dx dy d Q rx ry e q;cases dy<;>first|(cases dx<;>simp[notD]at e;done)|skip
 cases ry;refine⟨rfl,?_⟩;rw[UC rx];cases dx<;>(simp[notD,Option.some.injEq]at e;subst e;exact q _ H (Same.refl _) (.bl _))
def LI(ha:PVn X a fa)(hb:PVn X b fb):PV X (.Compare a [.IsNot] [b] pos) (zF notD fa fb):=SX UA aCy ha hb (mB _)
def kK(ha:PVn X a fa)(hb:PVn X b fb):PTv X (.Compare a [.Is] [b] pos) (zK (zF isD fa fb)):=vX op_isN on_is ha hb (mB _)
def yG(ha:PVn X a fa)(hb:PVn X b fb):PTv X (.Compare a [.IsNot] [b] pos) (zK (zF notD fa fb)):=vX UA aCy ha hb (mB _)
def BK{K:Frag}(r:Rep K H O v d)(h:sclD d=true):flatV v=true:=by cases r<;>first|rfl|(simp[sclD]at h;done)
def scl_eq{K:Frag}(r:Rep K H O v d)(h:sclD d=true)(r':Rep K H O' v' d')(h':sclD d'=true):eqV v v'=eqvD d d':=by
 cases r<;>first|(simp[sclD]at h;done)|skip
 all_goals (cases r'<;>first|(simp[sclD]at h';done)|rfl)
theorem IG{K:Frag}(rx:Rep K H O' x dx)(hx:sclD dx=true):∀{xs:List V}{l:List D},Reps K H O xs l->l.all sclD=true->xs.all flatV=true/\inV x xs=l.any λz=>eqvD z dx
 |_,_,.nil,_=>⟨rfl,rfl⟩
 |_,_,.cons r t,h=>by rw[sI,bV]at h;obtain⟨h1,h2⟩:=IG rx hx t h.2;refine⟨by rw[sI,BK r h.1,h1];rfl,?_⟩;unfold inV at h2 ⊢;rw[iR,iR,h2,scl_eq r h.1 rx hx]
def on_in:OpN X (rIn X.K neg) (inD neg):=by
 intro H O x y dx dy d Q rx ry e q;obtain⟨l,hl,e⟩:=bnd e;split at e
 . rename_i hs;cases e;cases dy with
   |lst l'=>cases hl;obtain⟨a,xs,rfl,hq,rs⟩:=WRep.seqL (.inl ry);obtain⟨h1,h2⟩:=IG rx hs.1 rs hs.2;refine⟨a,xs,rfl,.inl hq,BK rx hs.1,h1,?_⟩;rw[h2];exact q _ H (Same.refl _) (.bl _)
   |tup l'=>cases hl;obtain⟨a,xs,rfl,hq,rs⟩:=WRep.seqT (.inl ry);obtain⟨h1,h2⟩:=IG rx hs.1 rs hs.2;refine⟨a,xs,rfl,.inr hq,BK rx hs.1,h1,?_⟩;rw[h2];exact q _ H (Same.refl _) (.bl _)
   |_=>cases hl
 . cases e
def pt_in(ha:PVn X a fa)(hb:PVn X b fb)(hm:dH .In b=false:=by rfl):PTv X (.Compare a [.In] [b] pos) (zK (zF (inD false) fa fb)):=vX WV on_in ha hb hm
def os_mul:OpS X (rI eS λi j=>.int (i*j)) xJ:=by
 intro H O x y dx dy d Q ho rx ry e q;cases dx<;>cases dy<;>first|(simp[xJ]at e;done)|skip
 simp only[xJ]at e;split at e
 . rename_i hc;cases e;rw[rx.int',ry.int'];exact⟨_,_,rfl,rfl,hc,q _ H (Same.refl _) (.int _)⟩
 . cases e
def os_pow:OpS X (rI CPowB λi j=>.int (i^j.toNat)) powD:=by
 intro H O x y dx dy d Q ho rx ry e q;cases dx<;>cases dy<;>first|(simp[powD]at e;done)|skip
 simp only[powD]at e;split at e
 . rename_i hc;cases e;rw[rx.int',ry.int'];exact⟨_,_,rfl,rfl,hc,q _ H (Same.refl _) (.int _)⟩
 . cases e
def SQ(ha:PVw X a fa)(hb:PVw X b fb):PVf X (.BinOp a .Add b pos) (catA fa fb):=by
 obtain⟨ta,pa,ha⟩:=ha;obtain⟨tb,pb,hb⟩:=hb;refine⟨_,pe_op op_catS pa pb,λH₀ H O σ ds hd l Q o e q=>?_⟩;obtain⟨dx,h1,e⟩:=bnd e;obtain⟨dy,h2,e⟩:=bnd e;cases dx<;>cases dy<;>first|(simp at e;done)|skip
 simp only at e;split at e
 . rename_i hz;cases e;refine ha H₀ H O σ ds hd _ _ o h1 λx H1 s1 r1=>?_;refine hb H₀ H1 O σ ds hd _ _ (o.mono s1) h2 λy H2 s2 r2=>?_;obtain⟨a1,xs,rfl,hq1,rs1⟩:=(r1.mono s2).seqL;obtain⟨a2,ys,rfl,hq2,rs2⟩:=r2.seqL;refine⟨a1,a2,xs,ys,rfl,rfl,hq1,hq2,by rw[rs1.length,rs2.length];exact hz,λp hp=>?_⟩;refine q p _ _ ((s1.trans s2).trans (qM hp _)) ((s1.trans s2).free hp) zQ ?_;exact((rs1.append rs2).more hp).mono (qM hp _)
 . cases e
variable(X) in
def POv(e:Option Expr)(f:List Sl->Option (Option Int)):Prop:=∃t,PO X e t/\∀H₀ H O σ ds hd i Q,Ok X.K H₀ H O σ ds hd->f ds=some i->(∀H',Same H H'->Q i H')->t σ H Q
def pov_no:POv X none noP:=⟨_,po_none,λ_ H _ _ _ _ _ _ _ e q=>by cases e;exact q H (Same.refl _)⟩
def PP(h:PVw X e f):POv X (some e) (soP f):=by
 obtain⟨t,ht,hf⟩:=h;refine⟨_,po_some ht,λH₀ H O σ ds hd i Q o e q=>?_⟩;obtain⟨d,h1,e⟩:=bnd e;cases d<;>first|(cases e;done)|skip
 cases e;refine hf H₀ H O σ ds hd _ _ o h1 λv H' s r=>?_;rw[r.int'];exact⟨_,rfl,q H' s⟩
def NF{K:Frag}(rs:Reps K H O xs l):Reps K H O (cutV xs a b) (cutD l a b):=by unfold cutV cutD;rw[rs.length];exact(rs.drop _).take _
def WG{lo hi:Option Expr}(he:PVw X e f)(hl:POv X lo gl)(hh:POv X hi gh):PVf X (.Subscript e (.Slice lo hi none p2) pos) (sliA f gl gh):=by
 obtain⟨te,pe,he⟩:=he;obtain⟨tl,pl,hl⟩:=hl;obtain⟨th,ph,hh⟩:=hh;refine⟨_,LW sl_list pe pl ph,λH₀ H O σ ds hd l Q o e q=>?_⟩;obtain⟨d,h1,e⟩:=bnd e;obtain⟨a,h2,e⟩:=bnd e;obtain⟨b,h3,e⟩:=bnd e;cases d<;>first|(cases e;done)|skip
 cases e;refine he H₀ H O σ ds hd _ _ o h1 λv H1 s1 r1=>?_;refine hl H₀ H1 O σ ds hd _ _ (o.mono s1) h2 λH2 s2=>?_;refine hh H₀ H2 O σ ds hd _ _ ((o.mono s1).mono s2) h3 λH3 s3=>?_;obtain⟨a1,xs,rfl,hq,rs⟩:=((r1.mono s2).mono s3).seqL;refine⟨a1,xs,rfl,hq,λp hp=>?_⟩;have ss:=(s1.trans s2).trans s3;refine q p _ _ (ss.trans (qM hp _)) (ss.free hp) zQ ?_;exact((NF rs).more hp).mono (qM hp _)
def BR(hm:X.mg "list" = none)(he:PVw X e f)(hg:Gl X "list":=by rfl)(hs:aK [e] X.env=[(false,cI e X.env)]:=by rfl):PVf X (.Call (.Name "list" p) [e] [] pos) (lisA f):=by
 obtain⟨te,pe,he⟩:=he;refine⟨_,GQ JN hg hm (by decide +kernel) (jN pe yV hs) (by decide) (by decide) hs rfl,λH₀ H O σ ds hd l Q o e q=>?_⟩;obtain⟨d,h1,e⟩:=bnd e;refine he H₀ H O σ ds hd _ _ o h1 λv H1 s1 r1=>?_;cases d<;>first|(cases e;done)|skip
 . cases e;obtain⟨a1,xs,rfl,hq,rs⟩:=r1.seqT;refine⟨a1,xs,rfl,.inr hq,λp hp=>?_⟩;exact q p _ _ (s1.trans (qM hp _)) (s1.free hp) zQ ((rs.more hp).mono (qM hp _))
 . cases e;obtain⟨a1,xs,rfl,hq,rs⟩:=r1.seqL;refine⟨a1,xs,rfl,.inl hq,λp hp=>?_⟩;exact q p _ _ (s1.trans (qM hp _)) (s1.free hp) zQ ((rs.more hp).mono (qM hp _))
def cs_max:CallS X (λxs H Q=>∃i j,xs=[.int i,.int j]/\Q (.int (if j>i then j else i)) H) mxD:=by
 intro H O vs l d Q ho r e q;unfold mxD at e;split at e
 . cases e;cases r with
   |cons r1 rn=>
     cases rn with
     |cons r2 rm=>cases rm;exact⟨_,_,by rw[r1.int',r2.int'],q _ H (Same.refl _) (.int _)⟩
 . cases e
def cs_min:CallS X (λxs H Q=>∃i j,xs=[.int i,.int j]/\Q (.int (if j<i then j else i)) H) mnD:=by
 intro H O vs l d Q ho r e q;unfold mnD at e;split at e
 . cases e;cases r with
   |cons r1 rn=>
     cases rn with
     |cons r2 rm=>cases rm;exact⟨_,_,by rw[r1.int',r2.int'],q _ H (Same.refl _) (.int _)⟩
 . cases e
def IP(hc:X.calm=true)(hm:X.mg "max" = none)(ha:PAv X [a,b] g)(hg:Gl X "max":=by rfl)(he:aK [a,b] X.env=(false,cI a X.env)::aK [b] X.env:=by rfl)(hpl:(dS pos (aK [b] X.env)).any (·.1)=false:=by rfl) :
  PV X (.Call (.Name "max" p) [a,b] [] pos) (callB mxD g):=wL (YY hc) cs_max hm (by decide +kernel) ha hg (by decide) (by decide) he hpl
def IN(hc:X.calm=true)(hm:X.mg "min" = none)(ha:PAv X [a,b] g)(hg:Gl X "min":=by rfl)(he:aK [a,b] X.env=(false,cI a X.env)::aK [b] X.env:=by rfl)(hpl:(dS pos (aK [b] X.env)).any (·.1)=false:=by rfl) :
  PV X (.Call (.Name "min" p) [a,b] [] pos) (callB mnD g):=wL (YX hc) cs_min hm (by decide +kernel) ha hg (by decide) (by decide) he hpl
def uI{α β:Type}{xs:List α}{ys:List β}(h:xs.length=ys.length):xs.isEmpty=ys.isEmpty:=by cases xs<;>cases ys<;>simp_all
theorem PVn.t(h:PVn X e f)(he:∀whole,EY e X.env whole=(do let v <- whole;mX e.pos;gN [v] (truthy v)):=by intro _;rfl):PTv X e (testT f):=by
 obtain⟨t,ht,hf⟩:=h;refine⟨_,aBu ht he,λH₀ H O σ ds hd k Q o e q=>?_⟩;unfold testT at e;obtain⟨d,h,e⟩:=bnd e;refine hf H₀ H O σ ds hd d _ o h λv H' s r=>⟨k,?_,q H' s⟩
 cases d with
 |non=>cases e;cases r;exact rfl
 |bl b=>cases e;cases r;exact rfl
 |int i=>cases e;cases r;exact rfl
 |str x=>
   simp only[truD]at e;split at e
   . rename_i hz;cases e;cases r;exact⟨hz,rfl⟩
   . cases e
 |tup l=>cases e;obtain⟨a,xs,rfl,hq,rs⟩:=WRep.seqT (.inl r);exact .inr (.inl ⟨xs,hq,by rw[uI rs.length]⟩)
 |lst l=>cases e;obtain⟨a,xs,rfl,hq,rs⟩:=WRep.seqL (.inl r);exact .inl ⟨xs,hq,by rw[uI rs.length]⟩
 |_=>cases e
def wG{st:Stmt}: PSv X st (λ_=>none):=⟨_,aCc,λ_ _ _ _ _ _ _ _ _ e _=>by cases e⟩
def psv_rel i{st:Stmt}(h:PSv X st g):PSv X st (λds=>g (relS i ds)):=by
 obtain⟨t,ht,hf⟩:=h;refine⟨t,ht,λH₀ H O σ ds hd out E o e q=>?_⟩;have e:g (relS i ds)=some out:=e;by_cases hs:∃l,ds[i]?=some (.own l)
 . obtain ⟨l,hl⟩:=hs;have e':relS i ds=ds.set i (.v (.lst l)):=by unfold relS;rw [hl]
   rw[e']at e;obtain⟨O',o'⟩:=o.release hl;exact hf H₀ H O' σ _ hd out E o' e q
 . have e':relS i ds=ds:=by
    unfold relS;split
    . rename_i l hl;exact(hs ⟨l,hl⟩).elim
    . rfl
   rw[e']at e;exact hf H₀ H O σ ds hd out E o e q
def GN n(hp:FD (aZ X.prog X.w) X.A X.env X.xe)(hc:PTv X c fc)(hb:PSsv X body g):PSv X (.While c body [] pos) (iS fc g n):=by
 obtain⟨tc,pc,hc⟩:=hc;obtain⟨tb,pb,hb⟩:=hb;refine⟨_,aCb hp pc pb,λH₀ H O σ ds hd out E o e h=>?_⟩;refine⟨λm σ' H'=>∃O' ds',Ok X.K H₀ H' O' σ' ds' hd/\iS fc g m ds'=some out,⟨n,O,ds,o,e⟩,?_⟩;rintro m σ1 H1 ⟨O1,ds1,o1,e1⟩;cases m with
 |zero=>cases e1
 |succ m=>
   simp only[iS]at e1;obtain⟨k,h1,e1⟩:=bnd e1;refine hc H₀ H1 O1 σ1 ds1 hd k _ o1 h1 λH2 s2=>?_;cases k with
   |false=>simp only[bS,if_false,Option.some.injEq]at e1;subst e1;exact iteF (h σ1 H2 O1 (o1.mono s2))
   |true=>
     simp only[if_true]at e1;refine iteT ⟨λσ' H'=>∃O' ds',Ok X.K H₀ H' O' σ' ds' hd/\iS fc g m ds'=some out,λσ' H' q=>⟨m,gF _,q⟩,?_⟩;obtain⟨o3,h2,e1⟩:=bnd e1;refine hb H₀ H2 O1 σ1 ds1 hd o3 _ (o1.mono s2) h2 ?_;cases o3 with
     |nx ds3=>exact λσ3 H3 O3 ok3=>⟨O3,ds3,ok3,e1⟩
     |ct ds3=>exact λσ3 H3 O3 ok3=>⟨O3,ds3,ok3,e1⟩
     |bk ds3=>cases e1;exact λσ3 H3 O3 ok3=>h σ3 H3 O3 ok3
     |rt rr=>cases e1;exact h
def psv_asg(he:PV X e f)(hg:PGv X tg ga)(hs:RN [tg] e pos.line X.env=pure false:=by rfl)(hw:RO [tg] e X.env=pure none:=by rfl)(h1:(gD [tg] X.env).map (·.2)=[AB tg X.env]:=by rfl):PSv X (.Assign [tg] e pos) (asgG ga f):=by
 obtain⟨te,pe,he⟩:=he;obtain⟨tg',pg,hg⟩:=hg;refine⟨_,aCe pe pg hs hw h1,λH₀ H O σ ds hd out E o e h=>?_⟩;obtain⟨d,h2,e⟩:=bnd e;cases h3:ga d ds with
 |none=>rw[h3]at e;cases e
 |some ds'=>rw[h3]at e;cases e;refine he H₀ H O σ ds hd d _ o h2 λv H1 s1 r1=>?_;exact hg H₀ H1 O σ ds hd v d ds' _ (o.mono s1) r1 h3 λσ' o'=>h σ' H1 O o'
def TJ(he:PVf X e fe)(hN:X.N[i]?=some x:=by rfl)(hv:Vis X.env.scope x:=by first|exact Or.inl rfl|exact Or.inr (Or.inl rfl)|exact Or.inr (Or.inr rfl))(hd:(x==("__debug__" : Str))=false:=by decide)(hcd:(x==("__classdict__" : Str))=false:=by decide)(hfew:((dS p3 (aK [e] X.env)).all (λx=>!x.1)&&(lQ p3 (gA [] X.env)).all (λx=>x.1.isSome)
    && decide ([e].length+([]:List oW).length+(if ([]:List oW).isEmpty then 0 else 1)<30))=true:=by rfl)(hline:(p2.endLine==p3.line)=true:=by rfl)(hs:aK [e] X.env=(false,cI e X.env)::aK [] X.env:=by rfl)(hbase:fA (.Name x p1) "extend" X.env (cI (.Name x p1) X.env)=cI (.Name x p1) X.env:=by rfl)(hsw:eM (.Call (.Attribute (.Name x p1) "extend" p2) [e] [] p3) none pos.line X.env=pure false:=by rfl) :
  PSv X (.Expr (.Call (.Attribute (.Name x p1) "extend" p2) [e] [] p3) pos) (extG i fe):=by
 obtain⟨te,pe,he⟩:=he;refine⟨_,kB (TY nQ PySem.F.slot_list_extend PySem.F.type_list_extend XH (xT hN hv hd hcd) (jN pe yV hs) hbase hfew hline hs rfl) hsw,λH₀ H O σ ds hd out E o e h=>?_⟩;unfold extG at e;cases hsl:ds[i]? with
 |none=>rw[hsl]at e;cases e
 |some s=>
   rw[hsl]at e;cases s with
   |v d'=>cases e
   |no=>cases e
   |exc _=>cases e
   |fr _=>cases e
   |ob _ _=>cases e
   |own l=>
     obtain⟨d,h1,e⟩:=bnd e;split at e
     . rename_i hl;cases e;obtain⟨a,xs,q1,q2,q3,q4⟩:=o.readO hsl;refine⟨.ref a,q1,.inl ⟨rfl,xs,SqL.of q3⟩,?_⟩;refine he H₀ H O σ ds hd d _ o h1 λb ys H1 s1 hn hb r1=>?_;refine⟨a,b,xs,ys,rfl,rfl,s1 _ _ q3,hb,by rw[q4.length,r1.length];exact hl,?_⟩;exact h _ _ _ ((o.mono s1).modify hsl q1 ((q4.mono s1).append (r1.less λa z=>.inr z)))
     . cases e
end FL
namespace L2
end L2
namespace Att
open PySem.W PySem.Calls
theorem uM:∀{ns:List Int}{b:Nat},WData.weightAll (ns.map WData.int)<=b->∀c∈ns,Builtin.Int.intBits c<=b
 |[],_,_=>λc hc=>by cases hc
 |n::r,b,h=>λc hc=>by
   simp only[aQ,WData.weightAll,WData.weight]at h;rcases aB.mp hc with rfl|hc
   . unfold Builtin.Int.intBits;omega
   . exact uM (ns:=r) (b:=b) (by omega) c hc
def attach_callB{l:OpenLaw}(hn:l.most=some n)(hdf:d.params.defaults=[])(call:∀w s₀ s₁ mg mb fa o pm cd doc a vs ns,
    Ground q loose [] XP w s₀ mg mb s₁.heap->YP w s₁.heap →
    s₁.heap.get? fa=some o->o.data=.func (docDef d.name d.params d.body d.scope pm cd doc)->s₁.heap.CodeRec cd d.name->mg d.name=some (.ref fa) →
    s₁.heap.get? a=some {cls:=.type "list",data:=.seq vs.toArray}->eR vs ns->ns.length<=n->(∀c∈ns,Builtin.Int.intBits c<=1048576)->s₁.gens=#[] →
    gO (aZ l.prog w) DT (.call (.ref fa) ⟨[.ref a],[]⟩) (λr s'=>r=.ok (.ret (.bool true))/\OldK s₁.heap s'.heap/\s'.os=s₁.os/\rL s'.gens) s₁) :
  WalkO q loose XP YP l.row.toRowW d [] (λf vs=>PySem.call f vs):=by
 intro w s₀ s₁ mg mb G Y fa o pm cd doc dV kV ho hd hcd hD hmg hg args vals as hpre hlay hrd hwl hlo;obtain rfl:dV=.none:=Dflts.none hD hdf;obtain rfl:kV=.none:=Dflts.noKw hD;obtain⟨a,vs,ns,rfl,rfl,hobj,hints,hlen⟩:=WE hn hpre hwl;have hb:∀c∈ns,Builtin.Int.intBits c<=1048576:=by have h1:=(layableW_iff.mp (layW_cons hlay).1).2.2;exact uM (cW h1 (by decide))
 refine enter_call (gX (call w s₀ s₁ mg mb fa o pm cd doc a vs ns G Y ho (fd_plain hd) hcd hmg hobj hints hlen hb hg) λr s' hq=>?_);obtain⟨rfl,h2,h3,h4⟩:=hq;exact⟨.inl ⟨.bool true,.bool true,[],rfl,λ_=>rfl,.bool true,WN l _,λ_=>⟨List.Pairwise.nil,λ_ hm=>(nomatch hm)⟩⟩,h2,h3,h4⟩
end Att
namespace FL
noncomputable def OU(K:Frag)(n:Nat):Sp:=λvs H Q _=>∃(a:aG) (ns:List Int),vs=[.ref a]/\SqL K H a (ns.map V.int)/\ns.length<=n/\(∀c∈ns,Builtin.Int.intBits c<=1048576)/\∀H',Q (.bl true) H'
def law_ofB{K:Frag}(Fn:FnOk P w K mg base CX0 k f fd [x] (spF K 1 F))(h:∀ns:List Int,ns.length<=n->(∀c∈ns,Builtin.Int.intBits c<=1048576)->F [.lst (ns.map D.int)]=some (.val (.bl true))):FnOk P w K mg base CX0 k f fd [x] (OU K n):=by
 refine Fn.imp λvs H Q E hq=>?_;obtain⟨a,ns,rfl,hS,hl,hb,q⟩:=hq;refine⟨rfl,[.lst (ns.map D.int)],.val (.bl true),.cons ?_ .nil,h ns hl hb,λv H' s r=>?_⟩
 . rcases hS with hS|hS
   . exact .lst (λz=>z.elim) hS (Reps.ints ns)
   . exact .lstK hS (Reps.ints ns)
 . cases r;exact q H'
open PySem.W (tabIn CodeHd tabObj noTabs tab_of) in
inductive TabL(K:Frag)(q:cF):List Str->List (Str×aG×aG)->Prop
 |nil:TabL K q [] []
 |yes {x:Str}{xs:List Str}{c P:aG}{tl:List (Str×aG×aG)} (h:iJ K x=some (c,P)) (r:((recsOf q).find? (λe=>e.name==x)).isSome=true) (ap:(tl.all λp=>p.2.2 != P)=true) (t:TabL K q xs tl):TabL K q (x::xs) ((x,c,P)::tl)
 |no {x:Str}{xs:List Str}{tl:List (Str×aG×aG)} (h:iJ K x=none) (t:TabL K q xs tl):TabL K q (x::xs) tl
def tabL_no{K:Frag}(h:aX K aV x=some none)(t:TabL K q xs tl):TabL K q (x::xs) tl:=.no (by unfold iJ;rw[h]) t
def tabL_yes{K:Frag}(h1:aX K aV x=some (some (.ref f)))(h2:K.lookup f=some ⟨oc,od,.func fd,sl⟩)(h3:fd.code=.ref c)(h4:K.lookup c=some ⟨oc',od',.fields vs,sl'⟩)(h5:(vs[11]?:Option aN)=some (.ref P))(r:((recsOf q).find? (λe=>e.name==x)).isSome=true)(t:TabL K q xs tl)(ap:(tl.all λp=>p.2.2 != P)=true):TabL K q (x::xs) ((x,c,P)::tl):=
 .yes (by unfold iJ;simp[h1,h2,h3,h4,h5]) r ap t
section
variable{K:Frag}{tl:List (Str×aG×aG)}
def TabL.get(h:TabL K q xs tl):∀{x:Str}{c P:aG},x∈xs->iJ K x=some (c,P)->(x,c,P)∈tl:=by
 induction h with
 |nil=>intro x c P hx;cases hx
 |yes h r ap t ih=>
   intro x c P hx ht;rcases aB.mp hx with e|e
   . subst e;rw[h]at ht;cases ht;exact aS
   . exact aL _ (ih e ht)
 |no h t ih=>
   intro x c P hx ht;rcases aB.mp hx with e|e
   . subst e;rw[h]at ht;cases ht
   . exact ih e ht
def TabL.fact(h:TabL K q xs tl):∀p∈tl,iJ K p.1=some (p.2.1,p.2.2)/\((recsOf q).find? (λe=>e.name==p.1)).isSome=true:=by
 induction h with
 |nil=>intro p hp;cases hp
 |yes h r ap t ih=>
   intro p hp;rcases aB.mp hp with e|e
   . subst e;exact⟨h,r⟩
   . exact ih p e
 |no h t ih=>exact ih
noncomputable def tabH(K:Frag)(tl:List (Str×aG×aG)):Hp:=λb=>(tl.find? λp=>p.2.2==b).map λp=>.tbl (sE K p.1)
def AH(e:tabH K tl b=some u):∃p∈tl,b=p.2.2/\u=.tbl (sE K p.1):=by obtain⟨p,h,rfl⟩:=mpd e;exact⟨p,fM h,(beq_iff_eq.mp (mO (p:=λp:Str×aG×aG=>p.2.2==b) h)).symm,rfl⟩
theorem TabL.at(h:TabL K q xs tl):∀p∈tl,tabH K tl p.2.2=some (.tbl (sE K p.1)):=by
 induction h with
 |nil=>intro p hp;cases hp
 |yes h r ap t ih=>
   intro p hp;rename_i x xs c P tl;unfold tabH;rcases aB.mp hp with e|e
   . subst e;simp
   . have:(P==p.2.2)=false:=by
      have:=uO.mp ap p e;simp only[bne_iff_ne,ne_eq]at this;exact beq_eq_false_iff_ne.mpr (Ne.symm this)
     rw[cK,this];exact ih p e
 |no h t ih=>exact ih
end
def no_cls{K:Frag}(X:K.In h)(hK:AD K=true)(e:K.lookup b=some o)(hb:h.get? b=some (AC ps)):False:=by have q:=X b o e;rw[hb]at q;cases q;have h2:=uO.mp hK (b,_) (PySem.W.mem_of_lookupK e);exact absurd (h2) dQ
def XS{K:Frag}(KX:K.In s₁.heap)(T:Top q loose mean mg mb s₁.heap)(hT:TabL K q makers tl)(hK:AD K=true)(hg:s₁.gens=#[])(ha:s₁.heap.get? a=some {cls:=.type "list",data:=.seq vs.toArray})(hi:eR vs ns)(hl:ns.length<=sizeLine)(hr:Room k DT)(F:∀base,K.In base->base.Ns aV mg->FnOk P w K mg base CX0 k fa fd [x] sp)(hbind:∀s u,ZO s fd ⟨[u],[]⟩ [(x,u)])(hsp:∀H,SqL K H a (ns.map V.int)->sp [.ref a] H (λv _=>v=.bl true) λ_ _ _=>False) :
  gO (aZ P w) DT (.call (.ref fa) ⟨[.ref a],[]⟩) (λr s'=>r=.ok (.ret (.bool true))/\OldK s₁.heap s'.heap/\s'.os=s₁.os/\rL s'.gens) s₁:=by
 have rv:=FK hi;have tf:∀p∈tl,ZJ s₁.heap p.2.1 p.2.2/\s₁.heap.get? p.2.2=some (AC #[]):=λp hp=>by obtain⟨h1,h2⟩:=hT.fact p hp;obtain⟨d,hd⟩:=ED.mp h2;exact PySem.W.tab_of T KX hd h1
 have core:∀H:Hp,SqL K H a (ns.map V.int)->L2.HOk P w H s₁.heap->(∀b u,H b=some u->(b=a/\K.lookup a=none/\∃o xs,u=.frz o (.lst xs))\/∃p∈tl,b=p.2.2/\u=.tbl (sE K p.1))->(∀p∈tl,H p.2.2=some (.tbl (sE K p.1))) →
   gO (aZ P w) DT (.call (.ref fa) ⟨[.ref a],[]⟩) (λr s'=>r=.ok (.ret (.bool true))/\OldK s₁.heap s'.heap/\s'.os=s₁.os/\rL s'.gens) s₁:=by
  intro H hS hok hA hP;have free_of:∀{b:aG}{o:Obj},s₁.heap.get? b=some o->(∀its n,o.data≠.seq its n)->o.data≠.fields #[]->H b=none:=λ{b o} e n1 n2=>by
   cases qb:H b with
   |none=>rfl
   |some u=>
     rcases hA b u qb with⟨rfl,_,_⟩|⟨p,hp,rfl,_⟩
     . rw[ha]at e;cases e;exact(n1 _ _ rfl).elim
     . rw[(tf p hp).2]at e;cases e;exact(n2 rfl).elim
  have base_of:∀{b:aG}{o:Obj},s₁.heap.get? b=some o->(∀its n,o.data≠.seq its n)->o.data≠.fields #[]->(hidT s₁.heap H).get? b=some o:=λe n1 n2=>MU e (free_of e n1 n2);have nsK:∀{b:aG}{m:Str->Option aN},s₁.heap.Ns b m->(hidT s₁.heap H).Ns b m:=λ{b m} ⟨o,es,ep,e,d,r⟩=>⟨o,es,ep,base_of e (λ_ _ z=>by rw[d]at z;cases z) (λz=>by rw[d]at z;cases z),d,r⟩
  have hKb:K.In (hidT s₁.heap H):=λb o e=>MU (KX b o e) (by
   cases qb:H b with
   |none=>rfl
   |some u=>
     rcases hA b u qb with⟨rfl,z,_⟩|⟨p,hp,rfl,_⟩
     . rw[z]at e;cases e
     . exact(no_cls KX hK e (tf p hp).2).elim)
  have hM:Mod K mg (hidT s₁.heap H):=⟨hKb,nsK T.g,⟨mb,nsK T.b,T.builtins⟩,let ⟨mc,h1,h2⟩:=T.nolimit;⟨mc,nsK h1,h2⟩⟩
  have hTab:TabsK K mg (hidT s₁.heap H) H:=by
   refine⟨?_,λy c P' hy ht=>?_⟩
   . obtain⟨bm,ob,b1,b2,b3,b4,b5,b6⟩:=T.bmain;exact⟨bm,ob,b1,b2,base_of b3 (λ_ _ z=>by rw[b6]at z;cases z) (λz=>by rw[b6]at z;cases z),b4,b5,b6⟩
   . have hm:=hT.get hy ht;refine⟨?_,hP _ hm⟩;obtain⟨o,ws,file,tf',flags,tg,inF,text,tt,e1,r1,r2,r3,rest⟩:=(tf _ hm).1;refine⟨o,ws,file,tf',flags,tg,inF,text,tt,base_of e1 (λ_ _ z=>by rw[r2]at z;cases z) (λz=>?_),r1,r2,r3,rest⟩;rw[r2]at z;cases z;cases r3
  have e0:Env0 P w K mg (hidT s₁.heap H) DT [] s₁ H:=⟨rfl,hM,λb o e=>of_hidT e,⟨tY (YC _ _),hTab⟩,trivial,λb hb=>absurd (show b∈([]:List aG) from hb) (by simp),hok,.of_eq hg⟩
  refine gX ((F _ hKb (nsK T.g)).run DT [] s₁ H ⟨[.ref a],[]⟩ [.ref a] [.ref a] _ _ hr e0 (hbind s₁ (.ref a)) (.cons rfl .nil) (hsp H hS)) λr s' h=>?_;cases r with
  |error e=>exact False.elim h
  |ok fl=>
    cases fl with
    |next=>exact False.elim h
    |brk=>exact False.elim h
    |cont=>exact False.elim h
    |ret u=>
      obtain⟨v,H',os,bare,un,hok',r',hv⟩:=h;have hv':=hv;subst hv';obtain rfl:u=aN.bool true:=r';refine⟨rfl,⟨λb o e=>?_,λb o e=>un.there b o e (by simp)⟩,os,bare⟩;cases qb:H b with
      |none=>exact .inl (un.keep b o e qb (by intro z;exact absurd (show b∈([]:List aG) from z) (by simp)) (by simp))
      |some u=>
        rcases hA b u qb with⟨_,_,ob,xs,rfl⟩|⟨p,hp,rfl,rfl⟩
        . obtain⟨e1,_⟩:=hok b _ qb;obtain⟨e2,_⟩:=hok' b _ (un.frzs b ob _ qb);rw[e]at e1;cases e1;exact .inl e2
        . have t2:=(tf p hp).2;rw[e]at t2;cases t2;obtain⟨ps,e2,_⟩:=hok' _ _ (un.tbls _ _ qb);exact .inr (.inl ⟨((tf p hp).1.tab (tf p hp).2).isCodeTable,rfl,#[],ps,rfl,by rw[Array.empty_append];exact e2⟩)
 have tabOk:∀(H:Hp) (p:Str×aG×aG),p∈tl->ObjOk P w H s₁.heap p.2.2 (.tbl (sE K p.1)):=λH p hp=>⟨#[],(tf p hp).2,trivial,λpos v z=>by cases z⟩
 cases hk:K.lookup a with
 |some o=>have e:=KX a o hk;rw[ha]at e;cases e;refine core (tabH K tl) (.inr ⟨_,vs.toArray,_,hk,rfl,rfl,rfl,by rw[bC,hi.length];exact hl,by simpa using rv⟩) (λb u z=>?_) (λb u z=>.inr (AH z)) λp hp=>hT.at p hp;obtain⟨p,hp,rfl,rfl⟩:=AH z;exact tabOk _ p hp
 |none=>
   have na:∀p∈tl,p.2.2≠a:=λp hp z=>by have:=(tf p hp).2;rw[z,ha]at this;cases this
   refine core (upd (tabH K tl) a (.frz {cls:=.type "list",data:=.seq vs.toArray} (.lst (ns.map V.int)))) (.inl (.inr ⟨_,zQ⟩)) (λb u z=>?_) (λb u z=>?_) λp hp=>by rw[upd_ne (na p hp)];exact hT.at p hp
   . by_cases hb:b=a
     . subst hb;rw[zQ]at z;cases z;exact⟨ha,by rw[cD];exact hl,vs,_,rv,ha⟩
     . rw[upd_ne hb]at z;obtain⟨p,hp,rfl,rfl⟩:=AH z;exact tabOk _ p hp
   . by_cases hb:b=a
     . subst hb;rw[zQ]at z;cases z;exact .inl ⟨rfl,hk,_,_,rfl⟩
     . rw[upd_ne hb]at z;exact .inr (AH z)
def walkB{l:VQ}{K:Params->aP}(hn:l.most=some 63)(hdf:d.params.defaults=[])(hr:Room k DT)(hY:∀w h,YP w h->(K w.params).In h)(hK:∀w:dE,AD (K w.params)=true)(hT:∀w:dE,TabL (K w.params) q makers tl)(F:∀w mg fa h,(K w.params).In h->h.Ns aV mg->mg d.name=some (.ref fa) →
    ∃fd,(∀s u,ZO s fd ⟨[u],[]⟩ [("_law_script",u)])/\∀base,(K w.params).In base->base.Ns aV mg->FnOk l.prog w (K w.params) mg base CX0 k fa fd ["_law_script"] (OU (K w.params) 63)) :
  PySem.W.WalkO q loose XP YP l.row.toRowW d [] (λf vs=>PySem.call f vs):=by
 refine Att.attach_callB hn hdf λw s₀ s₁ mg mb fa o pm cd doc a vs ns G Y ho hd hcd hmg hobj hints hlen hb hg=>?_;have KX:=hY w _ Y;obtain⟨fd,hbd,hF⟩:=F w mg fa _ KX G.T.g hmg;exact XS KX G.T (hT w) (hK w) hg hobj hints (cW hlen (by decide)) hr hF hbd λH hS=>⟨a,ns,rfl,hS,hlen,hb,λ_=>rfl⟩
structure Cal(P:cF)(w:dE)(K:Frag)(mg:Str->Option aN)(base:Heap)(x:Str)(k n:Nat)(F:List D->Option Ret):Prop where
 ex:∃(f:aG) (fd:bR) (ps:List Str),FnOk P w K mg base CX0 k f fd ps (spF K n F)/\Binds K fd ps []/\cE K (.ref f)=true/\mg x=some (.ref f)
def qA(C:Cal X.prog X.w X.K X.mg X.base x k n F)(hr:Room j X.A)(ha:PAn X (e::es) g)(hj:k<=j:=by decide)(hg:Gl X x:=by rfl)(hdb:(x==("__debug__" : Str))=false:=by decide)(he:aK (e::es) X.env=(false,cI e X.env)::aK es X.env:=by rfl)(hpl:(dS pos (aK es X.env)).any (·.1)=false:=by rfl) :
  PV X (.Call (.Name x p) (e::es) [] pos) (qZ n F g):=by
 obtain⟨f,fd,ps,Fn,hb,hk,hm⟩:=C.ex;exact aBp Fn (hr.mono hj) hm hk hb ha hg hdb he hpl
def jL(C:Cal X.prog X.w X.K X.mg X.base x k n F)(hr:Room j X.A)(ha:PAn X (e::es) g)(hj:k<=j:=by decide)(hg:Gl X x:=by rfl)(hdb:(x==("__debug__" : Str))=false:=by decide)(he:aK (e::es) X.env=(false,cI e X.env)::aK es X.env:=by rfl)(hpl:(dS pos (aK es X.env)).any (·.1)=false:=by rfl) :
  PVf X (.Call (.Name x p) (e::es) [] pos) (xL n F g):=by
 obtain⟨f,fd,ps,Fn,hb,hk,hm⟩:=C.ex;exact WJ Fn (hr.mono hj) hm hk hb ha hg hdb he hpl
def pv_lt(ha:PVw X a fa)(hb:PVw X b fb):PV X (.Compare a [.Lt] [b] pos) (zF ltD fa fb):=PL op_lt wS ha hb (mB _)
def pv_le(ha:PVw X a fa)(hb:PVw X b fb):PV X (.Compare a [.LtE] [b] pos) (zF leD fa fb):=PL op_le wS ha hb (mB _)
def rV(ha:PVw X a fa)(hb:PVw X b fb):PTv X (.Compare a [.Lt] [b] pos) (zK (zF ltD fa fb)):=AN op_lt wS ha hb (mB _)
def aBv(ha:PVw X a fa)(hb:PVw X b fb):PTv X (.Compare a [.LtE] [b] pos) (zK (zF leD fa fb)):=AN op_le wS ha hb (mB _)
def GK(ha:PVw X a fa)(hb:PVw X b fb):PTv X (.Compare a [.Gt] [b] pos) (zK (zF gtD fa fb)):=AN op_gt wS ha hb (mB _)
def pt_ge(ha:PVw X a fa)(hb:PVw X b fb):PTv X (.Compare a [.GtE] [b] pos) (zK (zF geD fa fb)):=AN op_ge wS ha hb (mB _)
def qX(ha:PVw X a fa)(hb:PVw X b fb):PV X (.BinOp a .Add b pos) (zF xK fa fb):=vV op_addU os_add ha hb
def xM(ha:PVw X a fa)(hb:PVw X b fb):PV X (.BinOp a .Sub b pos) (zF subD fa fb):=vV op_sub os_sub ha hb
def jH(ha:PVw X a fa)(hb:PVw X b fb):PV X (.BinOp a .Mult b pos) (zF xJ fa fb):=vV op_mulB os_mul ha hb
def kC(ha:PVw X a fa)(hb:PVw X b fb):PV X (.BinOp a .Pow b pos) (zF powD fa fb):=vV op_powB os_pow ha hb
def zX(ha:PVw X a fa)(hb:PVw X b fb):PV X (.BinOp a .Mod b pos) (zF jA fa fb):=vV op_mod os_mod ha hb
def qS(ha:PVw X a fa)(hb:PVw X b fb):PV X (.BinOp a .FloorDiv b pos) (zF qT fa fb):=vV aCw os_fdiv ha hb
end FL
namespace L2
def pi_seq(hl:PE X l tl):PI X tg l (λσ H R=>iList X.K tl σ H R\/iTup X.K tl σ H R):=by
 intro aC s σ H R I h;rcases h with h|h
 . exact pi_list hl aC s σ H R I h
 . exact pi_tup hl aC s σ H R I h
end L2
namespace FL
def jD(h:PV X e f):PIv X tg e (viaA f asLT):=by
 obtain⟨t,ht,hf⟩:=h;refine⟨_,pi_seq ht,λH₀ H O σ ds hd items R o e q=>?_⟩;obtain⟨d,h1,e⟩:=bnd e;cases d with
 |lst l=>cases e;refine .inl (hf H₀ H O σ ds hd _ _ o h1 λv H' s r=>?_);obtain⟨a,xs,rfl,hs,rs⟩:=WRep.seqL (.inl r);exact⟨a,rfl,⟨xs,hs⟩,q _ (.ref a,.lst items) H' s r aAn⟩
 |tup l=>cases e;refine .inr (hf H₀ H O σ ds hd _ _ o h1 λv H' s r=>?_);obtain⟨a,xs,rfl,hs,rs⟩:=WRep.seqT (.inl r);exact⟨a,rfl,⟨xs,hs⟩,q _ (.ref a,.tup items) H' s r wlk_tup⟩
 |_=>cases e
end FL
namespace L2
section
variable{tg:Expr}
end
end L2
namespace FL
theorem CM{K:Frag}:∀{xs:List V}{l:List D}{bs:List Int},Reps K H O xs l->intsD l=some bs->xs=bs.map V.int
 |_,_,_,.nil,e=>by cases e;rfl
 |_,_,bs,.cons (d:=d) h t,e=>by
   cases d with
   |int b=>rename_i ds;simp only[intsD]at e;obtain⟨r,hr,rfl⟩:=mpd e;cases h;rw[CM t hr];rfl
   |_=>cases e
def SU(hm:X.mg "int" = none)(ha:PAv X [e] g)(hg:Gl X "int":=by rfl)(he:aK [e] X.env=[(false,cI e X.env)]:=by rfl):PV X (.Call (.Name "int" p) [e] [] pos) (callB int1D g):=by
 obtain⟨t,ht,hf⟩:=ha;refine⟨_,GQ ZA hg hm (by decide +kernel) ht (by decide) (by decide) he rfl,λH₀ H O σ ds hd d Q o e q=>?_⟩;obtain⟨l,h,e⟩:=bnd e;refine hf H₀ H O σ ds hd l _ o h λvs H1 s1 r1=>?_;unfold int1D at e;split at e
 . cases e;cases r1 with
   |cons r rn=>cases rn;exact .inl ⟨_,by rw[r.int'],q _ H1 s1 (.int _)⟩
 . cases e;cases r1 with
   |cons r rn=>cases rn;exact .inr ⟨_,by rw[r.bl'],q _ H1 s1 (.int _)⟩
 . cases e
def LQ(hN:X.N.Nodup)(he:PV X e f)(hi:X.N[i]?=some x:=by rfl)(hx:Loc X.env.scope x:=by first|exact Or.inl rfl|exact Or.inr rfl)(hf:X.fn x=true\/X.env.scope.names.lookup x=some .local:=by first|exact .inl rfl|exact .inr rfl):PSv X (.AugAssign (.Name x pos') .Add e pos) (augA i f):=by
 obtain⟨t,ht,hg⟩:=he;refine⟨_,ps_aug hN hi hx ht ip_add hf,λH₀ H O σ ds hd out E o e h=>?_⟩;unfold augA qB at e;cases hs:ds[i]? with
 |none=>rw[hs]at e;cases e
 |some sl=>
   rw[hs]at e;cases sl with
   |no=>cases e
   |exc _=>cases e
   |fr _=>cases e
   |ob _ _=>cases e
   |own l=>cases e
   |v dx=>
     simp[aR]at e;obtain⟨dy,h1,e⟩:=bnd e;cases dx<;>first|(cases e;done)|skip
     cases dy<;>first|(cases e;done)|skip
     cases e;obtain⟨v,q1,q2⟩:=o.read hs;cases q2;refine⟨_,q1,hg H₀ H O σ ds hd _ _ o h1 λv H' s r=>?_⟩;cases r;exact⟨_,_,rfl,rfl,h _ _ _ ((o.mono s).set (.int _))⟩
end FL
namespace L2
end L2
namespace FL
end FL
namespace L2
end L2
namespace FL
end FL
namespace L2
def YW(hc:X.calm=true):CallR X (.builtin "sum") (λxs H Q=>∃(p:aG) (ns:List Int),xs=[.ref p]/\SqL X.K H p (ns.map V.int)/\Q (.int ns.sum) H):=by
 intro aC s σ H xs us Q I r h;obtain⟨p,ns,rfl,hq,q⟩:=h;obtain⟨u,rfl,ru⟩:=vals1 r;cases ru;obtain⟨its,rv,pl,hz⟩:=I.list hq;have hi:=CP rv;have hl:=pl.isList;obtain⟨xs,e⟩:=hi.allInts.items;have hns:ns=xs.toList.map (·.1):=by rw[<-hi.numsOf,<-nums_intItems,<-e]
 rw[e]at hl;refine sum_intListG (I.ok.hd hc) hl λh' tk t' hk=>?_;rw[preSum_eq,cQ (by simp),<-hns];exact⟨.int ns.sum,H,I.kept hk,⟨t',rfl⟩,q⟩
end L2
namespace FL
def cs_sumL:CallS X (λxs H Q=>∃(p:aG) (ns:List Int),xs=[.ref p]/\SqL X.K H p (ns.map V.int)/\Q (.int ns.sum) H) sumD:=by
 intro H O vs l d Q ho r e q;unfold sumD at e;split at e
 . cases r with
   |cons r rn=>cases rn;obtain⟨ns,hb,rfl⟩:=mpd e;obtain⟨a,xs,rfl,hs,rs⟩:=r.seqL;refine⟨a,ns,rfl,?_,q _ H (Same.refl _) (.int _)⟩;rw[<-CM rs hb];exact hs
 . cases e
def pv_sum(hc:X.calm=true)(hm:X.mg "sum" = none)(ha:PAv X [e] g)(hg:Gl X "sum":=by rfl)(he:aK [e] X.env=[(false,cI e X.env)]:=by rfl) :
  PV X (.Call (.Name "sum" p) [e] [] pos) (callB sumD g):=wL (YW hc) cs_sumL hm (by decide +kernel) ha hg (by decide) (by decide) he rfl
end FL
namespace L2
def IC(X:Cx)(m:Str)(k:Nat)(ta:TE)(t:TA):TE:=λσ H Q=>ta σ H λx H1=>∃(a C dx:aG) (fs:List (Str×V)) (f:aG) (fd:bR) (ps:List Str) (sp:Sp),x=.ref a/\H1 a=some (.ins C dx fs)/\fs.lookup m=none ∧
 Cls X.K C/\Meth X.K C m f/\FnOk X.prog X.w X.K X.mg X.base CX0 k f fd ps sp/\Binds X.K fd ps []/\t σ H1 λvs H2=>sp (x::vs) H2 Q E0
def BY(he:PE X o ta)(hr:Room k X.A)(ha:PA X (e::es) t)(hst:aK (e::es) X.env=(false,cI e X.env)::aK es X.env:=by rfl)(hpl:(dS pos (aK es X.env)).any (·.1)=false:=by rfl)(ht:cI (.Call (.Attribute o m apos) (e::es) [] pos) X.env=(do
    let ov <- cI o X.env
    mX apos.atName
    let (f,first) <- gN [ov] (nS ov m pl)
    DU pos f first (dS pos (aK (e::es) X.env)) (lQ pos (gA [] X.env))):=by rfl) :
  PE X (.Call (.Attribute o m apos) (e::es) [] pos) (IC X m k ta t):=by
 intro aC s σ H Q I h;refine HY (thn (he aC s σ H _ I h) λu s1 zq=>?_) ht;obtain⟨x,H1,I1,rx,a,C,dx,fs,f,fd,ps,sp,ex,ea,l,c,hm,F,hb,q⟩:=zq;subst ex;obtain rfl:u=aN.ref a:=rx;refine CS I1 ea c hm l ?_;refine rK I.ok.mod.kin hm.kp (thn (ha pos aC s1 σ H1 _ I1 q) λus s2 ⟨vs,H2,I2,r,q2⟩=>⟨I2.kIn,?_⟩) hst hpl;exact OZ (vs:=.ref a::vs) F hr hb .nil pass0 I2 (.cons rfl r) (by simpa using q2)
def WQ(he:PE X o ta)(hr:Room k X.A)(ht:cI (.Call (.Attribute o m apos) [] [] pos) X.env=(do
    let ov <- cI o X.env
    mX apos.atName
    let (f,first) <- gN [ov] (nS ov m pl)
    DU pos f first (dS pos (aK [] X.env)) (lQ pos (gA [] X.env))):=by rfl) :
  PE X (.Call (.Attribute o m apos) [] [] pos) (IC X m k ta tNil):=by
 intro aC s σ H Q I h;refine HY (thn (he aC s σ H _ I h) λu s1 zq=>?_) ht;obtain⟨x,H1,I1,rx,a,C,dx,fs,f,fd,ps,sp,ex,ea,l,c,hm,F,hb,q⟩:=zq;subst ex;obtain rfl:u=aN.ref a:=rx;refine CS I1 ea c hm l ?_;exact PySem.W.callWith_K0 I1.kIn hm.kp (OZ (vs:=[.ref a]) F hr hb .nil pass0 I1 (.cons rfl .nil) q)
end L2
namespace FL
theorem PVd.v(h:PVd X e f):PV X e f:=by obtain⟨t,ht,hf⟩:=h;exact⟨t,ht,λH₀ H O σ ds hd d Q o e q=>hf H₀ H O σ ds hd d Q o e λv H' s r=>q v H' s (r.less λa z=>o.old z)⟩
def FldOk(K:Frag)(f:Str)(ix:List (Nat×Nat)):Prop:=∀t i,ix.lookup t=some i->(fD t)[i]?=some f/\(∀j,j<i->(fD t)[j]?≠some f)/\∀C,aX K aV (eP t)=some (some (.ref C))->Cls K C/\NoAttr K C f
def YI{K:Frag}: FldOk K f []:=λt i h=>by simp at h
def RB{K:Frag}(a:aX K aV (eP t)=some (some (.ref C)))(c:Cls K C)(n:NoAttr K C f)(h1:(fD t)[i]?=some f)(h2:∀j,j<i->(fD t)[j]?≠some f)(h:FldOk K f ix):FldOk K f ((t,i)::ix):=by
 intro t' i' e;by_cases q:t'=t
 . subst q;simp at e;subst e;refine⟨h1,h2,λC' e'=>?_⟩;rw[a]at e';cases e';exact⟨c,n⟩
 . have:(t' == t)=false:=by simpa using q
   rw[cH,this]at e;exact h t' i' e
theorem wW:∀{kvs:List (Str×V)}{i:Nat}{v:V},(kvs.map (·.1))[i]?=some f->(∀j,j<i->(kvs.map (·.1))[j]?≠some f)->(kvs.map (·.2))[i]?=some v->kvs.lookup f=some v
 |[],_,_,h,_,_=>by simp at h
 |(g,x)::r,0,v,h1,_,h3=>by simp at h1 h3;subst h1 h3;simp[List.lookup]
 |(g,x)::r,i+1,v,h1,h2,h3=>by
   have hg:g≠f:=λz=>h2 0 (by omega) (by simp[z]);have:(f==g)=false:=by simpa using λz=>hg z.symm
   rw[cH,this];exact wW (i:=i) (by simpa using h1) (λj hj=>by have:=h2 (j+1) (by omega);simpa using this) (by simpa using h3)
def PK(hF:FldOk X.K f ix)(he:PV X e fe)(hb:fA e f X.env (cI e X.env)=cI e X.env:=by rfl):PV X (.Attribute e f pos) (fldG ix fe):=by
 obtain⟨t,ht,hf⟩:=he;refine⟨_,aCo ht hb,λH₀ H O σ ds hd d Q o e q=>?_⟩;obtain⟨x,h,e⟩:=bnd e;refine hf H₀ H O σ ds hd x _ o h λv H1 s1 r1=>?_;cases x with
 |ins t es=>
   obtain⟨i,hl,e⟩:=bnd e;obtain⟨h1,h2,h3⟩:=hF t i hl;cases r1 with
   |@ins a C dx _ kvs _ c n ha ek rr=>obtain⟨cl,na⟩:=h3 C c;obtain⟨w,hw,rw'⟩:=rr.get e;refine⟨a,C,dx,kvs,w,rfl,ha,cl,na,wW (by rw[ek];exact h1) (by rw[ek];exact h2) hw,?_⟩;exact q w H1 s1 rw'
 |_=>simp[fldD]at e
structure MCal(P:cF)(w:dE)(K:Frag)(mg:Str->Option aN)(base:Heap)(m:Str)(k n:Nat)(cs:List Nat)(F:Nat->List D->Option Ret):Prop where
 no:∀t∈cs,m∉fD t
 of:∀t∈cs,∀C,aX K aV (eP t)=some (some (.ref C))->∃(f:aG) (fd:bR) (ps:List Str),Cls K C/\Meth K C m f/\FnOk P w K mg base CX0 k f fd ps (spF K (n+1) (F t))/\Binds K fd ps []
def MH{K:Frag}: MCal P w K mg base m k n [] F:=⟨λ_ h=>(nomatch h),λ_ h=>(nomatch h)⟩
def XJ{K:Frag}(a:aX K aV (eP t)=some (some (.ref C)))(c:Cls K C)(hm:Meth K C m f)(G:FnOk P w K mg base CX0 j f fd ps (spF K (n+1) (F t)))(hj:j<=k)(b:Binds K fd ps [])(hn:m∉fD t)(h:MCal P w K mg base m k n cs F):MCal P w K mg base m k n (t::cs) F:=by
 refine⟨λt' ht=>(aB.mp ht).elim (λe=>e▸hn) (h.no t'),λt' ht C' e=>?_⟩;rcases aB.mp ht with rfl|ht
 . rw[a]at e;cases e;exact⟨f,fd,ps,c,hm,G.mono hj,b⟩
 . exact h.of t' ht C' e
theorem yY:∀{kvs:List (Str×V)},m∉kvs.map (·.1)->kvs.lookup m=none
 |[],_=>rfl
 |(g,x)::r,h=>by
   have hg:(m==g)=false:=by simpa using λz=>h (by simp[z])
   rw[cH,hg];exact yY λz=>h (by simp at z ⊢;exact .inr z)
def CB(M:MCal X.prog X.w X.K X.mg X.base m k n cs F){fo:FE}{g:FA}(hfo:∀H₀ H O σ ds hd d Q,Ok X.K H₀ H O σ ds hd->fo ds=some d->(∀v H',Same H H'->Rep X.K H' O v d->Q v H')->ta σ H Q)(hfg:∀H₀ H O σ ds hd l Q,Ok X.K H₀ H O σ ds hd->g ds=some l->(∀vs H',Same H H'->Reps X.K H' yF vs l->Q vs H')->t σ H Q)(o:Ok X.K H₀ H O σ ds hd)(h1:fo ds=some x)(h2:g ds=some l)(h3:methR n cs F x l=some r)(q:∀v H1 H',Same H H1->Same H1 H'->RetOk X.K H1 H' v r->Q v H'):IC X m k ta t σ H Q:=by
 refine hfo H₀ H O σ ds hd x _ o h1 λv H1 s1 r1=>?_;cases x with
 |ins c es=>
   simp only[methR]at h3;split at h3
   . rename_i hc;cases r1 with
     |@ins a C dx _ kvs _ cc nn ha ek rr=>
       obtain⟨f,fd,ps,cl,hm,Fn,hb⟩:=M.of c hc.1 C cc;refine⟨a,C,dx,kvs,f,fd,ps,_,rfl,ha,yY (by rw[ek];exact M.no c hc.1),cl,hm,Fn,hb,?_⟩;refine hfg H₀ H1 O σ ds hd l _ (o.mono s1) h2 λvs H2 s2 r2=>?_;have hl:=r2.length;have r1':Rep X.K H2 yF (.ref a) (.ins c es):=(Rep.ins cc (λz=>z.elim) (s2 _ _ ha) ek ((rr.mono s2).less λ_ z=>z.elim))
       exact⟨by simp[aH];lia,_,r,.cons r1' r2,h3,λv H' s' ro=>q v H2 H' (s1.trans s2) s' ro⟩
   . cases h3
 |_=>simp[methR]at h3
def SR(M:MCal X.prog X.w X.K X.mg X.base m k n cs F)(hr:Room j X.A)(ho:PV X o fo)(ha:PAn X (e::es) g)(hj:k<=j:=by decide)(hst:aK (e::es) X.env=(false,cI e X.env)::aK es X.env:=by rfl)(hpl:(dS pos (aK es X.env)).any (·.1)=false:=by rfl)(ht:cI (.Call (.Attribute o m apos) (e::es) [] pos) X.env=(do
    let ov <- cI o X.env
    mX apos.atName
    let (f,first) <- gN [ov] (nS ov m pl)
    DU pos f first (dS pos (aK (e::es) X.env)) (lQ pos (gA [] X.env))):=by rfl):PV X (.Call (.Attribute o m apos) (e::es) [] pos) (methV n cs F fo g):=by
 obtain⟨ta,pa,hfo⟩:=ho;obtain⟨t,pt,hfg⟩:=ha;refine⟨_,BY pa (hr.mono hj) pt hst hpl ht,λH₀ H O σ ds hd d Q o e q=>?_⟩;obtain⟨x,h1,e⟩:=bnd e;obtain⟨l,h2,e⟩:=bnd e;obtain⟨r,h3,e⟩:=bnd e;refine CB M hfo hfg o h1 h2 h3 λv H1 H' s1 s' ro=>q v H' (s1.trans s') ?_;exact IH ro e λa ha=>(o.mono s1).old ha
def aBl(M:MCal X.prog X.w X.K X.mg X.base m k n cs F)(hr:Room j X.A)(ho:PV X o fo)(ha:PAn X (e::es) g)(hj:k<=j:=by decide)(hst:aK (e::es) X.env=(false,cI e X.env)::aK es X.env:=by rfl)(hpl:(dS pos (aK es X.env)).any (·.1)=false:=by rfl)(ht:cI (.Call (.Attribute o m apos) (e::es) [] pos) X.env=(do
    let ov <- cI o X.env
    mX apos.atName
    let (f,first) <- gN [ov] (nS ov m pl)
    DU pos f first (dS pos (aK (e::es) X.env)) (lQ pos (gA [] X.env))):=by rfl):PVf X (.Call (.Attribute o m apos) (e::es) [] pos) (methF n cs F fo g):=by
 obtain⟨ta,pa,hfo⟩:=ho;obtain⟨t,pt,hfg⟩:=ha;refine⟨_,BY pa (hr.mono hj) pt hst hpl ht,λH₀ H O σ ds hd d Q o e q=>?_⟩;obtain⟨x,h1,e⟩:=bnd e;obtain⟨l,h2,e⟩:=bnd e;obtain⟨r,h3,e⟩:=bnd e;refine CB M hfo hfg o h1 h2 h3 λv H1 H' s1 s' ro=>?_;obtain⟨a,xs,rfl,h4,h5,h6⟩:=II ro e λa ha=>(o.mono s1).old ha;exact q a xs H' (s1.trans s') (s1.free h4) h5 h6
noncomputable def eH:Hp:=λ_=>none
def Keepx(x:aG)(H H':Hp):Prop:=∀b o,b≠x->H b=some o->H' b=some o
def Keepx.trans(a:Keepx x H H1)(b:Keepx x H1 H2):Keepx x H H2:=λc o n e=>b c o n (a c o n e)
def Keepx.of_same(s:Same H H1):Keepx x H H1:=λc o _ e=>s c o e
section
variable{K:Frag}{H H':Hp}{O:aG->Prop}{x:aG}
end
theorem LK:∀{kvs:List (Str×V)},f∉kvs.map (·.1)->putF f v kvs=kvs++[(f,v)]
 |[],_=>rfl
 |(g,x)::r,h=>by have hg:¬g=f:=λz=>h (by simp[z]);rw[show putF f v ((g,x)::r)=(if g=f then (g,v)::r else (g,x)::putF f v r) from rfl,if_neg hg,LK λz=>h (by simp at z ⊢;exact .inr z)];rfl
section
variable{g:FA}
end
def LJ(hm:∃t,X.mg x=some (.int i t))(hg:Gl X x:=by rfl)(hd:(x==("__debug__" : Str))=false:=by decide):PV X (.Name x pos) (zA (.int i)):=
 let ⟨t,h⟩:=hm
 SV (v:=.int i) hg h ⟨t,rfl⟩ (λ_ _=>.int i) hd
def aBn(hm:∃t,X.mg x=some (.str i t))(hg:Gl X x:=by rfl)(hd:(x==("__debug__" : Str))=false:=by decide):PV X (.Name x pos) (zA (.str i)):=
 let ⟨t,h⟩:=hm
 SV (v:=.str i) hg h ⟨t,rfl⟩ (λ_ _=>.str i) hd
section
variable{k j n:Nat}{F:List D->Option Ret}{x:Str}{p pos:Pos}{e:Expr}{es:List Expr}{g:FA}
end
end FL
namespace PySem
section
variable{prog:cF}{w:dE}{A:eX}{R:Result->bH->Prop}{I:aG}{fp wr:List aG}{n:Nat}{P:Nat->aN->Prop}{St:Nat->Heap->Prop}{kw:List (Str×aN)}
end
section
variable{prog:cF}{w:dE}{A:eX}{E:aN->bH->Prop}{s:bH}
end
end PySem
namespace FL
open PySem.Calls PySem.Builtin PySem.Builtin.ObjectAttr PySem.Builtin.Getset_descriptor
open PySem.W (Looks looks_findIn looks_mroIn findIn mroIn specialIn takesIn KitX)
section
variable{prog:cF}{w:dE}{A:eX}{E:aN->bH->Prop}{h:Heap}{g:Array GenState}{d:Drawn}{t:Nat}{os:OsState}{a C:aG}{o:Obj}{K:Frag}
end
def Fl2(B:Heap)(l:List Env)(e:aG)(cls a0 fl:aN)(h:Heap):Prop:=B.StaysIn h/\B.get? e=none/\h.FunFrames B l ∧
 ∃oe vs T oT ts,h.get? e=some oe/\(oe.cls=cls/\vs[0]?=some a0/\vs[2]?=some .none)/\oe.data=.fields vs/\vs[1]?=some (.ref T)/\B.get? T=none/\T≠e/\h.get? T=some oT/\oT.data=.fields ts/\ts[3]?=some fl
section
variable{M:Model}{A:eX}{E:aN->bH->Prop}{s:bH}{B:Heap}{l outer:List Env}{env:Env}{e L:aG}{cls a0 fl:aN}{oe:Obj}{vs:Array aN}{Q:Unit->bH->Prop}
def Fl2.tail(R:Fl2 B (env::outer) e cls a0 fl s.heap):Fl2 B outer e cls a0 fl s.heap:=let ⟨k1,k2,⟨_,_,k3⟩,k4⟩:=R;⟨k1,k2,k3,k4⟩
end
open PySem.W (hideAll hideAll_get of_hideAll hideAll_none funFrames_hide excIn tail_of_in nsMap_none_of_in isNs_of_in)
def obj_get{P:cF}{w:dE}{H:Hp}{h:Heap}{a:aG}{o:HO}(x:ObjOk P w H h a o):∃u,h.get? a=some u:=by
 cases o with
 |lst xs=>obtain⟨_,_,_,_,e⟩:=x;exact⟨_,e⟩
 |tup xs=>obtain⟨_,_,_,_,e,_⟩:=x;exact⟨_,e⟩
 |dK kvs=>obtain⟨_,_,_,_,o,_,_,e,_⟩:=x;exact⟨_,e⟩
 |dT kvs=>obtain⟨_,_,_,_,o,_,_,e,_⟩:=x;exact⟨_,e⟩
 |set S n=>obtain⟨o,_,_,_,e,_⟩:=x;exact⟨_,e⟩
 |ins C dx fs=>obtain⟨_,_,_,e,_⟩:=x;exact⟨_,e⟩
 |own y=>obtain⟨_,e⟩:=x;exact⟨_,e⟩
 |xd fs=>obtain⟨_,⟨_,_,_,e,_⟩,_⟩:=x;exact⟨_,e⟩
 |rng lo hi=>obtain⟨_,_,_,e⟩:=x;exact⟨_,e⟩
 |frz ob u=>obtain⟨e,_⟩:=x;exact⟨_,e⟩
 |tbl ps=>obtain⟨_,e,_⟩:=x;exact⟨_,e⟩
 |met f y=>exact⟨_,(show h.get? a=some _ from x)⟩
 |ext φ=>obtain⟨_,⟨_,e⟩,_⟩:=x;exact⟨_,e⟩
structure Thrown(P:cF)(w:dE)(outer:List Env)(H:Hp)(s:bH)(cls:aN)(ea:aG)(a0:aN)(B:Heap)(H':Hp)(h:Heap):Prop where
 fly:Fl2 B outer ea cls a0 .none h
 keep:∀b o,s.heap.get? b=some o->H b=none->b∉frs outer->B.get? b=some o
 there:∀b o,s.heap.get? b=some o->b∉frs outer->∃o',B.get? b=some o'
 slot:∀b o,s.heap.get? b=some o->b∈frs outer->∃sl,h.get? b=some {o with slots:=sl}
 free:∀b o,s.heap.get? b=some o->H b=none->H' b=none
 tups:∀b xs,H b=some (.tup xs)->H' b=some (.tup xs)
 frzs:∀b o u,H b=some (.frz o u)->H' b=some (.frz o u)
 tbls:∀b ps,H b=some (.tbl ps)->H' b=some (.tbl ps)
 hok:L2.HOk P w H' B
section
variable{P:cF}{w:dE}{outer:List Env}{H H':Hp}{s:bH}{cls a0:aN}{ea:aG}{B h h':Heap}
def Thrown.un(t:Thrown P w outer H s cls ea a0 B H' h):Un (frs outer) [] H H' s.heap h where
 keep:=λb o e n hb _=>t.fly.1 b o (t.keep b o e n hb)
 slot:=λb o e n hb _=>t.slot b o e hb
 free:=λb o e n _=>t.free b o e n
 there:=λb o e _=>by
  by_cases hb:b∈frs outer
  . obtain⟨sl,q⟩:=t.slot b o e hb;exact⟨_,q⟩
  . obtain⟨o',q⟩:=t.there b o e hb;exact⟨o',t.fly.1 b o' q⟩
 tups:=t.tups
 frzs:=t.frzs
 tbls:=t.tbls
def Thrown.no(t:Thrown P w outer H s cls ea a0 B H' h):H' ea=none:=by
 cases q:H' ea with
 |none=>rfl
 |some u=>obtain⟨o,e⟩:=obj_get (t.hok _ _ q);rw[t.fly.2.1]at e;cases e
end
section
variable(X:Cx)(C:aG)
end
section
variable{C:aG}
end
open PySem.W (Looks looks_mroIn mroIn)
def aCa(h:PV X e f)(hs:eM e none pos.line X.env=pure false:=by rfl):PSv X (.Expr e pos) (dropG f):=by
 obtain⟨t,ht,hf⟩:=h;refine⟨_,kB ht hs,λH₀ H O σ ds hd out E o e' h=>?_⟩;unfold dropG at e';cases hh:f ds with
 |none=>rw[hh]at e';cases e'
 |some d=>rw[hh]at e';cases e';exact hf H₀ H O σ ds hd d _ o hh λv H' s r=>h σ H' O (o.mono s)
open PySem.W (Looks looks_mroIn mroIn clsIn)
section
variable{prog:cF}{w:dE}{A:eX}{E:aN->bH->Prop}{h:Heap}{g:Array GenState}{d:Drawn}{t:Nat}{os:OsState}{a C S:aG}{o:Obj}{K:Frag}
end
section
variable{en:Str}{i:Nat}{p pe pT pos:Pos}{tb:List (Nat×Bool)}
end
section
variable{m:Str}{k j:Nat}{cs:List Nat}{F:Nat->List D->Option Ret}{o:Expr}{apos pos:Pos}{fo:FE}
end
section
variable{C:aG}{x:Str}{p pos:Pos}
end
section
variable{K:Frag}{H:Hp}{O:aG->Prop}{a:aG}{xs ys:List V}
end
section
variable(X:Cx)(E:XK)(C:aG)
def PSsAny(st:List Stmt):Prop:=∃t,PSs X st t
end
section
variable{E:XK}{C:aG}
def PSsv.any{st:List Stmt}{g:FS}(h:PSsv X st g):PSsAny X st:=let ⟨t,ht,_⟩:=h;⟨t,ht⟩
section
variable{k j n:Nat}{R:List D->Bool}{x:Str}{p pos:Pos}{e:Expr}{es:List Expr}{g:FA}
end
end
section
variable{E:XK}{C:aG}{t k j n:Nat}{R:List D->Bool}{x:Str}{p pos:Pos}{e:Expr}{es:List Expr}{g:FA}
end
structure RoomH(k:Nat)(A:eX):Prop where
 dp:A.depth+3*k+5<recursionLimit
 un:A.units+16*k+200<cLine
def RoomH.of{k:Nat}{A:eX}{v:Option aN}(r:Room k A):RoomH k (A.mark v):=⟨r.dp,r.un⟩
def RoomH.mono{j k:Nat}{A:eX}(r:RoomH k A)(h:j<=k):RoomH j A:=⟨by have:=r.dp;omega,by have:=r.un;omega⟩
theorem RoomH.depth{k:Nat}{A:eX}(r:RoomH k A):A.depth<recursionLimit:=by have:=r.dp;omega
section
variable{k j i:Nat}{F:Nat->Option Ret}{x en:Str}{p pe pos:Pos}
end
end FL
namespace L2
end L2
namespace FL
end FL
namespace L2
def Inv.drw{σ}(I:Inv X aC σ H s) d:Inv X aC σ H {s with drawn:=d}:=
 I.step (h':=s.heap) (H':=H) (g':=s.gens) (t':=s.toks) (d':=d) (ch:=[]) (λ_ z=>nomatch z) (λb o _ _ _ e _=>e) (λb o _ _ _ e _=>⟨o.slots,e⟩) (λ_ _ _ _ n=>n) (λb o _ e=>⟨o,e⟩)
  (λ_ _ e=>e) (λ_ _ _ e=>e) (λ_ _ e=>e) (λm hm=>hm) I.hok I.bare
theorem FJ:∀{us:List aN}{ns:List Int},eR us ns->Vals (ns.map V.int) us
 |_,_,.nil=>.nil
 |_,_,.cons n t h=>.cons ⟨t,rfl⟩ (FJ h)
def tSrtS(ta:TA)(K:aP):TE:=λσ H Q=>ta σ H λvs H1=>∃(p:aG) (ns:List Int),vs=[.ref p]/\SqL K H1 p (ns.map V.int)/\ns.length+1<4096/\∀l,H1 l=none->Q (.ref l) (upd H1 l (.lst ((FL.srtU ns).map V.int)))
def pe_srtS(hc:X.calm=true)(hgl:Gl X "sorted")(hml:X.mg "sorted" = none)(hg:Gl X "set")(hm:X.mg "set" = none)(ha:PA X [a] ta)(hl:aK [.Call (.Name "set" p2) [a] [] pos2] X.env=[(false,cI (.Call (.Name "set" p2) [a] [] pos2) X.env)]:=by rfl)(hs:aK [a] X.env=[(false,cI a X.env)]:=by rfl) :
  PE X (.Call (.Name "sorted" p) [.Call (.Name "set" p2) [a] [] pos2] [] pos) (tSrtS ta X.K):=by
 intro aC s σ H Q I h;refine fO (wX I hgl hml (show fG "sorted" = some (.builtin "sorted") by decide +kernel) ?_);refine iZ ?_ hl rfl;refine Calls.spliced_cons ?_;refine Call_ (wX I hg hm (show fG "set" = some (.type "set") by decide +kernel) (gE (thn (ha pos2 aC s σ H _ I h) λus s1 zq=>?_) hs rfl));obtain⟨vs,H1,I1,r1,q1⟩:=zq;obtain⟨l,ns,e,hq,hz0,q⟩:=q1;subst e;obtain⟨u,rfl,ru⟩:=vals1 r1;cases ru;obtain⟨its,rv,pl,hz⟩:=I1.list hq;have hi:=CP rv;have hil:=eR.length hi;refine TS.call_set (I.ok.hd hc) pl.isList (by simpa using hi) (by simp[bC];unfold iX;lia) λh' tk hS hk=>?_;have I2:Inv X aC σ H1 {s1 with heap:=h',toks:=tk}:=I1.kept hk;refine Calls.spliced_nil ?_;refine TS.sorted_set (I.ok.hd hc) hS (by simp[bC];rw[lD];lia) λh1 h2 d tk2 vs' ks e k1 k2 hL hI' hlt hm hle=>?_;have en:=FL.lt_unique _ _ (λk=>(hm k).trans (FL.mem_srtU k ns).symm) hlt (FL.srtU_lt ns);have I3:Inv X aC σ H1 {s1 with heap:=h1,drawn:=d,toks:=tk2}:=Inv.kept (I2.drw d) k1;refine⟨.ref h1.objs.size,_,Inv.laid I3 k2 (aM _) (show ObjOk X.prog X.w _ h2 _ (.lst ((FL.srtU ns).map V.int)) from ⟨?_,vs',e,?_,hL⟩),rfl,q _ (I3.hok.fresh (aM _))⟩
 . have h1:=eR.length hI';rw [<-en,cD];simp [bC]at hle;rw [lD]
   lia
 . rw[<-en];exact FJ hI'
end L2
namespace FL
theorem GF{K:Frag}:∀ns:List Int,Reps K H O (ns.map V.int) (ns.map D.int)
 |[]=>.nil
 |n::ns=>.cons (.int n) (GF ns)
def EM(hc:X.calm=true)(hml:X.mg "sorted" = none)(hm:X.mg "set" = none)(he:PVw X e f)(hgl:Gl X "sorted":=by rfl)(hg:Gl X "set":=by rfl)(hl:aK [.Call (.Name "set" p2) [e] [] pos2] X.env=[(false,cI (.Call (.Name "set" p2) [e] [] pos2) X.env)]:=by rfl)(hs:aK [e] X.env=[(false,cI e X.env)]:=by rfl) :
  PVf X (.Call (.Name "sorted" p) [.Call (.Name "set" p2) [e] [] pos2] [] pos) (srtSA f):=by
 obtain⟨te,pe,he⟩:=he;refine⟨_,pe_srtS hc hgl hml hg hm (jN pe yV hs) hl hs,λH₀ H O σ ds hd l Q o e q=>?_⟩;obtain⟨d,h1,e⟩:=bnd e;refine he H₀ H O σ ds hd _ _ o h1 λv H1 s1 r1=>?_;cases d<;>first|(cases e;done)|skip
 obtain⟨ns,hb,e⟩:=bnd e;split at e
 . rename_i hz;cases e;obtain ⟨a1,xs,rfl,hq,rs⟩:=r1.seqL;refine ⟨a1,ns,rfl,?_,hz,λp hp=>?_⟩
   . rw[<-CM rs hb];exact hq
   . exact q p _ _ (s1.trans (qM hp _)) (s1.free hp) zQ (GF _)
 . cases e
end FL
namespace L2
open HT in
def EN{lo hi:Option Int}(ht:IsTup s.heap t items)(hs:s.heap.IsSliceOf sl vl vu .none)(pl:sY vl lo)(pu:sY vu hi)(hw:sIx items.size 0 lo=0/\sIx items.size items.size hi=items.size)(h:Q (.ref t) s):bL (aZ prog w) A (oU (.ref t) (.ref sl)) Q E s:=by
 obtain⟨os,hos,hcs,hds⟩:=id hs;have hTs:s.TypeIs (.ref sl) "slice":=⟨os,hos,hcs⟩
 unfold oU
 try with_reducible refine dR ?_
 refine aA (wpAny_sequenceKey ht.typeIs (by decide) ?_)
 refine aA (pW ht.typeIs cY
  (fJ cY ht.typeIs entry_tuple_getitem ?_ (args_tuple_getitem _ _)))
 show bL _ _ (Builtin.Tuple.tupleItemsOf (.ref t) >>= _) _ _ s;refine aA (tupleItemsOf_ ht (aA (rG hTs ?_)));refine aA (nV hs pl pu ?_);show bL _ _ (if (((sIx items.size 0 lo:Nat):Int)==0&&(1:Int)==1&&(sIx items.size items.size hi-sIx items.size 0 lo)==items.size)=true then _ else _) _ _ s;rw[if_pos (by rw[hw.1,hw.2];simp)];refine aA ?_;refine aA (rG ht.typeIs (aJ ?_));exact aA (iP (aJ ⟨_,rfl,aJ h⟩))
def rSlW(K:aP):V->Option Int->Option Int->Hp->VK->Prop:=λx lo hi H Q=>∃a xs,x=.ref a/\SqT K H a xs ∧
 ((¬ (HT.sIx xs.length 0 lo=0/\HT.sIx xs.length xs.length hi=xs.length)/\∀ p,H p=none->Q (.ref p) (upd H p (.tup (cutV xs lo hi)))) ∨
   ((HT.sIx xs.length 0 lo=0/\HT.sIx xs.length xs.length hi=xs.length)/\Q (.ref a) H))
def sl_tupW:SlR X (rSlW X.K):=by
 intro aC s σ H x v vl vu lo hi sl Q I rx hs pl pu h;obtain⟨a,xs,rfl,hx,h⟩:=h;rcases h with⟨hw,q⟩|⟨hw,q⟩
 . exact sl_tup aC s σ H _ v vl vu lo hi sl Q I rx hs pl pu ⟨a,xs,rfl,hx,hw,q⟩
 . cases rx;obtain ⟨its,r,ht,hz⟩:=I.tuple hx;have hlen:its.toArray.size=xs.length:=by rw [bC];exact r.length.symm
   refine⟨"tuple",_,cY.lookup,ht.typeIs,?_⟩;exact EN ht hs pl pu (by rw[hlen];exact hw) ⟨.ref a,H,I,rfl,q⟩
end L2
namespace FL
def RI l a b(h:HT.sIx l.length 0 a=0/\HT.sIx l.length l.length b=l.length):cutD l a b=l:=by unfold cutD;rw[h.1,h.2];simp
def pv_sltw{lo hi:Option Expr}(he:PVw X e f)(hl:POv X lo gl)(hh:POv X hi gh):PV X (.Subscript e (.Slice lo hi none p2) pos) (sltW f gl gh):=by
 obtain⟨te,pe,he⟩:=he;obtain⟨tl,pl,hl⟩:=hl;obtain⟨th,ph,hh⟩:=hh;refine⟨_,LW sl_tupW pe pl ph,λH₀ H O σ ds hd d' Q o e q=>?_⟩;obtain⟨d,h1,e⟩:=bnd e;obtain⟨a,h2,e⟩:=bnd e;obtain⟨b,h3,e⟩:=bnd e;cases d<;>first|(cases e;done)|skip
 cases e;refine he H₀ H O σ ds hd _ _ o h1 λv H1 s1 r1=>?_;refine hl H₀ H1 O σ ds hd _ _ (o.mono s1) h2 λH2 s2=>?_;refine hh H₀ H2 O σ ds hd _ _ ((o.mono s1).mono s2) h3 λH3 s3=>?_;have rr:=(r1.mono s2).mono s3;obtain⟨a1,xs,rfl,hq,rs⟩:=rr.seqT;have ss:=(s1.trans s2).trans s3;refine⟨a1,xs,rfl,hq,?_⟩;by_cases hw:HT.sIx xs.length 0 a=0/\HT.sIx xs.length xs.length b=xs.length
 . refine .inr ⟨hw,?_⟩;rw [rs.length]at hw;rw [RI _ _ _ hw]at q;refine q _ _ ss ?_;rcases rr with rr|⟨_,_,_,_,e,_⟩
   . exact rr
   . cases e
 . refine .inl ⟨hw,λp hp=>?_⟩;refine q _ _ (ss.trans (qM hp _)) ?_;exact .tup (((o.mono ss).free hp)) (.inl zQ) ((NF rs).mono (qM hp _))
open PySem.W (tabIn CodeHd tabObj kla_eval kla_makeFunction kla_makeFunctionHit kla_obj kla_fn kla_callFunE kla_codeExpr FnAt callWith_F envX)
section
variable{aC:List (aG×Obj)}{σ:L2.St}{H H':Hp}{s s':bH}{cs:List aG}
end
section
variable{K:Frag}{H:Hp}{O:aG->Prop}{cs:List aG}
end
def LamAt.mono{H H':Hp}{O:aG->Prop}{f:aG}{t:LamT}{cl:List (Str×aG)}(k:Same H H')(h:LamAt H O f t cl):LamAt H' O f t cl:=h.keep (.of_same k)
open PySem.W (tabIn CodeHd tabObj kla_callFunE kla_codeExpr FnAt callWith_F envX)
section
variable{st:Stmt}
end
theorem ClosOk.get:∀{cl:List (Str×aG)}{xs:List V},ClosOk H O cl xs->∀{i:Nat}{v:V},xs[i]?=some v->∃p o u w,cl[i]?=some p/\H p.2=some (.frz o u)/\o.data=.cell (some w)/\RelV v w
 |_,_,.nil,_,_,h=>by cases h
 |_,_,.cons no h d r t,0,v,hv=>by cases hv;exact⟨_,_,_,_,rfl,h,d,r⟩
 |_,_,.cons no h d r t,i+1,v,hv=>t.get hv
theorem ClosOk.length:∀{cl:List (Str×aG)}{xs:List V},ClosOk H O cl xs->cl.length=xs.length
 |_,_,.nil=>rfl
 |_,_,.cons no h d r t=>by simp[t.length]
def text_lt{K:Frag}(h:OO K m n=some t):m≠1000:=by
 rintro rfl;have e:makers[1000]?=none:=by decide
 unfold OO at h;cases h
def FnIn(K:Frag)(j:Nat):Prop:=∃(f:aG) (oc:aN) (od:Option aG) (fd:bR) (osl:Array (Option aN)),aX K aV (tN j)=some (some (.ref f))/\K.lookup f=some ⟨oc,od,.func fd,osl⟩
structure FnV(K:Frag)(mg:Str->Option aN)(j:Nat):Prop where
 ex:∃f:aG,aX K aV (tN j)=some (some (.ref f))/\mg (tN j)=some (.ref f)
def pZ(P:cF)(w:dE)(K:Frag)(mg:Str->Option aN)(base:Heap)(k m n:Nat)(F:List D->List D->Option Ret):Prop:=∀(A:eX) (outer:List Env) (s:bH) (H:Hp) (f:aG) (caps:List D) (us:List aN) (vs:List V) (as:List D) (r:Ret) (Q:VK),Room k A->Env0 P w K mg base A outer s H →
 Rep K H yF (.ref f) (.clo m n caps)->Vals vs us->Reps K H yF vs as->F caps as=some r->(∀v H',Same H H'->RetOk K H H' v r->Q v H')->gO (aZ P w) A (.call (.ref f) ⟨us,[]⟩) (CR CX0 outer P w H s Q E0) s
structure CloOk(P:cF)(w:dE)(K:Frag)(mg:Str->Option aN)(base:Heap)(k:Nat)(Φ:Fun2):Prop where
 hold:∀(H:Hp) (h:Heap) (v:V) (d:D) (as:List D) (r:Ret),Rep K H yF v d->Φ d as=some r->L2.HOk P w H h->K.In h->∃f,v=.ref f/\FnAt f h
 run:∀(A:eX) (outer:List Env) (s:bH) (H:Hp) (f:aG) (d:D) (us:List aN) (vs:List V) (as:List D) (r:Ret) (Q:VK),Room k A->Env0 P w K mg base A outer s H->Rep K H yF (.ref f) d->Vals vs us->Reps K H yF vs as->Φ d as=some r->(∀v H',Same H H'->RetOk K H H' v r->Q v H') →
  gO (aZ P w) A (.call (.ref f) ⟨us,[]⟩) (CR CX0 outer P w H s Q E0) s
theorem kL{α β:Type}[BEq α][LawfulBEq α]:∀{l:List (α×β)}{x:α}{a:β},l.lookup x=some a->(x,a)∈l
 |[],_,_,h=>by cases h
 |(y,b)::r,x,a,h=>by
   rw[cH]at h;cases hx:x==y with
   |true=>rw[hx]at h;cases h;rw[beq_iff_eq.mp hx];exact aS
   |false=>rw[hx]at h;exact aL _ (kL h)
structure CalV(P:cF)(w:dE)(K:Frag)(mg:Str->Option aN)(base:Heap)(j k n:Nat)(F:List D->Option Ret):Prop where
 ex:∃(f:aG) (fd:bR) (ps:List Str) (oc:aN) (od:Option aG) (osl:Array (Option aN)),FnOk P w K mg base CX0 k f fd ps (spF K n F)/\Binds K fd ps []/\aX K aV (tN j)=some (some (.ref f))/\K.lookup f=some ⟨oc,od,.func fd,osl⟩
def CalV.fin{K:Frag}(C:CalV P w K mg base j k n F):FnIn K j:=by obtain⟨f,fd,ps,oc,od,osl,_,_,h1,h2⟩:=C.ex;exact⟨f,oc,od,fd,osl,h1,h2⟩
def fn_good{K:Frag}(C:CalV P w K mg base j k n F):pZ P w K mg base k 1000 j (fnF n F):=by
 intro A outer s H f caps us vs as r Q hr e0 hrep rv ra hF q;obtain⟨f',fd,ps,oc,od,osl,Fn,hb,h1,h2⟩:=C.ex;unfold fnF at hF;split at hF
 . rename_i hl;cases hrep with
   |clo tx la e nd hco rx=>exact absurd rfl (text_lt tx)
   |fnK h=>
     rw[h1]at h;cases h;have KX:=e0.mod.kin.keeps λb o e=>(e0.bs b o e).1;have sp:spF K n F vs H Q E0:=⟨ra.length.trans hl,as,r,ra,hF,q⟩
     have hul:us.length=ps.length:=by rw[<-rv.length];exact Fn.len _ _ _ _ sp
     have bd:=hb s us KX (by rw[dM];exact hul);rw[dM]at bd;exact Fn.run A outer s H ⟨us,[]⟩ us vs Q E0 hr e0 bd rv sp
 . cases hF
def clo_of{K:Frag}(h:∀p∈l,pZ P w K mg base k p.1.1 p.1.2 p.2)(hf:∀p∈l,p.1.1=1000->FnIn K p.1.2):CloOk P w K mg base k (phiOf l):=by
 refine⟨λH hp v d as r rep e ok kin=>?_,λA outer s H f d us vs as r Q hr e0 rep rv ra e q=>?_⟩
 . cases d with
   |clo m n caps=>
     cases rep with
     |clo tx la e nd hco rx=>obtain⟨_,o,oc,u,uc,fd,c,wsv,tq,h1,h2,h3,_⟩:=la;have ho:=(ok _ _ h1).1;obtain⟨a1,a2,a3,a4⟩:=o;cases h3;exact⟨_,rfl,_,_,_,_,ho⟩
     |fnK hk=>obtain⟨F,hF,e⟩:=bnd e;obtain⟨f',oc,od,fd,osl,h1,h2⟩:=hf _ (kL hF) rfl;rw[h1]at hk;cases hk;exact⟨_,rfl,_,_,_,_,kin _ _ h2⟩
   |_=>cases e
 . cases d with
   |clo m n caps=>obtain⟨F,hF,e⟩:=bnd e;exact h _ (kL hF) A outer s H f caps us vs as r Q hr e0 rep rv ra e q
   |_=>cases e
def pv_fn(V:FnV X.K X.mg j)(hx:tN j=x:=by rfl)(hg:Gl X x:=by rfl)(hdb:(x==("__debug__" : Str))=false:=by decide):PV X (.Name x pos) (zA (.clo 1000 j [])):=by obtain⟨f,h1,h2⟩:=V.ex;subst hx;refine⟨_,TV (v:=.ref f) hg h2 rfl hdb,λH₀ H O σ ds hd d Q o e q=>?_⟩;cases e;exact q _ H (Same.refl _) (.fnK h1)
def aBo(CO:CloOk X.prog X.w X.K X.mg X.base k Φ)(hr:Room j X.A)(ha:PAn X (e::es) g)(hj:k<=j:=by decide)(hN:X.N[i]?=some x:=by rfl)(hv:Vis X.env.scope x:=by first|exact Or.inl rfl|exact Or.inr (Or.inl rfl)|exact Or.inr (Or.inr rfl))(hdb:(x==("__debug__" : Str))=false:=by decide)(hcd:(x==("__classdict__" : Str))=false:=by decide)(he:aK (e::es) X.env=(false,cI e X.env)::aK es X.env:=by rfl)(hpl:(dS pos (aK es X.env)).any (·.1)=false:=by rfl):PV X (.Call (.Name x p) (e::es) [] pos) (callW Φ i g):=by
 obtain⟨t,ht,hf⟩:=ha;refine⟨λσ H Q=>∀aC s,Inv X aC σ H s->bL (aZ X.prog X.w) X.A (cI (.Call (.Name x p) (e::es) [] pos) X.env) (EP X aC σ Q) X.xe s,λaC s σ H Q I h=>h aC s I,λH₀ H O σ ds hd d Q o ee q aC s I=>?_⟩;obtain⟨fd,h1,ee⟩:=bnd ee;obtain⟨l,h2,ee⟩:=bnd ee;obtain⟨r,h3,ee⟩:=bnd ee;have hsl:ds[i]?=some (.v fd):=by
  unfold qB at h1;split at h1
  . rename_i d' hd';cases h1;exact hd'
  . cases h1
 obtain⟨v,hv1,rv⟩:=o.read hsl;refine fO (thn (xT hN hv hdb hcd aC s σ H (λv' H'=>v'=v/\H'=H) I ⟨v,hv1,rfl,rfl⟩) λu s1 zq=>?_);obtain⟨v',H',I1,ru,e1,e2⟩:=zq;subst e1 e2;have rv0:Rep X.K H' yF v' fd:=rv.less λ_ z=>z.elim;obtain⟨f,rfl,fa⟩:=CO.hold H' s1.heap v' fd l r rv0 h3 I1.hok I1.kIn;obtain rfl:u=aN.ref f:=ru;refine callWith_F fa (thn (ht pos aC s1 σ H' (λvs H1=>Same H' H1/\Reps X.K H1 yF vs l) I1 (hf H₀ H' O σ ds hd l _ o h2 λvs H1 a b=>⟨a,b⟩)) λus s2 zq=>?_) he hpl;obtain⟨vs,H2,I2,r2,sm,rvs⟩:=zq;obtain⟨f',e',fa2⟩:=CO.hold H2 s2.heap _ fd l r (rv0.mono sm) h3 I2.hok I2.kIn;cases e';refine⟨fa2,uZ (gX (CO.run X.A X.stack s2 H2 f fd us vs l r Q (hr.mono hj) I2.env0 (rv0.mono sm) r2 rvs h3 λv H3 a b=>q v H3 (sm.trans a) (IH b ee λa ha=>(o.mono sm).old ha)) λrr s' hq=>?_)⟩;cases rr with
 |error e=>exact hq.elim
 |ok fl=>
   cases fl with
   |ret u=>exact I2.after hq
   |next=>exact False.elim hq
   |brk=>exact False.elim hq
   |cont=>exact False.elim hq
open PySem.W (tabIn CodeHd tabObj makeFunction_K makeFunction_hit fnMade fnX nestDef_K kla_callFunE envX)
theorem pZ.mono{K:Frag}(h:pZ P w K mg base j m n F)(hj:j<=k):pZ P w K mg base k m n F:=
 λA outer s H f caps us vs as r Q hr=>h A outer s H f caps us vs as r Q (hr.mono hj)
section
variable{tg:Expr}
end
open PySem.W (tabIn CodeHd)
section
variable{E:XK}{C:aG}
end
section
variable{k j:Nat}{n:Nat}{F:List D->Option Ret}{x:Str}{p pos:Pos}{e:Expr}{es:List Expr}{g:FA}
end
section
variable{E:XK}{C:aG}
end
section
variable{E:XK}{C:aG}
end
end FL
namespace L2
end L2
namespace FL
section
variable{E:XK}{C:aG}
end
end FL
namespace L2
open Builtin Builtin.Str
end L2
namespace FL
section
variable{id:String}
theorem GD{K:Frag}:∀(l:List Str),Reps K H O (l.map V.str) (l.map D.str)
 |[]=>.nil
 |a::l=>.cons (.str a) (GD l)
end
section
variable{E:XK}{C:aG}
section
variable{x:Str}{p pos:Pos}{e:Expr}{t k j:Nat}{G:List D->Option (List D)}{y:List Sl->Bool}
end
end
end FL
namespace L2
section
variable{prog:cF}{w:dE}{A:eX}{E:aN->bH->Prop}{s:bH}
end
section
variable{pos:Pos}
end
end L2
namespace FL
section
variable{K:Frag}{H H' H₀:Hp}{O O':aG->Prop}
abbrev orL(fs:List aG)(O:aG->Prop):aG->Prop:=λb=>b∈fs\/O b
theorem Rep.moreL:∀{ps:List aG},(∀p∈ps,H p=none)->Rep K H O v d->Rep K H (orL ps O) v d
 |[],_,h=>h.less λa z=>z.elim (λq=>nomatch q) id
 |p::ps,hp,h=>((Rep.moreL (ps:=ps) (λq hq=>hp q (.tail _ hq)) h).more (p:=p) (hp p (.head _))).less λa z=>z.elim (λq=>(aB.mp q).elim .inl λq=>.inr (.inl q)) λq=>.inr (.inr q)
theorem Reps.moreL:∀{ps:List aG},(∀p∈ps,H p=none)->Reps K H O v d->Reps K H (orL ps O) v d
 |[],_,h=>h.less λa z=>z.elim (λq=>nomatch q) id
 |p::ps,hp,h=>((Reps.moreL (ps:=ps) (λq hq=>hp q (.tail _ hq)) h).more (p:=p) (hp p (.head _))).less λa z=>z.elim (λq=>(aB.mp q).elim .inl λq=>.inr (.inl q)) λq=>.inr (.inr q)
theorem RepO.moreL:∀{ps:List aG},(∀p∈ps,H p=none)->RepO K H O v t fs->RepO K H (orL ps O) v t fs
 |[],_,h=>h.less (λa z=>z.elim (λq=>nomatch q) id) λb hb=>.inr (h.owns b hb).1
 |p::ps,hp,h=>((RepO.moreL (ps:=ps) (λq hq=>hp q (.tail _ hq)) h).more (p:=p) (hp p (.head _))).less (λa z=>z.elim (λq=>(aB.mp q).elim .inl λq=>.inr (.inl q)) λq=>.inr (.inr q)) λb hb=>.inr (h.owns b hb).1
theorem Ok.moreL(o:Ok K H₀ H O σ ds hd)(s:Same H H')(hn:∀b∈fs,H b=none)(hl:∀b∈fs,∃u:MutHO,H' b=some u.1):Ok K H₀ H' (orL fs O) σ ds hd:=by
 refine⟨o.same.trans s,o.fresh,λb hb=>hb.elim (hl b) λz=>let ⟨xs,e⟩:=o.dom b z;⟨xs,s _ _ e⟩,o.len,λi sl e=>?_,o.apart,λp hp=>?_,o.obs.tr (λ_ _ _ r _=>(r.moreL hn).mono s) (λ_ _ _ e=>⟨e,rfl⟩) λ_ _ oj ej=>.inl ⟨oj,ej⟩⟩
 . cases sl with
   |no=>exact jI
   |ob r t=>exact yL
   |exc t=>obtain⟨a',C',ob',u',q1,q2,q3,q4⟩:=o.readX e;rw[q1];exact⟨C',ob',u',q2,s _ _ q3,q4⟩
   |fr l'=>obtain⟨a',xs',q1,q2,q0,q3,q4⟩:=o.readF e;rw[q1];exact⟨λz=>z.elim (λz=>by rw[hn _ z]at q3;cases q3) q2,q0,xs',s _ _ q3,(q4.moreL hn).mono s⟩
   |v d=>obtain⟨v,h1,h2⟩:=o.read e;rw[h1];exact yH ((h2.moreL hn).mono s)
   |own l'=>obtain⟨b,ys,h1,h2,h3,h4⟩:=o.readO e;rw[h1];exact⟨.inr h2,ys,s _ _ h3,(h4.moreL hn).mono s⟩
 . have:=o.hold p hp;cases p with
   |rep v d=>exact(Rep.moreL hn this).mono s
   |base B=>exact λb hb=>⟨.inr (this b hb).1,(this b hb).2⟩
   |root k a=>exact True.intro
   |fz a' o' kvs' l'=>exact⟨λz=>z.elim (λz=>by have:=this.2.1;rw[hn _ z]at this;cases this) this.1,s _ _ this.2.1,(Reps.moreL hn this.2.2).mono s⟩
def Ok.setOb(o:Ok K H₀ H O σ ds hd)(s:Same H H')(r:RepO K H' (orL fs O) v t fs)(nd:fs.Nodup)(hn:∀b∈fs,H b=none) :
  Ok K H₀ H' (orL fs O) (σ.set i (some v)) (ds.set i (.ob none t)) hd:=by
 have o1:=o.moreL s hn λb hb=>(r.owns b hb).2;have own':∀{j:Nat},IsOwn (ds.set i (.ob none t)) j->IsOwn ds j/\j≠i:=λh=>wD (λl=>by intro z;cases z) h;refine⟨o1.same,λj l a e1 e2=>?_,o1.dom,by simpa using o1.len,λj sl e=>?_,λj k a hjk hj hk e1 e2=>?_,o1.hold,?_⟩
 . obtain⟨⟨l',e'⟩,n1⟩:=own' ⟨l,e1⟩;rw[aE (Ne.symm n1)]at e2;exact o1.fresh j l' a e' e2
 . by_cases hj:j=i
   . subst hj;by_cases hl:j<ds.length
     . rw[bB hl]at e;cases e;exact yL
     . rw[aY (by simpa using hl)]at e;cases e
   . rw[aE (Ne.symm hj)]at e;rw[aE (Ne.symm hj)];exact o1.sl j sl e
 . obtain⟨h1,n1⟩:=own' hj;obtain⟨h2,n2⟩:=own' hk;rw[aE (Ne.symm n1)]at e1;rw[aE (Ne.symm n2)]at e2;exact o1.apart j k a hjk h1 h2 e1 e2
 . obtain ⟨F,hF⟩:=o.obs;have ne:∀{j:Nat}{r':Option Nat}{t':OT},ds[j]?=some (.ob r' t')->∀b∈F j,b∉fs:=λ{j r' t'} e b hb z=>by obtain⟨w,_,q,_⟩:=hF j r' t' e;obtain⟨_,xs,ex⟩:=q.owns b hb;rw[hn b z]at ex;cases ex
   refine⟨λj=>if j=i then fs else F j,λj r' t' e=>?_⟩;by_cases hj:j=i
   . subst hj;by_cases hl:j<ds.length
     . rw [bB hl]at e;cases e;refine ⟨v,by rw [bB (by rw [o.len];exact hl)],by simpa using r,(λk a z=>by cases z),by simpa using nd,λb hb=>?_⟩;have hb:b∈fs:=by simpa using hb
       refine⟨o.same.free (hn b hb),λk r2 t2 hk e2 z=>?_,λk ok ek=>?_⟩
       . simp[hk,if_false]at z;rw[aE (Ne.symm hk)]at e2;exact ne e2 b z hb
       . obtain⟨⟨l2,e2⟩,hk⟩:=own' ok;rw[aE (Ne.symm hk)]at ek;obtain⟨b',ys,q1,_,q3,_⟩:=o.readO e2;rw[ek]at q1;cases q1;rw[hn b hb]at q3;cases q3
     . rw[aY (by simpa using hl)]at e;cases e
   . rw [aE (Ne.symm hj)]at e;obtain ⟨w,h1,h2,h3,h4,h5⟩:=hF j r' t' e;refine ⟨w,by rw [aE (Ne.symm hj)];exact h1,by simp [hj,if_false];exact (h2.moreL hn).mono s,h3,by simpa [hj]using h4,λb hb=>?_⟩;have hb:b∈F j:=by simpa [hj]using hb
     refine⟨(h5 b hb).1,λk r2 t2 hk e2 z=>?_,λk ok ek=>?_⟩
     . by_cases hki:k=i
       . simp[hki,if_true]at z;exact ne e b hb z
       . simp[hki,if_false]at z;rw[aE (Ne.symm hki)]at e2;exact(h5 b hb).2.1 k r2 t2 hk e2 z
     . obtain⟨ok',hk⟩:=own' ok;rw[aE (Ne.symm hk)]at ek;exact(h5 b hb).2.2 k ok' ek
inductive Kid(H:Hp)(b:aG):List V->Prop
 |tup {xs:List V} (h:Rd H b (.tup xs)):Kid H b xs
 |lst {xs:List V} (h:H b=some (.lst xs)):Kid H b xs
 |dct {kvs:List (Key×V)} (h:H b=some (.dK kvs)):Kid H b (kvs.map (·.2))
 |ins {C dx:aG}{kvs:List (Str×V)} (h:H b=some (.ins C dx kvs)):Kid H b (kvs.map (·.2))
noncomputable def PathV(H:Hp):V->List Nat->V->Prop
 |v,[],w=>w=v
 |v,k::p,w=>∃b xs x,v=.ref b/\Kid H b xs/\xs[k]?=some x/\PathV H x p w
def Kid.det(h:Kid H b xs)(g:Kid H b ys):xs=ys:=by
 have rd:∀{zs ws:List V},Rd H b (.tup zs)->Rd H b (.tup ws)->zs=ws:=λh g=>by rcases h with h|⟨o,h⟩<;>rcases g with g|⟨o',g⟩<;>rw[h]at g<;>cases g<;>rfl
 have no:∀{zs:List V}{u:HO},Rd H b (.tup zs)->H b=some u->(∀ws,u≠.tup ws)->(∀o w,u≠.frz o w)->False:=λh g n1 n2=>by
  rcases h with h|⟨o,h⟩<;>rw[h]at g<;>cases g
  . exact n1 _ rfl
  . exact n2 _ _ rfl
 cases h with
 |tup h=>cases g with
   |tup g=>exact rd h g
   |lst g=>exact(no h g (λ_ z=>by cases z) (λ_ _ z=>by cases z)).elim
   |dct g=>exact(no h g (λ_ z=>by cases z) (λ_ _ z=>by cases z)).elim
   |ins g=>exact(no h g (λ_ z=>by cases z) (λ_ _ z=>by cases z)).elim
 |lst h=>cases g with
   |tup g=>exact(no g h (λ_ z=>by cases z) (λ_ _ z=>by cases z)).elim
   |lst g=>rw[h]at g;cases g;rfl
   |dct g=>rw[h]at g;cases g
   |ins g=>rw[h]at g;cases g
 |dct h=>cases g with
   |tup g=>exact(no g h (λ_ z=>by cases z) (λ_ _ z=>by cases z)).elim
   |lst g=>rw[h]at g;cases g
   |dct g=>rw[h]at g;cases g;rfl
   |ins g=>rw[h]at g;cases g
 |ins h=>cases g with
   |tup g=>exact(no g h (λ_ z=>by cases z) (λ_ _ z=>by cases z)).elim
   |lst g=>rw[h]at g;cases g
   |dct g=>rw[h]at g;cases g
   |ins g=>rw[h]at g;cases g;rfl
theorem yZ:∀{p:List Nat}{v x y:V},PathV H v p x->PathV H v p y->x=y
 |[],v,x,y,h,g=>h.trans g.symm
 |k::p,v,x,y,⟨b,xs,z,h1,h2,h3,h4⟩,⟨b',xs',z',g1,g2,g3,g4⟩=>by rw[h1]at g1;cases g1;cases h2.det g2;rw[h3]at g3;cases g3;exact yZ h4 g4
theorem GR:∀{p:List Nat}{k:Nat}{v x:V}{b:aG}{xs:List V},PathV H v p (.ref b)->Kid H b xs->xs[k]?=some x->PathV H v (p++[k]) x
 |[],k,v,x,b,xs,h,hk,hx=>⟨b,xs,x,h.symm,hk,hx,rfl⟩
 |j::p,k,v,x,b,xs,⟨c,ys,y,h1,h2,h3,h4⟩,hk,hx=>⟨c,ys,y,h1,h2,h3,GR h4 hk hx⟩
theorem wE:∀p k t,subO (p++[k]) t=(subO p t).bind (subO [k])
 |[],k,t=>by simp[subO]
 |j::p,k,t=>by
   cases t with
   |val d=>simp[subO]
   |lst l=>simp only[dD,subO];cases l[j]?<;>simp[wE p k]
   |tup l=>simp only[dD,subO];cases l[j]?<;>simp[wE p k]
   |dct ks l=>simp only[dD,subO];cases l[j]?<;>simp[wE p k]
   |ins c l=>simp only[dD,subO];cases l[j]?<;>simp[wE p k]
theorem RepsO.length:∀{xs:List V}{ts:List OT}{fs:List aG},RepsO K H O xs ts fs->xs.length=ts.length
 |_,_,_,.nil=>rfl
 |_,_,_,.cons _ r=>by simp[RepsO.length r]
theorem RepsO.pick:∀{xs:List V}{ts:List OT}{fs:List aG}{k:Nat}{t:OT},RepsO K H O xs ts fs->ts[k]?=some t->∃x pre f post,xs[k]?=some x/\fs=pre++(f++post)/\RepO K H O x t f ∧
  ∀{H':Hp}{O':aG->Prop}{g:OT->OT}{f':List aG},RepO K H' O' x (g t) f'->(∀y s e,RepO K H O y s e->(∀b∈e,b∈pre\/b∈post)->RepO K H' O' y s e)->RepsO K H' O' xs (ts.modify k g) (pre++(f'++post))
 |_,_,_,0,t,.cons (x:=x) (fs:=f) (gs:=gs) h r,e=>by
   simp only[fB,Option.some.injEq]at e;subst e;refine⟨x,[],f,gs,rfl,rfl,h,λ{H' O' g f'} h' ho=>?_⟩;have:∀{xs:List V}{ts:List OT}{gs':List aG},RepsO K H O xs ts gs'->(∀b∈gs',b∈gs)->RepsO K H' O' xs ts gs':=by
    intro xs ts gs' h;induction xs generalizing ts gs' with
    |nil=>intro _;cases h;exact .nil
    |cons y ys ih=>
      intro hb;cases h with
      |cons h1 h2=>exact .cons (ho _ _ _ h1 λb z=>.inr (hb b (bA _ z))) (ih h2 λb z=>hb b (aI _ z))
   show RepsO K H' O' _ _ (f'++gs);exact .cons h' (this r λ_ z=>z)
 |_,_,_,k+1,t,.cons (x:=x) (t:=t0) (fs:=f0) (gs:=gs) h r,e=>by obtain⟨y,pre,f,post,h1,h2,h3,h4⟩:=RepsO.pick (k:=k) (t:=t) r (by simpa using e);refine⟨y,f0++pre,f,post,by simpa using h1,by rw[h2];simp,h3,λ{H' O' g f'} h' ho=>?_⟩;have q:=h4 h' λz s e' hz hb=>ho z s e' hz λb hb'=>(hb b hb').elim (λz=>.inl (aI _ z)) .inr;have:=RepsO.cons (ho _ _ _ h λb hb=>.inl (bA _ hb)) q;simpa[bK]using this
def WZ(nd:(pre++(f++post)).Nodup):f.Nodup/\(∀b∈f,b∉pre/\b∉post)/\∀(f':List aG),f'.Nodup->(∀b∈f',b∈f\/(b∉pre/\b∉post))->(pre++(f'++post)).Nodup:=by
 rw[cJ]at nd;obtain⟨n1,n2,n3⟩:=nd;rw[cJ]at n2;obtain⟨n4,n5,n6⟩:=n2;have ap:∀b∈f,b∉pre/\b∉post:=λb hb=>⟨λz=>n3 b z b (bA _ hb) rfl,λz=>n6 b hb b z rfl⟩
 refine⟨n4,ap,λf' hf hs=>?_⟩;have ap':=λb hb=>(hs b hb).elim (ap b) id;rw[cJ];refine⟨n1,?_,λa ha b hb e=>?_⟩
 . rw[cJ];exact⟨hf,n5,λa ha b hb e=>(ap' a ha).2 (e▸hb)⟩
 . rcases bE.mp hb with z|z
   . exact(ap' b z).1 (e▸ha)
   . exact n3 a ha b (aI _ z) e
structure Chg(H H':Hp)(O O':aG->Prop)(f:List aG)(f':List aG):Prop where
 keep:∀b u,¬O b->H b=some u->H' b=some u
 rest:∀b u,O b->b∉f->H b=some u->H' b=some u
 sub:∀b,O b->b∉f->O' b
 new:∀b,O' b->O b\/(b∈f'/\H b=none)
 fp:∀b∈f',b∈f\/H b=none
def Chg.rep(c:Chg H H' O O' f f')(r:Rep K H O v d):Rep K H' O' v d:=by
 have hn:∀p∈f'.filter (λb=>(H b).isNone),H p=none:=λp hp=>by simpa using(fC.mp hp).2
 have r1:=(r.moreL hn).keep λb u hb e=>c.keep b u (λz=>hb (.inr z)) e;exact r1.less λa z=>(c.new a z).elim .inr λq=>.inl (fC.mpr ⟨q.1,by rw[q.2];rfl⟩)
def Chg.reps(c:Chg H H' O O' f f')(r:Reps K H O v d):Reps K H' O' v d:=by
 have hn:∀p∈f'.filter (λb=>(H b).isNone),H p=none:=λp hp=>by simpa using(fC.mp hp).2
 have r1:=(r.moreL hn).keep λb u hb e=>c.keep b u (λz=>hb (.inr z)) e;exact r1.less λa z=>(c.new a z).elim .inr λq=>.inl (fC.mpr ⟨q.1,by rw[q.2];rfl⟩)
def Chg.repO(c:Chg H H' O O' f f')(r:RepO K H O v t e)(he:∀b∈e,b∉f):RepO K H' O' v t e:=by
 have hn:∀p∈f'.filter (λb=>(H b).isNone),H p=none:=λp hp=>by simpa using(fC.mp hp).2
 have r1:=(r.moreL hn).keep (λb u hb e=>c.keep b u (λz=>hb (.inr z)) e) λb hb u eb=>c.rest b u (r.owns b hb).1 (he b hb) eb;exact r1.less (λa z=>(c.new a z).elim .inr λq=>.inl (fC.mpr ⟨q.1,by rw[q.2];rfl⟩)) λb hb=>c.sub b (r.owns b hb).1 (he b hb)
theorem RepO.modAt:∀p {v:V}{t u:OT}{fs:List aG},RepO K H O v t fs->fs.Nodup->subO p t=some u->∃w f,PathV H v p w/\RepO K H O w u f/\f.Nodup/\(∀b∈f,b∈fs) ∧
  ∀{H':Hp}{O':aG->Prop}{u':OT}{f':List aG},Chg H H' O O' f f'->RepO K H' O' w u' f'->f'.Nodup->∃fs',RepO K H' O' v (putO u' p t) fs'/\fs'.Nodup/\(∀b∈fs',b∈fs\/b∈f')/\∀b∈f',b∈fs'
 |[],v,t,u,fs,r,nd,e=>by cases e;exact⟨v,fs,rfl,r,nd,λ_ h=>h,λ{H' O' u' f'} c r' nd'=>⟨f',r',nd',λb hb=>.inr hb,λb hb=>hb⟩⟩
 |k::p,v,t,u,fs,r,nd,e=>by
   have core:∀{xs:List V}{ts:List OT}{gs:List aG},RepsO K H O xs ts gs->gs.Nodup->(ts[k]?).bind (subO p)=some u->∃x w f,xs[k]?=some x/\PathV H x p w/\RepO K H O w u f/\f.Nodup/\(∀b∈f,b∈gs) ∧
     ∀{H':Hp}{O':aG->Prop}{u':OT}{f':List aG},Chg H H' O O' f f'->RepO K H' O' w u' f'->f'.Nodup->∃gs',RepsO K H' O' xs (ts.modify k (putO u' p)) gs'/\gs'.Nodup/\(∀b∈gs',b∈gs\/b∈f')/\∀b∈f',b∈gs':=by
    intro xs ts gs rs nds es;obtain⟨t1,ht,es⟩:=bnd es;obtain⟨x,pre,f0,post,h1,rfl,h3,h4⟩:=rs.pick ht;obtain⟨nf,nfr,nre⟩:=WZ nds;obtain⟨w,f,g1,g2,g3,g4,g5⟩:=RepO.modAt p h3 nf es;have inn:∀b∈f,b∈pre++(f0++post):=λb hb=>aI _ (bA _ (g4 b hb));refine⟨x,w,f,h1,g1,g2,g3,inn,λ{H' O' u' f'} c r' nd'=>?_⟩;obtain⟨f1,q1,q2,q3,q4⟩:=g5 c r' nd';have old:∀b,b∈pre++(f0++post)->H b≠none:=λb hb z=>by obtain⟨_,y,ey⟩:=rs.owns b hb;rw[z]at ey;cases ey
    refine⟨pre++(f1++post),h4 (g:=putO u' p) q1 λy s e hy hb=>c.repO hy λb hb' z=>?_,nre f1 q2 λb hb=>?_,λb hb=>?_,λb hb=>aI _ (bA _ (q4 b hb))⟩
    . exact(hb b hb').elim (nfr b (g4 b z)).1 (nfr b (g4 b z)).2
    . rcases q3 b hb with z|z
      . exact .inl z
      . rcases c.fp b z with y|y
        . exact .inl (g4 b y)
        . exact .inr ⟨λq=>old b (bA _ q) y,λq=>old b (aI _ (aI _ q)) y⟩
    . rcases bE.mp hb with z|z
      . exact .inl (bA _ z)
      . rcases bE.mp z with z|z
        . exact(q3 b z).imp (λz=>aI _ (bA _ z)) id
        . exact .inl (aI _ (aI _ z))
   have head:∀{a0:aG}{gs gs' f f':List aG}{H':Hp}{O':aG->Prop},(a0::gs).Nodup->O a0->H a0≠none->Chg H H' O O' f f'->gs'.Nodup->(∀b∈gs',b∈gs\/b∈f')->(∀b∈f,b∈gs)->(a0::gs').Nodup/\(∀b∈a0::gs',b∈a0::gs\/b∈f')/\a0∉f:=by
    intro a0 gs gs' f f' H' O' nd0 oa ha c ndg hg hf;obtain⟨n0,_⟩:=bM.mp nd0;refine⟨bM.mpr ⟨λz=>?_,ndg⟩,λb hb=>?_,λz=>n0 (hf a0 z)⟩
    . rcases hg a0 z with y|y
      . exact n0 y
      . exact(c.fp a0 y).elim (λq=>n0 (hf a0 q)) ha
    . rcases aB.mp hb with rfl|z
      . exact .inl (.head _)
      . exact(hg b z).imp (λy=>.tail _ y) id
   cases r with
   |val r=>simp[subO]at e
   |tup n h r=>obtain⟨x,w,f,h1,g1,g2,g3,g4,g5⟩:=core r nd e;refine⟨w,f,⟨_,_,x,rfl,.tup h,h1,g1⟩,g2,g3,g4,λ{H' O' u' f'} c r' nd'=>?_⟩;obtain⟨gs',q1,q2,q3,q4⟩:=g5 c r' nd';refine⟨gs',?_,q2,q3,q4⟩;have kk:Keep O H H':=λb u hb eb=>c.keep b u hb eb;exact .tup (λz=>(c.new _ z).elim n λq=>Rd.some h q.2) (kk.rd n h) q1
   |lst n h r=>obtain⟨x,w,f,h1,g1,g2,g3,g4,g5⟩:=core r (bM.mp nd).2 e;refine⟨w,f,⟨_,_,x,rfl,.lst h,h1,g1⟩,g2,g3,λb hb=>.tail _ (g4 b hb),λ{H' O' u' f'} c r' nd'=>?_⟩;obtain⟨gs',q1,q2,q3,q4⟩:=g5 c r' nd';obtain⟨k1,k2,k3⟩:=head nd n (by rw[h];simp) c q2 q3 g4;exact⟨_::gs',.lst (c.sub _ n k3) (c.rest _ _ n k3 h) q1,k1,k2,λb hb=>.tail _ (q4 b hb)⟩
   |dct n h he r=>obtain⟨x,w,f,h1,g1,g2,g3,g4,g5⟩:=core r (bM.mp nd).2 e;refine⟨w,f,⟨_,_,x,rfl,.dct h,h1,g1⟩,g2,g3,λb hb=>.tail _ (g4 b hb),λ{H' O' u' f'} c r' nd'=>?_⟩;obtain⟨gs',q1,q2,q3,q4⟩:=g5 c r' nd';obtain⟨k1,k2,k3⟩:=head nd n (by rw[h];simp) c q2 q3 g4;exact⟨_::gs',.dct (c.sub _ n k3) (c.rest _ _ n k3 h) he q1,k1,k2,λb hb=>.tail _ (q4 b hb)⟩
   |ins hc n h he r=>obtain⟨x,w,f,h1,g1,g2,g3,g4,g5⟩:=core r (bM.mp nd).2 e;refine⟨w,f,⟨_,_,x,rfl,.ins h,h1,g1⟩,g2,g3,λb hb=>.tail _ (g4 b hb),λ{H' O' u' f'} c r' nd'=>?_⟩;obtain⟨gs',q1,q2,q3,q4⟩:=g5 c r' nd';obtain⟨k1,k2,k3⟩:=head nd n (by rw[h];simp) c q2 q3 g4;exact⟨_::gs',.ins hc (c.sub _ n k3) (c.rest _ _ n k3 h) he q1,k1,k2,λb hb=>.tail _ (q4 b hb)⟩
theorem Ok.modAt(o:Ok K H₀ H O σ ds hd)(e:ds[i]?=some (.ob r t))(hs:subO p t=some u) :
  ∃v w f,σ[i]?=some (some v)/\PathV H v p w/\RepO K H O w u f/\f.Nodup/\(∀b∈f,H₀ b=none) ∧
   ∀{H':Hp}{O':aG->Prop}{u':OT}{f':List aG},Chg H H' O O' f f'->(∀b∈f,O' b->∃y:MutHO,H' b=some y.1)->RepO K H' O' w u' f'->f'.Nodup->Ok K H₀ H' O' σ (ds.set i (.ob r (putO u' p t))) hd:=by
 obtain⟨F,hF⟩:=o.obs;obtain⟨v,h1,h2,h3,h4,h5⟩:=hF i r t e;obtain⟨w,f,g1,g2,g3,g4,g5⟩:=h2.modAt p h4 hs;have hl:i<ds.length:=(aW.mp e).1;refine⟨v,w,f,h1,g1,g2,g3,λb hb=>(h5 b (g4 b hb)).1,λ{H' O' u' f'} c hf r' nd'=>?_⟩;obtain⟨fs',q1,q2,q3,q4⟩:=g5 c r' nd';have own':∀{j:Nat},IsOwn (ds.set i (.ob r (putO u' p t))) j->IsOwn ds j/\j≠i:=λh=>wD (λl=>by intro z;cases z) h;have nown:∀{j:Nat}{b:aG},IsOwn ds j->σ[j]?=some (some (.ref b))->b∉f:=λ{j b} oj ej z=>(h5 b (g4 b z)).2.2 j oj ej;have free0:∀b,H b=none->H₀ b=none:=λb hb=>o.same.free hb;refine⟨λb x eb=>?_,λj l b e1 e2=>?_,λb hb=>?_,by simpa using o.len,λj sl es=>?_,λj m b hjm hj hm e1 e2=>o.apart j m b hjm (own' hj).1 (own' hm).1 e1 e2,λq hq=>?_,?_⟩
 . have hb:=o.same b x eb;by_cases ob:O b
   . by_cases bf:b∈f
     . rw[(h5 b (g4 b bf)).1]at eb;cases eb
     . exact c.rest b x ob bf hb
   . exact c.keep b x ob hb
 . obtain⟨⟨l',e'⟩,_⟩:=own' ⟨l,e1⟩;exact o.fresh j l' b e' e2
 . rcases c.new b hb with z|z
   . by_cases bf:b∈f
     . exact hf b bf hb
     . obtain⟨y,ey⟩:=o.dom b z;exact⟨y,c.rest b _ z bf ey⟩
   . exact(r'.owns b z.1).2
 . by_cases hj:j=i
   . subst hj;rw[bB hl]at es;cases es;exact yL
   . rw [aE (Ne.symm hj)]at es;cases sl with
     |no=>exact jI
     |ob r t=>exact yL
     |exc t=>obtain⟨a',C',ob',x',q1,q2,q3,q4⟩:=o.readX es;rw[q1];refine⟨C',ob',x',q2,c.keep _ _ (λz=>?_) q3,q4⟩;obtain⟨y,ey⟩:=o.dom _ z;rw[q3]at ey;have h2:=y.2;rw[<-Option.some.inj ey]at h2;cases h2
     |fr l'=>obtain⟨a',xs'',q1,q2,q0,q3,q4⟩:=o.readF es;rw[q1];exact⟨λz=>(c.new _ z).elim q2 (λy=>by rw[y.2]at q3;cases q3),q0,xs'',c.keep _ _ q2 q3,c.reps q4⟩
     |v d=>obtain⟨v,q1,q2⟩:=o.read es;rw[q1];exact yH (c.rep q2)
     |own l''=>obtain⟨b,ys,q1,q2,q3,q4⟩:=o.readO es;rw[q1];exact⟨c.sub _ q2 (nown ⟨l'',es⟩ q1),ys,c.rest _ _ q2 (nown ⟨l'',es⟩ q1) q3,c.reps q4⟩
 . have:=o.hold q hq;cases q with
   |rep v d=>exact c.rep this
   |base B=>exact λb hb=>⟨c.sub _ (this b hb).1 (λz=>(this b hb).2 (h5 b (g4 b z)).1),(this b hb).2⟩
   |root k a=>exact True.intro
   |fz a' o' kvs' l'=>exact⟨λz=>(c.new _ z).elim this.1 (λy=>by have z:=this.2.1;rw[y.2]at z;cases z),c.keep _ _ this.1 this.2.1,c.reps this.2.2⟩
 . refine ⟨λj=>if j=i then fs' else F j,λj r2 t2 ej=>?_⟩;have fsOld:∀ b∈fs',b∈F i\/H b=none:=λb hb=>(q3 b hb).elim .inl λz=>(c.fp b z).imp (g4 b) id;by_cases hj:j=i
   . subst hj;rw [bB hl]at ej;cases ej;refine ⟨v,h1,by simpa using q1,h3,by simpa using q2,λb hb=>?_⟩;have hb:b∈fs':=by simpa using hb
     rcases fsOld b hb with z|z
     . refine⟨(h5 b z).1,λm r3 t3 hm e3 y=>?_,λm om em=>(h5 b z).2.2 m (own' om).1 em⟩;simp only[hm,if_false]at y;rw[aE (Ne.symm hm)]at e3;exact(h5 b z).2.1 m r3 t3 hm e3 y
     . refine ⟨free0 b z,λm r3 t3 hm e3 y=>?_,λm om em=>?_⟩
       . simp only[hm,if_false]at y;rw[aE (Ne.symm hm)]at e3;obtain⟨_,_,w3,_⟩:=hF m r3 t3 e3;obtain⟨_,x3,ex3⟩:=w3.owns b y;rw[z]at ex3;cases ex3
       . obtain⟨⟨l3,e3⟩,_⟩:=own' om;obtain⟨b3,ys,y1,_,y3,_⟩:=o.readO e3;rw[em]at y1;cases y1;rw[z]at y3;cases y3
   . rw [aE (Ne.symm hj)]at ej;obtain ⟨w2,y1,y2,y3,y4,y5⟩:=hF j r2 t2 ej;have apart:∀ b∈F j,b ∉ f:=λb hb z=>(h5 b (g4 b z)).2.1 j r2 t2 hj ej hb;refine ⟨w2,y1,by simp only [hj,if_false];exact c.repO y2 apart,y3,by simpa [hj]using y4,λb hb=>?_⟩;have hb:b∈F j:=by simpa [hj]using hb
     refine⟨(y5 b hb).1,λm r3 t3 hm e3 z=>?_,λm om em=>(y5 b hb).2.2 m (own' om).1 em⟩;by_cases hmi:m=i
     . simp only [hmi,if_true]at z;rcases fsOld b z with x|x
       . exact(y5 b hb).2.1 i r t (λz=>hj z.symm) e x
       . obtain⟨_,x3,ex3⟩:=y2.owns b hb;rw[x]at ex3;cases ex3
     . simp only[hmi,if_false]at z;rw[aE (Ne.symm hmi)]at e3;exact(y5 b hb).2.1 m r3 t3 hm e3 z
end
section
variable(X:Cx)
def PVo(e:Expr)(f:FO):Prop:=∃t,PE X e t/\∀H₀ H O σ ds hd T Q,Ok X.K H₀ H O σ ds hd->f ds=some T->(∀v H' fs,Same H H'->RepO X.K H' (orL fs O) v T fs->fs.Nodup->(∀b∈fs,H b=none)->Q v H')->t σ H Q
def PAo(es:List Expr)(f:FOs):Prop:=∃t,PA X es t/\∀H₀ H O σ ds hd T Q,Ok X.K H₀ H O σ ds hd->f ds=some T->(∀vs H' fs,Same H H'->RepsO X.K H' (orL fs O) vs T fs->fs.Nodup->(∀b∈fs,H b=none)->Q vs H')->t σ H Q
def PVp(e:Expr)(f:FP):Prop:=∃t,PE X e t/\∀H₀ H O σ ds hd q Q,Ok X.K H₀ H O σ ds hd->f ds=some q->(∀r T v w fs,ds[q.1]?=some (.ob r T)->subO q.2.1 T=some q.2.2->σ[q.1]?=some (some v)->PathV H v q.2.1 w->RepO X.K H O w q.2.2 fs->Q w H)->t σ H Q
end
theorem BP{K:Frag}:∀{xs:List V}{l:List D},Reps K H O xs l->RepsO K H O xs (l.map OT.val) []
 |_,_,.nil=>.nil
 |_,_,.cons h t=>.cons (fs:=[]) (gs:=[]) (.val h) (BP t)
def pvo_v(h:PV X e f):PVo X e (vO f):=by obtain⟨t,ht,hf⟩:=h;refine⟨t,ht,λH₀ H O σ ds hd T Q o e q=>?_⟩;obtain⟨d,h1,rfl⟩:=mpd e;exact hf H₀ H O σ ds hd d Q o h1 λv H' s r=>q v H' [] s (.val (r.less λa z=>z.elim (λq=>nomatch q) id)) .nil (λb hb=>nomatch hb)
def SM(h:PVf X e f):PVo X e (lO f):=by
 obtain⟨t,ht,hf⟩:=h;refine⟨t,ht,λH₀ H O σ ds hd T Q o e q=>?_⟩;obtain⟨l,h1,rfl⟩:=mpd e;refine hf H₀ H O σ ds hd l Q o h1 λa xs H' s hn he r=>q (.ref a) H' [a] s ?_ (by simp) λb hb=>by rw[aO.mp hb];exact hn
 exact .lst (.inl (.head _)) he (BP (r.less λb z=>z.elim (λq=>.inl (aO.mp q)) .inr))
def IV:PAo X [] nilO:=⟨_,yV,λ_ H _ _ _ _ _ _ _ e q=>by cases e;exact q [] H [] (Same.refl _) .nil .nil (λb hb=>nomatch hb)⟩
def aCs(ha:PVo X e f)(hr:PAo X es g)(hs:aK (e::es) X.env=(false,cI e X.env)::aK es X.env:=by rfl):PAo X (e::es) (consO f g):=by
 obtain⟨t,ht,hf⟩:=ha;obtain⟨t2,ht2,hg⟩:=hr;refine⟨_,jN ht ht2 hs,λH₀ H O σ ds hd T Q o e q=>?_⟩;obtain⟨x,h1,e⟩:=bnd e;obtain⟨r,h2,rfl⟩:=mpd e;refine hf H₀ H O σ ds hd x _ o h1 λv H1 fs s1 r1 nd1 n1=>?_;refine hg H₀ H1 (orL fs O) σ ds hd r _ (o.moreL s1 n1 λb hb=>(r1.owns b hb).2) h2 λvs H2 gs s2 r2 nd2 n2=>?_;have eq:∀a,orL (fs++gs) O a->orL gs (orL fs O) a:=λa z=>z.elim (λz=>(bE.mp z).elim (λz=>.inr (.inl z)) .inl) λz=>.inr (.inr z);refine q _ H2 (fs++gs) (s1.trans s2) (.cons ?_ ?_) ?_ ?_
 . exact(((r1.moreL n2).mono s2).less eq λb hb=>.inl (bA _ hb))
 . exact r2.less eq λb hb=>.inl (aI _ hb)
 . rw[cJ];refine⟨nd1,nd2,λa ha b hb z=>?_⟩;obtain⟨_,xs,ex⟩:=r1.owns a ha;rw[z,n2 b hb]at ex;cases ex
 . intro b hb;rcases bE.mp hb with z|z
   . exact n1 b z
   . exact s1.free (n2 b z)
def aBj(h:PAo X es g):PVo X (.List es pos) (sO g):=by
 obtain⟨t,ht,hf⟩:=h;refine⟨_,aCm ht,λH₀ H O σ ds hd T Q o e q=>?_⟩;obtain⟨l,h1,e⟩:=bnd e;split at e
 . rename_i hl;cases e;refine hf H₀ H O σ ds hd l _ o h1 λvs H1 fs s1 r1 nd n1=>⟨by rw [r1.length];exact hl,λp hp=>?_⟩
   have r2:RepsO X.K (upd H1 p (.lst vs)) (orL (p::fs) O) vs l fs:=by have e1:∀a,orL (p::fs) O a->orL [p] (orL fs O) a:=λa z=>z.elim (λz=>(aB.mp z).elim (λz=>.inl (by rw[z];exact .head _)) λz=>.inr (.inl z)) λz=>.inr (.inr z);have mm:=r1.more hp;exact(mm.mono (qM hp _)).less (λa z=>(e1 a z).elim (λz=>.inl (aO.mp z)) .inr) λb hb=>.inl (.tail _ hb)
   refine q _ _ (p::fs) (s1.trans (qM hp _)) (.lst (.inl (.head _)) zQ r2) (bM.mpr ⟨λz=>?_,nd⟩) λb hb=>?_
   . obtain⟨_,xs,ex⟩:=r1.owns p z;rw[hp]at ex;cases ex
   . rcases aB.mp hb with z|z
     . rw[z];exact s1.free hp
     . exact n1 b z
 . cases e
def xW(hN:X.N.Nodup)(he:PVo X e f)(hi:X.N[i]?=some x:=by rfl)(hx:Loc X.env.scope x:=by first|exact Or.inl rfl|exact Or.inr rfl)(hs:eM e (some (.Name x pos')) pos.line X.env=pure false:=by rfl)(hf:X.fn x=true\/X.env.scope.names.lookup x=some .local:=by first|exact .inl rfl|exact .inr rfl):PSv X (.Assign [.Name x pos'] e pos) (setB i f):=by obtain⟨t,ht,hg⟩:=he;refine⟨_,IU hN hi hx ht hs hf,λH₀ H O σ ds hd out E o e h=>?_⟩;obtain⟨T,h1,rfl⟩:=mpd e;exact hg H₀ H O σ ds hd T _ o h1 λv H' fs s r nd n=>h _ _ _ (o.setOb s r nd n)
def SN i(hN:X.N[i]?=some x:=by rfl)(hv:Vis X.env.scope x:=by first|exact Or.inl rfl|exact Or.inr (Or.inl rfl)|exact Or.inr (Or.inr rfl))(hd:(x==("__debug__" : Str))=false:=by decide)(hcd:(x==("__classdict__" : Str))=false:=by decide):PVn X (.Name x pos) (getN i):=by
 refine⟨_,xT hN hv hd hcd,λH₀ H O σ ds hd d Q o e q=>?_⟩;unfold getN at e;cases hs:ds[i]? with
 |none=>rw[hs]at e;cases e
 |some s=>
   rw[hs]at e;cases s with
   |v d'=>cases e;obtain⟨v,h1,h2⟩:=o.read hs;exact⟨v,h1,q v H (Same.refl _) (h2.less λ_ z=>z.elim)⟩
   |no=>cases e
   |exc _=>cases e
   |fr _=>cases e
   |own l=>cases e;obtain⟨a,xs,h1,h2,h3,h4⟩:=o.readO hs;exact⟨.ref a,h1,q _ H (Same.refl _) (.lst (λz=>z) (.inl h3) (h4.less λ_ z=>z.elim))⟩
   |ob r t=>cases e;obtain⟨F,hF⟩:=o.obs;obtain⟨v,h1,h2,_⟩:=hF i r t hs;exact⟨v,h1,q v H (Same.refl _) h2.any⟩
def yE i(hN:X.N[i]?=some x:=by rfl)(hv:Vis X.env.scope x:=by first|exact Or.inl rfl|exact Or.inr (Or.inl rfl)|exact Or.inr (Or.inr rfl))(hd:(x==("__debug__" : Str))=false:=by decide)(hcd:(x==("__classdict__" : Str))=false:=by decide):PVp X (.Name x pos) (varP i):=by
 refine⟨_,xT hN hv hd hcd,λH₀ H O σ ds hd q Q o e h=>?_⟩;unfold varP at e;cases hs:ds[i]? with
 |none=>rw[hs]at e;cases e
 |some s=>
   rw[hs]at e;cases s with
   |ob r t=>cases e;obtain⟨F,hF⟩:=o.obs;obtain⟨v,h1,h2,_⟩:=hF i r t hs;exact⟨v,h1,h r t v v _ hs rfl h1 rfl h2⟩
   |_=>cases e
def RepsO.nth{K:Frag}{k:Nat}(h:RepsO K H O xs ts fs)(e:ts[k]?=some t):∃x f,xs[k]?=some x/\RepO K H O x t f:=by obtain⟨x,_,f,_,h1,_,h3,_⟩:=h.pick e;exact⟨x,f,h1,h3⟩
def Chg.ofUpd(oa:O a)(ha:a∈f)(hf:∀b∈f',b∈f):Chg H (upd H a y) O O f f':=
 ⟨λb u nb e=>by have z:b≠a:=λz=>nb (by rw[z];exact oa);rw[L2.upd_ne z];exact e,λb u _ nb e=>by have z:b≠a:=λz=>nb (by rw[z];exact ha);rw[L2.upd_ne z];exact e,λ_ z _=>z,λ_ z=>.inl z,λb hb=>.inl (hf b hb)⟩
def GG(C:Cal X.prog X.w X.K X.mg X.base x k n F)(hr:Room j X.A)(ha:PAn X (e::es) g)(hj:k<=j:=by decide)(hg:Gl X x:=by rfl)(hdb:(x==("__debug__" : Str))=false:=by decide)(he:aK (e::es) X.env=(false,cI e X.env)::aK es X.env:=by rfl)(hpl:(dS pos (aK es X.env)).any (·.1)=false:=by rfl) :
  PVo X (.Call (.Name x p) (e::es) [] pos) (callO n F g):=by
 obtain⟨f,fd,ps,Fn,hb,hk,hm⟩:=C.ex;obtain⟨t,ht,hf⟩:=ha;refine⟨_,AO Fn (hr.mono hj) hg hm hk hb .nil pass0 ht hdb he hpl,λH₀ H O σ ds hd T Q o e q=>?_⟩;obtain⟨l,h,e⟩:=bnd e;split at e
 . rename_i hln;obtain ⟨r,h2,e⟩:=bnd e;cases r with
   |any d'=>cases e
   |val _=>cases e
   |fresh _=>cases e
   |obj T'=>cases e;refine hf H₀ H O σ ds hd l _ o h λvs H1 s1 r1=>?_;have hl:=r1.length;refine⟨by simp[dM];lia,l,_,by simpa using r1,h2,λv H' s' ro=>?_⟩;obtain⟨fs,q1,q2,q3⟩:=ro;exact q v H' fs (s1.trans s') (q1.less (λa z=>z.elim .inl λz=>.inr ((o.mono s1).old z)) λb hb=>.inl hb) q2 λb hb=>s1.free (q3 b hb)
 . cases e
mutual
theorem RepO.flatten{K:Frag}{H:Hp}{O O':aG->Prop}(ho:∀a,O a->Old H a):∀{v:V}{t:OT}{fs:List aG},flatO t=true->RepO K H O' v t fs->(∀b∈fs,O b)->RepO K H O v t fs
 |_,_,_,f,.val r,_=>.val (Rep.flatten ho (by simpa[flatO]using f) r)
 |_,_,_,f,.lst n h r,hb=>.lst (hb _ (.head _)) h (RepsO.flatten ho (by simpa[flatO]using f) r λb z=>hb b (.tail _ z))
 |_,_,_,f,.dct n h e r,hb=>.dct (hb _ (.head _)) h e (RepsO.flatten ho (by simpa[flatO]using f) r λb z=>hb b (.tail _ z))
 |_,_,_,f,.ins c n h e r,hb=>.ins c (hb _ (.head _)) h e (RepsO.flatten ho (by simpa[flatO]using f) r λb z=>hb b (.tail _ z))
 |_,_,_,f,.tup (a:=a) n h r,hb=>.tup (λz=>by
    obtain⟨u,e,m⟩:=ho a z;rcases h with h|⟨o,h⟩
    . rw[e]at h;cases h;cases m
    . rw[e]at h;cases h;cases m) h (RepsO.flatten ho (by simpa[flatO]using f) r hb)
theorem RepsO.flatten{K:Frag}{H:Hp}{O O':aG->Prop}(ho:∀a,O a->Old H a):∀{v:List V}{t:List OT}{fs:List aG},mC t=true->RepsO K H O' v t fs->(∀b∈fs,O b)->RepsO K H O v t fs
 |_,_,_,_,.nil,_=>.nil
 |_,_,_,f,.cons h r,hb=>by simp only[mC,bV]at f;exact .cons (RepO.flatten ho f.1 h λb z=>hb b (bA _ z)) (RepsO.flatten ho f.2 r λb z=>hb b (aI _ z))
end
section
variable{K:Frag}
def Kid.mono(s:Same H H')(h:Kid H b xs):Kid H' b xs:=by
 cases h with
 |tup h=>exact .tup (Keep.rd (O:=yF) (.of_same s) (λz=>z) h)
 |lst h=>exact .lst (s _ _ h)
 |dct h=>exact .dct (s _ _ h)
 |ins h=>exact .ins (s _ _ h)
theorem yO(s:Same H H'):∀{p:List Nat}{v w:V},PathV H v p w->PathV H' v p w
 |[],_,_,h=>h
 |_::_,_,_,⟨b,xs,x,h1,h2,h3,h4⟩=>⟨b,xs,x,h1,h2.mono s,h3,yO s h4⟩
theorem RepsO.put:∀{xs:List V}{ts:List OT}{fs:List aG}{k:Nat}{t:OT},RepsO K H O xs ts fs->ts[k]?=some t->∃pre f post,fs=pre++(f++post) ∧
  ∀{H':Hp}{O':aG->Prop}{v:V}{T:OT}{f':List aG},RepO K H' O' v T f'->(∀y s e,RepO K H O y s e->(∀b∈e,b∈pre\/b∈post)->RepO K H' O' y s e)->RepsO K H' O' (xs.set k v) (ts.set k T) (pre++(f'++post))
 |_,_,_,0,t,.cons (x:=x) (fs:=f) (gs:=gs) h r,e=>by
   refine⟨[],f,gs,rfl,λ{H' O' v T f'} h' ho=>?_⟩;have:∀{xs:List V}{ts:List OT}{gs':List aG},RepsO K H O xs ts gs'->(∀b∈gs',b∈gs)->RepsO K H' O' xs ts gs':=by
    intro xs ts gs' h;induction xs generalizing ts gs' with
    |nil=>intro _;cases h;exact .nil
    |cons y ys ih=>
      intro hb;cases h with
      |cons h1 h2=>exact .cons (ho _ _ _ h1 λb z=>.inr (hb b (bA _ z))) (ih h2 λb z=>hb b (aI _ z))
   show RepsO K H' O' (v::_) (T::_) (f'++gs);exact .cons h' (this r λ_ z=>z)
 |_,_,_,k+1,t,.cons (x:=x) (t:=t0) (fs:=f0) (gs:=gs) h r,e=>by obtain⟨pre,f,post,h2,h4⟩:=RepsO.put (k:=k) (t:=t) r (by simpa using e);refine⟨f0++pre,f,post,by rw[h2];simp,λ{H' O' v T f'} h' ho=>?_⟩;have q:=h4 h' λz s e' hz hb=>ho z s e' hz λb hb'=>(hb b hb').elim (λz=>.inl (aI _ z)) .inr;have:=RepsO.cons (ho _ _ _ h λb hb=>.inl (bA _ hb)) q;simpa[bK]using this
end
def PH(hF:FldOk X.K n ix)(he:PVp X e f)(hb:fA e n X.env (cI e X.env)=cI e X.env:=by rfl):PVp X (.Attribute e n pos) (atP ix f):=by
 obtain⟨t,ht,hf⟩:=he;refine⟨_,aCo ht hb,λH₀ H O σ ds hd q Q o e h=>?_⟩;obtain⟨q0,h1,e⟩:=bnd e;refine hf H₀ H O σ ds hd q0 _ o h1 λr T v w fs g1 g2 g3 g4 g5=>?_;cases hu:q0.2.2 with
 |ins c l=>
   rw[hu]at e g5;obtain⟨k,hl,e⟩:=bnd e;obtain⟨u,hk,rfl⟩:=mpd e;cases g5 with
   |@ins a C dx _ kvs _ fs' hc n ha ek rs=>obtain⟨y1,y2,y3⟩:=hF c k hl;obtain⟨cl,na⟩:=y3 C hc;obtain⟨x,f2,z1,z2⟩:=rs.nth hk;refine⟨a,C,dx,kvs,x,rfl,ha,cl,na,wW (by rw[ek];exact y1) (by rw[ek];exact y2) z1,h r T v x f2 g1 ?_ g3 (GR g4 (.ins ha) z1) z2⟩;rw[wE,g2,hu];simp[subO,hk]
 |_=>rw[hu]at e;cases e
theorem RepsO.snoc{K:Frag}:∀{xs:List V}{ts:List OT}{fs:List aG}{v:V}{d:D},RepsO K H O xs ts fs->Rep K H O v d->RepsO K H O (xs++[v]) (ts++[.val d]) fs
 |_,_,_,_,_,.nil,r=>.cons (fs:=[]) (gs:=[]) (.val r) .nil
 |_,_,_,_,_,.cons h t,r=>.cons h (RepsO.snoc t r)
def Ok.putL{K:Frag}(o:Ok K H₀ H O σ ds hd)(e:ds[i]?=some (.ob r T))(hs:subO p T=some (.lst l))(hv:σ[i]?=some (some v))(hp:PathV H v p (.ref a))(h:∀xs fs,H a=some (.lst xs)->O a->RepsO K H O xs l fs->fs.Nodup->a∉fs->∃fs',(∀b∈fs',b∈fs)/\fs'.Nodup/\∀{H':Hp},Chg H H' O O [a] [a]->RepsO K H' O ys l' fs'):Ok K H₀ (upd H a (.lst ys)) O σ (ds.set i (.ob r (putO (.lst l') p T))) hd:=by
 obtain⟨v',w',f,y1,y2,y3,y4,y5,y6⟩:=o.modAt e hs;rw[hv]at y1;cases y1;cases yZ hp y2;cases y3 with
 |@lst _ xs _ fs n hb rs=>
   obtain⟨n3,n4⟩:=bM.mp y4;obtain⟨fs',w1,w2,w3⟩:=h xs fs hb n rs n4 n3;refine y6 (.ofUpd n (.head _) λb z=>(aB.mp z).elim (λz=>by rw[z];exact .head _) λz=>.tail _ (w1 b z)) (λb z _=>?_) (.lst n zQ (w3 (.ofUpd n (.head _) λ_ z=>z))) (bM.mpr ⟨λz=>n3 (w1 _ z),w2⟩);by_cases z':b=a
   . rw[z',zQ];exact⟨⟨.lst ys,rfl⟩,rfl⟩
   . rw [upd_ne z'];rcases aB.mp z with q'|q'
     . exact(z' q').elim
     . exact(rs.owns b q').2
theorem Chg.repsO{K:Frag}(c:Chg H H' O O' f f'):∀{v:List V}{t:List OT}{e:List aG},RepsO K H O v t e->(∀b∈e,b∉f)->RepsO K H' O' v t e
 |_,_,_,.nil,_=>.nil
 |_,_,_,.cons h r,he=>.cons (c.repO h λb z=>he b (bA _ z)) (Chg.repsO c r λb z=>he b (aI _ z))
def vG(ho:PVp X oe f)(he:PV X e fe)(hfew:((dS p3 (aK [e] X.env)).all (λx=>!x.1)&&(lQ p3 (gA [] X.env)).all (λx=>x.1.isSome)
    && decide ([e].length+([]:List oW).length+(if ([]:List oW).isEmpty then 0 else 1)<30))=true:=by rfl)(hline:(p2.endLine==p3.line)=true:=by rfl)(hs:aK [e] X.env=(false,cI e X.env)::aK [] X.env:=by rfl)(hbase:fA oe "append" X.env (cI oe X.env)=cI oe X.env:=by rfl)(hsw:eM (.Call (.Attribute oe "append" p2) [e] [] p3) none pos.line X.env=pure false:=by rfl) :
  PSv X (.Expr (.Call (.Attribute oe "append" p2) [e] [] p3) pos) (appP f fe):=by
 obtain⟨tp,hp,hf⟩:=ho;obtain⟨te,pe,he⟩:=he;refine⟨_,kB (TY nQ DZ DY GY hp (jN pe yV hs) hbase hfew hline hs rfl) hsw,λH₀ H O σ ds hd out E o e h=>?_⟩;obtain⟨q,h1,e⟩:=bnd e;obtain⟨d,h2,e⟩:=bnd e;refine hf H₀ H O σ ds hd q _ o h1 λr T v w fs g1 g2 g3 g4 g5=>?_;cases hq:q.2.2 with
 |lst l=>
   rw[hq]at e g2 g5;simp only at e;split at e
   . rename_i hl;cases e;cases g5 with
     |@lst a xs _ fs' n hb rs=>
       refine⟨.inl ⟨rfl,xs,SqL.of hb⟩,?_⟩;refine he H₀ H O σ ds hd d _ o h2 λv1 H1 s1 r1=>?_;refine⟨a,xs,v1,rfl,rfl,s1 _ _ hb,by rw[rs.length];exact hl,?_⟩;have ok:=(o.mono s1).putL g1 g2 g3 (yO s1 g4) λxs2 fs2 k1 k2 k3 k4 k5=>⟨fs2,λ_ z=>z,k4,λ{H'} c=>by
        rw[s1 _ _ hb]at k1;cases k1
        exact(c.repsO k3 λb z y=>k5 (aO.mp y▸z)).snoc (c.rep r1)⟩
       have e':putP q (.lst (l++[.val d])) ds=ds.set q.1 (.ob r (putO (.lst (l++[.val d])) q.2.1 T)):=by simp[putP,g1]
       rw[e']at h;exact h _ _ _ ok
   . cases e
 |_=>rw[hq]at e;cases e
section
variable{K:Frag}
def RepO.frz{v:V}{t:OT}{fs:List aG}(r:RepO K H O v t fs)(h:∀a,O' a->O a/\a∉fs):Rep K H O' v (otD t):=r.val' h
theorem Ok.frz{σ:L2.St}{ds:List Sl}{hd:Hold}{i:Nat}{r:Option Nat}{T:OT}(o:Ok K H₀ H O σ ds hd)(e:ds[i]?=some (.ob r T)):∃O',Ok K H₀ H O' σ (ds.set i (.v (otD T))) hd:=by
 obtain⟨F,hF⟩:=o.obs;obtain⟨v,h1,h2,h3,h4,h5⟩:=hF i r T e;have hl:i<ds.length:=(aW.mp e).1
 let O':aG->Prop:=λb=>O b/\b∉F i
 have sub:∀b,O' b->O b:=λb hb=>hb.1;have own':∀{j:Nat},IsOwn (ds.set i (.v (otD T))) j->IsOwn ds j/\j≠i:=λh=>wD (λl=>by intro z;cases z) h;refine⟨O',o.same,λj l' b e1 e2=>?_,λb hb=>o.dom b (sub b hb),by simpa using o.len,λj s es=>?_,λj m b hjm hj hm e1 e2=>o.apart j m b hjm (own' hj).1 (own' hm).1 e1 e2,λp hp=>?_,?_⟩
 . obtain⟨⟨l2,e2'⟩,_⟩:=own' ⟨l',e1⟩;exact o.fresh j l2 b e2' e2
 . by_cases hj:j=i
   . subst hj;rw[bB hl]at es;cases es;rw[h1];exact yH (h2.frz λa z=>z)
   . rw [aE (Ne.symm hj)]at es;cases s with
     |no=>exact jI
     |ob r t=>exact yL
     |exc t=>obtain⟨a',C',ob',u',q1,q2,q3,q4⟩:=o.readX es;rw[q1];exact⟨C',ob',u',q2,q3,q4⟩
     |fr l'=>obtain⟨a',xs',q1,q2,q0,q3,q4⟩:=o.readF es;rw[q1];exact⟨λz=>q2 (sub _ z),q0,xs',q3,q4.less sub⟩
     |v d=>obtain⟨v,q1,q2⟩:=o.read es;rw[q1];exact yH (q2.less sub)
     |own l'=>obtain⟨b,ys,q1,q2,q3,q4⟩:=o.readO es;rw[q1];exact⟨⟨q2,λz=>(h5 b z).2.2 j ⟨l',es⟩ q1⟩,ys,q3,q4.less sub⟩
 . have:=o.hold p hp;cases p with
   |rep v d=>exact Rep.less sub this
   |base B=>exact λb hb=>⟨⟨(this b hb).1,λz=>(this b hb).2 (h5 b z).1⟩,(this b hb).2⟩
   |root k a=>exact True.intro
   |fz a' o' kvs' l'=>exact⟨λz=>this.1 (sub _ z),this.2.1,Reps.less sub this.2.2⟩
 . refine⟨F,λj r' t' ej=>?_⟩;obtain⟨ej,hj⟩:=wA (λr t=>by intro z;cases z) ej;obtain⟨w,g1,g2,g3,g4,g5⟩:=hF j r' t' ej;refine⟨w,g1,g2.less sub λb hb=>⟨(g2.owns b hb).1,λz=>(h5 b z).2.1 j r' t' hj ej hb⟩,g3,g4,λb hb=>⟨(g5 b hb).1,λm r2 t2 hm em=>(g5 b hb).2.1 m r2 t2 hm (wA (λr t=>by intro z;cases z) em).1,λm om em=>(g5 b hb).2.2 m (own' om).1 em⟩⟩
end
noncomputable def spL(K:Frag)(n:Nat)(F:OT->List D->Option OT):Sp:=λvs H Q _=>∃(a:aG) (T T':OT) (fs:List aG) (B:aG->Prop) (vs':List V) (l:List D),vs=.ref a::vs'/\vs'.length=n/\RepO K H (orL fs B) (.ref a) T fs/\fs.Nodup ∧
 (∀b,B b->b∉fs/\∃u:MutHO,H b=some u.1)/\Reps K H (orL fs B) vs' l/\F T l=some T' ∧
 ∀H' fs',(∀b u,b∉fs->H b=some u->H' b=some u)->RepO K H' (orL fs' B) (.ref a) T' fs'->fs'.Nodup->(∀b∈fs',b∈fs\/H b=none)->Q .non H'
noncomputable def cutH(fs:List aG)(H:Hp):Hp:=λb=>if b∈fs then none else H b
def AS(h:b∈fs):cutH fs H b=none:=if_pos h
def xF(h:b∉fs):cutH fs H b=H b:=if_neg h
def HQ(h:cutH fs H b=none):b∈fs\/H b=none:=by
 by_cases z:b∈fs
 . exact .inl z
 . rw[xF z]at h;exact .inr h
def kI:¬IsOwn (argsL n T l) i:=λ⟨l',e⟩=>by
 unfold argsL at e;cases i with
 |zero=>cases e
 |succ i=>
   rw[dY]at e;unfold args at e;by_cases hi:i<l.length
   . rw [bW (by simpa using hi),bI]at e;cases h:l[i]? with
     |none=>rw[h]at e;cases e
     |some d=>rw[h]at e;cases e
   . rw [cL (by simpa using hi),dX]at e;split at e<;>cases e
def WX{K:Frag}(rt:RepO K H (orL fs B) (.ref a) T fs)(nd:fs.Nodup)(hB:∀b,B b->b∉fs/\∃u:MutHO,H b=some u.1)(r:Reps K H (orL fs B) vs l)(hN:0<N.length) :
  Ok K (cutH fs H) H (orL fs B) (L2.start N (.ref a::vs)) (argsL N.length T l) [.root 0 a,.base B]:=by
 have hl:=r.length;refine⟨λb u e=>?_,λi l' a' e _=>(kI ⟨l',e⟩).elim,λb hb=>hb.elim (λz=>(rt.owns b z).2) λz=>(hB b z).2,?_,λi s e=>?_,λi j a _ hi _ _ _=>(kI hi).elim,λp hp=>?_,?_⟩
 . by_cases z:b∈fs
   . rw[AS z]at e;cases e
   . rwa [xF z]at e
 . simp [L2.start,argsL,args,bX,cD,pM,aH,hl]
   lia
 . unfold argsL at e;cases i with
   |zero=>cases e;exact yL
   |succ i=>
     rw[dY]at e;have eσ:(L2.start N (.ref a::vs))[i+1]?=(vs.map some++List.replicate (N.length-(vs.length+1)) none)[i]?:=by simp[L2.start,aQ,dD,dY,aH]
     rw[eσ];unfold args at e;by_cases hi:i<l.length
     . rw[bW (by simpa using hi),bI]at e;rw[bW (by simpa[hl]using hi),bI];obtain⟨d,h,rfl⟩:=mpd e;obtain⟨v,h1,h2⟩:=r.get h;rw[h1];exact yH h2
     . rw [cL (by simpa using hi),dX]at e;split at e
       . cases e;exact jI
       . cases e
 . rcases aB.mp hp with rfl|hp
   . exact True.intro
   . cases aO.mp hp;refine λb hb=>⟨.inr hb,λz=>?_⟩
     obtain⟨n,u,e⟩:=hB b hb;rw[xF n,e]at z;cases z
 . refine ⟨λi=>if i=0 then fs else [],λi r' t' e=>?_⟩;cases i with
   |succ i=>unfold argsL at e;exact(VI _ _ _ _ _ e).elim
   |zero=>
     cases e;refine⟨.ref a,rfl,by simpa using rt,λk a' ek h=>?_,by simpa using nd,λb hb=>⟨AS (by simpa using hb),λj r2 t2 hj _=>by simp[hj],λj oj=>(kI oj).elim⟩⟩;rcases aB.mp h with h|h
     . cases h;rfl
     . cases aO.mp h
def aEk{K:Frag}{st:Stmt}(hok:∀sp,(∀vs H Q E,sp vs H Q E->vs.length=ps.length)->(∀cdv A outer s H vs Q E,Room k (A.deeper (nH qual (zJ st) s.heap.objs.size f cdv))->sp vs H Q E->∃t,PSs (cxOf CX0 P w K mg base N qual (zJ st) f cdv A outer s H E).nox (jG st) t/\t {nx:=λ_ H'=>Q .non H',rt:=Q} (start N vs) H)->FnOk P w K mg base CX0 (k+1) f fd ps sp)(hbody:∀cdv A outer s H E,Room k (A.deeper (nH qual (zJ st) s.heap.objs.size f cdv))->PSsv (cxOf CX0 P w K mg base N qual (zJ st) f cdv A outer s H E).nox (jG st) g)(hg:∀T l T',l.length=n->F T l=some T'->lentF g N.length T l=some T')(hn:ps.length=n+1:=by rfl)(hN:0<N.length:=by decide):FnOk P w K mg base CX0 (k+1) f fd ps (spL K n F):=by
 refine hok _ (λvs H Q E h=>?_) (λcdv A outer s H vs Q E hr h=>?_)
 . obtain⟨a,T,T',fs,B,vs',l,rfl,hl,_⟩:=h;simp[aH];lia
 . obtain ⟨a, T, T', fs, B, vs', l, rfl, hl, rt, nd, hB, ra, e, q⟩ := h;obtain ⟨t,ht,hf⟩:=hbody cdv A outer s H E hr;refine ⟨t,ht,?_⟩;have o:=WX rt nd hB ra hN;have e:=hg T l T' (by rw [<- ra.length]; exact hl) e;unfold lentF at e;cases h1:g (argsL N.length T l) with
   |none=>rw[h1]at e;cases e
   |some out=>
     rw[h1]at e;cases out with
     |nx ds=>
       simp only at e;cases h2:ds[0]? with
       |none=>rw[h2]at e;cases e
       |some s0=>
         rw[h2]at e;cases s0 with
         |ob r T2=>
           have hr0:r=some 0/\T2=T':=by
            cases r with
            |none=>cases e
            |some i=>
              cases i with
              |zero=>cases e;exact⟨rfl,rfl⟩
              |succ i=>cases e
           obtain⟨rfl,rfl⟩:=hr0;refine hf _ H _ _ _ _ _ _ o h1 (λσ H' O' o'=>?_);obtain⟨F',hF⟩:=o'.obs;obtain⟨v,y1,y2,y3,y4,y5⟩:=hF 0 _ _ h2;cases y3 0 a rfl (.head _);have hb:=o'.hold (.base B) (.tail _ (.head _));exact q H' (F' 0) (λb u nb eb=>o'.same b u (by rw[xF nb];exact eb)) (y2.less (λb z=>z.elim (λz=>(y2.owns b z).1) λz=>(hb b z).1) λb z=>.inl z) y4 λb z=>HQ (y5 b z).1
         |_=>cases e
     |_=>cases e
def JE{K:Frag}{st:Stmt}(Fn:Fun K x qual st f fd)(S:FnScope N ps (zJ st))(hbody:∀cdv A outer s H E,Room k (A.deeper (nH qual (zJ st) s.heap.objs.size f cdv))->PSsv (cxOf CX0 P w K mg base N qual (zJ st) f cdv A outer s H E).nox (jG st) g)(hg:∀T l T',l.length=n->F T l=some T'->lentF g N.length T l=some T')(hn:ps.length=n+1:=by rfl)(hN:0<N.length:=by decide):FnOk P w K mg base CX0 (k+1) f fd ps (spL K n F):=by exact aEk (λsp a b=>Fn.ok S a b) hbody hg hn hN
structure LCal(P:cF)(w:dE)(K:Frag)(mg:Str->Option aN)(base:Heap)(m:Str)(k n:Nat)(cs:List Nat)(F:Nat->OT->List D->Option OT):Prop where
 no:∀t∈cs,m∉fD t
 of:∀t∈cs,∀C,aX K aV (eP t)=some (some (.ref C))->∃(f:aG) (fd:bR) (ps:List Str),Cls K C/\Meth K C m f/\FnOk P w K mg base CX0 k f fd ps (spL K n (F t))/\Binds K fd ps []
def ML{K:Frag}: LCal P w K mg base m k n [] F:=⟨λ_ h=>(nomatch h),λ_ h=>(nomatch h)⟩
def XR{K:Frag}(a:aX K aV (eP t)=some (some (.ref C)))(c:Cls K C)(hm:Meth K C m f)(G:FnOk P w K mg base CX0 j f fd ps (spL K n (F t)))(hj:j<=k)(b:Binds K fd ps [])(hn:m∉fD t)(h:LCal P w K mg base m k n cs F):LCal P w K mg base m k n (t::cs) F:=by
 refine⟨λt' ht=>(aB.mp ht).elim (λe=>e▸hn) (h.no t'),λt' ht C' e=>?_⟩;rcases aB.mp ht with rfl|ht
 . rw[a]at e;cases e;exact⟨f,fd,ps,c,hm,G.mono hj,b⟩
 . exact h.of t' ht C' e
def aDt(M:LCal X.prog X.w X.K X.mg X.base m k n cs F)(hf:∀H₀ H O σ ds hd q Q,Ok X.K H₀ H O σ ds hd->f ds=some q->(∀r T v w fs,ds[q.1]?=some (.ob r T)->subO q.2.1 T=some q.2.2->σ[q.1]?=some (some v)->PathV H v q.2.1 w->RepO X.K H O w q.2.2 fs->Q w H)->ta σ H Q)(hfg:∀H₀ H O σ ds hd l Q,Ok X.K H₀ H O σ ds hd->g ds=some l->(∀vs H',Same H H'->Reps X.K H' O vs l->Q vs H')->t σ H Q)(o:Ok X.K H₀ H O σ ds hd)(h1:lentG n cs F f g ds=some (.nx ds'))(q:∀H' O',Ok X.K H₀ H' O' σ ds' hd->Q .non H'):IC X m k ta t σ H Q:=by
 obtain⟨q0,h2,h1⟩:=bnd h1;obtain⟨l,h3,h1⟩:=bnd h1;refine hf H₀ H O σ ds hd q0 _ o h2 λr T v w fs g1 g2 g3 g4 g5=>?_;cases hu:q0.2.2 with
 |ins c ts=>
   rw[hu]at h1 g5 g2;simp only at h1;split at h1
   . rename_i hc;cases h4:F c (.ins c ts) l with
     |none=>rw[h4]at h1;cases h1
     |some T'=>
       rw[h4]at h1;cases h1;cases g5 with
       |@ins a C dx _ kvs _ fs' cc nn ha ek rr=>
         obtain⟨fa,fd,ps,cl,hm,Fn,hb⟩:=M.of c hc.1 C cc;refine⟨a,C,dx,kvs,fa,fd,ps,_,rfl,ha,yY (by rw[ek];exact M.no c hc.1),cl,hm,Fn,hb,?_⟩;refine hfg H₀ H O σ ds hd l _ o h3 λvs H2 s2 r2=>?_;have o2:=o.mono s2;obtain⟨v',w',f',y1,y2,y3,y4,y5,y6⟩:=o2.modAt g1 g2;rw[g3]at y1;cases y1;cases yZ (yO s2 g4) y2;have ow:=λb z=>(y3.owns b z).1
         let B:aG->Prop:=λb=>O b/\b∉f'
         have toO:∀b,orL f' B b->O b:=λb z=>z.elim (ow b) λz=>z.1;refine⟨a,_,T',f',B,vs,l,rfl,by rw[r2.length];exact hc.2,y3.less toO (λb z=>.inl z),y4,λb z=>⟨z.2,o2.dom b z.1⟩,r2.less toO,h4,λH' fs2 k1 k2 k3 k4=>?_⟩;have e':putP q0 T' ds=ds.set q0.1 (.ob r (putO T' q0.2.1 T)):=by simp[putP,g1]
         rw[e']at q;refine q H' (orL fs2 B) (y6 ⟨λb u nb eb=>k1 b u (λz=>nb (ow b z)) eb,λb u _ nb eb=>k1 b u nb eb,λb z nb=>.inr ⟨z,nb⟩,λb z=>z.elim (λz=>(k4 b z).elim (λy=>.inl (ow b y)) λy=>.inr ⟨z,y⟩) λz=>.inl z.1,k4⟩ (λb z y=>y.elim (λy=>(k2.owns b y).2) λy=>(y.2 z).elim) k2 k3)
   . cases h1
 |_=>rw[hu]at h1;cases h1
def LO(M:LCal X.prog X.w X.K X.mg X.base m k n cs F)(hr:Room j X.A)(ho:PVp X oe f)(ha:PAs X (e::es) g)(hj:k<=j:=by decide)(hst:aK (e::es) X.env=(false,cI e X.env)::aK es X.env:=by rfl)(hpl:(dS pos (aK es X.env)).any (·.1)=false:=by rfl)(ht:cI (.Call (.Attribute oe m apos) (e::es) [] pos) X.env=(do
    let ov <- cI oe X.env
    mX apos.atName
    let (f,first) <- gN [ov] (nS ov m pl)
    DU pos f first (dS pos (aK (e::es) X.env)) (lQ pos (gA [] X.env))):=by rfl)(hsw:eM (.Call (.Attribute oe m apos) (e::es) [] pos) none pos'.line X.env=pure false:=by rfl):PSv X (.Expr (.Call (.Attribute oe m apos) (e::es) [] pos) pos') (lentG n cs F f g):=by
 obtain⟨ta,pa,hf⟩:=ho;obtain⟨t,pt,hfg⟩:=ha;refine⟨_,kB (BY pa (hr.mono hj) pt hst hpl ht) hsw,λH₀ H O σ ds hd out E o e h=>?_⟩;have:∃ds',out=.nx ds':=by
  obtain⟨q0,h2,e⟩:=bnd e;obtain⟨l,h3,e⟩:=bnd e;split at e
  . split at e
    . rename_i c ts _ _;cases h4:F c (.ins c ts) l with
      |none=>rw[h4]at e;cases e
      |some T'=>rw[h4]at e;cases e;exact⟨_,rfl⟩
    . cases e
  . cases e
 obtain⟨ds',rfl⟩:=this;exact aDt M hf hfg o e λH' O' o'=>h _ _ _ o'
section
variable{K:Frag}
def Ok.putN(y:MutHO)(o:Ok K H₀ H O σ ds hd)(e:ds[i]?=some (.ob r T))(hs:subO p T=some u)(hv:σ[i]?=some (some v))(hp:PathV H v p (.ref a))(h:∀f,RepO K H O (.ref a) u f->f.Nodup->∃f',O a/\a∈f/\(∀b∈f',b∈f)/\f'.Nodup/\RepO K (upd H a y.1) O (.ref a) u' f'):Ok K H₀ (upd H a y.1) O σ (ds.set i (.ob r (putO u' p T))) hd:=by
 obtain⟨v',w',f,y1,y2,y3,y4,y5,y6⟩:=o.modAt e hs;rw[hv]at y1;cases y1;cases yZ hp y2;obtain⟨f',n,h1,h2,h3,h4⟩:=h f y3 y4;refine y6 (.ofUpd n h1 h2) (λb z _=>?_) h4 h3;by_cases z':b=a
 . rw[z',zQ];exact⟨y,rfl⟩
 . rw[upd_ne z'];exact(y3.owns b z).2
def wN(r:Rep K H O v d)(e:keyD d=some k):v=kV k:=by
 cases d<;>first|(cases e;done)|skip
 . cases e;cases r;rfl
 . cases e;cases r;rfl
 . cases e;cases r;rfl
def JA(r:Rep K H O v d)(e:kdD d=some p):∃a kvs,v=.ref a/\Rd H a (.dK kvs)/\kvs.map (·.1)=p.1/\Reps K H O (kvs.map (·.2)) p.2:=by
 cases d<;>first|(cases e;done)|skip
 . cases e;cases r with
   |@dct a kvs _ _ n hb ek rs=>exact⟨a,kvs,rfl,.inl hb,ek,rs⟩
 . cases e;cases r with
   |@dcf a o kvs _ _ n hb ek rs=>exact⟨a,kvs,rfl,.inr ⟨o,hb⟩,ek,rs⟩
theorem KO:∀{kvs:List (Key×V)}{l:List D}{k:Key}{d:D},Reps K H O (kvs.map (·.2)) l->getKD k (kvs.map (·.1)) l=some d->∃v,valV kvs k=some v/\Rep K H O v d
 |[],_,_,_,_,e=>by simp[getKD]at e
 |(k',v)::r,[],_,_,h,_=>by cases h
 |(k',v)::r,d'::l,k,d,.cons h t,e=>by
   simp only[aQ,getKD]at e;by_cases z:k'=k
   . rw[if_pos z]at e;cases e;exact⟨v,vA z,h⟩
   . rw[if_neg z]at e;obtain⟨w,h1,h2⟩:=KO t e;exact⟨w,by simpa[valV,cK,z]using h1,h2⟩
theorem kH:∀kvs k,(valV kvs k).isSome=hasK k (kvs.map (·.1))
 |[],k=>rfl
 |(k',v)::r,k=>by
   by_cases z:k'=k
   . simp[valV,cK,z,hasK]
   . have:=kH r k;simp only[valV,hasK]at this ⊢;rw[gP (by simpa using z),this];simp[z]
def GJ(h:hasK k (kvs.map (·.1))=true):putK kvs k v=kvs.map (λkv=>if kv.1=k then (kv.1,v)else kv):=by unfold putK;rw[if_pos];rw[hasK,List.any_map]at h;exact h
def vD(h:¬hasK k (kvs.map (·.1))=true):putK kvs k v=kvs++[(k,v)]:=by unfold putK;rw[if_neg];rw[hasK,List.any_map]at h;exact h
def WK(kvs:List (Key×V)) k v:(kvs.map (λkv=>if kv.1=k then (kv.1,v)else kv)).map (·.1)=kvs.map (·.1):=by rw[cV];refine gB λkv _=>?_;simp only[Function.comp];split<;>rfl
theorem RepsO.putTs(r:Rep K H O v d):∀{kvs:List (Key×V)}{ts:List OT}{fs:List aG},RepsO K H O (kvs.map (·.2)) ts fs->∃fs',fs'.Sublist fs/\RepsO K H O ((kvs.map (λkv=>if kv.1=k then (kv.1,v)else kv)).map (·.2)) (FL.putTs k (.val d) (kvs.map (·.1)) ts) fs'
 |[],_,_,.nil=>⟨[],.slnil,.nil⟩
 |(k',w)::kvs,_,_,.cons (t:=t) (ts:=ts) (fs:=fs) (gs:=gs) h q=>by
   obtain⟨gs',h1,h2⟩:=RepsO.putTs r q;by_cases z:k'=k
   . refine⟨gs',h1.trans (List.sublist_append_right _ _),?_⟩;simp only[aQ,z,if_true,FL.putTs];exact .cons (fs:=[]) (.val r) h2
   . refine⟨fs++gs',h1.append_left _,?_⟩;simp only[aQ,z,if_false,FL.putTs];exact .cons h h2
end
def BQ:PVo X (.Dict [] [] pos) dO0:=by refine⟨_,aCp,λH₀ H O σ ds hd T Q o e q=>λp hp=>?_⟩;cases e;exact q _ _ [p] (qM hp _) (.dct (.inl (.head _)) zQ rfl .nil) (by simp) λb hb=>by rw[aO.mp hb];exact hp
def wJ(hr:Room j X.A)(ho:PVp X oe f)(hk:PV X ke fk)(he:PV X e fv)(hs:eM e (some (.Subscript oe ke pos')) pos.line X.env=pure false:=by rfl) :
  PSv X (.Assign [.Subscript oe ke pos'] e pos) (dputG f fk fv):=by
 obtain⟨tp,hp,hf⟩:=ho;obtain⟨tk,pk,hk⟩:=hk;obtain⟨te,pe,he⟩:=he;refine⟨_,TM (kO (by lia) (hu100 hr)) hp pk pe hs,λH₀ H O σ ds hd out E o e h=>?_⟩;obtain⟨d,h1,e⟩:=bnd e;obtain⟨q,h2,e⟩:=bnd e;obtain⟨y,h3,e⟩:=bnd e;obtain⟨k,h4,e⟩:=bnd e;refine he H₀ H O σ ds hd d _ o h1 λv H1 s1 r1=>?_;refine hf H₀ H1 O σ ds hd q _ (o.mono s1) h2 λr T v0 w fs g1 g2 g3 g4 g5=>?_;refine hk H₀ H1 O σ ds hd y _ (o.mono s1) h3 λyv H2 s2 r2=>?_;have o2:=(o.mono s1).mono s2;cases hq:q.2.2 with
 |dct ks ts=>
   rw[hq]at e g2 g5;simp only at e;split at e
   . rename_i hl;cases e;cases g5 with
     |@dct a kvs _ _ fs' n hb ek rs=>
       have hb2:=s2 _ _ hb;cases wN r2 h4;have ln:kvs.length<sizeLine:=by rw[<-ek]at hl;simpa using hl
       refine⟨a,_,rfl,DPut.k hb2 ln,?_⟩;have e':putP q (putKT k (.val d) ks ts) ds=ds.set q.1 (.ob r (putO (putKT k (.val d) ks ts) q.2.1 T)):=by simp[putP,g1]
       rw[e']at h;refine h _ _ _ (Ok.putN ⟨.dK (putK kvs k v),rfl⟩ o2 g1 g2 g3 (yO s2 g4) λf2 k1 k2=>?_);cases k1 with
       |@dct _ kvs2 _ _ fs2 n2 hb3 ek2 rs2=>
         rw[hb2]at hb3;cases hb3;obtain⟨n3,n4⟩:=bM.mp k2;have c:Chg H2 (upd H2 a (.dK (putK kvs k v))) O O [a] [a]:=.ofUpd n (.head _) λ_ z=>z;have rs3:=c.repsO rs2 λb z y=>n3 (aO.mp y▸z);have rv:=c.rep (r1.mono s2);unfold putKT;by_cases hm:hasK k ks=true
         . rw [if_pos hm];have hm':hasK k (kvs.map (·.1))=true:=by rw [ek];exact hm
           obtain⟨fs3,w1,w2⟩:=RepsO.putTs rv rs3;refine⟨a::fs3,n,.head _,λb z=>(aB.mp z).elim (λz=>by rw[z];exact .head _) λz=>.tail _ (w1.subset z),bM.mpr ⟨λz=>n3 (w1.subset z),w1.nodup n4⟩,?_⟩;refine .dct n zQ ?_ ?_
           . rw[GJ hm',WK,ek]
           . have z:=congrArg (List.map (·.2)) (GJ (v:=v) hm');rw[ek]at w2;rw[<-z]at w2;exact w2
         . rw [if_neg hm];have hm':¬ hasK k (kvs.map (·.1))=true:=by rw [ek];exact hm
           refine⟨a::fs2,n,.head _,λb z=>z,k2,?_⟩;refine .dct n zQ ?_ ?_
           . rw[vD hm'];simp[ek]
           . have z:(putK kvs k v).map (·.2)=kvs.map (·.2)++[v]:=by rw [vD hm'];simp
             rw[z];exact rs3.snoc rv
   . cases e
 |_=>rw[hq]at e;cases e
def IQ(hr:Room j X.A)(ho:PV X oe fd)(hk:PV X ke fk)(hs:NoSl ke:=by exact λ_ _=>rfl):PV X (.Subscript oe ke pos) (dgetG fd fk):=by obtain⟨td,pd,hd'⟩:=ho;obtain⟨tk,pk,hk⟩:=hk;refine⟨_,pe_dget (kO (by lia) (hu100 hr)) pd pk hs,λH₀ H O σ ds hd d Q o e q=>?_⟩;obtain⟨x,h1,e⟩:=bnd e;obtain⟨y,h3,e⟩:=bnd e;obtain⟨k,h4,e⟩:=bnd e;refine hd' H₀ H O σ ds hd x _ o h1 λv H1 s1 r1=>?_;refine hk H₀ H1 O σ ds hd y _ (o.mono s1) h3 λyv H2 s2 r2=>?_;obtain⟨p,h6,e⟩:=bnd e;obtain⟨a,kvs,rfl,hb,ek,rs⟩:=JA (r1.mono s2) h6;cases wN r2 h4;rw[<-ek]at e;obtain⟨w,h5,h6⟩:=KO rs e;exact⟨a,w,rfl,.inl ⟨kvs,k,hb,rfl,h5.symm⟩,q w H2 (s1.trans s2) h6⟩
def TD(hr:Room j X.A)(hk:PVn X ke fk)(ho:PVn X oe fd)(hm:dH .In oe=false:=by rfl):PTv X (.Compare ke [.In] [oe] pos) (dinG fk fd):=by obtain⟨td,pd,hd'⟩:=ho;obtain⟨tk,pk,hk⟩:=hk;refine⟨_,aBw (pc_din (kO (by lia) (hu100 hr)) pk pd) hm,λH₀ H O σ ds hd b Q o e q=>?_⟩;obtain⟨y,h3,e⟩:=bnd e;obtain⟨k,h4,e⟩:=bnd e;obtain⟨x,h1,e⟩:=bnd e;refine hk H₀ H O σ ds hd y _ o h3 λyv H1 s1 r1=>?_;refine hd' H₀ H1 O σ ds hd x _ (o.mono s1) h1 λv H2 s2 r2=>?_;obtain⟨p,h6,rfl⟩:=mpd e;obtain⟨a,kvs,rfl,hb,ek,rs⟩:=JA r2 h6;cases wN r1 h4;refine⟨a,_,rfl,.inl ⟨kvs,k,hb,rfl,rfl⟩,_,rfl,?_⟩;rw[kH,ek];exact q H2 (s1.trans s2)
def aBt(hr:Room j X.A)(hk:PVn X ke fk)(ho:PVn X oe fd)(hm:dH .NotIn oe=false:=by rfl):PTv X (.Compare ke [.NotIn] [oe] pos) (dnotG fk fd):=by
 obtain⟨td,pd,hd'⟩:=ho;obtain⟨tk,pk,hk⟩:=hk;refine⟨_,aBw (WR (kO (by lia) (hu100 hr)) pk pd) hm,λH₀ H O σ ds hd b Q o e q=>?_⟩;unfold dnotG dinG at e;cases h3:fk ds with
 |none=>rw[h3]at e;cases e
 |some y=>
   rw[h3]at e;simp[aR]at e;cases h4:keyD y with
   |none=>rw[h4]at e;cases e
   |some k=>
     rw[h4]at e;cases h1:fd ds with
     |none=>rw[h1]at e;cases e
     |some x=>
       rw[h1]at e;simp only[aR]at e;refine hk H₀ H O σ ds hd y _ o h3 λyv H1 s1 r1=>?_;refine hd' H₀ H1 O σ ds hd x _ (o.mono s1) h1 λv H2 s2 r2=>?_;cases h6:kdD x with
       |none=>rw[h6]at e;cases e
       |some p=>rw[h6]at e;cases e;obtain⟨a,kvs,rfl,hb,ek,rs⟩:=JA r2 h6;cases wN r1 h4;refine⟨a,_,rfl,.inl ⟨kvs,k,hb,rfl,rfl⟩,_,rfl,?_⟩;rw[kH,ek];exact q H2 (s1.trans s2)
end FL
namespace L2
def Inv.freezeD(I:Inv X aC σ H s)(e:H a=some (.dK kvs)):∃o,Inv X aC σ (upd H a (.frz o (.dK kvs))) s:=by obtain⟨z,hd,vs,rel,dd⟩:=dk_of I.hok e;obtain⟨o,es,ep,ho,r⟩:=id dd;exact⟨o,JJ I (by rw[e];trivial) ⟨rfl,λ_ _=>rfl⟩ ⟨o,ho⟩ ⟨ho,z,hd,vs,rel,dd⟩⟩
def sFrz(i:Nat)(t:TS):TS:=λD σ H=>∃a kvs,σ[i]?=some (some (.ref a))/\H a=some (.dK kvs)/\∀o,t D σ (upd H a (.frz o (.dK kvs)))
def ps_frz{st:Stmt}(h:PS X st t):PS X st (sFrz i t):=by intro aC s σ H D I ⟨a,kvs,h1,h2,h3⟩;obtain⟨o,I'⟩:=I.freezeD h2;exact h aC s σ _ D I' (h3 o)
def xY(I:Inv X aC σ H s)(hd:H d=some (.frz o (.dK kvs)))(dat:o.data=.dict es ep):∃vs,KV kvs vs/\s.heap.DictAt (fN X.prog X.w) d vs ep:=by obtain⟨ho,z,hds,vs,rel,o',es',ep',e1,ex,dat',r⟩:=I.hok d _ hd;rw[ho]at e1;cases e1;rw[dat]at dat';cases dat';exact⟨vs,rel,o,es,ho,ex,dat,r⟩
def KV.get{kvs:List (κ×V)}{vs:List (κ×aN)}{i:Nat}{k:κ}(h:KV kvs vs)(e:kvs[i]?=some (k,x)):∃u,vs[i]?=some (k,u)/\RelV x u:=by
 induction h generalizing i with
 |nil=>simp at e
 |@cons p q _ _ h _ ih=>
   cases i with
   |zero=>simp[fB,Option.some.injEq]at e;subst e;exact⟨q.2,by simp[fB];rw[show q=(k,q.2) from Prod.ext h.1.symm rfl],h.2⟩
   |succ i=>exact ih e
end L2
namespace FL
section
variable{K:Frag}
theorem AZ:∀{ts:List OT}{l:List D},valsO ts=some l->ts=l.map OT.val
 |[],_,e=>by cases e;rfl
 |.val d::r,l,e=>by
   unfold valsO at e;cases h:valsO r with
   |none=>rw[h]at e;cases e
   |some m=>rw[h]at e;cases e;rw[AZ h];rfl
 |.lst _::_,_,e=>by cases e
 |.tup _::_,_,e=>by cases e
 |.dct _ _::_,_,e=>by cases e
 |.ins _ _::_,_,e=>by cases e
theorem RepsO.ofVals:∀{l:List D}{xs:List V}{fs:List aG},RepsO K H O xs (l.map OT.val) fs->fs=[]/\Reps K H O xs l
 |[],_,_,.nil=>⟨rfl,.nil⟩
 |d::l,_,_,.cons (.val r) t=>by obtain⟨rfl,rs⟩:=RepsO.ofVals t;exact⟨rfl,.cons r rs⟩
def Ok.frzD(o:Ok K H₀ H O σ ds hd)(e:ds[i]?=some (.ob r (.dct ks (l.map OT.val)))) :
  ∃a kvs,σ[i]?=some (some (.ref a))/\H a=some (.dK kvs)/\∀ob,∃O',Ok K H₀ (upd H a (.frz ob (.dK kvs))) O' σ (ds.set i (.v (.dcf ks l))) hd:=by
 obtain⟨F,hF⟩:=o.obs;obtain⟨v,h1,h2,h3,h4,h5⟩:=hF i r _ e;have hl:=(aW.mp e).1;generalize hfi:F i=fi at h2 h4 h5;cases h2 with
 |@dct a kvs _ _ fs n hb ek rs=>
   obtain⟨rfl,rv⟩:=rs.ofVals;refine⟨a,kvs,h1,hb,λob=>?_⟩
   let O':aG->Prop:=λb=>O b/\b≠a
   have sub:∀b,O' b->O b:=λb hb=>hb.1;have h0:=(h5 a (.head _)).1;have kp:Keep O H (upd H a (.frz ob (.dK kvs))):=λb u nb eb=>by have z:b≠a:=λz=>nb (by rw[z];exact n);rw[L2.upd_ne z];exact eb
   have ne:∀{b:aG}{u:HO},b≠a->H b=some u->upd H a (.frz ob (.dK kvs)) b=some u:=λz eb=>by rw[L2.upd_ne z];exact eb
   have own':∀{j:Nat},IsOwn (ds.set i (.v (.dcf ks l))) j->IsOwn ds j/\j≠i:=λh=>wD (λl=>by intro z;cases z) h;have nown:∀{j:Nat}{b:aG},IsOwn ds j->σ[j]?=some (some (.ref b))->b≠a:=λ{j b} oj ej z=>(h5 a (.head _)).2.2 j oj (by rw[<-z];exact ej);refine⟨O',λb u eb=>ne (λz=>by rw[z,h0]at eb;cases eb) (o.same b u eb),λj l' b e1 e2=>?_,λb hb=>?_,by simpa using o.len,λj s es=>?_,λj m b hjm hj hm e1 e2=>o.apart j m b hjm (own' hj).1 (own' hm).1 e1 e2,λp hp=>?_,?_⟩
   . obtain⟨⟨l2,e2'⟩,_⟩:=own' ⟨l',e1⟩;exact o.fresh j l2 b e2' e2
   . obtain⟨u,eu⟩:=o.dom b hb.1;exact⟨u,ne hb.2 eu⟩
   . by_cases hj:j=i
     . subst hj;rw[bB hl]at es;cases es;rw[h1];exact yH (.dcf (λz=>z.2 rfl) zQ ek ((rv.keep kp).less sub))
     . rw [aE (Ne.symm hj)]at es;cases s with
       |no=>exact jI
       |ob r t=>exact yL
       |exc t=>obtain⟨a',C',ob',u',q1,q2,q3,q4⟩:=o.readX es;rw[q1];exact⟨C',ob',u',q2,ne (λz=>by rw[z,hb]at q3;cases q3) q3,q4⟩
       |fr l'=>obtain⟨a',xs',q1,q2,q0,q3,q4⟩:=o.readF es;rw[q1];exact⟨λz=>q2 (sub _ z),q0,xs',kp _ _ q2 q3,(q4.keep kp).less sub⟩
       |v d=>obtain⟨v,q1,q2⟩:=o.read es;rw[q1];exact yH ((q2.keep kp).less sub)
       |own l'=>obtain⟨b,ys,q1,q2,q3,q4⟩:=o.readO es;rw[q1];have z:=nown ⟨l',es⟩ q1;exact⟨⟨q2,z⟩,ys,ne z q3,(q4.keep kp).less sub⟩
   . have:=o.hold p hp;cases p with
     |rep v d=>exact(Rep.keep kp this).less sub
     |base B=>exact λb hb=>⟨⟨(this b hb).1,λz=>(this b hb).2 (by rw[z];exact h0)⟩,(this b hb).2⟩
     |root k a=>exact True.intro
     |fz a' o' kvs' l'=>exact⟨λz=>this.1 (sub _ z),kp _ _ this.1 this.2.1,(Reps.keep kp this.2.2).less sub⟩
   . refine⟨F,λj r' t' ej=>?_⟩;obtain⟨ej,hj⟩:=wA (λr t=>by intro z;cases z) ej;obtain⟨w,g1,g2,g3,g4,g5⟩:=hF j r' t' ej;have na:=λz=>(h5 a (.head _)).2.1 j r' t' hj ej z;refine⟨w,g1,(g2.keep kp λb hb u eb=>ne (λz=>na (by rw[<-z];exact hb)) eb).less sub λb hb=>⟨(g2.owns b hb).1,λz=>na (by rw[<-z];exact hb)⟩,g3,g4,λb hb=>⟨(g5 b hb).1,λm r2 t2 hm em=>(g5 b hb).2.1 m r2 t2 hm (wA (λr t=>by intro z;cases z) em).1,λm om em=>(g5 b hb).2.2 m (own' om).1 em⟩⟩
end
def aBy{st:Stmt}(h:PSv X st g):PSv X st (frzDG i g):=by
 obtain⟨t,ht,hg⟩:=h;refine⟨_,ps_frz (i:=i) ht,λH₀ H O σ ds hd out E o e h=>?_⟩;unfold frzDG at e;cases hs:ds[i]? with
 |none=>rw[hs]at e;cases e
 |some s=>
   rw[hs]at e;cases s with
   |ob r T=>
     cases T with
     |dct ks ts=>obtain⟨l,hv,e⟩:=bnd e;rw[AZ hv]at hs;obtain⟨a,kvs,h1,h2,h3⟩:=o.frzD hs;refine⟨a,kvs,h1,h2,λob=>?_⟩;obtain⟨O',o'⟩:=h3 ob;exact hg H₀ _ O' σ _ hd out E o' e h
     |_=>cases e
   |_=>cases e
def WlkD(K:Frag)(J:It)(h:HI)(items:List D):Prop:=∀H₀ H O,(∀a,O a->∃u:MutHO,H a=some u.1)->HOk K H₀ H O h →
 (∀i d,items[i]?=some d->J.go i H/\∀x H',J.yld i H x H'->Same H H'/\Rep K H' O x d)/\J.stop items.length H
variable(X) in
def PId(tg iter:Expr)(fi:FA):Prop:=∃wi,PI X tg iter wi/\∀H₀ H O σ ds hd items R,Ok X.K H₀ H O σ ds hd->fi ds=some items →
 (∀J p H',Same H H'->HOk X.K H₀ H' O p->(∀k a,HI.root k a≠p)->(∀B,HI.base B≠p)->WlkD X.K J p items->R J H')->wi σ H R
theorem kV_rep{K:Frag}:∀k,Rep K H O (kV k) (keyDD k)
 |.inl (some i)=>.int i
 |.inl none=>.non
 |.inr x=>.str x
def aBz{iter:Expr}(hp:FD (aZ X.prog X.w) X.A X.env X.xe)(hc:X.calm=true)(hi:PId X tg iter fi)(hg:PGv X tg ga)(hb:PSsv X body g)(hs:∀x,eJ iter X.env x=pure x:=by intro _;rfl):PSv X (.For tg iter body [] pos) (forG fi ga g):=by
 obtain⟨wi,pi,hi⟩:=hi;obtain⟨tg',pg,hg⟩:=hg;obtain⟨tb,pb,hb⟩:=hb;refine⟨_,aCd hp hc pi pg pb hs,λH₀ H O σ ds hd out E o e h=>?_⟩;obtain⟨items,h1,e⟩:=bnd e;refine hi H₀ H O σ ds hd items _ o h1 λJ p H' s r nr nb wk=>?_;refine⟨λi m σ' H'=>i<=items.length/\m=items.length-i/\∃O' ds',Ok X.K H₀ H' O' σ' ds' (p::hd)/\qQ ga g (items.drop i) ds'=some out,⟨items.length,bZ _,rfl,O,ds,(o.mono s).holdMore r nr,by simpa using e⟩,?_⟩;rintro i m σ1 H1 ⟨hi1,rfl,O1,ds1,o1,e1⟩;obtain⟨go,stop⟩:=wk H₀ H1 O1 o1.dom (o1.hold p aS);by_cases hlt:i<items.length
 . right;have hd0:=aF hlt;obtain ⟨hgo,hy⟩:=go i _ hd0;rw [cO hlt,qQ]at e1;refine ⟨hgo,λσ' H'=>i+1<=items.length/\∃ O' ds',Ok X.K H₀ H' O' σ' ds' (p::hd)/\qQ ga g (items.drop (i+1)) ds'=some out,λσ' H' ⟨q1,q2⟩=>⟨items.length - (i+1),by lia,q1,rfl,q2⟩,λx H2 y=>?_⟩;obtain ⟨s2,r2⟩:=hy x H2 y;obtain ⟨ds2,h2,e1⟩:=bnd e1;obtain ⟨o3,h3,e1⟩:=bnd e1;refine hg H₀ H2 O1 σ1 ds1 (p::hd) x _ ds2 _ (o1.mono s2) r2 h2 λσ' o'=>?_;refine hb H₀ H2 O1 σ' ds2 (p::hd) o3 _ o' h3 ?_;cases o3 with
   |nx ds3=>exact λσ3 H3 O3 ok3=>⟨hlt,O3,ds3,ok3,e1⟩
   |ct ds3=>exact λσ3 H3 O3 ok3=>⟨hlt,O3,ds3,ok3,e1⟩
   |bk ds3=>cases e1;exact λσ3 H3 O3 ok3=>h σ3 H3 O3 ok3.holdLess
   |rt rr=>cases e1;exact λv H s r b=>h v H s r (GC b)
 . left;have ei:i=items.length:=by lia
   subst ei;rw[gC,qQ]at e1;cases e1;exact⟨stop,h σ1 H1 O1 o1.holdLess⟩
section
variable{K:Frag}
theorem RepsO.snocO:∀{xs:List V}{ts:List OT}{fs:List aG}{v:V}{T:OT}{f:List aG},RepsO K H O xs ts fs->RepO K H O v T f->RepsO K H O (xs++[v]) (ts++[T]) (fs++f)
 |_,_,_,_,_,f,.nil,r=>by have:=RepsO.cons (gs:=[]) r .nil;simpa using this
 |_,_,_,_,_,_,.cons (fs:=fs) (gs:=gs) h t,r=>by rw[bK];exact .cons h (RepsO.snocO t r)
end
def PN(hF:∀C,aX X.K aV (eP t)=some (some (.ref C))->Cls X.K C/\NoAttr X.K C n)(ho:PVp X oe f)(he:PVo X e g)(hn:eP t'=eP t:=by rfl)(hfl:fD t'=fD t++[n]:=by rfl)(hnew:n∉fD t:=by decide +kernel)(hs:eM e (some (.Attribute oe n pos')) pos.line X.env=pure false:=by rfl) :
  PSv X (.Assign [.Attribute oe n pos'] e pos) (setNw t t' f g):=by
 obtain⟨tp,hp,hfp⟩:=ho;obtain⟨tv,hv,hg⟩:=he;refine⟨_,ps_fld hp hv hs,λH₀ H O σ ds hd out E o e h=>?_⟩;unfold setNw at e;cases h1:g ds with
 |none=>rw[h1]at e;cases e
 |some T=>
   rw[h1]at e;cases h2:f ds with
   |none=>rw[h2]at e;cases e
   |some q=>
     rw[h2]at e;simp[aR]at e;refine hg H₀ H O σ ds hd T _ o h1 λv H1 fs s1 r1 nd1 n1=>?_;have o1:=o.moreL s1 n1 λb hb=>(r1.owns b hb).2;refine hfp H₀ H1 (orL fs O) σ ds hd q _ o1 h2 λr T0 v0 w fs0 g1 g2 g3 g4 g5=>?_;obtain⟨v',w',f',y1,y2,y3,y4,y5,y6⟩:=o.modAt g1 g2;rw[g3]at y1;cases y1;cases yZ g4 (yO s1 y2);cases hq:q.2.2 with
     |ins c l=>
       rw[hq]at y3 e;simp only at e;split at e
       . rename_i hk;obtain ⟨rfl,hk⟩:=hk;cases e;cases y3 with
         |@ins a C dx _ kvs _ fs' cc na ha ek rs=>
           obtain⟨cl,nat⟩:=hF C cc;have ln:kvs.length=l.length:=by simpa using rs.length
           refine⟨a,C,dx,kvs,rfl,s1 _ _ ha,cl,nat,by lia,?_⟩;obtain⟨n3,n4⟩:=bM.mp y4;have old:∀b,H b=none->b∉a::fs':=λb hb z=>by
            rcases aB.mp z with z|z
            . rw[z,ha]at hb;cases hb
            . obtain⟨_,x,ex⟩:=rs.owns b z;rw[hb]at ex;cases ex
           have afs:a∉fs:=λz=>by rw[n1 a z]at ha;cases ha
           have pn:putF n v kvs=kvs++[(n,v)]:=LK (by rw[ek];exact hnew);have hs':∀b u,b≠a->H b=some u->upd H1 a (.ins C dx (putF n v kvs)) b=some u:=λb u nb eb=>by rw[L2.upd_ne nb];exact s1 _ _ eb
           have nO:∀{b:aG},¬O b->b≠a:=λnb z=>nb (by rw[z];exact na)
           have c0:Chg H (upd H1 a (.ins C dx (putF n v kvs))) O (orL fs O) [a] (a::fs):=
            ⟨λb u nb eb=>hs' b u (nO nb) eb,λb u _ nb eb=>hs' b u (λz=>nb (by rw[z];exact .head _)) eb,λb z _=>.inr z,λb z=>z.elim (λz=>.inr ⟨.tail _ z,n1 b z⟩) .inl,λb z=>(aB.mp z).elim (λz=>.inl (by rw[z];exact .head _)) λz=>.inr (n1 b z)⟩
           have rT:RepO X.K (upd H1 a (.ins C dx (putF n v kvs))) (orL fs O) v T fs:=r1.keep (λb u nb eb=>by rw[L2.upd_ne (nO λz=>nb (.inr z))];exact eb) λb hb u eb=>by have z:b≠a:=λz=>afs (by rw[<-z];exact hb);rw[L2.upd_ne z];exact eb
           have rs':=(c0.repsO rs λb hb z=>n3 (aO.mp z▸hb)).snocO rT
           have ok:=y6 (O':=orL fs O)
            ⟨λb u nb eb=>hs' b u (nO nb) eb,λb u _ nb eb=>hs' b u (λz=>nb (by rw[z];exact .head _)) eb,λb z _=>.inr z,λb z=>z.elim (λz=>.inr ⟨.tail _ (aI _ z),n1 b z⟩) .inl,λb z=>?_⟩
            (λb z _=>?_) (.ins (by rw[hn];exact cc) (.inr na) zQ (by rw[pn,hfl,<-ek];simp) (by rw[show(putF n v kvs).map (·.2)=kvs.map (·.2)++[v] by rw[pn];simp];exact rs')) (bM.mpr ⟨λz=>?_,?_⟩)
           . have e':putP q (.ins t' (l++[T])) ds=ds.set q.1 (.ob r (putO (.ins t' (l++[T])) q.2.1 T0)):=by simp [putP,g1]
             rw[e']at h;exact h _ _ _ ok
           . rcases aB.mp z with z|z
             . exact .inl (by rw[z];exact .head _)
             . rcases bE.mp z with z|z
               . exact .inl (.tail _ z)
               . exact .inr (n1 b z)
           . by_cases z':b=a
             . rw[z',zQ];exact⟨⟨.ins C dx (putF n v kvs),rfl⟩,rfl⟩
             . rcases aB.mp z with q'|q'
               . exact(z' q').elim
               . obtain⟨_,y,ey⟩:=rs.owns b q';exact⟨y,hs' b _ z' ey⟩
           . rcases bE.mp z with z|z
             . exact n3 z
             . exact afs z
           . rw[cJ];refine⟨n4,nd1,λx hx y hy z=>old x (by rw[z];exact n1 y hy) (.tail _ hx)⟩
       . cases e
     |_=>rw[hq]at e;cases e
structure LMk(P:cF)(w:dE)(K:Frag)(mg:Str->Option aN)(base:Heap)(t k n m:Nat)(F:OT->List D->Option OT):Prop where
 ex:∃(C f:aG) (fd:bR) (ps:List Str),aX K aV (eP t)=some (some (.ref C))/\mg (eP t)=some (.ref C)/\Mk K C f/\FnOk P w K mg base CX0 k f fd ps (spL K n F)/\Binds K fd ps (List.replicate m .none)
theorem KL:∀m,Vals (List.replicate m V.non) (List.replicate m aN.none)
 |0=>.nil
 |m+1=>.cons rfl (KL m)
theorem LF{K:Frag}:∀m,Reps K H O (List.replicate m V.non) (List.replicate m D.non)
 |0=>.nil
 |m+1=>.cons .non (LF m)
def XM(hc:aX X.K aV (eP t)=some (some (.ref C)))(hfl:fD t=[])(hfa:∀H₀ H O σ ds hd l Q,Ok X.K H₀ H O σ ds hd->g ds=some l->(∀vs H',Same H H'->Reps X.K H' O vs l->Q vs H')->ta σ H Q)(o:Ok X.K H₀ H O σ ds hd)(h1:makeO t n m F g ds=some T)(q:∀v H' fs,Same H H'->RepO X.K H' (orL fs O) v T fs->fs.Nodup->(∀b∈fs,H b=none)->Q v H'):tMake C (spL X.K n F) (List.replicate m .non) E0 ta σ H Q:=by
 obtain⟨l,h2,h1⟩:=bnd h1;split at h1
 . rename_i hl;refine hfa H₀ H O σ ds hd l _ o h2 λvs H1 s1 r1=>?_;intro x dx nx ndx nex;have s2:Same H1 (upd (upd H1 dx (.own x)) x (.ins C dx [])):=λb o e=>by rw[upd_ne (yA e nx),upd_ne (yA e ndx)];exact e
   have o1:=o.mono s1;have rl:=r1.length;refine⟨x,.ins t [],T,[x],O,vs++List.replicate m .non,l++List.replicate m .non,rfl,by simp;lia,.ins hc (.inl (.head _)) zQ (by rw[hfl];rfl) .nil,by simp,λb hb=>?_,?_,h1,λH' fs' k1 k2 k3 k4=>⟨rfl,q _ H' fs' (λb u eb=>?_) k2 k3 λb hb=>?_⟩⟩
   . obtain⟨u,eu⟩:=o1.dom b hb;exact⟨(λz=>by rw[aO.mp z,nx]at eu;cases eu),u,s2 _ _ eu⟩
   . exact((r1.moreL λp hp=>by rw[aO.mp hp];exact nx).mono s2).append (LF m)
   . have e1:=s1 _ _ eb;exact k1 b u (λz=>by rw[aO.mp z,nx]at e1;cases e1) (s2 _ _ e1)
   . rcases k4 b hb with z|z
     . rw[aO.mp z];exact s1.free nx
     . exact s1.free (s2.free z)
 . cases h1
def aBk(M:LMk X.prog X.w X.K X.mg X.base t k n m F)(hr:Room j X.A)(ha:PAs X (e::es) g)(hj:k+1<=j:=by decide)(hx:eP t=x:=by rfl)(hfl:fD t=[]:=by rfl)(hg:Gl X x:=by rfl)(hdb:(x==("__debug__" : Str))=false:=by decide)(he:aK (e::es) X.env=(false,cI e X.env)::aK es X.env:=by rfl)(hpl:(dS pos (aK es X.env)).any (·.1)=false:=by rfl) :
  PVo X (.Call (.Name x p) (e::es) [] pos) (makeO t n m F g):=by
 obtain⟨C,f,fd,ps,hc,hm,mk,Fn,hb⟩:=M.ex;obtain⟨ta,pa,hfa⟩:=ha;subst hx;exact⟨_,pe_make mk Fn (hr.mono hj) hg hm hb (KL m) pass0 pa hdb he hpl,λH₀ H O σ ds hd T Q o e q=>XM hc hfl hfa o e q⟩
variable(X) in
def PVx(e:Expr)(f:FX):Prop:=∃t,PE X e t/\∀H₀ H O σ ds hd d ds' Q,Ok X.K H₀ H O σ ds hd->f ds=some (d,ds')->(∀v H' O',Ok X.K H₀ H' O' σ ds' hd->Rep X.K H' O' v d->Q v H')->t σ H Q
end FL
namespace L2
theorem AY:∀{us:List aN}{ns:List Str},DV us ns->Vals (ns.map V.str) us
 |_,_,.nil=>.nil
 |_,_,.cons n t h=>.cons ⟨t,rfl⟩ (AY h)
end L2
namespace FL
end FL
namespace L2
end L2
namespace FL
def Ok.look{K:Frag}(o:Ok K H₀ H O σ ds hd) i:∃O',Ok K H₀ H O' σ (relO i ds) hd:=by
 by_cases hs:∃r T,ds[i]?=some (.ob r T)
 . obtain ⟨r,T,hl⟩:=hs;have e':relO i ds=ds.set i (.v (otD T)):=by unfold relO;rw [hl]
   rw[e'];exact o.frz hl
 . have e':relO i ds=ds:=by
    unfold relO;split
    . rename_i r T hl;exact(hs ⟨r,T,hl⟩).elim
    . rfl
   rw[e'];exact⟨O,o⟩
def LM i(h:PTv X e c):PTv X e (relTO i c):=by obtain⟨t,ht,hf⟩:=h;refine⟨t,ht,λH₀ H O σ ds hd b Q o e q=>?_⟩;obtain⟨O',o'⟩:=o.look i;exact hf H₀ H O' σ _ hd b Q o' e q
def AM i(h:PV X e f):PV X e (relVO i f):=by
 obtain⟨t,ht,hf⟩:=h;refine⟨t,ht,λH₀ H O σ ds hd d Q o e q=>?_⟩;obtain⟨O',o'⟩:=o.look i;unfold relVO at e;cases h1:f (relO i ds)with
 |none=>rw[h1]at e;cases e
 |some d'=>
   rw[h1]at e;simp only[aR,flV']at e;split at e
   . rename_i hfl;cases e;exact hf H₀ H O' σ _ hd _ Q o' h1 λv H' s r=>q v H' s (Rep.flatten (λa z=>((o.mono s).dom a z).elim λu e=>⟨_,e,u.2⟩) hfl r)
   . cases e
abbrev LkF(K:Frag)(f:aG)(oc:aN)(od:Option aG)(nm q:Str)(st:Stmt)(dV kV dc pm:aN)(an:Option aG)(cd ct:aN)(sl:Array (Option aN)):Prop:=K.lookup f=some ⟨oc,od,.func (dL nm q (yI st) (jG st) (zJ st) dV kV dc pm an cd ct),sl⟩
structure FunD(K:Frag)(x qual:Str)(st:Stmt)(f:aG)(fd:bR)(its:Array aN):Prop where
 ex:∃(Tu:aG) (ob:Obj) (n:Nat) (oc:aN) (od:Option aG) (kV doc pm:aN) (an:Option aG) (cdv ct:aN) (osl:Array (Option aN)),
  fd=dL x qual (yI st) (jG st) (zJ st) (.ref Tu) kV doc pm an cdv ct/\K.lookup f=some ⟨oc,od,.func fd,osl⟩/\fV K cdv qual=true/\K.lookup Tu=some ob/\ob.data=.seq its n
 kp:cE K (.ref f)=true
section
variable{P:cF}{w:dE}{K:Frag}{mg:Str->Option aN}{base:Heap}{x qual:Str}{st:Stmt}{f:aG}
def FunD.binds(F:FunD K x qual st f fd its)(h:∀Tu kV doc pm an cdv ct us,(us++ds).length=ps.length->∃k,sW (dL x qual (yI st) (jG st) (zJ st) (.ref Tu) kV doc pm an cdv ct) ⟨us,[]⟩=seqItems? (.ref Tu) >>= k/\k (some its)=pure (ps.zip (us++ds))):Binds K fd ps ds:=by obtain⟨Tu,ob,n,oc,od,kV,doc,pm,an,cdv,ct,osl,rfl,lk,hcd,lt,hs⟩:=F.ex;intro s us X hl;obtain⟨k,h1,h2⟩:=h Tu kV doc pm an cdv ct us hl;exact PySem.W.binds_K X rfl lt hs h1 h2
def len0{P:List aN->Prop}(h:P []):∀us,us.length=0->P us:=λus hl=>by cases us with|nil=>exact h|cons _ _=>cases hl
def lenS{P:List aN->Prop}(h:∀a us,us.length=n->P (a::us)):∀us,us.length=n+1->P us:=λus hl=>by cases us with|nil=>cases hl|cons a r=>exact h a r (Nat.succ.inj hl)
def len1{P:List aN->Prop}(h:∀a0,P [a0]):∀us,us.length=1->P us:=lenS λa=>len0 (h a)
def len2{P:List aN->Prop}(h:∀a0 a1,P [a0,a1]):∀us,us.length=2->P us:=lenS λa=>len1 (h a)
def len3{P:List aN->Prop}(h:∀a0 a1 a2,P [a0,a1,a2]):∀us,us.length=3->P us:=lenS λa=>len2 (h a)
def len4{P:List aN->Prop}(h:∀a0 a1 a2 a3,P [a0,a1,a2,a3]):∀us,us.length=4->P us:=lenS λa=>len3 (h a)
def len5{P:List aN->Prop}(h:∀a0 a1 a2 a3 a4,P [a0,a1,a2,a3,a4]):∀us,us.length=5->P us:=lenS λa=>len4 (h a)
def DefM(K:Frag)(x:Str)(st:Stmt)(f:aG):Prop:=∃(oc:aN) (od:Option aG) (kV dc pm:aN) (an:Option aG) (cd ct:aN) (sl:Array (Option aN)),aX K aV x=some (some (.ref f))/\LkF K f oc od x x st .none kV dc pm an cd ct sl/\fV K cd x=true/\cE K (.ref f)=true
def DefC(K:Frag)(C:aG)(m q:Str)(st:Stmt)(f:aG):Prop:=∃(oc:aN) (od:Option aG) (kV dc pm:aN) (an:Option aG) (cd ct:aN) (sl:Array (Option aN)),cP K (.ref C) m=some (some (.ref f))/\LkF K f oc od m q st .none kV dc pm an cd ct sl/\fV K cd q=true/\cE K (.ref f)=true/\nZ K (.ref f)=true
def DefM.get(h:DefM K x st f):∃fd,Fun K x x st f fd/\aX K aV x=some (some (.ref f))/\cE K (.ref f)=true:=by obtain⟨_,_,_,_,_,_,_,_,_,a,l,c,k⟩:=h;exact⟨_,JF l c k,a,k⟩
def DefC.get(h:DefC K C m q st f):∃fd,Fun K m q st f fd/\cP K (.ref C) m=some (some (.ref f))/\cE K (.ref f)=true/\nZ K (.ref f)=true:=by obtain⟨_,_,_,_,_,_,_,_,_,a,l,c,k,i⟩:=h;exact⟨_,JF l c k,a,k,i⟩
def aFj(G:FnOk P w K mg base CX0 k f fd ps (spF K n F))(b:Binds K fd ps [])(h:cE K (.ref f)=true)(m:mg x=some (.ref f)):Cal P w K mg base x k n F:=⟨f,_,_,G,b,h,m⟩
structure SysAt(P:cF)(w:dE)(base:Heap)(K:Frag)(mg:Str->Option aN):Prop where
 ex:∃h:Heap,K.In h/\h.Ns aV mg
def CN(K:Frag)(x:Str)(C:aG):Prop:=aX K aV x=some (some (.ref C))/\kY K C Str.empty=true/\nC K C=true/\sG K C=true/\cP K (.ref C) "__setattr__" = some (some (.builtin "object.__setattr__"))
def CN.get(h:CN K x C):aX K aV x=some (some (.ref C))/\Cls K C:=⟨h.1,⟨h.2.1,h.2.2.1,h.2.2.2.1,h.2.2.2.2⟩⟩
def fldOk_c{f:Str}(a:aX K aV (eP t)=some (some (.ref C)))(c:Cls K C)(n:NoAttr K C f)(h:FldOk K f ix)(h1:(fD t)[i]?=some f:=by rfl)(h2:∀j,j<i->(fD t)[j]?≠some f:=by decide +kernel):FldOk K f ((t,i)::ix):=RB a c n h1 h2 h
def XN(K:Frag)(A B:aG):Prop:=PySem.W.isClsIn K B=true/\ZI K (.ref B)=some (.type "type")/\PySem.W.subIn K (.ref A) (.ref B)=some false/\(aN.ref A==aN.ref B)=false
def XI(K:Frag)(x:Str)(C:aG):Prop:=aX K aV x=some (some (.ref C))/\cP K (.ref C) "__getattribute__" = some (some (.builtin "BaseException.__getattribute__"))/\cP K (.ref C) "__getattr__" = some none/\cP K (.ref C) "__class__" = some (some (.builtin "object.__class__"))/\DX K C (.type "object")=some true/\DX K C (.type "BaseException")=some true
def DefM.cal(d:DefM K x st f)(X:SysAt P w base K mg)(hf:∀{fd},Fun K x x st f fd->FnOk P w K mg base CX0 k f fd ps (spF K n F))(hb:∀kV doc pm an cdv ct us,us.length=ps.length->sW (dL x x (yI st) (jG st) (zJ st) .none kV doc pm an cdv ct) ⟨us,[]⟩=pure (ps.zip us):=by
    intro _ _ _ _ _ _;first|exact len0 rfl|exact len1 λ_=>rfl|exact len2 λ_ _=>rfl|exact len3 λ_ _ _=>rfl|exact len4 λ_ _ _ _=>rfl|exact len5 λ_ _ _ _ _=>rfl):Cal P w K mg base x k n F:=by
 obtain⟨_,F1,a,c⟩:=d.get;obtain⟨_,X,G⟩:=X.ex;exact aFj (hf F1) (F1.binds hb) c (fP X G a)
def DefC.mc(d:DefC K C m q st f)(a:aX K aV (eP t)=some (some (.ref C)))(c:Cls K C)(hf:∀{fd},Fun K m q st f fd->FnOk P w K mg base CX0 j f fd ps (spF K (n+1) (F t)))(h:MCal P w K mg base m k n cs F)(hj:j<=k:=by decide)(hn:m∉fD t:=by decide +kernel)(hb:∀kV doc pm an cdv ct us,us.length=ps.length->sW (dL m q (yI st) (jG st) (zJ st) .none kV doc pm an cdv ct) ⟨us,[]⟩=pure (ps.zip us):=by
    intro _ _ _ _ _ _;first|exact len1 λ_=>rfl|exact len2 λ_ _=>rfl|exact len3 λ_ _ _=>rfl):MCal P w K mg base m k n (t::cs) F:=by
 obtain⟨_,F1,x,y,z⟩:=d.get;exact XJ a c ⟨x,z,y⟩ (hf F1) hj (F1.binds hb) hn h
def DefC.lc(d:DefC K C m q st f)(a:aX K aV (eP t)=some (some (.ref C)))(c:Cls K C)(hf:∀{fd},Fun K m q st f fd->FnOk P w K mg base CX0 j f fd ps (spL K n (F t)))(h:LCal P w K mg base m k n cs F)(hj:j<=k:=by decide)(hn:m∉fD t:=by decide +kernel)(hb:∀kV doc pm an cdv ct us,us.length=ps.length->sW (dL m q (yI st) (jG st) (zJ st) .none kV doc pm an cdv ct) ⟨us,[]⟩=pure (ps.zip us):=by
    intro _ _ _ _ _ _;first|exact len1 λ_=>rfl|exact len2 λ_ _=>rfl|exact len3 λ_ _ _=>rfl):LCal P w K mg base m k n (t::cs) F:=by
 obtain⟨_,F1,x,y,z⟩:=d.get;exact XR a c ⟨x,z,y⟩ (hf F1) hj (F1.binds hb) hn h
def newOk(n:aX K aV (eP t)=some (some (.ref C)))(c:Cls K C)(na:NoAttr K C a):∀C',aX K aV (eP t)=some (some (.ref C'))->Cls K C'/\NoAttr K C' a:=λC' e=>by rw[n]at e;cases e;exact⟨c,na⟩
end
def WH(M:MCal X.prog X.w X.K X.mg X.base m k 0 cs F)(hr:Room j X.A)(ho:PV X o fo)(hj:k<=j:=by decide)(ht:cI (.Call (.Attribute o m apos) [] [] pos) X.env=(do
    let ov <- cI o X.env
    mX apos.atName
    let (f,first) <- gN [ov] (nS ov m pl)
    DU pos f first (dS pos (aK [] X.env)) (lQ pos (gA [] X.env))):=by rfl):PVf X (.Call (.Attribute o m apos) [] [] pos) (methF 0 cs F fo zT):=by
 obtain⟨ta,pa,hfo⟩:=ho;refine⟨_,WQ pa (hr.mono hj) ht,λH₀ H O σ ds hd d Q o e q=>?_⟩;obtain⟨x,h1,e⟩:=bnd e;simp[zT,aR]at e;obtain⟨r,h3,e⟩:=bnd e;refine CB (g:=zT) M hfo (λ_ H _ _ _ _ _ _ _ e q=>by cases e;exact q _ H (Same.refl _) .nil) o h1 rfl h3 λv H1 H' s1 s' ro=>?_;obtain⟨a,xs,rfl,h4,h5,h6⟩:=II ro e λa ha=>(o.mono s1).old ha;exact q a xs H' (s1.trans s') (s1.free h4) h5 h6
end FL
namespace L2
section
variable{prog:cF}{w:dE}{A:eX}{E:aN->bH->Prop}{s:bH}
end
def Inv.thawD(I:Inv X aC σ H s)(e:H a=some (.frz o (.dK kvs)))(dat:o.data=.dict es ep)(hn:∀q u,X.H₀ a≠some (.frz q u)):Inv X aC σ (upd H a (.dK kvs)) s:=by
 have ne:∀{b},H b=none->b≠a:=λ{b} h z=>by rw[z,e]at h;cases h
 have ho:=(I.hok a _ e).1;refine⟨I.ok,I.os,I.bare,⟨I.base.keep,I.base.slot,λb q x n hx=>?_,I.base.there,λb xs q=>?_,λb q u z=>?_,λb ps q=>?_⟩,I.loc,I.cell,by rw[upd_ne (ne I.free)];exact I.free,λx c q=>?_,λp hp=>?_,λb u q=>?_,I.len⟩
 . have:=I.base.free b q x n hx;rw[upd_ne (ne this)];exact this
 . have:=I.base.tups b xs q;rw[upd_ne (λz=>by rw[z,e]at this;cases this)];exact this
 . have:=I.base.frzs b q u z;rw[upd_ne (λy=>by rw[y]at z;exact hn q u z)];exact this
 . have:=I.base.tbls b ps q;rw[upd_ne (λz=>by rw[z,e]at this;cases this)];exact this
 . have hca:c≠a:=λz=>by
    obtain⟨v,hc⟩:=I.cell x c q;obtain⟨q',hc,hd⟩:=hc;rw[z,ho]at hc;have:=Option.some.inj hc;rw[<-this,dat]at hd;cases hd
   rcases I.freeC x c q with h|⟨h1,q',u,h2⟩
   . exact .inl (by rw[upd_ne hca];exact h)
   . exact .inr ⟨h1,q',u,by rw[upd_ne hca];exact h2⟩
 . obtain⟨p1,p2,p3⟩:=I.pin p hp;exact⟨p1,by rw[upd_ne (ne p2)];exact p2,p3⟩
 . by_cases hb:b=a
   . subst hb;rw[zQ]at q;cases q;exact(I.hok b _ e).2
   . rw [upd_ne hb]at q;refine (I.hok b u q).stay (λ_ _ _ z=>z) (λc z=>?_) λc xs z=>?_
     . rw[upd_ne (λy=>by rw[y,e]at z;cases z)];exact z
     . obtain ⟨w,hw⟩:=xs;have z':=z;rw [upd_ne (λy=>?_)]
       . exact z
       . rw[y,e]at z';cases z';obtain⟨vs,hv⟩:=hw;rw[dat]at hv;cases hv
noncomputable def ItV(d:aG)(o:Obj)(kvs:List (Key×V)):It:=
 ⟨λi H=>H d=some (.frz o (.dK kvs))/\i<kvs.length,λi H v H'=>H'=H/\∃k,kvs[i]?=some (k,v),λi H=>H d=some (.frz o (.dK kvs))/\kvs.length<=i⟩
def OM{P:cF}{w:dE}{K:aP}{tg:Expr}(it d:aG)(o:Obj)(kvs:List (Key×V)){en:Array DictEntry}{ep:Nat}(dat:o.data=.dict en ep) :
  Turn P w K tg (ItV d o kvs) [it] it (λi h=>h.IsValIter it d i kvs.length ep) where
 mem:=by simp
 obj:=λi h st b hb=>by rw[aO.mp hb];obtain⟨q,e,c,dt⟩:=st;exact⟨q,e,λv z=>by rw[dt]at z;cases z⟩
 keep:=λi h h' st k=>let ⟨q,e,r⟩:=st;⟨q,k it (by simp) _ e,r⟩
 item:=by
  intro X hP hw hK hc i aC s σ H E I hf st hg;subst hP hw hK;obtain⟨hd,hi⟩:=hg;obtain⟨vs,rel,hat⟩:=xY I hd dat;have hl:=rel.length;obtain⟨k,x,hx⟩:∃k x,kvs[i]?=some (k,x):=⟨kvs[i].1,kvs[i].2,aF hi⟩
  obtain⟨u,hu,ru⟩:=rel.get hx;obtain⟨f0,f1,f2,f3,f4,f5⟩:=hf it (by simp);rw[hl]at st;refine wpAny_pyNext_values_item st hat hu λh' st' sb=>?_;have I1:=I.turned (t':=s.toks) (λb o hb e=>(sb.2 b hb).trans e) f0 f1 f3 f4 f5;obtain⟨q,e,c,dt⟩:=id st';exact⟨u,rfl,HN e c dt (by decide) ⟨x,H,I1,ru,⟨rfl,k,hx⟩,by rw[hl];exact st',λb hb=>(hf b hb).1⟩⟩
 done:=by intro X hP hw hK hc i aC s σ H E I hf st hg;subst hP hw hK;obtain⟨hd,hi⟩:=hg;obtain⟨vs,rel,hat⟩:=xY I hd dat;have hl:=rel.length;obtain⟨f0,f1,f2,f3,f4,f5⟩:=hf it (by simp);rw[hl]at st;exact wpAny_pyNext_values_end (I.ok.hd hc) st hat (aY (by lia)) λh' eb=>⟨rfl,I.turned (λb o hb e=>eb b o hb e) f0 f1 f3 f4 f5⟩
 self:=λ_ _ _ _ _ st h=>wpAny_pyIter_valiter st h
def iDV(to:TE):TI:=λσ H R=>to σ H λx H1=>∃d o kvs,x=.ref d/\H1 d=some (.frz o (.dK kvs))/\R (ItV d o kvs) H1
def aCj(ho:PE X oe to)(hbase:fA oe "values" X.env (cI oe X.env)=cI oe X.env:=by rfl)(hline:(apos.endLine==pos.line)=true:=by rfl) :
  PI X tg (.Call (.Attribute oe "values" apos) [] [] pos) (iDV to):=by
 intro aC s σ H R I h;refine wpAny_Call_method0_late hbase hline (thn (ho aC s σ H _ I h) λv s1 zq=>?_);obtain⟨x,H1,I1,r1,d,o,kvs,ex,hd,q⟩:=zq;subst ex;obtain rfl:v=aN.ref d:=r1;obtain⟨hob,z,hds,vs,rel,dd⟩:=I1.hok d _ hd;obtain⟨o',en,ep,e1,exd,dat,r⟩:=id dd;rw[hob]at e1;cases e1;have hat:s1.heap.DictAt (fN X.prog X.w) d vs ep:=⟨o,en,hob,exd,dat,r⟩
 refine⟨"dict","dict.values",PySem.F.plainAttrs_dict,EA,PySem.F.type_dict_values,⟨o,hob,exd.1⟩,λa e2=>?_,Calls.callWith_builtin rfl (PySem.evalArgs_none (call_meetsIn EA dd.typeIs PySem.F.entry_dict_values (PySem.F.args_dict_values_1 _) (meets_dict_values (fN X.prog X.w) d hds) ⟨⟨vs,dd⟩,?_⟩))⟩
 . cases e2;exact⟨o,hob,exd.2.1⟩
 . refine wpAny_pyIter_values ⟨_,aU _ rfl,rfl,rfl⟩ (hat.push _) ?_;have I2:Inv X aC σ H1 {s1 with heap:=s1.heap.push {cls:=.type "dict_values",data:=.fields #[.ref d]} }:=I1.kept λb o e=>aD _ e;refine ⟨_,[_],_,_,H1,rfl,I2.kept λb o e=>aD _ e,OM _ d o kvs dat,?_,λc hc=>?_,q⟩
   . rw[rel.length];exact⟨_,aU _ rfl,rfl,rfl⟩
   . rw[aO.mp hc];exact I2.fpOk (aM _) (I2.hok.fresh (aM _))
end L2
namespace FL
section
variable{scope:Scope}
def YU(hi:∀H₀ H O σ ds hd items R,Ok X.K H₀ H O σ ds hd->fi ds=some items->(∀J p H',Same H H'->HOk X.K H₀ H' O p->(∀k a,HI.root k a≠p)->(∀B,HI.base B≠p)->WlkD X.K J p items->R J H')->wi σ H R)(hg:∀c H₀ H O σ ds hd v d ds' Q,Ok X.K H₀ H O σ ds hd->Rep X.K H O v d->ga d ds=some ds'->(∀σ',Ok X.K H₀ H O σ' ds' hd->Q σ' H)->g c v σ H Q)(ht:∀c H₀ H O σ ds hd b Q,Ok X.K H₀ H O σ ds hd->tt ds=some b->(∀H',Same H H'->Q b H')->t1 c σ H Q)(he:∀c H₀ H O σ ds hd d Q,Ok X.K H₀ H O σ ds hd->fe ds=some d->(∀v H',Same H H'->Rep X.K H' O v d->Q v H')->t2 c σ H Q) :
  ∀H₀ H O σ ds hd l Q,Ok X.K H₀ H O σ ds hd->compG fi mp ga tt fe ds=some l →
   (∀a xs H',Same H H'->H a=none->H' a=some (.lst xs)->Reps X.K H' (ins1 a O) xs l->Q (.ref a) H')->tComp wi mp g t1 t2 σ H Q:=by
 intro H₀ H O σ ds hd l Q o e q;obtain⟨items,h1,e⟩:=bnd e;split at e
 . rename_i hsz;refine hi H₀ H O σ ds hd items _ o h1 λJ p H1 s1 r1 nr nb wk=>λc=>?_;have oI:=((o.mono s1).holdMore r1 nr).inner mp
   refine⟨λi m ys H2=>i<=items.length/\m=items.length-i/\Same H1 H2/\ys.length<=i/\∃l' rest,Reps X.K H2 O ys l'/\compL ga tt fe (jJ mp ds) (items.drop i)=some rest/\l=l'++rest,
    ⟨items.length,bZ _,rfl,Same.refl _,aM _,[],l,.nil,by simpa using e,rfl⟩,?_⟩
   rintro i m ys H2 ⟨hi1,rfl,s2,hy,l',rest,ry,er,el⟩;have o2:=oI.mono s2;obtain⟨go,stop⟩:=wk H₀ H2 O o2.dom (o2.hold p aS);by_cases hlt:i<items.length
   . right;have hd0:=aF hlt;obtain ⟨hgo,hyl⟩:=go i _ hd0;refine ⟨hgo,by lia,λx H3 y=>?_⟩;obtain ⟨s3,r3⟩:=hyl x H3 y;rw [cO hlt,compL]at er;obtain ⟨ds1,h2,er⟩:=bnd er;refine hg c H₀ H3 O _ _ (p::hd) x _ ds1 _ (o2.mono s3) r3 h2 λσ' o3=>?_;obtain ⟨b,h3,er⟩:=bnd er;refine ht c H₀ H3 O σ' ds1 (p::hd) b _ o3 h3 λH4 s4=>?_;cases b with
     |false=>refine iteF ⟨items.length-(i+1),by lia,hlt,rfl,(s2.trans s3).trans s4,aAe hy,l',rest,(ry.mono s3).mono s4,by simpa using er,el⟩
     |true=>
       obtain⟨yd,h4,er⟩:=bnd er;cases h5:compL ga tt fe (jJ mp ds) (items.drop (i+1))with
       |none=>rw[h5]at er;cases er
       |some rest'=>rw[h5]at er;cases er;refine he c H₀ H4 O σ' ds1 (p::hd) yd _ (o3.mono s4) h4 λv H5 s5 r5=>?_;refine⟨items.length-(i+1),by lia,hlt,rfl,((s2.trans s3).trans s4).trans s5,by simp;lia,l'++[yd],rest',(((ry.mono s3).mono s4).mono s5).append (.cons r5 .nil),h5,?_⟩;rw[el];simp
   . left;have ei:i=items.length:=by lia
     subst ei;rw[gC,compL]at er;cases er;rw[dM]at el;subst el;refine⟨stop,by lia,λa ha=>?_⟩;refine q a ys _ ((s1.trans s2).trans (qM ha _)) ((s1.trans s2).free ha) zQ ?_;exact(ry.more ha).mono (qM ha _)
 . cases e
end
def VW{K:Frag}: WlkD K (ItV d o kvs) (.fz d o kvs l) l:=by
 intro H₀ H O dom ⟨n,hd,rs⟩;have hl:l.length=kvs.length:=by rw[<-rs.length];simp
 refine⟨λi x hx=>?_,⟨hd,by rw[hl];exact aM _⟩⟩;have lt:i<kvs.length:=by rw[<-hl];exact(aW.mp hx).1
 refine⟨⟨hd,lt⟩,λv H' zq=>?_⟩;obtain⟨e,k,hk⟩:=zq;subst e;have h2:(kvs.map (·.2))[i]?=some v:=by rw[bI,hk];rfl
 obtain⟨y',h4,h5⟩:=rs.get hx;rw[h2]at h4;cases h4;exact⟨Same.refl _,h5⟩
def aCg(h:PV X oe f)(hbase:fA oe "values" X.env (cI oe X.env)=cI oe X.env:=by rfl)(hline:(apos.endLine==pos.line)=true:=by rfl) :
  PId X tg (.Call (.Attribute oe "values" apos) [] [] pos) (valsA f):=by
 obtain⟨t,ht,hf⟩:=h;refine⟨_,aCj ht hbase hline,λH₀ H O σ ds hd items R o e q=>?_⟩;obtain⟨x,h1,e⟩:=bnd e;refine hf H₀ H O σ ds hd x _ o h1 λv H1 s1 r1=>?_;cases x<;>first|(cases e;done)|skip
 cases e;cases r1 with
 |@dcf a ob kvs _ _ n hb ek rs=>exact⟨a,ob,kvs,rfl,hb,q _ (.fz a ob kvs _) H1 s1 ⟨n,hb,rs⟩ (λ_ _ z=>by cases z) (λ_ z=>by cases z) VW⟩
def PVo.n(h:PVo X e f):PVn X e (seeO f):=by obtain⟨t,ht,hf⟩:=h;refine⟨t,ht,λH₀ H O σ ds hd d Q o e q=>?_⟩;obtain⟨T,h1,rfl⟩:=mpd e;exact hf H₀ H O σ ds hd T Q o h1 λv H' fs s r nd hn=>q v H' s (r.frz λa z=>z.elim)
def GO i(hN:X.N[i]?=some x:=by rfl)(hv:Vis X.env.scope x:=by first | exact Or.inl rfl | exact Or.inr (Or.inl rfl) | exact Or.inr (Or.inr rfl))(hd:(x==("__debug__" : Str))=false:=by decide)(hcd:(x==("__classdict__" : Str))=false:=by decide):PSv X (.Return (some (.Name x pos')) pos) (retBv i):=by
 refine⟨_,BV (xT hN hv hd hcd),λH₀ H O σ ds hd out E o e h=>?_⟩;unfold retBv at e;cases hs:ds[i]? with
 |none=>rw[hs]at e;cases e
 |some s=>
   rw[hs]at e;cases s with
   |ob r T=>
     cases r with
     |none=>
       simp only at e;split at e
       . rename_i hf;cases e;obtain ⟨F,hF⟩:=o.obs;obtain ⟨v,h1,h2,h3,h4,h5⟩:=hF i none T hs;refine ⟨v,h1,h _ _ o.same ⟨F i,RepO.flatten (λa z=>?_) hf h2 λb hb=>.inl hb,h4,λb hb=>(h5 b hb).1⟩ True.intro⟩;rcases z with z|z
         . obtain⟨_,xs,ex⟩:=h2.owns a z;exact⟨_,ex,xs.2⟩
         . exact Old.mono o.same z
       . cases e
     |some _=>cases e
   |_=>cases e
end FL
namespace L2
end L2
namespace FL
section
variable{prog:cF}{w:dE}{A:eX}{E:aN->bH->Prop}{s:bH}
end
section
variable{tg:Expr}
end
section
variable{K:Frag}
def ok_lend(rt:RepO K H (orL fs B) (.ref a) T fs)(nd:fs.Nodup)(hB:∀b,B b->b∉fs/\∃u:MutHO,H b=some u.1)(hl:σ.length=ds.length)(hp:ds[p]?=some (.ob (some p) T))(ha:σ[p]?=some (some (.ref a)))(ho:∀j s,j≠p->ds[j]?=some s->s=.no\/∃d v,s=.v d/\σ[j]?=some (some v)/\Rep K H (orL fs B) v d) :
  Ok K (cutH fs H) H (orL fs B) σ ds [.root p a,.base B]:=by
 have no:∀{j:Nat},¬IsOwn ds j:=λ{j} ⟨l,e⟩=>by
  by_cases hj:j=p
  . subst hj;rw[hp]at e;cases e
  . rcases ho j _ hj e with h|⟨d,v,h,_⟩<;>cases h
 have nob:∀{j:Nat}{r:Option Nat}{t:OT},ds[j]?=some (.ob r t)->j=p:=λ{j r t} e=>by
  by_cases hj:j=p
  . exact hj
  . rcases ho j _ hj e with h|⟨d,v,h,_⟩<;>cases h
 refine⟨λb u e=>?_,λi l' a' e _=>(no ⟨l',e⟩).elim,λb hb=>hb.elim (λz=>(rt.owns b z).2) λz=>(hB b z).2,hl,λi s e=>?_,λi j a _ hi _ _ _=>(no hi).elim,λq hq=>?_,?_⟩
 . by_cases z:b∈fs
   . rw[AS z]at e;cases e
   . rwa [xF z]at e
 . by_cases hi:i=p
   . subst hi;rw[hp]at e;cases e;exact yL
   . rcases ho i s hi e with rfl|⟨d,v,rfl,e2,r⟩
     . exact jI
     . rw[e2];exact yH r
 . rcases aB.mp hq with rfl|hq
   . exact True.intro
   . cases aO.mp hq;refine λb hb=>⟨.inr hb,λz=>?_⟩
     obtain⟨n,u,e⟩:=hB b hb;rw[xF n,e]at z;cases z
 . refine ⟨λ_=>fs,λi r' t' e=>?_⟩;cases nob e;rw [hp]at e;cases e;refine ⟨.ref a,ha,rt,λk a' ek h=>?_,nd,λb hb=>⟨AS hb,λj r2 t2 hj e2=>(hj (nob e2)).elim,λj oj=>(no oj).elim⟩⟩;rcases aB.mp h with h|h
   . cases h;rfl
   . cases aO.mp h
def Ok.lendEnd(o:Ok K (cutH fs H) H' O' σ ds hd)(e:ds[p]?=some (.ob (some p) T))(h1:HI.root p a∈hd)(h2:HI.base B∈hd) :
  ∃fs',(∀b u,b∉fs->H b=some u->H' b=some u)/\RepO K H' (orL fs' B) (.ref a) T fs'/\fs'.Nodup/\(∀b∈fs',b∈fs\/H b=none)/\∀b,orL fs' B b->O' b:=by
 obtain⟨F',hF⟩:=o.obs;obtain⟨v,y1,y2,y3,y4,y5⟩:=hF p _ _ e;cases y3 p a rfl h1;have hb:=o.hold (.base B) h2;have sub:∀b,orL (F' p) B b->O' b:=λb z=>z.elim (λz=>(y2.owns b z).1) λz=>(hb b z).1;exact⟨F' p,λb u nb eb=>o.same b u (by rw[xF nb];exact eb),y2.less sub λb z=>.inl z,y4,λb z=>HQ (y5 b z).1,sub⟩
def aFe(h1:∀b,O b->b∈fs\/B b)(h2:∀b∈fs,O b)(h3:∀b,B b->O b)(k1:∀b u,b∉fs->H b=some u->H' b=some u)(k4:∀b∈fs',b∈fs\/H b=none):Chg H H' O (orL fs' B) fs fs':=
 ⟨λb u nb eb=>k1 b u (λz=>nb (h2 b z)) eb,λb u _ nb eb=>k1 b u nb eb,λb z nb=>.inr ((h1 b z).resolve_left nb),λb z=>z.elim (λz=>(k4 b z).elim (λy=>.inl (h2 b y)) λy=>.inr ⟨z,y⟩) λz=>.inl (h3 b z),k4⟩
def Ok.lendAt(o:Ok K H₀ H O σ ds hd)(e:ds[i]?=some (.ob r T))(hT:refO T=true) :
  ∃a fs,σ[i]?=some (some (.ref a))/\RepO K H O (.ref a) T fs/\fs.Nodup/\(∀b∈fs,O b) ∧
   ∀{H':Hp}{T':OT}{fs':List aG},(∀b u,b∉fs->H b=some u->H' b=some u)->RepO K H' (orL fs' (λb=>O b/\b∉fs)) (.ref a) T' fs'->fs'.Nodup->(∀b∈fs',b∈fs\/H b=none) →
    Ok K H₀ H' (orL fs' (λb=>O b/\b∉fs)) σ (ds.set i (.ob r T')) hd:=by
 obtain⟨v,w,f,y1,y2,y3,y4,y5,y6⟩:=o.modAt (p:=[]) e rfl;cases y2;have ow:=λb z=>(y3.owns b z).1;have hv:∃a,v=.ref a:=by
  cases y3 with
  |val _=>cases hT
  |lst _ _ _=>exact⟨_,rfl⟩
  |tup _ _ _=>exact⟨_,rfl⟩
  |dct _ _ _ _=>exact⟨_,rfl⟩
  |ins _ _ _ _ _=>exact⟨_,rfl⟩
 obtain⟨a,rfl⟩:=hv;refine⟨a,f,y1,y3,y4,ow,λ{H' T' fs'} k1 k2 k3 k4=>?_⟩;have:=y6 (aFe (λb z=>(Classical.em (b∈f)).imp id λy=>⟨z,y⟩) ow (λb z=>z.1) k1 k4) (λb z y=>y.elim (λy=>(k2.owns b y).2) λy=>(y.2 z).elim) k2 k3;exact this
end
noncomputable def spR(K:Frag)(n p:Nat)(F:OT->List D->Option (D×OT)):Sp:=λvs H Q _=>vs.length=n/\∃(a:aG) (T T':OT) (d:D) (fs:List aG) (B:aG->Prop) (l:List D),vs[p]?=some (.ref a)/\l.length=n/\RepO K H (orL fs B) (.ref a) T fs/\fs.Nodup ∧
 (∀b,B b->b∉fs/\∃u:MutHO,H b=some u.1)/\(∀(j:Nat) (d:D),j≠p->l[j]?=some d->∃v,vs[j]?=some v/\Rep K H (orL fs B) v d)/\F T l=some (d,T') ∧
 ∀v H' fs',(∀b u,b∉fs->H b=some u->H' b=some u)->RepO K H' (orL fs' B) (.ref a) T' fs'->fs'.Nodup->(∀b∈fs',b∈fs\/H b=none)->Rep K H' (orL fs' B) v d->Q v H'
variable(X) in
def PRv(ss:List Stmt)(f:FX):Prop:=∃t,PSs X ss t/\∀H₀ H O σ ds hd d ds' (E:Ends),Ok X.K H₀ H O σ ds hd->f ds=some (d,ds')->(∀v σ' H' O',Ok X.K H₀ H' O' σ' ds' hd->Rep X.K H' O' v d->E.rt v H')->t E σ H
def pvx_v(h:PV X e f):PVx X e (vR f):=by obtain⟨t,ht,hf⟩:=h;refine⟨t,ht,λH₀ H O σ ds hd d ds' Q o e q=>?_⟩;obtain⟨d,h1,e⟩:=mpd e;cases e;exact hf H₀ H O σ ds hd _ _ o h1 λv H' s r=>q v H' O (o.mono s) r
def prv_ret(h:PVx X e f):PRv X [.Return (some e) pos] f:=by obtain⟨t,ht,hf⟩:=h;refine⟨_,TK (BV ht),λH₀ H O σ ds hd d ds' E o e q=>?_⟩;exact hf H₀ H O σ ds hd d ds' _ o e λv H' O' o' r=>q v σ H' O' o' r
def jP{st:Stmt}{rest:List Stmt}(h1:PSv X st g)(h2:PRv X rest f):PRv X (st::rest) (seqR g f):=by
 obtain⟨t,ht,hg⟩:=h1;obtain⟨u,hu,hf⟩:=h2;refine⟨_,LR ht hu,λH₀ H O σ ds hd d ds' E o e q=>?_⟩;obtain⟨out,h1,e⟩:=bnd e;cases out with
 |nx ds2=>refine hg H₀ H O σ ds hd _ _ o h1 λσ' H' O' o'=>?_;exact hf H₀ H' O' σ' ds2 hd d ds' E o' e q
 |_=>cases e
def fun_okR{K:Frag}{st:Stmt}(Fn:Fun K x qual st f fd)(S:FnScope N ps (zJ st))(hbody:∀cdv A outer s H E,Room k (A.deeper (nH qual (zJ st) s.heap.objs.size f cdv))->PRv (cxOf CX0 P w K mg base N qual (zJ st) f cdv A outer s H E).nox (jG st) g)(hg:∀T l q,l.length=ps.length->F T l=some q->lentR g N.length p T l=some q)(hp:p<ps.length:=by decide)(hN:ps.length<=N.length:=by decide):FnOk P w K mg base CX0 (k+1) f fd ps (spR K ps.length p F):=by
 refine Fn.ok S (λvs H Q E h=>h.1) (λcdv A outer s H vs Q E hr h=>?_);obtain⟨hl,a,T,T',d,fs,B,l,ha,ll,rt,nd,hB,ra,e,q⟩:=h;obtain⟨t,ht,hf⟩:=hbody cdv A outer s H E hr;refine⟨t,ht,?_⟩;have hlen:(args N.length l).length=N.length:=by simp[args];lia
 have o:Ok K (cutH fs H) H (orL fs B) (L2.start N vs) ((args N.length l).set p (.ob (some p) T)) [.root p a,.base B]:=by
  refine ok_lend rt nd hB ?_ ?_ ?_ λj s' hj es=>?_
  . rw[List.length_set,hlen];simp[L2.start,bX,cD,pM];lia
  . rw[bB (by rw[hlen];lia)]
  . simp[L2.start];rw[bW (by simp;lia),bI,ha];rfl
  . rw [aE (Ne.symm hj)]at es;unfold args at es;by_cases hjl:j<l.length
    . rw[bW (by simpa using hjl),bI,aF hjl]at es;cases es;obtain⟨v,h1,h2⟩:=ra j _ hj (aF hjl);refine .inr ⟨_,v,rfl,?_,h2⟩;simp[L2.start];rw[bW (by simp;lia),bI,h1];rfl
    . rw [cL (by simpa using hjl),dX]at es;split at es
      . cases es;exact .inl rfl
      . cases es
 have e:=hg T l _ ll e;unfold lentR at e;cases h1:g ((args N.length l).set p (.ob (some p) T))with
 |none=>rw[h1]at e;cases e
 |some z=>
   obtain⟨d2,ds2⟩:=z;rw[h1]at e;simp only[aR]at e;cases h2:ds2[p]? with
   |none=>rw[h2]at e;cases e
   |some s0=>
     rw[h2]at e;cases s0 with
     |ob r T2=>
       cases r with
       |none=>cases e
       |some i=>
         simp only[obAt]at e;split at e
         . rename_i hi;subst hi;cases e;refine hf _ H _ _ _ _ _ _ _ o h1 λv σ' H' O' o' r=>?_;obtain⟨fs',k1,k2,k3,k4,k5⟩:=o'.lendEnd h2 (.head _) (.tail _ (.head _));exact q v H' fs' k1 k2 k3 k4 (r.less k5)
         . cases e
     |_=>cases e
structure CalR(P:cF)(w:dE)(K:Frag)(mg:Str->Option aN)(base:Heap)(x:Str)(k n p:Nat)(F:OT->List D->Option (D×OT)):Prop where
 ex:∃(f:aG) (fd:bR) (ps:List Str),FnOk P w K mg base CX0 k f fd ps (spR K n p F)/\Binds K fd ps []/\cE K (.ref f)=true/\mg x=some (.ref f)
variable(X) in
def PAx(i p:Nat)(es:List Expr)(g:FA):Prop:=∃t,PA X es t/\∀H₀ H O σ ds hd l r T v0 Q,Ok X.K H₀ H O σ ds hd->g ds=some l->ds[i]?=some (.ob r T)->σ[i]?=some (some v0) →
 (∀vs H',Same H H'->vs.length=l.length->vs[p]?=some v0->(∀(j:Nat) (d:D),j≠p->l[j]?=some d->∃v,vs[j]?=some v/\Rep X.K H' O v d)->Q vs H')->t σ H Q
def aCr(hr:PAs X es g)(hN:X.N[i]?=some x:=by rfl)(hv:Vis X.env.scope x:=by first|exact Or.inl rfl|exact Or.inr (Or.inl rfl)|exact Or.inr (Or.inr rfl))(hd:(x==("__debug__" : Str))=false:=by decide)(hcd:(x==("__classdict__" : Str))=false:=by decide)(hs:aK (.Name x px::es) X.env=(false,cI (.Name x px) X.env)::aK es X.env:=by rfl):PAx X i 0 (.Name x px::es) (hereA g):=by
 obtain⟨t,ht,hg⟩:=hr;refine⟨_,jN (xT hN hv hd hcd) ht hs,λH₀ H O σ ds hd l r T v0 Q o e e1 e2 q=>?_⟩;obtain⟨l1,h1,rfl⟩:=mpd e;refine⟨v0,e2,hg H₀ H O σ ds hd l1 _ o h1 λvs H' s rs=>?_⟩;refine q (v0::vs) H' s (by simp[rs.length]) rfl λj d hj ej=>?_;cases j with
 |zero=>exact(hj rfl).elim
 |succ j=>exact rs.get ej
def LX(ha:PV X e f)(hr:PAx X i p es g)(hs:aK (e::es) X.env=(false,cI e X.env)::aK es X.env:=by rfl):PAx X i (p+1) (e::es) (zC f g):=by
 obtain⟨t,ht,hf⟩:=ha;obtain⟨u,hu,hg⟩:=hr;refine⟨_,jN ht hu hs,λH₀ H O σ ds hd l r T v0 Q o e e1 e2 q=>?_⟩;obtain⟨d1,h1,e⟩:=bnd e;obtain⟨l1,h2,rfl⟩:=mpd e;refine hf H₀ H O σ ds hd d1 _ o h1 λv H1 s1 r1=>?_;refine hg H₀ H1 O σ ds hd l1 r T v0 _ (o.mono s1) h2 e1 e2 λvs H2 s2 hl hp rs=>?_;refine q (v::vs) H2 (s1.trans s2) (by simp[hl]) (by simpa using hp) λj d hj ej=>?_;cases j with
 |zero=>cases ej;exact⟨v,rfl,r1.mono s2⟩
 |succ j=>exact rs j d (λz=>hj (by rw[z])) ej
def WF(C:CalR X.prog X.w X.K X.mg X.base x k n p F)(hr:Room j X.A)(ha:PAx X i p (e::es) g)(hj:k<=j:=by decide)(hg:Gl X x:=by rfl)(hdb:(x==("__debug__" : Str))=false:=by decide)(he:aK (e::es) X.env=(false,cI e X.env)::aK es X.env:=by rfl)(hpl:(dS pos (aK es X.env)).any (·.1)=false:=by rfl) :
  PVx X (.Call (.Name x pp) (e::es) [] pos) (callR n i F g):=by
 obtain⟨t,ht,hf⟩:=ha;obtain⟨f,fd,ps,Fn,hb,hk,hm⟩:=C.ex;refine⟨_,AO Fn (hr.mono hj) hg hm hk hb .nil pass0 ht hdb he hpl,λH₀ H O σ ds hd d ds' Q o e q=>?_⟩;obtain⟨l,h,e⟩:=bnd e;cases hs:ds[i]? with
 |none=>rw[hs]at e;cases e
 |some s=>
   rw[hs]at e;cases s with
   |ob r T=>
     simp only at e;split at e
     . rename_i hc;obtain ⟨z,h2,e⟩:=mpd e;cases e;obtain ⟨a0,_,ea,_⟩:=o.lendAt hs hc.1;refine hf H₀ H O σ ds hd l r T _ _ o h hs ea λvs H1 s1 hl hp rs=>?_;have o1:=o.mono s1;obtain ⟨a,fs,ea',rt,nd,ow,back⟩:=o1.lendAt hs hc.1;rw [ea]at ea';cases ea';have toO:∀ b,orL fs (λb=>O b/\b ∉ fs) b->O b:=λb z=>z.elim (ow b) λz=>z.1;refine ⟨by simp [dM];rw [hl];exact hc.2,a0,T,z.2,z.1,fs,λb=>O b/\b ∉ fs,l,by simpa using hp,hc.2,rt.less toO (λb z=>.inl z),nd,λb z=>⟨z.2,o1.dom b z.1⟩,λj d hj ej=>?_,h2,λv H' fs' k1 k2 k3 k4 k5=>?_⟩
       . obtain⟨v,e1,e2⟩:=rs j d hj ej;exact⟨v,by simpa using e1,e2.less toO⟩
       . exact q v H' _ (back k1 k2 k3 k4) k5
     . cases e
   |_=>cases e
def aBx(hN:X.N.Nodup)(he:PVx X e f)(hi:X.N[i]?=some x:=by rfl)(hx:Loc X.env.scope x:=by first|exact Or.inl rfl|exact Or.inr rfl)(hs:eM e (some (.Name x pos')) pos.line X.env=pure false:=by rfl)(hf:X.fn x=true\/X.env.scope.names.lookup x=some .local:=by first|exact .inl rfl|exact .inr rfl):PSv X (.Assign [.Name x pos'] e pos) (setR i f):=by obtain⟨t,ht,hg⟩:=he;refine⟨_,IU hN hi hx ht hs hf,λH₀ H O σ ds hd out E o e h=>?_⟩;obtain⟨q,h1,rfl⟩:=mpd e;exact hg H₀ H O σ ds hd q.1 q.2 _ o h1 λv H' O' o' r=>h _ _ _ (o'.set r)
section
variable{K:Frag}
def calR_mk(G:FnOk P w K mg base CX0 k f fd ps (spR K n p F))(b:Binds K fd ps [])(h:cE K (.ref f)=true)(m:mg x=some (.ref f)):CalR P w K mg base x k n p F:=⟨f,_,_,G,b,h,m⟩
def DefM.calR{st:Stmt}(d:DefM K x st f)(X:SysAt P w base K mg)(hf:∀{fd},Fun K x x st f fd->FnOk P w K mg base CX0 k f fd ps (spR K n p F))(hb:∀kV doc pm an cdv ct us,us.length=ps.length->sW (dL x x (yI st) (jG st) (zJ st) .none kV doc pm an cdv ct) ⟨us,[]⟩=pure (ps.zip us):=by
    intro _ _ _ _ _ _;first|exact len0 rfl|exact len1 λ_=>rfl|exact len2 λ_ _=>rfl|exact len3 λ_ _ _=>rfl|exact len4 λ_ _ _ _=>rfl|exact len5 λ_ _ _ _ _=>rfl):CalR P w K mg base x k n p F:=
 by obtain⟨_,F1,a,c⟩:=d.get;obtain⟨_,X,G⟩:=X.ex;exact calR_mk (hf F1) (F1.binds hb) c (fP X G a)
end
open PySem.W (hideAll hideAll_get of_hideAll hideAll_none)
section
variable{M:Model}{A:eX}{E:aN->bH->Prop}{s:bH}{B:Heap}{l outer:List Env}{env:Env}{e L:aG}{cls a0 fl:aN}{Q:Unit->bH->Prop}
end
section
variable{E:XK}{C:aG}
end
section
variable{E:XK}{C:aG}{scope:Scope}{NY:List Str}{mp:List (Option Nat)}{tg iter elt:Expr}{pos:Pos}{fi:FA}{ga:D->List Sl->Option (List Sl)}{fe:FE}{x:List Sl->Bool}
end
section
variable{E:XK}{C:aG}{m:Str}{t k j n:Nat}{R:List D->Bool}{fo:FE}{g:FA}
def LH i(h:PVo X e f):PVo X e (relGO i f):=by
 obtain⟨t,ht,hf⟩:=h;refine⟨t,ht,λH₀ H O σ ds hd T Q ok ex q=>?_⟩;obtain⟨O',o'⟩:=ok.look i;unfold relGO at ex;obtain⟨T',h1,ex⟩:=bnd ex;split at ex
 . rename_i hfl;cases ex;refine hf H₀ H O' σ _ hd _ Q o' h1 λv H' fs s r nd nw=>q v H' fs s ?_ nd nw;refine RepO.flatten (λa z=>?_) hfl r λb hb=>.inl hb;rcases z with z|z
   . obtain⟨_,u,e⟩:=r.owns a z;exact⟨u.1,e,u.2⟩
   . obtain⟨u,e⟩:=(ok.mono s).dom a z;exact⟨_,e,u.2⟩
 . cases ex
def IL(h:PVo X e f):PV X e (ofO f):=by obtain⟨t,ht,hf⟩:=h;refine⟨t,ht,λH₀ H O σ ds hd d Q ok ex q=>?_⟩;obtain⟨T,h1,rfl⟩:=mpd ex;refine hf H₀ H O σ ds hd T Q ok h1 λv H' fs s r nd nw=>q v H' s (r.val' λa z=>⟨.inr z,λhb=>?_⟩);obtain⟨u,e⟩:=ok.dom a z;rw[nw a hb]at e;cases e
end
section
variable{E:XK}{C:aG}{m:Str}{t k j n:Nat}{R:List D->Bool}{o e:Expr}{es:List Expr}{apos pos:Pos}{fo:FE}{g:FA}
end
section
variable{scope:Scope}{NY:List Str}{mp:List (Option Nat)}{tg iter elt:Expr}{ifs:List Expr}{pos:Pos}{fi:FA}{ga:D->List Sl->Option (List Sl)}{tt:FT}{fe:FE}
end
end FL
namespace L2
noncomputable def ItK(d:aG)(o:Obj)(kvs:List (Key×V)):It:=
 ⟨λi H=>H d=some (.frz o (.dK kvs))/\i<kvs.length,λi H v H'=>H'=H/\∃k x,kvs[i]?=some (k,x)/\v=kV k,λi H=>H d=some (.frz o (.dK kvs))/\kvs.length<=i⟩
def ON{P:cF}{w:dE}{K:aP}{tg:Expr}(it d:aG)(o:Obj)(kvs:List (Key×V)){en:Array DictEntry}{ep:Nat}(dat:o.data=.dict en ep) :
  Turn P w K tg (ItK d o kvs) [it] it (λi h=>h.IsKeyIter it d i kvs.length ep) where
 mem:=by simp
 obj:=λi h st b hb=>by rw[aO.mp hb];obtain⟨q,e,c,dt⟩:=st;exact⟨q,e,λv z=>by rw[dt]at z;cases z⟩
 keep:=λi h h' st k=>let ⟨q,e,r⟩:=st;⟨q,k it (by simp) _ e,r⟩
 item:=by
  intro X hP hw hK hc i aC s σ H E I hf st hg;subst hP hw hK;obtain⟨hd,hi⟩:=hg;obtain⟨vs,rel,hat⟩:=xY I hd dat;have hl:=rel.length;obtain⟨k,x,hx⟩:∃k x,kvs[i]?=some (k,x):=⟨kvs[i].1,kvs[i].2,aF hi⟩
  obtain⟨u,hu,ru⟩:=rel.get hx;obtain⟨f0,f1,f2,f3,f4,f5⟩:=hf it (by simp);rw[hl]at st;refine wpAny_pyNext_dict_item st hat hu λkey h' hkey st' sb=>?_;have I1:=I.turned (t':=s.toks) (λb o hb e=>(sb.2 b hb).trans e) f0 f1 f3 f4 f5;obtain⟨q,e,c,dt⟩:=id st';have rk:RelV (kV k) key:=by
   rcases jM hkey with⟨j,t,rfl,rfl⟩|⟨y,t,rfl,rfl⟩|⟨rfl,rfl⟩
   . exact⟨t,rfl⟩
   . exact⟨t,rfl⟩
   . exact rfl
  exact⟨key,rfl,HN e c dt (by decide) ⟨kV k,H,I1,rk,⟨rfl,k,x,hx,rfl⟩,by rw[hl];exact st',λb hb=>(hf b hb).1⟩⟩
 done:=by intro X hP hw hK hc i aC s σ H E I hf st hg;subst hP hw hK;obtain⟨hd,hi⟩:=hg;obtain⟨vs,rel,hat⟩:=xY I hd dat;have hl:=rel.length;obtain⟨f0,f1,f2,f3,f4,f5⟩:=hf it (by simp);rw[hl]at st;exact wpAny_pyNext_dict_end (I.ok.hd hc) st hat (aY (by lia)) λh' eb=>⟨rfl,I.turned (λb o hb e=>eb b o hb e) f0 f1 f3 f4 f5⟩
 self:=λ_ _ _ _ _ st h=>wpAny_pyIter_keyiter st h
def iDK(to:TE):TI:=λσ H R=>to σ H λx H1=>∃d o kvs,x=.ref d/\H1 d=some (.frz o (.dK kvs))/\R (ItK d o kvs) H1
def aCk(ho:PE X oe to):PI X tg oe (iDK to):=by
 intro aC s σ H R I h;refine thn (ho aC s σ H _ I h) λv s1 zq=>?_;obtain⟨x,H1,I1,r1,d,o,kvs,ex,hd,q⟩:=zq;subst ex;obtain rfl:v=aN.ref d:=r1;obtain⟨hob,z,hds,vs,rel,dd⟩:=I1.hok d _ hd;obtain⟨o',en,ep,e1,exd,dat,r⟩:=id dd;rw[hob]at e1;cases e1;have hat:s1.heap.DictAt (fN X.prog X.w) d vs ep:=⟨o,en,hob,exd,dat,r⟩
 refine wpAny_pyIter_dict hds hat ?_;refine⟨_,[_],_,_,H1,rfl,I1.kept λb o e=>aD _ e,ON _ d o kvs dat,?_,λc hc=>?_,q⟩
 . rw[rel.length];exact⟨_,aU _ rfl,rfl,rfl⟩
 . rw[aO.mp hc];exact I1.fpOk (aM _) (I1.hok.fresh (aM _))
end L2
namespace FL
def VX{K:Frag}: WlkD K (ItK d o kvs) (.fz d o kvs l) ((kvs.map (·.1)).map keyDD):=by
 intro H₀ H O dom ⟨n,hd,rs⟩;have hl:((kvs.map (·.1)).map keyDD).length=kvs.length:=by simp
 refine⟨λi x hx=>?_,⟨hd,by rw[hl];exact aM _⟩⟩;have lt:i<kvs.length:=by rw[<-hl];exact(aW.mp hx).1
 refine⟨⟨hd,lt⟩,λv H' zq=>?_⟩;obtain⟨e,k,y,hk,rfl⟩:=zq;subst e;have:x=keyDD k:=by simp[bI,hk,dC,Option.some.injEq]at hx;exact hx.symm
 subst this;exact⟨Same.refl _,kV_rep k⟩
def aCh(h:PV X oe f):PId X tg oe (keysA f):=by
 obtain⟨t,ht,hf⟩:=h;refine⟨_,aCk ht,λH₀ H O σ ds hd items R o e q=>?_⟩;obtain⟨x,h1,e⟩:=bnd e;refine hf H₀ H O σ ds hd x _ o h1 λv H1 s1 r1=>?_;cases x<;>first|(cases e;done)|skip
 cases e;cases r1 with
 |@dcf a ob kvs _ _ n hb ek rs=>subst ek;exact⟨a,ob,kvs,rfl,hb,q _ (.fz a ob kvs _) H1 s1 ⟨n,hb,rs⟩ (λ_ _ z=>by cases z) (λ_ z=>by cases z) VX⟩
section
variable{K:Frag}
end
end FL
namespace TS
section
variable{prog:cF}{w:dE}
abbrev SS(prog:cF)(w:dE)(h:Heap)(a:aG)(ts:List Str):Prop:=h.SetOf (PySem.strKind prog w) a (λk=>decide (k∈ts)) (FL.cntT ts)
def ss_add(q:h.SetOf (PySem.strKind prog w) a (λk'=>decide (k'∈ts)||decide (k'=x)) (if decide (x∈ts)=true then FL.cntT ts else FL.cntT ts+1)):SS prog w h a (x::ts):=by
 have e1:(λk':Str=>decide (k'∈ts)||decide (k'=x))=λk'=>decide (k'∈x::ts):=by funext k';rw[Bool.or_comm];simp[aB,Bool.decide_or]
 have e2:(if decide (x∈ts)=true then FL.cntT ts else FL.cntT ts+1)=FL.cntT (x::ts):=by
  show _=if x∈ts then _ else _
  by_cases hx:x∈ts<;>simp[hx]
 rw[e1,e2]at q;exact q
def WB(W:WalksS prog w A.in1 J feet hand G n P Z) c(off:c∉feet) num(isn:∀i v,P i v->∃t,v=.str (num i) t)(few:n+1<iX) :
  ∀k i z,n-i=k->i<=n->Z i z->SS prog w z.heap c ((List.range i).map num).reverse →
   (∀z',Moved (c::hand) G z z'->SS prog w z'.heap c ((List.range n).map num).reverse->R (.ok (.ret .none)) z') →
   gO (aZ prog w) A (.builtin "set.update.loop" ⟨[.ref c,.ref J],[]⟩) R z:=by
 have away:c∉hand:=λq=>off (W.sub c q);have more:∀b,b∈hand->b∈c::hand:=λb q=>.tail _ q;have at':∀{z z':bH}{ts:List Str},Moved hand G z z'->SS prog w z.heap c ts->SS prog w z'.heap c ts:=λmv hS=>by obtain⟨o,es,ep,t,ho,r⟩:=hS;exact⟨o,es,ep,t,mv.heap c o away ho,r⟩
 intro k;induction k with
 |zero=>
   intro i z hk hi here hS done;have e:i=n:=by lia
   subst e;exact vL (W.done z _ _ here λz' mv=>done z' (mv.mono more) (at' mv hS))
 |succ k ih=>
   intro i z hk hi here hS done;have hlt:i<n:=by lia
   refine vL (W.item i z _ _ hlt here λv z' hv here' mv=>?_);obtain⟨t,rfl⟩:=isn i v hv;have hS':=at' mv hS;have hk':(PySem.strKind prog w).is (num i) (.str (num i) t)=true:=by simp[PySem.strKind,aN.isStrOf]
   have hle:=FL.cntT_le ((List.range i).map num).reverse;simp only[mS,cD,ZL]at hle;dsimp only;unfold setAdd;refine dR (aA ((PySem.strKind prog w).pyHash (k:=num i) hk' ?_));refine wpAny_setAddHashed_of (knd:=PySem.strKind prog w) (s:={z' with toks:=z'.toks+1}) hk' rfl hS' (by lia) λh' same hS2=>?_;have rest:∀b,b≠c->h'.get? b=z'.heap.get? b:=same.2;have hS3:SS prog w h' c ((List.range (i+1)).map num).reverse:=by rw[oZ,cU,iM];exact ss_add hS2
   exact ih (i+1) _ (by lia) hlt (W.frame _ z' _ _ here' (mD _) λb q o e=>(rest b λy=>off (y▸q)).trans e) hS3 λz2 mv2 hS4=>done z2 (Moved.trans W.gtrans ((mv.mono more).then_heap (mD _) λb o q e=>(rest b λy=>q (y▸.head _)).trans e) mv2) hS4
section
variable{s:bH}
def ss_new(h:Heap):SS prog w (h.push (nset (!bt w))) h.objs.size []:=
 ⟨_,#[],0,_,aU _ rfl,⟨rfl,rfl,rfl⟩,rfl,λe he=>by simp at he,λk=>by simp,by decide,by rfl,rfl⟩
def aAw{items:Array aN}(hi:DV items.toList ns):(List.range items.size).map (λi=>ns.getD i "")=ns:=by
 have hlen:items.size=ns.length:=by rw[<-DV.length hi,bG]
 apply kW;intro i;rw[bI];by_cases hi':i<ns.length
 . rw[mT (by lia)];simp[eE,aF hi']
 . rw[aY (by simp;lia),aY (by lia)];rfl
def YB(free:A.handled=none)(hl:s.heap.IsList l items)(hi:DV items.toList ns)(few:items.size+1<iX)(h:∀h' tk,SS prog w h' s.heap.objs.size ns.reverse->(∀b o,s.heap.get? b=some o->h'.get? b=some o)->Q .none {s with heap:=h',toks:=tk}) :
  gO (aZ prog w) A (.call (.builtin "set.__init__") ⟨[.ref s.heap.objs.size,.ref l],[]⟩) (wants Q E) {s with heap:=s.heap.push (nset (!bt w))}:=by
 have hS:(s.heap.push (nset (!bt w))).get? s.heap.objs.size=some (nset (!bt w)):=aU _ rfl;refine codeAny_call_builtin mR.init.plain FC (check_set_init_1 ⟨_,hS,rfl⟩ ?_);obtain⟨lo,hlo,c1,nl,d1⟩:=hl;obtain⟨k1,k2,k3,k4⟩:=lo;cases c1;cases d1;have old:(s.heap.push (nset (!bt w))).get? l=some {cls:=.type "list",dict:=k2,data:=.seq items nl,slots:=k4}:=aD _ hlo;have no1:=JW;have no2:=AF;have hl1:(s.heap.push (nset (!bt w))).IsList l items:=⟨_,old,rfl,nl,rfl⟩
 have lS:=bJ hlo;have sz:(s.heap.push (nset (!bt w))).objs.size=s.heap.objs.size+1:=rH _ _;have far:∀b:aG,b<s.heap.objs.size->b≠(s.heap.push (nset (!bt w))).objs.size:=λb hb=>by rw[sz];exact bO (fS hb)
 unfold Builtin.«set.__init__» noKeywords;unfold Builtin.Frozenset.updateFrom;generalize walker:EX=PI
 wp_walk
 subst walker;refine oR hl1 (aA (NP ?_));refine WB ((Walks.list (by simp[free]) _ l (far l lS) items).toS) s.heap.objs.size ?off (λi=>ns.getD i "") (λi v hv=>by
   obtain⟨y,t,e1,e2⟩:=DV.item hi i v (by rw[cM];exact hv)
   exact⟨t,by rw[e1,eE,e2];rfl⟩) few items.size 0 _ rfl (bZ _)
  ⟨⟨_,aU _ rfl,rfl,rfl⟩,hl1.push _⟩ ?at0 ?fin
 case at0=>obtain⟨o,es,ep,t,ho,r⟩:=ss_new s.heap;exact⟨o,es,ep,t,aD _ ho,r⟩
 case off =>
  rw[sz];intro q;rcases aB.mp q with e|q
  . exact bO (gF _) e
  . exact tW lS (aO.mp q)
 case fin =>
  rintro⟨h2,g2,d2,t2,s2⟩ mv full;have eg:=mv.gens;have ed:=mv.drawn;have es:=mv.os;rw[aAw hi]at full;subst eg ed es;refine aJ (aJ (h h2 t2 full λb o e=>?_));have hb:=bJ e;refine mv.heap b o (λq=>?_) (aD _ (aD _ e));rcases aB.mp q with y|q
  . exact bO hb y
  . exact far b hb (aO.mp q)
set_option maxHeartbeats 4000000 in
def call_setT(free:A.handled=none)(hl:s.heap.IsList l items)(hi:DV items.toList ns)(few:items.size+1<iX)(h:∀h' tk,SS prog w h' s.heap.objs.size ns.reverse->(∀b o,s.heap.get? b=some o->h'.get? b=some o)->Q (.ref s.heap.objs.size) {s with heap:=h',toks:=tk}) :
  bL (aZ prog w) A (call (.type "set") [.ref l]) Q E s:=by
 have C:=mR;have made:=C.made;have below:=C.sub;refine uZ (JV (aJ ⟨Code.quiet_builtin _ (by decide +kernel),kT EC ?_⟩));rw[eX.under_plain (weight_type_call_type _ _ _) rfl]
 repeat (any_goals first|assumption|wp_step)
 refine gX (MF (.ref l) (E:=E) (Q:=λv z=>v=.ref s.heap.objs.size/\z={s with heap:=s.heap.push (nset (!bt w))}) ⟨rfl,rfl⟩) λr z q=>?_;rcases r with e|fl
 . exact q
 cases fl<;>try exact q.elim
 obtain⟨rfl,rfl⟩:=q;have look:=C.init.lookup;have bound:=C.init.bind (.ref s.heap.objs.size)
 repeat (any_goals first|assumption|wp_step)
 refine gX (YB (E:=E) (Q:=λv z=>v=.none/\∃h' tk,z={s with heap:=h',toks:=tk}/\SS prog w h' s.heap.objs.size ns.reverse/\∀b o,s.heap.get? b=some o->h'.get? b=some o) (by simp[free]) hl hi few
  λh' tk q1 q2=>⟨rfl,h',tk,rfl,q1,q2⟩) λr z q=>?_
 rcases r with e|fl
 . exact q
 cases fl<;>try exact q.elim
 obtain⟨rfl,h',tk,rfl,q1,q2⟩:=q
 repeat (any_goals first|assumption|wp_step)
 exact h h' tk q1 q2
end
end
end TS
namespace L2
def JM:CallR X (.builtin "sorted") (λxs H Q=>∃p ks,xs=[.ref p]/\SqL X.K H p (ks.map V.str)/\ks.length<64/\∀l,H l=none->Q (.ref l) (upd H l (.lst ((FL.srtT ks).map V.str)))):=by
 intro aC s σ H xs us Q I r h;obtain⟨p,ks,rfl,hq,h64,q⟩:=h;obtain⟨u,rfl,ru⟩:=vals1 r;cases ru;obtain⟨its,rv,pl,hz⟩:=I.list hq;have hi:=AI rv;have hl:=pl.isList;have hlen:=DV.length hi;refine Calls.call_function_entry kind_sorted plain_sorted entry_sorted (args_sorted1 _) ?_;refine aA (aJ (aA (collect_list hl ?_ (by rw[lD];lia))));refine TU.sorted_endS hi (by lia) λh2 vs' ns' e p1 p2 p3 p4 p5=>?_;have k1:∀b o,s.heap.get? b=some o->((s.heap.push (kN "list" #[] 0)).update s.heap.objs.size (Obj.mapSeq (·++its.toArray))).get? b=some o:=λb o q=>(bU _ _ (Ne.symm (bO (bJ q)))).trans (aD _ q);have en:=FL.leT_unique _ _ (p4.trans (FL.srtT_perm ks).symm) (FL.sortedS_le p5) (FL.srtT_le ks);have I1:=I.kept (t':=s.toks) k1;refine⟨.ref _,_,Inv.laid I1 p1 (aM _) (show ObjOk X.prog X.w _ h2 _ (.lst ((FL.srtT ks).map V.str)) from ⟨?_,vs',e,?_,p2⟩),rfl,q _ (I1.hok.fresh (aM _))⟩
 . have:=(FL.srtT_perm ks).length_eq;simp only[cD];rw[lD];lia
 . rw[<-en];exact AY p3
def tLset(ta:TA)(K:aP):TE:=λσ H Q=>ta σ H λvs H1=>∃(p:aG) (ts:List Str),vs=[.ref p]/\SqL K H1 p (ts.map V.str)/\ts.length<1000/\Q (.int (FL.cntT ts.reverse:Nat)) H1
def pe_lset(hc:X.calm=true)(hgl:Gl X "len")(hml:X.mg "len" = none)(hg:Gl X "set")(hm:X.mg "set" = none)(ha:PA X [a] ta)(hl:aK [.Call (.Name "set" p2) [a] [] pos2] X.env=[(false,cI (.Call (.Name "set" p2) [a] [] pos2) X.env)]:=by rfl)(hs:aK [a] X.env=[(false,cI a X.env)]:=by rfl) :
  PE X (.Call (.Name "len" p) [.Call (.Name "set" p2) [a] [] pos2] [] pos) (tLset ta X.K):=by
 intro aC s σ H Q I h;refine fO (wX I hgl hml (show fG "len" = some (.builtin "len") by decide +kernel) ?_);refine iZ ?_ hl rfl;refine Calls.spliced_cons ?_;refine Call_ (wX I hg hm (show fG "set" = some (.type "set") by decide +kernel) (gE (thn (ha pos2 aC s σ H _ I h) λus s1 zq=>?_) hs rfl));obtain⟨vs,H1,I1,r1,q1⟩:=zq;obtain⟨l,ts,e,hq,hz0,q⟩:=q1;subst e;obtain⟨u,rfl,ru⟩:=vals1 r1;cases ru;obtain⟨its,rv,pl,hz⟩:=I1.list hq;have hi:=AI rv;have hlen:=DV.length hi;refine TS.call_setT (I.ok.hd hc) pl.isList (by simpa using hi) (by simp[bC];unfold iX;lia) λh' tk hS hk=>?_;have I2:Inv X aC σ H1 {s1 with heap:=h',toks:=tk}:=I1.kept hk;refine Calls.spliced_nil ?_;obtain⟨o,es,ep,t,ho,hex,hd,hel,hmem,hb,hf,hn⟩:=hS;have hle:=FL.cntT_le ts.reverse;simp[mS]at hle;refine call_len_set ho hex hd hf (by lia) ?_;exact⟨.int (FL.cntT ts.reverse:Nat),H1,I2.kept (λb o e=>e),⟨_,by rw[hn]⟩,q⟩
end L2
namespace FL
def pv_lset(hc:X.calm=true)(hml:X.mg "len" = none)(hm:X.mg "set" = none)(he:PVw X e f)(hgl:Gl X "len":=by rfl)(hg:Gl X "set":=by rfl)(hl:aK [.Call (.Name "set" p2) [e] [] pos2] X.env=[(false,cI (.Call (.Name "set" p2) [e] [] pos2) X.env)]:=by rfl)(hs:aK [e] X.env=[(false,cI e X.env)]:=by rfl) :
  PV X (.Call (.Name "len" p) [.Call (.Name "set" p2) [e] [] pos2] [] pos) (lsetE f):=by
 obtain⟨te,pe,he⟩:=he;refine⟨_,pe_lset hc hgl hml hg hm (jN pe yV hs) hl hs,λH₀ H O σ ds hd l Q o e q=>?_⟩;obtain⟨d,h1,e⟩:=bnd e;refine he H₀ H O σ ds hd _ _ o h1 λv H1 s1 r1=>?_;cases d<;>first|(cases e;done)|skip
 obtain⟨ts,hb,e⟩:=bnd e;split at e
 . rename_i hz;cases e;obtain⟨a1,xs,rfl,hq,rs⟩:=r1.seqL;exact⟨a1,ts,rfl,by rw[<-vB rs hb];exact hq,hz,q _ H1 s1 (.int _)⟩
 . cases e
def uC(hm:X.mg "sorted" = none)(he:PVw X e f)(hg:Gl X "sorted":=by rfl)(hs:aK [e] X.env=[(false,cI e X.env)]:=by rfl) :
  PVf X (.Call (.Name "sorted" p) [e] [] pos) (srtTA f):=by
 obtain⟨te,pe,he⟩:=he;refine⟨_,BZ JM hg hm (by decide +kernel) (jN pe yV hs) (by decide) (by decide) hs rfl,λH₀ H O σ ds hd l Q o e q=>?_⟩;obtain⟨d,h1,e⟩:=bnd e;refine he H₀ H O σ ds hd _ _ o h1 λv H1 s1 r1=>?_;cases d<;>first|(cases e;done)|skip
 obtain⟨ts,hb,e⟩:=bnd e;split at e
 . rename_i hz;cases e;obtain⟨a1,xs,rfl,hq,rs⟩:=r1.seqL;exact⟨a1,ts,rfl,by rw[<-vB rs hb];exact hq,hz,λp hp=>q p _ _ (s1.trans (qM hp _)) (s1.free hp) zQ (GD _)⟩
 . cases e
def WM(hr:Room j X.A)(ho:PVp X oe f)(hk:PV X ke fk)(he:PVo X e g)(hs:eM e (some (.Subscript oe ke pos')) pos.line X.env=pure false:=by rfl) :
  PSv X (.Assign [.Subscript oe ke pos'] e pos) (dputN f fk g):=by
 obtain⟨tp,hp,hfp⟩:=ho;obtain⟨tk,pk,hk⟩:=hk;obtain⟨te,pe,hg⟩:=he;refine⟨_,TM (kO (by lia) (hu100 hr)) hp pk pe hs,λH₀ H O σ ds hd out E o e h=>?_⟩;obtain⟨T,h1,e⟩:=bnd e;obtain⟨q,h2,e⟩:=bnd e;obtain⟨y,h3,e⟩:=bnd e;obtain⟨k,h4,e⟩:=bnd e;refine hg H₀ H O σ ds hd T _ o h1 λv H1 fs s1 r1 nd1 n1=>?_;have o1:=o.moreL s1 n1 λb hb=>(r1.owns b hb).2;refine hfp H₀ H1 (orL fs O) σ ds hd q _ o1 h2 λr T0 v0 w fs0 g1 g2 g3 g4 g5=>?_;refine hk H₀ H1 (orL fs O) σ ds hd y _ o1 h3 λyv H2 s2 r2=>?_;have s12:=s1.trans s2;obtain⟨v',w',f',y1,y2,y3,y4,y5,y6⟩:=o.modAt g1 g2;rw[g3]at y1;cases y1;cases yZ g4 (yO s1 y2);cases hq:q.2.2 with
 |dct ks ts=>
   rw[hq]at y3 e;simp only at e;split at e
   . rename_i hl;obtain ⟨hl,hnew⟩:=hl;cases e;cases y3 with
     |@dct a kvs _ _ fs' na ha ek rs=>
       cases wN r2 h4;have ha2:=s12 _ _ ha;have ln:kvs.length<sizeLine:=by rw[<-ek]at hl;simpa using hl
       have hm':¬hasK k (kvs.map (·.1))=true:=by rw[ek,hnew];simp
       have pn:putK kvs k v=kvs++[(k,v)]:=vD hm';refine⟨a,_,rfl,DPut.k ha2 ln,?_⟩;obtain⟨n3,n4⟩:=bM.mp y4;have old:∀b,H b=none->b∉a::fs':=λb hb z=>by
        rcases aB.mp z with z|z
        . rw[z,ha]at hb;cases hb
        . obtain⟨_,x,ex⟩:=rs.owns b z;rw[hb]at ex;cases ex
       have afs:a∉fs:=λz=>by rw[n1 a z]at ha;cases ha
       have hs':∀b u,b≠a->H b=some u->upd H2 a (.dK (putK kvs k v)) b=some u:=λb u nb eb=>by rw[L2.upd_ne nb];exact s12 _ _ eb
       have nO:∀{b:aG},¬O b->b≠a:=λnb z=>nb (by rw[z];exact na)
       have c0:Chg H (upd H2 a (.dK (putK kvs k v))) O (orL fs O) [a] (a::fs):=
        ⟨λb u nb eb=>hs' b u (nO nb) eb,λb u _ nb eb=>hs' b u (λz=>nb (by rw[z];exact .head _)) eb,λb z _=>.inr z,λb z=>z.elim (λz=>.inr ⟨.tail _ z,n1 b z⟩) .inl,λb z=>(aB.mp z).elim (λz=>.inl (by rw[z];exact .head _)) λz=>.inr (n1 b z)⟩
       have rT:RepO X.K (upd H2 a (.dK (putK kvs k v))) (orL fs O) v T fs:=(r1.mono s2).keep (λb u nb eb=>by rw[L2.upd_ne (nO λz=>nb (.inr z))];exact eb) λb hb u eb=>by have z:b≠a:=λz=>afs (by rw[<-z];exact hb);rw[L2.upd_ne z];exact eb
       have rs':=(c0.repsO rs λb hb z=>n3 (aO.mp z▸hb)).snocO rT
       have ok:=y6 (O':=orL fs O) (u':=.dct (ks++[k]) (ts++[T]))
        ⟨λb u nb eb=>hs' b u (nO nb) eb,λb u _ nb eb=>hs' b u (λz=>nb (by rw[z];exact .head _)) eb,λb z _=>.inr z,λb z=>z.elim (λz=>.inr ⟨.tail _ (aI _ z),n1 b z⟩) .inl,λb z=>?_⟩
        (λb z _=>?_) (.dct (.inr na) zQ (by rw[pn,<-ek];simp) (by rw[show(putK kvs k v).map (·.2)=kvs.map (·.2)++[v] by rw[pn];simp];exact rs')) (bM.mpr ⟨λz=>?_,?_⟩)
       . have e':putP q (.dct (ks++[k]) (ts++[T])) ds=ds.set q.1 (.ob r (putO (.dct (ks++[k]) (ts++[T])) q.2.1 T0)):=by simp [putP,g1]
         rw[e']at h;exact h _ _ _ ok
       . rcases aB.mp z with z|z
         . exact .inl (by rw[z];exact .head _)
         . rcases bE.mp z with z|z
           . exact .inl (.tail _ z)
           . exact .inr (n1 b z)
       . by_cases z':b=a
         . rw[z',zQ];exact⟨⟨.dK (putK kvs k v),rfl⟩,rfl⟩
         . rcases aB.mp z with q'|q'
           . exact(z' q').elim
           . obtain⟨_,y,ey⟩:=rs.owns b q';exact⟨y,hs' b _ z' ey⟩
       . rcases bE.mp z with z|z
         . exact n3 z
         . exact afs z
       . rw[cJ];exact⟨n4,nd1,λx hx y hy z=>old x (by rw[z];exact n1 y hy) (.tail _ hx)⟩
   . cases e
 |_=>rw[hq]at e;cases e
section
variable{K:Frag}
def Ok.frzV(o:Ok K H₀ H O σ ds hd)(e:ds[i]?=some (.ob r (.ins t [.dct ks ts]))) :
  ∃a kvs,H a=some (.dK kvs)/\∀ob,∃O',Ok K H₀ (upd H a (.frz ob (.dK kvs))) O' σ (ds.set i (.v (.ins t [.dcf ks (otDs ts)]))) hd:=by
 obtain⟨F,hF⟩:=o.obs;obtain⟨v,h1,h2,h3,h4,h5⟩:=hF i r _ e;have hl:=(aW.mp e).1;generalize hfi:F i=fi at h2 h4 h5;cases h2 with
 |@ins a0 C dx _ kvs0 _ fs0 cc n0 h0' ek0 rs0 =>
  generalize hv0:kvs0.map (·.2)=vs0 at rs0;cases rs0 with
  |@cons x0 _ xs0 _ f1 f2 h2 t2 =>
  cases t2;cases h2 with
  |@dct a kvs _ _ fs n hb ek rs =>
   refine⟨a,kvs,hb,λob=>?_⟩;have nd:=bM.mp h4;have nd2:=bM.mp ((cJ.mp nd.2).1);have a0a:a0≠a:=λz=>nd.1 (by rw[z];simp);have afs:=nd2.1;have ma:a∈a0::(a::fs++[]):=by simp
   have m0:a0∈a0::(a::fs++[]):=by simp
   let O':aG->Prop:=λb=>O b/\b∉a0::(a::fs++[])
   have sub:∀b,O' b->O b:=λb hb=>hb.1;have h0:=(h5 a ma).1;have kp:Keep O H (upd H a (.frz ob (.dK kvs))):=λb u nb eb=>by have z:b≠a:=λz=>nb (by rw[z];exact n);rw[L2.upd_ne z];exact eb
   have ne:∀{b:aG}{u:HO},b≠a->H b=some u->upd H a (.frz ob (.dK kvs)) b=some u:=λz eb=>by rw[L2.upd_ne z];exact eb
   have own':∀{j:Nat},IsOwn (ds.set i (.v (.ins t [.dcf ks (otDs ts)]))) j->IsOwn ds j/\j≠i:=λh=>wD (λl=>by intro z;cases z) h;have nown:=λ{j b} oj ej z=>(h5 b z).2.2 j oj ej;have rs2:=rs.keep kp λb hb' u eb=>ne (λz=>afs (by rw[<-z];exact hb')) eb;have rv:Reps K (upd H a (.frz ob (.dK kvs))) O' (kvs.map (·.2)) (otDs ts):=rs2.val' λb z=>⟨z.1,λq=>z.2 (by simp[q])⟩
   refine⟨O',λb u eb=>ne (λz=>by rw[z,h0]at eb;cases eb) (o.same b u eb),λj l' b e1 e2=>?_,λb hb=>?_,by simpa using o.len,λj s es=>?_,λj m b hjm hj hm e1 e2=>o.apart j m b hjm (own' hj).1 (own' hm).1 e1 e2,λp hp=>?_,?_⟩
   . obtain⟨⟨l2,e2'⟩,_⟩:=own' ⟨l',e1⟩;exact o.fresh j l2 b e2' e2
   . obtain⟨u,eu⟩:=o.dom b hb.1;exact⟨u,ne (λz=>hb.2 (by rw[z];exact ma)) eu⟩
   . by_cases hj:j=i
     . subst hj;rw[bB hl]at es;cases es;rw[h1];exact yH (.ins cc (λz=>z.2 m0) (ne a0a h0') ek0 (by rw[hv0];exact .cons (.dcf (λz=>z.2 ma) zQ ek rv) .nil))
     . rw [aE (Ne.symm hj)]at es;cases s with
       |no=>exact jI
       |ob r t=>exact yL
       |exc t=>obtain⟨a',C',ob',u',q1,q2,q3,q4⟩:=o.readX es;rw[q1];exact⟨C',ob',u',q2,ne (λz=>by rw[z,hb]at q3;cases q3) q3,q4⟩
       |fr l'=>obtain⟨a',xs',q1,q2,q0,q3,q4⟩:=o.readF es;rw[q1];exact⟨λz=>q2 (sub _ z),q0,xs',kp _ _ q2 q3,(q4.keep kp).less sub⟩
       |v d=>obtain⟨v,q1,q2⟩:=o.read es;rw[q1];exact yH ((q2.keep kp).less sub)
       |own l'=>obtain⟨b,ys,q1,q2,q3,q4⟩:=o.readO es;rw[q1];have z:=nown ⟨l',es⟩ q1;exact⟨⟨q2,z⟩,ys,ne (λy=>z (by rw[y];exact ma)) q3,(q4.keep kp).less sub⟩
   . have:=o.hold p hp;cases p with
     |rep v d=>exact(Rep.keep kp this).less sub
     |base B=>exact λb hb=>⟨⟨(this b hb).1,λz=>(this b hb).2 (h5 b z).1⟩,(this b hb).2⟩
     |root k a=>exact True.intro
     |fz a' o' kvs' l'=>exact⟨λz=>this.1 (sub _ z),kp _ _ this.1 this.2.1,(Reps.keep kp this.2.2).less sub⟩
   . refine⟨F,λj r' t' ej=>?_⟩;obtain⟨ej,hj⟩:=wA (λr t=>by intro z;cases z) ej;obtain⟨w,g1,g2,g3,g4,g5⟩:=hF j r' t' ej;have na:=λb hb z=>(h5 b hb).2.1 j r' t' hj ej z;refine⟨w,g1,(g2.keep kp λb hb u eb=>ne (λz=>na a ma (by rw[<-z];exact hb)) eb).less sub λb hb=>⟨(g2.owns b hb).1,λz=>na b z hb⟩,g3,g4,λb hb=>⟨(g5 b hb).1,λm r2 t2 hm em=>(g5 b hb).2.1 m r2 t2 hm (wA (λr t=>by intro z;cases z) em).1,λm om em=>(g5 b hb).2.2 m (own' om).1 em⟩⟩
end
def WI{iter:Expr}(S:CompScope X scope NY mp)(hc:X.calm=true)(hi:PId X tg iter fi)(hg:∀c,PGv (jC X scope NY c) tg ga)(ht:∀c,PFv (jC X scope NY c) ifs tt)(he:∀c,PV (jC X scope NY c) elt fe)(hs:∀x,eJ iter X.env x=pure x:=by intro _;rfl):PVf X (.ListComp elt [⟨tg,iter,ifs,0⟩] scope pos) (compG fi mp ga tt fe):=by obtain⟨wi,pi,hi⟩:=hi;refine⟨_,TW S hc pi (λc=>(Classical.choose_spec (hg c)).1) (λc=>(Classical.choose_spec (ht c)).1) (λc=>(Classical.choose_spec (he c)).1) hs,λH₀ H O σ ds hd l Q o e q=>?_⟩;exact YU hi (λc=>(Classical.choose_spec (hg c)).2) (λc=>(Classical.choose_spec (ht c)).2) (λc=>(Classical.choose_spec (he c)).2) H₀ H O σ ds hd l Q o e λa xs H' s hn he r=>q a xs H' s hn he r
end FL
namespace L2
def eThw(t:TE):TE:=λσ H Q=>∃a kvs,H a=some (.dK kvs)/\∀o,t σ (upd H a (.frz o (.dK kvs))) λv H'=>H' a=some (.frz o (.dK kvs))/\Q v (upd H' a (.dK kvs))
def pe_thw(h:PE X e t):PE X e (eThw t):=by
 intro aC s σ H Q I ⟨a,kvs,h2,h3⟩;have hn:∀q u,X.H₀ a≠some (.frz q u):=λq u z=>by have:=I.base.frzs a q u z;rw[h2]at this;cases this
 obtain⟨o,I'⟩:=I.freezeD h2;obtain⟨ho,z,hd,vs,rel,o',en,ep,e1,exd,dat,r⟩:=I'.hok a _ zQ;rw[ho]at e1;cases e1;refine thn (h aC s σ _ _ I' (h3 o)) λv s' hq=>?_;obtain⟨x,H',I2,rx,e2,q⟩:=hq;exact⟨x,_,I2.thawD e2 dat hn,rx,q⟩
end L2
namespace FL
section
variable{K:Frag}{H H':Hp}{O O':aG->Prop}
mutual
theorem Rep.flatF(ho:∀a,O a->∀xs,¬Rd H a (.tup xs)):∀{v:V}{d:D},Rep K H O' v d->flat d=true->Rep K H O v d
 |_,_,.non=>λ_=>.non
 |_,_,.bl b=>λ_=>.bl b
 |_,_,.int i=>λ_=>.int i
 |_,_,.str x=>λ_=>.str x
 |_,_,.tup n h r=>λf=>.tup (λz=>ho _ z _ h) h (Reps.flatF ho r (by simpa[flat]using f))
 |_,_,.tupK h r=>λf=>.tupK h (Reps.flatF ho r (by simpa[flat]using f))
 |_,_,.lst _ _ _=>λf=>by simp[flat]at f
 |_,_,.lstK _ _=>λf=>by simp[flat]at f
 |_,_,.dct _ _ _ _=>λf=>by simp[flat]at f
 |_,_,.dcf _ _ _ _=>λf=>by simp[flat]at f
 |_,_,.ins _ _ _ _ _=>λf=>by simp[flat]at f
 |_,_,.clo _ _ _ _ _ _=>λf=>by simp[flat]at f
 |_,_,.fnK _=>λf=>by simp[flat]at f
theorem Reps.flatF(ho:∀a,O a->∀xs,¬Rd H a (.tup xs)):∀{vs:List V}{ds:List D},Reps K H O' vs ds->flats ds=true->Reps K H O vs ds
 |_,_,.nil=>λ_=>.nil
 |_,_,.cons h t=>λf=>by simp only[flats,bV]at f;exact .cons (Rep.flatF ho h f.1) (Reps.flatF ho t f.2)
end
mutual
theorem RepO.flatF(ho:∀a,O a->∀xs,¬Rd H a (.tup xs)):∀{v:V}{t:OT}{fs:List aG},RepO K H O' v t fs->flatO t=true->(∀b∈fs,O b)->RepO K H O v t fs
 |_,_,_,.val r=>λf _=>.val (r.flatF ho (by simpa[flatO]using f))
 |_,_,_,.lst n h r=>λf hb=>.lst (hb _ (.head _)) h (RepsO.flatF ho r (by simpa[flatO]using f) λb z=>hb b (.tail _ z))
 |_,_,_,.dct n h e r=>λf hb=>.dct (hb _ (.head _)) h e (RepsO.flatF ho r (by simpa[flatO]using f) λb z=>hb b (.tail _ z))
 |_,_,_,.ins c n h e r=>λf hb=>.ins c (hb _ (.head _)) h e (RepsO.flatF ho r (by simpa[flatO]using f) λb z=>hb b (.tail _ z))
 |_,_,_,.tup n h r=>λf hb=>.tup (λz=>ho _ z _ h) h (RepsO.flatF ho r (by simpa[flatO]using f) hb)
theorem RepsO.flatF(ho:∀a,O a->∀xs,¬Rd H a (.tup xs)):∀{v:List V}{t:List OT}{fs:List aG},RepsO K H O' v t fs->mC t=true->(∀b∈fs,O b)->RepsO K H O v t fs
 |_,_,_,.nil=>λ_ _=>.nil
 |_,_,_,.cons h r=>λf hb=>by simp only[mC,bV]at f;exact .cons (RepO.flatF ho h f.1 λb z=>hb b (bA _ z)) (RepsO.flatF ho r f.2 λb z=>hb b (aI _ z))
end
def PZ{u:MutHO}(e:H b=some u.1) xs:¬Rd H b (.tup xs):=λh=>by
 obtain⟨u,m⟩:=u;rcases h with h|⟨o,h⟩
 . rw[e]at h;cases h;cases m
 . rw[e]at h;cases h;cases m
end
def LG i(h:PVo X e f):PVo X e (relGV i f):=by
 obtain⟨t,ht,hf⟩:=h;refine⟨_,pe_thw ht,λH₀ H O σ ds hd T Q ok ex q=>?_⟩;unfold relGV at ex;obtain⟨d,h1,ex⟩:=bnd ex;obtain⟨T',h2,ex⟩:=bnd ex;split at ex
 . rename_i hfl;cases ex;cases hs:ds[i]? with
   |none=>rw[hs]at h1;cases h1
   |some s=>
     rw[hs]at h1;unfold insV at h1;split at h1
     . rename_i r t ks ts hh;cases hh;cases h1;obtain ⟨a,kvs,ha,hO⟩:=ok.frzV hs;refine ⟨a,kvs,ha,λob=>?_⟩;obtain ⟨O',o'⟩:=hO ob;refine hf H₀ _ O' σ _ hd _ _ o' h2 λv H' fs s' r nd nw=>⟨s' _ _ zQ,?_⟩
       have ha':H' a=some (.frz ob (.dK kvs)):=s' _ _ zQ;have af:a∉fs:=λz=>by have:=nw a z;rw[zQ]at this;cases this
       have sm:Same H (upd H' a (.dK kvs)):=λx u eu=>by
        by_cases hx:x=a
        . rw[hx,zQ];rw[hx,ha]at eu;exact eu
        . rw[upd_ne hx];exact s' _ _ (by rw[upd_ne hx];exact eu)
       have r1:RepO X.K H' (orL fs (λb=>b=a)) v T fs:=r.flatF (λb z xs hr=>by
        rcases z with z|z
        . obtain⟨_,u,eu⟩:=r.owns b z;exact PZ eu xs hr
        . subst z;rcases hr with hr|⟨o,hr⟩
          . rw[ha']at hr;cases hr
          . rw[ha']at hr;cases hr) hfl λb hb=>.inl hb
       have r2:RepO X.K (upd H' a (.dK kvs)) (orL fs (λb=>b=a)) v T fs:=r1.keep (λb u nb eb=>by rw[upd_ne (λz=>nb (.inr z))];exact eb) λb hb u eb=>by rw[upd_ne (λz=>af (by rw[<-z];exact hb))];exact eb
       refine q v _ fs sm (r2.flatF (λb z xs hr=>?_) hfl λb hb=>.inl hb) nd λb hb=>?_
       . rcases z with z|z
         . obtain⟨_,u,eu⟩:=r2.owns b z;exact PZ eu xs hr
         . obtain⟨u,eu⟩:=ok.dom b z;exact PZ (sm _ _ eu) xs hr
       . have:=nw b hb;rwa [upd_ne (λz=>af (by rw[<-z];exact hb))]at this
     . cases h1
 . cases ex
def os_shl:OpS X (rI CPow λi j=>.int (i*2^j.toNat)) shlD:=by
 intro H O x y dx dy d Q ho rx ry e q;cases dx<;>cases dy<;>first|(simp[shlD]at e;done)|skip
 simp only[shlD]at e;split at e
 . rename_i hc;cases e;rw[rx.int',ry.int'];exact⟨_,_,rfl,rfl,⟨hc.1,by lia,by lia⟩,q _ H (Same.refl _) (.int _)⟩
 . cases e
def pv_shlI(ha:PVw X a fa)(hb:PVw X b fb):PV X (.BinOp a .LShift b pos) (zF shlD fa fb):=vV op_shl os_shl ha hb
def LP j k(hN:X.N.Nodup)(S:CompScope X scope NY mp)(hc:X.calm=true)(hi:PIv X tg iter fi)(hg:∀c,PGv (jC X scope NY c) tg ga)(ht:∀c,PFv (jC X scope NY c) ifs tt)(he:∀c,PV (jC X scope NY c) elt fe)(hy:X.N[i]?=some y:=by rfl)(hl:X.env.scope.names.lookup y=some .local:=by rfl)(hsw:eM (.ListComp elt [⟨tg,iter,ifs,0⟩] scope pos) (some (.Name y py)) spos.line X.env=pure true:=by rfl)(hs:∀x,eJ iter X.env x=pure x:=by intro _;rfl):PSv X (.Assign [.Name y py] (.ListComp elt [⟨tg,iter,ifs,0⟩] scope pos) spos) (jK i (mkL (relFO j (relFO k (compG fi mp ga tt fe))))):=by
 obtain⟨wi,pi,hi⟩:=hi;refine⟨_,ps_comp hN hy hl hsw S hc pi (λc=>(Classical.choose_spec (hg c)).1) (λc=>(Classical.choose_spec (ht c)).1) (λc=>(Classical.choose_spec (he c)).1) hs,λH₀ H O σ ds hd out E o e h=>?_⟩;unfold jK mkL relFO at e;obtain⟨O1,o1⟩:=o.look j;obtain⟨O',o'⟩:=o1.look k;cases h1:compG fi mp ga tt fe (relO k (relO j ds))with
 |none=>rw[h1]at e;cases e
 |some l=>
   rw[h1]at e;simp only[aR]at e;by_cases hfl:flats l=true
   . rw[if_pos hfl]at e;simp only[aR]at e;rw[if_pos hfl]at e;cases e;refine NH hi (λc=>(Classical.choose_spec (hg c)).2) (λc=>(Classical.choose_spec (ht c)).2) (λc=>(Classical.choose_spec (he c)).2) H₀ H O' σ (relO k (relO j ds)) hd l _ o' h1 λa xs H' s hn he r=>?_;refine h _ _ _ ((o.mono s).set (.lst (o.free hn) (.inl he) (Reps.flatten (λb z=>?_) hfl r)));obtain⟨u,eu⟩:=(o.mono s).dom b z;exact⟨_,eu,u.2⟩
   . rw[if_neg hfl]at e;cases e
section
variable{E:XK}{C:aG}{k j n:Nat}{F:List D->Option Ret}{x:Str}{p pos:Pos}{e:Expr}{es:List Expr}{g:FA}{y:List Sl->Bool}
end
noncomputable def oi:Option Int->D
 |none=>.non
 |some i=>.int i
@[simp]theorem IW:oi none=.non:=rfl
@[simp]theorem oi_some i:oi (some i)=.int i:=rfl
noncomputable def andK(r:Option D):D->Option D:=λd=>match d with|.bl true=>r|.bl false=>some (.bl false)|_=>none
noncomputable def orK(r:Option D):D->Option D:=λd=>match d with|.bl true=>some (.bl true)|.bl false=>r|_=>none
@[simp]def andK_bl r b:andK r (.bl b)=if b=true then r else some (.bl false):=by cases b<;>rfl
@[simp]def orK_bl r b:orK r (.bl b)=if b=true then some (.bl true)else r:=by cases b<;>rfl
@[simp]def ite_andD b c:(if b=true then some (D.bl c)else some (D.bl false))=some (.bl (b&&c)):=by cases b<;>rfl
@[simp]def ite_orD b c:(if b=true then some (D.bl true)else some (D.bl c))=some (.bl (b||c)):=by cases b<;>rfl
@[simp]def ite_andB b c:(if b=true then some c else some false)=some (b&&c):=by cases b<;>rfl
@[simp]def ite_orB b c:(if b=true then some true else some c)=some (b||c):=by cases b<;>rfl
@[simp]def ite_andB' p[Decidable p] c:(if p then some c else some false)=some (decide p&&c):=by by_cases h:p<;>simp[h]
@[simp]def ite_orB' p[Decidable p] c:(if p then some true else some c)=some (decide p||c):=by by_cases h:p<;>simp[h]
@[simp]def szl:sizeLine=16777216:=lD
section
variable(ds:List Sl)
@[simp]theorem getV_eq(i:Nat):qB i ds=match ds[i]? with|some (.v d)=>some d|_=>none:=rfl
@[simp]theorem getW_eq(i:Nat):zG i ds=match ds[i]? with|some (.v d)=>some d|some (.own l)=>some (.lst l)|_=>none:=rfl
@[simp]theorem konst_eq(d:D):zA d ds=some d:=rfl
@[simp]theorem bin2_eq(op:D->D->Option D)(fa fb:FE):zF op fa fb ds=(fa ds).bind λx=>(fb ds).bind λy=>op x y:=rfl
@[simp]theorem un1_eq(op:D->Option D)(f:FE):un1 op f ds=(f ds).bind op:=rfl
@[simp]theorem aFi(F:List D->Option D)(g:FA):callB F g ds=(g ds).bind F:=rfl
@[simp]theorem callV_eq(n:Nat)(F:List D->Option Ret)(g:FA):qZ n F g ds=(g ds).bind λl=>if l.length=n then (F l).bind retV else none:=rfl
@[simp]theorem callF_eq(n:Nat)(F:List D->Option Ret)(g:FA):xL n F g ds=(g ds).bind λl=>if l.length=n then (F l).bind retF else none:=rfl
@[simp]theorem retV_val d:retV (.val d)=some d:=rfl
@[simp]theorem retV_fresh l:retV (.fresh l)=some (.lst l):=rfl
@[simp]theorem retF_val d:retF (.val d)=none:=rfl
@[simp]theorem retF_fresh l:retF (.fresh l)=some l:=rfl
@[simp]theorem aFc(f:FE)(g:FA):zC f g ds=(f ds).bind λx=>(g ds).map λr=>x::r:=rfl
@[simp]theorem nilA_eq:zT ds=some []:=rfl
@[simp]theorem sized_eq(f:FA):qI f ds=(f ds).bind λl=>if l.length<=sizeLine then some l else none:=rfl
@[simp]theorem mkL_eq(f:FA):mkL f ds=(f ds).map D.lst:=rfl
@[simp]theorem mkT_eq(f:FA):mkT f ds=(f ds).map D.tup:=rfl
@[simp]theorem testB_eq(f:FE):zK f ds=(f ds).bind isB:=rfl
@[simp]theorem testT_eq(f:FE):testT f ds=(f ds).bind truD:=rfl
@[simp]theorem isB_bl b:isB (.bl b)=some b:=rfl
@[simp]theorem andT_eq(c d:FT):andT c d ds=(c ds).bind λb=>if b=true then d ds else some false:=rfl
@[simp]theorem orT_eq(c d:FT):orT c d ds=(c ds).bind λb=>if b=true then some true else d ds:=rfl
@[simp]theorem notT_eq(c:FT):notT c ds=(c ds).map not:=rfl
@[simp]theorem andV_eq(f g:FE):andV f g ds=(f ds).bind (andK (g ds)):=rfl
@[simp]theorem orV_eq(f g:FE):orV f g ds=(f ds).bind (orK (g ds)):=rfl
@[simp]theorem notV_eq(f:FE):notV f ds=(f ds).bind λd=>match d with|.bl b=>some (.bl (!b))|_=>none:=rfl
@[simp]theorem ifV_eq(c:FT)(f g:FE):ifV c f g ds=(c ds).bind λb=>if b=true then f ds else g ds:=rfl
@[simp]theorem seqG_eq(f g:FS):qL f g ds=(f ds).bind λo=>match o with|.nx ds'=>g ds'|o=>some o:=rfl
@[simp]theorem ifG_eq(c:FT)(f g:FS):ifG c f g ds=(c ds).bind λb=>if b=true then f ds else g ds:=rfl
@[simp]theorem setG_eq(i:Nat)(f:FE):jK i f ds=(f ds).map λd=>.nx (ds.set i (.v d)):=rfl
@[simp]theorem setOG_eq(i:Nat)(f:FA):setOG i f ds=(f ds).map λl=>.nx (ds.set i (.own l)):=rfl
@[simp]theorem retG_eq(f:FE):retG f ds=(f ds).bind flatR:=rfl
@[simp]theorem retOG_eq(f:FA):retOG f ds=(f ds).bind flatF:=rfl
@[simp]theorem retXG_eq(i:Nat):retXG i ds=match ds[i]? with|some (.own l)=>flatF l|_=>none:=rfl
@[simp]theorem nextG_eq:qJ ds=some (.nx ds):=rfl
@[simp]theorem appG_eq(i:Nat)(fe:FE):appG i fe ds=match ds[i]? with
 |some (.own l)=>(fe ds).bind λd=>if l.length<sizeLine then some (.nx (ds.set i (.own (l++[d]))))else none
 |_=>none:=rfl
@[simp]theorem extG_eq(i:Nat)(fe:FA):extG i fe ds=match ds[i]? with
 |some (.own l)=>(fe ds).bind λd=>if l.length+d.length<=sizeLine then some (.nx (ds.set i (.own (l++d))))else none
 |_=>none:=rfl
@[simp]theorem putG_eq(i:Nat)(fk fe:FE):putG i fk fe ds=match ds[i]? with
 |some (.own l)=>(fe ds).bind λd=>(fk ds).bind λk=>match k with
   |.int n=>(ixN l.length n).map λj=>.nx (ds.set i (.own (l.set j d)))
   |_=>none
 |_=>none:=rfl
@[simp]theorem clrG_eq(i:Nat):clrG i ds=match ds[i]? with
 |some (.own l)=>some (.nx (ds.set i (.own [])))
 |_=>none:=rfl
@[simp]theorem asgG_eq(ga:D->List Sl->Option (List Sl))(f:FE):asgG ga f ds=(f ds).bind λd=>(ga d ds).map .nx:=rfl
@[simp]theorem relS_eq(i:Nat):relS i ds=match ds[i]? with|some (.own l)=>ds.set i (.v (.lst l))|_=>ds:=rfl
@[simp]theorem viaA_eq(f:FE)(k:D->Option (List D)):viaA f k ds=(f ds).bind k:=rfl
@[simp]theorem asLT_lst l:asLT (.lst l)=some l:=rfl
@[simp]theorem asLT_tup l:asLT (.tup l)=some l:=rfl
@[simp]theorem catA_eq(fa fb:FE):catA fa fb ds=(fa ds).bind λx=>(fb ds).bind λy=>match x,y with
 |.lst a,.lst b=>if a.length+b.length<=sizeLine then some (a++b)else none
 |_,_=>none:=rfl
@[simp]theorem sliA_eq(f:FE)(lo hi:List Sl->Option (Option Int)):sliA f lo hi ds=(f ds).bind λd=>(lo ds).bind λa=>(hi ds).bind λb=>match d with
 |.lst l=>some (cutD l a b)
 |_=>none:=rfl
@[simp]theorem lisA_eq(f:FE):lisA f ds=(f ds).bind asLT:=rfl
@[simp]theorem noP_eq:noP ds=some none:=rfl
@[simp]theorem soP_eq(f:FE):soP f ds=(f ds).bind λd=>match d with|.int i=>some (some i)|_=>none:=rfl
@[simp]theorem xN(fi:FA)(ga:D->List Sl->Option (List Sl))(body:FS):forG fi ga body ds=(fi ds).bind λitems=>qQ ga body items ds:=rfl
@[simp]theorem nameG_eq(i:Nat)(d:D):zN i d ds=some (ds.set i (.v d)):=rfl
@[simp]theorem tupG_eq(n:Nat)(h:List D->List Sl->Option (List Sl))(l:List D):tupG n h (.tup l) ds=if l.length=n then h l ds else none:=rfl
@[simp]theorem tgCons_eq(g:D->List Sl->Option (List Sl))(h:List D->List Sl->Option (List Sl))(d:D)(r:List D):zW g h (d::r) ds=(g d ds).bind λds'=>h r ds':=rfl
@[simp]theorem tgNil_eq:tgNil [] ds=some ds:=rfl
@[simp]theorem isiG_eq(T:String)(f:FE):isiG T f ds=(f ds).bind (isiD T):=rfl
@[simp]theorem chain_eq(op op':D->D->Option D)(fa fb fc:FE):chain op op' fa fb fc ds=(fa ds).bind λx=>(fb ds).bind λy=>(op x y).bind λz=>match z with
 |.bl true=>(fc ds).bind λw=>op' y w
 |.bl false=>some (.bl false)
 |_=>none:=rfl
end
@[simp]theorem addD_int i j:xK (.int i) (.int j)=some (.int (i+j)):=rfl
@[simp]theorem subD_int i j:subD (.int i) (.int j)=some (.int (i-j)):=rfl
@[simp]theorem negD_int i:negD (.int i)=some (.int (-i)):=rfl
@[simp]theorem ltD_int i j:ltD (.int i) (.int j)=some (.bl (decide (i<j))):=rfl
@[simp]theorem leD_int i j:leD (.int i) (.int j)=some (.bl (decide (i<=j))):=rfl
@[simp]theorem gtD_int i j:gtD (.int i) (.int j)=some (.bl (decide (j<i))):=rfl
@[simp]theorem geD_int i j:geD (.int i) (.int j)=some (.bl (decide (j<=i))):=rfl
@[simp]def xE i(h:0<j):jA (.int i) (.int j)=some (.int (i%j)):=if_pos h
def ND(h:0<j)(h2:j<1000000000):divOk j:=⟨h,by
 have h3:j.natAbs<2^30:=by lia
 have h4:j.natAbs≠0:=by lia
 have:=(Nat.log2_lt h4).mpr h3
 lia⟩
@[simp]def uK i(h:0<j)(h2:j<1000000000):qT (.int i) (.int j)=some (.int (i/j)):=if_pos (ND h h2)
def qW(h:eS i j):xJ (.int i) (.int j)=some (.int (i*j)):=if_pos h
def TN(h:CPowB i j):powD (.int i) (.int j)=some (.int (i^j.toNat)):=if_pos h
def VB{i j:Int}{n m:Nat}(h:i.natAbs<2^n)(h0:0<=j)(h1:j<=m)(h2:n*m<=134217728):CPowB i j:=by
 refine⟨h0,?_⟩;have hb:=intBits_le_iff.mpr h;have h3:(Builtin.Int.intBits i:Int)*j<=(n:Int)*(m:Int):=FG (by lia) h1 h0 (by lia);have e2:(2:Int)^27=134217728:=by decide
 lia
@[simp]def pow10(h0:0<=j)(h1:j<=1000):powD (.int 10) (.int j)=some (.int (10^j.toNat)):=TN (VB (n:=4) (m:=1000) (by decide) h0 h1 (by decide))
@[simp]def mxD_int i j:mxD [.int i,.int j]=some (.int (max i j)):=by show some (D.int (if j>i then j else i))=_;congr 2;split<;>lia
@[simp]def mnD_int i j:mnD [.int i,.int j]=some (.int (min i j)):=by show some (D.int (if j<i then j else i))=_;congr 2;split<;>lia
@[simp]theorem lenD_lst l:lenD [.lst l]=some (.int l.length):=rfl
@[simp]theorem lenD_tup l:lenD [.tup l]=some (.int l.length):=rfl
@[simp]theorem isD_non:isD .non .non=some (.bl true):=rfl
@[simp]theorem isD_int i:isD (.int i) .non=some (.bl false):=rfl
@[simp]theorem isD_bl i:isD (.bl i) .non=some (.bl false):=rfl
@[simp]theorem isD_tup i:isD (.tup i) .non=some (.bl false):=rfl
@[simp]theorem isD_lst i:isD (.lst i) .non=some (.bl false):=rfl
@[simp]def isD_oi o:isD (oi o) .non=some (.bl o.isNone):=by cases o<;>rfl
@[simp]theorem notD_non:notD .non .non=some (.bl false):=rfl
@[simp]theorem notD_int i:notD (.int i) .non=some (.bl true):=rfl
@[simp]theorem notD_bl i:notD (.bl i) .non=some (.bl true):=rfl
@[simp]theorem notD_tup i:notD (.tup i) .non=some (.bl true):=rfl
@[simp]theorem notD_lst i:notD (.lst i) .non=some (.bl true):=rfl
@[simp]def notD_oi o:notD (oi o) .non=some (.bl o.isSome):=by cases o<;>rfl
@[simp]theorem truD_bl b:truD (.bl b)=some b:=rfl
@[simp]theorem truD_non:truD .non=some false:=rfl
@[simp]theorem truD_lst l:truD (.lst l)=some (!l.isEmpty):=rfl
@[simp]theorem truD_tup l:truD (.tup l)=some (!l.isEmpty):=rfl
def JC{n:Nat}{i:Int}(h:0<=i)(h2:i<n):ixN n i=some i.toNat:=by unfold ixN;rw[if_pos h,if_pos h2]
def yK l(h:0<=i)(h2:i<l.length):ixD (.lst l) (.int i)=l[i.toNat]?:=by show atI l i=_;unfold atI;rw[JC h h2];rfl
def JB l(h:0<=i)(h2:i<l.length):ixD (.tup l) (.int i)=l[i.toNat]?:=by show atI l i=_;unfold atI;rw[JC h h2];rfl
@[simp]def ixT0 a l:ixD (.tup (a::l)) (.int 0)=some a:=by rw[JB _ (by decide) (by rw[aH];lia)];rfl
@[simp]def ixT1 a b l:ixD (.tup (a::b::l)) (.int 1)=some b:=by rw[JB _ (by decide) (by rw[aH,aH];lia)];rfl
@[simp]def ixT2 a b c l:ixD (.tup (a::b::c::l)) (.int 2)=some c:=by rw[JB _ (by decide) (by rw[aH,aH,aH];lia)];rfl
@[simp]def ixL0 a l:ixD (.lst (a::l)) (.int 0)=some a:=by rw[yK _ (by decide) (by rw[aH];lia)];rfl
@[simp]def ixL1 a b l:ixD (.lst (a::b::l)) (.int 1)=some b:=by rw[yK _ (by decide) (by rw[aH,aH];lia)];rfl
def aEc l a:ixD (.lst (l++[a])) (.int (-1))=some a:=by
 show atI (l++[a]) (-1)=_;unfold atI ixN;rw[if_neg (by decide),if_pos (by rw[bX,pL];lia),bX,pL];have e:(-1+((l.length+1:Nat):Int)).toNat=l.length:=by lia
 rw[e];simp
@[simp]def flat_non:flat .non=true:=by simp[flat]
@[simp]def flat_bl b:flat (.bl b)=true:=by simp[flat]
@[simp]def flat_int i:flat (.int i)=true:=by simp[flat]
@[simp]def flat_tup l:flat (.tup l)=flats l:=by simp[flat]
@[simp]def flats_nil:flats []=true:=by simp[flats]
@[simp]def flats_cons d l:flats (d::l)=(flat d&&flats l):=by simp[flats]
@[simp]def flat_oi o:flat (oi o)=true:=by cases o<;>simp
def vH(h:flat d=true):flatR d=some (.rt (.val d)):=if_pos h
@[simp]def flatR_non:flatR .non=some (.rt (.val .non)):=vH (by simp)
@[simp]def flatR_bl b:flatR (.bl b)=some (.rt (.val (.bl b))):=vH (by simp)
@[simp]def flatR_int i:flatR (.int i)=some (.rt (.val (.int i))):=vH (by simp)
@[simp]def flatR_tup l(h:flats l=true):flatR (.tup l)=some (.rt (.val (.tup l))):=vH (by simpa using h)
@[simp]def flatF_of l(h:flats l=true):flatF l=some (.rt (.fresh l)):=if_pos h
@[simp]def shal_int n i:shal n (.int i)=true:=by simp[shal]
@[simp]def shal_non n:shal n .non=true:=by simp[shal]
@[simp]def shal_oi n o:shal n (oi o)=true:=by cases o<;>simp
@[simp]def shal_tup n l:shal n (.tup l)=shals n l:=by simp[shal]
@[simp]def shal_lst n l:shal n (.lst l)=shals n l:=by simp[shal]
@[simp]def shals_nil n:shals n []=true:=by cases n<;>simp[shals]
@[simp]def OX n d l:shals (n+1) (d::l)=(shal n d&&shals (n+1) l):=by simp[shals]
def kA(h:∀d∈l,shal n d=true):shals (n+1) l=true:=by
 induction l with
 |nil=>simp
 |cons d r ih=>rw[OX,h d aS,ih λx hx=>h x (aL _ hx)];rfl
def DB(h:shal 40 x=true)(h2:shal 40 y=true):eqD x y=some (.bl (eqvD x y)):=if_pos ⟨h,h2⟩
def IX(h:shal 40 x=true)(h2:shal 40 y=true):neD x y=some (.bl (!eqvD x y)):=if_pos ⟨h,h2⟩
@[simp]def eqvD_int i j:eqvD (.int i) (.int j)=decide (i=j):=by show(i==j)=_;rw[pB];simp
@[simp]theorem eqvD_non:eqvD .non .non=true:=rfl
@[simp]theorem eqvD_non_int j:eqvD .non (.int j)=false:=rfl
@[simp]theorem eqvD_int_non j:eqvD (.int j) .non=false:=rfl
@[simp]def eqvD_oi o p:eqvD (oi o) (oi p)=decide (o=p):=by cases o<;>cases p<;>simp
@[simp]def eqvD_tup a b:eqvD (.tup a) (.tup b)=eqvs a b:=by simp[eqvD,eqvs,toPy,PyData.eqv]
@[simp]def vJ a b:eqvD (.lst a) (.lst b)=eqvs a b:=by simp[eqvD,eqvs,toPy,PyData.eqv]
@[simp]def eqvs_nil:eqvs [] []=true:=by simp[eqvs,toPys,PyData.eqvAll]
@[simp]def HP x y a b:eqvs (x::a) (y::b)=(eqvD x y&&eqvs a b):=by simp[eqvs,eqvD,toPys,PyData.eqvAll]
@[simp]def eqvs_nil_cons y b:eqvs [] (y::b)=false:=by simp[eqvs,toPys,PyData.eqvAll]
@[simp]def eqvs_cons_nil y b:eqvs (y::b) []=false:=by simp[eqvs,toPys,PyData.eqvAll]
@[simp]def eqD_int i j:eqD (.int i) (.int j)=some (.bl (decide (i=j))):=by rw[DB (by simp) (by simp)];simp
@[simp]def neD_int i j:neD (.int i) (.int j)=some (.bl (!decide (i=j))):=by rw[IX (by simp) (by simp)];simp
@[simp]def aFa i j:eqD (oi i) (oi j)=some (.bl (decide (i=j))):=by rw[DB (by simp) (by simp)];simp
@[simp]def neD_oi i j:neD (oi i) (oi j)=some (.bl (!decide (i=j))):=by rw[IX (by simp) (by simp)];simp
def RD l:eqvs l []=l.isEmpty:=by cases l<;>simp
def UJ(h:shals 40 l=true):neD (.lst l) (.lst [])=some (.bl (!l.isEmpty)):=by rw[IX (by simpa using h) (by simp),vJ,RD]
def BJ n(l:List Int):shals (n+1) (l.map D.int)=true:=kA λd hd=>by obtain⟨i,_,rfl⟩:=bN.mp hd;simp
def DA(l:List Int):flats (l.map D.int)=true:=by
 induction l with
 |nil=>simp
 |cons a r ih=>simp[ih]
def YT l(k:Nat):cutD l (some (k:Int)) none=l.drop k:=by
 unfold cutD HT.sIx;simp only[show ¬((k:Int)<0) by lia,if_false,tZ];rw[cQ (by rw[iH];lia)];by_cases h:k<=l.length
 . rw[Nat.min_eq_left h]
 . rw[Nat.min_eq_right (by lia),gC,KD (by lia)]
def kits:kitF "int" "int" = some true/\kitF "NoneType" "int" = some false/\kitF "bool" "int" = some true/\kitF "tuple" "int" = some false/\kitF "list" "int" = some false/\kitF "str" "int" = some false ∧
  kitF "bool" "bool" = some true/\kitF "int" "bool" = some false/\kitF "NoneType" "bool" = some false/\kitF "tuple" "tuple" = some true/\kitF "list" "tuple" = some false/\kitF "NoneType" "tuple" = some false ∧
  kitF "list" "list" = some true/\kitF "tuple" "list" = some false/\kitF "NoneType" "list" = some false:=by
 refine⟨?_,?_,?_,?_,?_,?_,?_,?_,?_,?_,?_,?_,?_,?_,?_⟩<;>decide +kernel
@[simp]def isi_int_int i:isiD "int" (.int i)=some (.bl true):=by simp[isiD,tyD,kits.1]
@[simp]def isi_int_non:isiD "int" .non=some (.bl false):=by simp[isiD,tyD,kits.2.1]
@[simp]def isi_bool_int i:isiD "bool" (.int i)=some (.bl false):=by simp[isiD,tyD,kits.2.2.2.2.2.2.2.1]
@[simp]def isi_bool_non:isiD "bool" .non=some (.bl false):=by simp[isiD,tyD,kits.2.2.2.2.2.2.2.2.1]
@[simp]def isi_tup_tup l:isiD "tuple" (.tup l)=some (.bl true):=by simp[isiD,tyD,kits.2.2.2.2.2.2.2.2.2.1]
@[simp]def isi_lst_lst l:isiD "list" (.lst l)=some (.bl true):=by simp[isiD,tyD,kits.2.2.2.2.2.2.2.2.2.2.2.2.1]
@[simp]def bind_ite{α β:Type}[Decidable c](a b:Option α)(f:α->Option β):(if c then a else b).bind f=if c then a.bind f else b.bind f:=by split<;>rfl
@[simp]def map_ite{α β:Type}[Decidable c](a b:Option α)(f:α->β):(if c then a else b).map f=if c then a.map f else b.map f:=by split<;>rfl
theorem MJ(P:List Sl->Prop):∀items ds,P ds →
  (∀d∈items,∀ds,P ds->∃ds1 ds2,ga d ds=some ds1/\(body ds1=some (.nx ds2)\/body ds1=some (.ct ds2))/\P ds2)->∃ds',qQ ga body items ds=some (.nx ds')/\P ds'
 |[],ds,h,_=>⟨ds,rfl,h⟩
 |d::r,ds,h,H=>by obtain⟨ds1,ds2,e1,e2,h2⟩:=H d aS ds h;obtain⟨ds',e3,h3⟩:=MJ P r ds2 h2 λx hx=>H x (aL _ hx);refine⟨ds',?_,h3⟩;rcases e2 with e2|e2<;>simp only[qQ,e1,e2,aR,e3]
def yM(h:fi ds=some items)(hl:items.length<=sizeLine)(hc:compL ga tt fe (jJ mp ds) items=some l):compG fi mp ga tt fe ds=some l:=by unfold compG;rw[h];show(if items.length<=sizeLine then compL ga tt fe (jJ mp ds) items else none)=_;rw[if_pos hl];exact hc
theorem NL:∀bs,blsD (bs.map D.bl)=some bs
 |[]=>rfl
 |b::r=>by simp[blsD,NL r]
@[simp]def DN(bs:List Bool):allD [.lst (bs.map D.bl)]=some (.bl (bs.all id)):=by simp[allD,NL]
@[simp]def ixL2 a b c l:ixD (.lst (a::b::c::l)) (.int 2)=some c:=by rw[yK _ (by decide) (by rw[aH,aH,aH];lia)];rfl
@[simp]def ixL3 a b c d l:ixD (.lst (a::b::c::d::l)) (.int 3)=some d:=by rw[yK _ (by decide) (by rw[aH,aH,aH,aH];lia)];rfl
@[simp]theorem rng3_eq(fa fb fc:FE)(ds:List Sl):rng3 fa fb fc ds=(fa ds).bind λx=>(fb ds).bind λy=>(fc ds).bind λz=>match x,y,z with
 |.int i,.int j,.int c=>if okR3 i j c then some (SJ i c (aAx i j c))else none
 |_,_,_=>none:=rfl
@[simp]theorem rng2_eq(fa fb:FE)(ds:List Sl):rng2 fa fb ds=(fa ds).bind λx=>(fb ds).bind λy=>match x,y with
 |.int i,.int j=>if okR i/\okR j then some (iT i (j-i).toNat)else none
 |_,_=>none:=rfl
@[simp]theorem rng1_eq f ds:rng1 f ds=(f ds).bind λd=>match d with|.int j=>if okR j then some (iT 0 j.toNat)else none|_=>none:=rfl
def wP(h : -1000000000<=j)(h2:j<=1000000000):okR j:=⟨fF (by decide) h,Int.lt_of_le_of_lt h2 (by decide)⟩
theorem vU:∀bs,intsD (bs.map D.int)=some bs
 |[]=>rfl
 |b::r=>by simp[intsD,vU r]
@[simp]theorem absD_int i:absD [.int i]=some (.int (if i<0 then -i else i)):=rfl
@[simp]theorem int1D_int i:int1D [.int i]=some (.int i):=rfl
@[simp]theorem int1D_bl b:int1D [.bl b]=some (.int (if b then 1 else 0)):=rfl
@[simp]theorem augA_eq(i:Nat)(f:FE)(ds:List Sl):augA i f ds=(qB i ds).bind λx=>(f ds).bind λy=>match x,y with
 |.int a,.int b=>some (.nx (ds.set i (.v (.int (a+b)))))
 |_,_=>none:=rfl
@[simp]theorem parG_eq(i j:Nat)(f:FA)(ds:List Sl):parG i j f ds=(f ds).bind λl=>match l with
 |[a,b]=>some (.nx ((ds.set i (.v a)).set j (.v b)))
 |_=>none:=rfl
@[simp]theorem revA_eq(f:FE)(ds:List Sl):revA f ds=(f ds).bind λd=>match d with
 |.lst l=>some l.reverse
 |_=>none:=rfl
def QI{lo:Int}(h:d∈iT lo n):∃k,k<n/\d=.int (lo+(k:Int)):=by obtain⟨k,hk,rfl⟩:=bN.mp h;exact⟨k,nD.mp hk,rfl⟩
def zM(h:f ds=some (.nx ds')):qL f g ds=g ds':=by simp[h]
def xI(h:g (args n ds)=some (.rt r)):runG g n ds=some r:=by unfold runG;rw[h]
end FL
section
open FL
noncomputable def lU:FS:=(retG (andV (zF notD (zG 0) (zA .non)) (andV (zF notD (zG 1) (zA .non)) (zF leD (zG 0) (zG 1)))))
noncomputable def gM:List D->Option Ret:=runG lU 2
noncomputable def tS:FS:=(qL (ifG (orT (zK (zF isD (zF ixD (zG 0) (zA (.int 0))) (zA .non))) (zK (zF isD (zF ixD (zG 0) (zA (.int 1))) (zA .non)))) (retG (zA .non)) qJ)
 (retG (zF subD (zF ixD (zG 0) (zA (.int 1))) (zF ixD (zG 0) (zA (.int 0))))))
noncomputable def tT:List D->Option Ret:=runG tS 1
noncomputable def mV:FS:=(qL (ifG (zK (zF isD (zG 0) (zA .non))) (retG (zG 1)) qJ)
 (qL (ifG (zK (zF isD (zG 1) (zA .non))) (retG (zG 0)) qJ)
 (retG (callB mxD (zC (zG 0) (zC (zG 1) zT))))))
noncomputable def hU:List D->Option Ret:=runG mV 2
noncomputable def iF:FS:=(qL (ifG (zK (zF isD (zG 0) (zA .non))) (retG (zG 1)) qJ)
 (qL (ifG (zK (zF isD (zG 1) (zA .non))) (retG (zG 0)) qJ)
 (retG (callB mnD (zC (zG 0) (zC (zG 1) zT))))))
noncomputable def dF:List D->Option Ret:=runG iF 2
noncomputable def tE:FS:=(qL (jK 2 (qZ 2 hU (zC (zF ixD (zG 0) (zA (.int 0))) (zC (zF ixD (zG 1) (zA (.int 0))) zT))))
 (qL (jK 3 (qZ 2 dF (zC (zF ixD (zG 0) (zA (.int 1))) (zC (zF ixD (zG 1) (zA (.int 1))) zT))))
 (qL (ifG (testT (qZ 2 gM (zC (zG 3) (zC (zG 2) zT)))) (retG (zA .non)) qJ)
 (retG (mkT (qI (zC (qB 2) (zC (qB 3) zT))))))))
noncomputable def mP:List D->Option Ret:=runG tE 4
noncomputable def oJ:FS:=(qL (ifG (notT (testT (isiG "str" (zG 0)))) (retG (zA (.bl false))) qJ)
 (qL (ifG (orT (zK (zF ltD (callB lenD (zC (zG 0) zT)) (zA (.int 1)))) (zK (zF gtD (callB lenD (zC (zG 0) zT)) (zA (.int 8))))) (retG (zA (.bl false))) qJ)
 (retG (callB allD (zC (mkL (compG (viaA (qB 0) asS) [none] (zN 0) (λ_=>some true) (zF inS (zG 0) (zA (.str "abcdefghijklmnopqrstuvwxyz"))))) zT)))))
noncomputable def fK:List D->Option Ret:=runG oJ 1
noncomputable def mW:FS:=(qL (ifG (zK (zF isD (zG 4) (zA .non))) (λds=>some (.ct ds)) qJ)
 (ifG (andT (testT (zG 1)) (andT (zK (zF eqD (zF ixD (zF ixD (zG 1) (un1 negD (zA (.int 1)))) (zA (.int 1))) (zG 2))) (zK (zF eqD (zF ixD (zF ixD (zG 1) (un1 negD (zA (.int 1)))) (zA (.int 2))) (zG 4))))) (putG 1 (un1 negD (zA (.int 1))) (mkT (qI (zC (zF ixD (zF ixD (zG 1) (un1 negD (zA (.int 1)))) (zA (.int 0))) (zC (qB 3) (zC (qB 4) zT)))))) (appG 1 (mkT (qI (zC (qB 2) (zC (qB 3) (zC (qB 4) zT))))))))
noncomputable def tF:FS:=(qL (setOG 1 (qI zT))
 (qL (forG (viaA (qB 0) asLT) (tupG 3 (zW (zN 2) (zW (zN 3) (zW (zN 4) tgNil)))) mW)
 (retXG 1)))
noncomputable def gS:List D->Option Ret:=runG tF 5
noncomputable def gR:FS:=(qL (ifG (zK (zF neD (zG 3) (zG 2))) (appG 1 (mkT (qI (zC (qB 2) (zC (qB 3) (zC (zA .non) zT)))))) qJ)
 (qL (appG 1 (mkT (qI (zC (qB 3) (zC (qB 4) (zC (qB 5) zT))))))
 (jK 2 (qB 4))))
noncomputable def oH:FS:=(qL (setOG 1 (qI zT))
 (qL (jK 2 (zA .non))
 (qL (forG (viaA (qB 0) asLT) (tupG 3 (zW (zN 3) (zW (zN 4) (zW (zN 5) tgNil)))) gR)
 (qL (ifG (orT (zK (zF notD (zG 2) (zA .non))) (notT (testT (zG 0)))) (appG 1 (mkT (qI (zC (qB 2) (zC (zA .non) (zC (zA .non) zT)))))) qJ)
 (retXG 1)))))
noncomputable def iB:List D->Option Ret:=runG oH 6
noncomputable def fW:FS:=(qL (jK 6 (qZ 2 mP (zC (mkT (qI (zC (qB 3) (zC (qB 4) zT)))) (zC (zG 1) zT))))
 (ifG (zK (zF notD (zG 6) (zA .non))) (appG 2 (mkT (qI (zC (zF ixD (zG 6) (zA (.int 0))) (zC (zF ixD (zG 6) (zA (.int 1))) (zC (qB 5) zT)))))) qJ))
noncomputable def nN:FS:=(qL (setOG 2 (qI zT))
 (qL (forG (viaA (qB 0) asLT) (tupG 3 (zW (zN 3) (zW (zN 4) (zW (zN 5) tgNil)))) fW)
 (retXG 2)))
noncomputable def fE:List D->Option Ret:=runG nN 7
noncomputable def mU:FS:=(qL (setOG 3 (qI zT))
 (qL (ifG (zK (zF notD (zF ixD (zG 1) (zA (.int 0))) (zA .non))) (extG 3 (xL 2 fE (zC (zG 0) (zC (mkT (qI (zC (zA .non) (zC (zF ixD (zG 1) (zA (.int 0))) zT)))) zT)))) qJ)
 (qL (appG 3 (mkT (qI (zC (zF ixD (zG 1) (zA (.int 0))) (zC (zF ixD (zG 1) (zA (.int 1))) (zC (qB 2) zT))))))
 (qL (ifG (zK (zF notD (zF ixD (zG 1) (zA (.int 1))) (zA .non))) (extG 3 (xL 2 fE (zC (zG 0) (zC (mkT (qI (zC (zF ixD (zG 1) (zA (.int 1))) (zC (zA .non) zT)))) zT)))) qJ)
 (retXG 3)))))
noncomputable def eQ:List D->Option Ret:=runG mU 4
noncomputable def mI:FS:=(setOG 1 (xL 1 gS (zC (qZ 3 eQ (zC (zG 1) (zC (zG 2) (zC (zG 3) zT)))) zT)))
noncomputable def pG:FS:=(qL (setOG 1 (qI zT))
 (qL (forG (viaA (qB 0) asLT) (tupG 2 (zW (zN 2) (zW (zN 3) tgNil))) mI)
 (retXG 1)))
noncomputable def iW:List D->Option Ret:=runG pG 4
noncomputable def mH:FS:=(qL (jK 8 (zF ixD (zG 2) (zG 6)))
 (qL (jK 9 (zF ixD (zG 3) (zG 7)))
 (qL (jK 10 (qZ 2 dF (zC (zF ixD (zG 8) (zA (.int 1))) (zC (zF ixD (zG 9) (zA (.int 1))) zT))))
 (qL (appG 4 (mkT (qI (zC (qB 5) (zC (qB 10) (zC (zF ixD (zG 8) (zA (.int 2))) (zC (zF ixD (zG 9) (zA (.int 2))) zT)))))))
 (qL (ifG (zK (zF eqD (zF ixD (zG 8) (zA (.int 1))) (zG 10))) (augA 6 (zA (.int 1))) qJ)
 (qL (ifG (zK (zF eqD (zF ixD (zG 9) (zA (.int 1))) (zG 10))) (augA 7 (zA (.int 1))) qJ)
 (jK 5 (qB 10))))))))
noncomputable def pE:FS:=(qL (jK 2 (qZ 1 iB (zC (zG 0) zT)))
 (qL (jK 3 (qZ 1 iB (zC (zG 1) zT)))
 (qL (setOG 4 (qI zT))
 (qL (jK 5 (zA .non))
 (qL (jK 6 (zA (.int 0)))
 (qL (jK 7 (zA (.int 0)))
 (qL (iS (zK (zF ltD (zG 6) (callB lenD (zC (zG 2) zT)))) mH 100000)
 (retXG 4))))))))
noncomputable def nF:List D->Option Ret:=runG pE 11
noncomputable def AT:FS:=(retOG (xL 1 gS (zC (qZ 3 eQ (zC (zG 0) (zC (zG 1) (zC (zG 2) zT)))) zT)))
noncomputable def kQ:List D->Option Ret:=runG AT 3
noncomputable def pF(Φ:Fun2):FS:=(qL (jK 3 (qZ 2 nF (zC (zG 0) (zC (zG 1) zT))))
 (retOG (xL 1 gS (zC (mkL (compG (viaA (qB 3) asLT) [none,none,none,none,some 2] (tupG 4 (zW (zN 0) (zW (zN 1) (zW (zN 2) (zW (zN 3) tgNil))))) (λ_=>some true) (mkT (qI (zC (qB 0) (zC (qB 1) (zC (callW Φ 4 (zC (zG 2) (zC (zG 3) zT))) zT))))))) zT))))
noncomputable def lK(Φ:Fun2):List D->Option Ret:=runG (pF Φ) 4
noncomputable def pH:FS:=(retG (ifV (zK (zF isD (zG 0) (zA .non))) (qB 1) (qB 0)))
noncomputable def lL:List D->Option Ret:=runG pH 2
noncomputable def kZ:FS:=(qL (ifG (orT (zK (zF ltD (callB lenD (zC (zG 0) zT)) (zA (.int 1)))) (zK (zF gtD (callB lenD (zC (zG 0) zT)) (zA (.int 60))))) (λ_=>none) qJ)
 (qL (ifG (notT (testT (callB allD (zC (mkL (compG (viaA (qB 0) asLT) [none] (zN 0) (λ_=>some true) (qZ 1 fK (zC (zG 0) zT)))) zT)))) (λ_=>none) qJ)
 (ifG (zK (zF ltD (lsetE (zG 0)) (callB lenD (zC (zG 0) zT)))) (λ_=>none) qJ)))
noncomputable def fX:List D->Option Ret:=runG kZ 1
noncomputable def eG:FS:=(dputN (atP [(12,0)] (varP 0)) (qB 2) (sO nilO))
noncomputable def fL:FS:=(qL (dropG (qZ 1 fX (zC (zG 1) zT)))
 (qL (setNw 24 12 (varP 0) dO0)
 (forG (viaA (mkL (srtTA (zG 1))) asLT) (zN 2) eG)))
noncomputable def dO:OT->List D->Option OT:=lentF fL 3
noncomputable def lB:FS:=(qL (ifG (orT (notT (testT (qZ 1 fK (zC (zG 1) zT)))) (dnotG (zG 1) (fldG [(12,0)] (qB 0)))) (λ_=>none) qJ)
 (retOG (lisA (dgetG (fldG [(12,0)] (qB 0)) (qB 1)))))
noncomputable def iD:List D->Option Ret:=runG lB 2
noncomputable def cN:Nat->List D->Option Ret
 |12=>iD
 |_=>λ_=>none
noncomputable def iO:FS:=(dputG (atP [(12,0)] (varP 0)) (qB 1) (ofO (relGO 0 (lO (xL 3 kQ (zC (methV 1 [12] cN (qB 0) (zC (zG 1) zT)) (zC (zG 2) (zC (zA (.int 1)) zT))))))))
noncomputable def eY:OT->List D->Option OT:=lentF iO 3
noncomputable def iE:FS:=(dputG (atP [(12,0)] (varP 0)) (qB 1) (ofO (relGO 0 (lO (xL 3 kQ (zC (methV 1 [12] cN (qB 0) (zC (zG 1) zT)) (zC (zG 2) (zC (zA .non) zT))))))))
noncomputable def eL:OT->List D->Option OT:=lentF iE 3
noncomputable def pD:FS:=(qL (ifG (orT (zK (zF isD (zG 0) (zA .non))) (zK (zF isD (zG 1) (zA .non)))) (retG (qZ 2 lL (zC (zG 0) (zC (zG 1) zT)))) qJ)
 (retG (zF xK (zG 0) (zG 1))))
noncomputable def iV:List D->Option Ret:=runG pD 2
noncomputable def lI(Φ:Fun2):FS:=(setOG 1 (xL 3 (lK Φ) (zC (zG 1) (zC (zG 2) (zC (zA (.clo 1000 3 [])) zT)))))
noncomputable def oG(Φ:Fun2):FS:=(qL (setOG 1 (qI zT))
 (qL (forG (viaA (qB 0) asLT) (zN 2) (lI Φ))
 (retXG 1)))
noncomputable def mG(Φ:Fun2):List D->Option Ret:=runG (oG Φ) 3
noncomputable def gV(Φ:Fun2):FS:=(qL (appG 1 (mkL (compG (viaA (qB 3) asLT) [none,none,none,some 2] (tupG 3 (zW (zN 0) (zW (zN 1) (zW (zN 2) tgNil)))) (λ_=>some true) (mkT (qI (zC (qB 0) (zC (qB 1) (zC (qB 3) zT))))))))
 (jK 2 (zF xJ (zG 2) (zA (.int 2)))))
noncomputable def lA(Φ:Fun2):FS:=(qL (setOG 1 (qI zT))
 (qL (jK 2 (zA (.int 1)))
 (qL (forG (valsA (fldG [(12,0)] (qB 0))) (zN 3) (gV Φ))
 (retOG (xL 1 (mG Φ) (zC (zG 1) zT))))))
noncomputable def nR(Φ:Fun2):List D->Option Ret:=runG (lA Φ) 4
noncomputable def iC(Φ:Fun2):Nat->List D->Option Ret
 |12=>(nR Φ)
 |_=>λ_=>none
noncomputable def oN:FS:=(qL (ifG (zK (zF ltD (zG 1) (callB lenD (zC (zG 0) zT)))) (retG (zF ixD (zG 0) (zG 1))) qJ)
 (retG (zA (.int 0))))
noncomputable def eB:List D->Option Ret:=runG oN 2
noncomputable def oK:FS:=(retG (andV (isiG "int" (zG 0)) (notV (isiG "bool" (zG 0)))))
noncomputable def eZ:List D->Option Ret:=runG oK 1
noncomputable def rZ:FS:=(qL (jK 1 (zF powD (zF powD (zA (.int 10)) (zA (.int 60))) (zA (.int 8))))
 (retG (zF subD (zF jA (zG 0) (zF xK (zF xJ (zA (.int 2)) (zG 1)) (zA (.int 1)))) (zG 1))))
noncomputable def lC:List D->Option Ret:=runG rZ 2
noncomputable def mL:FS:=(qL (ifG (orT (notT (testT (isiG "tuple" (zF ixD (zG 0) (zG 1))))) (orT (zK (zF neD (callB lenD (zC (zF ixD (zG 0) (zG 1)) zT)) (zA (.int 3)))) (notT (testT (qZ 1 eZ (zC (zF ixD (zF ixD (zG 0) (zG 1)) (zA (.int 2))) zT)))))) (retG (zA (.bl false))) qJ)
 (qL (asgG (tupG 3 (zW (zN 2) (zW (zN 3) (zW (zN 4) tgNil)))) (zF ixD (zG 0) (zG 1)))
 (qL (ifG (andT (notT (testT (qZ 1 eZ (zC (zG 2) zT)))) (orT (zK (zF notD (zG 2) (zA .non))) (zK (zF gtD (zG 1) (zA (.int 0)))))) (retG (zA (.bl false))) qJ)
 (qL (ifG (andT (notT (testT (qZ 1 eZ (zC (zG 3) zT)))) (orT (zK (zF notD (zG 3) (zA .non))) (zK (zF ltD (zG 1) (zF subD (callB lenD (zC (zG 0) zT)) (zA (.int 1))))))) (retG (zA (.bl false))) qJ)
 (qL (ifG (andT (zK (zF notD (zG 2) (zA .non))) (andT (zK (zF notD (zG 3) (zA .non))) (zK (zF geD (zG 2) (zG 3))))) (retG (zA (.bl false))) qJ)
 (qL (jK 5 (zF ixD (zG 0) (callB mxD (zC (zF subD (zG 1) (zA (.int 1))) (zC (zA (.int 0)) zT)))))
 (ifG (andT (zK (zF gtD (zG 1) (zA (.int 0)))) (orT (zK (zF gtD (zF ixD (zG 5) (zA (.int 1))) (zG 2))) (zK (zF eqD (sltW (zG 5) (soP (zA (.int 1))) noP) (mkT (qI (zC (qB 2) (zC (qB 4) zT)))))))) (retG (zA (.bl false))) qJ)))))))
noncomputable def pJ:FS:=(qL (ifG (notT (testT (isiG "list" (zG 0)))) (retG (zA (.bl false))) qJ)
 (qL (forG (rng1 (callB lenD (zC (zG 0) zT))) (zN 1) mL)
 (retG (zA (.bl true)))))
noncomputable def lM:List D->Option Ret:=runG pJ 6
noncomputable def kR:FS:=(jK 3 (zF xK (zG 3) (zA (.int 1))))
noncomputable def mJ:FS:=(qL (iS (andT (zK (zF ltD (zG 3) (callB lenD (zC (zG 0) zT)))) (andT (zK (zF notD (zF ixD (zF ixD (zG 0) (zG 3)) (zA (.int 1))) (zA .non))) (zK (zF leD (zF ixD (zF ixD (zG 0) (zG 3)) (zA (.int 1))) (zG 4))))) kR 100000)
 (ifG (andT (zK (zF ltD (zG 3) (callB lenD (zC (zG 0) zT)))) (orT (zK (zF isD (zF ixD (zF ixD (zG 0) (zG 3)) (zA (.int 0))) (zA .non))) (zK (zF leD (zF ixD (zF ixD (zG 0) (zG 3)) (zA (.int 0))) (zG 4))))) (appG 2 (zF ixD (zF ixD (zG 0) (zG 3)) (zA (.int 2)))) (appG 2 (zA .non))))
noncomputable def pI:FS:=(qL (setOG 2 (qI zT))
 (qL (jK 3 (zA (.int 0)))
 (qL (forG (viaA (qB 1) asLT) (zN 4) mJ)
 (retXG 2))))
noncomputable def nG:List D->Option Ret:=runG pI 5
noncomputable def gT:FS:=(ifG (zK (zF notD (zG 3) (zA .non))) (qL (appG 2 (zF subD (zG 3) (zA (.int 1))))
 (appG 2 (qB 3))) qJ)
noncomputable def oM:FS:=(qL (setOG 2 (qI (zC (zA (.int 0)) zT)))
 (qL (forG (viaA (mkL (catA (mkL (catA (zG 1) (mkL (compG (viaA (qB 0) asLT) [none] (zN 0) (λ_=>some true) (zF ixD (zG 0) (zA (.int 0))))))) (mkL (compG (viaA (qB 0) asLT) [none] (zN 0) (λ_=>some true) (zF ixD (zG 0) (zA (.int 1))))))) asLT) (zN 3) gT)
 (retOG (srtSA (zG 2)))))
noncomputable def mK:List D->Option Ret:=runG oM 4
end
namespace FL
abbrev Spn:=Option Int×Option Int
noncomputable def spD(s:Spn):D:=.tup [oi s.1,oi s.2]
noncomputable def oS:Option Spn->D
 |none=>.non
 |some s=>spD s
noncomputable def hasS(s:Spn)(p:Int):Bool:=(match s.1 with|none=>true|some a=>decide (a<=p))&&(match s.2 with|none=>true|some b=>decide (p<b))
def okS(s:Spn):Prop:=∀a b,s.1=some a->s.2=some b->a<b
@[simp]def spD_0 s:ixD (spD s) (.int 0)=some (oi s.1):=ixT0 _ _
@[simp]def spD_1 s:ixD (spD s) (.int 1)=some (oi s.2):=ixT1 _ _ _
@[simp]def spD_flat s:flat (spD s)=true:=by simp[spD]
@[simp]theorem spD_isD s:isD (spD s) .non=some (.bl false):=rfl
@[simp]theorem spD_notD s:notD (spD s) .non=some (.bl true):=rfl
@[simp]theorem spD_asLT s:asLT (spD s)=some [oi s.1,oi s.2]:=rfl
@[simp]def oS_isD o:isD (oS o) .non=some (.bl o.isNone):=by cases o<;>rfl
@[simp]def oS_notD o:notD (oS o) .non=some (.bl o.isSome):=by cases o<;>rfl
def length_eq s:tT [spD s]=some (.val (oi (match s.1,s.2 with|some a,some b=>some (b-a)|_,_=>none))):=by obtain⟨a,b⟩:=s;unfold tT runG tS;cases a<;>cases b<;>simp[args]
noncomputable def lateL:Option Int->Option Int->Option Int
 |none,b=>b
 |a,none=>a
 |some a,some b=>some (max a b)
noncomputable def qP:Option Int->Option Int->Option Int
 |none,b=>b
 |a,none=>a
 |some a,some b=>some (min a b)
noncomputable def pV:Option Int->Option Int->Bool
 |some b,some l=>decide (b<=l)
 |_,_=>false
def aDz a b:hU [oi a,oi b]=some (.val (oi (lateL a b))):=by unfold hU runG mV;cases a<;>cases b<;>simp[args,lateL]
def NA a b:dF [oi a,oi b]=some (.val (oi (qP a b))):=by unfold dF runG iF;cases a<;>cases b<;>simp[args,qP]
def ZD a b:gM [oi a,oi b]=some (.val (.bl (pV a b))):=by unfold gM runG lU;cases a<;>cases b<;>simp[args,pV]
noncomputable def meetS(s t:Spn):Option Spn:=if pV (qP s.2 t.2) (lateL s.1 t.1)=true then none else some (lateL s.1 t.1,qP s.2 t.2)
def meet_eq s t:mP [spD s,spD t]=some (.val (oS (meetS s t))):=by unfold mP runG tE;cases h:pV (qP s.2 t.2) (lateL s.1 t.1)<;>simp[args,aDz,NA,ZD,h,meetS,oS,spD]
def HasS(s:Spn)(p:Int):Prop:=(∀a,s.1=some a->a<=p)/\(∀b,s.2=some b->p<b)
def xX s p:hasS s p=true↔HasS s p:=by obtain⟨a,b⟩:=s;cases a<;>cases b<;>simp[hasS,HasS]
def MM:(∀x,lateL a c=some x->x<=p)↔(∀x,a=some x->x<=p)/\(∀x,c=some x->x<=p):=by
 cases a<;>cases c<;>simp[lateL]
 lia
def MZ:(∀x,qP a c=some x->p<x)↔(∀x,a=some x->p<x)/\(∀x,c=some x->p<x):=by
 cases a<;>cases c<;>simp[qP]
 lia
def ZC(h:pV b l=true)(h1:∀x,l=some x->x<=p)(h2:∀x,b=some x->p<x):False:=by
 cases b<;>cases l<;>simp[pV]at h
 lia
noncomputable def hasO(o:Option Spn)(p:Int):Bool:=match o with
 |none=>false
 |some u=>hasS u p
def HM s t p:hasO (meetS s t) p=(hasS s p&&hasS t p):=by
 rw[pB,bV,xX,xX];unfold meetS;by_cases h:pV (qP s.2 t.2) (lateL s.1 t.1)=true
 . rw[if_pos h];refine⟨λz=>by simp[hasO]at z,λz=>(ZC h (MM.mpr ⟨z.1.1,z.2.1⟩) (MZ.mpr ⟨z.1.2,z.2.2⟩)).elim⟩
 . rw[if_neg h];show hasS _ p=true↔_;rw[xX];show(∀x,lateL s.1 t.1=some x->x<=p)/\(∀x,qP s.2 t.2=some x->p<x)↔_;rw[MM,MZ];exact⟨λ⟨⟨a,b⟩,c,d⟩=>⟨⟨a,c⟩,b,d⟩,λ⟨⟨a,c⟩,b,d⟩=>⟨⟨a,b⟩,c,d⟩⟩
def aDl(h:meetS s t=some u):okS u:=by
 unfold meetS at h;split at h
 . cases h
 . rename_i hn;cases h;intro a b h1 h2;simp only at h1 h2;simp [pV]at hn
   lia
open Builtin.Int (intBits)
noncomputable def cel(ns:List Int)(k:Nat):Int:=ns.getD k 0
def aFg(ns:List Int)(h:0<=k):eB [.lst (ns.map D.int),.int k]=some (.val (.int (ns.getD k.toNat 0))):=by
 unfold eB runG oN;by_cases hk:k<(ns.length:Int)
 . have hl:k < ((ns.map D.int).length:Int):=by simpa using hk
   have e:(ns.map D.int)[k.toNat]?=some (.int (ns.getD k.toNat 0)):=by
    have:k.toNat<ns.length:=by lia
    simp[this,List.getD]
   simp[args,hk,yK _ h hl,e]
 . have:ns.getD k.toNat 0=0:=by
    have:ns.length<=k.toNat:=by lia
    simp[List.getD,aY this]
   rw[this];simp[args,hk]
def JL ns(k:Nat):eB [.lst (ns.map D.int),.int (k:Int)]=some (.val (.int (cel ns k))):=aFg ns (k:=(k:Int)) (by lia)
def qC(h:a.natAbs<2^m):intBits a<=m:=intBits_le_iff.mpr h
def pow1060:powD (.int (10^60)) (.int 8)=some (.int ((10^60)^8)):=TN (VB (n:=200) (m:=8) (by decide) (by decide) (by decide) (by decide))
@[simp]def eqS_put_put:eqD (.str "put") (.str "put")=some (.bl true):=by kernel_rfl
@[simp]def neS_put_put:neD (.str "put") (.str "put")=some (.bl false):=by kernel_rfl
@[simp]def eqS_put_widen:eqD (.str "put") (.str "widen")=some (.bl false):=by kernel_rfl
@[simp]def neS_put_widen:neD (.str "put") (.str "widen")=some (.bl true):=by kernel_rfl
@[simp]def aEv:eqD (.str "put") (.str "narrow")=some (.bl false):=by kernel_rfl
@[simp]def aDf:neD (.str "put") (.str "narrow")=some (.bl true):=by kernel_rfl
@[simp]def eqS_put_move:eqD (.str "put") (.str "move")=some (.bl false):=by kernel_rfl
@[simp]def neS_put_move:neD (.str "put") (.str "move")=some (.bl true):=by kernel_rfl
@[simp]def ZY:eqD (.str "put") (.str "stretch")=some (.bl false):=by kernel_rfl
@[simp]def ZR:neD (.str "put") (.str "stretch")=some (.bl true):=by kernel_rfl
@[simp]def aEw:eqD (.str "put") (.str "mirror")=some (.bl false):=by kernel_rfl
@[simp]def aDg:neD (.str "put") (.str "mirror")=some (.bl true):=by kernel_rfl
@[simp]def eqS_widen_put:eqD (.str "widen") (.str "put")=some (.bl false):=by kernel_rfl
@[simp]def neS_widen_put:neD (.str "widen") (.str "put")=some (.bl true):=by kernel_rfl
@[simp]def ZW:eqD (.str "widen") (.str "widen")=some (.bl true):=by kernel_rfl
@[simp]def ZP:neD (.str "widen") (.str "widen")=some (.bl false):=by kernel_rfl
@[simp]def YK:eqD (.str "widen") (.str "narrow")=some (.bl false):=by kernel_rfl
@[simp]def XB:neD (.str "widen") (.str "narrow")=some (.bl true):=by kernel_rfl
@[simp]def aEu:eqD (.str "widen") (.str "move")=some (.bl false):=by kernel_rfl
@[simp]def aDe:neD (.str "widen") (.str "move")=some (.bl true):=by kernel_rfl
@[simp]def UU:eqD (.str "widen") (.str "stretch")=some (.bl false):=by kernel_rfl
@[simp]def UD:neD (.str "widen") (.str "stretch")=some (.bl true):=by kernel_rfl
@[simp]def YL:eqD (.str "widen") (.str "mirror")=some (.bl false):=by kernel_rfl
@[simp]def XC:neD (.str "widen") (.str "mirror")=some (.bl true):=by kernel_rfl
@[simp]def aEx:eqD (.str "narrow") (.str "put")=some (.bl false):=by kernel_rfl
@[simp]def aDh:neD (.str "narrow") (.str "put")=some (.bl true):=by kernel_rfl
@[simp]def YN:eqD (.str "narrow") (.str "widen")=some (.bl false):=by kernel_rfl
@[simp]def XE:neD (.str "narrow") (.str "widen")=some (.bl true):=by kernel_rfl
@[simp]def UW:eqD (.str "narrow") (.str "narrow")=some (.bl true):=by kernel_rfl
@[simp]def UF:neD (.str "narrow") (.str "narrow")=some (.bl false):=by kernel_rfl
@[simp]def aAa:eqD (.str "narrow") (.str "move")=some (.bl false):=by kernel_rfl
@[simp]def ZS:neD (.str "narrow") (.str "move")=some (.bl true):=by kernel_rfl
@[simp]def RG:eqD (.str "narrow") (.str "stretch")=some (.bl false):=by kernel_rfl
@[simp]def QD:neD (.str "narrow") (.str "stretch")=some (.bl true):=by kernel_rfl
@[simp]def UX:eqD (.str "narrow") (.str "mirror")=some (.bl false):=by kernel_rfl
@[simp]def UG:neD (.str "narrow") (.str "mirror")=some (.bl true):=by kernel_rfl
@[simp]def eqS_move_put:eqD (.str "move") (.str "put")=some (.bl false):=by kernel_rfl
@[simp]def neS_move_put:neD (.str "move") (.str "put")=some (.bl true):=by kernel_rfl
@[simp]def aEy:eqD (.str "move") (.str "widen")=some (.bl false):=by kernel_rfl
@[simp]def aDi:neD (.str "move") (.str "widen")=some (.bl true):=by kernel_rfl
@[simp]def aAb:eqD (.str "move") (.str "narrow")=some (.bl false):=by kernel_rfl
@[simp]def ZT:neD (.str "move") (.str "narrow")=some (.bl true):=by kernel_rfl
@[simp]def eqS_move_move:eqD (.str "move") (.str "move")=some (.bl true):=by kernel_rfl
@[simp]def neS_move_move:neD (.str "move") (.str "move")=some (.bl false):=by kernel_rfl
@[simp]def YO:eqD (.str "move") (.str "stretch")=some (.bl false):=by kernel_rfl
@[simp]def XF:neD (.str "move") (.str "stretch")=some (.bl true):=by kernel_rfl
@[simp]def aAc:eqD (.str "move") (.str "mirror")=some (.bl false):=by kernel_rfl
@[simp]def ZU:neD (.str "move") (.str "mirror")=some (.bl true):=by kernel_rfl
@[simp]def ZX:eqD (.str "stretch") (.str "put")=some (.bl false):=by kernel_rfl
@[simp]def ZQ:neD (.str "stretch") (.str "put")=some (.bl true):=by kernel_rfl
@[simp]def UV:eqD (.str "stretch") (.str "widen")=some (.bl false):=by kernel_rfl
@[simp]def UE:neD (.str "stretch") (.str "widen")=some (.bl true):=by kernel_rfl
@[simp]def RE:eqD (.str "stretch") (.str "narrow")=some (.bl false):=by kernel_rfl
@[simp]def QB:neD (.str "stretch") (.str "narrow")=some (.bl true):=by kernel_rfl
@[simp]def YM:eqD (.str "stretch") (.str "move")=some (.bl false):=by kernel_rfl
@[simp]def XD:neD (.str "stretch") (.str "move")=some (.bl true):=by kernel_rfl
@[simp]def OC:eqD (.str "stretch") (.str "stretch")=some (.bl true):=by kernel_rfl
@[simp]def OB:neD (.str "stretch") (.str "stretch")=some (.bl false):=by kernel_rfl
@[simp]def RF:eqD (.str "stretch") (.str "mirror")=some (.bl false):=by kernel_rfl
@[simp]def QC:neD (.str "stretch") (.str "mirror")=some (.bl true):=by kernel_rfl
@[simp]def aEz:eqD (.str "mirror") (.str "put")=some (.bl false):=by kernel_rfl
@[simp]def aDj:neD (.str "mirror") (.str "put")=some (.bl true):=by kernel_rfl
@[simp]def YQ:eqD (.str "mirror") (.str "widen")=some (.bl false):=by kernel_rfl
@[simp]def XG:neD (.str "mirror") (.str "widen")=some (.bl true):=by kernel_rfl
@[simp]def UY:eqD (.str "mirror") (.str "narrow")=some (.bl false):=by kernel_rfl
@[simp]def UH:neD (.str "mirror") (.str "narrow")=some (.bl true):=by kernel_rfl
@[simp]def aAd:eqD (.str "mirror") (.str "move")=some (.bl false):=by kernel_rfl
@[simp]def ZV:neD (.str "mirror") (.str "move")=some (.bl true):=by kernel_rfl
@[simp]def RH:eqD (.str "mirror") (.str "stretch")=some (.bl false):=by kernel_rfl
@[simp]def QE:neD (.str "mirror") (.str "stretch")=some (.bl true):=by kernel_rfl
@[simp]def UZ:eqD (.str "mirror") (.str "mirror")=some (.bl true):=by kernel_rfl
@[simp]def UI:neD (.str "mirror") (.str "mirror")=some (.bl false):=by kernel_rfl
@[simp]theorem fldG_eq(ix:List (Nat×Nat))(f:FE)(ds:List Sl):fldG ix f ds=(f ds).bind (fldD ix):=rfl
@[simp]theorem fldD_ins(ix:List (Nat×Nat))(t:Nat)(es:List D):fldD ix (.ins t es)=(ix.lookup t).bind λi=>es[i]?:=rfl
@[simp]theorem methV_eq(n:Nat)(cs:List Nat)(F:Nat->List D->Option Ret)(fo:FE)(g:FA)(ds:List Sl):methV n cs F fo g ds=(fo ds).bind λo=>(g ds).bind λl=>(methR n cs F o l).bind retV:=rfl
@[simp]theorem methF_eq(n:Nat)(cs:List Nat)(F:Nat->List D->Option Ret)(fo:FE)(g:FA)(ds:List Sl):methF n cs F fo g ds=(fo ds).bind λo=>(g ds).bind λl=>(methR n cs F o l).bind retF:=rfl
@[simp]theorem makeG_eq(t n:Nat)(G:List D->Option (List D))(g:FA)(ds:List Sl):makeG t n G g ds=(g ds).bind λl=>if l.length=n/\flats l=true then (G l).map (D.ins t)else none:=rfl
@[simp]theorem retDG_eq(f:FE)(ds:List Sl):retDG f ds=(f ds).map λd=>.rt (.val d):=rfl
abbrev Rw:=Option Int×Option Int×Option Int
noncomputable def rwD(r:Rw):D:=.tup [oi r.1,oi r.2.1,oi r.2.2]
noncomputable def has3(r:Rw)(p:Int):Bool:=hasS (r.1,r.2.1) p
def ok3(r:Rw):Prop:=okS (r.1,r.2.1)
@[simp]def rwD_0 r:ixD (rwD r) (.int 0)=some (oi r.1):=ixT0 _ _
@[simp]def rwD_1 r:ixD (rwD r) (.int 1)=some (oi r.2.1):=ixT1 _ _ _
@[simp]def rwD_2 r:ixD (rwD r) (.int 2)=some (oi r.2.2):=ixT2 _ _ _ _
@[simp]def rwD_flat r:flat (rwD r)=true:=by simp[rwD]
@[simp]def rwD_shal r n:shal (n+1) (rwD r)=true:=by simp[rwD]
@[simp]def rwD_isi r:isiD "tuple" (rwD r)=some (.bl true):=by simp[rwD]
@[simp]def rwD_len r:lenD [rwD r]=some (.int 3):=by simp[rwD]
@[simp]def rwD_tupG h r ds:tupG 3 h (rwD r) ds=h [oi r.1,oi r.2.1,oi r.2.2] ds:=by simp[rwD]
@[simp]def rwD_eqv r t:eqvD (rwD r) (rwD t)=decide (r=t):=by obtain⟨a,b,c⟩:=r;obtain⟨x,y,z⟩:=t;rw[pB];simp[rwD]
def jQ(l:List Rw):flats (l.map rwD)=true:=by
 induction l with
 |nil=>simp
 |cons a r ih=>simp[ih]
def vE n(l:List Rw):shals (n+2) (l.map rwD)=true:=kA λd hd=>by obtain⟨r,_,rfl⟩:=bN.mp hd;simp
theorem JI:∀a b:List Rw,eqvs (a.map rwD) (b.map rwD)=decide (a=b)
 |[],[]=>by simp
 |[],y::b=>by simp
 |x::a,[]=>by simp
 |x::a,y::b=>by simp only[aQ,HP,rwD_eqv,JI a b];rw[pB];simp
def eqD_rw(a b:List Rw):eqD (.lst (a.map rwD)) (.lst (b.map rwD))=some (.bl (decide (a=b))):=by rw[DB (by simpa using vE 38 a) (by simpa using vE 38 b),vJ,JI]
def neD_rw(a b:List Rw):neD (.lst (a.map rwD)) (.lst (b.map rwD))=some (.bl (!decide (a=b))):=by rw[IX (by simpa using vE 38 a) (by simpa using vE 38 b),vJ,JI]
def MP(h:0<n):ixN n (-1)=some (n-1):=by
 unfold ixN;rw[if_neg (by decide),if_pos (by lia)];congr 1
 lia
def ahead(a b:Rw):Prop:=∃x y,a.2.1=some x/\b.1=some y/\x<=y
structure Ord(rows:List Rw):Prop where
 ok:∀r∈rows,ok3 r
 pw:rows.Pairwise ahead
def Tel(rows:List Rw)(p v:Int):Prop:=∃r∈rows,has3 r p=true/\r.2.2=some v
noncomputable def knit1(acc:List Rw)(r:Rw):List Rw:=match r.2.2 with
 |none=>acc
 |some v=>match acc with
   |[]=>[r]
   |q::t=>if q.2.1=r.1/\q.2.2=some v then (q.1,r.2.1,some v)::t else r::q::t
noncomputable def knitF(rows:List Rw):List Rw:=(rows.foldl knit1 []).reverse
def XT acc r(R a b c:Sl)(hl:acc.length<16777216) :
  mW [R,.own (acc.map rwD).reverse,.v (oi r.1),.v (oi r.2.1),.v (oi r.2.2)]=some (.nx [R,.own ((knit1 acc r).map rwD).reverse,.v (oi r.1),.v (oi r.2.1),.v (oi r.2.2)]) ∨
  mW [R,.own (acc.map rwD).reverse,.v (oi r.1),.v (oi r.2.1),.v (oi r.2.2)]=some (.ct [R,.own ((knit1 acc r).map rwD).reverse,.v (oi r.1),.v (oi r.2.1),.v (oi r.2.2)]):=by
 obtain⟨lo,bh,v⟩:=r;unfold mW;cases v with
 |none=>right;simp[knit1]
 |some v=>
   left;cases acc with
   |nil=>have e:D.tup [oi lo,oi bh,.int v]=rwD (lo,bh,some v):=rfl;simp[knit1,e]
   |cons q t=>
     have last:ixD (.lst ((t.map rwD).reverse++[rwD q])) (.int (-1))=some (rwD q):=aEc _ _;have le:ixN (t.length+1) (-1)=some t.length:=by rw[MP (by lia)];rfl
     have hl':t.length+1<16777216:=by simpa using hl
     have e2:∀x:Option Int,eqD (oi x) (D.int v)=some (.bl (decide (x=some v))):=λx=>aFa x (some v);by_cases h1:q.2.1=lo
     . by_cases h2:q.2.2=some v
       . have e:D.tup [oi q.1,oi bh,.int v]=rwD (q.1,bh,some v):=rfl;simp[knit1,h1,h2,last,le,e2,e]
       . have e:D.tup [oi lo,oi bh,.int v]=rwD (lo,bh,some v):=rfl;simp[knit1,h1,h2,last,le,e2,hl',e]
     . have e:D.tup [oi lo,oi bh,.int v]=rwD (lo,bh,some v):=rfl;simp[knit1,h1,last,le,hl',e]
def HF acc r:(knit1 acc r).length<=acc.length+1:=by
 unfold knit1;split
 . lia
 . split
   . simp
   . split<;>simp
theorem HC R:∀(rows acc:List Rw) a b c,acc.length+rows.length<16777216 →
  ∃a' b' c',qQ (tupG 3 (zW (zN 2) (zW (zN 3) (zW (zN 4) tgNil)))) mW (rows.map rwD) [R,.own (acc.map rwD).reverse,a,b,c]=some (.nx [R,.own ((rows.foldl knit1 acc).map rwD).reverse,a',b',c'])
 |[],acc,a,b,c,_=>⟨a,b,c,rfl⟩
 |r::rows,acc,a,b,c,h=>by simp only[aH]at h;have hl:=HF acc r;obtain⟨a',b',c',ih⟩:=HC R rows (knit1 acc r) (.v (oi r.1)) (.v (oi r.2.1)) (.v (oi r.2.2)) (by omega);refine⟨a',b',c',?_⟩;rcases XT acc r R a b c (by omega)with e|e<;>simp[qQ,e,ih]
def UM rows(h:rows.length<16777216):gS [.lst (rows.map rwD)]=some (.fresh ((knitF rows).map rwD)):=by obtain⟨a,b,c,e⟩:=HC (.v (.lst (rows.map rwD))) rows [] .no .no .no (by simpa using h);simp only[List.reverse_nil,cR]at e;unfold gS runG tF;have fl:=jQ (knitF rows);unfold knitF at fl ⊢;rw[List.map_reverse]at fl ⊢;simp[args,e,fl]
def XU rows:(knitF rows).length<=rows.length:=by
 unfold knitF;rw[mS];have:∀(rows acc:List Rw),(rows.foldl knit1 acc).length<=acc.length+rows.length:=by
  intro rows;induction rows with
  |nil=>intro acc;simp
  |cons r t ih=>
    intro acc;have:=ih (knit1 acc r);have:=HF acc r;simp only[cB,aH]
    lia
 have:=this rows [];simpa using this
noncomputable def adjOk:List Rw->Prop
 |b::a::t=>¬(a.2.1=b.1/\a.2.2=b.2.2)/\adjOk (a::t)
 |_=>True
structure KI(acc:List Rw):Prop where
 ok:∀r∈acc,ok3 r
 pw:acc.Pairwise λb a=>ahead a b
 val:∀r∈acc,r.2.2≠none
 adj:adjOk acc
theorem KI.nil:KI []:=⟨(λ_ h=>nomatch h),List.Pairwise.nil,(λ_ h=>nomatch h),trivial⟩
def qR r p:has3 r p=true↔(∀a,r.1=some a->a<=p)/\(∀b,r.2.1=some b->p<b):=xX _ _
def QR(k:KI acc)(ho:ok3 r)(ha:∀a∈acc,ahead a r) :
  KI (knit1 acc r)/\(∀r',ahead r r'->(∀a∈acc,ahead a r')->∀a∈knit1 acc r,ahead a r')/\∀p v,Tel (knit1 acc r) p v↔Tel acc p v\/(has3 r p=true/\r.2.2=some v):=by
 obtain⟨lo,bh,w⟩:=r;cases w with
 |none=>refine⟨k,λr' _ h=>h,λp v=>⟨.inl,λh=>h.elim id λz=>by simp at z⟩⟩
 |some w=>
   cases acc with
   |nil=>
     refine⟨⟨?_,?_,?_,trivial⟩,?_,?_⟩
     . intro x hx;simp[knit1]at hx;subst hx;exact ho
     . simp[knit1]
     . intro x hx;simp[knit1]at hx;subst hx;simp
     . intro r' h1 _ a h;simp[knit1]at h;subst h;exact h1
     . intro p v;simp[knit1,Tel]
   |cons q t=>
     obtain⟨x,y,hx,hy,hxy⟩:=ha q aS;simp only at hy;have pw:=bF.mp k.pw;by_cases hm:q.2.1=lo/\q.2.2=some w
     . have e:knit1 (q::t) (lo,bh,some w)=(q.1,bh,some w)::t:=by simp [knit1,hm.1,hm.2]
       rw[e];have hn:∀p,has3 (q.1,bh,some w) p=true↔has3 q p=true\/has3 (lo,bh,some w) p=true:=by
        intro p;rw[qR,qR,qR];constructor
        . rintro ⟨h1,h2⟩;by_cases hp:p<x
          . exact .inl ⟨h1,λb hb=>by rw[hx]at hb;cases hb;exact hp⟩
          . exact .inr ⟨λa h=>by rw[hy]at h;cases h;lia,h2⟩
        . rintro (⟨h1,h2⟩|⟨h1,h2⟩)
          . refine ⟨h1,λb hb=>?_⟩;have:=h2 x hx;have:=ho y b hy hb
            lia
          . refine ⟨λa h=>?_,h2⟩;have:=k.ok q aS a x h hx;have:=h1 y hy
            lia
       refine⟨⟨?_,?_,?_,?_⟩,?_,?_⟩
       . intro z hz;rcases aB.mp hz with rfl|hz
         . intro a b h1 h2;have:=k.ok q aS a x h1 hx;have:=ho y b hy h2
           lia
         . exact k.ok z (aL _ hz)
       . refine bF.mpr ⟨λa h=>?_,pw.2⟩;exact pw.1 a h
       . intro z hz;rcases aB.mp hz with rfl|hz
         . simp
         . exact k.val z (aL _ hz)
       . have ka:=k.adj;cases t with
         |nil=>trivial
         |cons a t=>refine⟨λh=>ka.1 ⟨h.1,?_⟩,ka.2⟩;rw[hm.2];exact h.2
       . intro r' h1 h2 a h;rcases aB.mp h with rfl|h
         . exact h1
         . exact h2 a (aL _ h)
       . intro p v;constructor
         . rintro ⟨z,hz,h1,h2⟩;rcases aB.mp hz with rfl|hz
           . rcases (hn p).mp h1 with h3|h3
             . exact .inl ⟨q,aS,h3,hm.2.trans h2⟩
             . exact .inr ⟨h3,h2⟩
           . exact .inl ⟨z,aL _ hz,h1,h2⟩
         . rintro (⟨z,hz,h1,h2⟩|⟨h1,h2⟩)
           . rcases aB.mp hz with rfl|hz
             . exact⟨_,aS,(hn p).mpr (.inl h1),by rw[hm.2]at h2;exact h2⟩
             . exact⟨z,aL _ hz,h1,h2⟩
           . exact⟨_,aS,(hn p).mpr (.inr h1),h2⟩
     . have e:knit1 (q::t) (lo,bh,some w)=(lo,bh,some w)::q::t:=by simp only [knit1];rw [if_neg hm]
       rw[e];refine⟨⟨?_,bF.mpr ⟨ha,k.pw⟩,?_,hm,k.adj⟩,?_,?_⟩
       . intro z hz;rcases aB.mp hz with rfl|hz
         . exact ho
         . exact k.ok z hz
       . intro z hz;rcases aB.mp hz with rfl|hz
         . simp
         . exact k.val z hz
       . intro r' h1 h2 a h;rcases aB.mp h with rfl|h
         . exact h1
         . exact h2 a h
       . intro p v;constructor
         . rintro ⟨z,hz,h1,h2⟩;rcases aB.mp hz with rfl|hz
           . exact .inr ⟨h1,h2⟩
           . exact .inl ⟨z,hz,h1,h2⟩
         . rintro (⟨z,hz,h1,h2⟩|⟨h1,h2⟩)
           . exact⟨z,aL _ hz,h1,h2⟩
           . exact⟨_,aS,h1,h2⟩
theorem vY:∀rows acc,KI acc->Ord rows->(∀a∈acc,∀r∈rows,ahead a r)->KI (rows.foldl knit1 acc)/\∀p v,Tel (rows.foldl knit1 acc) p v↔Tel acc p v\/Tel rows p v
 |[],acc,k,_,_=>⟨k,λp v=>⟨.inl,λh=>h.elim id λ⟨r,hr,_⟩=>nomatch hr⟩⟩
 |r::rows,acc,k,o,h=>by
   have pw:=bF.mp o.pw;obtain⟨k1,h1,t1⟩:=QR k (o.ok r aS) λa ha=>h a ha r aS;obtain⟨k2,t2⟩:=vY rows (knit1 acc r) k1 ⟨λz hz=>o.ok z (aL _ hz),pw.2⟩ λa ha r' hr'=>h1 r' (pw.1 r' hr') (λb hb=>h b hb r' (aL _ hr')) a ha;refine⟨k2,λp v=>?_⟩;show Tel (rows.foldl knit1 (knit1 acc r)) p v↔_;rw[t2,t1];constructor
   . rintro ((h|⟨h,e⟩)|⟨z,hz,h⟩)
     . exact .inl h
     . exact .inr ⟨r,aS,h,e⟩
     . exact .inr ⟨z,aL _ hz,h⟩
   . rintro (h'|⟨z,hz,h'⟩)
     . exact .inl (.inl h')
     . rcases aB.mp hz with rfl|hz
       . exact .inl (.inr h')
       . exact .inr ⟨z,hz,h'⟩
structure MapF(ps:List Rw):Prop where
 ord:Ord ps
 val:∀r∈ps,r.2.2≠none
 adj:∀(i:Nat) (a b:Rw),ps[i]?=some a->ps[i+1]?=some b->¬(a.2.1=b.1/\a.2.2=b.2.2)
theorem HW:∀{l:List Rw},adjOk l->∀i b a,l[i]?=some b->l[i+1]?=some a->¬(a.2.1=b.1/\a.2.2=b.2.2)
 |[],_,i,b,a,e,_=>by simp at e
 |[x],_,i,b,a,e,e2=>by simp at e2
 |x::y::t,h,0,b,a,e,e2=>by simp at e e2;subst e e2;exact h.1
 |x::y::t,h,i+1,b,a,e,e2=>HW h.2 i b a (by simpa using e) (by simpa using e2)
def KI.map(k:KI acc):MapF acc.reverse:=by
 refine⟨⟨λr hr=>k.ok r (cX.mp hr),NX.mpr k.pw⟩,λr hr=>k.val r (cX.mp hr),λi a b h1 h2=>?_⟩;have l2:=(aW.mp h2).1;rw[mS]at l2;rw[List.getElem?_reverse (by lia)]at h1 h2;refine HW k.adj (acc.length-1-(i+1)) b a h2 ?_;rw[<-h1];congr 1
 lia
def KU:Tel l.reverse p v↔Tel l p v:=⟨λ⟨r,h,q⟩=>⟨r,cX.mp h,q⟩,λ⟨r,h,q⟩=>⟨r,cX.mpr h,q⟩⟩
def HE(o:Ord rows):MapF (knitF rows):=(vY rows [] KI.nil o (λ_ h=>nomatch h)).1.map
def HD(o:Ord rows) p v:Tel (knitF rows) p v↔Tel rows p v:=by unfold knitF;rw[KU,(vY rows [] KI.nil o (λ_ h=>nomatch h)).2];exact⟨λh=>h.elim (λ⟨r,hr,_⟩=>nomatch hr) id,.inr⟩
noncomputable def valL(rows:List Rw)(p:Int):Option Int:=rows.foldl (λt r=>if has3 r p=true then r.2.2 else t) none
def wH(h:ahead a b)(h1:has3 a p=true)(h2:has3 b p=true):False:=by
 obtain⟨x,y,hx,hy,hxy⟩:=h;rw[qR]at h1 h2;have:=h1.2 x hx;have:=h2.1 y hy
 lia
def WA{rows:List Rw}(h:∀r∈rows,has3 r p=false) t:rows.foldl (λt r=>if has3 r p=true then r.2.2 else t) t=t:=by
 induction rows generalizing t with
 |nil=>rfl
 |cons r rows ih=>rw[cB,h r aS];exact ih (λz hz=>h z (aL _ hz)) _
def yB(o:Ord rows) p v:valL rows p=some v↔Tel rows p v:=by
 have key:∀(rows:List Rw),Ord rows->∀t:Option Int,rows.foldl (λt r=>if has3 r p=true then r.2.2 else t) t=(match rows.find? (λr=>has3 r p)with|some r=>r.2.2|none=>t):=by
  intro rows;induction rows with
  |nil=>intro _ t;rfl
  |cons r rows ih=>
    intro o t;have pw:=bF.mp o.pw;rw[cB];cases h:has3 r p with
    |true=>
      rw[kU (by exact h)];simp only[if_true];exact WA (λz hz=>by
       cases hz':has3 z p with
       |false=>rfl
       |true=>exact(wH (pw.1 z hz) h hz').elim) _
    |false=>rw[gP (by simpa using h)];simp only[bS,if_false];exact ih ⟨λz hz=>o.ok z (aL _ hz),pw.2⟩ t
 unfold valL;rw[key rows o none];constructor
 . intro h;cases hf:rows.find? (λr=>has3 r p)with
   |none=>rw[hf]at h;cases h
   |some r=>rw[hf]at h;exact⟨r,fM hf,by simpa using mO hf,h⟩
 . rintro ⟨r,hr,h1,h2⟩;cases hf:rows.find? (λr=>has3 r p)with
   |none=>have:=kM.mp hf r hr;exact(this h1).elim
   |some r'=>
     have h3:has3 r' p=true:=by simpa using mO hf
     have hm:=fM hf;have:r'=r:=by
      by_cases e:r'=r
      . exact e
      . exfalso;have pw:=o.pw;rcases lY.mp hr with ⟨i,hi,rfl⟩
        rcases lY.mp hm with⟨j,hj,rfl⟩
        rcases tX i j with hlt|hlt|hlt
        . exact wH (bP.mp pw i j hi hj hlt) h1 h3
        . subst hlt;exact e rfl
        . exact wH (bP.mp pw j i hj hi hlt) h3 h1
     rw[this];exact h2
def VZ(oa:Ord a)(ob:Ord b)(h:∀v,Tel a p v↔Tel b p v):valL a p=valL b p:=by
 cases ha:valL a p with
 |some v=>exact((yB ob p v).mpr ((h v).mp ((yB oa p v).mp ha))).symm
 |none=>
   cases hb:valL b p with
   |none=>rfl
   |some v=>have:=(yB oa p v).mpr ((h v).mpr ((yB ob p v).mp hb));rw[ha]at this;cases this
open Builtin.Int (intBits)
structure Drawn(rows:List Rw)(s:Int):Prop where
 ord:Ord rows
 fin:∀r∈rows,∃lo bh,r.1=some lo/\r.2.1=some bh/\bh<=s
def ints_at ns(h0:0<=k)(h1:k<ns.length):ixD (.lst (ns.map D.int)) (.int k)=some (.int (cel ns k.toNat)):=by
 have h3:k.toNat<ns.length:=by lia
 rw[yK _ h0 (by simpa using h1)];simp[h3,cel,List.getD]
def FH i:eZ [.int i]=some (.val (.bl true)):=by unfold eZ runG oK;simp[args]
@[simp]theorem methR_ins(n:Nat)(cs:List Nat)(F:Nat->List D->Option Ret)(t:Nat)(es l:List D):methR n cs F (.ins t es) l=if t∈cs/\l.length=n then F t (.ins t es::l)else none:=rfl
open Builtin.Str
noncomputable def txS(cs:List Nat):Str:=⟨cs.toArray⟩
@[simp]theorem aDs cs:(txS cs).cps.toList=cs:=rfl
@[simp]def UK cs:(txS cs).length=cs.length:=by simp[txS,Str.length]
def txS_inj:txS a=txS b↔a=b:=⟨λh=>by have:=congrArg (λx:Str=>x.cps.toList) h;simpa using this,λh=>by rw[h]⟩
@[simp]def RY a b:txS a++txS b=txS (a++b):=Str.ext' (by rw[Str.cps_append];simp[txS])
def in_one cs c:inS (.str (txS [c])) (.str (txS cs))=some (.bl (decide (c∈cs))):=by have e3:txS [c]=(⟨#[c]⟩:Str):=rfl;have e:=StrLaws.found_one (txS cs) c;rw[aDs]at e;rw[e3];show some (D.bl _)=_;rw[e]
def len_tx cs(h:cs.length<=16777216):lenD [.str (txS cs)]=some (.int cs.length):=by simp[lenD,h]
def add_tx a b(h:a.length+b.length<=16777216):xK (.str (txS a)) (.str (txS b))=some (.str (txS (a++b))):=by simp[xK,h]
open Builtin.Int (intBits)
theorem yU{α:Type} f h:∀(xs:List α),(∀x∈xs,∃ds1,ga (f x) s0=some ds1/\fe ds1=some (h x))->compL ga (λ_=>some true) fe s0 (xs.map f)=some (xs.map h)
 |[],_=>rfl
 |x::xs,H=>by obtain⟨ds1,e1,e2⟩:=H x aS;have ih:=yU (ga:=ga) (fe:=fe) (s0:=s0) f h xs λy hy=>H y (aL _ hy);simp only[aQ,compL,e1,e2,ih,aR,if_true,dC]
def tJ(o:Ord rows) p:valL rows p=(match rows.find? (λr=>has3 r p) with | some r=>r.2.2 | none=>none):=by
 cases hf:rows.find? (λr=>has3 r p)with
 |none=>
   cases hv:valL rows p with
   |none=>rfl
   |some v=>obtain⟨r,hr,h1,_⟩:=(yB o p v).mp hv;exact(kM.mp hf r hr h1).elim
 |some r=>
   have hm:=fM hf;have h3:has3 r p=true:=by simpa using mO hf
   cases hw:r.2.2 with
   |some v=>exact((yB o p v).mpr ⟨r,hm,h3,hw⟩).trans hw.symm
   |none=>
     cases hv:valL rows p with
     |none=>exact hw.symm
     |some v=>
       obtain⟨r',hr',h1,h2⟩:=(yB o p v).mp hv;have:r'=r:=by
        by_cases e:r'=r
        . exact e
        . exfalso;rcases lY.mp hr' with ⟨i,hi,rfl⟩
          rcases lY.mp hm with⟨j,hj,rfl⟩
          rcases tX i j with hlt|hlt|hlt
          . exact wH (bP.mp o.pw i j hi hj hlt) h1 h3
          . subst hlt;exact e rfl
          . exact wH (bP.mp o.pw j i hj hi hlt) h3 h1
       rw[this,hw]at h2;cases h2
noncomputable def runsR(here:Option Int)(b:Bool):List Rw->List Rw
 |[]=>if here≠none\/b=true then [(here,none,none)]else []
 |r::t=>(if r.1≠here then [(here,r.1,none)]else [])++r::runsR r.2.1 false t
noncomputable def jO(ps:List Rw):List Rw:=runsR none true ps
noncomputable def runsB(here:Option Int):List Rw->List Rw
 |[]=>[]
 |r::t=>(if r.1≠here then [(here,r.1,none)]else [])++r::runsB r.2.1 t
noncomputable def lastB(here:Option Int):List Rw->Option Int
 |[]=>here
 |r::t=>lastB r.2.1 t
theorem BO:∀ps here b,runsR here b ps=runsB here ps++(if lastB here ps≠none\/(b=true/\ps=[])then [(lastB here ps,none,none)]else [])
 |[],here,b=>by simp[runsR,runsB,lastB]
 |r::t,here,b=>by rw[runsR,BO t];simp[runsB,lastB]
theorem vS:∀ps here,(runsB here ps).length<=2*ps.length
 |[],here=>by simp[runsB]
 |r::t,here=>by have:=vS t r.2.1;rw[runsB];split<;>simp<;>omega
theorem vZ R:∀ps acc here a b c,acc.length+2*ps.length<16777216->∃a' b' c',qQ (tupG 3 (zW (zN 3) (zW (zN 4) (zW (zN 5) tgNil)))) gR (ps.map rwD) [R,.own (acc.map rwD),.v (oi here),a,b,c]=some (.nx [R,.own ((acc++runsB here ps).map rwD),.v (oi (lastB here ps)),a',b',c'])
 |[],acc,here,a,b,c,_=>⟨a,b,c,by simp[runsB,lastB,qQ]⟩
 |r::ps,acc,here,a,b,c,h=>by
   simp only[aH]at h;have e0:D.tup [oi here,oi r.1,.non]=rwD (here,r.1,none):=rfl;have e1:D.tup [oi r.1,oi r.2.1,oi r.2.2]=rwD r:=rfl;have z1:acc.length<16777216:=by omega
   have z2:acc.length+1<16777216:=by omega
   by_cases hr:r.1=here
   . subst hr;obtain ⟨a',b',c',ih⟩:=vZ R ps (acc++[r]) r.2.1 (.v (oi r.1)) (.v (oi r.2.1)) (.v (oi r.2.2)) (by simp;omega);refine ⟨a',b',c',?_⟩;simp only [cU,aQ,cR,bK,dD,cT]at ih;have turn:gR [R,.own (acc.map rwD),.v (oi r.1),.v (oi r.1),.v (oi r.2.1),.v (oi r.2.2)]=some (.nx [R,.own (acc.map rwD++[rwD r]),.v (oi r.2.1),.v (oi r.1),.v (oi r.2.1),.v (oi r.2.2)]):=by simp [gR,z1,e1]
     simp[qQ,turn,ih,runsB,lastB]
   . obtain ⟨a',b',c',ih⟩:=vZ R ps (acc++[(here,r.1,none),r]) r.2.1 (.v (oi r.1)) (.v (oi r.2.1)) (.v (oi r.2.2)) (by simp;omega);refine ⟨a',b',c',?_⟩;simp only [cU,aQ,cR,bK,dD,cT]at ih;have turn:gR [R,.own (acc.map rwD),.v (oi here),.v (oi r.1),.v (oi r.2.1),.v (oi r.2.2)]=some (.nx [R,.own (acc.map rwD++[rwD (here,r.1,none),rwD r]),.v (oi r.2.1),.v (oi r.1),.v (oi r.2.1),.v (oi r.2.2)]):=by simp [gR,z1,z2,e0,e1,hr]
     simp[qQ,turn,ih,runsB,lastB,hr]
def SG ps(h:ps.length<=1000000):iB [.lst (ps.map rwD)]=some (.fresh ((jO ps).map rwD)):=by
 obtain⟨a,b,c,e⟩:=vZ (.v (.lst (ps.map rwD))) ps [] none .no .no .no (by simp;lia);have hl:=vS ps none;have z:(runsB none ps).length<16777216:=by lia
 simp only[cR,cT,IW]at e;have fl:=jQ (jO ps);unfold jO at fl ⊢;rw[BO]at fl ⊢;unfold iB runG oH;have e0:D.tup [oi (lastB none ps),.non,.non]=rwD (lastB none ps,none,none):=rfl;cases hb:lastB none ps with
 |some x=>rw[hb]at e e0 fl;simp at fl e0;simp[args,e,z,e0,fl]
 |none=>
   rw[hb]at e e0 fl;cases ps with
   |nil=>simp[runsB]at e fl;simp[args,e,runsB,rwD]
   |cons r t=>simp at fl;simp only[aQ,IW]at e;simp[args,e,fl]
noncomputable def befo(p:Int):Option Int->Bool
 |some a=>decide (p<a)
 |none=>false
noncomputable def inso(p:Int):Option Int->Bool
 |some b=>decide (p<b)
 |none=>true
noncomputable def lookF(p:Int)(here:Option Int):List Rw->Rw
 |[]=>(here,none,none)
 |r::t=>if befo p r.1=true then (here,r.1,none)
   else if inso p r.2.1=true then r else lookF p r.2.1 t
theorem HA p:∀ps here b,Ord ps->(∀r,ps.head?=some r->r.1=none->here=none)->(∀h,here=some h->h<=p)->(here≠none\/b=true)->(runsR here b ps).find? (λr=>has3 r p)=some (lookF p here ps)
 |[],here,b,_,_,h,hb=>by
   have:has3 (here,none,none) p=true:=by rw[qR];exact⟨h,λb e=>by cases e⟩
   simp[runsR,hb,lookF,this]
 |r::t,here,b,o,hN,h,hb=>by
   obtain⟨lo,bh,w⟩:=r;have pw:=bF.mp o.pw;rw[runsR,lookF];simp only;by_cases h1:befo p lo=true
   . rw [if_pos h1];cases lo with
     |none=>simp[befo]at h1
     |some a=>
       have hp:p<a:=by simpa[befo]using h1
       have hne:(some a:Option Int)≠here:=λe=>by have:=h a e.symm;omega
       have hg:has3 (here,some a,none) p=true:=by rw[qR];exact⟨h,λb e=>by cases e;exact hp⟩
       rw[if_pos hne];simp[hg]
   . rw [if_neg h1];have hlo:∀a,lo=some a->a<=p:=λa e=>by
      subst e;have:¬p<a:=by simpa[befo]using h1
      omega
     have skip:(if lo≠here then [((here,lo,none):Rw)]else []).find? (λr=>has3 r p)=none:=by
      split
      . rename_i hne;have:has3 (here,lo,none) p=false:=by
         rw[tI];intro z;rw[qR]at z;cases lo with
         |none=>
           cases here with
           |none=>exact hne rfl
           |some x=>have:=hN _ rfl rfl;cases this
         |some a=>have:=z.2 a rfl;have:=hlo a rfl;omega
        simp[this]
      . rfl
     rw[ZN,skip];simp only[Option.none_or];by_cases h2:inso p bh=true
     . rw [if_pos h2];have:has3 (lo,bh,w) p=true:=by rw[qR];refine⟨hlo,λb e=>?_⟩;simp only at e;subst e;simpa[inso]using h2
       rw[kU (by exact this)]
     . rw [if_neg h2];cases bh with
       |none=>simp[inso]at h2
       |some b=>
         have hp:b<=p:=by
          have:¬p<b:=by simpa[inso]using h2
          omega
         have:has3 (lo,some b,w) p=false:=by rw[tI];intro z;rw[qR]at z;have:=z.2 b rfl;omega
         rw[gP (by simpa using this)];exact HA p t (some b) false ⟨λz hz=>o.ok z (aL _ hz),pw.2⟩ (λr' e e'=>by
          obtain⟨x,y,_,hy,_⟩:=pw.1 r' (NZ e);rw[e']at hy
          cases hy) (λx e=>by cases e;exact hp) (.inl (by simp))
def aDr(o:Ord ps) p:(jO ps).find? (λr=>has3 r p)=some (lookF p none ps):=HA p ps none true o (λ_ _ _=>rfl) (λh e=>by cases e) (.inr rfl)
theorem MK p:∀ps here,Ord ps->(lookF p here ps).2.2=(match ps.find? (λr=>has3 r p)with|some r=>r.2.2|none=>none)
 |[],here,_=>rfl
 |r::t,here,o=>by
   have pw:=bF.mp o.pw;obtain⟨lo,bh,w⟩:=r;rw[lookF];simp only;by_cases h1:befo p lo=true
   . rw [if_pos h1];cases lo with
     |none=>simp[befo]at h1
     |some a=>
       have hp:p<a:=by simpa[befo]using h1
       have:((some a,bh,w)::t).find? (λr=>has3 r p)=none:=by
        rw[kM];intro z hz hh;rw[qR]at hh;rcases aB.mp hz with rfl|hz
        . have:=hh.1 a rfl;omega
        . obtain⟨x,y,hx,hy,hxy⟩:=pw.1 z hz;have:=hh.1 y hy;have:=o.ok _ aS a x rfl hx;omega
       rw[this]
   . rw [if_neg h1];have hlo:∀a,lo=some a->a<=p:=λa e=>by
      subst e;have:¬p<a:=by simpa[befo]using h1
      omega
     by_cases h2:inso p bh=true
     . rw [if_pos h2];have:has3 (lo,bh,w) p=true:=by rw[qR];refine⟨hlo,λb e=>?_⟩;simp only at e;subst e;simpa[inso]using h2
       rw[kU (by exact this)]
     . rw [if_neg h2];have:has3 (lo,bh,w) p=false:=by
        rw[tI];intro z;rw[qR]at z;cases bh with
        |none=>simp[inso]at h2
        |some b=>
          have:=z.2 b rfl;have:¬p<b:=by simpa[inso]using h2
          omega
       rw[gP (by simpa using this)];exact MK p t bh ⟨λz hz=>o.ok z (aL _ hz),pw.2⟩
def wM ps:(jO ps).length<=2*ps.length+1:=by unfold jO;rw[BO];have:=vS ps none;split<;>simp<;>lia
noncomputable def part1(s:Spn)(r:Rw):Option Rw:=(meetS (r.1,r.2.1) s).map λu=>(u.1,u.2,r.2.2)
noncomputable def qD(ps:List Rw)(s:Spn):List Rw:=ps.filterMap (part1 s)
theorem wR R s:∀ps acc a b c d,acc.length+ps.length<16777216->∃a' b' c' d',qQ (tupG 3 (zW (zN 3) (zW (zN 4) (zW (zN 5) tgNil)))) fW (ps.map rwD) [R,.v (spD s),.own (acc.map rwD),a,b,c,d]=some (.nx [R,.v (spD s),.own ((acc++qD ps s).map rwD),a',b',c',d'])
 |[],acc,a,b,c,d,_=>⟨a,b,c,d,by simp[qD,qQ]⟩
 |r::ps,acc,a,b,c,d,h=>by
   simp only[aH]at h;have me:mP [.tup [oi r.1,oi r.2.1],spD s]=some (.val (oS (meetS (r.1,r.2.1) s))):=meet_eq (r.1,r.2.1) s;cases hm:meetS (r.1,r.2.1) s with
   |none=>
     rw[hm]at me;obtain⟨a',b',c',d',ih⟩:=wR R s ps acc (.v (oi r.1)) (.v (oi r.2.1)) (.v (oi r.2.2)) (.v .non) (by omega);refine⟨a',b',c',d',?_⟩;have turn:fW [R,.v (spD s),.own (acc.map rwD),.v (oi r.1),.v (oi r.2.1),.v (oi r.2.2),d]=some (.nx [R,.v (spD s),.own (acc.map rwD),.v (oi r.1),.v (oi r.2.1),.v (oi r.2.2),.v .non]):=by simp[fW,me,oS]
     have e:qD (r::ps) s=qD ps s:=by simp[qD,part1,hm]
     rw[e];simp[qQ,turn,ih]
   |some u=>
     rw[hm]at me;obtain⟨a',b',c',d',ih⟩:=wR R s ps (acc++[(u.1,u.2,r.2.2)]) (.v (oi r.1)) (.v (oi r.2.1)) (.v (oi r.2.2)) (.v (spD u)) (by simp;omega);refine⟨a',b',c',d',?_⟩;have z:acc.length<16777216:=by omega
     have e0:D.tup [oi u.1,oi u.2,oi r.2.2]=rwD (u.1,u.2,r.2.2):=rfl;have turn:fW [R,.v (spD s),.own (acc.map rwD),.v (oi r.1),.v (oi r.2.1),.v (oi r.2.2),d]=some (.nx [R,.v (spD s),.own (acc.map rwD++[rwD (u.1,u.2,r.2.2)]),.v (oi r.1),.v (oi r.2.1),.v (oi r.2.2),.v (spD u)]):=by simp[fW,me,oS,z,e0]
     have e:qD (r::ps) s=(u.1,u.2,r.2.2)::qD ps s:=by simp[qD,part1,hm]
     rw[e];simp only[cU,aQ,cR,bK,dD,cT]at ih ⊢;simp[qQ,turn,ih]
def xC ps s:(qD ps s).length<=ps.length:=List.length_filterMap_le _ _
def LY ps s(h:ps.length<16777216):fE [.lst (ps.map rwD),spD s]=some (.fresh ((qD ps s).map rwD)):=by obtain⟨a,b,c,d,e⟩:=wR (.v (.lst (ps.map rwD))) s ps [] .no .no .no .no (by simpa using h);simp only[cR,cT]at e;unfold fE runG nN;simp[args,e,jQ]
def jB(h:part1 s r=some r'):ok3 r'/\r'.2.2=r.2.2/\(∀p,has3 r' p=(has3 r p&&hasS s p))/\(∀x,r.2.1=some x->∃x',r'.2.1=some x'/\x'<=x)/\(∀y,r.1=some y->∃y',r'.1=some y'/\y<=y')/\(∀x,s.2=some x->∃x',r'.2.1=some x'/\x'<=x)/\(∀y,s.1=some y->∃y',r'.1=some y'/\y<=y'):=by
 unfold part1 at h;cases hm:meetS (r.1,r.2.1) s with
 |none=>rw[hm]at h;cases h
 |some u=>
   rw[hm]at h;cases h;have hp:=λp=>HM (r.1,r.2.1) s p;rw[hm]at hp;refine⟨aDl hm,rfl,λp=>hp p,?_,?_,?_,?_⟩
   all_goals (unfold meetS at hm;split at hm;(· cases hm);cases hm)
   . intro x hx;rw [hx];cases s.2 <;> simp [qP]
     lia
   . intro y hy;rw [hy];cases s.1 <;> simp [lateL]
     lia
   . intro x hx;rw [hx];cases r.2.1 <;> simp [qP]
     lia
   . intro y hy;rw [hy];cases r.1 <;> simp [lateL]
     lia
def PX(h:part1 s r=none) p:(has3 r p&&hasS s p)=false:=by
 unfold part1 at h;have hp:=HM (r.1,r.2.1) s p;cases hm:meetS (r.1,r.2.1) s with
 |none=>rw[hm]at hp;exact hp.symm
 |some u=>rw[hm]at h;cases h
def nW:r'∈qD ps s↔∃r∈ps,part1 s r=some r':=sM
def GV(o:Ord ps) s:Ord (qD ps s):=by
 refine⟨λr' h=>?_,?_⟩
 . obtain⟨r,_,h⟩:=nW.mp h;exact(jB h).1
 . unfold qD;rw[List.pairwise_filterMap];refine o.pw.imp λ{a b} hab a' ha b' hb=>?_;obtain⟨x,y,hx,hy,hxy⟩:=hab;obtain⟨x',e1,h1⟩:=(jB ha).2.2.2.1 x hx;obtain⟨y',e2,h2⟩:=(jB hb).2.2.2.2.1 y hy;exact⟨x',y',e1,e2,by lia⟩
def GU:Tel (qD ps s) p v↔hasS s p=true/\Tel ps p v:=by
 constructor
 . rintro⟨r',h,h1,h2⟩;obtain⟨r,hr,h⟩:=nW.mp h;obtain⟨_,e,hh,_⟩:=jB h;rw[hh p,bV]at h1;exact⟨h1.2,r,hr,h1.1,e▸h2⟩
 . rintro ⟨hs,r,hr,h1,h2⟩;cases h:part1 s r with
   |none=>have:=PX h p;rw[h1,hs]at this;cases this
   |some r'=>obtain⟨_,e,hh,_⟩:=jB h;exact⟨r',nW.mpr ⟨r,hr,h⟩,by rw[hh p,h1,hs];rfl,e.trans h2⟩
noncomputable def loP(ps:List Rw):Option Int->List Rw
 |none=>[]
 |some a=>qD ps (none,some a)
noncomputable def hiP(ps:List Rw):Option Int->List Rw
 |none=>[]
 |some b=>qD ps (some b,none)
noncomputable def overF(ps:List Rw)(s:Spn)(v:Option Int):List Rw:=loP ps s.1++(s.1,s.2,v)::hiP ps s.2
def WS(o:Ord ps)(h:a<b):(qD ps (none,some a)).length+(qD ps (some b,none)).length<=ps.length+1:=by
 induction ps with
 |nil=>simp[qD]
 |cons r t ih=>
   have pw:=bF.mp o.pw;have ot:Ord t:=⟨λz hz=>o.ok z (aL _ hz),pw.2⟩
   cases h1:part1 (none,some a) r with
   |none=>
     have e1:qD (r::t) (none,some a)=qD t (none,some a):=by simp[qD,h1]
     have:(qD (r::t) (some b,none)).length<=(qD t (some b,none)).length+1:=by unfold qD;rw[iN];split<;>simp
     simp[aH]
     lia
   |some r1=>
     have e1:qD (r::t) (none,some a)=r1::qD t (none,some a):=by simp[qD,h1]
     rw[e1];cases h2:part1 (some b,none) r with
     |none=>
       have e2:qD (r::t) (some b,none)=qD t (some b,none):=by simp[qD,h2]
       simp[aH]
       lia
     |some r2=>
       have e2:qD (r::t) (some b,none)=r2::qD t (some b,none):=by simp[qD,h2]
       have e3:qD t (none,some a)=[]:=by
        unfold qD;rw[List.filterMap_eq_nil_iff];intro z hz;cases hz':part1 (none,some a) z with
        |none=>rfl
        |some z'=>
          obtain⟨x,y,hx,hy,hxy⟩:=pw.1 z hz;have k2:=jB h2;have kz:=jB hz';obtain⟨x2,ex2,hx2⟩:=k2.2.2.2.1 x hx;obtain⟨y2,ey2,hy2⟩:=k2.2.2.2.2.2.2 b rfl;have:=k2.1 y2 x2 ey2 ex2;obtain⟨y3,ey3,hy3⟩:=kz.2.2.2.2.1 y hy;obtain⟨x3,ex3,hx3⟩:=kz.2.2.2.2.2.1 a rfl;have:=kz.1 y3 x3 ey3 ex3
          lia
       rw[e2,e3];have:=xC t (some b,none);simp[aH,mN]
       lia
def MD(o:Ord ps) s(hs:okS s) v:(overF ps s v).length<=ps.length+2:=by
 obtain⟨lo,bh⟩:=s;unfold overF loP hiP;cases lo with
 |none=>
   cases bh with
   |none=>simp
   |some b=>
     have:=xC ps (some b,none);simp
     lia
 |some a=>
   cases bh with
   |none=>
     have:=xC ps (none,some a);simp
     lia
   |some b=>
     have:=WS o (hs a b rfl rfl);simp
     lia
def MC(o:Ord ps) s(hs:okS s) v:Ord (overF ps s v):=by
 obtain⟨lo,bh⟩:=s;unfold overF;have l1:∀r∈(loP ps lo),ok3 r/\∃a x,lo=some a/\r.2.1=some x/\x<=a:=by
  cases lo with
  |none=>intro r h;cases h
  |some a=>intro r h;obtain⟨q,_,h⟩:=nW.mp h;obtain⟨x,e,hx⟩:=(jB h).2.2.2.2.2.1 a rfl;exact⟨(jB h).1,a,x,rfl,e,hx⟩
 have l2:∀r∈(hiP ps bh),ok3 r/\∃b y,bh=some b/\r.1=some y/\b<=y:=by
  cases bh with
  |none=>intro r h;cases h
  |some b=>intro r h;obtain⟨q,_,h⟩:=nW.mp h;obtain⟨y,e,hy⟩:=(jB h).2.2.2.2.2.2 b rfl;exact⟨(jB h).1,b,y,rfl,e,hy⟩
 have o1:Ord (loP ps lo):=by
  cases lo with
  |none=>exact⟨(λ_ h=>nomatch h),List.Pairwise.nil⟩
  |some a=>exact GV o _
 have o2:Ord (hiP ps bh):=by
  cases bh with
  |none=>exact⟨(λ_ h=>nomatch h),List.Pairwise.nil⟩
  |some b=>exact GV o _
 refine⟨λr h=>?_,?_⟩
 . rcases bE.mp h with h|h
   . exact(l1 r h).1
   . rcases aB.mp h with rfl|h
     . exact hs
     . exact(l2 r h).1
 . refine rA.mpr ⟨o1.pw,bF.mpr ⟨λr h=>?_,o2.pw⟩,λa ha b hb=>?_⟩
   . obtain⟨_,b,y,e,e2,hy⟩:=l2 r h;exact⟨b,y,e,e2,hy⟩
   . obtain ⟨_,x,x',e,e2,hx⟩:=l1 a ha;rcases aB.mp hb with rfl|hb
     . exact⟨x',x,e2,e,hx⟩
     . obtain⟨_,y,y',e3,e4,hy⟩:=l2 b hb;have:=hs x y e e3;exact⟨x',y',e2,e4,by lia⟩
def aCt s(hs:okS s) v p w:Tel (overF ps s v) p w↔if hasS s p=true then v=some w else Tel ps p w:=by
 obtain⟨lo,bh⟩:=s;have h1:Tel (loP ps lo) p w↔(∃a,lo=some a/\p<a)/\Tel ps p w:=by
  cases lo with
  |none=>exact⟨(λ⟨r,h,_⟩=>nomatch h),(λ⟨⟨a,e,_⟩,_⟩=>by cases e)⟩
  |some a=>show Tel (qD ps (none,some a)) p w↔_;rw[GU];simp[hasS]
 have h2:Tel (hiP ps bh) p w↔(∃b,bh=some b/\b<=p)/\Tel ps p w:=by
  cases bh with
  |none=>exact⟨(λ⟨r,h,_⟩=>nomatch h),(λ⟨⟨a,e,_⟩,_⟩=>by cases e)⟩
  |some b=>show Tel (qD ps (some b,none)) p w↔_;rw[GU];simp[hasS]
 have h3:Tel (overF ps (lo,bh) v) p w↔Tel (loP ps lo) p w\/(hasS (lo,bh) p=true/\v=some w)\/Tel (hiP ps bh) p w:=by
  unfold overF;constructor
  . rintro ⟨r,h,e1,e2⟩;rcases bE.mp h with h|h
    . exact .inl ⟨r,h,e1,e2⟩
    . rcases aB.mp h with rfl|h
      . exact .inr (.inl ⟨e1,e2⟩)
      . exact .inr (.inr ⟨r,h,e1,e2⟩)
  . rintro (⟨r,h,e1,e2⟩|⟨e1,e2⟩|⟨r,h,e1,e2⟩)
    . exact⟨r,bA _ h,e1,e2⟩
    . exact⟨_,aI _ aS,e1,e2⟩
    . exact⟨r,aI _ (aL _ h),e1,e2⟩
 rw[h3,h1,h2];by_cases hp:hasS (lo,bh) p=true
 . rw [if_pos hp];have hq:=(xX _ _).mp hp;constructor
   . rintro (⟨⟨a,e,hlt⟩,_⟩|⟨_,e⟩|⟨⟨b,e,hle⟩,_⟩)
     . have:=hq.1 a e;lia
     . exact e
     . have:=hq.2 b e;lia
   . exact λe=>.inr (.inl ⟨hp,e⟩)
 . rw [if_neg hp];constructor
   . rintro (⟨_,h⟩|⟨e,_⟩|⟨_,h⟩)
     . exact h
     . exact(hp e).elim
     . exact h
   . intro h;by_cases hl:∃a,lo=some a/\p<a
     . exact .inl ⟨hl,h⟩
     . by_cases hb:∃ b,bh=some b/\b<=p
       . exact .inr (.inr ⟨hb,h⟩)
       . exfalso;apply hp;rw [xX];refine ⟨λa e=>?_,λb e=>?_⟩
         . exact pA.mp λz=>hl ⟨a,e,z⟩
         . exact Int.not_le.mp λz=>hb ⟨b,e,z⟩
def over_eq s v(h:ps.length<=1000000):eQ [.lst (ps.map rwD),spD s,oi v]=some (.fresh ((overF ps s v).map rwD)):=by
 obtain⟨lo,bh⟩:=s;have p1:∀a:Int,fE [.lst (ps.map rwD),.tup [.non,.int a]]=some (.fresh ((qD ps (none,some a)).map rwD)):=λa=>LY ps (none,some a) (by lia);have p2:∀a:Int,fE [.lst (ps.map rwD),.tup [.int a,.non]]=some (.fresh ((qD ps (some a,none)).map rwD)):=λa=>LY ps (some a,none) (by lia);have e0:D.tup [oi lo,oi bh,oi v]=rwD (lo,bh,v):=rfl;have fl:=jQ (overF ps (lo,bh) v);unfold overF loP hiP at fl ⊢;unfold eQ runG mU;cases lo with
 |none=>
   cases bh with
   |none=>simp at fl e0;simp[args,e0]
   |some b=>
     have z:=xC ps (some b,none);have z1:1+(qD ps (some b,none)).length<=16777216:=by lia
     simp at fl e0;simp[args,p2,e0,z1,fl]
 |some a=>
   have z:=xC ps (none,some a);have z0:(qD ps (none,some a)).length<=16777216:=by lia
   have z1:(qD ps (none,some a)).length<16777216:=by lia
   cases bh with
   |none=>simp at fl e0;simp[args,p1,e0,z0,z1,fl]
   |some b=>
     have z':=xC ps (some b,none);have z2:(qD ps (none,some a)).length+1+(qD ps (some b,none)).length<=16777216:=by lia
     simp at fl e0;simp[args,p1,p2,e0,z0,z1,z2,fl]
abbrev Rv:=Spn×Option Int
noncomputable def rvD(r:Rv):D:=.tup [spD r.1,oi r.2]
@[simp]def rvD_flat r:flat (rvD r)=true:=by simp[rvD]
@[simp]def rvD_tupG h r ds:tupG 2 h (rvD r) ds=h [spD r.1,oi r.2] ds:=by simp[rvD]
def aEn(l:List Rv):flats (l.map rvD)=true:=by
 induction l with
 |nil=>simp
 |cons a r ih=>simp[ih]
noncomputable def put1(ps:List Rw)(r:Rv):List Rw:=knitF (overF ps r.1 r.2)
noncomputable def nK(rows:List Rv):List Rw:=rows.foldl put1 []
def BU(m:MapF ps)(h:okS r.1):MapF (put1 ps r):=HE (MC m.ord r.1 h r.2)
def LL(m:MapF ps)(h:okS r.1):(put1 ps r).length<=ps.length+2:=cW (XU _) (MD m.ord r.1 h r.2)
def aBs(m:MapF ps)(h:okS r.1) p w:Tel (put1 ps r) p w↔if hasS r.1 p=true then r.2=some w else Tel ps p w:=by unfold put1;rw[HD (MC m.ord r.1 h r.2),aCt r.1 h r.2]
def TC(m:MapF ps)(hl:ps.length<=100000)(h:okS s):(eQ [.lst (ps.map rwD),spD s,oi v]=some (.fresh ((overF ps s v).map rwD)))/\gS [.lst ((overF ps s v).map rwD)]=some (.fresh ((put1 ps (s,v)).map rwD)):=
 ⟨over_eq s v (by lia),UM _ (by have:=MD m.ord s h v;lia)⟩
theorem MapF.nil:MapF []:=⟨⟨(λ_ h=>nomatch h),List.Pairwise.nil⟩,(λ_ h=>nomatch h),(λi a b h _=>by simp at h)⟩
theorem uJ R:∀(rows:List Rv) ps a b,MapF ps->(∀r∈rows,okS r.1)->ps.length+2*rows.length<=100000 →
  (∃a' b',qQ (tupG 2 (zW (zN 2) (zW (zN 3) tgNil))) mI (rows.map rvD) [R,.own (ps.map rwD),a,b]=some (.nx [R,.own ((rows.foldl put1 ps).map rwD),a',b']))/\MapF (rows.foldl put1 ps)/\(rows.foldl put1 ps).length<=ps.length+2*rows.length
 |[],ps,a,b,m,_,_=>⟨⟨a,b,rfl⟩,m,by simp⟩
 |r::rows,ps,a,b,m,hs,hl=>by
   simp only[aH]at hl;have hr:=hs r aS;have z:=LL m hr;obtain⟨⟨a',b',ih⟩,m',l'⟩:=uJ R rows (put1 ps r) (.v (spD r.1)) (.v (oi r.2)) (BU m hr) (λx hx=>hs x (aL _ hx)) (by omega);obtain⟨e1,e2⟩:=TC m (by omega) (s:=r.1) (v:=r.2) hr;refine⟨⟨a',b',?_⟩,m',by simp only[cB,aH];omega⟩;have turn:mI [R,.own (ps.map rwD),.v (spD r.1),.v (oi r.2)]=some (.nx [R,.own ((put1 ps r).map rwD),.v (spD r.1),.v (oi r.2)]):=by simp[mI,e1,e2]
   rw[cB];simp[qQ,turn,ih]
def YH rows(hs:∀r∈rows,okS r.1)(hl:rows.length<=1000):iW [.lst (rows.map rvD)]=some (.fresh ((nK rows).map rwD))/\MapF (nK rows)/\(nK rows).length<=2*rows.length:=by obtain⟨⟨a,b,e⟩,m,l⟩:=uJ (.v (.lst (rows.map rvD))) rows [] .no .no MapF.nil hs (by simp;lia);refine⟨?_,m,by unfold nK;simpa using l⟩;simp only[cR]at e;have fl:=jQ (nK rows);unfold nK at fl ⊢;unfold iW runG pG;simp[args,e,fl]
theorem wQ{α:Type} f p h:∀(xs:List α),(∀x∈xs,∃ds1,ga (f x) s0=some ds1/\tt ds1=some (p x)/\(p x=true->fe ds1=some (h x)))->compL ga tt fe s0 (xs.map f)=some ((xs.filter p).map h)
 |[],_=>rfl
 |x::xs,H=>by
   obtain⟨ds1,e1,e2,e3⟩:=H x aS;have ih:=wQ (ga:=ga) (tt:=tt) (fe:=fe) (s0:=s0) f p h xs λy hy=>H y (aL _ hy);cases hp:p x with
   |true=>simp[compL,e1,e2,e3 hp,ih,hp]
   |false=>simp[compL,e1,e2,ih,hp]
noncomputable def Til:Option Int->List Rw->Prop
 |_,[]=>False
 |here,r::rs=>r.1=here/\(∀h x,here=some h->r.2.1=some x->h<x)/\(r.2.1=none->rs=[])/\∀x,r.2.1=some x->Til (some x) rs
theorem KR:∀ps here b,Ord ps->(∀r,ps.head?=some r->(r.1=none->here=none)/\∀h l,here=some h->r.1=some l->h<=l)->(here≠none\/b=true)->Til here (runsR here b ps)
 |[],here,b,_,_,hb=>by unfold runsR;rw[if_pos hb];exact⟨rfl,(λ_ _ _ e=>nomatch e),λ_=>rfl,(λ_ e=>nomatch e)⟩
 |r::t,here,b,o,hh,hb=>by
   obtain⟨hn,hs⟩:=hh r rfl;have pw:=bF.mp o.pw;have o':Ord t:=⟨λz hz=>o.ok z (aL _ hz),pw.2⟩
   have ok:=o.ok r aS;have core:Til r.1 (r::runsR r.2.1 false t):=by
    refine⟨rfl,λh x e1 e2=>ok h x e1 e2,λe=>?_,λx e=>?_⟩
    . cases t with
      |nil=>rw[e];simp[runsR]
      |cons r' t'=>obtain⟨x,y,h1,_⟩:=pw.1 r' aS;rw[e]at h1;cases h1
    . rw[e];refine KR t (some x) false o' (λr' hr'=>?_) (.inl (by simp));obtain⟨x',y,h1,h2,h3⟩:=pw.1 r' (NZ hr');rw[e]at h1;cases h1;rw[h2];exact⟨(λz=>nomatch z),λh l e1 e2=>by cases e1;cases e2;exact h3⟩
   unfold runsR;by_cases he:r.1=here
   . simp only[ne_eq,he,not_true_eq_false,if_false,cT];rw[<-he];exact core
   . simp only [ne_eq,he,not_false_eq_true,if_true,dD,cT];refine ⟨rfl,λh x e1 e2=>?_,λe=>?_,λx e=>?_⟩
     . have:=hs h x e1 e2;have:x≠h:=λz=>he (by rw[show r.1=some x from e2,e1,z]);omega
     . have e':r.1=none:=e;exact(he (by rw[e',hn e'])).elim
     . have e':r.1=some x:=e;rw[e']at core;exact core
def yT(o:Ord ps):Til none (jO ps):=KR ps none true o (λr _=>⟨λ_=>rfl,(λh l e1=>nomatch e1)⟩) (.inr rfl)
noncomputable def befB(p:Int)(r:Rw):Bool:=match r.2.1 with|none=>true|some x=>decide (p<x)
theorem BF p:∀rs here,Til here rs->(∀h,here=some h->h<=p)->rs.find? (λr=>has3 r p)=rs.find? (befB p)
 |[],_,h,_=>h.elim
 |r::rs,here,h,hp=>by
   obtain⟨h1,h2,h3,h4⟩:=h;have e:has3 r p=befB p r:=by
    unfold has3 hasS befB;rw[h1];cases hr:here with
    |none=>cases r.2.1<;>simp
    |some x=>have:=hp x hr;cases r.2.1<;>simp[this]
   rw[cK,cK,e];cases hb:befB p r with
   |true=>rfl
   |false=>
     simp only;cases hx:r.2.1 with
     |none=>unfold befB at hb;rw[hx]at hb;cases hb
     |some x=>unfold befB at hb;rw[hx]at hb;simp at hb;exact BF p rs (some x) (h4 x hx) λh e=>by cases e;exact hb
noncomputable def atB(p:Int)(rs:List Rw):Option Int:=match rs.find? (befB p)with|some r=>r.2.2|none=>none
def VH(o:Ord ps) p:atB p (jO ps)=valL ps p:=by unfold atB;rw[<-BF p _ none (yT o) (λh e=>nomatch e),aDr o p];simp only;rw[MK p ps none o,tJ o]
def JS(h:befB p r=true):atB p (r::rs)=r.2.2:=by unfold atB;rw[cK,h]
def atB_tl(h:befB p r=false):atB p (r::rs)=atB p rs:=by unfold atB;rw[cK,h]
abbrev R4:=Option Int×Option Int×Option Int×Option Int
noncomputable def r4D(r:R4):D:=.tup [oi r.1,oi r.2.1,oi r.2.2.1,oi r.2.2.2]
noncomputable def Rem:Option Int->List Rw->Prop
 |_,[]=>False
 |here,r::rs=>(∀h x,here=some h->r.2.1=some x->h<x)/\(r.2.1=none->rs=[])/\∀x,r.2.1=some x->Rem (some x) rs
theorem Til.rem:∀{rs:List Rw}{here:Option Int},Til here rs->Rem here rs
 |[],_,h=>h.elim
 |r::rs,_,⟨_,h2,h3,h4⟩=>⟨h2,h3,λx e=>(h4 x e).rem⟩
noncomputable def stp(e:Option Int):List Rw->List Rw
 |[]=>[]
 |a::as=>if a.2.1=e then as else a::as
def jS e a as:stp e (a::as)=if a.2.1=e then as else a::as:=rfl
noncomputable def yD:Nat->Option Int->List Rw->List Rw->List R4
 |0,_,_,_=>[]
 |n+1,here,a::as,b::bs=>(here,qP a.2.1 b.2.1,a.2.2,b.2.2)::yD n (qP a.2.1 b.2.1) (stp (qP a.2.1 b.2.1) (a::as)) (stp (qP a.2.1 b.2.1) (b::bs))
 |_+1,_,_,_=>[]
def Both(here:Option Int)(as bs:List Rw):Prop:=(as=[]/\bs=[])\/(Rem here as/\Rem here bs)
def xO(h:Rem here (a::as))(hx:∀y,a.2.1=some y->x<=y):a.2.1=none/\stp (some x) (a::as)=a::as/\Rem (some x) (stp (some x) (a::as))\/a.2.1≠none/\Rem (some x) (stp (some x) (a::as)):=by
 obtain⟨h1,h2,h3⟩:=h;cases ha:a.2.1 with
 |none=>
   left;have:stp (some x) (a::as)=a::as:=by rw[jS,ha,if_neg (by simp)]
   rw[this];exact⟨rfl,rfl,(λh y _ e=>by rw[ha]at e;cases e),h2,h3⟩
 |some y=>
   right;refine⟨by simp,?_⟩;rw[jS,ha];by_cases hxy:y=x
   . subst hxy;rw[if_pos rfl];exact h3 y ha
   . rw [if_neg (by simpa using hxy)];refine ⟨λh z e1 e2=>?_,h2,h3⟩;rw [ha]at e2;have:=hx y ha
     lia
def DK(ha:Rem here (a::as))(hb:Rem here (b::bs)) :
  Both (qP a.2.1 b.2.1) (stp (qP a.2.1 b.2.1) (a::as)) (stp (qP a.2.1 b.2.1) (b::bs)):=by
 cases h1:a.2.1 with
 |none=>
   cases h2:b.2.1 with
   |none=>
     left;constructor
     . simp[qP,stp,h1,ha.2.1 h1]
     . simp[qP,stp,h2,hb.2.1 h2]
   |some y=>
     right;have e:qP none (some y)=some y:=rfl;constructor
     . rcases xO ha (by rw [h1];exact λ_ e=>nomatch e)with h|h
       . exact h.2.2
       . exact h.2
     . rcases xO hb (x:=y) (by rw [h2];intro z e;cases e;lia)with h|h
       . exact h.2.2
       . exact h.2
 |some x=>
   right;cases h2:b.2.1 with
   |none=>
     have e:qP (some x) none=some x:=rfl;constructor
     . rcases xO ha (x:=x) (by rw [h1];intro z e;cases e;lia)with h|h
       . exact h.2.2
       . exact h.2
     . rcases xO hb (by rw [h2];exact λ_ e=>nomatch e)with h|h
       . exact h.2.2
       . exact h.2
   |some y=>
     have e:qP (some x) (some y)=some (min x y):=rfl;constructor
     . rcases xO ha (x:=min x y) (by rw [h1];intro z e;cases e;lia)with h|h
       . exact h.2.2
       . exact h.2
     . rcases xO hb (x:=min x y) (by rw [h2];intro z e;cases e;lia)with h|h
       . exact h.2.2
       . exact h.2
def vW(ha:Rem here (a::as))(hb:Rem here (b::bs))(h:qP a.2.1 b.2.1=none):stp none (a::as)=[]/\stp none (b::bs)=[]:=by
 cases h1:a.2.1 with
 |some x=>rw[h1]at h;cases h2:b.2.1<;>rw[h2]at h<;>cases h
 |none=>
   cases h2:b.2.1 with
   |some y=>rw[h1,h2]at h;cases h
   |none=>exact⟨by rw[jS,h1,if_pos rfl];exact ha.2.1 h1,by rw[jS,h2,if_pos rfl];exact hb.2.1 h2⟩
def wF n here bs:yD n here [] bs=[]:=by cases n<;>rfl
theorem MA:∀n here as bs r,Both here as bs->r∈yD n here as bs->here≠none->r.1=none->False
 |0,_,_,_,r,_,hr,_,_=>by unfold yD at hr;cases hr
 |n+1,here,[],bs,r,_,hr,_,_=>by rw[wF]at hr;cases hr
 |n+1,here,a::as,[],r,hB,hr,_,_=>by
   rcases hB with⟨h,_⟩|⟨_,h⟩
   . cases h
   . exact h
 |n+1,here,a::as,b::bs,r,hB,hr,hh,h1=>by
   rcases hB with⟨h,_⟩|⟨ha,hb⟩
   . cases h
   . rw [yD]at hr;rcases aB.mp hr with rfl|hr
     . exact hh h1
     . by_cases he:qP a.2.1 b.2.1=none
       . rw[he,(vW ha hb he).1,wF]at hr;cases hr
       . exact MA n _ _ _ r (DK ha hb) hr he h1
def OP(h:∀x,e=some x->x<=p)(hn:e=none->False):atB p (stp e (a::as))=atB p (a::as):=by
 rw[jS];by_cases he:a.2.1=e
 . rw [if_pos he];symm;apply atB_tl;unfold befB;rw [he];cases e with
   |none=>exact(hn rfl).elim
   |some x=>have:=h x rfl;simp;lia
 . rw[if_neg he]
def RZ e a as:(stp e (a::as)).length<=as.length+1:=by rw[jS];split<;>simp
def IE a b as bs:(stp (qP a.2.1 b.2.1) (a::as)).length+(stp (qP a.2.1 b.2.1) (b::bs)).length<(as.length+1)+(bs.length+1):=by
 have:qP a.2.1 b.2.1=a.2.1\/qP a.2.1 b.2.1=b.2.1:=by
  cases a.2.1 with
  |none=>right;cases b.2.1<;>rfl
  |some x=>
    cases b.2.1 with
    |none=>left;rfl
    |some y=>
      rcases(by lia:min x y=x\/min x y=y)with h|h
      . left;simp[qP,h]
      . right;simp[qP,h]
 have l1:=RZ (qP a.2.1 b.2.1) a as;have l2:=RZ (qP a.2.1 b.2.1) b bs;rcases this with h|h
 . have:(stp (qP a.2.1 b.2.1) (a::as)).length=as.length:=by rw [jS,if_pos h.symm]
   lia
 . have:(stp (qP a.2.1 b.2.1) (b::bs)).length=bs.length:=by rw [jS,if_pos h.symm]
   lia
theorem GW:∀n here as bs,as.length+bs.length<=n->Both here as bs →
  (∀r∈yD n here as bs,okS (r.1,r.2.1)/\(∀h x,here=some h->r.1=some x->h<=x)/\∀p,hasS (r.1,r.2.1) p=true->(∀h,here=some h->h<=p)->atB p as=r.2.2.1/\atB p bs=r.2.2.2) ∧
  ∀p,as≠[]->(∀h,here=some h->h<=p)->∃r∈yD n here as bs,atB p as=r.2.2.1/\atB p bs=r.2.2.2
 |0,here,as,bs,hn,_=>by have:as=[]:=List.eq_nil_of_length_eq_zero (by omega);exact⟨λr hr=>(by unfold yD at hr;cases hr),λp h=>(h this).elim⟩
 |n+1,here,as,bs,hn,hB=>by
   rcases hB with⟨rfl,rfl⟩|⟨ha,hb⟩
   . exact⟨λr hr=>(by unfold yD at hr;cases hr),λp h=>(h rfl).elim⟩
   . cases as with
     |nil=>exact ha.elim
     |cons a as=>
       cases bs with
       |nil=>exact hb.elim
       |cons b bs=>
         have two:=IE a b as bs;have bs':=DK ha hb;simp only[aH]at hn;generalize he:qP a.2.1 b.2.1=e at *;have ih:=GW n e (stp e (a::as)) (stp e (b::bs)) (by omega) bs';have beyond:∀h x,here=some h->e=some x->h<x:=by
          intro h x e1 e2;rw[<-he]at e2;cases h1:a.2.1 with
          |none=>
            rw[h1]at e2;cases h2:b.2.1 with
            |none=>rw[h2]at e2;cases e2
            |some y=>rw[h2]at e2;cases e2;exact hb.1 h _ e1 h2
          |some z=>
            rw[h1]at e2;have g1:=ha.1 h z e1 h1;cases h2:b.2.1 with
            |none=>rw[h2]at e2;cases e2;exact g1
            |some y=>rw[h2]at e2;cases e2;have g2:=hb.1 h y e1 h2;omega
         have inA:∀p,(∀x,e=some x->p<x)->befB p a=true/\befB p b=true:=by
          intro p hp;rw[<-he]at hp;unfold befB;cases h1:a.2.1 with
          |none=>
            cases h2:b.2.1 with
            |none=>exact⟨rfl,rfl⟩
            |some y=>rw[h1,h2]at hp;have:=hp y rfl;exact⟨rfl,by simpa using this⟩
          |some z=>
            cases h2:b.2.1 with
            |none=>rw[h1,h2]at hp;have:=hp z rfl;exact⟨by simpa using this,rfl⟩
            |some y=>rw[h1,h2]at hp;have:=hp _ rfl;exact⟨by simp;omega,by simp;omega⟩
         have pf:yD (n+1) here (a::as) (b::bs)=(here,e,a.2.2,b.2.2)::yD n e (stp e (a::as)) (stp e (b::bs)):=by rw[yD,he]
         rw[pf];refine⟨λr hr=>?_,λp _ hp=>?_⟩
         . rcases aB.mp hr with rfl|hr
           . refine ⟨λx y e1 e2=>beyond x y e1 e2,λh x e1 e2=>?_,λp hp _=>?_⟩
             . have e2:here=some x:=e2;rw[e1]at e2;cases e2;omega
             . obtain⟨q1,q2⟩:=inA p λx hx=>by
                unfold hasS at hp;simp only[hx,bV,decide_eq_true_eq]at hp;exact hp.2
               exact⟨JS q1,JS q2⟩
           . obtain ⟨g1,g2,g3⟩:=ih.1 r hr;have en:e≠none:=by intro hz;rw[hz,(vW ha hb (by rw[he,hz])).1,wF]at hr;cases hr
             obtain⟨x,hx⟩:∃x,e=some x:=by cases e with|none=>exact(en rfl).elim|some x=>exact⟨x,rfl⟩
             have lowR:∀p,hasS (r.1,r.2.1) p=true->x<=p:=by
              intro p hp;cases hr1:r.1 with
              |some y=>have:=g2 x y hx hr1;unfold hasS at hp;simp only[hr1,bV,decide_eq_true_eq]at hp;omega
              |none=>exact(MA n e _ _ r bs' hr (by rw[hx];simp) hr1).elim
             refine⟨g1,λh y e1 e2=>?_,λp hp hh=>?_⟩
             . have:=beyond h x e1 hx;have:=g2 x y hx e2;omega
             . have hxp:=lowR p hp;obtain ⟨q1,q2⟩:=g3 p hp λh e1=>by rw [hx]at e1;cases e1;exact hxp
               rw[OP (λy e1=>by rw[hx]at e1;cases e1;exact hxp) (λz=>en z)]at q1 q2;exact⟨q1,q2⟩
         . by_cases hx:∀ x,e=some x->p < x
           . obtain⟨q1,q2⟩:=inA p hx;exact⟨_,aS,JS q1,JS q2⟩
           . obtain ⟨x,hx⟩:=Classical.not_forall.mp hx;obtain ⟨hx,hpx⟩:=Classical.not_imp.mp hx;have en:e=none->False:=λz=>by rw [z]at hx;cases hx
             have hle:∀y,e=some y->y<=p:=λy e1=>by rw[hx]at e1;cases e1;omega
             have ne:stp e (a::as)≠[]:=by
              rcases bs' with⟨h1,h2⟩|⟨h1,h2⟩
              . exfalso;have k1:=OP (a:=a) (as:=as) hle en;rw [h1]at k1;rw [jS]at h1 h2;split at h1
                . rename_i ha1;split at h2
                  . have:=ha.2.2 x (by rw[ha1,hx]);rw[h1]at this;exact this
                  . cases h2
                . cases h1
              . intro z;rw[z]at h1;exact h1
             obtain⟨r,hr,q1,q2⟩:=ih.2 p ne hle;rw[OP hle en]at q1 q2;exact⟨r,aL _ hr,q1,q2⟩
def aEo(l:List R4):flats (l.map r4D)=true:=by
 induction l with
 |nil=>simp
 |cons a r ih=>simp[ih,r4D]
def rW{α:Type}{A as:List α}{a:α}(h:A.drop i=a::as):A[i]?=some a/\A.drop (i+1)=as/\i<A.length:=by
 have hi:i<A.length:=by
  rcases Nat.lt_or_ge i A.length with h1|h1
  . exact h1
  . rw[List.drop_eq_nil_of_le h1]at h;cases h
 rw[cO hi]at h;cases h;exact⟨aF hi,rfl,hi⟩
def HG{A:List Rw}{i:Nat}(h:A[i]?=some a):ixD (.lst (A.map rwD)) (.int (i:Int))=some (rwD a):=by have hi:=(aW.mp h).1;rw[yK _ (by lia) (by simp;lia),tZ,bI,h];rfl
theorem uD R0 R1(A B:List Rw):∀m i j here acc x8 x9 x10,(A.drop i).length+(B.drop j).length<=m->Both here (A.drop i) (B.drop j)->acc.length+m<16777216->∀n,m<n →
  ∃y5 y6 y7 y8 y9 y10,iS (zK (zF ltD (zG 6) (callB lenD (zC (zG 2) zT)))) mH n [R0,R1,.v (.lst (A.map rwD)),.v (.lst (B.map rwD)),.own (acc.map r4D),.v (oi here),.v (.int (i:Int)),.v (.int (j:Int)),x8,x9,x10] =
   some (.nx [R0,R1,.v (.lst (A.map rwD)),.v (.lst (B.map rwD)),.own ((acc++yD m here (A.drop i) (B.drop j)).map r4D),y5,y6,y7,y8,y9,y10])
 |m,i,j,here,acc,x8,x9,x10,hm,hB,hz,0,hn=>by omega
 |m,i,j,here,acc,x8,x9,x10,hm,hB,hz,n+1,hn=>by
   cases hA:A.drop i with
   |nil=>
     have hi:A.length<=i:=List.drop_eq_nil_iff.mp hA;have hi':¬(i:Int)<(A.length:Int):=by omega
     refine⟨.v (oi here),.v (.int (i:Int)),.v (.int (j:Int)),x8,x9,x10,?_⟩;have tt:(zK (zF ltD (zG 6) (callB lenD (zC (zG 2) zT)))) [R0,R1,.v (.lst (A.map rwD)),.v (.lst (B.map rwD)),.own (acc.map r4D),.v (oi here),.v (.int (i:Int)),.v (.int (j:Int)),x8,x9,x10]=some false:=by simp[hi]
     rw[wF,iS,tt];simp
   |cons a as=>
     rw[hA]at hB hm;rcases hB with⟨h,_⟩|⟨ha,hb⟩
     . cases h
     . cases hBd:B.drop j with
       |nil=>rw[hBd]at hb;exact hb.elim
       |cons b bs=>
         rw[hBd]at hb hm;cases m with
         |zero=>simp at hm
         |succ m=>
           obtain⟨ga,da,hi⟩:=rW hA;obtain⟨gb,db,hj⟩:=rW hBd;have i1:=HG ga;have i2:=HG gb;have two:=IE a b as bs;have bst:=DK ha hb;have ee:=NA a.2.1 b.2.1;simp only[aH]at hm;have pf:yD (m+1) here (a::as) (b::bs)=(here,qP a.2.1 b.2.1,a.2.2,b.2.2)::yD m (qP a.2.1 b.2.1) (stp (qP a.2.1 b.2.1) (a::as)) (stp (qP a.2.1 b.2.1) (b::bs)):=by rw[yD]
           rw[pf];generalize qP a.2.1 b.2.1=e at *;have z:acc.length<16777216:=by omega
           have e0:D.tup [oi here,oi e,oi a.2.2,oi b.2.2]=r4D (here,e,a.2.2,b.2.2):=rfl;obtain⟨i',hi',ei⟩:∃i':Nat,A.drop i'=stp e (a::as)/\∀(P Q:List Sl) (x:Sl),P.length=6->(ifG (zK (zF eqD (zF ixD (zG 8) (zA (.int 1))) (zG 10))) (augA 6 (zA (.int 1))) qJ) (P++[.v (.int (i:Int)),x,.v (rwD a),.v (rwD b),.v (oi e)])=some (.nx (P++[.v (.int (i':Int)),x,.v (rwD a),.v (rwD b),.v (oi e)])):=by
            by_cases h:a.2.1=e
            . refine ⟨i+1,by rw [jS,if_pos h,da],λP Q x hP=>?_⟩
              match P,hP with
              |[p0,p1,p2,p3,p4,p5],_=>simp[h,augA]
            . refine ⟨i,by rw [jS,if_neg h,hA],λP Q x hP=>?_⟩
              match P,hP with
              |[p0,p1,p2,p3,p4,p5],_=>simp[h]
           obtain⟨j',hj',ej⟩:∃j':Nat,B.drop j'=stp e (b::bs)/\∀(P Q:List Sl),P.length=7->(ifG (zK (zF eqD (zF ixD (zG 9) (zA (.int 1))) (zG 10))) (augA 7 (zA (.int 1))) qJ) (P++[.v (.int (j:Int)),.v (rwD a),.v (rwD b),.v (oi e)])=some (.nx (P++[.v (.int (j':Int)),.v (rwD a),.v (rwD b),.v (oi e)])):=by
            by_cases h:b.2.1=e
            . refine ⟨j+1,by rw [jS,if_pos h,db],λP Q hP=>?_⟩
              match P,hP with
              |[p0,p1,p2,p3,p4,p5,p6],_=>simp[h,augA]
            . refine ⟨j,by rw [jS,if_neg h,hBd],λP Q hP=>?_⟩
              match P,hP with
              |[p0,p1,p2,p3,p4,p5,p6],_=>simp[h]
           have ei':=ei [R0,R1,.v (.lst (A.map rwD)),.v (.lst (B.map rwD)),.own ((acc++[(here,e,a.2.2,b.2.2)]).map r4D),.v (oi here)] [] (.v (.int (j:Int))) rfl;have ej':=ej [R0,R1,.v (.lst (A.map rwD)),.v (.lst (B.map rwD)),.own ((acc++[(here,e,a.2.2,b.2.2)]).map r4D),.v (oi here),.v (.int (i':Int))] [] rfl;simp only[dD,cT]at ei' ej';have turn:mH [R0,R1,.v (.lst (A.map rwD)),.v (.lst (B.map rwD)),.own (acc.map r4D),.v (oi here),.v (.int (i:Int)),.v (.int (j:Int)),x8,x9,x10]=some (.nx [R0,R1,.v (.lst (A.map rwD)),.v (.lst (B.map rwD)),.own ((acc++[(here,e,a.2.2,b.2.2)]).map r4D),.v (oi e),.v (.int (i':Int)),.v (.int (j':Int)),.v (rwD a),.v (rwD b),.v (oi e)]):=by
            unfold mH
            rw[zM (ds':=[R0,R1,.v (.lst (A.map rwD)),.v (.lst (B.map rwD)),.own (acc.map r4D),.v (oi here),.v (.int (i:Int)),.v (.int (j:Int)),.v (rwD a),x9,x10]) (by simp[i1]),
             zM (ds':=[R0,R1,.v (.lst (A.map rwD)),.v (.lst (B.map rwD)),.own (acc.map r4D),.v (oi here),.v (.int (i:Int)),.v (.int (j:Int)),.v (rwD a),.v (rwD b),x10]) (by simp[i2]),
             zM (ds':=[R0,R1,.v (.lst (A.map rwD)),.v (.lst (B.map rwD)),.own (acc.map r4D),.v (oi here),.v (.int (i:Int)),.v (.int (j:Int)),.v (rwD a),.v (rwD b),.v (oi e)]) (by simp[ee]),
             zM (ds':=[R0,R1,.v (.lst (A.map rwD)),.v (.lst (B.map rwD)),.own ((acc++[(here,e,a.2.2,b.2.2)]).map r4D),.v (oi here),.v (.int (i:Int)),.v (.int (j:Int)),.v (rwD a),.v (rwD b),.v (oi e)]) (by simp[z,e0]),zM ei',zM ej']
            simp
           obtain⟨y5,y6,y7,y8,y9,y10,ih⟩:=uD R0 R1 A B m i' j' e (acc++[(here,e,a.2.2,b.2.2)]) (.v (rwD a)) (.v (rwD b)) (.v (oi e)) (by rw[hi',hj'];omega) (by rw[hi',hj'];exact bst) (by simp;omega) n (by omega);refine⟨y5,y6,y7,y8,y9,y10,?_⟩;rw[hi',hj',bK]at ih;have hlt:(i:Int)<(A.length:Int):=by omega
           have tt:(zK (zF ltD (zG 6) (callB lenD (zC (zG 2) zT)))) [R0,R1,.v (.lst (A.map rwD)),.v (.lst (B.map rwD)),.own (acc.map r4D),.v (oi here),.v (.int (i:Int)),.v (.int (j:Int)),x8,x9,x10]=some true:=by simp[hi]
           rw[iS,tt];simp only[aR,if_true,turn];exact ih
def WT(o1:Ord ps)(o2:Ord qs)(h1:ps.length<=10000)(h2:qs.length<=10000):nF [.lst (ps.map rwD),.lst (qs.map rwD)]=some (.fresh ((yD ((jO ps).length+(jO qs).length) none (jO ps) (jO qs)).map r4D)):=by
 have l1:=wM ps;have l2:=wM qs;obtain⟨y5,y6,y7,y8,y9,y10,e⟩:=uD (.v (.lst (ps.map rwD))) (.v (.lst (qs.map rwD))) (jO ps) (jO qs) ((jO ps).length+(jO qs).length) 0 0 none [] .no .no .no (by simp) (.inr ⟨(yT o1).rem,(yT o2).rem⟩) (by simp;lia) 100000 (by lia);have r1:=SG ps (by lia);have r2:=SG qs (by lia);simp[rC,cR,cT,IW,show(((0:Nat):Int))=0 from rfl]at e;have fl:=aEo (yD ((jO ps).length+(jO qs).length) none (jO ps) (jO qs));generalize jO ps=A at *;generalize jO qs=B at *;refine xI ?_;unfold pE
 rw[zM (ds':=[.v (.lst (ps.map rwD)),.v (.lst (qs.map rwD)),.v (.lst (A.map rwD)),.no,.no,.no,.no,.no,.no,.no,.no]) (by simp[args,r1]),
  zM (ds':=[.v (.lst (ps.map rwD)),.v (.lst (qs.map rwD)),.v (.lst (A.map rwD)),.v (.lst (B.map rwD)),.no,.no,.no,.no,.no,.no,.no]) (by simp[r2]),
  zM (ds':=[.v (.lst (ps.map rwD)),.v (.lst (qs.map rwD)),.v (.lst (A.map rwD)),.v (.lst (B.map rwD)),.own [],.no,.no,.no,.no,.no,.no]) (by simp),
  zM (ds':=[.v (.lst (ps.map rwD)),.v (.lst (qs.map rwD)),.v (.lst (A.map rwD)),.v (.lst (B.map rwD)),.own [],.v .non,.no,.no,.no,.no,.no]) (by simp),
  zM (ds':=[.v (.lst (ps.map rwD)),.v (.lst (qs.map rwD)),.v (.lst (A.map rwD)),.v (.lst (B.map rwD)),.own [],.v .non,.v (.int 0),.no,.no,.no,.no]) (by simp),
  zM (ds':=[.v (.lst (ps.map rwD)),.v (.lst (qs.map rwD)),.v (.lst (A.map rwD)),.v (.lst (B.map rwD)),.own [],.v .non,.v (.int 0),.v (.int 0),.no,.no,.no]) (by simp),zM e]
 simp[fl]
def later(o:Ord (r::t))(hz:z∈t)(hp:has3 z p=true):∃x y,r.2.1=some x/\z.1=some y/\x<=y/\y<=p:=by obtain⟨x,y,h1,h2,h3⟩:=(bF.mp o.pw).1 z hz;refine⟨x,y,h1,h2,h3,?_⟩;unfold has3 hasS at hp;simp[h2,bV,decide_eq_true_eq]at hp;exact hp.1
def put_eq(m:MapF ps)(hl:ps.length<=100000)(h:okS s):kQ [.lst (ps.map rwD),spD s,oi v]=some (.fresh ((put1 ps (s,v)).map rwD)):=by obtain⟨e1,e2⟩:=TC m hl (v:=v) h;have fl:=jQ (put1 ps (s,v));unfold kQ runG AT;simp[args,e1,e2,fl]
open Builtin.Int (intBits)
structure DrawM(rows:List Rw)(s:Int):Prop where
 map:MapF rows
 fin:∀r∈rows,∃lo bh,r.1=some lo/\r.2.1=some bh/\bh<=s
 last:∀r,rows.getLast?=some r->r.2.1=some s
theorem DrawM.nil(s:Int):DrawM [] s:=⟨MapF.nil,(λ_ h=>nomatch h),λr h=>by simp at h⟩
theorem xV(P:Nat->List Sl->Prop) N(H:∀k,k<N->∀ds,P k ds->∃ds1 ds2,ga (.int (k:Int)) ds=some ds1/\body ds1=some (.nx ds2)/\P (k+1) ds2) :
  ∀n k ds,k+n=N->P k ds->∃ds',qQ ga body ((List.range' k n).map λ(j:Nat)=>D.int (0+(j:Int))) ds=some (.nx ds')/\P N ds'
 | 0, k, ds, h, hp => ⟨ds, rfl, by have : k = N := by omega
                                   subst this;exact hp⟩
 |n+1,k,ds,h,hp=>by
   obtain⟨ds1,ds2,e1,e2,h2⟩:=H k (by omega) ds hp;obtain⟨ds',e,h'⟩:=xV P N H n (k+1) ds2 (by omega) h2;refine⟨ds',?_,h'⟩;rw[List.range'_succ,aQ,qQ];have:(0+(k:Int))=(k:Int):=by omega
   rw[this,e1,aR,e2,aR];exact e
def nP n:iT 0 n=(List.range' 0 n).map λ(j:Nat)=>D.int (0+(j:Int)):=by rw[iT,List.range_eq_range']
@[simp]theorem notD_rw r:notD (rwD r) .non=some (.bl true):=rfl
open NumText
def kitS:kitF "str" "str" = some true/\kitF "int" "str" = some false/\kitF "NoneType" "str" = some false/\kitF "tuple" "str" = some false/\kitF "list" "str" = some false/\kitF "str" "tuple" = some false/\kitF "str" "bool" = some false:=by refine⟨?_,?_,?_,?_,?_,?_,?_⟩<;>decide +kernel
@[simp]def isi_str_str x:isiD "str" (.str x)=some (.bl true):=by simp[isiD,tyD,kitS.1]
def t_empty:Str.ofString "" = txS []:=by decide
def Ltr(cs:List Nat):Prop:=∀c∈cs,97<=c/\c<=122
def Nm(cs:List Nat):Prop:=1<=cs.length/\cs.length<=8/\Ltr cs
noncomputable def abcL:List Nat:=[97,98,99,100,101,102,103,104,105,106,107,108,109,110,111,112,113,114,115,116,117,118,119,120,121,122]
def t_abc:Str.ofString "abcdefghijklmnopqrstuvwxyz" = txS abcL:=by decide
def mem_abc(h:97<=c/\c<=122):c∈abcL:=by
 have:abcL=List.range' 97 26:=by decide
 rw[this,List.mem_range'_1]
 lia
def Ltr.app(h:Ltr a)(g:Ltr b):Ltr (a++b):=λc hc=>(bE.mp hc).elim (h c) (g c)
theorem Ltr.take(h:Ltr a) n:Ltr (a.take n):=λc hc=>h c (lW hc)
def QS(h:Nm cs):fK [.str (txS cs)]=some (.val (.bl true)):=by
 obtain⟨h1,h8,hL⟩:=h;have lf:=len_tx cs (by lia);have comp:compG (viaA (qB 0) asS) [none] (zN 0) (λ_=>some true) (zF inS (zG 0) (zA (.str (Str.ofString "abcdefghijklmnopqrstuvwxyz")))) [.v (.str (txS cs))]=some (cs.map λ_=>D.bl true):=by rw[t_abc];refine yM (items:=cs.map λc=>D.str (txS [c])) (by simp;rfl) (by simp;lia) ?_;rw[yU (λc=>D.str (txS [c])) (λc=>D.bl true) cs];intro c hc;have:=in_one abcL c;rw[decide_eq_true (mem_abc (hL c hc))]at this;exact⟨_,rfl,by simp[jJ,this]⟩
 have al:allD [.lst (cs.map λ_=>D.bl true)]=some (.bl true):=by
  have e:(cs.map λ_=>D.bl true)=(cs.map λ_=>true).map D.bl:=by simp
  rw[e,DN];simp
 refine xI ?_;unfold oJ;have ar:args 1 [.str (txS cs)]=[.v (.str (txS cs))]:=by simp[args]
 have k1:¬((cs.length:Int)<1):=by lia
 have k2:¬((8:Int)<(cs.length:Int)):=by lia
 rw[ar,zM (ds':=[.v (.str (txS cs))]) (by simp),zM (ds':=[.v (.str (txS cs))]) (by simp[lf,k1,k2])];simp only[retG_eq,aFi,aFc,nilA_eq,mkL_eq,comp,dC,aR,al,flatR];simp
end FL
section
open FL
end
namespace FL
open Builtin.Int (intBits)
def aEi c:∃v,lC [.int c]=some (.val (.int v)):=by have p1:powD (.int 10) (.int 60)=some (.int (10^60)):=pow10 (by decide) (by decide);have p2:=pow1060;have m1:xJ (.int 2) (.int ((10^60)^8))=some (.int (2*(10^60)^8)):=qW (.of_left (qC (by decide)));have r1:jA (.int c) (.int (2*(10^60)^8+1))=some (.int (c%(2*(10^60)^8+1))):=xE c (by decide);unfold lC runG rZ;refine⟨c%(2*(10^60)^8+1)-(10^60)^8,?_⟩;simp[-Int.reducePow,-Nat.reducePow,args,p1,p2,m1,r1]
def aAr a b(h0:0<=r)(h1:r<=1):∃g,(g=a\/g=b)/\ixD (.lst [.int a,.int b]) (.int r)=some (.int g):=by
 rcases(by lia:r=0\/r=1)with e|e<;>subst e
 . exact⟨a,.inl rfl,by simp⟩
 . exact⟨b,.inr rfl,by simp⟩
def KH o:eZ [oi o]=some (.val (.bl o.isSome)):=by
 cases o with
 |some i=>exact FH i
 |none=>unfold eZ runG oK;simp[args]
@[simp]theorem sltW_eq(f:FE)(lo hi:List Sl->Option (Option Int))(ds:List Sl):sltW f lo hi ds=(f ds).bind λd=>(lo ds).bind λa=>(hi ds).bind λb=>match d with
 |.tup l=>some (.tup (cutD l a b))
 |_=>none:=rfl
def cut13 a b c:cutD [a,b,c] (some 1) none=[b,c]:=YT [a,b,c] 1
def MQ ps(h:MapF ps) k(hk:k<ps.length) b c d e:∃b' c' d' e',mL [.v (.lst (ps.map rwD)),.v (.int (k:Int)),b,c,d,e]=some (.nx [.v (.lst (ps.map rwD)),.v (.int (k:Int)),b',c',d',e']):=by
 have hkm:k-1<ps.length:=by lia
 have i1:ixD (.lst (ps.map rwD)) (.int (k:Int))=some (rwD ps[k]):=HG (aF hk);obtain⟨v,hv⟩:∃v,ps[k].2.2=some v:=by
  cases hv:ps[k].2.2 with
  |none=>exact(h.val _ (iI hk) hv).elim
  |some v=>exact⟨v,rfl⟩
 have ok:=h.ord.ok _ (iI hk);have hbh:ps[k].2.1=none->¬((k:Int)<(ps.length:Int)-1):=by
  intro hn;by_cases e:k+1<ps.length
  . obtain⟨x,y,h1,_⟩:=bP.mp h.ord.pw k (k+1) hk e (by lia);rw[hn]at h1;cases h1
  . lia
 have hlo:ps[k].1=none->k=0:=by
  intro hn;by_cases e:0<k
  . obtain⟨x,y,_,h1,_⟩:=bP.mp h.ord.pw 0 k (by lia) hk e;rw[hn]at h1;cases h1
  . lia
 have hj:(max ((k:Int)-1) 0)=((k-1:Nat):Int):=by lia
 have i2:ixD (.lst (ps.map rwD)) (.int ((k-1:Nat):Int))=some (rwD (ps[k-1]'hkm)):=HG (aF hkm);have adj:0<k->∃x y,(ps[k-1]'hkm).2.1=some x/\ps[k].1=some y/\x<=y/\¬(x=y/\(ps[k-1]'hkm).2.2=ps[k].2.2):=by intro hk0;obtain⟨x,y,h1,h2,h3⟩:=bP.mp h.ord.pw (k-1) k hkm hk (by lia);refine⟨x,y,h1,h2,h3,λz=>?_⟩;exact h.adj (k-1) _ ps[k] (aF hkm) (by rw[show k-1+1=k by lia];exact aF hk) ⟨by rw[h1,h2,z.1],z.2⟩
 generalize hR:ps[k]=r at *;generalize hA:(ps[k-1]'hkm)=a at *;obtain⟨lo,bh,w⟩:=r;obtain⟨alo,abh,aw⟩:=a;simp only at hv hbh hlo adj;subst hv;refine⟨.v (oi lo),.v (oi bh),.v (.int v),.v (rwD (alo,abh,aw)),?_⟩;unfold mL;have f1:(ifG (orT (notT (testT (isiG "tuple" (zF ixD (zG 0) (zG 1))))) (orT (zK (zF neD (callB lenD (zC (zF ixD (zG 0) (zG 1)) zT)) (zA (.int 3)))) (notT (testT (qZ 1 eZ (zC (zF ixD (zF ixD (zG 0) (zG 1)) (zA (.int 2))) zT)))))) (retG (zA (.bl false))) qJ) [.v (.lst (ps.map rwD)),.v (.int (k:Int)),b,c,d,e]=some (.nx [.v (.lst (ps.map rwD)),.v (.int (k:Int)),b,c,d,e]):=by simp[i1,FH]
 have f2:(ifG (andT (notT (testT (qZ 1 eZ (zC (zG 2) zT)))) (orT (zK (zF notD (zG 2) (zA .non))) (zK (zF gtD (zG 1) (zA (.int 0)))))) (retG (zA (.bl false))) qJ) [.v (.lst (ps.map rwD)),.v (.int (k:Int)),.v (oi lo),.v (oi bh),.v (.int v),e]=some (.nx [.v (.lst (ps.map rwD)),.v (.int (k:Int)),.v (oi lo),.v (oi bh),.v (.int v),e]):=by
  have wl:=KH lo;cases lo with
  |none=>have:=hlo rfl;subst this;simp at wl;simp[wl]
  |some x=>simp at wl;simp[wl]
 have f3:(ifG (andT (notT (testT (qZ 1 eZ (zC (zG 3) zT)))) (orT (zK (zF notD (zG 3) (zA .non))) (zK (zF ltD (zG 1) (zF subD (callB lenD (zC (zG 0) zT)) (zA (.int 1))))))) (retG (zA (.bl false))) qJ) [.v (.lst (ps.map rwD)),.v (.int (k:Int)),.v (oi lo),.v (oi bh),.v (.int v),e]=some (.nx [.v (.lst (ps.map rwD)),.v (.int (k:Int)),.v (oi lo),.v (oi bh),.v (.int v),e]):=by
  have wl:=KH bh;cases bh with
  |none=>have:=hbh rfl;simp at wl;simp[wl,this]
  |some x=>simp at wl;simp[wl]
 have f4:(ifG (andT (zK (zF notD (zG 2) (zA .non))) (andT (zK (zF notD (zG 3) (zA .non))) (zK (zF geD (zG 2) (zG 3))))) (retG (zA (.bl false))) qJ) [.v (.lst (ps.map rwD)),.v (.int (k:Int)),.v (oi lo),.v (oi bh),.v (.int v),e]=some (.nx [.v (.lst (ps.map rwD)),.v (.int (k:Int)),.v (oi lo),.v (oi bh),.v (.int v),e]):=by
  cases lo with
  |none=>simp
  |some x=>
    cases bh with
    |none=>simp
    |some y=>
      have:¬y<=x:=by have:=ok x y rfl rfl;lia
      simp[this]
 have f5:(ifG (andT (zK (zF gtD (zG 1) (zA (.int 0)))) (orT (zK (zF gtD (zF ixD (zG 5) (zA (.int 1))) (zG 2))) (zK (zF eqD (sltW (zG 5) (soP (zA (.int 1))) noP) (mkT (qI (zC (qB 2) (zC (qB 4) zT)))))))) (retG (zA (.bl false))) qJ) [.v (.lst (ps.map rwD)),.v (.int (k:Int)),.v (oi lo),.v (oi bh),.v (.int v),.v (rwD (alo,abh,aw))]=some (.nx [.v (.lst (ps.map rwD)),.v (.int (k:Int)),.v (oi lo),.v (oi bh),.v (.int v),.v (rwD (alo,abh,aw))]):=by
  by_cases hk0:0<k
  . obtain ⟨x,y,h1,h2,h3,h4⟩:=adj hk0;subst h1 h2;have g1:¬ y < x:=by lia
    have eq:eqD (.tup [.int x,oi aw]) (.tup [.int y,.int v])=some (.bl (decide (x=y/\aw=some v))):=by rw[DB (by simp) (by simp)];cases aw<;>simp
    have g2:decide (x=y/\aw=some v)=false:=by simpa using h4
    rw[g2]at eq;simp only[rwD,oi_some];simp[hk0,g1,cut13,eq]
  . simp[hk0]
 rw[zM f1,zM (ds':=[.v (.lst (ps.map rwD)),.v (.int (k:Int)),.v (oi lo),.v (oi bh),.v (.int v),e]) (by simp[i1]),zM f2,zM f3,zM f4,
  zM (ds':=[.v (.lst (ps.map rwD)),.v (.int (k:Int)),.v (oi lo),.v (oi bh),.v (.int v),.v (rwD (alo,abh,aw))]) (by simp[hj,i2]),f5]
def XZ ps(h:MapF ps)(hl:ps.length<=10000):lM [.lst (ps.map rwD)]=some (.val (.bl true)):=by
 obtain⟨ds',e1,a',b',c',d',e',rfl⟩:=MJ (ga:=zN 1) (body:=mL) (λds=>∃a b c d e,ds=[.v (.lst (ps.map rwD)),a,b,c,d,e]) (iT 0 ps.length) [.v (.lst (ps.map rwD)),.no,.no,.no,.no,.no] ⟨_,_,_,_,_,rfl⟩ (by
  rintro _ hd _ ⟨a,b,c,d,e,rfl⟩;obtain⟨k,hk,rfl⟩:=QI hd;obtain⟨b',c',d',e',ee⟩:=MQ ps h k hk b c d e;rw[show(0+(k:Int))=(k:Int) by lia]
  exact⟨_,_,rfl,.inl ee,_,_,_,_,_,rfl⟩)
 have ok:okR (ps.length:Int):=wP (by lia) (by lia);unfold lM runG pJ;simp[args,ok,e1]
noncomputable def valC:FT:=andT (zK (zF ltD (zG 3) (callB lenD (zC (zG 0) zT)))) (andT (zK (zF notD (zF ixD (zF ixD (zG 0) (zG 3)) (zA (.int 1))) (zA .non))) (zK (zF leD (zF ixD (zF ixD (zG 0) (zG 3)) (zA (.int 1))) (zG 4))))
def valC_eq(ps:List Rw) q(k:Nat) R O:valC [.v (.lst (ps.map rwD)),R,O,.v (.int (k:Int)),.v (.int q)]=some (match ps[k]? with|some r=>(match r.2.1 with|some b=>decide (b<=q)|none=>false)|none=>false):=by
 unfold valC;by_cases hk:k<ps.length
 . have i1:ixD (.lst (ps.map rwD)) (.int (k:Int))=some (rwD ps[k]):=HG (aF hk);have hk':(k:Int) < (ps.length:Int):=by lia
   rw[aF hk];generalize ps[k]=r at *;obtain⟨a,b,c⟩:=r;cases b<;>simp[i1,hk]
 . rw[aY (by lia)];simp[hk]
theorem FN(ps:List Rw) q R O:∀(n k m:Nat),ps.length-k<=n->k<=ps.length->n<m->∃k',k<=k'/\k'<=ps.length/\(∀i r,k<=i->i<k'->ps[i]?=some r->∃b,r.2.1=some b/\b<=q)/\(∀r b,ps[k']?=some r->r.2.1=some b->q<b) ∧
  iS valC kR m [.v (.lst (ps.map rwD)),R,O,.v (.int (k:Int)),.v (.int q)]=some (.nx [.v (.lst (ps.map rwD)),R,O,.v (.int (k':Int)),.v (.int q)])
 |n,k,0,h1,h2,h3=>by omega
 |n,k,m+1,h1,h2,h3=>by
   have hc:=valC_eq ps q k R O;by_cases hk:∃r b,ps[k]?=some r/\r.2.1=some b/\b<=q
   . obtain ⟨r,b,e1,e2,e3⟩:=hk;rw [e1]at hc;simp only [e2,e3,decide_true]at hc;have hlt:k < ps.length:=(aW.mp e1).1;have hb:kR [.v (.lst (ps.map rwD)),R,O,.v (.int (k:Int)),.v (.int q)]=some (.nx [.v (.lst (ps.map rwD)),R,O,.v (.int ((k+1:Nat):Int)),.v (.int q)]):=by unfold kR;simp
     obtain⟨k',g1,g2,g3,g4,g5⟩:=FN ps q R O (n-1) (k+1) m (by omega) (by omega) (by omega);refine⟨k',by omega,g2,λi r' i1 i2 e=>?_,g4,?_⟩
     . by_cases hi:i=k
       . subst hi;rw[e1]at e;cases e;exact⟨b,e2,e3⟩
       . exact g3 i r' (by omega) i2 e
     . rw[iS,hc];simp only[aR,if_true,hb];exact g5
   . refine ⟨k,aM _,h2,λi r i1 i2=>by omega,λr b e1 e2=>?_,?_⟩
     . have:¬b<=q:=λz=>hk ⟨r,b,e1,e2,z⟩;omega
     . have:(match ps[k]? with|some r=>(match r.2.1 with|some b=>decide (b<=q)|none=>false)|none=>false)=false:=by
        cases e1:ps[k]? with
        |none=>rfl
        |some r=>
          cases e2:r.2.1 with
          |none=>simp[e2]
          |some b=>have:¬b<=q:=λz=>hk ⟨r,b,e1,e2,z⟩;simp[e2,this]
       rw[iS,hc,this];simp
def val_at(o:Ord ps){k:Nat}(h1:∀i r,i<k->ps[i]?=some r->∃b,r.2.1=some b/\b<=q)(h2:∀r b,ps[k]?=some r->r.2.1=some b->q<b) :
  valL ps q=match ps[k]? with|some r=>(match r.1 with|some a=>if a<=q then r.2.2 else none|none=>r.2.2)|none=>none:=by
 rw[tJ o];have no1:∀i r,i<k->ps[i]?=some r->has3 r q=false:=λi r hi e=>by
  obtain⟨b,e1,e2⟩:=h1 i r hi e;cases hh:has3 r q with
  |false=>rfl
  |true=>have:=((qR r q).mp hh).2 b e1;lia
 have take:∀r,r∈ps.take k->has3 r q=false:=λr hr=>by
  obtain⟨i,hi,e⟩:=dA hr;have hik:i<k:=by rw[dW]at hi;lia
  refine no1 i r hik ?_;rw[<-fT hik,aF hi,e]
 have split:ps.find? (λr=>has3 r q)=(ps.drop k).find? (λr=>has3 r q):=by
  conv=>lhs;rw[<-fH k ps]
  rw[ZN];have:(ps.take k).find? (λr=>has3 r q)=none:=kM.mpr λr hr=>by rw[take r hr];simp
  rw[this];rfl
 rw[split];by_cases hk:k<ps.length
 . rw [cO hk,aF hk];by_cases hh:has3 ps[k] q=true
   . rw [kU (p:=λr=>has3 r q) hh];have:=((qR ps[k] q).mp hh).1;cases ha:ps[k].1 with
     |none=>simp[ha]
     |some a=>have:=this a ha;simp[ha,this]
   . rw [gP (p:=λr=>has3 r q) hh];have rest:(ps.drop (k+1)).find? (λr=>has3 r q)=none:=by
      refine kM.mpr λr hr=>?_;obtain⟨i,hi,e⟩:=dA hr;rw[iH]at hi;have e':ps[k+1+i]'(by lia)=r:=by rw[<-e,List.getElem_drop]
      obtain⟨x,y,g1,g2,g3⟩:=bP.mp o.pw k (k+1+i) hk (by lia) (by lia);rw[e']at g2;have hxq:=h2 ps[k] x (aF hk) g1;intro z;have:=((qR r q).mp z).1 y g2
      lia
     rw[rest];cases ha:ps[k].1 with
     |none=>exfalso;refine hh ((qR _ q).mpr ⟨(λa e=>by rw[ha]at e;cases e),(λb e=>h2 ps[k] b (aF hk) e)⟩)
     |some a=>have:¬a<=q:=λz=>hh ((qR _ q).mpr ⟨(λa' e=>by rw[ha]at e;cases e;exact z),(λb e=>h2 ps[k] b (aF hk) e)⟩);simp[ha,this]
 . rw[KD (by lia),aY (by lia)];rfl
def aAo(o:Ord ps)(hl:ps.length<=10000) R acc k q(hz:acc.length<16777216)(hk:k<=ps.length)(h1:∀i r,i<k->ps[i]?=some r->∃b,r.2.1=some b/\b<=q) :
  ∃k',k'<=ps.length/\(∀i r,i<k'->ps[i]?=some r->∃b,r.2.1=some b/\b<=q) ∧
   mJ [.v (.lst (ps.map rwD)),R,.own acc,.v (.int (k:Int)),.v (.int q)]=some (.nx [.v (.lst (ps.map rwD)),R,.own (acc++[oi (valL ps q)]),.v (.int (k':Int)),.v (.int q)]):=by
 obtain⟨k',g1,g2,g3,g4,g5⟩:=FN ps q R (.own acc) ps.length k 100000 (by lia) hk (by lia);have h1':∀i r,i<k'->ps[i]?=some r->∃b,r.2.1=some b/\b<=q:=λi r hi e=>by
  by_cases hik:i<k
  . exact h1 i r hik e
  . exact g3 i r (by lia) hi e
 refine⟨k',g2,h1',?_⟩;have hv:=val_at o h1' g4;unfold mJ;have g5':iS (andT (zK (zF ltD (zG 3) (callB lenD (zC (zG 0) zT)))) (andT (zK (zF notD (zF ixD (zF ixD (zG 0) (zG 3)) (zA (.int 1))) (zA .non))) (zK (zF leD (zF ixD (zF ixD (zG 0) (zG 3)) (zA (.int 1))) (zG 4))))) kR 100000 [.v (.lst (ps.map rwD)),R,.own acc,.v (.int (k:Int)),.v (.int q)]=some (.nx [.v (.lst (ps.map rwD)),R,.own acc,.v (.int (k':Int)),.v (.int q)]):=g5;rw[zM g5',hv];by_cases hk':k'<ps.length
 . have i1:ixD (.lst (ps.map rwD)) (.int (k':Int))=some (rwD ps[k']):=HG (aF hk');rw [aF hk'];generalize ps[k']=r at *;obtain ⟨a,b,c⟩:=r;cases a with
   |none=>simp[i1,hk',hz]
   |some a=>
     by_cases ha:a<=q
     . simp[i1,hk',ha,hz]
     . simp[i1,hk',ha,hz]
 . rw[aY (by lia)];simp[hk',hz]
theorem KN{ps:List Rw}(o:Ord ps)(hl:ps.length<=10000) R:∀(qs:List Int) acc k x,qs.Pairwise (· < ·)->acc.length+qs.length<16777216->k<=ps.length->(∀q∈qs,∀i r,i<k->ps[i]?=some r->∃b,r.2.1=some b/\b<=q) →
  ∃k' x',qQ (zN 4) mJ (qs.map D.int) [.v (.lst (ps.map rwD)),R,.own acc,.v (.int (k:Int)),x]=some (.nx [.v (.lst (ps.map rwD)),R,.own (acc++qs.map λq=>oi (valL ps q)),.v (.int (k':Nat)),x'])
 |[],acc,k,x,_,_,_,_=>⟨k,x,by simp[qQ]⟩
 |q::qs,acc,k,x,hp,hz,hk,h=>by
   obtain⟨p1,p2⟩:=bF.mp hp;simp only[aH]at hz;obtain⟨k1,g1,g2,g3⟩:=aAo o hl R acc k q (by omega) hk (h q (.head _));obtain⟨k',x',e⟩:=KN o hl R qs (acc++[oi (valL ps q)]) k1 (.v (.int q)) p2 (by simp;omega) g1 λq' hq' i r hi e=>by obtain⟨b,e1,e2⟩:=g2 i r hi e;exact⟨b,e1,by have:=p1 q' hq';omega⟩
   refine⟨k',x',?_⟩;simp only[aQ,qQ,zN,aR,eO,dP,g3];rw[e];simp
def aEp(l:List (Option Int)):flats (l.map oi)=true:=by
 induction l with
 |nil=>simp
 |cons a l ih=>simp[ih]
def VY(o:Ord ps)(hl:ps.length<=10000)(qs:List Int)(hq:qs.Pairwise (· < ·))(hz:qs.length<=10000):nG [.lst (ps.map rwD),.lst (qs.map D.int)]=some (.fresh ((qs.map (valL ps)).map oi)):=by
 obtain⟨k',x',e⟩:=KN o hl (.v (.lst (qs.map D.int))) qs [] 0 .no hq (by simp;lia) (bZ _) (λq _ i r hi=>by lia);have fl:=aEp (qs.map (valL ps));have em:(qs.map λq=>oi (valL ps q))=(qs.map (valL ps)).map oi:=by simp
 rw[cT,em]at e;refine xI ?_;unfold pI;generalize (qs.map (valL ps)).map oi=Z at *;generalize ps.map rwD=P at *;generalize qs.map D.int=Q at *;rw[zM (ds':=[.v (.lst P),.v (.lst Q),.own [],.no,.no]) (by simp[args]),zM (ds':=[.v (.lst P),.v (.lst Q),.own [],.v (.int 0),.no]) (by simp),zM (by rw[xN];simpa using e)];simp[fl]
theorem MT k:∀l,(insU k l).length<=l.length+1
 |[]=>by simp[insU]
 |a::l=>by
   have:=MT k l;unfold insU;split
   . simp
   . split
     . simp
     . simp only[aH];omega
theorem LA:∀ns,(srtU ns).length<=ns.length
 |[]=>by simp[srtU]
 |k::ns=>by have h1:=MT k (srtU ns);have h2:=LA ns;show(insU k (srtU ns)).length<=_;simp only[aH];omega
def YV(ns:List Int)(hb:∀c∈ns,intBits c<=1048576) a b:∃cs:List Int,cs.length<=ns.length/\cs.length<=b-a/\(∀c∈cs,intBits c<=1048576)/\cutD (ns.map D.int) (some (a:Int)) (some (b:Int))=cs.map D.int:=by
 refine⟨(ns.drop (min a ns.length)).take (min b ns.length-min a ns.length),by simp;lia,by simp;lia,λc hc=>hb c (rB (lW hc)),?_⟩;have e1:HT.sIx (ns.map D.int).length 0 (some (a:Int))=min a ns.length:=by simp[HT.sIx];lia
 have e2:HT.sIx (ns.map D.int).length (ns.map D.int).length (some (b:Int))=min b ns.length:=by simp[HT.sIx];lia
 unfold cutD;rw[e1,e2,List.map_take,List.map_drop]
def opt_ext{a b:Option Int}(h:∀w,a=some w↔b=some w):a=b:=by
 cases a with
 |none=>
   cases b with
   |none=>rfl
   |some w=>exact((h w).mpr rfl)
 |some v=>exact((h v).mp rfl).symm
def aBr(m:MapF ps)(h:okS r.1) p:valL (put1 ps r) p=if hasS r.1 p=true then r.2 else valL ps p:=by
 refine opt_ext λw=>?_;rw[yB (BU m h).ord,aBs m h];split
 . exact Iff.rfl
 . rw[yB m.ord]
open Builtin.Int (intBits)
noncomputable def ovA:FS:=(ifG (andT (zK (zF eqD (zF jA (zG 3) (zA (.int 4))) (zA (.int 0)))) (zK (zF neD (getN 2) (mkL (qI zT))))) (jK 5 (zF subD (zF xK (relVO 2 (zF ixD (zG 2) (zF jA (zF qT (zG 3) (zA (.int 4))) (callB lenD (zC (zG 2) zT))))) (zF jA (zF qT (zG 3) (zA (.int 1000003))) (zA (.int 3)))) (zA (.int 1)))) qJ)
noncomputable def ovB:FS:=(ifG (zK (zF eqD (zF jA (zG 3) (zA (.int 4))) (zA (.int 1)))) (jK 5 (zF ixD (mkL (qI (zC (zF subD (zF jA (zG 0) (zF xK (zF xJ (zA (.int 2)) (zF powD (zA (.int 10)) (zA (.int 60)))) (zA (.int 1)))) (zF powD (zA (.int 10)) (zA (.int 60)))) (zC (qZ 1 lC (zC (zG 0) zT)) zT)))) (zF jA (zF qT (zG 3) (zA (.int 4))) (zA (.int 2))))) qJ)
noncomputable def ovC:FS:=(jK 6 (zF xK (zF xK (zG 5) (zA (.int 1))) (zF ixD (mkL (qI (zC (zF jA (zF qT (zG 4) (zA (.int 4))) (zA (.int 3))) (zC (zF jA (zF qT (zG 4) (zA (.int 4))) (zA (.int 40))) (zC (zF jA (zF xJ (zG 0) (zA (.int 69621))) (zF powD (zA (.int 10)) (zA (.int 60)))) (zC (zA (.int 0)) zT)))))) (zF jA (zG 4) (zA (.int 4))))))
noncomputable def ovD:FS:=(ifG (andT (zK (zF eqD (zF jA (zG 4) (zA (.int 4))) (zA (.int 3)))) (zK (zF neD (getN 2) (mkL (qI zT))))) (jK 6 (callB mxD (zC (zG 6) (zC (relVO 2 (zF ixD (zG 2) (zF jA (zF qT (zG 4) (zA (.int 4))) (callB lenD (zC (zG 2) zT))))) zT)))) qJ)
noncomputable def overG(p1 p2 p3 q1 q2 q3:Int):FX:=(seqR (jK 3 (zF jA (zF xK (zF xK (zF xJ (zG 0) (zA (.int p1))) (zF xJ (zF xJ (zG 1) (zG 1)) (zA (.int p2)))) (zA (.int p3))) (zA (.int 2147483647))))
 (seqR (jK 3 (zF jA (zF xJ (zG 3) (zG 3)) (zA (.int 2147483563))))
 (seqR (jK 4 (zF jA (zF xK (zF xK (zF xJ (zG 0) (zA (.int q1))) (zF xJ (zF xJ (zG 1) (zG 1)) (zA (.int q2)))) (zA (.int q3))) (zA (.int 2147483629))))
 (seqR (jK 4 (zF jA (zF xJ (zG 4) (zG 3)) (zA (.int 2147483549))))
 (seqR (jK 5 (zF subD (zF jA (zF qT (zG 3) (zA (.int 4))) (zA (.int 61))) (zA (.int 30))))
 (seqR ovA
 (seqR ovB
 (seqR ovC
 (seqR ovD
 (seqR (appP (varP 2) (qB 5))
 (seqR (appP (varP 2) (qB 6))
 (seqR (ifG (zK (zF ltD (zF jA (zF qT (zG 4) (zA (.int 2003))) (zA (.int 12))) (zA (.int 2)))) (jK 5 (zA .non)) qJ)
 (seqR (ifG (zK (zF (inD false) (zF jA (zF qT (zG 4) (zA (.int 2003))) (zA (.int 12))) (mkT (qI (zC (zA (.int 1)) (zC (zA (.int 2)) zT)))))) (jK 6 (zA .non)) qJ)
 (vR (mkT (qI (zC (qB 5) (zC (qB 6) zT))))))))))))))))))
noncomputable def oT(es:List Int):OT:=.lst ((es.map D.int).map OT.val)
def TZ es:otD (oT es)=.lst (es.map D.int):=by unfold oT;rw[otD,yS]
def ref_oT es:refO (oT es)=true:=rfl
def qN(h:g ds=some (.nx ds')):seqR g f ds=f ds':=by unfold seqR;rw[h];rfl
def aFs(h:ds[i]?=some (.ob r (oT es)))(hf:f ds=some (.int x))(hl:es.length<16777216):appP (varP i) f ds=some (.nx (ds.set i (.ob r (oT (es++[x]))))):=by unfold appP varP;simp[aR,hf];unfold oT at h ⊢;simp[hl,putP,h,putO]
def VA{es:List Int}(hne:0<es.length) q:∃e,jA (.int q) (.int (es.length:Int))=some (.int (q%(es.length:Int)))/\ixD (.lst (es.map D.int)) (.int (q%(es.length:Int)))=some (.int e):=by have i0:=fR q (show(es.length:Int)≠0 by lia);have i1:=kP q (show 0<(es.length:Int) by lia);exact⟨_,xE _ (by lia),ints_at es i0 i1⟩
def in2 x p q:inD false (.int x) (.tup [.int p,.int q])=some (.bl (decide (x=p\/x=q))):=by
 unfold inD;have e1:decide (p=x)=decide (x=p):=by simp[eq_comm]
 have e2:decide (q=x)=decide (x=q):=by simp[eq_comm]
 simp[sclD,e1,e2]
def aDu(h:g ((args n l).set p (.ob (some p) T))=some (d,ds))(h2:ds[p]?=some (.ob (some p) T')):lentR g n p T l=some (d,T'):=by unfold lentR;rw[h];simp[h2,obAt]
def aBh(h:ds[i]?=some (.ob r (oT es)))(hf:f (ds.set i (.v (.lst (es.map D.int))))=some (.int x)):relVO i f ds=some (.int x):=by unfold relVO relO;rw[h];simp[TZ,hf,aR];rfl
def ix4_2 x y z u:ixD (.lst [x,y,z,u]) (.int 2)=some z:=by rw[yK _ (by decide) (by simp)];rfl
def ix4_3 x y z u:ixD (.lst [x,y,z,u]) (.int 3)=some u:=by rw[yK _ (by decide) (by simp)];rfl
def low_if(c k m:Int) es(hne:0<es.length)(hm:0<=m) x1 x4 x6 lo0:∃lo,∀f,seqR ovA (seqR ovB f) [.v (.int c),x1,.ob (some 2) (oT es),.v (.int m),x4,.v (.int lo0),x6]=f [.v (.int c),x1,.ob (some 2) (oT es),.v (.int m),x4,.v (.int lo),x6]:=by
 have p1:powD (.int 10) (.int 60)=some (.int (10^60)):=pow10 (by decide) (by decide);have a5:xJ (.int 2) (.int (10^60))=some (.int (2*10^60)):=qW (.of_left (qC (by decide)));have r3:∀x,jA (.int x) (.int (2*10^60+1))=some (.int (x%(2*10^60+1))):=λx=>xE x (by decide);have nen:neD (.lst (es.map D.int)) (.lst [])=some (.bl true):=by rw[UJ (BJ 39 es)];cases es<;>simp_all
 obtain⟨gr,hgr⟩:=aEi c;unfold ovA ovB;by_cases h1:m%4=1
 . obtain⟨g,_,hg⟩:=aAr (c%(2*10^60+1)-10^60) gr (r:=m/4%2) (by lia) (by lia);exact⟨g,λf=>by rw[qN (by simp[h1];rfl),qN (by simp[-Int.reducePow,-Nat.reducePow,h1,p1,a5,r3,hgr,hg];rfl)]⟩
 . by_cases h0:m % 4=0
   . obtain⟨e,e1,e2⟩:=VA (es:=es) hne (m/4);refine⟨e+m/1000003%3-1,λf=>?_⟩;have:=aBh (f:=zF ixD (zG 2) (zF jA (zF qT (zG 3) (zA (.int 4))) (callB lenD (zC (zG 2) zT)))) (ds:=[.v (.int c),x1,.ob (some 2) (oT es),.v (.int m),x4,.v (.int lo0),x6]) (i:=2) rfl (x:=e) (by simp[e1,e2]);rw[qN (ds':=[.v (.int c),x1,.ob (some 2) (oT es),.v (.int m),x4,.v (.int (e+m/1000003%3-1)),x6]) (by simp[h0,TZ,nen,this]),qN (by simp[h0];rfl)]
   . exact⟨lo0,λf=>by rw[qN (by simp[h0];rfl),qN (by simp[h1];rfl)]⟩
def beh_if c w lo es(hne:0<es.length)(hc:intBits c<=1048576) x1 x3:∃bh,lo<bh/\∀f,seqR ovC (seqR ovD f) [.v (.int c),x1,.ob (some 2) (oT es),x3,.v (.int w),.v (.int lo),.no]=f [.v (.int c),x1,.ob (some 2) (oT es),x3,.v (.int w),.v (.int lo),.v (.int bh)]:=by
 have p1:powD (.int 10) (.int 60)=some (.int (10^60)):=pow10 (by decide) (by decide);have m1:eS c 69621:=dG hc (qC (m:=200) (by decide)) (by decide);have q1:(0:Int)<10^60:=by decide
 have nen:neD (.lst (es.map D.int)) (.lst [])=some (.bl true):=by rw[UJ (BJ 39 es)];cases es<;>simp_all
 have c3:0<=w/4%3:=by lia
 have c4:0<=w/4%40:=by lia
 have c5:=fR (c*69621) (show(10:Int)^60≠0 by decide);unfold ovC ovD;rcases(by lia:w%4=0\/w%4=1\/w%4=2\/w%4=3)with h|h|h|h
 . exact⟨lo+1+w/4%3,by lia,λf=>by rw[qN (ds':=[.v (.int c),x1,.ob (some 2) (oT es),x3,.v (.int w),.v (.int lo),.v (.int (lo+1+w/4%3))]) (by simp[-Int.reducePow,-Nat.reducePow,p1,qW m1,q1,h]),qN (by simp[h];rfl)]⟩
 . exact⟨lo+1+w/4%40,by lia,λf=>by rw[qN (ds':=[.v (.int c),x1,.ob (some 2) (oT es),x3,.v (.int w),.v (.int lo),.v (.int (lo+1+w/4%40))]) (by simp[-Int.reducePow,-Nat.reducePow,p1,qW m1,q1,h]),qN (by simp[h];rfl)]⟩
 . exact⟨lo+1+c*69621%10^60,by lia,λf=>by rw[qN (ds':=[.v (.int c),x1,.ob (some 2) (oT es),x3,.v (.int w),.v (.int lo),.v (.int (lo+1+c*69621%10^60))]) (by simp[-Int.reducePow,-Nat.reducePow,p1,qW m1,q1,h,ix4_2]),qN (by simp[-Int.reducePow,-Nat.reducePow,h];rfl)]⟩
 . obtain⟨e,e1,e2⟩:=VA (es:=es) hne (w/4);refine⟨max (lo+1) e,by lia,λf=>?_⟩;have:=aBh (f:=zF ixD (zG 2) (zF jA (zF qT (zG 4) (zA (.int 4))) (callB lenD (zC (zG 2) zT)))) (ds:=[.v (.int c),x1,.ob (some 2) (oT es),x3,.v (.int w),.v (.int lo),.v (.int (lo+1))]) (i:=2) rfl (x:=e) (by simp[e1,e2]);rw[qN (ds':=[.v (.int c),x1,.ob (some 2) (oT es),x3,.v (.int w),.v (.int lo),.v (.int (lo+1))]) (by simp[-Int.reducePow,-Nat.reducePow,p1,qW m1,q1,h,ix4_3]),qN (ds':=[.v (.int c),x1,.ob (some 2) (oT es),x3,.v (.int w),.v (.int lo),.v (.int (max (lo+1) e))]) (by simp[h,TZ,nen,this])]
def span_if w lo bh(hlt:lo<bh) x0 x1 x2 x3:∃s,okS s/\∀f,seqR (ifG (zK (zF ltD (zF jA (zF qT (zG 4) (zA (.int 2003))) (zA (.int 12))) (zA (.int 2)))) (jK 5 (zA .non)) qJ) (seqR (ifG (zK (zF (inD false) (zF jA (zF qT (zG 4) (zA (.int 2003))) (zA (.int 12))) (mkT (qI (zC (zA (.int 1)) (zC (zA (.int 2)) zT)))))) (jK 6 (zA .non)) qJ) f) [x0,x1,x2,x3,.v (.int w),.v (.int lo),.v (.int bh)]=f [x0,x1,x2,x3,.v (.int w),.v (oi s.1),.v (oi s.2)]:=by
 rcases(by lia:w/2003%12=0\/w/2003%12=1\/w/2003%12=2\/2<w/2003%12)with h|h|h|h
 . exact⟨(none,some bh),(λx y e1 _=>nomatch e1),λf=>by rw[qN (by simp[h];rfl),qN (by simp[h];rfl)];rfl⟩
 . exact⟨(none,none),(λx y e1 _=>nomatch e1),λf=>by rw[qN (by simp[h];rfl),qN (by simp[h];rfl)];rfl⟩
 . exact⟨(some lo,none),(λx y _ e2=>nomatch e2),λf=>by rw[qN (by simp[h];rfl),qN (by simp[h];rfl)];rfl⟩
 . have h1:¬ w / 2003 % 12 < 2:=by lia
   have h2:w/2003%12≠1:=by lia
   have h3:w/2003%12≠2:=by lia
   exact⟨(some lo,some bh),(λx y e1 e2=>by cases e1;cases e2;exact hlt),λf=>by rw[qN (by simp[h1];rfl),qN (by simp[in2,h2,h3];rfl)];rfl⟩
def over_ex p1 p2 p3 q1 q2 q3(hp:(0<=p1/\p1<2^40)/\(0<=p2/\p2<2^40)/\(0<=q1/\q1<2^40)/\(0<=q2/\q2<2^40)) c k es(hne:0<es.length)(hc:intBits c<=1048576)(hk:0<=k)(hk':k<=1000)(hl:es.length+2<16777216) :
  ∃s a b,okS s/\lentR (overG p1 p2 p3 q1 q2 q3) 7 2 (oT es) [.int c,.int k,.non]=some (spD s,oT (es++[a,b])):=by
 obtain⟨⟨u1,u2⟩,⟨u3,u4⟩,⟨u5,u6⟩,⟨u7,u8⟩⟩:=hp;have m1:eS c p1:=dG hc (qC (m:=200) (by lia)) (by decide);have m2:eS c q1:=dG hc (qC (m:=200) (by lia)) (by decide);have kk:eS k k:=dG (qC (m:=64) (by lia)) (qC (m:=64) (by lia)) (by decide);have kb:0<=k*k/\k*k<=1000000:=⟨Int.mul_nonneg hk hk,FG hk' hk' hk (by decide)⟩
 have k1:eS (k*k) p2:=dG (qC (m:=64) (by lia)) (qC (m:=64) (by lia)) (by decide);have k2:eS (k*k) q2:=dG (qC (m:=64) (by lia)) (qC (m:=64) (by lia)) (by decide);generalize hm1:(c*p1+k*k*p2+p3)%2147483647=m';have hm1':0<=m'/\m'<2147483647:=by lia
 have mm:eS m' m':=dG (qC (m:=64) (by lia)) (qC (m:=64) (by lia)) (by decide);generalize hm:m'*m'%2147483563=m;have hm':0<=m/\m<2147483563:=by lia
 generalize hw1:(c*q1+k*k*q2+q3)%2147483629=w';have hw1':0<=w'/\w'<2147483629:=by lia
 have ww:eS w' m:=dG (qC (m:=64) (by lia)) (qC (m:=64) (by lia)) (by decide);generalize hw:w'*m%2147483549=w;obtain⟨lo,elo⟩:=low_if c k m es hne hm'.1 (.v (.int k)) (.v (.int w)) .no (m/4%61-30);obtain⟨bh,hlt,ebh⟩:=beh_if c w lo es hne hc (.v (.int k)) (.v (.int m));obtain⟨s,hs,es1⟩:=span_if w lo bh hlt (.v (.int c)) (.v (.int k)) (.ob (some 2) (oT (es++[lo]++[bh]))) (.v (.int m));refine⟨s,lo,bh,hs,aDu (ds:=[.v (.int c),.v (.int k),.ob (some 2) (oT (es++[lo]++[bh])),.v (.int m),.v (.int w),.v (oi s.1),.v (oi s.2)]) ?_ (by simp)⟩;unfold overG
 rw[qN (ds':=[.v (.int c),.v (.int k),.ob (some 2) (oT es),.v (.int m'),.no,.no,.no]) (by simp[args,qW m1,qW kk,qW k1,hm1]),
  qN (ds':=[.v (.int c),.v (.int k),.ob (some 2) (oT es),.v (.int m),.no,.no,.no]) (by simp[qW mm,hm]),
  qN (ds':=[.v (.int c),.v (.int k),.ob (some 2) (oT es),.v (.int m),.v (.int w'),.no,.no]) (by simp[qW m2,qW kk,qW k2,hw1]),
  qN (ds':=[.v (.int c),.v (.int k),.ob (some 2) (oT es),.v (.int m),.v (.int w),.no,.no]) (by simp[qW ww,hw]),
  qN (ds':=[.v (.int c),.v (.int k),.ob (some 2) (oT es),.v (.int m),.v (.int w),.v (.int (m/4%61-30)),.no]) (by simp),elo,ebh,
  qN (aFs (es:=es) (x:=lo) rfl (by simp) (by lia)),qN (aFs (es:=es++[lo]) (x:=bh) (by rfl) (by simp) (by simp;lia))]
 simp only[eO,dP];rw[es1];have e0:D.tup [oi s.1,oi s.2]=spD s:=rfl;simp[vR,e0]
open Builtin.Int (intBits)
noncomputable def putDs(k:Key)(d:D):List Key->List D->List D
 |k'::ks,x::xs=>(if k'=k then d else x)::putDs k d ks xs
 |_,xs=>xs
noncomputable def putKD(k:Key)(d:D)(ks:List Key)(l:List D):List Key×List D:=if hasK k ks=true then (ks,putDs k d ks l)else (ks++[k],l++[d])
theorem GI k d:∀ks l,putTs k (.val d) ks (l.map OT.val)=(putDs k d ks l).map OT.val
 |[],l=>by cases l<;>simp[putTs,putDs]
 |_::_,[]=>by simp[putTs,putDs]
 |k'::ks,x::l=>by simp only[aQ,putTs,putDs,GI k d ks l];split<;>rfl
def WL k d ks l:putKT k (.val d) ks (l.map OT.val)=.dct (putKD k d ks l).1 ((putKD k d ks l).2.map OT.val):=by
 unfold putKT putKD;split
 . rw[GI]
 . simp
theorem FM:∀l,valsO (l.map OT.val)=some l
 |[]=>rfl
 |d::l=>by simp[valsO,FM l]
theorem JD:∀{ks:List Key},k∉ks->hasK k ks=false
 |[],_=>rfl
 |k'::ks,h=>by have h1:k'≠k:=λz=>h (by rw[z];exact .head _);have:=JD (k:=k) (ks:=ks) λz=>h (.tail _ z);unfold hasK at this ⊢;simp[h1,this]
def CQ(h:k∈ks):hasK k ks=true:=by unfold hasK;rw[List.any_eq_true];exact⟨k,h,by simp⟩
open Builtin.Int (intBits)
abbrev Mks:=List (List Nat×Option Int)
noncomputable def putM(n:List Nat)(v:Option Int)(mk:Mks):Mks:=if n∈mk.map (·.1)then mk.map λp=>if p.1=n then (p.1,v)else p else mk++[(n,v)]
structure MkOk(mk:Mks):Prop where
 nd:(mk.map (·.1)).Nodup
 nm:∀p∈mk,Nm p.1
def MkOk.nil:MkOk []:=⟨EG,λ_ h=>nomatch h⟩
def MkOk.put{mk:Mks}(h:MkOk mk)(hn:Nm n) v:MkOk (putM n v mk):=by
 unfold putM;split
 . have e:(mk.map λp=>if p.1=n then (p.1,v)else p).map (·.1)=mk.map (·.1):=by
    rw[cV];refine gB λp _=>?_;simp only[Function.comp];split<;>rfl
   refine⟨by rw[e];exact h.nd,λp hp=>?_⟩;have:p.1∈(mk.map λp=>if p.1=n then (p.1,v)else p).map (·.1):=List.mem_map_of_mem hp;rw[e]at this;obtain⟨q,hq,e⟩:=bN.mp this;rw[<-e];exact h.nm q hq
 . rename_i hne;refine ⟨?_,λp hp=>?_⟩
   . rw [cU,cJ];refine ⟨h.nd,by simp,λa ha b hb=>?_⟩;have:b=n:=by simpa using hb
     subst this;exact λz=>hne (z▸ha)
   . rcases bE.mp hp with hp|hp
     . exact h.nm p hp
     . rw[aO.mp hp];exact hn
open Builtin.Int (intBits)
abbrev Bs:=List (Str×List Rw)
noncomputable def bkN(b:Bs):List Key:=b.map λq=>.inr q.1
noncomputable def bkV(b:Bs):List D:=b.map λq=>.lst (q.2.map rwD)
def BT(T:OT)(b:Bs):Prop:=∃ts,T=.ins 12 [.dct (bkN b) ts]/\otDs ts=bkV b
def NmS(x:Str):Prop:=∃cs,Nm cs/\x=txS cs
structure BOk(b:Bs)(m:Nat):Prop where
 nd:(b.map (·.1)).Nodup
 nm:∀q∈b,NmS q.1
 mp:∀q∈b,MapF q.2
 ln:∀q∈b,q.2.length<=m
def aEe(h:NmS x):fK [.str x]=some (.val (.bl true)):=by obtain⟨cs,h,rfl⟩:=h;exact QS h
theorem xP:∀l,strsD (l.map D.str)=some l
 |[]=>rfl
 |x::r=>by simp[strsD,xP r]
def aFf{ns:List Str}(h1:1<=ns.length)(h60:ns.length<=60)(hn:∀x∈ns,NmS x)(nd:ns.Nodup):fX [.lst (ns.map D.str)]=some (.val .non):=by
 have k1:¬((ns.length:Int)<1):=by lia
 have k2:¬((60:Int)<(ns.length:Int)):=by lia
 have comp:compG (viaA (qB 0) asLT) [none] (zN 0) (λ_=>some true) (qZ 1 fK (zC (zG 0) zT)) [.v (.lst (ns.map D.str))]=some (ns.map λ_=>D.bl true):=by refine yM (items:=ns.map D.str) (by simp) (by simp;lia) ?_;rw[yU D.str (λ_=>D.bl true) ns];intro x hx;exact⟨_,rfl,by simp[jJ,aEe (hn x hx)]⟩
 have al:allD [.lst (ns.map λ_=>D.bl true)]=some (.bl true):=by
  have e:(ns.map λ_=>D.bl true)=(ns.map λ_=>true).map D.bl:=by simp
  rw[e,DN];simp
 have ls:lsetE (zG 0) [.v (.lst (ns.map D.str))]=some (.int (ns.length:Nat)):=by
  have z:ns.length<1000:=by lia
  have c:=DH ns.reverse (NX.mpr (nd.imp λh=>Ne.symm h));unfold lsetE;simp[xP,z,c]
 have ar:args 1 [.lst (ns.map D.str)]=[.v (.lst (ns.map D.str))]:=by simp[args]
 unfold fX runG kZ;rw[ar,zM (ds':=[.v (.lst (ns.map D.str))]) (by simp[k1,k2]),zM (ds':=[.v (.lst (ns.map D.str))]) (by simp[comp,al])];simp[ls]
def aEb{l:List Str}(h:k∉l):hasK (.inr k) (l.map Sum.inr)=false:=JD λz=>by obtain⟨x,hx,e⟩:=bN.mp z;cases e;exact h hx
theorem HL N:∀(rest done:List Str) x,(done++rest).Nodup->done.length+rest.length<=1000->∃x',qQ (zN 2) eG (rest.map D.str) [.ob (some 0) (.ins 12 [.dct (done.map Sum.inr) (done.map λ_=>.lst [])]),N,x]=some (.nx [.ob (some 0) (.ins 12 [.dct ((done++rest).map Sum.inr) ((done++rest).map λ_=>.lst [])]),N,x'])
 |[],done,x,_,_=>⟨x,by simp[qQ]⟩
 |k::rest,done,x,nd,hl=>by
   simp only[aH]at hl;have nd':(done++[k]++rest).Nodup:=by simpa using nd
   obtain⟨x',e⟩:=HL N rest (done++[k]) (.v (.str k)) nd' (by simp;omega);refine⟨x',?_⟩;have hk:hasK (.inr k) (done.map Sum.inr)=false:=aEb λz=>by have:=(cJ.mp nd).2.2 k z k (.head _);exact this rfl
   have z:done.length<16777216:=by omega
   have z0:(0:Nat)<=sizeLine:=bZ _;have turn:eG [.ob (some 0) (.ins 12 [.dct (done.map Sum.inr) (done.map λ_=>.lst [])]),N,.v (.str k)]=some (.nx [.ob (some 0) (.ins 12 [.dct ((done++[k]).map Sum.inr) ((done++[k]).map λ_=>.lst [])]),N,.v (.str k)]):=by simp[eG,dputN,sO,nilO,atP,varP,List.lookup,keyD,hk,z,z0,putP,putO,List.modify]
   simp only[aQ,qQ,zN,aR,eO,dP,turn];rw[show done++k::rest=done++[k]++rest by simp];exact e
def aFl(h1:1<=ns.length)(h60:ns.length<=60)(hn:∀x∈ns,NmS x)(nd:ns.Nodup):dO (.ins 24 []) [.lst (ns.map D.str)]=some (.ins 12 [.dct ((srtT ns).map Sum.inr) ((srtT ns).map λ_=>.lst [])]):=by
 have hp:=srtT_perm ns;have ck:=aFf h1 h60 hn nd;obtain⟨x',e⟩:=HL (.v (.lst (ns.map D.str))) (srtT ns) [] .no (by rw[cT];exact hp.nodup_iff.mpr nd) (by rw[hp.length_eq];simp;lia);have st:srtTA (zG 1) [.ob (some 0) (.ins 12 [.dct [] []]),.v (.lst (ns.map D.str)),.no]=some ((srtT ns).map D.str):=by
  have z:ns.length<64:=by lia
  unfold srtTA;simp[xP,z]
 have e0:∀T l,dO T l=match fL (argsL 3 T l)with|some (.nx ds)=>ob0 ds[0]?|_=>none:=λ_ _=>rfl
 rw[e0];unfold fL;have ar:argsL 3 (.ins 24 []) [.lst (ns.map D.str)]=[.ob (some 0) (.ins 24 []),.v (.lst (ns.map D.str)),.no]:=by simp[argsL,args]
 rw[ar,zM (ds':=[.ob (some 0) (.ins 24 []),.v (.lst (ns.map D.str)),.no]) (by simp[dropG,ck]),zM (ds':=[.ob (some 0) (.ins 12 [.dct [] []]),.v (.lst (ns.map D.str)),.no]) (by simp[setNw,varP,dO0,putP,putO])];simp[cR,cT]at e;have e1:forG (viaA (mkL (srtTA (zG 1))) asLT) (zN 2) eG [.ob (some 0) (.ins 12 [.dct [] []]),.v (.lst (ns.map D.str)),.no]=some (.nx [.ob (some 0) (.ins 12 [.dct ((srtT ns).map Sum.inr) ((srtT ns).map λ_=>.lst [])]),.v (.lst (ns.map D.str)),x']):=by simp[st,e]
 rw[e1];rfl
def bt_new(l:List Str):BT (.ins 12 [.dct (l.map Sum.inr) (l.map λ_=>.lst [])]) (l.map λx=>(x,[])):=by
 refine⟨l.map λ_=>.lst [],by simp[bkN],?_⟩;induction l with
 |nil=>simp[otDs,bkV]
 |cons x r ih=>simp only[aQ,otDs,otD,ih,bkV];rfl
theorem US:∀{b:Bs},(b.map (·.1)).Nodup->(x,ps)∈b->getKD (.inr x) (bkN b) (bkV b)=some (.lst (ps.map rwD))
 |[],_,h=>nomatch h
 |q::b,nd,h=>by
   rw[aQ,bM]at nd;simp only[bkN,bkV,aQ,getKD];rcases aB.mp h with e|h
   . rw[<-e];simp
   . have ne:q.1≠x:=λz=>nd.1 (z▸bN.mpr ⟨(x,ps),h,rfl⟩);rw[if_neg (λz=>ne (by cases z;rfl))];exact US nd.2 h
def aEh(h:(x,ps)∈b):hasK (.inr x) (bkN b)=true:=CQ (bN.mpr ⟨(x,ps),h,rfl⟩)
def UB(ok:BOk b m)(h:(x,ps)∈b)(hM:kdD M=some (bkN b,bkV b)):iD [.ins 12 [M],.str x]=some (.fresh (ps.map rwD)):=by
 have nm:=aEe (ok.nm _ h);have g:=US ok.nd h;have hk:=aEh h;have fl:=jQ ps;unfold iD runG lB;have ar:args 2 [.ins 12 [M],.str x]=[.v (.ins 12 [M]),.v (.str x)]:=by simp[args]
 have f1:∀ds:List Sl,ds[0]?=some (.v (.ins 12 [M]))->fldG [(12,0)] (qB 0) ds=some M:=λds hd=>by simp[fldG,qB,hd,fldD,List.lookup]
 rw[ar,zM (ds':=[.v (.ins 12 [M]),.v (.str x)]) (by simp[nm,dnotG,dinG,f1,keyD,hM,hk])];simp[lisA,dgetG,f1,keyD,hM,g,asLT,fl]
noncomputable def updB(x:Str)(f:List Rw->List Rw)(b:Bs):Bs:=b.map λq=>if q.1=x then (q.1,f q.2)else q
def bkN_upd x f b:bkN (updB x f b)=bkN b:=by unfold bkN updB;rw[cV];refine gB λq _=>?_;simp only[Function.comp_apply];split<;>rfl
theorem CA k d:∀ks ts,otDs (putTs k (.val d) ks ts)=putDs k d ks (otDs ts)
 |[],ts=>by cases ts<;>simp[putTs,putDs]
 |_::_,[]=>by simp[putTs,putDs,otDs]
 |k'::ks,t::ts=>by simp only[putTs,putDs,otDs,CA k d ks ts];split<;>simp[otD]
theorem SY f:∀{b:Bs},(b.map (·.1)).Nodup->(x,ps)∈b->putDs (.inr x) (.lst ((f ps).map rwD)) (bkN b) (bkV b)=bkV (updB x f b)
 |[],_,h=>nomatch h
 |q::b,nd,h=>by
   rw[aQ,bM]at nd;have key:∀{b:Bs},x∉b.map (·.1)->putDs (.inr x) (.lst ((f ps).map rwD)) (bkN b) (bkV b)=bkV (updB x f b):=by
    intro b;induction b with
    |nil=>intro _;rfl
    |cons r b ih=>intro hx;simp only[aQ,aB,not_or]at hx;simp only[bkN,bkV,updB,aQ,putDs];rw[if_neg (λz=>hx.1 (by cases z;rfl)),if_neg (λz=>hx.1 z.symm)];congr 1;exact ih hx.2
   rcases aB.mp h with e|h
   . subst e;have:=key nd.1;simp only[bkN,bkV,updB,aQ,putDs,if_true];congr 1
   . have ne:q.1≠x:=λz=>nd.1 (z▸bN.mpr ⟨(x,ps),h,rfl⟩);have:=SY f nd.2 h;simp only[bkN,bkV,updB,aQ,putDs];rw[if_neg (λz=>ne (by cases z;rfl)),if_neg ne];congr 1
def put_b(ok:BOk b m)(hm:m<=1000)(hb:b.length<=1000)(hT:BT T b)(h:(x,ps)∈b)(hs:okS s) v :
  ∃T',BT T' (updB x (λps=>put1 ps (s,v)) b)/\dputG (atP [(12,0)] (varP 0)) (qB 1) (ofO (relGO 0 (lO (xL 3 kQ (zC (methV 1 [12] cN (qB 0) (zC (zG 1) zT)) (zC (zG 2) (zC (zA (oi v)) zT))))))) [.ob (some 0) T,.v (.str x),.v (spD s)]=some (.nx [.ob (some 0) T',.v (.str x),.v (spD s)]):=by
 obtain⟨ts,rfl,ht⟩:=hT;have hp:=put_eq (ok.mp _ h) (cW (ok.ln _ h) (by lia)) (v:=v) hs;have on:=UB ok h (M:=.dct (bkN b) (bkV b)) rfl;have hk:=aEh h;have pd:=SY (λps=>put1 ps (s,v)) ok.nd h;have fl:=jQ (put1 ps (s,v));have z:(bkN b).length<16777216:=by simp[bkN];lia
 have oe:otD (.ins 12 [.dct (bkN b) ts])=.ins 12 [.dct (bkN b) (bkV b)]:=by simp[otD,otDs,ht]
 have e1:(ofO (relGO 0 (lO (xL 3 kQ (zC (methV 1 [12] cN (qB 0) (zC (zG 1) zT)) (zC (zG 2) (zC (zA (oi v)) zT))))))) [.ob (some 0) (.ins 12 [.dct (bkN b) ts]),.v (.str x),.v (spD s)]=some (.lst ((put1 ps (s,v)).map rwD)):=by generalize hq:(put1 ps (s,v)).map rwD=q at *;have on':cN 12 [.ins 12 [.dct (bkN b) (bkV b)],.str x]=some (.fresh (ps.map rwD)):=on;unfold ofO relGO relO;simp only[fB,oe,dP];simp[methV,methR,on',hp,flatO,xG,fl,otD,yS]
 refine⟨.ins 12 [.dct (bkN b) (putTs (.inr x) (.val (.lst ((put1 ps (s,v)).map rwD))) (bkN b) ts)],⟨_,by rw[bkN_upd],by rw[CA,ht,pd]⟩,?_⟩;unfold dputG;rw[e1];simp[atP,varP,List.lookup,keyD,z,putP,putO,putKT,hk,List.modify]
def lay_eq(ok:BOk b m)(hm:m<=1000)(hb:b.length<=1000)(hT:BT T b)(h:(x,ps)∈b)(hs:okS s):∃T',BT T' (updB x (λps=>put1 ps (s,some 1)) b)/\eY T [.str x,spD s]=some T':=by
 obtain⟨T',h1,h2⟩:=put_b ok hm hb hT h hs (some 1);refine⟨T',h1,?_⟩;have e0:∀T l,eY T l=match iO (argsL 3 T l)with|some (.nx ds)=>ob0 ds[0]?|_=>none:=λ_ _=>rfl
 have ar:argsL 3 T [.str x,spD s]=[.ob (some 0) T,.v (.str x),.v (spD s)]:=by simp[argsL,args]
 rw[e0,ar];unfold iO;rw[show(D.int 1)=oi (some 1) from rfl,h2];rfl
def lift_eq(ok:BOk b m)(hm:m<=1000)(hb:b.length<=1000)(hT:BT T b)(h:(x,ps)∈b)(hs:okS s):∃T',BT T' (updB x (λps=>put1 ps (s,none)) b)/\eL T [.str x,spD s]=some T':=by
 obtain⟨T',h1,h2⟩:=put_b ok hm hb hT h hs none;refine⟨T',h1,?_⟩;have e0:∀T l,eL T l=match iE (argsL 3 T l)with|some (.nx ds)=>ob0 ds[0]?|_=>none:=λ_ _=>rfl
 have ar:argsL 3 T [.str x,spD s]=[.ob (some 0) T,.v (.str x),.v (spD s)]:=by simp[argsL,args]
 rw[e0,ar];unfold iE;rw[show(D.non)=oi none from rfl,h2];rfl
noncomputable def ltrB(n:Int):Nat:=(97+n%26).toNat
def aDn n:97<=ltrB n/\ltrB n<=122:=by unfold ltrB;lia
def aDo(h:ltrB a=ltrB b):a%26=b%26:=by unfold ltrB at h;lia
def aFu n:ixD (.str (Str.ofString "abcdefghijklmnopqrstuvwxyz")) (.int (n%26))=some (.str (txS [ltrB n])):=by
 have h0:=fR n (show(26:Int)≠0 by decide);have h1:=kP n (show(0:Int)<26 by decide);unfold ltrB;generalize n%26=i at *;have e:ixD (.str (txS abcL)) (.int i)=(abcL[i.toNat]?).map λc=>D.str (txS [c]):=by show(if (txS abcL).length<=sizeLine then (atI abcL i).map λc=>D.str ⟨#[c]⟩else none)=_;rw[UK,if_pos (by decide)];unfold atI;rw[JC h0 (by show i<26;exact h1)];rfl
 have hl:i.toNat<abcL.length:=by show i.toNat<26;lia
 have e2:abcL=List.range' 97 26:=by decide
 have e3:abcL[i.toNat]?=some (97+i.toNat):=by rw[e2,List.getElem?_range' (by lia)];simp
 rw[t_abc,e,e3,show(97+i).toNat=97+i.toNat by lia];rfl
theorem UN:∀ps:List (List Nat),Str.join (txS []) (ps.map txS)=txS ps.flatten
 |[]=>rfl
 |[p]=>by simp[Str.join]
 |p::q::r=>by have ih:=UN (q::r);show txS p++txS []++Str.join (txS []) ((q::r).map txS)=_;rw[ih,RY,RY];simp
def XW cs(hl:cs.length<=1000):joinD (.str (Str.ofString "")) (.lst (cs.map λc=>.str (txS [c])))=some (.str (txS cs)):=by
 have st:strsD (cs.map λc=>D.str (txS [c]))=some (cs.map λc=>txS [c]):=by have:=xP (cs.map λc=>txS [c]);rwa [cV]at this
 have sm:((cs.map λc=>txS [c]).map (·.length)).sum=cs.length:=by
  clear hl st;induction cs with
  |nil=>rfl
  |cons c r ih=>simp only[aQ,nU,ih,UK,aH,mN];lia
 unfold joinD;simp only[st,aR];rw[if_pos ⟨by decide,by rw[sm,cD];lia⟩];have:Txt.join (Str.ofString "") (cs.map λc=>txS [c])=Str.join (txS []) ((cs.map λc=>[c]).map txS):=by show Builtin.Str.glued _ _=_;rw[StrLaws.glued_eq_join,t_empty,cV];rfl
 rw[this,UN];congr 3;clear hl st sm this;induction cs with
 |nil=>rfl
 |cons c r ih=>simp[ih]
noncomputable def stepN(d core r:Int):Int:=if r=0 then core else if r=1 then core/d else 0
def step_at d core r(h:0<=r):ixD (.lst [.int core,.int (core/d),.int 0]) (.int (if 2<r then 2 else r))=some (.int (stepN d core r)):=by
 unfold stepN;rcases(by lia:r=0\/r=1\/r=2\/2<r)with e|e|e|e
 . subst e;rfl
 . subst e;rfl
 . subst e;rfl
 . rw[if_pos e,if_neg (by lia),if_neg (by lia)];rfl
noncomputable def baseN(A:Nat->Int)(e:Int)(size:Nat)(core:Int):List Nat:=(List.range size).map λj=>ltrB (A j+stepN 26 core (((j:Int)+e)%(size:Int)))
def xD A e size core:(baseN A e size core).length=size:=by simp[baseN]
def aFn A e size core:Ltr (baseN A e size core):=λc hc=>by obtain⟨j,_,rfl⟩:=bN.mp hc;exact aDn _
def aCf e{size:Nat}(h:0<size) r(hr:r<size):∃j,j<size/\((j:Int)+e)%(size:Int)=r:=by
 refine⟨(((r:Int)-e)%(size:Int)).toNat,?_,?_⟩
 . have:=kP ((r:Int) - e) (show 0 < (size:Int) by lia);have:=fR ((r:Int) - e) (show (size:Int)≠0 by lia)
   lia
 . have:=fR ((r:Int)-e) (show(size:Int)≠0 by lia);rw[sJ this,Int.emod_add_emod,show(r:Int)-e+e=r by lia];exact Int.emod_eq_of_lt (by lia) (by lia)
def aFo(h1:1<=size)(ha:0<=a/\a<676/\(size=1->a<26))(hb:0<=b/\b<676/\(size=1->b<26))(h:baseN A e size a=baseN A e size b):a=b:=by
 have at':∀j,j<size->ltrB (A j+stepN 26 a (((j:Int)+e)%(size:Int)))=ltrB (A j+stepN 26 b (((j:Int)+e)%(size:Int))):=λj hj=>by have:=congrArg (λl=>l[j]?) h;simpa[baseN,hj]using this
 obtain⟨j0,l0,e0⟩:=aCf e (size:=size) (by lia) 0 (by lia);have q0:=aDo (at' j0 l0);simp[stepN,oO,if_true]at q0;by_cases hs:size=1
 . have:=ha.2.2 hs
   lia
 . obtain ⟨j1,l1,e1⟩:=aCf e (size:=size) (by lia) 1 (by lia);have q1:=aDo (at' j1 l1);rw [e1]at q1;simp only [stepN]at q1;have n1:¬ ((1:Nat):Int)=0:=by decide
   have n2:((1:Nat):Int)=1:=rfl
   lia
noncomputable def layV(l:Bool):Option Int:=if l=true then some 1 else none
theorem KS:∀{rs:List Rw}{x:Int},Til (some x) rs->∀r∈rs,∃y,r.1=some y/\x<=y
 |[],_,h,_,_=>h.elim
 |r0::rs,x,⟨h1,h2,h3,h4⟩,r,hr=>by
   rcases aB.mp hr with rfl|hr
   . exact⟨x,h1,dJ _⟩
   . cases e:r0.2.1 with
     |none=>rw[h3 e]at hr;cases hr
     |some z=>obtain⟨y,e1,e2⟩:=KS (h4 z e) r hr;have:=h2 x z rfl e;exact⟨y,e1,by omega⟩
theorem kD:∀{rs:List Rw}{here:Option Int},Til here rs->Ord rs
 |[],_,h=>h.elim
 |r::rs,here,⟨h1,h2,h3,h4⟩=>by
   have ok:ok3 r:=λa b e1 e2=>h2 a b (h1.symm.trans e1) e2;cases e:r.2.1 with
   |none=>rw[h3 e];exact⟨λz hz=>by rw[aO.mp hz];exact ok,dU _ _⟩
   |some x=>have o:=kD (h4 x e);refine⟨λz hz=>(aB.mp hz).elim (λe=>e▸ok) (o.ok z),bF.mpr ⟨λz hz=>?_,o.pw⟩⟩;obtain⟨y,e1,e2⟩:=KS (h4 x e) z hz;exact⟨x,y,e,e1,e2⟩
theorem aAu p:∀{rs:List Rw}{here:Option Int},Til here rs->∃r,rs.find? (befB p)=some r
 |[],_,h=>h.elim
 |r::rs,here,⟨h1,h2,h3,h4⟩=>by
   rw[cK];cases hb:befB p r with
   |true=>exact⟨r,rfl⟩
   |false=>
     cases e:r.2.1 with
     |none=>unfold befB at hb;rw[e]at hb;cases hb
     |some x=>exact aAu p (h4 x e)
open Builtin.Int (intBits)
noncomputable def joinR(W:Option Int->Option Int->Option Int)(L:List R4):List Rw:=L.map λr=>(r.1,r.2.1,W r.2.2.1 r.2.2.2)
theorem LZ W:∀n here as bs,as.length+bs.length<=n->Rem here as->Rem here bs->Til here (joinR W (yD n here as bs))
 |_,_,[],_,_,h,_=>h.elim
 |_,_,_::_,[],_,_,h=>h.elim
 |0,_,_::_,_::_,h,_,_=>by simp at h
 |n+1,here,a::as,b::bs,hn,ha,hb=>by
   have two:=IE a b as bs;simp only[aH]at hn;show Til here ((here,qP a.2.1 b.2.1,W a.2.2 b.2.2)::joinR W (yD n (qP a.2.1 b.2.1) (stp (qP a.2.1 b.2.1) (a::as)) (stp (qP a.2.1 b.2.1) (b::bs))));refine⟨rfl,λh x e1 e2=>?_,λe=>?_,λx e=>?_⟩
   . have e2:qP a.2.1 b.2.1=some x:=e2;cases h1:a.2.1 with
     |none=>
       rw[h1]at e2;cases h2:b.2.1 with
       |none=>rw[h2]at e2;cases e2
       |some y=>rw[h2]at e2;cases e2;exact hb.1 h _ e1 h2
     |some y=>
       rw[h1]at e2;cases h2:b.2.1 with
       |none=>rw[h2]at e2;cases e2;exact ha.1 h _ e1 h1
       |some z=>rw[h2]at e2;have e3:min y z=x:=Option.some.inj e2;have:=ha.1 h _ e1 h1;have:=hb.1 h _ e1 h2;omega
   . have e:qP a.2.1 b.2.1=none:=e;rw[e,(vW ha hb e).1,wF];rfl
   . have e:qP a.2.1 b.2.1=some x:=e;rw [e]at two ⊢;have xa:∀y,a.2.1=some y->x<=y:=λy h1=>by
      rw[h1]at e;cases h2:b.2.1 with
      |none=>rw[h2]at e;cases e;exact dJ _
      |some z=>rw[h2]at e;have e3:min y z=x:=Option.some.inj e;omega
     have xb:∀y,b.2.1=some y->x<=y:=λy h2=>by
      rw[h2]at e;cases h1:a.2.1 with
      |none=>rw[h1]at e;cases e;exact dJ _
      |some z=>rw[h1]at e;have e3:min z y=x:=Option.some.inj e;omega
     refine LZ W n (some x) _ _ (by omega) ?_ ?_
     . rcases xO ha xa with h|h
       . exact h.2.2
       . exact h.2
     . rcases xO hb xb with h|h
       . exact h.2.2
       . exact h.2
theorem MB:∀n here as bs,(yD n here as bs).length<=n
 |0,_,_,_=>by simp[yD]
 |n+1,_,[],_=>by simp[yD]
 |n+1,_,_::_,[]=>by simp[yD]
 |n+1,here,a::as,b::bs=>by have:=MB n (qP a.2.1 b.2.1) (stp (qP a.2.1 b.2.1) (a::as)) (stp (qP a.2.1 b.2.1) (b::bs));rw[yD,aH];omega
noncomputable abbrev pairR(ps qs:List Rw):List R4:=yD ((jO ps).length+(jO qs).length) none (jO ps) (jO qs)
noncomputable def wC(W:Option Int->Option Int->Option Int)(ps qs:List Rw):List Rw:=knitF (joinR W (pairR ps qs))
section
variable(W:Option Int->Option Int->Option Int){ps qs:List Rw}
def MO(o1:Ord ps)(o2:Ord qs):Til none (joinR W (pairR ps qs)):=LZ W _ none _ _ (aM _) (yT o1).rem (yT o2).rem
def vT(o1:Ord ps)(o2:Ord qs):MapF (wC W ps qs):=HE (kD (MO W o1 o2))
def UO(o1:Ord ps)(o2:Ord qs)(p:Int):valL (wC W ps qs) p=W (valL ps p) (valL qs p):=by
 have t:=MO W o1 o2;rw[show valL (wC W ps qs) p=valL (joinR W (pairR ps qs)) p from VZ (vT W o1 o2).ord (kD t) λv=>HD (kD t) p v,tJ (kD t)];obtain⟨r,hr⟩:=aAu p t;rw[<-BF p _ none t (λ_ e=>nomatch e)]at hr;rw[hr];have h3:has3 r p=true:=by simpa using mO hr
 obtain⟨r4,h4,rfl⟩:=bN.mp (fM hr);have sp:=(GW _ none _ _ (aM _) (.inr ⟨(yT o1).rem,(yT o2).rem⟩)).1 r4 h4;obtain⟨e1,e2⟩:=sp.2.2 p h3 (λ_ e=>nomatch e);rw[VH o1]at e1;rw[VH o2]at e2;simp[e1,e2]
end
theorem uH(hW:∀u v,Φ c [oi u,oi v]=some (.val (oi (W u v)))) s0 x y z t(hs:s0=[x,y,z,t,.v c]):∀L,
  compL (tupG 4 (zW (zN 0) (zW (zN 1) (zW (zN 2) (zW (zN 3) tgNil))))) (λ_=>some true) (mkT (qI (zC (qB 0) (zC (qB 1) (zC (callW Φ 4 (zC (zG 2) (zC (zG 3) zT))) zT))))) s0 (L.map r4D)=some ((joinR W L).map rwD)
 |[]=>by simp[compL,joinR]
 |r::L=>by
   have ih:=uH hW s0 x y z t hs L;subst hs;have hw:=hW r.2.2.1 r.2.2.2;rw[aQ,compL];have e1:tupG 4 (zW (zN 0) (zW (zN 1) (zW (zN 2) (zW (zN 3) tgNil)))) (r4D r) [x,y,z,t,.v c]=some [.v (oi r.1),.v (oi r.2.1),.v (oi r.2.2.1),.v (oi r.2.2.2),.v c]:=by simp[r4D]
   have e2:mkT (qI (zC (qB 0) (zC (qB 1) (zC (callW Φ 4 (zC (zG 2) (zC (zG 3) zT))) zT)))) [.v (oi r.1),.v (oi r.2.1),.v (oi r.2.2.1),.v (oi r.2.2.2),.v c]=some (rwD (r.1,r.2.1,W r.2.2.1 r.2.2.2)):=by simp[callW,hw,rwD,retV]
   rw[e1];simp only[aR,if_true,e2,ih,dC];rfl
def XV(hW:∀u v,Φ c [oi u,oi v]=some (.val (oi (W u v))))(o1:Ord ps)(o2:Ord qs)(h1:ps.length<=10000)(h2:qs.length<=10000) :
  lK Φ [.lst (ps.map rwD),.lst (qs.map rwD),c]=some (.fresh ((wC W ps qs).map rwD)):=by
 have pe:=WT o1 o2 h1 h2;have l1:=wM ps;have l2:=wM qs;have l3:=MB ((jO ps).length+(jO qs).length) none (jO ps) (jO qs);have h5:(joinR W (pairR ps qs)).length=(yD ((jO ps).length+(jO qs).length) none (jO ps) (jO qs)).length:=cD _;have kn:=UM (joinR W (pairR ps qs)) (by lia);have fl:=jQ (wC W ps qs);have comp:∀(a b:Sl),compG (viaA (qB 3) asLT) [none,none,none,none,some 2] (tupG 4 (zW (zN 0) (zW (zN 1) (zW (zN 2) (zW (zN 3) tgNil))))) (λ_=>some true) (mkT (qI (zC (qB 0) (zC (qB 1) (zC (callW Φ 4 (zC (zG 2) (zC (zG 3) zT))) zT))))) [a,b,.v c,.v (.lst ((pairR ps qs).map r4D))]=some ((joinR W (pairR ps qs)).map rwD):=λa b=>by refine yM (items:=(pairR ps qs).map r4D) (by simp) (by simp;lia) ?_;exact uH hW _ .no .no .no .no rfl _
 unfold wC at fl ⊢;unfold lK runG pF;simp[args,pe,comp,kn,fl]
open Builtin.Int (intBits)
abbrev Dvs:=List (Str×Rv)
noncomputable def dvD(d:Str×Rv):D:=.tup [.str d.1,spD d.2.1,oi d.2.2]
noncomputable def mstep(y:Str)(ps:List Rw)(d:Str×Rv):List Rw:=if d.1=y then put1 ps d.2 else ps
noncomputable def mapOf(ds:Dvs)(y:Str):List Rw:=ds.foldl (mstep y) []
noncomputable def vstep(y:Str)(p:Int)(b:Option Int)(d:Str×Rv):Option Int:=if d.1=y/\hasS d.2.1 p=true then d.2.2 else b
noncomputable def vF(ds:Dvs)(y:Str)(p:Int):Option Int:=ds.foldl (vstep y p) none
theorem AQ y:∀(ds:Dvs) m,MapF m->(∀d∈ds,okS d.2.1)->MapF (ds.foldl (mstep y) m)/\(ds.foldl (mstep y) m).length<=m.length+2*ds.length/\∀p,valL (ds.foldl (mstep y) m) p=ds.foldl (vstep y p) (valL m p)
 |[],m,hm,_=>⟨hm,by simp,λp=>rfl⟩
 |d::ds,m,hm,ho=>by
   have h1:MapF (mstep y m d)/\(mstep y m d).length<=m.length+2/\∀p,valL (mstep y m d) p=vstep y p (valL m p) d:=by
    have hd:=ho d (.head _);unfold mstep vstep;by_cases h:d.1=y
    . rw[if_pos h];refine⟨BU hm hd,LL hm hd,λp=>?_⟩;rw[aBr hm hd];simp[h]
    . rw[if_neg h];exact⟨hm,by omega,λp=>by rw[if_neg (λz=>h z.1)]⟩
   obtain⟨a,b,c⟩:=AQ y ds (mstep y m d) h1.1 λe he=>ho e (.tail _ he);rw[cB,aH];refine⟨a,by omega,λp=>?_⟩;rw[c p,h1.2.2 p,cB]
def xS(ho:∀d∈ds,okS d.2.1) y:MapF (mapOf ds y):=(AQ y ds [] MapF.nil ho).1
def GZ(ho:∀d∈ds,okS d.2.1) y:(mapOf ds y).length<=2*ds.length:=by have:=(AQ y ds [] MapF.nil ho).2.1;rw[mN,NT]at this;exact this
def wK(ho:∀d∈ds,okS d.2.1) y p:valL (mapOf ds y) p=vF ds y p:=(AQ y ds [] MapF.nil ho).2.2 p
def QL ds y:mapOf ds y=nK ((ds.filter λd=>decide (d.1=y)).map (·.2)):=by
 have:∀(ds:Dvs) (m:List Rw),ds.foldl (mstep y) m=((ds.filter λd=>decide (d.1=y)).map (·.2)).foldl put1 m:=by
  intro ds;induction ds with
  |nil=>intro m;rfl
  |cons d ds ih=>intro m;rw[cB,ih,aAg];unfold mstep;by_cases h:d.1=y<;>simp[h]
 exact this ds []
def QK ds d y:mapOf (ds++[d]) y=mstep y (mapOf ds y) d:=by simp[mapOf]
noncomputable def bOf(ns:List Str)(ds:Dvs):Bs:=(srtT ns).map λx=>(x,mapOf ds x)
def NN ns ds:(bOf ns ds).map (·.1)=srtT ns:=by unfold bOf;rw[cV];exact List.map_id _
def bOf_upd ns ds x r:updB x (λps=>put1 ps r) (bOf ns ds)=bOf ns (ds++[(x,r)]):=by
 unfold updB bOf;rw[cV];refine gB λy _=>?_;simp only[Function.comp_apply,QK,mstep];by_cases h:y=x
 . subst h;simp
 . rw[if_neg h,if_neg (λz=>h z.symm)]
def aFp(hn:∀x∈ns,NmS x)(nd:ns.Nodup)(ho:∀d∈ds,okS d.2.1):BOk (bOf ns ds) (2*ds.length):=by
 have hp:=srtT_perm ns;refine⟨by rw[NN];exact hp.nodup_iff.mpr nd,λq hq=>?_,λq hq=>?_,λq hq=>?_⟩
 all_goals obtain⟨x,hx,rfl⟩:=bN.mp hq
 . exact hn x (hp.mem_iff.mp hx)
 . exact xS ho x
 . exact GZ ho x
def VF ns ds:(bOf ns ds).length=ns.length:=by have:=congrArg List.length (NN ns ds);rw[cD,(srtT_perm ns).length_eq]at this;exact this
def JQ(h:x∈ns) ds:(x,mapOf ds x)∈bOf ns ds:=bN.mpr ⟨x,(srtT_perm ns).mem_iff.mpr h,rfl⟩
noncomputable def endsV(ds:Dvs):List Int:=ds.flatMap λd=>d.2.1.1.toList++d.2.1.2.toList
theorem kG:∀ds,(endsV ds).length<=2*ds.length
 |[]=>by simp[endsV]
 |⟨x,⟨a,b⟩,v⟩::ds=>by have:=kG ds;unfold endsV at this ⊢;rw[ZM,bX,bX,aH];generalize (List.flatMap (λd:Str×Rv=>d.2.1.1.toList++d.2.1.2.toList) ds).length=n at *;cases a<;>cases b<;>simp<;>omega
def YE(h1:s.1≠some p)(h2:s.2≠some p):hasS s p=hasS s (p-1):=by
 obtain⟨a,b⟩:=s;unfold hasS;cases a with
 |none=>
   cases b with
   |none=>rfl
   |some b=>
     have:b≠p:=λz=>h2 (by rw[z])
     lia
 |some a=>
   have h1':a≠p:=λz=>h1 (by rw[z]);have e1:decide (a<=p)=decide (a<=p-1):=by rw[decide_eq_decide];lia
   cases b with
   |none=>simp[e1]
   |some b=>
     have h2':b≠p:=λz=>h2 (by rw[z]);have e2:decide (p<b)=decide (p-1<b):=by rw[decide_eq_decide];lia
     simp[e1,e2]
def vF_same(h:p∉endsV ds):vF ds y p=vF ds y (p-1):=by
 unfold vF;generalize (none:Option Int)=b;induction ds generalizing b with
 |nil=>rfl
 |cons d ds ih=>unfold endsV at h;rw[ZM,bE,not_or]at h;have e:hasS d.2.1 p=hasS d.2.1 (p-1):=YE (λz=>h.1 (by rw[z];simp)) (λz=>h.1 (by rw[z];simp));rw[cB,cB,ih h.2];unfold vstep;rw[e]
def QO(hm:MapF m){lo:Int}(hr:r∈m)(hlo:r.1=some lo):valL m lo≠valL m (lo-1):=by
 intro e;obtain⟨v,hv⟩:∃v,r.2.2=some v:=by
  cases h:r.2.2 with
  |none=>exact absurd h (hm.val r hr)
  |some v=>exact⟨v,rfl⟩
 have hr1:has3 r lo=true:=by
  rw[qR];refine⟨λx hx=>?_,λy hy=>?_⟩
  . rw[hlo]at hx;cases hx;lia
  . exact hm.ord.ok r hr lo y hlo hy
 have e1:=(yB hm.ord lo v).mpr ⟨r,hr,hr1,hv⟩;rw[e1]at e;obtain⟨a,ha,ha1,hav⟩:=(yB hm.ord (lo-1) v).mp e.symm;obtain⟨i,hi,ei⟩:=dA ha;obtain⟨j,hj,ej⟩:=dA hr;have pw:=bP.mp hm.ord.pw;rw[qR]at ha1;have nij:i≠j:=λz=>by
  subst z;rw[ei]at ej;subst ej;have:=ha1.1 lo hlo
  lia
 rcases Nat.lt_or_gt_of_ne nij with lt|gt
 . obtain ⟨x,y,hx,hy,hxy⟩:=pw i j hi hj lt;rw [ei]at hx;rw [ej,hlo]at hy;have h3:=ha1.2 x hx;have hx':x=lo:=by lia
   by_cases h1:j=i+1
   . subst h1;refine hm.adj i a r (by rw [aF hi,ei]) (by rw [aF hj,ej]) ⟨?_,?_⟩
     . rw[hx,hlo,hx']
     . rw[hav,hv]
   . have hk:i+1 < m.length:=by lia
     obtain⟨x1,y1,hx1,hy1,h4⟩:=pw i (i+1) hi hk (by lia);obtain⟨x2,y2,hx2,hy2,h5⟩:=pw (i+1) j hk hj (by lia);rw[ei,hx]at hx1;rw[ej,hlo]at hy2;have:=hm.ord.ok _ (iI hk) y1 x2 hy1 hx2
     lia
 . obtain ⟨x,y,hx,hy,hxy⟩:=pw j i hj hi gt;rw [ej]at hx;rw [ei]at hy;have h3:=ha1.1 y hy;have:=hm.ord.ok r hr lo x hlo hx
   lia
theorem GX{α:Type}:∀(l E:List α),l.Nodup->(∀x∈l,x∈E)->l.length<=E.length
 |[],E,_,_=>bZ _
 |a::l,E,nd,h=>by
   obtain⟨E1,E2,rfl⟩:=VS (h a (.head _));rw[bM]at nd;have:=GX l (E1++E2) nd.2 λx hx=>by
    have hx':=h x (.tail _ hx);rw[bE,aB]at hx';rcases hx' with z|z|z
    . exact bA _ z
    . subst z;exact absurd hx nd.1
    . exact aI _ z
   simp at this ⊢;omega
def Stab(E:List Int)(m:List Rw):Prop:=∀p,p∉E->valL m p=valL m (p-1)
def KZ(hm:MapF m)(h:Stab E m):m.length<=E.length+1:=by
 cases m with
 |nil=>simp
 |cons r0 t=>
   have pw:=hm.ord.pw;rw[bF]at pw;have lows:∀r∈t,∃lo,r.1=some lo/\lo∈E:=λr hr=>by
    obtain⟨x,y,_,hy,_⟩:=pw.1 r hr;refine⟨y,hy,?_⟩;by_cases hE:y∈E
    . exact hE
    . exact absurd (h y hE) (QO hm (.tail _ hr) hy)
   have nd:(t.map (·.1)).Nodup:=by
    rw[List.Nodup,tH];refine sX ?_ pw.2;intro a b ha hb hab e;obtain⟨x,y,hx,hy,hxy⟩:=hab;obtain⟨lo,hlo,_⟩:=lows a ha;have:=hm.ord.ok a (.tail _ ha) lo x hlo hx;rw[hlo,hy]at e
    lia
   have:=GX (t.map (·.1)) (E.map some) nd λx hx=>by obtain⟨r,hr,rfl⟩:=bN.mp hx;obtain⟨lo,hlo,hE⟩:=lows r hr;exact bN.mpr ⟨lo,hE,hlo.symm⟩
   simp at this ⊢
   lia
noncomputable def sumW:Option Int->Option Int->Option Int
 |some a,some b=>some (a+b)
 |some a,none=>some a
 |none,b=>b
def WD u v:iV [oi u,oi v]=some (.val (oi (sumW u v))):=by
 have ei:∀u v:Option Int,lL [oi u,oi v]=some (.val (oi (match u with|some a=>some a|none=>v))):=λu v=>by unfold lL runG pH;cases u<;>cases v<;>simp[args]
 have:=ei u v;unfold iV runG pD;cases u<;>cases v<;>simp_all [args,sumW]
noncomputable def weigh(w:Int)(ps:List Rw):List Rw:=ps.map λr=>(r.1,r.2.1,some w)
def FI w(o:Ord ps):Ord (weigh w ps):=by
 refine⟨λr hr=>?_,?_⟩
 . obtain⟨q,hq,rfl⟩:=bN.mp hr;exact o.ok q hq
 . unfold weigh;rw[tH];exact o.pw.imp λh=>h
def vP w(hv:∀r∈ps,r.2.2≠none) p:valL (weigh w ps) p=(valL ps p).map λ_=>w:=by
 have:∀(ps:List Rw) (t:Option Int),(∀r∈ps,r.2.2≠none)->(weigh w ps).foldl (λt r=>if has3 r p=true then r.2.2 else t) (t.map λ_=>w)=(ps.foldl (λt r=>if has3 r p=true then r.2.2 else t) t).map λ_=>w:=by
  intro ps;induction ps with
  |nil=>intro t _;rfl
  |cons r ps ih=>
    intro t h;have e:has3 (r.1,r.2.1,some w) p=has3 r p:=rfl;simp only[weigh,aQ,cB,e];by_cases hh:has3 r p=true
    . rw [if_pos hh,if_pos hh];obtain⟨v,hv⟩:∃v,r.2.2=some v:=by
       cases hq:r.2.2 with
       |none=>exact absurd hq (h r (.head _))
       |some v=>exact⟨v,rfl⟩
      have:=ih (some v) λq hq=>h q (.tail _ hq);rw[hv];exact this
    . rw[if_neg hh,if_neg hh];exact ih t λq hq=>h q (.tail _ hq)
 exact this ps none hv
noncomputable def lZ(L:List (List Rw))(acc:List Rw):List Rw:=L.foldl (wC sumW) acc
theorem FR:∀L acc,MapF acc->Stab E acc->(∀m∈L,Ord m/\Stab E m)->MapF (lZ L acc)/\Stab E (lZ L acc)/\∀p,valL (lZ L acc) p=L.foldl (λt m=>sumW t (valL m p)) (valL acc p)
 |[],acc,h1,h2,_=>⟨h1,h2,λp=>rfl⟩
 |m::L,acc,h1,h2,h=>by
   obtain⟨o,st⟩:=h m (.head _);have mj:=vT sumW h1.ord o;have aj:∀p,valL (wC sumW acc m) p=sumW (valL acc p) (valL m p):=UO sumW h1.ord o;have sj:Stab E (wC sumW acc m):=λp hp=>by rw[aj,aj,h2 p hp,st p hp]
   obtain⟨a,b,c⟩:=FR L (wC sumW acc m) mj sj λx hx=>h x (.tail _ hx);refine⟨a,b,λp=>?_⟩;show valL (lZ L (wC sumW acc m)) p=_;rw[c p,aj p,cB]
noncomputable def lstsD(L:List (List Rw)):List D:=L.map λm=>.lst (m.map rwD)
theorem sN(hW:∀u v,Φ (.clo 1000 3 []) [oi u,oi v]=some (.val (oi (sumW u v))))(hE:E.length<=5000) N:∀L acc x,MapF acc->Stab E acc->(∀m∈L,Ord m/\Stab E m/\m.length<=10000) →
  ∃x',qQ (zN 2) (lI Φ) (lstsD L) [N,.own (acc.map rwD),x]=some (.nx [N,.own ((lZ L acc).map rwD),x'])
 |[],acc,x,_,_,_=>⟨x,rfl⟩
 |m::L,acc,x,h1,h2,h=>by
   obtain⟨o,st,hl⟩:=h m (.head _);have mj:=vT sumW h1.ord o;have aj:∀p,valL (wC sumW acc m) p=sumW (valL acc p) (valL m p):=UO sumW h1.ord o;have sj:Stab E (wC sumW acc m):=λp hp=>by rw[aj,aj,h2 p hp,st p hp]
   have la:=KZ h1 h2;have je:=XV hW h1.ord o (by omega) hl;obtain⟨x',e⟩:=sN hW hE N L (wC sumW acc m) (.v (.lst (m.map rwD))) mj sj λx hx=>h x (.tail _ hx);refine⟨x',?_⟩;have turn:lI Φ [N,.own (acc.map rwD),.v (.lst (m.map rwD))]=some (.nx [N,.own ((wC sumW acc m).map rwD),.v (.lst (m.map rwD))]):=by unfold lI;simp[je]
   simp only[lstsD,aQ,qQ,zN,aR,eO,dP,turn];exact e
def OQ(hW:∀u v,Φ (.clo 1000 3 []) [oi u,oi v]=some (.val (oi (sumW u v))))(hE:E.length<=5000)(h:∀m∈L,Ord m/\Stab E m/\m.length<=10000):mG Φ [.lst (lstsD L)]=some (.fresh ((lZ L []).map rwD)):=by
 obtain⟨x',e⟩:=sN hW hE (.v (.lst (lstsD L))) L [] .no MapF.nil (λp _=>rfl) h;have fl:=jQ (lZ L []);refine xI ?_;unfold oG;rw[zM (ds':=[.v (.lst (lstsD L)),.own [],.no]) (by simp[args]),zM (ds':=[.v (.lst (lstsD L)),.own ((lZ L []).map rwD),x']) (by
  simp[cR]at e
  simp[e])]
 simp[retXG,flatF,fl]
noncomputable def wgh(w:Int):List (List Rw)->List (List Rw)
 |[]=>[]
 |m::r=>weigh w m::wgh (w*2) r
theorem IA:∀{L:List (List Rw)}{w:Int},x∈wgh w L->∃m∈L,∃v,x=weigh v m
 |[],_,h=>nomatch h
 |m::r,w,h=>by
   rcases aB.mp h with e|e
   . exact⟨m,.head _,w,e⟩
   . obtain⟨m',hm,v,e'⟩:=IA e;exact⟨m',.tail _ hm,v,e'⟩
theorem FU N:∀L acc k x,k+L.length<=100->acc.length+L.length<=1000->(∀m∈L,m.length<=10000) →
  ∃x' w',qQ (zN 3) (gV Φ) (lstsD L) [N,.own (lstsD acc),.v (.int (2^k)),x]=some (.nx [N,.own (lstsD (acc++wgh (2^k) L)),.v (.int w'),x'])
 |[],acc,k,x,_,_,_=>⟨x,2^k,by simp[qQ,lstsD,wgh]⟩
 |m::L,acc,k,x,hk,ha,h=>by
   simp only[aH]at hk ha;have e2:(2:Int)^k*2=2^(k+1):=by rw[Int.pow_succ]
   obtain⟨x',w',e⟩:=FU N L (acc++[weigh (2^k) m]) (k+1) (.v (.lst (m.map rwD))) (by omega) (by simp;omega) λq hq=>h q (.tail _ hq);refine⟨x',w',?_⟩;have hml:=h m (.head _);have mo:eS (2^k) 2:=by
    refine dG (qC (m:=200) ?_) (qC (m:=64) (by decide)) (by decide);have h1:((2:Int)^k).natAbs=2^k:=by
     have:((2:Int)^k)=((2^k:Nat):Int):=by rw[Int.natCast_pow];rfl
     rw[this,Int.natAbs_natCast]
    rw[h1];exact Nat.pow_lt_pow_right (by decide) (by omega)
   have comp:∀(x0 x1:Sl),compG (viaA (qB 3) asLT) [none,none,none,some 2] (tupG 3 (zW (zN 0) (zW (zN 1) (zW (zN 2) tgNil)))) (λ_=>some true) (mkT (qI (zC (qB 0) (zC (qB 1) (zC (qB 3) zT))))) [x0,x1,.v (.int (2^k)),.v (.lst (m.map rwD))]=some ((weigh (2^k) m).map rwD):=λx0 x1=>by
    refine yM (items:=m.map rwD) (by simp) (by simp;omega) ?_;rw[yU rwD (λr=>rwD (r.1,r.2.1,some (2^k)))]
    . unfold weigh;rw[cV];rfl
    . intro r hr;exact⟨_,rfl,by simp[jJ,rwD]⟩
   have turn:gV Φ [N,.own (lstsD acc),.v (.int (2^k)),.v (.lst (m.map rwD))]=some (.nx [N,.own (lstsD (acc++[weigh (2^k) m])),.v (.int (2^(k+1))),.v (.lst (m.map rwD))]):=by
    have la:(lstsD acc).length<16777216:=by simp[lstsD];omega
    have ap:lstsD (acc++[weigh (2^k) m])=lstsD acc++[.lst ((weigh (2^k) m).map rwD)]:=by simp[lstsD]
    rw[ap];generalize lstsD acc=A at *;have c:=comp N (.own A);unfold gV;generalize compG (viaA (qB 3) asLT) [none,none,none,some 2] (tupG 3 (zW (zN 0) (zW (zN 1) (zW (zN 2) tgNil)))) (λ_=>some true) (mkT (qI (zC (qB 0) (zC (qB 1) (zC (qB 3) zT)))))=C at *;simp[c,la,qW mo,e2]
   simp only[lstsD,aQ,qQ,zN,aR,eO,dP];simp only[lstsD]at turn e;rw[turn];simp only[aR];rw[e];simp[wgh,e2]
def AX(hm:MapF m)(h:Stab E m) w:Stab E (weigh w m):=λp hp=>by rw[vP w hm.val,vP w hm.val,h p hp]
def sets_eq(hW:∀u v,Φ (.clo 1000 3 []) [oi u,oi v]=some (.val (oi (sumW u v))))(ok:BOk b m)(hm:m<=10000)(hb:b.length<=60)(hE:E.length<=5000)(st:∀q∈b,Stab E q.2) :
  iC Φ 12 [.ins 12 [.dcf (bkN b) (bkV b)]]=some (.fresh ((lZ (wgh 1 (b.map (·.2))) []).map rwD)):=by
 have eV:bkV b=lstsD (b.map (·.2)):=by unfold bkV lstsD;rw[cV];rfl
 obtain⟨x',w',e⟩:=FU (.v (.ins 12 [.dcf (bkN b) (bkV b)])) (b.map (·.2)) [] 0 .no (by simp;lia) (by simp;lia) λq hq=>by
  obtain⟨r,hr,rfl⟩:=bN.mp hq;have:=ok.ln r hr
  lia
 have sk:=OQ hW hE (L:=wgh 1 (b.map (·.2))) λq hq=>by obtain⟨m',hm',v,rfl⟩:=IA hq;obtain⟨r,hr,rfl⟩:=bN.mp hm';have:=ok.ln r hr;exact⟨FI v (ok.mp r hr).ord,AX (ok.mp r hr) (st r hr) v,by simp[weigh];lia⟩
 have fl:=jQ (lZ (wgh 1 (b.map (·.2))) []);refine xI ?_;unfold lA
 rw[zM (ds':=[.v (.ins 12 [.dcf (bkN b) (bkV b)]),.own [],.no,.no]) (by simp[args]),
  zM (ds':=[.v (.ins 12 [.dcf (bkN b) (bkV b)]),.own [],.v (.int 1),.no]) (by simp),
  zM (ds':=[.v (.ins 12 [.dcf (bkN b) (bkV b)]),.own (lstsD (wgh 1 (b.map (·.2)))),.v (.int w'),x']) (by
   rw[xN];have e1:valsA (fldG [(12,0)] (qB 0)) [.v (.ins 12 [.dcf (bkN b) (bkV b)]),.own [],.v (.int 1),.no]=some (lstsD (b.map (·.2))):=by simp[valsA,fldG,fldD,List.lookup,eV]
   rw[e1]
   simpa[lstsD]using e)]
 unfold retOG;simp[sk,flatF,fl]
noncomputable def tot(w:Int):List (Option Int)->Int
 |[]=>0
 |o::r=>(if o.isSome=true then w else 0)+tot (w*2) r
theorem BE:∀l {w:Int},0<w->0<=tot w l
 |[],_,_=>dJ _
 |o::r,w,h=>by have:=BE r (w:=w*2) (by omega);unfold tot;split<;>omega
theorem MV(p:Int):∀(L:List (List Rw)) (w:Int) (t:Option Int),0<w->(∀m∈L,∀r∈m,r.2.2≠none)->(wgh w L).foldl (λt m=>sumW t (valL m p)) t=match t with
  |none=>if tot w (L.map (valL · p))=0 then none else some (tot w (L.map (valL · p)))
  |some a=>some (a+tot w (L.map (valL · p)))
 |[],w,t,_,_=>by cases t<;>simp[wgh,tot]
 |m::L,w,t,hw,h=>by
   have nn:=BE (L.map (valL · p)) (w:=w*2) (by omega);simp only[wgh,cB,aQ,tot];rw[MV p L (w*2) _ (by omega) λq hq=>h q (.tail _ hq),vP w (h m (.head _))];generalize tot (w*2) (L.map (valL · p))=z at *;cases valL m p with
   |none=>cases t<;>simp[sumW]
   |some v=>
     cases t with
     |none=>
       have:¬(w+z=0):=by omega
       simp[sumW,this]
     |some a=>simp[sumW];omega
theorem ID{α:Type}(g:α->Int):∀(K N:List α),K.Nodup->N.Nodup->(∀y∈K,y∈N)->(∀y∈N,y∉K->g y=0)->(K.map g).sum=(N.map g).sum
 |[],N,_,_,_,h=>by
   have:∀N:List α,(∀y∈N,g y=0)->(N.map g).sum=0:=by
    intro N;induction N with
    |nil=>intro _;rfl
    |cons a r ih=>intro h;rw[aQ,nU,h a (.head _),ih λy hy=>h y (.tail _ hy)];rfl
   rw[this N λy hy=>h y hy (λz=>nomatch z)];rfl
 |a::K,N,nk,nn,hs,h=>by
   obtain⟨N1,N2,rfl⟩:=VS (hs a (.head _));rw[bM]at nk;have nn':=cJ.mp nn;have n2:=bM.mp nn'.2.1;have nd:(N1++N2).Nodup:=cJ.mpr ⟨nn'.1,n2.2,λx hx y hy=>nn'.2.2 x hx y (.tail _ hy)⟩;have ih:=ID g K (N1++N2) nk.2 nd (λy hy=>by
    have:=hs y (.tail _ hy);rw[bE,aB]at this;rcases this with z|z|z
    . exact bA _ z
    . subst z;exact absurd hy nk.1
    . exact aI _ z) λy hy hk=>by
    have hy':y∈N1++a::N2:=by
     rcases bE.mp hy with z|z
     . exact bA _ z
     . exact aI _ (.tail _ z)
    refine h y hy' λz=>?_;rcases aB.mp z with e|e
    . subst e;rcases bE.mp hy with q|q
      . exact nn'.2.2 y q y (.head _) rfl
      . exact n2.1 q
    . exact hk e
   rw[aQ,nU,ih];simp only[cU,aQ,List.sum_append,nU];omega
theorem BG{α:Type} P(β:α->Int):∀K:List α,((K.filter P).map β).sum=(K.map λy=>if P y=true then β y else 0).sum
 |[]=>rfl
 |a::K=>by have ih:=BG P β K;rw[aAg];by_cases h:P a=true<;>simp[h,ih]
abbrev Bts:=List (Str×Int)
noncomputable def btK(l:Bts):List Key:=l.map λq=>.inr q.1
noncomputable def btV(l:Bts):List D:=l.map λq=>.int q.2
noncomputable def btF(l:Bts)(y:Str):Int:=((l.find? λq=>decide (q.1=y)).map (·.2)).getD 0
def btF_mem(nd:(l.map (·.1)).Nodup)(h:q∈l):btF l q.1=q.2:=by
 unfold btF;induction l with
 |nil=>cases h
 |cons r l ih=>
   rw[aQ,bM]at nd;rcases aB.mp h with e|e
   . subst e;simp
   . have ne:r.1≠q.1:=λz=>nd.1 (z▸bN.mpr ⟨q,e,rfl⟩);rw[cK];simp[ne,decide_false];exact ih nd.2 e
def bt_get(h:y∈l.map (·.1)):getKD (.inr y) (btK l) (btV l)=some (.int (btF l y)):=by
 induction l with
 |nil=>cases h
 |cons r l ih=>
   simp only[btK,btV,aQ,getKD];unfold btF;rw[cK];by_cases e:r.1=y
   . subst e;simp
   . have:¬ (Sum.inr r.1:Key)=.inr y:=λz=>e (by cases z;rfl);rw [if_neg this];simp [e,decide_false];rcases aB.mp h with z|z
     . exact absurd z.symm e
     . exact ih z
def RJ l y:hasK (.inr y) (btK l)=decide (y∈l.map (·.1)):=by
 by_cases h:y∈l.map (·.1)
 . rw[decide_eq_true h];obtain⟨q,hq,e⟩:=bN.mp h;exact CQ (bN.mpr ⟨q,hq,by rw[e]⟩)
 . rw[decide_eq_false h];refine JD λz=>h ?_;obtain⟨q,hq,e⟩:=bN.mp z;cases e;exact bN.mpr ⟨q,hq,rfl⟩
noncomputable def lieV(K:List Str)(V:Str->Option Int):List D:=K.map λy=>oi (V y)
def lie_put K V n v(nd:K.Nodup):putKD (.inr n) (oi v) (K.map Sum.inr) (lieV K V)=((if n∈K then K else K++[n]).map Sum.inr,lieV (if n∈K then K else K++[n]) λy=>if y=n then v else V y):=by
 have cg:∀K:List Str,n∉K->lieV K (λy=>if y=n then v else V y)=lieV K V:=λK h=>gB λy hy=>by have hz:¬y=n:=λz=>h (by rw[<-z];exact hy);simp only[if_neg hz]
 unfold putKD;by_cases h:n∈K
 . have hk:hasK (.inr n) (K.map Sum.inr)=true:=CQ (bN.mpr ⟨n,h,rfl⟩);rw [if_pos hk,if_pos h];congr 1;clear hk;induction K with
   |nil=>cases h
   |cons a K ih=>
     rw[bM]at nd;simp only[lieV,aQ,putDs];by_cases e:a=n
     . subst e;have:=cg K nd.1;simp only [lieV]at this;rw [this];simp only [if_true];congr 1;have key:∀K:List Str,a∉K->putDs (.inr a) (oi v) (K.map Sum.inr) (K.map λy=>oi (V y))=K.map λy=>oi (V y):=by
        intro K;induction K with
        |nil=>intro _;rfl
        |cons b K ih2=>intro hb;simp only[aB,not_or]at hb;simp only[aQ,putDs];rw[if_neg (λz=>hb.1 (by cases z;rfl)),ih2 hb.2]
       exact key K nd.1
     . have e':¬ (Sum.inr a:Key)=.inr n:=λz=>e (by cases z;rfl);rw [if_neg e',if_neg e];congr 1;refine ih nd.2 ?_;rcases aB.mp h with z|z
       . exact absurd z.symm e
       . exact z
 . have hk:¬ hasK (.inr n) (K.map Sum.inr)=true:=by rw [aEb h];simp
   rw[if_neg hk,if_neg h];have:=cg K h;simp only[lieV]at this ⊢;simp[this]
def lie_get{V:Str->Option Int}{K:List Str}(h:y∈K):getKD (.inr y) (K.map Sum.inr) (lieV K V)=some (oi (V y)):=by
 induction K with
 |nil=>cases h
 |cons a K ih=>
   simp[lieV,aQ,getKD];by_cases e:a=y
   . subst e;simp
   . rw [if_neg (λz=>e (by cases z;rfl))];rcases aB.mp h with z|z
     . exact absurd z.symm e
     . exact ih z
def PU(ps:List Rw)(es:List Int)(hl:ps.length<=500)(he:es.length<=500):∃Z:List Int,Z.Pairwise (· < ·)/\Z.length<=5000/\mK [.lst (ps.map rwD),.lst (es.map D.int)]=some (.fresh (Z.map D.int)):=by
 have lp:∀(R S:Sl) (os:List (Option Int)) (acc:List Int) (x:Sl),acc.length+2*os.length<=100000->∃x' acc',acc'.length<=acc.length+2*os.length/\qQ (zN 3) gT (os.map oi) [R,S,.own (acc.map D.int),x]=some (.nx [R,S,.own (List.map D.int acc'),x']):=by
  intro R S os;induction os with
  |nil=>exact λacc x _=>⟨x,acc,by simp,rfl⟩
  |cons o r ih=>
    intro acc x hz;simp[aH]at hz;cases o with
    |none=>
      obtain⟨x',qs,hq,h⟩:=ih acc (.v .non) (by lia);have turn:gT [R,S,.own (acc.map D.int),.v .non]=some (.nx [R,S,.own (acc.map D.int),.v .non]):=by simp[gT]
      exact⟨x',qs,by simp[aH];lia,by simp[qQ,turn,h]⟩
    |some v=>
      obtain⟨x',qs,hq,h⟩:=ih (acc++[v-1,v]) (.v (.int v)) (by simp;lia);refine⟨x',qs,by simp at hq;simp[aH];lia,?_⟩;simp[cU,aQ,cR]at h;have h1:acc.length<16777216:=by lia
      have h2:acc.length+1<16777216:=by lia
      have turn:gT [R,S,.own (acc.map D.int),.v (.int v)]=some (.nx [R,S,.own (acc.map D.int++[.int (v-1),.int v]),.v (.int v)]):=by simp[gT,h1,h2]
      simp[qQ,turn,h]
 have k:∀(j:Int) (g:Rw->Option Int) (S:Sl),(∀r:Rw,ixD (rwD r) (.int j)=some (oi (g r)))->(compG (viaA (qB 0) asLT) [none] (zN 0) (λ_=>some true) (zF ixD (zG 0) (zA (.int j)))) [.v (.lst (ps.map rwD)),S,.own [.int 0],.no]=some ((ps.map g).map oi):=by
  intro j g S hg;refine yM (items:=ps.map rwD) (by simp) (by simp;lia) ?_;rw[yU rwD (λr=>oi (g r)),cV]
  . rfl
  . intro r hr;exact⟨_,rfl,by simp[jJ,hg]⟩
 have k0:=k 0 (λr=>r.1) (.v (.lst (es.map D.int))) (λr=>by simp[rwD]);have k1:=k 1 (λr=>r.2.1) (.v (.lst (es.map D.int))) (λr=>by simp[rwD]);obtain⟨x',Z0,hz,e⟩:=lp (.v (.lst (ps.map rwD))) (.v (.lst (es.map D.int))) (es.map some++ps.map (λr=>r.1)++ps.map (λr=>r.2.1)) [0] .no (by simp;lia);simp[bX,cD,aH,mN]at hz;have fl:=DA (srtU Z0);have hi:=vU Z0;have hu:=LA Z0;have ee:(es.map some++ps.map (λr=>r.1)++ps.map (λr=>r.2.1)).map oi=es.map D.int++(ps.map (λr=>r.1)).map oi++(ps.map (λr=>r.2.1)).map oi:=by simp
 rw[ee]at e;refine⟨srtU Z0,srtU_lt _,by lia,xI ?_⟩;unfold oM;generalize hP:ps.map rwD=P at *;generalize hE:es.map D.int=E at *;have le:E.length=es.length:=by rw[<-hE];simp
 generalize ha:(ps.map (λr=>r.1)).map oi=A at *;have la:A.length=ps.length:=by rw[<-ha];simp
 generalize hbb:(ps.map (λr=>r.2.1)).map oi=B at *;have lb:B.length=ps.length:=by rw[<-hbb];simp
 have z1:E.length+A.length<=16777216:=by lia
 have z2:E.length+A.length+B.length<=16777216:=by lia
 rw[zM (ds':=[.v (.lst P),.v (.lst E),.own [.int 0],.no]) (by simp[args]),zM (ds':=[.v (.lst P),.v (.lst E),.own (Z0.map D.int),x']) (by
  simp[aQ,cR,bK]at e
  simp[k0,k1,z1,z2,e])]
 have hz4:Z0.length+1<4096:=by lia
 simp[srtSA,hi,hz4,fl]
end FL
section
open FL
noncomputable def gG:Fun2:=phiOf [((1000,3),fnF 2 iV)]
noncomputable def hJ:FS:=(qL (jK 11 (zF ixD (mkL (qI (zC (qB 8) (zC (zF qT (zG 8) (zA (.int 26))) (zC (zA (.int 0)) zT))))) (callB mnD (zC (zF jA (zF xK (zG 10) (zF qT (zG 1) (zA (.int 16)))) (zG 3)) (zC (zA (.int 2)) zT)))))
 (appG 9 (zF ixD (zG 2) (zF jA (zF xK (zF xK (zF qT (zG 1) (zF xK (zG 10) (zA (.int 3)))) (zF xJ (zF xJ (zG 10) (zG 10)) (zA (.int 7)))) (zG 11)) (zA (.int 26))))))
noncomputable def hG:FS:=(qL (jK 8 (zF qT (zG 7) (zF xK (zA (.int 1)) (zG 4))))
 (qL (setOG 9 (qI zT))
 (qL (forG (rng1 (qB 3)) (zN 10) hJ)
 (qL (jK 12 (zF joinD (zA (.str "")) (zG 9)))
 (qL (ifG (andT (zK (zF eqD (zG 4) (zA (.int 1)))) (zK (zF eqD (zF jA (zG 7) (zA (.int 2))) (zA (.int 1))))) (jK 12 (zF xK (zG 12) (zF ixD (zG 2) (zF jA (zF qT (zG 1) (zA (.int 11))) (zA (.int 26)))))) qJ)
 (appG 6 (qB 12)))))))
noncomputable def nM:FS:=(qL (jK 2 (zA (.str "abcdefghijklmnopqrstuvwxyz")))
 (qL (jK 3 (zF xK (zA (.int 1)) (zF jA (zG 1) (zA (.int 8)))))
 (qL (jK 4 (callB int1D (zC (andV (zF ltD (zG 3) (zA (.int 8))) (zF eqD (zF jA (zF qT (zG 1) (zA (.int 8))) (zA (.int 2))) (zA (.int 1)))) zT)))
 (qL (jK 5 (zF xK (zA (.int 1)) (zF ixD (mkL (qI (zC (zF jA (zF qT (zG 0) (zA (.int 4))) (zA (.int 5))) (zC (zF jA (zF qT (zG 0) (zA (.int 4))) (zA (.int 60))) zT)))) (zF qT (zF jA (zG 0) (zA (.int 4))) (zA (.int 3))))))
 (qL (ifG (zK (zF eqD (zG 3) (zA (.int 1)))) (jK 5 (callB mnD (zC (zG 5) (zC (zA (.int 26)) zT)))) qJ)
 (qL (setOG 6 (qI zT))
 (qL (forG (rng1 (qB 5)) (zN 7) hG)
 (retXG 6))))))))
noncomputable def lH:List D->Option Ret:=runG nM 13
noncomputable def sK:FX:=(seqR (jK 3 (zF jA (zF xK (zF xK (zF xJ (zG 0) (zA (.int 16807))) (zF xJ (zF xJ (zG 1) (zG 1)) (zA (.int 69621)))) (zA (.int 104729))) (zA (.int 2147483647))))
 (seqR (jK 3 (zF jA (zF xJ (zG 3) (zG 3)) (zA (.int 2147483563))))
 (seqR (jK 4 (zF jA (zF xK (zF xK (zF xJ (zG 0) (zA (.int 48271))) (zF xJ (zF xJ (zG 1) (zG 1)) (zA (.int 39373)))) (zA (.int 15487))) (zA (.int 2147483629))))
 (seqR (jK 4 (zF jA (zF xJ (zG 4) (zG 3)) (zA (.int 2147483549))))
 (seqR (jK 5 (zF subD (zF jA (zF qT (zG 3) (zA (.int 4))) (zA (.int 61))) (zA (.int 30))))
 (seqR (ifG (andT (zK (zF eqD (zF jA (zG 3) (zA (.int 4))) (zA (.int 0)))) (zK (zF neD (getN 2) (mkL (qI zT))))) (jK 5 (zF subD (zF xK (relVO 2 (zF ixD (zG 2) (zF jA (zF qT (zG 3) (zA (.int 4))) (callB lenD (zC (zG 2) zT))))) (zF jA (zF qT (zG 3) (zA (.int 1000003))) (zA (.int 3)))) (zA (.int 1)))) qJ)
 (seqR (ifG (zK (zF eqD (zF jA (zG 3) (zA (.int 4))) (zA (.int 1)))) (jK 5 (zF ixD (mkL (qI (zC (zF subD (zF jA (zG 0) (zF xK (zF xJ (zA (.int 2)) (zF powD (zA (.int 10)) (zA (.int 60)))) (zA (.int 1)))) (zF powD (zA (.int 10)) (zA (.int 60)))) (zC (qZ 1 lC (zC (zG 0) zT)) zT)))) (zF jA (zF qT (zG 3) (zA (.int 4))) (zA (.int 2))))) qJ)
 (seqR (jK 6 (zF xK (zF xK (zG 5) (zA (.int 1))) (zF ixD (mkL (qI (zC (zF jA (zF qT (zG 4) (zA (.int 4))) (zA (.int 3))) (zC (zF jA (zF qT (zG 4) (zA (.int 4))) (zA (.int 40))) (zC (zF jA (zF xJ (zG 0) (zA (.int 69621))) (zF powD (zA (.int 10)) (zA (.int 60)))) (zC (zA (.int 0)) zT)))))) (zF jA (zG 4) (zA (.int 4))))))
 (seqR (ifG (andT (zK (zF eqD (zF jA (zG 4) (zA (.int 4))) (zA (.int 3)))) (zK (zF neD (getN 2) (mkL (qI zT))))) (jK 6 (callB mxD (zC (zG 6) (zC (relVO 2 (zF ixD (zG 2) (zF jA (zF qT (zG 4) (zA (.int 4))) (callB lenD (zC (zG 2) zT))))) zT)))) qJ)
 (seqR (appP (varP 2) (qB 5))
 (seqR (appP (varP 2) (qB 6))
 (seqR (ifG (zK (zF ltD (zF jA (zF qT (zG 4) (zA (.int 2003))) (zA (.int 12))) (zA (.int 2)))) (jK 5 (zA .non)) qJ)
 (seqR (ifG (zK (zF (inD false) (zF jA (zF qT (zG 4) (zA (.int 2003))) (zA (.int 12))) (mkT (qI (zC (zA (.int 1)) (zC (zA (.int 2)) zT)))))) (jK 6 (zA .non)) qJ)
 (vR (mkT (qI (zC (qB 5) (zC (qB 6) zT))))))))))))))))))
noncomputable def mF:OT->List D->Option (D×OT):=lentR sK 7 2
noncomputable def gH:FS:=(ifG (andT (orT (zK (zF isD (zF ixD (zG 5) (zA (.int 0))) (zA .non))) (zK (zF leD (zF ixD (zG 5) (zA (.int 0))) (zG 1)))) (orT (zK (zF isD (zF ixD (zG 5) (zA (.int 1))) (zA .non))) (zK (zF ltD (zG 1) (zF ixD (zG 5) (zA (.int 1))))))) (dputG (varP 3) (qB 4) (qB 6)) qJ)
noncomputable def pC:FS:=(qL (setB 3 dO0)
 (qL (forG (viaA (qB 0) asLT) (tupG 3 (zW (zN 4) (zW (zN 5) (zW (zN 6) tgNil)))) gH)
 (qL (frzDG 3 (jK 7 (callB sumD (zC (mkL (compG (keysA (qB 3))  [none,some 2,some 3] (zN 0) (andT (zK (zF eqD (dgetG (qB 2) (qB 0)) (zA (.int 1)))) (dinG (zG 0) (zG 1))) (dgetG (qB 1) (qB 0)))) zT))))
 (retG (zF ixD (mkL (qI (zC (qB 7) (zC (zA .non) zT)))) (callB int1D (zC (zF eqD (zG 7) (zA (.int 0))) zT)))))))
noncomputable def iU:List D->Option Ret:=runG pC 8
noncomputable def nL:FS:=(qL (ifG (notT (testT (qZ 1 lM (zC (zG 0) zT)))) (retG (zA (.bl false))) qJ)
 (qL (jK 4 (qZ 2 mK (zC (zG 0) (zC (zG 2) zT))))
 (retG (zF eqD (qZ 2 nG (zC (zG 0) (zC (zG 4) zT))) (mkL (compG (viaA (qB 4) asLT) [none,some 1,some 3] (zN 0) (λ_=>some true) (qZ 3 iU (zC (zG 1) (zC (zG 0) (zC (zG 2) zT))))))))))
noncomputable def iK:List D->Option Ret:=runG nL 5
noncomputable def iL:FS:=(dputG (varP 2) (zF ixD (zG 3) (zG 4)) (zF shlD (zA (.int 1)) (zG 4)))
noncomputable def oF:FS:=(qL (setB 2 dO0)
 (qL (ifG (zK (zF eqD (zF jA (zG 1) (zA (.int 2))) (zA (.int 0)))) (qL (dputG (varP 2) (zF ixD (zG 0) (zF jA (zF qT (zG 1) (zA (.int 2))) (callB lenD (zC (zG 0) zT)))) (zA (.int 1)))
 (retBv 2)) qJ)
 (qL (jK 3 (mkL (srtTA (zG 0))))
 (qL (forG (rng1 (callB lenD (zC (zG 3) zT))) (zN 4) iL)
 (retBv 2)))))
noncomputable def gI:List D->Option Ret:=runG oF 5
noncomputable def oC:FS:=(qL (ifG (zK (zF eqD (zF jA (zG 2) (zA (.int 2))) (zA (.int 0)))) (retOG (methF 1 [12] cN (qB 0) (zC (zF ixD (zG 1) (zF jA (zF qT (zG 2) (zA (.int 2))) (callB lenD (zC (zG 1) zT)))) zT))) qJ)
 (retOG (methF 0 [12] (iC gG) (qB 0) zT)))
noncomputable def iA:List D->Option Ret:=runG oC 3
noncomputable def oB:FS:=(qL (setR 7 (callR 3 4 mF (zC (qB 6) (zC (relVO 3 (callB lenD (zC (zG 3) zT))) (hereA zT)))))
 (qL (jK 8 (zF jA (zF xK (zF xK (zF xJ (zG 6) (zA (.int 50021))) (zF xJ (relVO 3 (callB lenD (zC (zG 3) zT))) (zA (.int 104729)))) (zA (.int 3571))) (zA (.int 2147483587))))
 (qL (jK 8 (zF jA (zF xJ (zG 8) (zG 8)) (zA (.int 2147483563))))
 (qL (jK 9 (zF ixD (zG 1) (zF jA (zF qT (zG 8) (zA (.int 3))) (callB lenD (zC (zG 1) zT)))))
 (qL (ifG (zK (zF gtD (zF jA (zG 8) (zA (.int 3))) (zA (.int 0)))) (qL (appP (varP 3) (mkT (qI (zC (qB 9) (zC (qB 7) (zC (zA (.int 1)) zT))))))
 (lentG 2 [12] (λ_=>eY) (varP 2) (zC (qB 9) (zC (qB 7) zT)))) (qL (appP (varP 3) (mkT (qI (zC (qB 9) (zC (qB 7) (zC (zA .non) zT))))))
 (lentG 2 [12] (λ_=>eL) (varP 2) (zC (qB 9) (zC (qB 7) zT)))))
 (qL (jK 10 (ofO (relGV 2 (lO (xL 3 iA (zC (zG 2) (zC (zG 1) (zC (zF qT (zG 8) (zA (.int 1009))) zT))))))))
 (qL (setB 11 (callO 2 gI (zC (zG 1) (zC (zF qT (zG 8) (zA (.int 1009))) zT))))
 (qL (jK 12 (mkL (relFO 3 (relFO 11 (compG (viaA (qB 3) asLT) [none,some 11] (zN 0) (dinG (zF ixD (zG 0) (zA (.int 0))) (zG 1)) (mkT (qI (zC (zF ixD (zG 0) (zA (.int 1))) (zC (zF ixD (zG 0) (zA (.int 2))) zT)))))))))
 (qL (ifG (andT (zK (zF eqD (zF jA (zF qT (zG 8) (zA (.int 1009))) (zA (.int 2))) (zA (.int 0)))) (zK (zF neD (zG 10) (qZ 1 iW (zC (zG 12) zT))))) (retG (zA (.bl false))) qJ)
 (appG 5 (mkL (qI (zC (qB 10) (zC (mkL (lisA (zG 10))) zT))))))))))))))
noncomputable def rY:FS:=(qL (jK 10 (ofO (relGV 2 (lO (xL 3 iA (zC (zG 2) (zC (zG 1) (zC (zG 6) zT))))))))
 (ifG (notT (relTO 4 (relTO 3 (testT (qZ 4 iK (zC (zG 10) (zC (zG 3) (zC (zG 4) (zC (seeO (callO 2 gI (zC (zG 1) (zC (zG 6) zT)))) zT))))))))) (retG (zA (.bl false))) qJ))
noncomputable def sZ:FS:=(qL (jK 1 (qZ 2 lH (zC (qZ 2 eB (zC (zG 0) (zC (zA (.int 0)) zT))) (zC (qZ 2 eB (zC (zG 0) (zC (zA (.int 1)) zT))) zT))))
 (qL (setB 2 (makeO 24 1 0 dO (zC (mkL (lisA (zG 1))) zT)))
 (qL (setB 3 (sO nilO))
 (qL (setB 4 (sO (consO (vO (zF subD (zF jA (qZ 2 eB (zC (zG 0) (zC (zA (.int 2)) zT))) (zA (.int 61))) (zA (.int 30)))) nilO)))
 (qL (setOG 5 (qI zT))
 (qL (forG (viaA (mkL (sliA (zG 0) (soP (zA (.int 3))) (soP (zA (.int 27))))) asLT) (zN 6) oB)
 (qL (forG (viaA (mkL (qI (zC (zA (.int 1)) (zC (zF xJ (zA (.int 2)) (zF jA (qZ 2 eB (zC (zG 0) (zC (zA (.int 2)) zT))) (zA (.int 61)))) zT)))) asLT) (zN 6) rY)
 (λds=>(retG (callB allD (zC (mkL (compG (viaA (qB 5) asLT) [none] (zN 0) (λ_=>some true) (zF eqD (zF ixD (zG 0) (zA (.int 0))) (zF ixD (zG 0) (zA (.int 1)))))) zT))) (relS 5 ds)))))))))
noncomputable def tD:List D->Option Ret:=runG sZ 13
end
namespace K74
open FL
noncomputable def top(i:Nat):Stmt:=PySem.Challenge.pw_spanmap_k74_only_and_sets.main.body.getD i (.Pass ⟨0,0,0,0⟩)
structure Glb(K:Frag)(mg:Str->Option aN):Prop where
 b_all:mg "all" = none
 b_bool:mg "bool" = none
 b_int:mg "int" = none
 b_isinstance:mg "isinstance" = none
 b_len:mg "len" = none
 b_list:mg "list" = none
 b_max:mg "max" = none
 b_min:mg "min" = none
 b_range:mg "range" = none
 b_set:mg "set" = none
 b_sorted:mg "sorted" = none
 b_str:mg "str" = none
 b_sum:mg "sum" = none
 b_tuple:mg "tuple" = none
 c_LETTERS:∃t,mg "LETTERS" = some (.str "abcdefghijklmnopqrstuvwxyz" t)
 c_MOST_LETTERS:∃t,mg "MOST_LETTERS" = some (.int 8 t)
 c_MOST_NAMES:∃t,mg "MOST_NAMES" = some (.int 60 t)
 fl_lying:FldOk K "lying" [(12,0)]
 nw_lying:∀C,aX K aV (eP 24)=some (some (.ref C))->Cls K C/\NoAttr K C "lying"
 fv_3:FnV K mg 3
def pwI{i:Int}{k:Nat}{p:Pos}: PVw X (.Constant (.int i) k p) (zA (.int i)):=PV.w jY
def pnI{i:Int}{k:Nat}{p:Pos}: PVn X (.Constant (.int i) k p) (zA (.int i)):=PV.n jY
def pnV(i:Nat){x:Str}{pos:Pos}(hN:X.N[i]?=some x:=by rfl)(hv:Vis X.env.scope x:=by first|exact Or.inl rfl|exact Or.inr (Or.inl rfl)|exact Or.inr (Or.inr rfl))(hd:(x==("__debug__" : Str))=false:=by decide)(hcd:(x==("__classdict__" : Str))=false:=by decide):PVn X (.Name x pos) (zG i):=(zD i hN hv hd hcd).n
section
variable{P:cF}{w:dE}{K:Frag}{mg:Str->Option aN}{base:Heap}
def sQ:FnScope ["one","other"] ["one","other"] (zJ (top 7)):={}
def EQ{f:aG}{fd:bR}(Fn:Fun K "later_low" "later_low" (top 7) f fd)(T:Glb K mg): FnOk P w K mg base CX0 1 f fd ["one","other"] (spF K 2 hU):=by
 have nd:=sQ.nd;refine qU (k:=0) (g:=mV) Fn sQ (λcdv A outer s H E hr=>?_) (λds r hl e=>zY e)
 exact(zB (qF (kK (pnV 0) (PV.n qO)) (zE (qH (zD 1))) zP)
  (zB (qF (kK (pnV 1) (PV.n qO)) (zE (qH (zD 0))) zP)
  (zE (qH (PV.w (IP rfl T.b_max (zS (zD 0) (zS (zD 1) qG))))))))
def nI:FnScope ["one","other"] ["one","other"] (zJ (top 8)):={}
def sF{f:aG}{fd:bR}(Fn:Fun K "earlier_behind" "earlier_behind" (top 8) f fd)(T:Glb K mg): FnOk P w K mg base CX0 1 f fd ["one","other"] (spF K 2 dF):=by
 have nd:=nI.nd;refine qU (k:=0) (g:=iF) Fn nI (λcdv A outer s H E hr=>?_) (λds r hl e=>zY e)
 exact(zB (qF (kK (pnV 0) (PV.n qO)) (zE (qH (zD 1))) zP)
  (zB (qF (kK (pnV 1) (PV.n qO)) (zE (qH (zD 0))) zP)
  (zE (qH (PV.w (IN rfl T.b_min (zS (zD 0) (zS (zD 1) qG))))))))
def rN:FnScope ["behind","low"] ["behind","low"] (zJ (top 6)):={}
def CT{f:aG}{fd:bR}(Fn:Fun K "ends_ahead" "ends_ahead" (top 6) f fd)(T:Glb K mg): FnOk P w K mg base CX0 1 f fd ["behind","low"] (spF K 2 gM):=by have nd:=rN.nd;refine qU (k:=0) (g:=lU) Fn rN (λcdv A outer s H E hr=>?_) (λds r hl e=>zY e);exact(zE (qH (PV.w (IS (LI (pnV 0) (PV.n qO)) (IS (LI (pnV 1) (PV.n qO)) (PJ (pv_le (zD 0) (zD 1))))))))
def SE:FnScope ["one","other","low","behind"] ["one","other"] (zJ (top 5)):={}
def aEl{f:aG}{fd:bR}(Fn:Fun K "meet" "meet" (top 5) f fd)(T:Glb K mg)(C_later_low:Cal P w K mg base "later_low" 1 2 hU)(C_earlier_behind:Cal P w K mg base "earlier_behind" 1 2 dF)(C_ends_ahead:Cal P w K mg base "ends_ahead" 1 2 gM):FnOk P w K mg base CX0 2 f fd ["one","other"] (spF K 2 mP):=by
 have nd:=SE.nd;refine qU (k:=1) (g:=tE) Fn SE (λcdv A outer s H E hr=>?_) (λds r hl e=>zY e)
 exact(zB (zR (i:=2) nd (qA C_later_low hr (zH (PV.n (qE (zD 0) pwI)) (zH (PV.n (qE (zD 1) pwI)) zV))))
  (zB (zR (i:=3) nd (qA C_earlier_behind hr (zH (PV.n (qE (zD 0) pwI)) (zH (PV.n (qE (zD 1) pwI)) zV))))
  (zB (qF (PVn.t (PV.n (qA C_ends_ahead hr (zH (pnV 3) (zH (pnV 2) zV))))) (zE (qH (PV.w qO))) zP)
  (zE (qH (PV.w (jX (zI (zL 2) (zI (zL 3) zU)))))))))
def SF:FnScope ["rows","pieces","low","behind","value"] ["rows"] (zJ (top 10)):={}
def aEm{f:aG}{fd:bR}(Fn:Fun K "knit" "knit" (top 10) f fd)(T:Glb K mg): FnOk P w K mg base CX0 1 f fd ["rows"] (spF K 1 gS):=by
 have nd:=SF.nd;refine qU (k:=0) (g:=tF) Fn SF (λcdv A outer s H E hr=>?_) (λds r hl e=>zY e)
 exact(zB (jE (i:=1) nd (qV zU))
  (zB (jV FD.never rfl (jD (zL 0)) (xQ (n:=3) rfl (zZ (zO (i:=2) nd) (zZ (zO (i:=3) nd) (zZ (zO (i:=4) nd) yW)))) (zB (qF (kK (pnV 4) (PV.n qO)) (zE IT) zP)
  (zE (qF (PWv.t (jT (PVn.t (pnV 1)) (jT (wB hr (PV.n (qE (PV.w (qE (zD 1) (PV.w (IM jY)))) pwI)) (pnV 2)) (jR (wB hr (PV.n (qE (PV.w (qE (zD 1) (PV.w (IM jY)))) pwI)) (pnV 4)))))) (zE (psv_put (i:=1) (jX (zI (qE (PV.w (qE (zD 1) (PV.w (IM jY)))) pwI) (zI (zL 3) (zI (zL 4) zU)))) (IM jY))) (zE (jW (i:=1) (jX (zI (zL 2) (zI (zL 3) (zI (zL 4) zU))))))))))
  (zE (yN 1))))
def uA:FnScope ["pieces","within","parts","low","behind","value","common"] ["pieces","within"] (zJ (top 12)):={}
def JG{f:aG}{fd:bR}(Fn:Fun K "parts_in" "parts_in" (top 12) f fd)(T:Glb K mg)(C_meet:Cal P w K mg base "meet" 2 2 mP):FnOk P w K mg base CX0 3 f fd ["pieces","within"] (spF K 2 fE):=by
 have nd:=uA.nd;refine qU (k:=2) (g:=nN) Fn uA (λcdv A outer s H E hr=>?_) (λds r hl e=>zY e)
 exact(zB (jE (i:=2) nd (qV zU))
  (zB (jV FD.never rfl (jD (zL 0)) (xQ (n:=3) rfl (zZ (zO (i:=3) nd) (zZ (zO (i:=4) nd) (zZ (zO (i:=5) nd) yW)))) (zB (zR (i:=6) nd (qA C_meet hr (zH (PV.n (jX (zI (zL 3) (zI (zL 4) zU)))) (zH (pnV 1) zV))))
  (zE (qF (yG (pnV 6) (PV.n qO)) (zE (jW (i:=2) (jX (zI (qE (zD 6) pwI) (zI (qE (zD 6) pwI) (zI (zL 5) zU)))))) zP))))
  (zE (yN 2))))
def sP:FnScope ["pieces","over","value","rows"] ["pieces","over","value"] (zJ (top 13)):={}
def EO{f:aG}{fd:bR}(Fn:Fun K "rows_over" "rows_over" (top 13) f fd)(T:Glb K mg)(C_parts_in:Cal P w K mg base "parts_in" 3 2 fE):FnOk P w K mg base CX0 4 f fd ["pieces","over","value"] (spF K 3 eQ):=by
 have nd:=sP.nd;refine qU (k:=3) (g:=mU) Fn sP (λcdv A outer s H E hr=>?_) (λds r hl e=>zY e)
 exact(zB (jE (i:=3) nd (qV zU))
  (zB (qF (yG (PV.n (qE (zD 1) pwI)) (PV.n qO)) (zE (TJ (i:=3) (jL C_parts_in hr (zH (pnV 0) (zH (PV.n (jX (zI qO (zI (qE (zD 1) pwI) zU)))) zV))))) zP)
  (zB (jW (i:=3) (jX (zI (qE (zD 1) pwI) (zI (qE (zD 1) pwI) (zI (zL 2) zU)))))
  (zB (qF (yG (PV.n (qE (zD 1) pwI)) (PV.n qO)) (zE (TJ (i:=3) (jL C_parts_in hr (zH (pnV 0) (zH (PV.n (jX (zI (qE (zD 1) pwI) (zI qO zU)))) zV))))) zP)
  (zE (yN 3))))))
def FZ:FnScope ["rows","pieces","over","value"] ["rows"] (zJ (top 11)):={}
def QZ{f:aG}{fd:bR}(Fn:Fun K "formed" "formed" (top 11) f fd)(T:Glb K mg)(C_knit:Cal P w K mg base "knit" 1 1 gS)(C_rows_over:Cal P w K mg base "rows_over" 4 3 eQ):FnOk P w K mg base CX0 5 f fd ["rows"] (spF K 1 iW):=by
 have nd:=FZ.nd;refine qU (k:=4) (g:=pG) Fn FZ (λcdv A outer s H E hr=>?_) (λds r hl e=>zY e)
 exact(zB (jE (i:=1) nd (qV zU))
  (zB (jV FD.never rfl (jD (zL 0)) (xQ (n:=2) rfl (zZ (zO (i:=2) nd) (zZ (zO (i:=3) nd) yW))) (zE (jE (i:=1) nd (jL C_knit hr (zH (PV.n (qA C_rows_over hr (zH (pnV 1) (zH (pnV 2) (zH (pnV 3) zV))))) zV)))))
  (zE (yN 1))))
def BM:FnScope ["pieces","runs","here","low","behind","value"] ["pieces"] (zJ (top 14)):={}
def MX{f:aG}{fd:bR}(Fn:Fun K "runs_of" "runs_of" (top 14) f fd)(T:Glb K mg): FnOk P w K mg base CX0 1 f fd ["pieces"] (spF K 1 iB):=by
 have nd:=BM.nd;refine qU (k:=0) (g:=oH) Fn BM (λcdv A outer s H E hr=>?_) (λds r hl e=>zY e)
 exact(zB (jE (i:=1) nd (qV zU))
  (zB (zR (i:=2) nd qO)
  (zB (jV FD.never rfl (jD (zL 0)) (xQ (n:=3) rfl (zZ (zO (i:=3) nd) (zZ (zO (i:=4) nd) (zZ (zO (i:=5) nd) yW)))) (zB (qF (LN hr (pnV 3) (pnV 2)) (zE (jW (i:=1) (jX (zI (zL 2) (zI (zL 3) (zI qO zU)))))) zP)
  (zB (jW (i:=1) (jX (zI (zL 3) (zI (zL 4) (zI (zL 5) zU)))))
  (zE (zR (i:=2) nd (zL 4))))))
  (zB (qF (PWv.t (xA (yG (pnV 2) (PV.n qO)) (yJ (yR (PVn.t (pnV 0)))))) (zE (jW (i:=1) (jX (zI (zL 2) (zI qO (zI qO zU)))))) zP)
  (zE (yN 1))))))
def FW:FnScope ["one","other","runs","other_runs","rows","here","at","other_at","run","other_run","behind"] ["one","other"] (zJ (top 15)):={}
def QX{f:aG}{fd:bR}(Fn:Fun K "paired" "paired" (top 15) f fd)(T:Glb K mg)(C_runs_of:Cal P w K mg base "runs_of" 1 1 iB)(C_earlier_behind:Cal P w K mg base "earlier_behind" 1 2 dF):FnOk P w K mg base CX0 2 f fd ["one","other"] (spF K 2 nF):=by
 have nd:=FW.nd;refine qU (k:=1) (g:=pE) Fn FW (λcdv A outer s H E hr=>?_) (λds r hl e=>zY e)
 exact(zB (zR (i:=2) nd (qA C_runs_of hr (zH (pnV 0) zV)))
  (zB (zR (i:=3) nd (qA C_runs_of hr (zH (pnV 1) zV)))
  (zB (jE (i:=4) nd (qV zU))
  (zB (zR (i:=5) nd qO)
  (zB (zR (i:=6) nd jY)
  (zB (zR (i:=7) nd jY)
  (zB (GN 100000 FD.never (rV (zD 6) (PV.w (jZ T.b_len (zS (zD 2) qG)))) (zB (zR (i:=8) nd (qE (zD 2) (zD 6)))
  (zB (zR (i:=9) nd (qE (zD 3) (zD 7)))
  (zB (zR (i:=10) nd (qA C_earlier_behind hr (zH (PV.n (qE (zD 8) pwI)) (zH (PV.n (qE (zD 9) pwI)) zV))))
  (zB (jW (i:=4) (jX (zI (zL 5) (zI (zL 10) (zI (qE (zD 8) pwI) (zI (qE (zD 9) pwI) zU))))))
  (zB (qF (wB hr (PV.n (qE (zD 8) pwI)) (pnV 10)) (zE (LQ (i:=6) nd jY)) zP)
  (zB (qF (wB hr (PV.n (qE (zD 9) pwI)) (pnV 10)) (zE (LQ (i:=7) nd jY)) zP)
  (zE (zR (i:=5) nd (zL 10))))))))))
  (zE (yN 4)))))))))
def GA:FnScope ["value","other_value"] ["value","other_value"] (zJ (top 17)):={}
def RA{f:aG}{fd:bR}(Fn:Fun K "either" "either" (top 17) f fd)(T:Glb K mg): FnOk P w K mg base CX0 1 f fd ["value","other_value"] (spF K 2 lL):=by have nd:=GA.nd;refine qU (k:=0) (g:=pH) Fn GA (λcdv A outer s H E hr=>?_) (λds r hl e=>zY e);exact(zE (qH (PV.w (pv_if (kK (pnV 0) (PV.n qO)) (zL 1) (zL 0)))))
def FV:FnScope ["value","other_value"] ["value","other_value"] (zJ (top 18)):={}
def QW{f:aG}{fd:bR}(Fn:Fun K "summed" "summed" (top 18) f fd)(T:Glb K mg)(C_either:Cal P w K mg base "either" 1 2 lL):FnOk P w K mg base CX0 2 f fd ["value","other_value"] (spF K 2 iV):=by
 have nd:=FV.nd;refine qU (k:=1) (g:=pD) Fn FV (λcdv A outer s H E hr=>?_) (λds r hl e=>zY e)
 exact(zB (qF (PWv.t (xA (kK (pnV 0) (PV.n qO)) (yJ (kK (pnV 1) (PV.n qO))))) (zE (qH (PV.w (qA C_either hr (zH (pnV 0) (zH (pnV 1) zV)))))) zP)
  (zE (qH (PV.w (qX (zD 0) (zD 1))))))
def clo_ok(T:Glb K mg)  (V_summed:CalV P w K mg base 3 2 2 iV):CloOk P w K mg base 2 gG:=by
 refine clo_of (λp hp=>?_) λp hp hm=>?_
 . rcases aB.mp hp with rfl|hp
   . exact(pZ.mono (k:=2) (fn_good V_summed) (by decide))
   cases hp
 . rcases aB.mp hp with rfl|hp
   . exact V_summed.fin
   cases hp
def FY:FnScope ["one","other","way","rows"] ["one","other","way"] (zJ (top 20)):={}
def QY{f:aG}{fd:bR}(Fn:Fun K "joined" "joined" (top 20) f fd)(T:Glb K mg)(C_paired:Cal P w K mg base "paired" 2 2 nF)(C_knit:Cal P w K mg base "knit" 1 1 gS)(CO:CloOk P w K mg base 2 gG):FnOk P w K mg base CX0 3 f fd ["one","other","way"] (spF K 3 (lK gG)):=by
 have nd:=FY.nd;have nI0:(["low","behind","value","other_value","way"]:List Str).Nodup:=by decide +kernel
 refine qU (k:=2) (g:=(pF gG)) Fn FY (λcdv A outer s H E hr=>?_) (λds r hl e=>zY e)
 exact(zB (zR (i:=3) nd (qA C_paired hr (zH (pnV 0) (zH (pnV 1) zV))))
  (zE (xH (jL C_knit hr (zH (PV.n (PVf.s (yX (NY:=["low","behind","value","other_value","way"]) (mp:=[none,none,none,none,some 2]) (jF (by kernel_rfl)) rfl (jD (zL 3)) (λc=>(xQ (n:=4) rfl (zZ (zO (i:=0) nI0) (zZ (zO (i:=1) nI0) (zZ (zO (i:=2) nI0) (zZ (zO (i:=3) nI0) yW)))))) (λc=>xR) (λc=>(jX (zI (zL 0) (zI (zL 1) (zI (aBo (i:=4) CO hr (zH (pnV 2) (zH (pnV 3) zV))) zU)))))))) zV)))))
def BN:FnScope ["thing"] ["thing"] (zJ (top 24)):={}
def MY{f:aG}{fd:bR}(Fn:Fun K "is_name" "is_name" (top 24) f fd)(T:Glb K mg): FnOk P w K mg base CX0 1 f fd ["thing"] (spF K 1 fK):=by
 have nd:=BN.nd;have nI0:(["sign"]:List Str).Nodup:=by decide +kernel
 refine qU (k:=0) (g:=oJ) Fn BN (λcdv A outer s H E hr=>?_) (λds r hl e=>zY e)
 exact(zB (qF (yR (PVn.t (PV.n (BS T.b_isinstance T.b_str (by decide +kernel) (zD 0))))) (zE (qH (PV.w wZ))) zP)
  (zB (qF (PWv.t (xA (rV (PV.w (jZ T.b_len (zS (zD 0) qG))) pwI) (yJ (GK (PV.w (jZ T.b_len (zS (zD 0) qG))) (PV.w (LJ T.c_MOST_LETTERS)))))) (zE (qH (PV.w wZ))) zP)
  (zE (qH (PV.w (PM rfl T.b_all (zS (PV.w (PVf.s (yX (NY:=["sign"]) (mp:=[none]) (jF (by kernel_rfl)) rfl (piv_str (zL 0)) (λc=>(zO (i:=0) nI0)) (λc=>xR) (λc=>(PL WU os_inS (zD 0) (PV.w (aBn T.c_LETTERS)) rfl))))) qG)))))))
def aBc:FnScope ["pieces","span","value"] ["pieces","span","value"] (zJ (top 26)):={}
def fok_put{f:aG}{fd:bR}(Fn:Fun K "put" "put" (top 26) f fd)(T:Glb K mg)(C_knit:Cal P w K mg base "knit" 1 1 gS)(C_rows_over:Cal P w K mg base "rows_over" 4 3 eQ):FnOk P w K mg base CX0 5 f fd ["pieces","span","value"] (spF K 3 kQ):=by have nd:=aBc.nd;refine qU (k:=4) (g:=AT) Fn aBc (λcdv A outer s H E hr=>?_) (λds r hl e=>zY e);exact(zE (xH (jL C_knit hr (zH (PV.n (qA C_rows_over hr (zH (pnV 0) (zH (pnV 1) (zH (pnV 2) zV))))) zV))))
def pN:FnScope ["names"] ["names"] (zJ (top 30)):={}
def uQ{f:aG}{fd:bR}(Fn:Fun K "check_names" "check_names" (top 30) f fd)(T:Glb K mg)(C_is_name:Cal P w K mg base "is_name" 1 1 fK):FnOk P w K mg base CX0 2 f fd ["names"] (spF K 1 fX):=by
 have nd:=pN.nd;have nI0:(["name"]:List Str).Nodup:=by decide +kernel
 refine qU (k:=1) (g:=kZ) Fn pN (λcdv A outer s H E hr=>?_) (λds r hl e=>zY e)
 exact(zB (qF (PWv.t (xA (rV (PV.w (jZ T.b_len (zS (zD 0) qG))) pwI) (yJ (GK (PV.w (jZ T.b_len (zS (zD 0) qG))) (PV.w (LJ T.c_MOST_NAMES)))))) (zE wG) zP)
  (zB (qF (yR (PVn.t (PV.n (PM rfl T.b_all (zS (PV.w (PVf.s (yX (NY:=["name"]) (mp:=[none]) (jF (by kernel_rfl)) rfl (jD (zL 0)) (λc=>(zO (i:=0) nI0)) (λc=>xR) (λc=>(qA C_is_name hr (zH (pnV 0) zV)))))) qG))))) (zE wG) zP)
  (zE (qF (rV (PV.w (pv_lset rfl T.b_len T.b_set (zD 0))) (PV.w (jZ T.b_len (zS (zD 0) qG)))) (zE wG) zP))))
def mZ:FnScope ["self","names","name"] ["self","names"] (zJ (gJ (top 29) 0)):={}
def rE{f:aG}{fd:bR}(Fn:Fun K "__init__" "Bundle.__init__" (gJ (top 29) 0) f fd)(T:Glb K mg)(C_check_names:Cal P w K mg base "check_names" 2 1 fX):FnOk P w K mg base CX0 3 f fd ["self","names"] (spL K 1 dO):=by
 have nd:=mZ.nd;refine JE (k:=2) (n:=1) (g:=fL) Fn mZ (λcdv A outer s H E hr=>?_) (λ_ _ _ _ e=>e)
 exact(zB (aCa (qA C_check_names hr (zH (pnV 1) zV)))
  (zB (PN T.nw_lying (yE 0) BQ)
  (zE (jV FD.never rfl (jD (PVf.s (uC T.b_sorted (zD 1)))) (zO (i:=2) nd) (zE (WM hr (PH T.fl_lying (yE 0)) (zL 2) (aBj IV)))))))
def pS:FnScope ["self","name"] ["self","name"] (zJ (gJ (top 29) 4)):={}
def uV{f:aG}{fd:bR}(Fn:Fun K "only" "Bundle.only" (gJ (top 29) 4) f fd)(T:Glb K mg)(C_is_name:Cal P w K mg base "is_name" 1 1 fK):FnOk P w K mg base CX0 2 f fd ["self","name"] (spF K 2 iD):=by
 have nd:=pS.nd;refine qU (k:=1) (g:=lB) Fn pS (λcdv A outer s H E hr=>?_) (λds r hl e=>zY e)
 exact(zB (qF (PWv.t (xA (yR (PVn.t (PV.n (qA C_is_name hr (zH (pnV 1) zV))))) (yJ (aBt hr (pnV 1) (PV.n (PK T.fl_lying (zL 0))))))) (zE wG) zP)
  (zE (xH (BR T.b_list (PV.w (IQ hr (PK T.fl_lying (zL 0)) (zL 1)))))))
def rS:FnScope ["self","name","span"] ["self","name","span"] (zJ (gJ (top 29) 1)):={}
def CZ{f:aG}{fd:bR}(Fn:Fun K "lay" "Bundle.lay" (gJ (top 29) 1) f fd)(T:Glb K mg)(C_put:Cal P w K mg base "put" 5 3 kQ)(M_only:MCal P w K mg base "only" 2 1 [12] cN):FnOk P w K mg base CX0 6 f fd ["self","name","span"] (spL K 2 eY):=by have nd:=rS.nd;refine JE (k:=5) (n:=2) (g:=iO) Fn rS (λcdv A outer s H E hr=>?_) (λ_ _ _ _ e=>e);exact(zE (wJ hr (PH T.fl_lying (yE 0)) (zL 1) (IL (LH 0 (SM (jL C_put hr (zH (PV.n (SR M_only hr (zL 0) (zH (pnV 1) zV))) (zH (pnV 2) (zH pnI zV)))))))))
def pU:FnScope ["self","name","span"] ["self","name","span"] (zJ (gJ (top 29) 2)):={}
def uW{f:aG}{fd:bR}(Fn:Fun K "lift" "Bundle.lift" (gJ (top 29) 2) f fd)(T:Glb K mg)(C_put:Cal P w K mg base "put" 5 3 kQ)(M_only:MCal P w K mg base "only" 2 1 [12] cN):FnOk P w K mg base CX0 6 f fd ["self","name","span"] (spL K 2 eL):=by have nd:=pU.nd;refine JE (k:=5) (n:=2) (g:=iE) Fn pU (λcdv A outer s H E hr=>?_) (λ_ _ _ _ e=>e);exact(zE (wJ hr (PH T.fl_lying (yE 0)) (zL 1) (IL (LH 0 (SM (jL C_put hr (zH (PV.n (SR M_only hr (zL 0) (zH (pnV 1) zV))) (zH (pnV 2) (zH (PV.n qO) zV)))))))))
def BL:FnScope ["maps","together","pieces"] ["maps"] (zJ (top 31)):={}
def MW{f:aG}{fd:bR}(Fn:Fun K "stacked" "stacked" (top 31) f fd)(T:Glb K mg)(C_joined:Cal P w K mg base "joined" 3 3 (lK gG)):FnOk P w K mg base CX0 4 f fd ["maps"] (spF K 1 (mG gG)):=by
 have nd:=BL.nd;refine qU (k:=3) (g:=(oG gG)) Fn BL (λcdv A outer s H E hr=>?_) (λds r hl e=>zY e)
 exact(zB (jE (i:=1) nd (qV zU))
  (zB (jV FD.never rfl (jD (zL 0)) (zO (i:=2) nd) (zE (jE (i:=1) nd (jL C_joined hr (zH (pnV 1) (zH (pnV 2) (zH (PV.n (pv_fn T.fv_3)) zV)))))))
  (zE (yN 1))))
def pR:FnScope ["self","weighed","weight","pieces"] ["self"] (zJ (gJ (top 29) 5)):={}
def uU{f:aG}{fd:bR}(Fn:Fun K "sets" "Bundle.sets" (gJ (top 29) 5) f fd)(T:Glb K mg)(C_stacked:Cal P w K mg base "stacked" 4 1 (mG gG)):FnOk P w K mg base CX0 5 f fd ["self"] (spF K 1 (nR gG)):=by
 have nd:=pR.nd;have nI0:(["low","behind","value","weight"]:List Str).Nodup:=by decide +kernel
 refine qU (k:=4) (g:=(lA gG)) Fn pR (λcdv A outer s H E hr=>?_) (λds r hl e=>zY e)
 exact(zB (jE (i:=1) nd (qV zU))
  (zB (zR (i:=2) nd jY)
  (zB (aBz FD.never rfl (aCg (PK T.fl_lying (zL 0))) (zO (i:=3) nd) (zB (jW (i:=1) (PVf.s (yX (NY:=["low","behind","value","weight"]) (mp:=[none,none,none,some 2]) (jF (by kernel_rfl)) rfl (jD (zL 3)) (λc=>(xQ (n:=3) rfl (zZ (zO (i:=0) nI0) (zZ (zO (i:=1) nI0) (zZ (zO (i:=2) nI0) yW))))) (λc=>xR) (λc=>(jX (zI (zL 0) (zI (zL 1) (zI (zL 3) zU))))))))
  (zE (zR (i:=2) nd (jH (zD 2) pwI)))))
  (zE (xH (jL C_stacked hr (zH (pnV 1) zV)))))))
def oQ:FnScope ["_law_script","_law_k"] ["_law_script","_law_k"] (zJ (top 33)):={}
def tM{f:aG}{fd:bR}(Fn:Fun K "_law_cell_at" "_law_cell_at" (top 33) f fd)(T:Glb K mg): FnOk P w K mg base CX0 1 f fd ["_law_script","_law_k"] (spF K 2 eB):=by
 have nd:=oQ.nd;refine qU (k:=0) (g:=oN) Fn oQ (λcdv A outer s H E hr=>?_) (λds r hl e=>zY e)
 exact(zB (qF (rV (zD 1) (PV.w (jZ T.b_len (zS (zD 0) qG)))) (zE (qH (PV.w (qE (zD 0) (zD 1))))) zP)
  (zE (qH pwI)))
def rO:FnScope ["_law_found"] ["_law_found"] (zJ (top 34)):={}
def CU{f:aG}{fd:bR}(Fn:Fun K "_law_whole" "_law_whole" (top 34) f fd)(T:Glb K mg): FnOk P w K mg base CX0 1 f fd ["_law_found"] (spF K 1 eZ):=by have nd:=rO.nd;refine qU (k:=0) (g:=oK) Fn rO (λcdv A outer s H E hr=>?_) (λds r hl e=>zY e);exact(zE (qH (PV.w (IS (BS T.b_isinstance T.b_int (by decide +kernel) (zD 0)) (PJ (pv_not (BS T.b_isinstance T.b_bool (by decide +kernel) (zD 0))))))))
def rQ:FnScope ["_law_head","_law_cell","_law_letters","_law_size","_law_more","_law_many","_law_names_here","_law_k","_law_core","_law_signs","_law_j","_law_step","_law_name"] ["_law_head","_law_cell"] (zJ (top 35)):={}
def CW{f:aG}{fd:bR}(Fn:Fun K "_law_names" "_law_names" (top 35) f fd)(T:Glb K mg): FnOk P w K mg base CX0 1 f fd ["_law_head","_law_cell"] (spF K 2 lH):=by
 have nd:=rQ.nd;refine qU (k:=0) (g:=nM) Fn rQ (λcdv A outer s H E hr=>?_) (λds r hl e=>zY e)
 exact(zB (zR (i:=2) nd aBm)
  (zB (zR (i:=3) nd (qX pwI (PV.w (zX (zD 1) pwI))))
  (zB (zR (i:=4) nd (SU T.b_int (zS (PV.w (IS (pv_lt (zD 3) pwI) (PJ (SW hr (PV.n (zX (PV.w (qS (zD 1) pwI)) pwI)) pnI)))) qG)))
  (zB (zR (i:=5) nd (qX pwI (PV.w (qE (PV.w (PVf.s (qV (zI (zX (PV.w (qS (zD 0) pwI)) pwI) (zI (zX (PV.w (qS (zD 0) pwI)) pwI) zU))))) (PV.w (qS (PV.w (zX (zD 0) pwI)) pwI))))))
  (zB (qF (wB hr (pnV 3) pnI) (zE (zR (i:=5) nd (IN rfl T.b_min (zS (zD 5) (zS pwI qG))))) zP)
  (zB (jE (i:=6) nd (qV zU))
  (zB (jV FD.never rfl (xZ T.b_range (zL 5)) (zO (i:=7) nd) (zB (zR (i:=8) nd (qS (zD 7) (PV.w (qX pwI (zD 4)))))
  (zB (jE (i:=9) nd (qV zU))
  (zB (jV FD.never rfl (xZ T.b_range (zL 3)) (zO (i:=10) nd) (zB (zR (i:=11) nd (qE (PV.w (PVf.s (qV (zI (zL 8) (zI (qS (zD 8) pwI) (zI jY zU)))))) (PV.w (IN rfl T.b_min (zS (PV.w (zX (PV.w (qX (zD 10) (PV.w (qS (zD 1) pwI)))) (zD 3))) (zS pwI qG))))))
  (zE (jW (i:=9) (qE (zD 2) (PV.w (zX (PV.w (qX (PV.w (qX (PV.w (qS (zD 1) (PV.w (qX (zD 10) pwI)))) (PV.w (jH (PV.w (jH (zD 10) (zD 10))) pwI)))) (zD 11))) pwI)))))))
  (zB (zR (i:=12) nd (pv_join (PV.w aBm) (zD 9)))
  (zB (qF (PWv.t (jT (wB hr (pnV 4) pnI) (jR (wB hr (PV.n (zX (zD 7) pwI)) pnI)))) (zE (zR (i:=12) nd (qX (zD 12) (PV.w (qE (zD 2) (PV.w (zX (PV.w (qS (zD 1) pwI)) pwI))))))) zP)
  (zE (jW (i:=6) (zL 12)))))))))
  (zE (yN 6)))))))))
def rR:FnScope ["_law_cell","_law_great_here"] ["_law_cell"] (zJ (top 36)):={}
def CY{f:aG}{fd:bR}(Fn:Fun K "_law_great" "_law_great" (top 36) f fd)(T:Glb K mg): FnOk P w K mg base CX0 1 f fd ["_law_cell"] (spF K 1 lC):=by
 have nd:=rR.nd;refine qU (k:=0) (g:=rZ) Fn rR (λcdv A outer s H E hr=>?_) (λds r hl e=>zY e)
 exact(zB (zR (i:=1) nd (kC (PV.w (kC pwI pwI)) pwI))
  (zE (qH (PV.w (xM (PV.w (zX (zD 0) (PV.w (qX (PV.w (jH pwI (zD 1))) pwI)))) (zD 1))))))
def sT:FnScope ["_law_cell","_law_k","_law_ends","_law_mixed","_law_more","_law_low","_law_behind"] ["_law_cell","_law_k","_law_ends"] (zJ (top 37)):={}
def ES{f:aG}{fd:bR}(Fn:Fun K "_law_over" "_law_over" (top 37) f fd)(T:Glb K mg)(C__law_great:Cal P w K mg base "_law_great" 1 1 lC):FnOk P w K mg base CX0 2 f fd ["_law_cell","_law_k","_law_ends"] (spR K 3 2 mF):=by
 have nd:=sT.nd;refine fun_okR (k:=1) (p:=2) (g:=sK) Fn sT (λcdv A outer s H E hr=>?_) (λ_ _ _ _ e=>e)
 exact(jP (zR (i:=3) nd (zX (PV.w (qX (PV.w (qX (PV.w (jH (zD 0) pwI)) (PV.w (jH (PV.w (jH (zD 1) (zD 1))) pwI)))) pwI)) pwI))
  (jP (zR (i:=3) nd (zX (PV.w (jH (zD 3) (zD 3))) pwI))
  (jP (zR (i:=4) nd (zX (PV.w (qX (PV.w (qX (PV.w (jH (zD 0) pwI)) (PV.w (jH (PV.w (jH (zD 1) (zD 1))) pwI)))) pwI)) pwI))
  (jP (zR (i:=4) nd (zX (PV.w (jH (zD 4) (zD 3))) pwI))
  (jP (zR (i:=5) nd (xM (PV.w (zX (PV.w (qS (zD 3) pwI)) pwI)) pwI))
  (jP (qF (PWv.t (jT (wB hr (PV.n (zX (zD 3) pwI)) pnI) (jR (LN hr (SN 2) (PV.n (PVf.s (qV zU))))))) (zE (zR (i:=5) nd (xM (PV.w (qX (PV.w (AM 2 (qE (zD 2) (PV.w (zX (PV.w (qS (zD 3) pwI)) (PV.w (jZ T.b_len (zS (zD 2) qG)))))))) (PV.w (zX (PV.w (qS (zD 3) pwI)) pwI)))) pwI))) zP)
  (jP (qF (wB hr (PV.n (zX (zD 3) pwI)) pnI) (zE (zR (i:=5) nd (qE (PV.w (PVf.s (qV (zI (xM (PV.w (zX (zD 0) (PV.w (qX (PV.w (jH pwI (PV.w (kC pwI pwI)))) pwI)))) (PV.w (kC pwI pwI))) (zI (qA C__law_great hr (zH (pnV 0) zV)) zU))))) (PV.w (zX (PV.w (qS (zD 3) pwI)) pwI))))) zP)
  (jP (zR (i:=6) nd (qX (PV.w (qX (zD 5) pwI)) (PV.w (qE (PV.w (PVf.s (qV (zI (zX (PV.w (qS (zD 4) pwI)) pwI) (zI (zX (PV.w (qS (zD 4) pwI)) pwI) (zI (zX (PV.w (jH (zD 0) pwI)) (PV.w (kC pwI pwI))) (zI jY zU))))))) (PV.w (zX (zD 4) pwI))))))
  (jP (qF (PWv.t (jT (wB hr (PV.n (zX (zD 4) pwI)) pnI) (jR (LN hr (SN 2) (PV.n (PVf.s (qV zU))))))) (zE (zR (i:=6) nd (IP rfl T.b_max (zS (zD 6) (zS (PV.w (AM 2 (qE (zD 2) (PV.w (zX (PV.w (qS (zD 4) pwI)) (PV.w (jZ T.b_len (zS (zD 2) qG)))))))) qG))))) zP)
  (jP (vG (yE 2) (zL 5))
  (jP (vG (yE 2) (zL 6))
  (jP (qF (rV (PV.w (zX (PV.w (qS (zD 4) pwI)) pwI)) pwI) (zE (zR (i:=5) nd qO)) zP)
  (jP (qF (pt_in (PV.n (zX (PV.w (qS (zD 4) pwI)) pwI)) (PV.n (jX (zI jY (zI jY zU))))) (zE (zR (i:=6) nd qO)) zP)
  (prv_ret (pvx_v (jX (zI (zL 5) (zI (zL 6) zU))))))))))))))))))
def pQ:FnScope ["_law_found","_law_k","_law_low","_law_behind","_law_value","_law_ahead"] ["_law_found"] (zJ (top 38)):={}
def uT{f:aG}{fd:bR}(Fn:Fun K "_law_is_map" "_law_is_map" (top 38) f fd)(T:Glb K mg)(C__law_whole:Cal P w K mg base "_law_whole" 1 1 eZ):FnOk P w K mg base CX0 2 f fd ["_law_found"] (spF K 1 lM):=by
 have nd:=pQ.nd;refine qU (k:=1) (g:=pJ) Fn pQ (λcdv A outer s H E hr=>?_) (λds r hl e=>zY e)
 exact(zB (qF (yR (PVn.t (PV.n (BS T.b_isinstance T.b_list (by decide +kernel) (zD 0))))) (zE (qH (PV.w wZ))) zP)
  (zB (jV FD.never rfl (xZ T.b_range (jZ T.b_len (zS (zD 0) qG))) (zO (i:=1) nd) (zB (qF (PWv.t (xA (yR (PVn.t (PV.n (BS T.b_isinstance T.b_tuple (by decide +kernel) (PV.w (qE (zD 0) (zD 1))))))) (xA (LN hr (PV.n (jZ T.b_len (zS (PV.w (qE (zD 0) (zD 1))) qG))) pnI) (yJ (yR (PVn.t (PV.n (qA C__law_whole hr (zH (PV.n (qE (PV.w (qE (zD 0) (zD 1))) pwI)) zV))))))))) (zE (qH (PV.w wZ))) zP)
  (zB (psv_asg (qE (zD 0) (zD 1)) (xQ (n:=3) rfl (zZ (zO (i:=2) nd) (zZ (zO (i:=3) nd) (zZ (zO (i:=4) nd) yW)))))
  (zB (qF (PWv.t (jT (yR (PVn.t (PV.n (qA C__law_whole hr (zH (pnV 2) zV))))) (jR (PWv.t (xA (yG (pnV 2) (PV.n qO)) (yJ (GK (zD 1) pwI))))))) (zE (qH (PV.w wZ))) zP)
  (zB (qF (PWv.t (jT (yR (PVn.t (PV.n (qA C__law_whole hr (zH (pnV 3) zV))))) (jR (PWv.t (xA (yG (pnV 3) (PV.n qO)) (yJ (rV (zD 1) (PV.w (xM (PV.w (jZ T.b_len (zS (zD 0) qG))) pwI))))))))) (zE (qH (PV.w wZ))) zP)
  (zB (qF (PWv.t (jT (yG (pnV 2) (PV.n qO)) (jT (yG (pnV 3) (PV.n qO)) (jR (pt_ge (zD 2) (zD 3)))))) (zE (qH (PV.w wZ))) zP)
  (zB (zR (i:=5) nd (qE (zD 0) (PV.w (IP rfl T.b_max (zS (PV.w (xM (zD 1) pwI)) (zS pwI qG))))))
  (zE (qF (PWv.t (jT (GK (zD 1) pwI) (jR (PWv.t (xA (GK (PV.w (qE (zD 5) pwI)) (zD 2)) (yJ (wB hr (PV.n (pv_sltw (zD 5) (PP pwI) pov_no)) (PV.n (jX (zI (zL 2) (zI (zL 4) zU))))))))))) (zE (qH (PV.w wZ))) zP)))))))))
  (zE (qH (PV.w wZ)))))
def pP:FnScope ["_law_pieces","_law_ends","_law_found","_law_end"] ["_law_pieces","_law_ends"] (zJ (top 39)):={}
def uS{f:aG}{fd:bR}(Fn:Fun K "_law_places" "_law_places" (top 39) f fd)(T:Glb K mg): FnOk P w K mg base CX0 1 f fd ["_law_pieces","_law_ends"] (spF K 2 mK):=by
 have nd:=pP.nd;have nI0:(["_law_piece"]:List Str).Nodup:=by decide +kernel
 have nI1:(["_law_piece"]:List Str).Nodup:=by decide +kernel
 refine qU (k:=0) (g:=oM) Fn pP (λcdv A outer s H E hr=>?_) (λds r hl e=>zY e)
 exact(zB (jE (i:=2) nd (qV (zI jY zU)))
  (zB (jV FD.never rfl (jD (PVf.s (SQ (PV.w (PVf.s (SQ (zD 1) (PV.w (PVf.s (yX (NY:=["_law_piece"]) (mp:=[none]) (jF (by kernel_rfl)) rfl (jD (zL 0)) (λc=>(zO (i:=0) nI0)) (λc=>xR) (λc=>(qE (zD 0) pwI)))))))) (PV.w (PVf.s (yX (NY:=["_law_piece"]) (mp:=[none]) (jF (by kernel_rfl)) rfl (jD (zL 0)) (λc=>(zO (i:=0) nI1)) (λc=>xR) (λc=>(qE (zD 0) pwI)))))))) (zO (i:=3) nd) (zE (qF (yG (pnV 3) (PV.n qO)) (zB (jW (i:=2) (xM (zD 3) pwI))
  (zE (jW (i:=2) (zL 3)))) zP)))
  (zE (xH (EM rfl T.b_sorted T.b_set (zD 2))))))
def pO:FnScope ["_law_pieces","_law_places_here","_law_found","_law_k","_law_place"] ["_law_pieces","_law_places_here"] (zJ (top 40)):={}
def uR{f:aG}{fd:bR}(Fn:Fun K "_law_values" "_law_values" (top 40) f fd)(T:Glb K mg): FnOk P w K mg base CX0 1 f fd ["_law_pieces","_law_places_here"] (spF K 2 nG):=by
 have nd:=pO.nd;refine qU (k:=0) (g:=pI) Fn pO (λcdv A outer s H E hr=>?_) (λds r hl e=>zY e)
 exact(zB (jE (i:=2) nd (qV zU))
  (zB (zR (i:=3) nd jY)
  (zB (jV FD.never rfl (jD (zL 1)) (zO (i:=4) nd) (zB (GN 100000 FD.never (PWv.t (jT (rV (zD 3) (PV.w (jZ T.b_len (zS (zD 0) qG)))) (jT (yG (PV.n (qE (PV.w (qE (zD 0) (zD 3))) pwI)) (PV.n qO)) (jR (aBv (PV.w (qE (PV.w (qE (zD 0) (zD 3))) pwI)) (zD 4)))))) (zE (zR (i:=3) nd (qX (zD 3) pwI))))
  (zE (qF (PWv.t (jT (rV (zD 3) (PV.w (jZ T.b_len (zS (zD 0) qG)))) (jR (PWv.t (xA (kK (PV.n (qE (PV.w (qE (zD 0) (zD 3))) pwI)) (PV.n qO)) (yJ (aBv (PV.w (qE (PV.w (qE (zD 0) (zD 3))) pwI)) (zD 4)))))))) (zE (jW (i:=2) (qE (PV.w (qE (zD 0) (zD 3))) pwI))) (zE (jW (i:=2) qO))))))
  (zE (yN 2)))))
def uB:FnScope ["_law_deeds","_law_place","_law_bits_here","_law_lies","_law_name","_law_over_here","_law_value","_law_total"] ["_law_deeds","_law_place","_law_bits_here"] (zJ (top 41)):={}
def JH{f:aG}{fd:bR}(Fn:Fun K "_law_due" "_law_due" (top 41) f fd)(T:Glb K mg): FnOk P w K mg base CX0 1 f fd ["_law_deeds","_law_place","_law_bits_here"] (spF K 3 iU):=by
 have nd:=uB.nd;have nI0:(["_law_name","_law_bits_here","_law_lies"]:List Str).Nodup:=by decide +kernel
 refine qU (k:=0) (g:=pC) Fn uB (λcdv A outer s H E hr=>?_) (λds r hl e=>zY e)
 exact(zB (xW (i:=3) nd BQ)
  (zB (jV FD.never rfl (jD (zL 0)) (xQ (n:=3) rfl (zZ (zO (i:=4) nd) (zZ (zO (i:=5) nd) (zZ (zO (i:=6) nd) yW)))) (zE (qF (PWv.t (jT (PWv.t (xA (kK (PV.n (qE (zD 5) pwI)) (PV.n qO)) (yJ (aBv (PV.w (qE (zD 5) pwI)) (zD 1))))) (jR (PWv.t (xA (kK (PV.n (qE (zD 5) pwI)) (PV.n qO)) (yJ (rV (zD 1) (PV.w (qE (zD 5) pwI))))))))) (zE (wJ hr (yE 3) (zL 4) (zL 6))) zP)))
  (zB (aBy (i:=3) (zR (i:=7) nd (pv_sum rfl T.b_sum (zS (PV.w (PVf.s (WI (NY:=["_law_name","_law_bits_here","_law_lies"]) (mp:=[none,some 2,some 3]) (jF (by kernel_rfl)) rfl (aCh (zL 3)) (λc=>(zO (i:=0) nI0)) (λc=>(TR (PWv.t (jT (wB hr (PV.n (IQ hr (zL 2) (zL 0))) pnI) (jR (TD hr (pnV 0) (pnV 1))))))) (λc=>(IQ hr (zL 1) (zL 0)))))) qG))))
  (zE (qH (PV.w (qE (PV.w (PVf.s (qV (zI (zL 7) (zI qO zU))))) (PV.w (SU T.b_int (zS (PV.w (SW hr (pnV 7) pnI)) qG))))))))))
def rP:FnScope ["_law_told_here","_law_deeds","_law_ends","_law_bits_here","_law_places_here"] ["_law_told_here","_law_deeds","_law_ends","_law_bits_here"] (zJ (top 42)):={}
def CV{f:aG}{fd:bR}(Fn:Fun K "_law_right" "_law_right" (top 42) f fd)(T:Glb K mg)(C__law_places:Cal P w K mg base "_law_places" 1 2 mK)(C__law_is_map:Cal P w K mg base "_law_is_map" 2 1 lM)(C__law_values:Cal P w K mg base "_law_values" 1 2 nG)(C__law_due:Cal P w K mg base "_law_due" 1 3 iU):FnOk P w K mg base CX0 3 f fd ["_law_told_here","_law_deeds","_law_ends","_law_bits_here"] (spF K 4 iK):=by
 have nd:=rP.nd;have nI0:(["_law_place","_law_deeds","_law_bits_here"]:List Str).Nodup:=by decide +kernel
 refine qU (k:=2) (g:=nL) Fn rP (λcdv A outer s H E hr=>?_) (λds r hl e=>zY e)
 exact(zB (qF (yR (PVn.t (PV.n (qA C__law_is_map hr (zH (pnV 0) zV))))) (zE (qH (PV.w wZ))) zP)
  (zB (zR (i:=4) nd (qA C__law_places hr (zH (pnV 0) (zH (pnV 2) zV))))
  (zE (qH (PV.w (SW hr (PV.n (qA C__law_values hr (zH (pnV 0) (zH (pnV 4) zV)))) (PV.n (PVf.s (yX (NY:=["_law_place","_law_deeds","_law_bits_here"]) (mp:=[none,some 1,some 3]) (jF (by kernel_rfl)) rfl (jD (zL 4)) (λc=>(zO (i:=0) nI0)) (λc=>xR) (λc=>(qA C__law_due hr (zH (pnV 1) (zH (pnV 0) (zH (pnV 2) zV))))))))))))))
def sU:FnScope ["_law_names_here","_law_cell","_law_bits_here","_law_rising","_law_k"] ["_law_names_here","_law_cell"] (zJ (top 43)):={}
def ET{f:aG}{fd:bR}(Fn:Fun K "_law_bits" "_law_bits" (top 43) f fd)(T:Glb K mg): FnOk P w K mg base CX0 1 f fd ["_law_names_here","_law_cell"] (spF K 2 gI):=by
 have nd:=sU.nd;refine qU (k:=0) (g:=oF) Fn sU (λcdv A outer s H E hr=>?_) (λds r hl e=>zY e)
 exact(zB (xW (i:=2) nd BQ)
  (zB (qF (wB hr (PV.n (zX (zD 1) pwI)) pnI) (zB (wJ hr (yE 2) (qE (zD 0) (PV.w (zX (PV.w (qS (zD 1) pwI)) (PV.w (jZ T.b_len (zS (zD 0) qG)))))) jY)
  (zE (GO 2))) zP)
  (zB (zR (i:=3) nd (PVf.s (uC T.b_sorted (zD 0))))
  (zB (jV FD.never rfl (xZ T.b_range (jZ T.b_len (zS (zD 3) qG))) (zO (i:=4) nd) (zE (wJ hr (yE 2) (qE (zD 3) (zD 4)) (pv_shlI pwI (zD 4)))))
  (zE (GO 2))))))
def sS:FnScope ["_law_bundle","_law_names_here","_law_cell"] ["_law_bundle","_law_names_here","_law_cell"] (zJ (top 44)):={}
def ER{f:aG}{fd:bR}(Fn:Fun K "_law_told" "_law_told" (top 44) f fd)(T:Glb K mg)(M_sets:MCal P w K mg base "sets" 5 0 [12] (iC gG))(M_only:MCal P w K mg base "only" 2 1 [12] cN):FnOk P w K mg base CX0 6 f fd ["_law_bundle","_law_names_here","_law_cell"] (spF K 3 iA):=by
 have nd:=sS.nd;refine qU (k:=5) (g:=oC) Fn sS (λcdv A outer s H E hr=>?_) (λds r hl e=>zY e)
 exact(zB (qF (wB hr (PV.n (zX (zD 2) pwI)) pnI) (zE (xH (aBl M_only hr (zL 0) (zH (PV.n (qE (zD 1) (PV.w (zX (PV.w (qS (zD 2) pwI)) (PV.w (jZ T.b_len (zS (zD 1) qG))))))) zV)))) zP)
  (zE (xH (WH M_sets hr (zL 0) ))))
def aBd:FnScope ["_law_script","_law_names_here","_law_bundle","_law_deeds","_law_ends","_law_stood","_law_cell","_law_over_here","_law_mixed","_law_name","_law_told_here","_law_bits_here","_law_rows"] ["_law_script"] (zJ (top 45)):={}
def fok_law{f:aG}{fd:bR}(Fn:Fun K "law" "law" (top 45) f fd)(T:Glb K mg)(C__law_names:Cal P w K mg base "_law_names" 1 2 lH)(C__law_cell_at:Cal P w K mg base "_law_cell_at" 1 2 eB)(C__law_over:CalR P w K mg base "_law_over" 2 3 2 mF)(C__law_told:Cal P w K mg base "_law_told" 6 3 iA)(C__law_bits:Cal P w K mg base "_law_bits" 1 2 gI)(C__law_right:Cal P w K mg base "_law_right" 3 4 iK)(C_formed:Cal P w K mg base "formed" 5 1 iW)(M_lay:LCal P w K mg base "lay" 6 2 [12] (λ_=>eY))(M_lift:LCal P w K mg base "lift" 6 2 [12] (λ_=>eL))(Mk_Bundle_0:LMk P w K mg base 24 3 1 0 dO):FnOk P w K mg base CX0 7 f fd ["_law_script"] (spF K 1 tD):=by
 have nd:=aBd.nd;have nI0:(["_law_deed","_law_bits_here"]:List Str).Nodup:=by decide +kernel
 have nI1:(["_law_kept"]:List Str).Nodup:=by decide +kernel
 refine qU (k:=6) (g:=sZ) Fn aBd (λcdv A outer s H E hr=>?_) (λds r hl e=>zY e)
 exact(zB (zR (i:=1) nd (qA C__law_names hr (zH (PV.n (qA C__law_cell_at hr (zH (pnV 0) (zH pnI zV)))) (zH (PV.n (qA C__law_cell_at hr (zH (pnV 0) (zH pnI zV)))) zV))))
  (zB (xW (i:=2) nd (aBk Mk_Bundle_0 hr (zI (PVf.s (BR T.b_list (zD 1))) zU)))
  (zB (xW (i:=3) nd (aBj IV))
  (zB (xW (i:=4) nd (aBj (aCs (pvo_v (xM (PV.w (zX (PV.w (qA C__law_cell_at hr (zH (pnV 0) (zH pnI zV)))) pwI)) pwI)) IV)))
  (zB (jE (i:=5) nd (qV zU))
  (zB (jV FD.never rfl (jD (PVf.s (WG (zD 0) (PP pwI) (PP pwI)))) (zO (i:=6) nd) (zB (aBx (i:=7) nd (WF C__law_over hr (LX (zL 6) (LX (AM 3 (jZ T.b_len (zS (zD 3) qG))) (aCr (i:=4) zU)))))
  (zB (zR (i:=8) nd (zX (PV.w (qX (PV.w (qX (PV.w (jH (zD 6) pwI)) (PV.w (jH (PV.w (AM 3 (jZ T.b_len (zS (zD 3) qG)))) pwI)))) pwI)) pwI))
  (zB (zR (i:=8) nd (zX (PV.w (jH (zD 8) (zD 8))) pwI))
  (zB (zR (i:=9) nd (qE (zD 1) (PV.w (zX (PV.w (qS (zD 8) pwI)) (PV.w (jZ T.b_len (zS (zD 1) qG)))))))
  (zB (qF (GK (PV.w (zX (zD 8) pwI)) pwI) (zB (vG (yE 3) (jX (zI (zL 9) (zI (zL 7) (zI jY zU)))))
  (zE (LO M_lay hr (yE 2) (zI (zL 9) (zI (zL 7) zU))))) (zB (vG (yE 3) (jX (zI (zL 9) (zI (zL 7) (zI qO zU)))))
  (zE (LO M_lift hr (yE 2) (zI (zL 9) (zI (zL 7) zU))))))
  (zB (zR (i:=10) nd (IL (LG 2 (SM (jL C__law_told hr (zH (pnV 2) (zH (pnV 1) (zH (PV.n (qS (zD 8) pwI)) zV))))))))
  (zB (xW (i:=11) nd (GG C__law_bits hr (zH (pnV 1) (zH (PV.n (qS (zD 8) pwI)) zV))))
  (zB (LP 3 11 (i:=12) nd (NY:=["_law_deed","_law_bits_here"]) (mp:=[none,some 11]) (jF (by kernel_rfl)) rfl (jD (zL 3)) (λc=>(zO (i:=0) nI0)) (λc=>(TR (TD hr (PV.n (qE (zD 0) pwI)) (pnV 1)))) (λc=>(jX (zI (qE (zD 0) pwI) (zI (qE (zD 0) pwI) zU)))))
  (zB (qF (PWv.t (jT (wB hr (PV.n (zX (PV.w (qS (zD 8) pwI)) pwI)) pnI) (jR (LN hr (pnV 10) (PV.n (qA C_formed hr (zH (pnV 12) zV))))))) (zE (qH (PV.w wZ))) zP)
  (zE (jW (i:=5) (PVf.s (qV (zI (zL 10) (zI (PVf.s (BR T.b_list (zD 10))) zU))))))))))))))))
  (zB (jV FD.never rfl (jD (PVf.s (qV (zI jY (zI (jH pwI (PV.w (zX (PV.w (qA C__law_cell_at hr (zH (pnV 0) (zH pnI zV)))) pwI))) zU))))) (zO (i:=6) nd) (zB (zR (i:=10) nd (IL (LG 2 (SM (jL C__law_told hr (zH (pnV 2) (zH (pnV 1) (zH (pnV 6) zV))))))))
  (zE (qF (yR (LM 4 (LM 3 (PVn.t (PV.n (qA C__law_right hr (zH (pnV 10) (zH (pnV 3) (zH (pnV 4) (zH (PVo.n (GG C__law_bits hr (zH (pnV 1) (zH (pnV 6) zV)))) zV)))))))))) (zE (qH (PV.w wZ))) zP))))
  (zE (psv_rel 5 (qH (PV.w (PM rfl T.b_all (zS (PV.w (PVf.s (yX (NY:=["_law_kept"]) (mp:=[none]) (jF (by kernel_rfl)) rfl (jD (zL 5)) (λc=>(zO (i:=0) nI1)) (λc=>xR) (λc=>(SW hr (PV.n (qE (zD 0) pwI)) (PV.n (qE (zD 0) pwI))))))) qG)))))))))))))
end
open FL
open Builtin.Int (intBits)
noncomputable def An(c:Int)(j:Nat):Int:=c/((j:Int)+3)+(j:Int)*(j:Int)*7
def innerNQ c core(sz:Nat)(h1:1<=sz)(h8:sz<=8) x0 x4 x5 x6 x7 x10 x11 x12:∃y10 y11:Sl,forG (rng1 (qB 3)) (zN 10) hJ [x0,.v (.int c),.v (.str (Str.ofString "abcdefghijklmnopqrstuvwxyz")),.v (.int (sz:Int)),x4,x5,x6,x7,.v (.int core),.own [],x10,x11,x12] =
  some (.nx [x0,.v (.int c),.v (.str (Str.ofString "abcdefghijklmnopqrstuvwxyz")),.v (.int (sz:Int)),x4,x5,x6,x7,.v (.int core),.own ((baseN (An c) (c/16) sz core).map λq=>.str (txS [q])),y10,y11,x12]):=by
 have H:∀k,k<sz->∀ds,(λj ds=>∃y10 y11:Sl,ds=[x0,.v (.int c),.v (.str (Str.ofString "abcdefghijklmnopqrstuvwxyz")),.v (.int (sz:Int)),x4,x5,x6,x7,.v (.int core),.own (((List.range j).map λj:Nat=>ltrB (An c j+stepN 26 core (((j:Int)+c/16)%(sz:Int)))).map λq=>.str (txS [q])),y10,y11,x12]) k ds->∃ds1 ds2,zN 10 (.int (k:Int)) ds=some ds1/\hJ ds1=some (.nx ds2)/\(λj ds=>∃y10 y11:Sl,ds=[x0,.v (.int c),.v (.str (Str.ofString "abcdefghijklmnopqrstuvwxyz")),.v (.int (sz:Int)),x4,x5,x6,x7,.v (.int core),.own (((List.range j).map λj:Nat=>ltrB (An c j+stepN 26 core (((j:Int)+c/16)%(sz:Int)))).map λq=>.str (txS [q])),y10,y11,x12]) (k+1) ds2:=by
  intro k hk ds hP;obtain⟨y10,y11,rfl⟩:=hP;have kk:eS (k:Int) (k:Int):=dG (qC (m:=64) (by lia)) (qC (m:=64) (by lia)) (by decide);have kb:(0:Int)<=(k:Int)*k/\(k:Int)*k<=64:=⟨Int.mul_nonneg (by lia) (by lia),fF (FG (show(k:Int)<=8 by lia) (show(k:Int)<=8 by lia) (by lia) (by lia)) (by decide)⟩
  have k5:eS ((k:Int)*k) 7:=dG (qC (m:=64) (by lia)) (qC (m:=64) (by decide)) (by decide);have r1:=xE ((k:Int)+c/16) (show 0<(sz:Int) by lia);have r0:=fR ((k:Int)+c/16) (show(sz:Int)≠0 by lia);have st:=step_at 26 core (((k:Int)+c/16)%(sz:Int)) r0;have f1:=uK c (show 0<(k:Int)+3 by lia) (by lia);have ab:=aFu (An c k+stepN 26 core (((k:Int)+c/16)%(sz:Int)));generalize hst:stepN 26 core (((k:Int)+c/16)%(sz:Int))=sv at *;generalize hr:((k:Int)+c/16)%(sz:Int)=r at *;refine⟨_,_,rfl,?_,.v (.int (k:Int)),.v (.int sv),rfl⟩;have z:k<16777216:=by lia
  unfold An at ab;rw[oZ,cU,cU];simp only[aQ,cR,hr,hst];generalize hR:(List.map (λq=>D.str (txS [q])) (List.map (λj:Nat=>ltrB (An c j+stepN 26 core (((j:Int)+c/16)%(sz:Int)))) (List.range k)))=R;have lR:R.length=k:=by rw[<-hR];simp
  unfold An;generalize hL:D.str (Str.ofString "abcdefghijklmnopqrstuvwxyz")=L at *;unfold hJ;rw[zM (ds':=[x0,.v (.int c),.v L,.v (.int (sz:Int)),x4,x5,x6,x7,.v (.int core),.own R,.v (.int (k:Int)),.v (.int sv),x12]) (by simp[r1,mnD,st])];simp[f1,qW kk,qW k5,ab,lR,z]
 obtain⟨ds',e,y10,y11,hP⟩:=xV (ga:=zN 10) (body:=hJ) (λj ds=>∃y10 y11:Sl,ds=[x0,.v (.int c),.v (.str (Str.ofString "abcdefghijklmnopqrstuvwxyz")),.v (.int (sz:Int)),x4,x5,x6,x7,.v (.int core),.own (((List.range j).map λj:Nat=>ltrB (An c j+stepN 26 core (((j:Int)+c/16)%(sz:Int)))).map λq=>.str (txS [q])),y10,y11,x12]) sz H sz 0 _ (by lia) ⟨x10,x11,rfl⟩;subst hP;refine⟨y10,y11,?_⟩;rw[<-nP]at e;have ok:okR (sz:Int):=wP (by lia) (by lia);rw[xN];simp only[List.range_zero,cR]at e;simp[ok,e,baseN]
noncomputable def nmK(c:Int)(sz more:Nat)(i:Nat):List Nat:=baseN (An c) (c/16) sz ((i:Int)/(1+(more:Int)))++if more=1/\i%2=1 then [ltrB (c/11)]else []
def outer c(sz more many:Nat)(h1:1<=sz)(h8:sz<=8)(hm:more<=1)(hn:many<=60) x0:∃y7 y8 y9 y10 y11 y12:Sl,forG (rng1 (qB 5)) (zN 7) hG [x0,.v (.int c),.v (.str (Str.ofString "abcdefghijklmnopqrstuvwxyz")),.v (.int (sz:Int)),.v (.int (more:Int)),.v (.int (many:Int)),.own [],.no,.no,.no,.no,.no,.no] =
  some (.nx [x0,.v (.int c),.v (.str (Str.ofString "abcdefghijklmnopqrstuvwxyz")),.v (.int (sz:Int)),.v (.int (more:Int)),.v (.int (many:Int)),.own (((List.range many).map λi=>txS (nmK c sz more i)).map D.str),y7,y8,y9,y10,y11,y12]):=by
 have H:∀k,k<many->∀ds,(λj ds=>∃y7 y8 y9 y10 y11 y12:Sl,ds=[x0,.v (.int c),.v (.str (Str.ofString "abcdefghijklmnopqrstuvwxyz")),.v (.int (sz:Int)),.v (.int (more:Int)),.v (.int (many:Int)),.own (((List.range j).map λi=>txS (nmK c sz more i)).map D.str),y7,y8,y9,y10,y11,y12]) k ds->∃ds1 ds2,zN 7 (.int (k:Int)) ds=some ds1/\hG ds1=some (.nx ds2)/\(λj ds=>∃y7 y8 y9 y10 y11 y12:Sl,ds=[x0,.v (.int c),.v (.str (Str.ofString "abcdefghijklmnopqrstuvwxyz")),.v (.int (sz:Int)),.v (.int (more:Int)),.v (.int (many:Int)),.own (((List.range j).map λi=>txS (nmK c sz more i)).map D.str),y7,y8,y9,y10,y11,y12]) (k+1) ds2:=by
  intro k hk ds hP;obtain⟨y7,y8,y9,y10,y11,y12,rfl⟩:=hP;have f1:=uK (k:Int) (show 0<1+(more:Int) by lia) (by lia);have ab:=aFu (c/11);dsimp only;rw[oZ,cU,cU];simp only[aQ,cR];generalize hR:(List.map D.str (List.map (λi=>txS (nmK c sz more i)) (List.range k)))=R;have lR:R.length=k:=by rw[<-hR];simp
  have z:k<16777216:=by lia
  obtain⟨z10,z11,ei⟩:=innerNQ c ((k:Int)/(1+(more:Int))) sz h1 h8 x0 (.v (.int (more:Int))) (.v (.int (many:Int))) (.own R) (.v (.int (k:Int))) y10 y11 y12;unfold nmK;have lb:=xD (An c) (c/16) sz ((k:Int)/(1+(more:Int)));have jn:=XW (baseN (An c) (c/16) sz ((k:Int)/(1+(more:Int)))) (by lia);have ad:=add_tx (baseN (An c) (c/16) sz ((k:Int)/(1+(more:Int)))) [ltrB (c/11)] (by simp;lia);generalize hB:baseN (An c) (c/16) sz ((k:Int)/(1+(more:Int)))=B at *;refine⟨_,[x0,.v (.int c),.v (.str (Str.ofString "abcdefghijklmnopqrstuvwxyz")),.v (.int (sz:Int)),.v (.int (more:Int)),.v (.int (many:Int)),.own (R++[D.str (txS (B++if more=1/\k%2=1 then [ltrB (c/11)]else []))]),.v (.int (k:Int)),.v (.int ((k:Int)/(1+(more:Int)))),.own (B.map λq=>.str (txS [q])),z10,z11,.v (.str (txS (B++if more=1/\k%2=1 then [ltrB (c/11)]else [])))],rfl,?_,_,_,_,_,_,_,rfl⟩;simp only[eO,dP];unfold hG;generalize hL:D.str (Str.ofString "abcdefghijklmnopqrstuvwxyz")=L at *
  rw[zM (ds':=[x0,.v (.int c),.v L,.v (.int (sz:Int)),.v (.int (more:Int)),.v (.int (many:Int)),.own R,.v (.int (k:Int)),.v (.int ((k:Int)/(1+(more:Int)))),y9,y10,y11,y12]) (by simp[f1]),
   zM (ds':=[x0,.v (.int c),.v L,.v (.int (sz:Int)),.v (.int (more:Int)),.v (.int (many:Int)),.own R,.v (.int (k:Int)),.v (.int ((k:Int)/(1+(more:Int)))),.own [],y10,y11,y12]) (by simp),
   zM ei,zM (ds':=[x0,.v (.int c),.v L,.v (.int (sz:Int)),.v (.int (more:Int)),.v (.int (many:Int)),.own R,.v (.int (k:Int)),.v (.int ((k:Int)/(1+(more:Int)))),.own (B.map λq=>.str (txS [q])),z10,z11,.v (.str (txS B))]) (by simp[jn])]
  by_cases hmo:more=1/\k%2=1
  . obtain ⟨rfl,hk2⟩:=hmo;have hk3:(k:Int) % 2=1:=by lia
    rw[zM (ds':=[x0,.v (.int c),.v L,.v (.int (sz:Int)),.v (.int ((1:Nat):Int)),.v (.int (many:Int)),.own R,.v (.int (k:Int)),.v (.int ((k:Int)/(1+((1:Nat):Int)))),.own (B.map λq=>.str (txS [q])),z10,z11,.v (.str (txS (B++[ltrB (c/11)])))]) (by simp[hk3,ab,ad])];simp[lR,z,hk2]
  . have hT:(andT (zK (zF eqD (zG 4) (zA (.int 1)))) (zK (zF eqD (zF jA (zG 7) (zA (.int 2))) (zA (.int 1))))) [x0,.v (.int c),.v L,.v (.int (sz:Int)),.v (.int (more:Int)),.v (.int (many:Int)),.own R,.v (.int (k:Int)),.v (.int ((k:Int)/(1+(more:Int)))),.own (B.map λq=>.str (txS [q])),z10,z11,.v (.str (txS B))]=some false:=by
     by_cases h3:(more:Int)=1
     . have h4:¬(k:Int)%2=1:=λz=>hmo ⟨by lia,by lia⟩;simp[h3,h4]
     . simp[h3]
    rw[zM (ds':=[x0,.v (.int c),.v L,.v (.int (sz:Int)),.v (.int (more:Int)),.v (.int (many:Int)),.own R,.v (.int (k:Int)),.v (.int ((k:Int)/(1+(more:Int)))),.own (B.map λq=>.str (txS [q])),z10,z11,.v (.str (txS B))]) (by
     unfold ifG
     rw[hT];rfl)]
    simp[lR,z,hmo]
 obtain⟨ds',e,y7,y8,y9,y10,y11,y12,hP⟩:=xV (ga:=zN 7) (body:=hG) (λj ds=>∃y7 y8 y9 y10 y11 y12:Sl,ds=[x0,.v (.int c),.v (.str (Str.ofString "abcdefghijklmnopqrstuvwxyz")),.v (.int (sz:Int)),.v (.int (more:Int)),.v (.int (many:Int)),.own (((List.range j).map λi=>txS (nmK c sz more i)).map D.str),y7,y8,y9,y10,y11,y12]) many H many 0 _ (by lia) ⟨.no,.no,.no,.no,.no,.no,rfl⟩;subst hP;refine⟨y7,y8,y9,y10,y11,y12,?_⟩;rw[<-nP]at e;have ok:okR (many:Int):=wP (by lia) (by lia);rw[xN];simp only[List.range_zero,cR]at e;simp[ok,e]
def nm_ok1 c sz more i(h1:1<=sz)(h8:sz<=8)(hm:more=1->sz<8):NmS (txS (nmK c sz more i)):=by
 refine⟨_,⟨?_,?_,?_⟩,rfl⟩
 . unfold nmK;rw[bX,xD];lia
 . unfold nmK;rw [bX,xD];split
   . rename_i h;have:=hm h.1;simp;lia
   . simp;lia
 . refine (aFn _ _ _ _).app ?_;split
   . intro x hx;rw[aO.mp hx];exact aDn _
   . intro x hx;cases hx
def nm_inj c sz more many(h1:1<=sz)(hm:more<=1)(hn:many<=60)(h26:sz=1->many<=26):((List.range many).map λi=>txS (nmK c sz more i)).Nodup:=by
 rw[List.Nodup,tH];refine sX ?_ List.nodup_range;intro i j hi hj hne e;rw[nD]at hi hj;have e:=txS_inj.mp e;unfold nmK at e;have hl:=congrArg List.length e;rw[bX,bX,xD,xD]at hl;have bi:=xD (An c) (c/16) sz ((i:Int)/(1+(more:Int)));have bj:=xD (An c) (c/16) sz ((j:Int)/(1+(more:Int)));have hb:=(List.append_inj e (by rw[bi,bj])).1;have rg:∀k:Nat,k<many->0<=(k:Int)/(1+(more:Int))/\(k:Int)/(1+(more:Int))<676/\(sz=1->(k:Int)/(1+(more:Int))<26):=by
  intro k hk;rcases(by lia:more=0\/more=1)with rfl|rfl
  . simp only[oO,Int.add_zero,Int.ediv_one];exact⟨by lia,by lia,λz=>by have:=h26 z;lia⟩
  . refine⟨by lia,by lia,λz=>by have:=h26 z;lia⟩
 have hc:=aFo h1 (rg i hi) (rg j hj) hb;rcases(by lia:more=0\/more=1)with rfl|rfl
 . simp only [oO,Int.add_zero,Int.ediv_one]at hc
   lia
 . have par:i%2=j%2:=by
    rcases(by lia:i%2=0\/i%2=1)with a|a<;>rcases(by lia:j%2=0\/j%2=1)with b|b<;>simp[a,b]at hl ⊢
   simp only[Int.natCast_one]at hc
   lia
def aDk h c:∃ns:List Str,1<=ns.length/\ns.length<=60/\(∀x∈ns,NmS x)/\ns.Nodup/\lH [.int h,.int c]=some (.fresh (ns.map D.str)):=by
 obtain⟨sz,hsz,h1,h8⟩:∃sz:Nat,1+c%8=(sz:Int)/\1<=sz/\sz<=8:=⟨(1+c%8).toNat,by lia,by lia,by lia⟩
 obtain⟨more,hmo,hm1,hm8⟩:∃more:Nat,callB int1D (zC (andV (zF ltD (zG 3) (zA (.int 8))) (zF eqD (zF jA (zF qT (zG 1) (zA (.int 8))) (zA (.int 2))) (zA (.int 1)))) zT) [.v (.int h),.v (.int c),.v (.str (Str.ofString "abcdefghijklmnopqrstuvwxyz")),.v (.int (sz:Int)),.no,.no,.no,.no,.no,.no,.no,.no,.no]=some (.int (more:Int))/\more<=1/\(more=1->sz<8):=by
  by_cases q1:(sz:Int)<8
  . by_cases q2:c / 8 % 2=1
    . exact⟨1,by simp[q1,q2,int1D],by lia,λ_=>by lia⟩
    . exact⟨0,by simp[q1,q2,int1D],by lia,λz=>by lia⟩
  . exact⟨0,by simp[q1,int1D],by lia,λz=>by lia⟩
 obtain⟨mn,hmn,n1,n60⟩:∃mn:Int,ixD (.lst [.int (h/4%5),.int (h/4%60)]) (.int (h%4/3))=some (.int mn)/\0<=mn/\mn<60:=by obtain⟨g,hg,e⟩:=aAr (h/4%5) (h/4%60) (r:=h%4/3) (by lia) (by lia);exact⟨g,e,by lia,by lia⟩
 obtain⟨many,hmany,m1,m60,m26⟩:∃many:Nat,(∀x0 x1 x2 x4 x6 x7 x8 x9 x10 x11 x12:Sl,ifG (zK (zF eqD (zG 3) (zA (.int 1)))) (jK 5 (callB mnD (zC (zG 5) (zC (zA (.int 26)) zT)))) qJ [x0,x1,x2,.v (.int (sz:Int)),x4,.v (.int (1+mn)),x6,x7,x8,x9,x10,x11,x12]=some (.nx [x0,x1,x2,.v (.int (sz:Int)),x4,.v (.int (many:Int)),x6,x7,x8,x9,x10,x11,x12]))/\1<=many/\many<=60/\(sz=1->many<=26):=by
  by_cases q:(sz:Int)=1
  . by_cases q2:26 < 1+mn
    . exact⟨26,λ_ _ _ _ _ _ _ _ _ _ _=>by simp[q,mnD,q2],by lia,by lia,λ_=>by lia⟩
    . exact⟨(1+mn).toNat,λ_ _ _ _ _ _ _ _ _ _ _=>by rw[sJ (by lia)];simp[q,mnD,q2],by lia,by lia,λ_=>by lia⟩
  . exact⟨(1+mn).toNat,λ_ _ _ _ _ _ _ _ _ _ _=>by rw[sJ (by lia)];simp[q],by lia,by lia,λz=>by lia⟩
 obtain⟨y7,y8,y9,y10,y11,y12,eo⟩:=outer c sz more many h1 h8 hm1 m60 (.v (.int h));have fl:flats (((List.range many).map λi=>txS (nmK c sz more i)).map D.str)=true:=by
  generalize (List.range many).map (λi=>txS (nmK c sz more i))=l;induction l with
  |nil=>simp
  |cons a r ih=>simp[ih,flat]
 refine⟨(List.range many).map λi=>txS (nmK c sz more i),by simpa using m1,by simpa using m60,λx hx=>?_,nm_inj c sz more many h1 hm1 m60 m26,xI ?_⟩
 . obtain⟨i,_,rfl⟩:=bN.mp hx;exact nm_ok1 c sz more i h1 h8 hm8
 . unfold nM;generalize hR:((List.range many).map λi=>txS (nmK c sz more i)).map D.str=R at *;generalize hL:D.str (Str.ofString "abcdefghijklmnopqrstuvwxyz")=L at *
   rw[zM (ds':=[.v (.int h),.v (.int c),.v L,.no,.no,.no,.no,.no,.no,.no,.no,.no,.no]) (by simp[args,hL]),
    zM (ds':=[.v (.int h),.v (.int c),.v L,.v (.int (sz:Int)),.no,.no,.no,.no,.no,.no,.no,.no,.no]) (by simp[hsz]),
    zM (ds':=[.v (.int h),.v (.int c),.v L,.v (.int (sz:Int)),.v (.int (more:Int)),.no,.no,.no,.no,.no,.no,.no,.no]) (by rw[setG_eq,hmo];rfl),
    zM (ds':=[.v (.int h),.v (.int c),.v L,.v (.int (sz:Int)),.v (.int (more:Int)),.v (.int (1+mn)),.no,.no,.no,.no,.no,.no,.no]) (by simp[hmn]),
    zM (hmany _ _ _ _ _ _ _ _ _ _ _),
    zM (ds':=[.v (.int h),.v (.int c),.v L,.v (.int (sz:Int)),.v (.int (more:Int)),.v (.int (many:Int)),.own [],.no,.no,.no,.no,.no,.no]) (by simp),
    zM eo]
   simp[retXG,flatF,fl]
noncomputable abbrev tg3:D->List Sl->Option (List Sl):=tupG 3 (zW (zN 4) (zW (zN 5) (zW (zN 6) tgNil)))
def phi_sum u v:gG (.clo 1000 3 []) [oi u,oi v]=some (.val (oi (sumW u v))):=by have:=WD u v;unfold gG phiOf;simp[fnF,List.lookup,this]
def aEg s p x0 x2 x3 x4 x6 x7:(andT (orT (zK (zF isD (zF ixD (zG 5) (zA (.int 0))) (zA .non))) (zK (zF leD (zF ixD (zG 5) (zA (.int 0))) (zG 1)))) (orT (zK (zF isD (zF ixD (zG 5) (zA (.int 1))) (zA .non))) (zK (zF ltD (zG 1) (zF ixD (zG 5) (zA (.int 1))))))) [x0,.v (.int p),x2,x3,x4,.v (spD s),x6,x7]=some (hasS s p):=by
 obtain⟨a,b⟩:=s;cases a with
 |none=>
   cases b with
   |none=>simp[hasS]
   |some b=>by_cases h2:p<b<;>simp[hasS,h2]
 |some a=>
   cases b with
   |none=>by_cases h1:a<=p<;>simp[hasS,h1]
   |some b=>
     by_cases h1:a<=p
     . by_cases h2:p<b<;>simp[hasS,h1,h2]
     . simp[hasS,h1]
theorem CH p x0 x2 x7:∀(ds:Dvs) K V x4 x5 x6,K.Nodup->K.length+ds.length<=1000->(∀y,y∉K->V y=none) →
  ∃(K':List Str) (y4 y5 y6:Sl),K'.Nodup/\K'.length<=K.length+ds.length/\(∀y∈K',y∈K\/y∈ds.map (·.1))/\(∀y,y∉K'->ds.foldl (vstep y p) (V y)=none) ∧
   qQ tg3 gH (ds.map dvD) [x0,.v (.int p),x2,.ob none (.dct (K.map Sum.inr) ((lieV K V).map OT.val)),x4,x5,x6,x7]=some (.nx [x0,.v (.int p),x2,.ob none (.dct (K'.map Sum.inr) ((lieV K' λy=>ds.foldl (vstep y p) (V y)).map OT.val)),y4,y5,y6,x7])
 |[],K,V,x4,x5,x6,nd,_,hV=>⟨K,x4,x5,x6,nd,by simp,λy hy=>.inl hy,hV,rfl⟩
 |d::ds,K,V,x4,x5,x6,nd,hl,hV=>by
   obtain⟨n,s,v⟩:=d;simp only[aH]at hl;have tg:tg3 (dvD (n,s,v)) [x0,.v (.int p),x2,.ob none (.dct (K.map Sum.inr) ((lieV K V).map OT.val)),x4,x5,x6,x7]=some [x0,.v (.int p),x2,.ob none (.dct (K.map Sum.inr) ((lieV K V).map OT.val)),.v (.str n),.v (spD s),.v (oi v),x7]:=by simp[tg3,dvD]
   have ht:=aEg s p x0 x2 (.ob none (.dct (K.map Sum.inr) ((lieV K V).map OT.val))) (.v (.str n)) (.v (oi v)) x7;by_cases hh:hasS s p=true
   . have ln:(if n∈K then K else K++[n]).length<=K.length+1:=by split <;> simp
     have nd':(if n∈K then K else K++[n]).Nodup:=by
      split
      . exact nd
      . rename_i h;exact cJ.mpr ⟨nd,by simp,λa ha b hb e=>h (by rw[aO.mp hb]at e;rw[<-e];exact ha)⟩
     have mem:∀y,y∈(if n∈K then K else K++[n])↔y∈K\/y=n:=λy=>by
      split
      . rename_i h;exact⟨.inl,λz=>z.elim id λe=>by rw[e];exact h⟩
      . simp
     obtain⟨K',y4,y5,y6,e1,e2,e3,e4,e5⟩:=CH p x0 x2 x7 ds (if n∈K then K else K++[n]) (λy=>if y=n then v else V y) (.v (.str n)) (.v (spD s)) (.v (oi v)) nd' (by omega) λy hy=>by have:=mt (mem y).mpr hy;rw[not_or]at this;rw[if_neg this.2];exact hV y this.1
     have st:∀y,vstep y p (V y) (n,s,v)=if y=n then v else V y:=λy=>by
      unfold vstep;by_cases e:y=n
      . subst e;simp[hh]
      . rw[if_neg (λz=>e z.1.symm),if_neg e]
     refine⟨K',y4,y5,y6,e1,by simp;omega,λy hy=>?_,λy hy=>?_,?_⟩
     . rcases e3 y hy with z|z
       . rcases (mem y).mp z with z|z
         . exact .inl z
         . exact .inr (by rw[z];exact .head _)
       . exact .inr (.tail _ z)
     . rw[cB,st];exact e4 y hy
     . have z:(K.map (Sum.inr:Str->Key)).length < 16777216:=by simp;omega
       have turn:gH [x0,.v (.int p),x2,.ob none (.dct (K.map Sum.inr) ((lieV K V).map OT.val)),.v (.str n),.v (spD s),.v (oi v),x7]=some (.nx [x0,.v (.int p),x2,.ob none (.dct ((if n∈K then K else K++[n]).map Sum.inr) ((lieV (if n∈K then K else K++[n]) λy=>if y=n then v else V y).map OT.val)),.v (.str n),.v (spD s),.v (oi v),x7]):=by have pk:=WL (.inr n) (oi v) (K.map Sum.inr) (lieV K V);rw[lie_put K V n v nd]at pk;unfold gH ifG;rw[ht,hh];generalize hKK:(if n∈K then K else K++[n])=KK at *;generalize lieV K V=LV at *;generalize K.map (Sum.inr:Str->Key)=KM at *;simp only[aR,if_true];unfold dputG;simp[varP,keyD,z,putP,putO,pk]
       simp only[aQ,qQ,tg,aR,turn];rw[e5];simp only[cB,st]
   . have st:∀y,vstep y p (V y) (n,s,v)=V y:=λy=>by
      unfold vstep;rw[if_neg (λz=>hh z.2)]
     obtain⟨K',y4,y5,y6,e1,e2,e3,e4,e5⟩:=CH p x0 x2 x7 ds K V (.v (.str n)) (.v (spD s)) (.v (oi v)) nd (by omega) hV;refine⟨K',y4,y5,y6,e1,by simp;omega,λy hy=>?_,λy hy=>?_,?_⟩
     . rcases e3 y hy with z|z
       . exact .inl z
       . exact .inr (.tail _ z)
     . rw[cB,st];exact e4 y hy
     . have turn:gH [x0,.v (.int p),x2,.ob none (.dct (K.map Sum.inr) ((lieV K V).map OT.val)),.v (.str n),.v (spD s),.v (oi v),x7]=some (.nx [x0,.v (.int p),x2,.ob none (.dct (K.map Sum.inr) ((lieV K V).map OT.val)),.v (.str n),.v (spD s),.v (oi v),x7]):=by
        unfold gH ifG;rw[ht];simp[hh]
       simp only[aQ,qQ,tg,aR,turn];rw[e5];simp only[cB,st]
noncomputable def dueT(ds:Dvs)(l:Bts)(p:Int):Int:=(l.map λq=>if vF ds q.1 p=some 1 then q.2 else 0).sum
noncomputable def dueO(t:Int):Option Int:=if t=0 then none else some t
def due74{ns:List Str}(nd:(l.map (·.1)).Nodup)(nn:ns.Nodup)(hd:ds.length<=900)(h1:∀d∈ds,d.1∈ns)(h2:∀q∈l,q.1∈ns) p:iU [.lst (ds.map dvD),.int p,.dct (btK l) (btV l)]=some (.val (oi (dueO (dueT ds l p)))):=by
 obtain⟨K,y4,y5,y6,e1,e2,e3,e4,e5⟩:=CH p (.v (.lst (ds.map dvD))) (.v (.dct (btK l) (btV l))) .no ds [] (λ_=>none) .no .no .no EG (by simp;lia) λ_ _=>rfl;have e4':∀y,y∉K->vF ds y p=none:=e4;have e5':qQ tg3 gH (ds.map dvD) [.v (.lst (ds.map dvD)),.v (.int p),.v (.dct (btK l) (btV l)),.ob none (.dct [] []),.no,.no,.no,.no]=some (.nx [.v (.lst (ds.map dvD)),.v (.int p),.v (.dct (btK l) (btV l)),.ob none (.dct (K.map Sum.inr) ((lieV K λy=>vF ds y p).map OT.val)),y4,y5,y6,.no]):=e5;have sm:((K.filter λy=>decide (vF ds y p=some 1)&&decide (y∈l.map (·.1))).map (btF l)).sum=dueT ds l p:=by
  rw[BG];have s1:=ID (λy=>if (decide (vF ds y p=some 1)&&decide (y∈l.map (·.1)))=true then btF l y else 0) K ns e1 nn (λy hy=>by
   rcases e3 y hy with z|z
   . cases z
   . obtain ⟨d,hd,rfl⟩:=bN.mp z
     exact h1 d hd) λy _ hk=>by simp[e4' y hk]
  have s2:=ID (λy=>if (decide (vF ds y p=some 1)&&decide (y∈l.map (·.1)))=true then btF l y else 0) (l.map (·.1)) ns nd nn (λy hy=>by
   obtain⟨q,hq,rfl⟩:=bN.mp hy
   exact h2 q hq) λy _ hk=>by simp only[decide_eq_false hk,Bool.and_false,bS,if_false]
  rw[s1,<-s2,cV];unfold dueT;congr 1;refine gB λq hq=>?_;simp only[Function.comp_apply];rw[btF_mem nd hq];have:q.1∈l.map (·.1):=bN.mpr ⟨q,hq,rfl⟩;simp[this]
 generalize dueT ds l p=T at *;have comp:∀y4 y5 y6:Sl,compG (keysA (qB 3)) [none,some 2,some 3] (zN 0) (andT (zK (zF eqD (dgetG (qB 2) (qB 0)) (zA (.int 1)))) (dinG (zG 0) (zG 1))) (dgetG (qB 1) (qB 0)) [.v (.lst (ds.map dvD)),.v (.int p),.v (.dct (btK l) (btV l)),.v (.dcf (K.map Sum.inr) (lieV K λy=>vF ds y p)),y4,y5,y6,.no]=some (((K.filter λy=>decide (vF ds y p=some 1)&&decide (y∈l.map (·.1))).map (btF l)).map D.int):=λy4 y5 y6=>by
  refine yM (items:=K.map D.str) (by simp[keysA,keyDD]) (by simp;simp at e2;lia) ?_;rw[wQ D.str (λy=>decide (vF ds y p=some 1)&&decide (y∈l.map (·.1))) (λy=>D.int (btF l y))]
  . rw[cV];rfl
  . intro y hy;have g:=lie_get (V:=λy=>vF ds y p) hy;have hh:=RJ l y;refine ⟨_,rfl,?_,λht=>?_⟩
    . have eo:=aFa (vF ds y p) (some 1);simp only [jJ];have eo':eqD (oi (vF ds y p)) (.int 1)=some (.bl (decide (vF ds y p=some 1))):=eo;cases hd:decide (vF ds y p=some 1)with
      |false=>rw[hd]at eo';simp[dgetG,keyD,kdD,g,eo']
      |true=>rw[hd]at eo';simp[dgetG,keyD,kdD,g,eo',dinG,hh]
    . simp only[bV,decide_eq_true_eq]at ht;have:=bt_get (l:=l) ht.2;simp[jJ,dgetG,keyD,kdD,this]
 have vv:=FM (lieV K λy=>vF ds y p);have si:=vU ((K.filter λy=>decide (vF ds y p=some 1)&&decide (y∈l.map (·.1))).map (btF l));refine xI ?_;unfold pC;generalize hDD:ds.map dvD=DD at *;generalize hLV:(lieV K λy=>vF ds y p)=LV at *;generalize hKM:K.map (Sum.inr:Str->Key)=KM at *;generalize hFL:(K.filter λy=>decide (vF ds y p=some 1)&&decide (y∈l.map (·.1))).map (btF l)=FF at *;generalize compG (keysA (qB 3)) [none,some 2,some 3] (zN 0) (andT (zK (zF eqD (dgetG (qB 2) (qB 0)) (zA (.int 1)))) (dinG (zG 0) (zG 1))) (dgetG (qB 1) (qB 0))=C at *
 rw[zM (ds':=[.v (.lst DD),.v (.int p),.v (.dct (btK l) (btV l)),.ob none (.dct [] []),.no,.no,.no,.no]) (by simp[args,dO0]),
  zM (ds':=[.v (.lst DD),.v (.int p),.v (.dct (btK l) (btV l)),.ob none (.dct KM (LV.map OT.val)),y4,y5,y6,.no]) (by
   rw[xN]
   simp[e5']),
  zM (ds':=[.v (.lst DD),.v (.int p),.v (.dct (btK l) (btV l)),.v (.dcf KM LV),y4,y5,y6,.v (.int T)]) (by
   unfold frzDG
   simp[vv,comp,sumD,si,sm])]
 by_cases hT:T=0
 . simp[hT,int1D,dueO]
 . simp[hT,int1D,dueO]
def last_of:ixD (.lst (l++[d])) (.int (-1))=some d:=by show(atI (l++[d]) (-1))=some d;unfold atI;rw[MP (by simp)];simp
def aCu c k es(hne:0<es.length)(hc:intBits c<=1048576)(hk:0<=k)(hk':k<=1000)(hl:es.length+2<16777216):∃s a b,okS s/\mF (oT es) [.int c,.int k,.non]=some (spD s,oT (es++[a,b])):=
 over_ex 16807 69621 104729 48271 39373 15487 (by decide) c k es hne hc hk hk' hl
noncomputable def pw2(w:Int):List Str->Bts
 |[]=>[]
 |y::r=>(y,w)::pw2 (w*2) r
theorem wO:∀S w,(pw2 w S).map (·.1)=S
 |[],_=>rfl
 |y::r,w=>by simp[pw2,wO r]
theorem SK:∀S w k h,(pw2 w S)[k]?=some (S[k],w*2^k)
 |y::r,w,0,h=>by simp[pw2]
 |y::r,w,k+1,h=>by have:=SK r (w*2) k (by simpa using h);simp only[pw2,dY,KC,this];rw[Int.pow_succ,Int.mul_assoc,Int.mul_comm 2]
def pw2_len S w:(pw2 w S).length=S.length:=by have:=congrArg List.length (wO S w);simpa using this
noncomputable def pickN(ns:List Str)(c:Int):Str:=ns.getD (c/2%(ns.length:Int)).toNat ""
def BX(h:1<=ns.length) c:pickN ns c∈ns/\ixD (.lst (ns.map D.str)) (.int (c/2%(ns.length:Int)))=some (.str (pickN ns c)):=by
 have i0:=fR (c/2) (show(ns.length:Int)≠0 by lia);have i1:=kP (c/2) (show 0<(ns.length:Int) by lia);have hlt:(c/2%(ns.length:Int)).toNat<ns.length:=by lia
 unfold pickN;rw[eE,aF hlt,yK _ i0 (by simpa using i1)];exact⟨iI hlt,by simp[hlt]⟩
noncomputable def cC(ns:List Str)(c:Int):Bts:=if c%2=0 then [(pickN ns c,1)]else pw2 1 (srtT ns)
def bits_nd(nd:ns.Nodup) c:((cC ns c).map (·.1)).Nodup:=by
 unfold cC;split
 . simp
 . rw[wO];exact(srtT_perm ns).nodup_iff.mpr nd
def aFk(h:1<=ns.length) c:∀q∈cC ns c,q.1∈ns:=λq hq=>by
 unfold cC at hq;split at hq
 . rw[aO.mp hq];exact(BX h c).1
 . have:q.1∈(pw2 1 (srtT ns)).map (·.1):=bN.mpr ⟨q,hq,rfl⟩;rw[wO]at this;exact(srtT_perm ns).mem_iff.mp this
def flat_bt l:flatO (.dct (btK l) ((btV l).map OT.val))=true:=by
 have:flats (btV l)=true:=by unfold btV;have:=DA (l.map (·.2));rwa [cV]at this
 simp[flatO,xG,this]
def VE(h:1<=ns.length)(h60:ns.length<=60)(nd:ns.Nodup) c:gI [.lst (ns.map D.str),.int c]=some (.obj (.dct (btK (cC ns c)) ((btV (cC ns c)).map OT.val))):=by
 have fl:=flat_bt (cC ns c);obtain⟨_,pk⟩:=BX h c;have r1:=xE (c/2) (show 0<(ns.length:Int) by lia);unfold cC at fl ⊢;unfold gI;refine xI ?_;unfold oF;by_cases hc:c%2=0
 . rw [if_pos hc]at fl ⊢;have lN:(ns.map D.str).length=ns.length:=by simp
   generalize ns.map D.str=NS at *;rw[zM (ds':=[.v (.lst NS),.v (.int c),.ob none (.dct [] []),.no,.no]) (by simp[args,dO0])];have z0:([]:List Key).length<16777216:=by decide
   have e1:(qL (dputG (varP 2) (zF ixD (zG 0) (zF jA (zF qT (zG 1) (zA (.int 2))) (callB lenD (zC (zG 0) zT)))) (zA (.int 1))) (retBv 2)) [.v (.lst NS),.v (.int c),.ob none (.dct [] []),.no,.no]=some (.rt (.obj (.dct (btK [(pickN ns c,1)]) ((btV [(pickN ns c,1)]).map OT.val)))):=by
    rw[zM (ds':=[.v (.lst NS),.v (.int c),.ob none (.dct (btK [(pickN ns c,1)]) ((btV [(pickN ns c,1)]).map OT.val)),.no,.no]) (by
     unfold dputG
     simp[lN,r1,pk,varP,keyD,putP,putO,putKT,hasK,btK,btV])]
    unfold retBv;simp only[dY,fB,fl,if_true]
   have e2:(ifG (zK (zF eqD (zF jA (zG 1) (zA (.int 2))) (zA (.int 0)))) (qL (dputG (varP 2) (zF ixD (zG 0) (zF jA (zF qT (zG 1) (zA (.int 2))) (callB lenD (zC (zG 0) zT)))) (zA (.int 1))) (retBv 2)) qJ) [.v (.lst NS),.v (.int c),.ob none (.dct [] []),.no,.no]=some (.rt (.obj (.dct (btK [(pickN ns c,1)]) ((btV [(pickN ns c,1)]).map OT.val)))):=by
    have t:(zK (zF eqD (zF jA (zG 1) (zA (.int 2))) (zA (.int 0)))) [.v (.lst NS),.v (.int c),.ob none (.dct [] []),.no,.no]=some true:=by simp[hc]
    unfold ifG;rw[t];simp only[aR,if_true];exact e1
   unfold qL at *;rw[e2];rfl
 . rw [if_neg hc]at fl ⊢;have hp:=srtT_perm ns;have lS:=hp.length_eq;have ndS:(srtT ns).Nodup:=hp.nodup_iff.mpr nd;have st:srtTA (zG 0) [.v (.lst (ns.map D.str)),.v (.int c),.ob none (.dct [] []),.no,.no]=some ((srtT ns).map D.str):=by
    have z:ns.length<64:=by lia
    unfold srtTA;simp[xP,z]
   generalize hS:srtT ns=S at *;have H:∀k,k<S.length->∀ds,(λ(j:Nat) (ds:List Sl)=>∃y4:Sl,ds=[.v (.lst (ns.map D.str)),.v (.int c),.ob none (.dct (btK ((pw2 1 S).take j)) ((btV ((pw2 1 S).take j)).map OT.val)),.v (.lst (S.map D.str)),y4]) k ds->∃ds1 ds2,zN 4 (.int (k:Int)) ds=some ds1/\iL ds1=some (.nx ds2)/\(λ(j:Nat) (ds:List Sl)=>∃y4:Sl,ds=[.v (.lst (ns.map D.str)),.v (.int c),.ob none (.dct (btK ((pw2 1 S).take j)) ((btV ((pw2 1 S).take j)).map OT.val)),.v (.lst (S.map D.str)),y4]) (k+1) ds2:=by
    intro k hk ds hP;obtain⟨y4,rfl⟩:=hP;have hg:=SK S 1 k hk;rw[Int.one_mul]at hg;have tk:(pw2 1 S).take (k+1)=(pw2 1 S).take k++[(S[k],2^k)]:=by rw[List.take_succ,hg];rfl
    have hnew:hasK (.inr S[k]) (btK ((pw2 1 S).take k))=false:=by
     rw[RJ,decide_eq_false];intro z;rw[List.map_take,wO]at z;obtain⟨i,hi,e⟩:=dA z;rw[List.getElem_take]at e;have hik:i<k:=by have:=hi;rw[dW]at this;lia
     exact bP.mp ndS i k (by lia) hk hik e
    have ix:ixD (.lst (S.map D.str)) (.int (k:Int))=some (.str S[k]):=by rw[yK _ (by lia) (by simpa using hk)];simp[hk]
    have sh:shlD (.int 1) (.int (k:Int))=some (.int (2^k)):=by show(if 0<=(k:Int)/\(k:Int)<=1000/\(0:Int)<=1/\(1:Int)<=1000 then some (D.int (1*2^(k:Int).toNat))else none)=_;rw[if_pos ⟨by lia,by lia,by lia,by lia⟩];simp
    refine⟨_,_,rfl,?_,.v (.int (k:Int)),rfl⟩;rw[tk];have z:(btK ((pw2 1 S).take k)).length<16777216:=by simp[btK];lia
    generalize hA:(pw2 1 S).take k=A at *;have eK:btK (A++[(S[k],2^k)])=btK A++[.inr S[k]]:=by simp[btK]
    have eV:(btV (A++[(S[k],2^k)])).map OT.val=(btV A).map OT.val++[.val (.int (2^k))]:=by simp[btV]
    rw[eK,eV];generalize btK A=AK at *;generalize btV A=AV at *;simp only[eO,dP];unfold iL dputG;simp[ix,sh,varP,keyD,z,putP,putO,putKT,hnew]
   obtain⟨ds',e,y4,hP⟩:=xV (ga:=zN 4) (body:=iL) _ S.length H S.length 0 _ (by lia) ⟨.no,rfl⟩;subst hP;rw[<-nP]at e;have lp:=pw2_len S 1;rw[show(pw2 1 S).take S.length=pw2 1 S from cQ (by lia)]at e;simp only[EF]at e;have ok:okR (S.length:Int):=wP (by lia) (by lia);have hT:(zK (zF eqD (zF jA (zG 1) (zA (.int 2))) (zA (.int 0)))) [.v (.lst (ns.map D.str)),.v (.int c),.ob none (.dct [] []),.no,.no]=some false:=by simp[hc]
   have lN:(S.map D.str).length=S.length:=by simp
   generalize ns.map D.str=NS at *
   rw[zM (ds':=[.v (.lst NS),.v (.int c),.ob none (.dct [] []),.no,.no]) (by simp[args,dO0]),
    zM (ds':=[.v (.lst NS),.v (.int c),.ob none (.dct [] []),.no,.no]) (by unfold ifG;rw[hT];rfl),
    zM (ds':=[.v (.lst NS),.v (.int c),.ob none (.dct [] []),.v (.lst (S.map D.str)),.no]) (by simp[st]),
    zM (ds':=[.v (.lst NS),.v (.int c),.ob none (.dct (btK (pw2 1 S)) ((btV (pw2 1 S)).map OT.val)),.v (.lst (S.map D.str)),y4]) (by
     have e':qQ (zN 4) iL (iT 0 S.length) [.v (.lst NS),.v (.int c),.ob none (.dct [] []),.v (.lst (S.map D.str)),.no]=_:=e;generalize S.map D.str=SS at *;rw[xN]
     simp[lN,ok,e'])]
   unfold retBv;simp only[dY,fB,fl,if_true]
noncomputable def toldF(ns:List Str)(ds:Dvs)(c:Int):List Rw:=if c%2=0 then mapOf ds (pickN ns c)else lZ (wgh 1 ((srtT ns).map (mapOf ds))) []
def V1(ds:Dvs):Prop:=∀d∈ds,okS d.2.1/\(d.2.2=some 1\/d.2.2=none)
def V1.ok(h:V1 ds):∀d∈ds,okS d.2.1:=λd hd=>(h d hd).1
def aAp(h:V1 ds) y p:vF ds y p=some 1\/vF ds y p=none:=by
 unfold vF;have:∀(ds:Dvs) (b:Option Int),V1 ds->(b=some 1\/b=none)->(ds.foldl (vstep y p) b=some 1\/ds.foldl (vstep y p) b=none):=by
  intro ds;induction ds with
  |nil=>intro b _ hb;exact hb
  |cons d ds ih=>
    intro b h hb;rw[cB];refine ih _ (λe he=>h e (.tail _ he)) ?_;unfold vstep;split
    . exact(h d (.head _)).2
    . exact hb
 exact this ds none h (.inr rfl)
def MI(h:V1 ds) y:Stab (endsV ds) (mapOf ds y):=λp hp=>by rw[wK h.ok,wK h.ok,vF_same hp]
def aFq ns ds:(bOf ns ds).map (·.2)=(srtT ns).map (mapOf ds):=by unfold bOf;rw[cV];rfl
def aAt(h:V1 ds) c:MapF (toldF ns ds c)/\(toldF ns ds c).length<=2*ds.length+1/\∀p,valL (toldF ns ds c) p=dueO (dueT ds (cC ns c) p):=by
 unfold toldF cC;by_cases hc:c%2=0
 . rw[if_pos hc,if_pos hc];refine⟨xS h.ok _,by have:=GZ h.ok (pickN ns c);lia,λp=>?_⟩;rw[wK h.ok];unfold dueT dueO;rcases aAp h (pickN ns c) p with e|e<;>simp[e]
 . rw [if_neg hc,if_neg hc];obtain⟨a,b,e⟩:=FR (E:=endsV ds) (wgh 1 ((srtT ns).map (mapOf ds))) [] MapF.nil (λp _=>rfl) λm hm=>by obtain⟨m',hm',v,rfl⟩:=IA hm;obtain⟨y,_,rfl⟩:=bN.mp hm';exact⟨FI v (xS h.ok y).ord,AX (xS h.ok y) (MI h y) v⟩
   have lb:=KZ a b;have le:=kG ds;refine⟨a,by lia,λp=>?_⟩;rw[e p,show valL [] p=none from rfl,MV p _ 1 none (by lia) λm hm r hr=>by
    obtain⟨y,_,rfl⟩:=bN.mp hm
    exact(xS h.ok y).val r hr]
   have key:∀(S:List Str) (w:Int),tot w ((S.map (mapOf ds)).map (valL · p))=dueT ds (pw2 w S) p:=by
    intro S;induction S with
    |nil=>intro w;rfl
    |cons y S ih=>intro w;simp only[aQ,tot,pw2,dueT,nU];rw[ih (w*2),wK h.ok];unfold dueT;rcases aAp h y p with q|q<;>simp[q]
   rw[key];rfl
def aAs(h1:1<=ns.length)(h60:ns.length<=60)(hn:∀x∈ns,NmS x)(nd:ns.Nodup)(h:V1 ds)(hd:ds.length<=900) c:iA [.ins 12 [.dcf (bkN (bOf ns ds)) (bkV (bOf ns ds))],.lst (ns.map D.str),.int c]=some (.fresh ((toldF ns ds c).map rwD)):=by
 have ok:=aFp hn nd h.ok;obtain⟨pm,pk⟩:=BX h1 c;have r1:=xE (c/2) (show 0<(ns.length:Int) by lia);have fl:=jQ (toldF ns ds c);have on:=UB ok (JQ pm ds) (M:=.dcf (bkN (bOf ns ds)) (bkV (bOf ns ds))) rfl;have on':cN 12 [.ins 12 [.dcf (bkN (bOf ns ds)) (bkV (bOf ns ds))],.str (pickN ns c)]=some (.fresh ((mapOf ds (pickN ns c)).map rwD)):=on;have se:=sets_eq phi_sum ok (by lia) (by rw[VF];lia) (E:=endsV ds) (by have:=kG ds;lia) λq hq=>by obtain⟨y,_,rfl⟩:=bN.mp hq;exact MI h y
 rw[aFq]at se;unfold toldF at fl ⊢;refine xI ?_;unfold oC;have lN:(ns.map D.str).length=ns.length:=by simp
 generalize hNS:ns.map D.str=NS at *;generalize D.dcf (bkN (bOf ns ds)) (bkV (bOf ns ds))=M at *;by_cases hc:c%2=0
 . rw [if_pos hc]at fl ⊢;generalize (mapOf ds (pickN ns c)).map rwD=R at *;have t:(zK (zF eqD (zF jA (zG 2) (zA (.int 2))) (zA (.int 0)))) [.v (.ins 12 [M]),.v (.lst NS),.v (.int c)]=some true:=by simp [hc]
   have e1:(retOG (methF 1 [12] cN (qB 0) (zC (zF ixD (zG 1) (zF jA (zF qT (zG 2) (zA (.int 2))) (callB lenD (zC (zG 1) zT)))) zT))) [.v (.ins 12 [M]),.v (.lst NS),.v (.int c)]=some (.rt (.fresh R)):=by unfold retOG;simp[methF,methR,lN,r1,pk,on',flatF,fl]
   have ar:args 3 [.ins 12 [M],.lst NS,.int c]=[.v (.ins 12 [M]),.v (.lst NS),.v (.int c)]:=by simp[args]
   rw[ar];unfold qL ifG;rw[t];simp only[aR,if_true];rw[e1];rfl
 . rw [if_neg hc]at fl ⊢;generalize (lZ (wgh 1 ((srtT ns).map (mapOf ds))) []).map rwD=R at *;have t:(zK (zF eqD (zF jA (zG 2) (zA (.int 2))) (zA (.int 0)))) [.v (.ins 12 [M]),.v (.lst NS),.v (.int c)]=some false:=by simp [hc]
   have ar:args 3 [.ins 12 [M],.lst NS,.int c]=[.v (.ins 12 [M]),.v (.lst NS),.v (.int c)]:=by simp[args]
   rw[ar,zM (ds':=[.v (.ins 12 [M]),.v (.lst NS),.v (.int c)]) (by unfold ifG;rw[t];rfl)];unfold retOG;simp[methF,methR,se,flatF,fl]
def KQ(h1:1<=ns.length)(h60:ns.length<=60)(hn:∀x∈ns,NmS x)(nd:ns.Nodup)(h:V1 ds)(hd:ds.length<=900)(hT:BT T (bOf ns ds)) c f x0 x3 x4 x5 x6 x7 x8 x9 x10 x11 x12(hf:∀t,f [x0,.v (.lst (ns.map D.str)),t,x3,x4,x5,x6,x7,x8,x9,x10,x11,x12]=some (.int c)) :
  (jK 10 (ofO (relGV 2 (lO (xL 3 iA (zC (zG 2) (zC (zG 1) (zC f zT)))))))) [x0,.v (.lst (ns.map D.str)),.ob none T,x3,x4,x5,x6,x7,x8,x9,x10,x11,x12]=some (.nx [x0,.v (.lst (ns.map D.str)),.ob none T,x3,x4,x5,x6,x7,x8,x9,.v (.lst ((toldF ns ds c).map rwD)),x11,x12]):=by
 obtain⟨ts,rfl,ht⟩:=hT;have te:=aAs h1 h60 hn nd h hd c;have fl:=jQ (toldF ns ds c);generalize (toldF ns ds c).map rwD=R at *;generalize ns.map D.str=NS at *;unfold jK ofO relGV insV;simp[ht,hf,te,flatO,xG,fl,otD,yS]
def aBg(h1:1<=ns.length)(nd:ns.Nodup)(h:V1 ds)(hd:ds.length<=100)(hm:∀d∈ds,d.1∈ns) c(es:List Int)(he:es.length<=500):iK [.lst ((toldF ns ds c).map rwD),.lst (ds.map dvD),.lst (es.map D.int),.dct (btK (cC ns c)) (btV (cC ns c))]=some (.val (.bl true)):=by
 obtain⟨mf,lf,vf⟩:=aAt (ns:=ns) h c;have im:=XZ (toldF ns ds c) mf (by lia);obtain⟨Z,hz,lz,pl⟩:=PU (toldF ns ds c) es (by lia) he;have v1:=VY mf.ord (by lia) Z hz (by lia);have comp:compG (viaA (qB 4) asLT) [none,some 1,some 3] (zN 0) (λ_=>some true) (qZ 3 iU (zC (zG 1) (zC (zG 0) (zC (zG 2) zT)))) [.v (.lst ((toldF ns ds c).map rwD)),.v (.lst (ds.map dvD)),.v (.lst (es.map D.int)),.v (.dct (btK (cC ns c)) (btV (cC ns c))),.v (.lst (Z.map D.int))]=some ((Z.map (valL (toldF ns ds c))).map oi):=by
  refine yM (items:=Z.map D.int) (by simp) (by simp;lia) ?_;rw[yU D.int (λq=>oi (valL (toldF ns ds c) q)),cV]
  . rfl
  . intro q hq;have du:=due74 (bits_nd nd c) nd (by lia) hm (aFk h1 c) q;rw[<-vf q]at du;exact⟨_,rfl,by simp[jJ,du]⟩
 have eq1:eqD (.lst ((Z.map (valL (toldF ns ds c))).map oi)) (.lst ((Z.map (valL (toldF ns ds c))).map oi))=some (.bl true):=by
  generalize Z.map (valL (toldF ns ds c))=l;have sh:shals 40 (l.map oi)=true:=kA λd hd=>by obtain⟨o,_,rfl⟩:=bN.mp hd;cases o<;>simp
  have ev:eqvD (.lst (l.map oi)) (.lst (l.map oi))=true:=by
   rw[vJ];clear sh;induction l with
   |nil=>rfl
   |cons a r ih=>
     have:eqvD (oi a) (oi a)=true:=by cases a<;>simp
     rw[aQ,HP,this,ih];rfl
  rw[DB (by simpa using sh) (by simpa using sh),ev]
 generalize (Z.map (valL (toldF ns ds c))).map oi=VV at *;generalize (toldF ns ds c).map rwD=TT at *;generalize ds.map dvD=DD at *;generalize es.map D.int=EE at *;generalize Z.map D.int=ZZ at *;generalize D.dct (btK (cC ns c)) (btV (cC ns c))=BB at *;refine xI ?_;unfold nL
 rw[zM (ds':=[.v (.lst TT),.v (.lst DD),.v (.lst EE),.v BB,.no]) (by simp[args,im]),
  zM (ds':=[.v (.lst TT),.v (.lst DD),.v (.lst EE),.v BB,.v (.lst ZZ)]) (by simp[pl])]
 generalize compG (viaA (qB 4) asLT) [none,some 1,some 3] (zN 0) (λ_=>some true) (qZ 3 iU (zC (zG 1) (zC (zG 0) (zC (zG 2) zT))))=C at *;simp[v1,comp,eq1]
noncomputable def dT(ds:Dvs):OT:=.lst ((ds.map dvD).map OT.val)
def aCv ds:otD (dT ds)=.lst (ds.map dvD):=by unfold dT;rw[otD,yS]
def aFt(h:S[i]?=some (.ob r (dT ds)))(hf:f S=some (dvD d))(hl:ds.length<16777216):appP (varP i) f S=some (.nx (S.set i (.ob r (dT (ds++[d]))))):=by unfold appP varP;simp[aR,hf];unfold dT at h ⊢;simp[hl,putP,h,putO]
def aDv(h:S[i]?=some (.ob r (dT ds)))(hi:i<S.length):relVO i (callB lenD (zC (zG i) zT)) S=some (.int (ds.length:Int)):=by
 unfold relVO relO;rw[h];simp only[aCv];have:(callB lenD (zC (zG i) zT)) (S.set i (.v (.lst (ds.map dvD))))=some (.int (ds.length:Int)):=by simp[hi]
 rw[this];rfl
noncomputable def stBQ(t:List Rw):D:=.lst [.lst (t.map rwD),.lst (t.map rwD)]
structure St1(ns:List Str)(N:Sl)(ds:Dvs)(S:List Sl):Prop where
 ex:∃(T:OT) (es:List Int) (st:List (List Rw)) (x6 x7 x8 x9 x10 x11 x12:Sl),S=[N,.v (.lst (ns.map D.str)),.ob none T,.ob none (dT ds),.ob none (oT es),.own (st.map stBQ),x6,x7,x8,x9,x10,x11,x12]/\BT T (bOf ns ds)/\es.length=1+2*ds.length/\st.length=ds.length
 v1:V1 ds
 mem:∀d∈ds,d.1∈ns
def aBf ds(hd:ds.length<=900) c x0 x1 x2 x4 x5 x6 x7 x8 x9 x10 x12 :
  (jK 12 (mkL (relFO 3 (relFO 11 (compG (viaA (qB 3) asLT) [none,some 11] (zN 0) (dinG (zF ixD (zG 0) (zA (.int 0))) (zG 1)) (mkT (qI (zC (zF ixD (zG 0) (zA (.int 1))) (zC (zF ixD (zG 0) (zA (.int 2))) zT)))))))))
    [x0,x1,x2,.ob none (dT ds),x4,x5,x6,x7,x8,x9,x10,.ob none (.dct (btK (cC ns c)) ((btV (cC ns c)).map OT.val)),x12] =
  some (.nx [x0,x1,x2,.ob none (dT ds),x4,x5,x6,x7,x8,x9,x10,.ob none (.dct (btK (cC ns c)) ((btV (cC ns c)).map OT.val)),.v (.lst (((ds.filter λd=>decide (d.1∈(cC ns c).map (·.1))).map (·.2)).map rvD))]):=by
 have comp:compG (viaA (qB 3) asLT) [none,some 11] (zN 0) (dinG (zF ixD (zG 0) (zA (.int 0))) (zG 1)) (mkT (qI (zC (zF ixD (zG 0) (zA (.int 1))) (zC (zF ixD (zG 0) (zA (.int 2))) zT)))) [x0,x1,x2,.v (.lst (ds.map dvD)),x4,x5,x6,x7,x8,x9,x10,.v (.dct (btK (cC ns c)) (btV (cC ns c))),x12]=some (((ds.filter λd=>decide (d.1∈(cC ns c).map (·.1))).map (·.2)).map rvD):=by
  refine yM (items:=ds.map dvD) (by simp) (by simp;lia) ?_;rw[wQ dvD (λd=>decide (d.1∈(cC ns c).map (·.1))) (λd=>rvD d.2),cV]
  . rfl
  . intro d hd;have hh:=RJ (cC ns c) d.1;have i0:ixD (dvD d) (.int 0)=some (.str d.1):=rfl;have i1:ixD (dvD d) (.int 1)=some (spD d.2.1):=rfl;have i2:ixD (dvD d) (.int 2)=some (oi d.2.2):=rfl;have e0:D.tup [spD d.2.1,oi d.2.2]=rvD d.2:=rfl;exact⟨_,rfl,by simp[jJ,dinG,i0,keyD,kdD,hh],λ_=>by simp[jJ,i1,i2,e0]⟩
 have fl:=aEn ((ds.filter λd=>decide (d.1∈(cC ns c).map (·.1))).map (·.2));generalize ((ds.filter λd=>decide (d.1∈(cC ns c).map (·.1))).map (·.2)).map rvD=R at *;generalize hC:compG (viaA (qB 3) asLT) [none,some 11] (zN 0) (dinG (zF ixD (zG 0) (zA (.int 0))) (zG 1)) (mkT (qI (zC (zF ixD (zG 0) (zA (.int 1))) (zC (zF ixD (zG 0) (zA (.int 2))) zT))))=C at *;have oD:otD (.dct (btK (cC ns c)) ((btV (cC ns c)).map OT.val))=.dct (btK (cC ns c)) (btV (cC ns c)):=by rw[otD,yS]
 have oE:=aCv ds;generalize OT.dct (btK (cC ns c)) ((btV (cC ns c)).map OT.val)=BB at *;generalize dT ds=DD at *;unfold jK mkL relFO relO;simp[oD,oE,comp,fl]
def turn1(h1:1<=ns.length)(h60:ns.length<=60)(hn:∀x∈ns,NmS x)(nd:ns.Nodup)(st1:St1 ns N ds S)(hc:intBits c<=1048576)(hd:ds.length<30) :
  ∃S1 S2 ds',zN 6 (.int c) S=some S1/\oB S1=some (.nx S2)/\ds'.length=ds.length+1/\St1 ns N ds' S2:=by
 obtain⟨⟨T,es,st,x6,x7,x8,x9,x10,x11,x12,rfl,hT,el,sl⟩,v1,mem⟩:=st1;obtain⟨s,u,w,hs,eo⟩:=aCu c (ds.length:Int) es (by lia) hc (by lia) (by lia) (by lia);have m1:eS c 50021:=dG hc (qC (m:=200) (by decide)) (by decide);have m2:eS (ds.length:Int) 104729:=dG (qC (m:=64) (by lia)) (qC (m:=64) (by decide)) (by decide);generalize hm1:(c*50021+(ds.length:Int)*104729+3571)%2147483587=m';have mm:eS m' m':=dG (qC (m:=64) (by lia)) (qC (m:=64) (by lia)) (by decide);generalize hm:m'*m'%2147483563=mx;have i0:=fR (mx/3) (show(ns.length:Int)≠0 by lia);have i1:=kP (mx/3) (show 0<(ns.length:Int) by lia);have r1:=xE (mx/3) (show 0<(ns.length:Int) by lia);obtain⟨x,hx,ex⟩:∃x,x∈ns/\ixD (.lst (ns.map D.str)) (.int (mx/3%(ns.length:Int)))=some (.str x):=by
  have hlt:(mx/3%(ns.length:Int)).toNat<ns.length:=by lia
  rw[yK _ i0 (by simpa using i1)];simp[hlt]
 have ok:=aFp hn nd v1.ok;have lb:=VF ns ds;obtain⟨la,hla⟩:∃la:Bool,la=decide (0<mx%3):=⟨_,rfl⟩
 obtain⟨T',hT',eT⟩:∃T',BT T' (updB x (λps=>put1 ps (s,layV la)) (bOf ns ds))/\(if la=true then eY else eL) T [.str x,spD s]=some T':=by
  cases la with
  |true=>exact lay_eq ok (by lia) (by lia) hT (JQ hx ds) hs
  |false=>exact lift_eq ok (by lia) (by lia) hT (JQ hx ds) hs
 rw[bOf_upd]at hT';have v1':V1 (ds++[(x,(s,layV la))]):=λd hd=>by
  rcases bE.mp hd with z|z
  . exact v1 d z
  . rw[aO.mp z];exact⟨hs,by cases la<;>simp[layV]⟩
 have mem':∀d∈ds++[(x,(s,layV la))],d.1∈ns:=λd hd=>by
  rcases bE.mp hd with z|z
  . exact mem d z
  . rw[aO.mp z];exact hx
 generalize hds:ds++[(x,(s,layV la))]=ds' at *;have ld':ds'.length=ds.length+1:=by rw[<-hds];simp
 have tl:=KQ h1 h60 hn nd v1' (by lia) hT' (mx/1009) (zF qT (zG 8) (zA (.int 1009))) N (.ob none (dT ds')) (.ob none (oT (es++[u,w]))) (.own (st.map stBQ)) (.v (.int c)) (.v (spD s)) (.v (.int mx)) (.v (.str x)) x10 x11 x12 (λt=>by simp);have bt:=VE h1 h60 nd (mx/1009);have rw1:=aBf (ns:=ns) ds' (by lia) (mx/1009) N (.v (.lst (ns.map D.str))) (.ob none T') (.ob none (oT (es++[u,w]))) (.own (st.map stBQ)) (.v (.int c)) (.v (spD s)) (.v (.int mx)) (.v (.str x)) (.v (.lst ((toldF ns ds' (mx/1009)).map rwD))) x12;have tst:∀(x2 x3 x4 x5 x11:Sl),(andT (zK (zF eqD (zF jA (zF qT (zG 8) (zA (.int 1009))) (zA (.int 2))) (zA (.int 0)))) (zK (zF neD (zG 10) (qZ 1 iW (zC (zG 12) zT))))) [N,.v (.lst (ns.map D.str)),x2,x3,x4,x5,.v (.int c),.v (spD s),.v (.int mx),.v (.str x),.v (.lst ((toldF ns ds' (mx/1009)).map rwD)),x11,.v (.lst (((ds'.filter λd=>decide (d.1∈(cC ns (mx/1009)).map (·.1))).map (·.2)).map rvD))]=some false:=λx2 x3 x4 x5 x11=>by
  by_cases hq:mx/1009%2=0
  . have lf:((ds'.filter λd=>decide (d.1∈(cC ns (mx/1009)).map (·.1))).map (·.2)).length<=1000:=by
     have:=List.length_filter_le (λd:Str×Rv=>decide (d.1∈(cC ns (mx/1009)).map (·.1))) ds';simp;lia
    have fo:=(YH ((ds'.filter λd=>decide (d.1∈(cC ns (mx/1009)).map (·.1))).map (·.2)) (λr hr=>by
     obtain⟨d,hd,rfl⟩:=bN.mp hr
     exact v1'.ok d (fC.mp hd).1) lf).1
    have et:toldF ns ds' (mx/1009)=nK ((ds'.filter λd=>decide (d.1∈(cC ns (mx/1009)).map (·.1))).map (·.2)):=by unfold toldF;rw[if_pos hq,QL];congr 2;unfold cC;rw[if_pos hq];simp
    rw[<-et]at fo;have ne:=neD_rw (toldF ns ds' (mx/1009)) (toldF ns ds' (mx/1009));generalize ((ds'.filter λd=>decide (d.1∈(cC ns (mx/1009)).map (·.1))).map (·.2)).map rvD=RR at *;simp[hq,fo,ne]
  . simp[hq]
 refine⟨_,[N,.v (.lst (ns.map D.str)),.ob none T',.ob none (dT ds'),.ob none (oT (es++[u,w])),.own ((st++[toldF ns ds' (mx/1009)]).map stBQ),.v (.int c),.v (spD s),.v (.int mx),.v (.str x),.v (.lst ((toldF ns ds' (mx/1009)).map rwD)),.ob none (.dct (btK (cC ns (mx/1009))) ((btV (cC ns (mx/1009))).map OT.val)),.v (.lst (((ds'.filter λd=>decide (d.1∈(cC ns (mx/1009)).map (·.1))).map (·.2)).map rvD))],ds',rfl,?_,ld',⟨T',es++[u,w],st++[toldF ns ds' (mx/1009)],_,_,_,_,_,_,_,rfl,hT',by simp;lia,by simp;lia⟩,v1',mem'⟩;have lN:(ns.map D.str).length=ns.length:=by simp
 have lS:(st.map stBQ).length=ds.length:=by simp[sl]
 rw[cU];simp only[aQ,cR];have e9:D.lst [.lst ((toldF ns ds' (mx/1009)).map rwD),.lst ((toldF ns ds' (mx/1009)).map rwD)]=stBQ (toldF ns ds' (mx/1009)):=rfl;generalize hNS:ns.map D.str=NS at *;generalize hST:st.map stBQ=SS at *;generalize hBB:OT.dct (btK (cC ns (mx/1009))) ((btV (cC ns (mx/1009))).map OT.val)=BB at *;generalize hRR:((ds'.filter λd=>decide (d.1∈(cC ns (mx/1009)).map (·.1))).map (·.2)).map rvD=RR at *;generalize hTL:(toldF ns ds' (mx/1009)).map rwD=TL at *;have z1:ds.length<16777216:=by lia
 have l1:=aDv (S:=[N,.v (.lst NS),.ob none T,.ob none (dT ds),.ob none (oT es),.own SS,.v (.int c),x7,x8,x9,x10,x11,x12]) (i:=3) rfl (by simp);have l2:=aDv (S:=[N,.v (.lst NS),.ob none T,.ob none (dT ds),.ob none (oT (es++[u,w])),.own SS,.v (.int c),.v (spD s),x8,x9,x10,x11,x12]) (i:=3) rfl (by simp);unfold oB;rw[zM (ds':=[N,.v (.lst NS),.ob none T,.ob none (dT ds),.ob none (oT (es++[u,w])),.own SS,.v (.int c),.v (spD s),x8,x9,x10,x11,x12]) (by
   unfold setR callR
   simp[hereA,l1,eo,ref_oT]),
  zM (ds':=[N,.v (.lst NS),.ob none T,.ob none (dT ds),.ob none (oT (es++[u,w])),.own SS,.v (.int c),.v (spD s),.v (.int m'),x9,x10,x11,x12]) (by simp[qW m1,qW m2,l2,hm1]),
  zM (ds':=[N,.v (.lst NS),.ob none T,.ob none (dT ds),.ob none (oT (es++[u,w])),.own SS,.v (.int c),.v (spD s),.v (.int mx),x9,x10,x11,x12]) (by simp[qW mm,hm]),
  zM (ds':=[N,.v (.lst NS),.ob none T,.ob none (dT ds),.ob none (oT (es++[u,w])),.own SS,.v (.int c),.v (spD s),.v (.int mx),.v (.str x),x10,x11,x12]) (by simp[lN,r1,ex]),
  zM (ds':=[N,.v (.lst NS),.ob none T',.ob none (dT ds'),.ob none (oT (es++[u,w])),.own SS,.v (.int c),.v (spD s),.v (.int mx),.v (.str x),x10,x11,x12]) (by
   obtain⟨tt,rfl,_⟩:=hT;cases la with
   |true=>
     have hq:=of_decide_eq_true hla.symm;simp[if_true]at eT;have t:(zK (zF gtD (zF jA (zG 8) (zA (.int 3))) (zA (.int 0)))) [N,.v (.lst NS),.ob none (.ins 12 [.dct (bkN (bOf ns ds)) tt]),.ob none (dT ds),.ob none (oT (es++[u,w])),.own SS,.v (.int c),.v (spD s),.v (.int mx),.v (.str x),x10,x11,x12]=some true:=by simp[hq]
     unfold ifG;rw[t];rw[zM (aFt (d:=(x,(s,layV true))) rfl (by simp[dvD,layV]) (by lia)),hds];simp[lentG,varP,eT,putP,putO]
   |false=>
     have hq:=of_decide_eq_false hla.symm;simp[bS,if_false]at eT;have t:(zK (zF gtD (zF jA (zG 8) (zA (.int 3))) (zA (.int 0)))) [N,.v (.lst NS),.ob none (.ins 12 [.dct (bkN (bOf ns ds)) tt]),.ob none (dT ds),.ob none (oT (es++[u,w])),.own SS,.v (.int c),.v (spD s),.v (.int mx),.v (.str x),x10,x11,x12]=some false:=by simp[hq]
     unfold ifG;rw[t];simp only[aR,bS,if_false];rw[zM (aFt (d:=(x,(s,layV false))) rfl (by simp[dvD,layV]) (by lia)),hds]
     simp[lentG,varP,eT,putP,putO]),
  zM tl,
  zM (ds':=[N,.v (.lst NS),.ob none T',.ob none (dT ds'),.ob none (oT (es++[u,w])),.own SS,.v (.int c),.v (spD s),.v (.int mx),.v (.str x),.v (.lst TL),.ob none BB,x12]) (by
   unfold callO
   simp[bt,retO]),
  zM rw1,
  zM (by
   unfold ifG
   rw[tst];rfl)]
 simp[lisA,e9,lS,z1]
theorem loop1(h1:1<=ns.length)(h60:ns.length<=60)(hn:∀x∈ns,NmS x)(nd:ns.Nodup):∀(cs:List Int) ds S,St1 ns N ds S->(∀c∈cs,intBits c<=1048576)->ds.length+cs.length<=30 →
  ∃(ds':Dvs) (S':List Sl),qQ (zN 6) oB (cs.map D.int) S=some (.nx S')/\ds'.length<=30/\St1 ns N ds' S'
 |[],ds,S,st,_,hl=>⟨ds,S,rfl,by simpa using hl,st⟩
 |c::cs,ds,S,st,hc,hl=>by simp only[aH]at hl;obtain⟨S1,S2,ds1,e1,e2,l1,st1⟩:=turn1 h1 h60 hn nd st (hc c (.head _)) (by omega);obtain⟨ds',S',e,hl',st'⟩:=loop1 h1 h60 hn nd cs ds1 S2 st1 (λd hd=>hc d (.tail _ hd)) (by omega);refine⟨ds',S',?_,hl',st'⟩;simp only[aQ,qQ,e1,aR,e2];exact e
def turn2(h1:1<=ns.length)(h60:ns.length<=60)(hn:∀x∈ns,NmS x)(nd:ns.Nodup)(st1:St1 ns N ds S) c(hd:ds.length<=30) :
  ∃S1 S2,zN 6 (.int c) S=some S1/\rY S1=some (.nx S2)/\St1 ns N ds S2:=by
 obtain⟨⟨T,es,st,x6,x7,x8,x9,x10,x11,x12,rfl,hT,el,sl⟩,v1,mem⟩:=st1;have tl:=KQ h1 h60 hn nd v1 (by lia) hT c (zG 6) N (.ob none (dT ds)) (.ob none (oT es)) (.own (st.map stBQ)) (.v (.int c)) x7 x8 x9 x10 x11 x12 (λt=>by simp);have bt:=VE h1 h60 nd c;have ri:=aBg h1 nd v1 (by lia) mem c es (by lia);have oD:otD (.dct (btK (cC ns c)) ((btV (cC ns c)).map OT.val))=.dct (btK (cC ns c)) (btV (cC ns c)):=by rw[otD,yS]
 refine⟨_,[N,.v (.lst (ns.map D.str)),.ob none T,.ob none (dT ds),.ob none (oT es),.own (st.map stBQ),.v (.int c),x7,x8,x9,.v (.lst ((toldF ns ds c).map rwD)),x11,x12],rfl,?_,⟨T,es,st,_,_,_,_,_,_,_,rfl,hT,el,sl⟩,v1,mem⟩;simp only[eO,dP];have o1:=aCv ds;have o2:=TZ es;generalize (toldF ns ds c).map rwD=TL at *;generalize OT.dct (btK (cC ns c)) ((btV (cC ns c)).map OT.val)=BB at *;generalize D.dct (btK (cC ns c)) (btV (cC ns c))=BD at *;generalize dT ds=DD at *;generalize oT es=EE at *;generalize ds.map dvD=DL at *;generalize es.map D.int=EL at *;unfold rY;rw[zM tl];generalize ns.map D.str=NS at *;have t:(notT (relTO 4 (relTO 3 (testT (qZ 4 iK (zC (zG 10) (zC (zG 3) (zC (zG 4) (zC (seeO (callO 2 gI (zC (zG 1) (zC (zG 6) zT)))) zT))))))))) [N,.v (.lst NS),.ob none T,.ob none DD,.ob none EE,.own (st.map stBQ),.v (.int c),x7,x8,x9,.v (.lst TL),x11,x12]=some false:=by unfold notT relTO relO;simp[o1,o2,seeO,callO,bt,retO,oD,ri]
 unfold ifG;rw[t];rfl
def run_law(zs:List Int)(hl:zs.length<=63)(hb:∀c∈zs,intBits c<=1048576):tD [.lst (zs.map D.int)]=some (.val (.bl true)):=by
 obtain⟨ns,h1,h60,hn,nd,en⟩:=aDk (cel zs 0) (cel zs 1);have c0:=JL zs 0;have c1:=JL zs 1;have c2:=JL zs 2;simp[oO,Int.natCast_one]at c0 c1 c2;have c2':eB [.lst (zs.map D.int),.int 2]=some (.val (.int (cel zs 2))):=c2;have bi:=aFl h1 h60 hn nd;have t1:=bt_new (srtT ns);have tb:((srtT ns).map λx=>(x,([]:List Rw)))=bOf ns []:=rfl;obtain⟨cs,l1,l2,hcs,ecs⟩:=YV zs hb 3 27;have ecs:cutD (zs.map D.int) (some 3) (some 27)=cs.map D.int:=ecs;generalize hT:OT.ins 12 [.dct ((srtT ns).map Sum.inr) ((srtT ns).map λ_=>.lst [])]=T at *
 obtain⟨ds,S,e1,hds,stA⟩:=loop1 h1 h60 hn nd cs [] [.v (.lst (zs.map D.int)),.v (.lst (ns.map D.str)),.ob none T,.ob none (dT []),.ob none (oT [cel zs 2%61-30]),.own [],.no,.no,.no,.no,.no,.no,.no]
  ⟨⟨T,[cel zs 2%61-30],[],.no,.no,.no,.no,.no,.no,.no,rfl,t1,rfl,rfl⟩,(λd hd=>nomatch hd),(λd hd=>nomatch hd)⟩ hcs (by simp;lia)
 obtain⟨S1,S2,e2,e3,stB1⟩:=turn2 h1 h60 hn nd stA 1 hds;obtain⟨S3,S4,e4,e5,stC⟩:=turn2 h1 h60 hn nd stB1 (2*(cel zs 2%61)) hds;obtain⟨⟨T2,es,st,x6,x7,x8,x9,x10,x11,x12,hS4,hT2,el,sl⟩,_,_⟩:=stC;have mo:xJ (.int 2) (.int (cel zs 2%61))=some (.int (2*(cel zs 2%61))):=qW (.of_left (qC (by decide)));have all:compG (viaA (qB 5) asLT) [none] (zN 0) (λ_=>some true) (zF eqD (zF ixD (zG 0) (zA (.int 0))) (zF ixD (zG 0) (zA (.int 1)))) [.v (.lst (zs.map D.int)),.v (.lst (ns.map D.str)),.ob none T2,.ob none (dT ds),.ob none (oT es),.v (.lst (st.map stBQ)),x6,x7,x8,x9,x10,x11,x12]=some ((st.map λ_=>true).map D.bl):=by
  refine yM (items:=st.map stBQ) (by simp) (by simp;lia) ?_;rw[yU stBQ (λ_=>D.bl true),cV]
  . rfl
  . intro t ht;have eq:=eqD_rw t t;have i0:ixD (stBQ t) (.int 0)=some (.lst (t.map rwD)):=rfl;have i1:ixD (stBQ t) (.int 1)=some (.lst (t.map rwD)):=rfl;exact⟨_,rfl,by simp[jJ,i0,i1,eq]⟩
 have al:allD [.lst ((st.map λ_=>true).map D.bl)]=some (.bl true):=by rw[DN];simp
 refine xI ?_;unfold sZ;generalize hZ:zs.map D.int=Z at *;generalize hNS:ns.map D.str=NS at *
 rw[zM (ds':=[.v (.lst Z),.v (.lst NS),.no,.no,.no,.no,.no,.no,.no,.no,.no,.no,.no]) (by simp[args,c0,c1,en]),
  zM (ds':=[.v (.lst Z),.v (.lst NS),.ob none T,.no,.no,.no,.no,.no,.no,.no,.no,.no,.no]) (by
   unfold makeO
   simp[lisA,bi]),
  zM (ds':=[.v (.lst Z),.v (.lst NS),.ob none T,.ob none (dT []),.no,.no,.no,.no,.no,.no,.no,.no,.no]) (by simp[sO,dT]),
  zM (ds':=[.v (.lst Z),.v (.lst NS),.ob none T,.ob none (dT []),.ob none (oT [cel zs 2%61-30]),.no,.no,.no,.no,.no,.no,.no,.no]) (by simp[c2',sO,oT]),
  zM (ds':=[.v (.lst Z),.v (.lst NS),.ob none T,.ob none (dT []),.ob none (oT [cel zs 2%61-30]),.own [],.no,.no,.no,.no,.no,.no,.no]) (by simp),
  zM (by rw[xN];simp[ecs,e1];rfl),
  zM (ds':=S4) (by
   have sz:S[0]?=some (.v (.lst Z)):=by obtain⟨⟨_,_,_,_,_,_,_,_,_,_,hS,_⟩,_,_⟩:=stA;rw[hS];rfl
   have it:(viaA (mkL (qI (zC (zA (.int 1)) (zC (zF xJ (zA (.int 2)) (zF jA (qZ 2 eB (zC (zG 0) (zC (zA (.int 2)) zT))) (zA (.int 61)))) zT)))) asLT) S=some [.int 1,.int (2*(cel zs 2%61))]:=by simp[sz,c2',mo]
   rw[xN,it]
   simp only[aR,qQ,e2,e3,e4,e5])]
 rw[hS4];generalize (st.map λ_=>true).map D.bl=QQ at *;simp[relS,all,al]
open FL
set_option maxHeartbeats 0 in
def all_mk{l:VQ}{w:dE}{K:aP}{h:Heap}{mg:Str->Option aN}{fa:aG}(X:K.In h)(G:h.Ns aV mg)(hfa:mg "law" = some (.ref fa)){K12 f0 f1 f2 f3 f4 f5 f6 f7 f8 f9 f10 f12 f13 f14 f15 f16 f17 f18 f19 f20 f21 f22 f23 f24 f25 f26 f27 f28 f29 f30 f31 f32 f33:aG}{t0 t1 t2:Tok}{f11 f34:aG}{od11 an11 od34 an34:Option aG}{sl11 sl34:Array (Option aN)}{oc11 kV11 dc11 pm11 cd11 ct11 oc34 kV34 dc34 pm34 cd34 ct34:aN}(q12:CN K "Bundle" K12)(na12_lying:NoAttr K K12 "lying")(d0:DefM K "later_low" (top 7) f0)(d1:DefM K "earlier_behind" (top 8) f1)(d2:DefM K "ends_ahead" (top 6) f2)(d3:DefM K "meet" (top 5) f3)(d4:DefM K "knit" (top 10) f4)(d5:DefM K "parts_in" (top 12) f5)(d6:DefM K "rows_over" (top 13) f6)(d7:DefM K "formed" (top 11) f7)(d8:DefM K "runs_of" (top 14) f8)(d9:DefM K "paired" (top 15) f9)(d10:DefM K "either" (top 17) f10)(a11:aX K aV "summed" = some (some (.ref f11)))(l11:LkF K f11 oc11 od11 "summed" "summed" (top 18) .none kV11 dc11 pm11 an11 cd11 ct11 sl11)(c11:fV K cd11 "summed" = true)(k11:cE K (.ref f11)=true)(d12:DefM K "joined" (top 20) f12)(d13:DefM K "is_name" (top 24) f13)(d14:DefM K "put" (top 26) f14)(d15:DefM K "check_names" (top 30) f15)(d16:DefC K K12 "__init__" "Bundle.__init__" (gJ (top 29) 0) f16)(d17:DefC K K12 "only" "Bundle.only" (gJ (top 29) 4) f17)(d18:DefC K K12 "lay" "Bundle.lay" (gJ (top 29) 1) f18)(d19:DefC K K12 "lift" "Bundle.lift" (gJ (top 29) 2) f19)(d20:DefM K "stacked" (top 31) f20)(d21:DefC K K12 "sets" "Bundle.sets" (gJ (top 29) 5) f21)(d22:DefM K "_law_cell_at" (top 33) f22)(d23:DefM K "_law_whole" (top 34) f23)(d24:DefM K "_law_names" (top 35) f24)(d25:DefM K "_law_great" (top 36) f25)(d26:DefM K "_law_over" (top 37) f26)(d27:DefM K "_law_is_map" (top 38) f27)(d28:DefM K "_law_places" (top 39) f28)(d29:DefM K "_law_values" (top 40) f29)(d30:DefM K "_law_due" (top 41) f30)(d31:DefM K "_law_right" (top 42) f31)(d32:DefM K "_law_bits" (top 43) f32)(d33:DefM K "_law_told" (top 44) f33)(a34:aX K aV "law" = some (some (.ref f34)))(l34:LkF K f34 oc34 od34 "law" "law" (top 45) .none kV34 dc34 pm34 an34 cd34 ct34 sl34)(c34:fV K cd34 "law" = true)(k34:cE K (.ref f34)=true)(mk12:tV K K12=true)(kc12:cE K (.ref K12)=true)(z0:aX K aV "all" = some none)(z1:aX K aV "bool" = some none)(z2:aX K aV "int" = some none)(z3:aX K aV "isinstance" = some none)(z4:aX K aV "len" = some none)(z5:aX K aV "list" = some none)(z6:aX K aV "max" = some none)(z7:aX K aV "min" = some none)(z8:aX K aV "range" = some none)(z9:aX K aV "set" = some none)(z10:aX K aV "sorted" = some none)(z11:aX K aV "str" = some none)(z12:aX K aV "sum" = some none)(z13:aX K aV "tuple" = some none)(v0:aX K aV "LETTERS" = some (some (.str "abcdefghijklmnopqrstuvwxyz" t0)))(v1:aX K aV "MOST_LETTERS" = some (some (.int 8 t1)))(v2:aX K aV "MOST_NAMES" = some (some (.int 60 t2))) :
  ∃fd:bR,(∀(s:bH) (v:aN),ZO s fd ⟨[v],[]⟩ [("_law_script",v)])/\∀base:Heap,K.In base->base.Ns aV mg->FnOk l.prog w K mg base CX0 7 fa fd ["_law_script"] (OU K 63):=by
 have e:=hfa.symm.trans (fP X G a34);cases e;obtain⟨n12,cl12⟩:=q12.get;have T:Glb K mg:=⟨cG X G z0,cG X G z1,cG X G z2,cG X G z3,cG X G z4,cG X G z5,cG X G z6,cG X G z7,cG X G z8,cG X G z9,cG X G z10,cG X G z11,cG X G z12,cG X G z13,⟨_,fP X G v0⟩,⟨_,fP X G v1⟩,⟨_,fP X G v2⟩,(fldOk_c n12 cl12 na12_lying YI),(newOk (t:=24) (by exact n12) cl12 na12_lying),⟨f11,by exact a11,by exact fP X G a11⟩⟩
 have F11:=JF (st:=(top 18)) l11 c11 k11;have b11:=F11.binds (ps:=["value","other_value"]) λ_ _ _ _ _ _=>len2 λ_ _=>rfl;obtain⟨_,F16,a16,k16,i16⟩:=d16.get;have b16:=F16.binds (ps:=["self","names"]) λ_ _ _ _ _ _=>len2 λ_ _=>rfl;have F34:=JF (st:=(top 45)) l34 c34 k34;refine⟨dL "law" "law" (yI (top 45)) (jG (top 45)) (zJ (top 45)) .none kV34 dc34 pm34 an34 cd34 ct34,λs v=>.of_eq rfl,λbase _ _=>?_⟩;have S:SysAt l.prog w base K mg:=⟨h,X,G⟩
 have C_later_low:=d0.cal S λF=>EQ F T;have C_earlier_behind:=d1.cal S λF=>sF F T;have C_ends_ahead:=d2.cal S λF=>CT F T;have C_meet:=d3.cal S λF=>aEl F T C_later_low C_earlier_behind C_ends_ahead;have C_knit:=d4.cal S λF=>aEm F T;have C_parts_in:=d5.cal S λF=>JG F T C_meet;have C_rows_over:=d6.cal S λF=>EO F T C_parts_in;have C_formed:=d7.cal S λF=>QZ F T C_knit C_rows_over;have C_runs_of:=d8.cal S λF=>MX F T;have C_paired:=d9.cal S λF=>QX F T C_runs_of C_earlier_behind;have C_either:=d10.cal S λF=>RA F T;have G11:=QW F11 T C_either;have V_summed:CalV l.prog w K mg base 3 2 2 iV:=⟨f11,_,_,_,_,_,G11,b11,by exact a11,l11⟩
 have C_summed:=aFj G11 b11 k11 (fP X G a11);have CO:=clo_ok (P:=l.prog) (w:=w) (base:=base) T  V_summed;have C_joined:=d12.cal S λF=>QY F T C_paired C_knit CO;have C_is_name:=d13.cal S λF=>MY F T;have C_put:=d14.cal S λF=>fok_put F T C_knit C_rows_over;have C_check_names:=d15.cal S λF=>uQ F T C_is_name;have G16:=rE F16 T C_check_names;have M_only:MCal l.prog w K mg base "only" 2 1 [12] cN:=(d17.mc n12 cl12 (λF=>uV F T C_is_name) MH)
 have C_stacked:=d20.cal S λF=>MW F T C_joined;have C__law_cell_at:=d22.cal S λF=>tM F T;have C__law_whole:=d23.cal S λF=>CU F T;have C__law_names:=d24.cal S λF=>CW F T;have C__law_great:=d25.cal S λF=>CY F T;have C__law_over:=d26.calR S λF=>ES F T C__law_great;have C__law_is_map:=d27.cal S λF=>uT F T C__law_whole;have C__law_places:=d28.cal S λF=>uS F T;have C__law_values:=d29.cal S λF=>uR F T;have C__law_due:=d30.cal S λF=>JH F T;have C__law_right:=d31.cal S λF=>CV F T C__law_places C__law_is_map C__law_values C__law_due;have C__law_bits:=d32.cal S λF=>ET F T;have M_sets:MCal l.prog w K mg base "sets" 5 0 [12] (iC gG):=(d21.mc n12 cl12 (λF=>uU F T C_stacked) MH)
 have C__law_told:=d33.cal S λF=>ER F T M_sets M_only;have M_lay:LCal l.prog w K mg base "lay" 6 2 [12] (λ_=>eY):=(d18.lc n12 cl12 (λF=>CZ F T C_put M_only) ML)
 have M_lift:LCal l.prog w K mg base "lift" 6 2 [12] (λ_=>eL):=(d19.lc n12 cl12 (λF=>uW F T C_put M_only) ML)
 have Mk_Bundle_0:LMk l.prog w K mg base 24 3 1 0 dO:=⟨⟨K12,f16,_,_,by exact n12,fP X G n12,⟨mk12,a16,i16,kc12⟩,G16,b16⟩⟩
 exact law_ofB (F:=tD) (fok_law F34 T C__law_names C__law_cell_at C__law_over C__law_told C__law_bits C__law_right C_formed M_lay M_lift Mk_Bundle_0) run_law
end K74
namespace PySem.W.Fast
def tw9046337746775127350:=0
def tw16264439889612207431:=0
def tw9391917267523568054:=0
def tw17005785118223097249:=0
def tw7180881208123971904:=0
def tw15207188801566156919:=0
def tw10330405261465736794:=0
def tw12278397511898154864:=0
def tw17713115763339559284:=0
def tw14988380869465149992:=0
def tw5856068002770735447:=0
def tw9772584463087517615:=0
def tw11311481383668047086:=0
def tw435409725883822752:=0
def tw3365962337636294394:=0
def tw8787621707546983047:=0
def tw13527481871930413809:=0
def tw10386396947274345238:=0
def tw17795451214636733133:=0
def tw12516859069754669292:=0
def tw17425040825852365272:=0
def tw14607611220413435433:=0
def tw14208893721935708376:=0
def tw17201482731703815449:=0
def tw1315330985902039238:=0
def tw17859715616541673280:=0
def tw3223056785571695698:=0
def tw7995367894815695181:=0
def tw18310160910841895545:=0
def tw14165864250530727350:=0
def tw8584770841995532523:=0
def tw5762622280836688238:=0
def tw11876075077008158496:=0
def tw6829257283128411614:=0
def tw5278672511566231549:=0
def tw6818397172395953899:=0
def tw4970522007854249475:=0
def tw4539425029229444954:=0
def tw10790834038857297213:=0
def tw6582629232619073551:=0
def tw7358794547012845226:=0
def tw3621596861917473512:=0
def tw6914878618508278079:=0
def tw8916413469894953156:=0
def tw11781014867632397734:=0
def tw13154931346710784797:=0
def tw12941775655884602483:=0
def tw6865760887292476216:=0
def tw17334679643436849627:=0
def tw9172792570017770033:=0
def tw9308818917244544550:=0
def tw5981387842847575737:=0
def tw16010357092536326781:=0
def tw6224755238795934463:=0
def tw10122500010150235095:=0
def tw3025402511279419289:=0
def tw17077245195466379088:=0
def tw1673254478383283658:=0
def tw9579866667031867195:=0
def tw16386683026922448557:=0
def tw8632470174843533257:=0
def tw1643410249028488600:=0
def tw1899489874718802098:=0
def tw11878270082933645253:=0
def tw15487899170258551627:=0
def tw11463352214038283227:=0
def tw556881964830853740:=0
def tw9976552267187303476:=0
def tw4177582586588019878:=0
def tw65758553620283135:=0
def tw6190842697843148705:=0
def tw12357874318672359048:=0
def tw12061133776244542707:=0
def tw13480480673522429068:=0
def tw6551595458269029913:=0
def tw697746863642562386:=0
def tw4592379729573994699:=0
def tw2190323968967817259:=0
def tw12655267108340493004:=0
def tw12155090498589628135:=0
def tw9998147839937240006:=0
def tw15538051420465732842:=0
def tw14212240749243865688:=0
def tw9340270924744982105:=0
def tw15217464034526638748:=0
def tw17327554906208799774:=0
def tw11998486626271270923:=0
def tw6779040438336826004:=0
def tw15755496523404052262:=0
def tw764844277197978049:=0
def tw13838649856753522646:=0
def tw3532709370021214347:=0
def tw16211086368298878389:=0
def tw12213559710448532381:=0
def tw12397382661316350638:=0
def tw13960383697161812030:=0
def tw16337589593326264028:=0
def tw1400929251419413585:=0
def tw906330193347187746:=0
def tw16595313355858855664:=0
def tw4920752641426754181:=0
def tw17366616930233132969:=0
def tw4617214775693028863:=0
def tw4369343688713858028:=0
def tw16967180555299569846:=0
def tw8562358906396903509:=0
def tw16928350665386945457:=0
def tw8573116522466422346:=0
def tw10459009830068975750:=0
def tw11725611153279174284:=0
def tw9656658471670346225:=0
def tw7752016397919094881:=0
def tw11462935815848271322:=0
def tw13988285962323199986:=0
def tw4034910967050422672:=0
def tw11898928405500461816:=0
def tw4731077227966139377:=0
def tw15155818852072644228:=0
def tw15334867048463563256:=0
def tw1848526122394156119:=0
def tw4066844369687465772:=0
def tw11433998758524761350:=0
def tw1241766801929350957:=0
def tw5537079384465488143:=0
def tw17636588973870413789:=0
def tw11987978595936950960:=0
def tw14737668506838638321:=0
def tw6893090491900901432:=0
def tw8209590037474178549:=0
def tw17995591385389947274:=0
def tw14215574550777934937:=0
def tw4014496466571178972:=0
def tw441457747202252325:=0
def tw2659426822024053618:=0
def tw18217452330015466303:=0
def tw15740322635839676423:=0
def tw12061458857461870295:=0
def tw10452791613386526918:=0
def tw10813475670136165848:=0
def tw11802633991450069026:=0
def tw14790238792239349601:=0
def tw1657150618220288390:=0
def tw754464142205964329:=0
def tw14503442981206458081:=0
def tw15391891882099036779:=0
def tw14548297534407469431:=0
def tw4051364836576605777:=0
def tw10885418537324760923:=0
def tw16043443450371676394:=0
end PySem.W.Fast
def PySem.W.Fast.tw5718599699012895085:Unit:=()
def PySem.W.Fast.tw4625931398427433012:Unit:=()
def PySem.W.Fast.tw13420773751580495237:Unit:=()
def PySem.W.Fast.tw5678558666295313016:Unit:=()
def PySem.W.Fast.tw285413208083885044:Unit:=()
def PySem.W.Fast.tw5509091787834831129:Unit:=()
def PySem.W.Fast.tw2280523494684188940:Unit:=()
def PySem.W.Fast.tw11695258784505394721:Unit:=()
def PySem.W.Fast.tw15789485377046681932:Unit:=()
def PySem.W.Fast.tw4903669985119325418:Unit:=()
def PySem.W.Fast.tw7858824779155008583:Unit:=()
def PySem.W.Fast.tw5151060944264465490:Unit:=()
def PySem.W.Fast.tw3854880234907495223:Unit:=()
def PySem.W.Fast.tw9324352053965884573:Unit:=()
def PySem.W.Fast.tw16460318792951466037:Unit:=()
open PySem.W
set_option maxRecDepth 100000 in
set_option maxHeartbeats 0 in
theorem PySem.Challenge.cw_spanmap_k74_only_and_sets_holds : PySem.Challenge.rw_spanmap_k74_only_and_sets.Holds := by
 w_on; o_law; k_head; (case hw=>w_witness2)
 k_fill
 refine' FL.walkB (l:=PySem.Challenge.rw_spanmap_k74_only_and_sets) (k:=7) rfl rfl ⟨rfl,by decide,by decide⟩ (fun w h Y=>PySem.W.kIn_of Y) (fun w=>by kernel_rfl) ?T ?F
 case T =>
  intro w;dsimp only [L2.makers]
  repeat (first
   | exact FL.TabL.nil
   | (apply FL.tabL_no; k_is)
   | (apply FL.tabL_yes; k_is; k_is; exact rfl; k_is; exact rfl; kernel_rfl))
  all_goals decide
 case F =>
  intro w mg fa h KX G hmg;refine' K74.all_mk KX G hmg ..
  all_goals first | ((first | unfold FL.DefM | unfold FL.DefC); iterate 9 (apply Exists.intro); repeat' (first | (unfold FL.LkF; k_is) | k_is | apply And.intro)) | ((first | unfold FL.CN | unfold FL.XN | unfold FL.XI); repeat' (first | k_is | apply And.intro | decide)) | (unfold L2.NoAttr; k_is) | (unfold FL.LkF; k_is) | k_is | k_exc | decide | exact rfl | skip
#print axioms PySem.Challenge.cw_spanmap_k74_only_and_sets_holds
