import PyProof.Rows.All
import Wide.All
import OpenK.AllK
import Wide.FinOn
import Lean
import PyProof.EqAt
import PyProof.DictItems
import PyProof.DictWalks
import PyProof.Rows.SortStr
import PyProof.Rows.SortShellK
import PyProof.Rows.SortWalk
import KE.KRevIter
import KE.KDictList
import PyProof.CollectIter
import PyProof.DictValues
import KE.KDictSum
import PyProof.EqKinds
import PyProof.TupleCall
import PyProof.ListRange
import PyProof.P3In
import PyProof.NeData
import PyProof.NsDelKeeps
import PyProof.SliceList
import KE.KLam
import KE.KIntText
import PySem.Challenge.RW_spanmap_k36_merged
set_option compiler.extract_closed false
set_option bootstrap.genMatcherCode false
set_option Elab.async false
set_option linter.all false
set_option maxRecDepth 100000
open PySem renaming wpAny_bind→aA,Addr→aB,Shared→aC,wpAny_pure→aJ,starEach→aL,model→aM,mainGlobals→aP,wpAny→aU,Program→aY,FuncData→bQ,Around→bR,World→bS,wpAny_mono→cB,eval→cM,wpAny_holding→cU,wpAny_newObj_type→dC,wpAny_loadPart_at→dQ,foldedSetIterable→dZ,bootBuiltins→eA,backTo→eF,wpAny_standAt→eQ,wpAny_setField→eT,wpAny_Call_Name_kw→eU,builtinLookup_eq_fast→eW,mem_of_lookup→fB,wpAny_truthy_bool→fC,SetTable→fD,assignEach→fF,codeAny→fK,wpAny_call_entry→fP,compareOp→fQ,wpAny_passesOwn→gD,swapsWith→gG,wpAny_setState_of→gK,wpAny_rule→gQ,rawInt→gS,codeAny_call_builtin→gT,codeAny_mono→gX,behindInMarks→iD,NameKind→iE,wpAny_execs_nil→iF,typeLookup_type→iG,codeAny_builtin→iH,sizeLine_eq→iN,excClassObj→iO,wpAny_typeOf→iV,GenState→iY,holding→lK,attributeBase→lL,wpAny_field→lP,sliceBounds→lQ,binaryOp→lR,wpAny_specialOf→lW,ExcBaseFacts→mD,wpAny_call→mI,intKind→mV,fits_of_scanBound→mW,plainId_quiet→mX,assign→mZ,wpAny_callSpecial?_slot→nU,PassesOwn→nW,Model→nX,hashInt→oN,letOwnedTupleGo→pA,Drawn→pD,setField→pS,isSubtype_type→pU,IsPart→pX,noteFrame→rC,typeLookup→sK,builtinsNs→sL,Result→sM,wpAny_pyIter_list→uB,wpAny_Call_ofName→uC,relayAll→uD,getItem→uE,callerA→uF,OwnTail→uG,IntMulOk→uH,wpAny_isInstance→uS,wpAny_execs_cons→uT,wpAny_askSetting→uU,revObj→uV,isTrue→uW,checkBuiltinCall→uX,Paired→uZ,wpAny_updateSeq→DD,codeAny_of_tree→DE,valueAt→DI,standAt→DJ,setNext→DK,wpAny_seqItems→GZ,refuseLoop_ref→HB,pyNext→HC,isInstance→HE,bindArgs→HF,swapsWithSole→KN,swappedStores→KO,putSet_of→NM,pickOrder→NN,onTheHeap→NO,bindL→NQ,bindC→NR,seqIndex_neg→QZ,pyIter→RA,argsOk→RC,OsState→RE,Keyword→RH,BindsTo→RK,seqIndex_of→XX,raiseNew→XZ,Operator→YA
open PySem.Heap renaming get?_push_of_some→aE,lt_size→aS,get?_push_size→aX,get?_update_other→bG,get?_update_self→cC,get?_none_of_le→oK,get?_update_ne→KR,get?_some_iff→NV,get?_push_ne→RI,get?_push_at→RJ
open List renaming mem_cons_self→aF,getElem?_set_ne→aG,mem_cons→aH,mem_cons_of_mem→aI,getElem?_eq_getElem→aK,length_cons→aN,getElem?_eq_some_iff→aV,getElem?_eq_none→aW,getElem?_set_self→bA,size_toArray→bB,append_assoc→bH,mem_append→bI,mem_append_right→bJ,getElem?_append_left→bK,pairwise_cons→bL,map_cons→bO,getElem?_map→bT,pairwise_iff_getElem→bU,mem_append_left→bZ,mem_singleton→cD,drop_eq_getElem_cons→cE,lookup_cons→cG,length_map→cH,getElem?_append_right→cJ,find?_cons→cR,mem_reverse→cS,length_append→cV,set_cons_zero→dD,set_cons_succ→dE,nil_append→dF,append_nil→dG,take_of_length_le→dH,map_nil→dI,pairwise_singleton→dR,length_take→dS,not_mem_nil→eD,mem_of_getElem?→eH,getElem_of_mem→eM,drop_length→eO,take_append_drop→eP,mem_of_find?_eq_some→eS,take_sublist→eX,getElem?_take_of_lt→eY,getElem?_cons_zero→fE,mem_map→fL,drop_sublist→fV,pairwise_append→gH,getD_eq_getElem?_getD→gI,length_drop→gL,cons_append→gM,filterMap_cons→gP,length_nil→gY,find?_eq_none→hJ,getElem?_replicate→hU,getElem?_cons_succ→iA,find?_cons_of_pos→iI,find?_cons_of_neg→iJ,ext_getElem?→iK,perm_append_comm→iS,getElem_mem→iU,reverse_reverse→kN,mem_iff_getElem→kO,map_append→kY,find?_some→kZ,reverse_append→lC,map_map→lM,getElem?_drop→lV,reverse_cons→mC,nodup_cons→nB,foldl_cons→nC,length_singleton→nL,getElem?_toArray→nM,mem_range→oE,mem_of_mem_take→oF,mem_of_mem_drop→oG,drop_zero→oH,drop_drop→oJ,length_reverse→pB,getElem?_range→pC,mem_filterMap→pO,all_eq_true→rZ,of_mem_zip→sU,length_eraseIdx_of_lt→uM,getElem?_zip_eq_some→AA,zip_map'→BP,any_cons→BQ,length_eq_zero_iff→DG,drop_of_length_le→DM,set_getElem_self→HL,mem_of_mem_head?→HM,getElem?_reverse→HN,eq_nil_or_concat→HP,concat_eq_append→HQ,map_congr_left→KQ,find?_append→RF,any_eq_false→RG,range'_succ→SE,mem_flatMap→SG,map_reverse→SH,mem_filter→YB,length_zip→YC,take_zero→YN
open Nat renaming le_refl→aO,ne_of_lt→bE,lt_of_lt_of_le→bN,zero_le→bW,lt_irrefl→cT,le_trans→cW,ne_of_gt→fR,lt_succ_of_lt→iM,le_succ→kQ,lt_succ_self→mR,lt_trichotomy→rM,le_of_eq→rN,sub_zero→HJ,le_of_lt→HK,le_succ_of_le→SD
open PySem.W renaming nsIn→aQ,Frag→aR,mg_none_of→bX,mg_of→cA,kia_one→cK,kitOne→cO,keepIn→cP,findIn→cZ,fnOf→eC,codeIn→eZ,kitAny→fT,tabIn→gN,subIn→iQ,kitCls→lB,isFn→mJ,isClsIn→mQ,typeIn→nA,mroIn→oA,clsIn→oB,kitx_tuple→oO,methodObj→pL,kitx_list→pM,hasDictIn→pN,plainGet→pW,instObj→rL,tabObj→sN,noTabs→sO,lookIn→sP,cellsFrom_some→uY,callWith_K→HG,plainOver→HU,kitx_dict→HV,kitMeta→NS,OpenLaw→NT,CodeHd→RD
open PyProof.Rows renaming wpS_bind→aT,wpS_pure→aZ,arrOf→bM,pendingOf→bP,slot_tuple_getitem→cY,wpS_forRange→dB,callWith_type1→dO,IntsAre→eB,setArr→eE,wpS_mono→fO,oneType'→gE,setPending→gR,wpS_modify→iL,elem'→iP,seqObj→iW,envOfC→iX,reverseSlice'→lJ,AllBare→lN,mulOk_of_bits→mY,gallopOf→nV,callWith_builtin1→oC,wpS_get→oM,wpS_lift→pR,failedOf→pV,pairsOf→DL,size_push'→HA,mergeAt'→HD,listUpdate_at→KP,ltAt'→NP,pairsOf_size→RB,seqEpoch_at→XY
open Array renaming length_toList→bC,getElem?_toList→cN,toList_append→dL,getD_eq_getD_getElem?→dU,toList_push→dW,toList_extract→eG,size_extract→fJ,toList_reverse→kL,perm_iff_toList_perm→lT,getElem?_eq_some_iff→lU,getElem?_setIfInBounds_ne→rD,getElem?_extract→DH,find?_toList→KS,size_map→YD
open Bool renaming false_eq_true→bD,and_eq_true→cL,false_ne_true→hO,not_true→iZ,eq_iff_iff→lA,eq_false_iff→mE,false_and→YO
open Option renaming bind_some→bF,map_some→cX,getD_some→mG,isSome_iff_exists→uL,map_eq_some_iff→BO,getD_none→NU
open List.Pairwise renaming sublist→bV
open Int renaming le_refl→cQ,le_trans→dX,le_of_lt→dY,emod_nonneg→lD,not_lt→pY,emod_lt_of_pos→pZ,toNat_natCast→rO,eq_ofNat_of_zero_le→DN
open List.Perm renaming append_left→fH,append_right→gZ,refl→mS,of_eq→HW
open PySem.F renaming slot_NoneType_hash→fU,plain_extend_loop→sT,plain_list_iadd→uJ,plainAttrs_list→uK,store_object→DF,called_set→HH
open Array.Perm renaming refl→iR
open PySem.Heap.SameBut renaming update→uI
open List.Sublist renaming refl→AB
open PySem.W.KF renaming slot_gs→BN
open Prod renaming ext→YM
namespace HT
noncomputable def sIx(n d:Nat):Option Int->Nat
 |none=>d
 |some v=>if v<0 then (v+(n:Int)).toNat else min v.toNat n
end HT
namespace L2
open PySem
abbrev Key:=Sum (Option Int) Str
noncomputable def ixN(n:Nat)(i:Int):Option Nat:=if 0<=i then (if i<n then some i.toNat else none) else if -(n:Int)<=i then some (i+n).toNat else none
noncomputable def atI{α : Type}(xs:List α)(i:Int):Option α:=(ixN xs.length i).bind fun j=>xs[j]?
end L2
namespace FL
open PySem PySem.Spec PyProof.Rows L2
theorem bnd{α β : Type}{o:Option α}{f : α->Option β}{b : β}(h:o.bind f=some b):∃a,o=some a/\f a=some b:=Option.bind_eq_some_iff.mp h
theorem mpd{α β : Type}{o:Option α}{f : α->β}{b : β}(h:o.map f=some b):∃a,o=some a/\f a=b:=BO.mp h
noncomputable def ND:Nat->Str
 |0=>"Put" | 1=>"Widen" | 2=>"Narrow" | 3=>"Move" | 4=>"Stretch" | 5=>"Mirror" | 6=>"Deed" | 7=>"Shut" | 8=>"Open" | 9=>"Endless" | 10=>"End" | 11=>"Line" | 12=>"Bundle" | 13=>"Desk"
 |20=>"Line" | 21=>"Line" | 22=>"Line" | 23=>"Line" | 24=>"Bundle" | 25=>"Desk" | _=>""
noncomputable def NE:Nat->List Str
 |0=>["span","fill"] | 1=>["fill","at","many"] | 2=>["fill","at","many"] | 3=>["fill","far"] | 4=>["fill","top","bottom"] | 5=>["fill"] | 6=>["fill"] | 7=>["place"] | 8=>["place"] | 11=>["pieces","places","earlier","later"] | 12=>["lying"] | 13=>["lines"]
 |21=>["pieces"] | 22=>["pieces","places"] | 23=>["pieces","places","earlier"] | _=>[]
noncomputable def rF:Nat->Str
 |0=>"either" | 1=>"if_both" | 2=>"if_alone" | 3=>"summed" | 4=>"_law_first" | 5=>"_law_both" | 6=>"_law_left" | 7=>"_law_sum" | 8=>"_law_none" | _=>""
inductive D where
 |non | bl (b:Bool) | int (i:Int) | str (x:Str) | tup (ds:List D) | lst (ds:List D)
 |dct (ks:List Key) (ds:List D) | ins (t:Nat) (ds:List D) | clo (m n:Nat) (ds:List D)
 |dcf (ks:List Key) (ds:List D)
mutual
noncomputable def flat:D->Bool
 | .non | .bl _ | .int _ | .str _=>true
 | .tup ds=>flats ds
 |_=>false
noncomputable def flats:List D->Bool
 |[]=>true
 |d::r=>flat d&&flats r
end
noncomputable def xName:Nat->Str
 |0=>"SpanError" | 1=>"Empty" | 2=>"NoEnd" | 3=>"Clash" | 4=>"NoCount" | 5=>"NoShare" | 6=>"NoName" | 7=>"NoMark" | 8=>"NoDeed" | 9=>"NoRule" | 10=>"TooMuch" | 11=>"NoText" | _=>"NoRow"
inductive OT where
 |val (d:D) | lst (l:List OT) | tup (l:List OT) | dct (ks:List Key) (l:List OT) | ins (t:Nat) (l:List OT)
mutual
noncomputable def otD:OT->D
 | .val d=>d
 | .lst l=>.lst (otDs l)
 | .tup l=>.tup (otDs l)
 | .dct ks l=>.dct ks (otDs l)
 | .ins t l=>.ins t (otDs l)
noncomputable def otDs:List OT->List D
 |[]=>[]
 |t::r=>otD t::otDs r
end
inductive Sl where
 |no | v (d:D) | own (l:List D) | exc (t:Nat) | exf (t:Nat) (fs:List (Str×Int)) | fr (l:List D) | ob (r:Option Nat) (t:OT)
abbrev FE:=List Sl->Option D
abbrev FT:=List Sl->Option Bool
abbrev FA:=List Sl->Option (List D)
noncomputable def mkL(f:FA):FE:=fun ds=>(f ds).map D.lst
noncomputable def qR(i:Nat):FE:=fun ds=>match ds[i]? with | some (.v d)=>some d | _=>none
noncomputable def zG(i:Nat):FE:=fun ds=>match ds[i]? with | some (.v d)=>some d | some (.own l)=>some (.lst l) | _=>none
noncomputable def zA(d:D):FE:=fun _=>some d
noncomputable def zD(op:D->D->Option D)(fa fb:FE):FE:=fun ds=>(fa ds).bind fun x=>(fb ds).bind fun y=>op x y
noncomputable def isB:D->Option Bool
 | .bl b=>some b
 |_=>none
noncomputable def zL(f:FE):FT:=fun ds=>(f ds).bind isB
noncomputable def xH:D->D->Option D
 | .int i,.int j=>some (.int (i+j))
 | .str x,.str y=>if x.length+y.length<=sizeLine then some (.str (x++y)) else none
 |_,_=>none
noncomputable def subD:D->D->Option D
 | .int i,.int j=>some (.int (i-j))
 |_,_=>none
def divOk(j:Int):Prop:=0<j/\j.natAbs.log2<9000
noncomputable instance divOkD(j:Int):Decidable (divOk j):=Classical.propDecidable _
noncomputable def qU:D->D->Option D
 | .int i,.int j=>if divOk j then some (.int (i/j)) else none
 |_,_=>none
noncomputable def jI:D->D->Option D
 | .int i,.int j=>if 0<j then some (.int (i%j)) else none
 |_,_=>none
noncomputable def cmpI(p:Int->Int->Bool):D->D->Option D
 | .int i,.int j=>some (.bl (p i j))
 |_,_=>none
noncomputable def andT(c d:FT):FT:=fun ds=>(c ds).bind fun b=>if b=true then d ds else some false
noncomputable def orT(c d:FT):FT:=fun ds=>(c ds).bind fun b=>if b=true then some true else d ds
noncomputable def notT(c:FT):FT:=fun ds=>(c ds).map not
noncomputable def andV(f g:FE):FE:=fun ds=>(f ds).bind fun d=>match d with | .bl true=>g ds | .bl false=>some (.bl false) | _=>none
noncomputable def orV(f g:FE):FE:=fun ds=>(f ds).bind fun d=>match d with | .bl true=>some (.bl true) | .bl false=>g ds | _=>none
noncomputable def notV(f:FE):FE:=fun ds=>(f ds).bind fun d=>match d with | .bl b=>some (.bl (!b)) | _=>none
noncomputable def ifV(c:FT)(f g:FE):FE:=fun ds=>(c ds).bind fun b=>if b=true then f ds else g ds
noncomputable def chain(op op':D->D->Option D)(fa fb fc:FE):FE:=fun ds=>(fa ds).bind fun x=>(fb ds).bind fun y=>(op x y).bind fun z=>match z with
 | .bl true=>(fc ds).bind fun w=>op' y w
 | .bl false=>some (.bl false)
 |_=>none
noncomputable def zB(f:FE)(g:FA):FA:=fun ds=>(f ds).bind fun x=>(g ds).map fun r=>x::r
noncomputable def zW:FA:=fun _=>some []
noncomputable def zZ(f:FA):FA:=fun ds=>(f ds).bind fun l=>if l.length<=sizeLine then some l else none
noncomputable def mkT(f:FA):FE:=fun ds=>(f ds).map D.tup
noncomputable def ixD:D->D->Option D
 | .lst l,.int i=>atI l i
 | .tup l,.int i=>atI l i
 | .str x,.int i=>if x.length<=sizeLine then (atI x.cps.toList i).map fun c=>.str ⟨#[c]⟩ else none
 |_,_=>none
inductive Ret where
 |val (d:D) | fresh (l:List D) | any (d:D) | obj (t:OT)
noncomputable def retV:Ret->Option D
 | .val d=>some d
 | .fresh l=>some (.lst l)
 | .any _=>none
 | .obj t=>some (otD t)
noncomputable def retF:Ret->Option (List D)
 | .fresh l=>some l
 |_=>none
noncomputable def qI(n:Nat)(F:List D->Option Ret)(g:FA):FE:=fun ds=>(g ds).bind fun l=>if l.length=n then (F l).bind retV else none
noncomputable def vS(n:Nat)(F:List D->Option Ret)(g:FA):FA:=fun ds=>(g ds).bind fun l=>if l.length=n then (F l).bind retF else none
noncomputable def callB(F:List D->Option D)(g:FA):FE:=fun ds=>(g ds).bind F
noncomputable def lenD:List D->Option D
 |[.lst l]=>some (.int l.length)
 |[.tup l]=>some (.int l.length)
 |[.str x]=>if x.length<=sizeLine then some (.int x.length) else none
 |_=>none
inductive Out where
 |nx (ds:List Sl) | rt (r:Ret) | bk (ds:List Sl) | ct (ds:List Sl)
abbrev FS:=List Sl->Option Out
noncomputable def qL:FS:=fun ds=>some (.nx ds)
noncomputable def qC(f g:FS):FS:=fun ds=>(f ds).bind fun o=>match o with | .nx ds'=>g ds' | o=>some o
noncomputable def ifG(c:FT)(f g:FS):FS:=fun ds=>(c ds).bind fun b=>if b=true then f ds else g ds
noncomputable def jQ(i:Nat)(f:FE):FS:=fun ds=>(f ds).map fun d=>.nx (ds.set i (.v d))
noncomputable def setOG(i:Nat)(f:FA):FS:=fun ds=>(f ds).map fun l=>.nx (ds.set i (.own l))
noncomputable def flatR(d:D):Option Out:=if flat d=true then some (.rt (.val d)) else none
noncomputable def retG(f:FE):FS:=fun ds=>(f ds).bind flatR
noncomputable def flatF(l:List D):Option Out:=if flats l=true then some (.rt (.fresh l)) else none
noncomputable def retOG(f:FA):FS:=fun ds=>(f ds).bind flatF
noncomputable def retXG(i:Nat):FS:=fun ds=>match ds[i]? with | some (.own l)=>flatF l | _=>none
noncomputable def putG(i:Nat)(fk fe:FE):FS:=fun ds=>match ds[i]? with
 | some (.own l) => (fe ds).bind fun d => (fk ds).bind fun k => match k with
   | .int n=>(ixN l.length n).map fun j=>.nx (ds.set i (.own (l.set j d)))
   |_=>none
 |_=>none
noncomputable def appG(i:Nat)(fe:FE):FS:=fun ds=>match ds[i]? with
 |some (.own l)=>(fe ds).bind fun d=>if l.length<sizeLine then some (.nx (ds.set i (.own (l++[d])))) else none
 |_=>none
noncomputable def args(n:Nat)(ds:List D):List Sl:=ds.map Sl.v++List.replicate (n-ds.length) Sl.no
noncomputable def viaA(f:FE)(k:D->Option (List D)):FA:=fun ds=>(f ds).bind k
noncomputable def iC(lo:Int)(n:Nat):List D:=(List.range n).map fun(k:Nat)=>D.int (lo+(k:Int))
def okR(j:Int):Prop:=-(2 ^ 62)<=j/\j<2 ^ 62
noncomputable instance okRD(j:Int):Decidable (okR j):=Classical.propDecidable _
noncomputable def rng1(f:FE):FA:=fun ds=>(f ds).bind fun d=>match d with | .int j=>if okR j then some (iC 0 j.toNat) else none | _=>none
noncomputable def zQ(i:Nat):D->List Sl->Option (List Sl):=fun d ds=>some (ds.set i (.v d))
noncomputable def tgNil:List D->List Sl->Option (List Sl)
 |[],ds=>some ds
 |_,_=>none
noncomputable def zM(g:D->List Sl->Option (List Sl))(h:List D->List Sl->Option (List Sl)):List D->List Sl->Option (List Sl)
 |d::r,ds=>(g d ds).bind fun ds'=>h r ds'
 |_,_=>none
noncomputable def tupG(n:Nat)(h:List D->List Sl->Option (List Sl)):D->List Sl->Option (List Sl)
 | .tup l,ds=>if l.length=n then h l ds else none
 |_,_=>none
noncomputable def qW(ga:D->List Sl->Option (List Sl))(body:FS):List D->List Sl->Option Out
 |[],ds=>some (.nx ds)
 | d :: r, ds => (ga d ds).bind fun ds1 => (body ds1).bind fun o => match o with
   | .nx ds2=>qW ga body r ds2
   | .ct ds2=>qW ga body r ds2
   | .bk ds2=>some (.nx ds2)
   | .rt r=>some (.rt r)
noncomputable def forG(fi:FA)(ga:D->List Sl->Option (List Sl))(body:FS):FS:=fun ds=>(fi ds).bind fun items=>qW ga body items ds
noncomputable def compL(ga:D->List Sl->Option (List Sl))(tt:FT)(fe:FE)(s0:List Sl):List D->Option (List D)
 |[]=>some []
 |d::r=>(ga d s0).bind fun ds1=>(tt ds1).bind fun b=>if b=true then (fe ds1).bind fun y=>(compL ga tt fe s0 r).map fun ys=>y::ys else compL ga tt fe s0 r
noncomputable def jV(mp:List (Option Nat))(ds:List Sl):List Sl:=mp.map fun o=>match o with
 |some j=>(match ds[j]? with | some (.v d)=>.v d | _=>.no)
 |none=>.no
noncomputable def compG(fi:FA)(mp:List (Option Nat))(ga:D->List Sl->Option (List Sl))(tt:FT)(fe:FE):FA:=fun ds=>(fi ds).bind fun items=>if items.length<=sizeLine then compL ga tt fe (jV mp ds) items else none
noncomputable def tyD:D->Option String
 | .non=>some "NoneType"
 | .bl _=>some "bool"
 | .int _=>some "int"
 | .str _=>some "str"
 | .tup _=>some "tuple"
 | .lst _=>some "list"
 | .dct _ _=>some "dict"
 | .ins _ _=>none
 | .clo _ _ _=>none
 | .dcf _ _=>none
noncomputable def kitN:List String:=["NoneType","bool","int","str","tuple","list","dict"]
noncomputable def kitT:List String:=["bool","int","str","tuple","list","dict"]
noncomputable def kitF(t T:String):Option Bool:=if t∈kitN/\T∈kitT then some (t==T||(t=="bool"&&T=="int")) else none
noncomputable def isiD(T:String)(d:D):Option D:=(tyD d).bind fun t=>(kitF t T).map D.bl
noncomputable def isiG(T:String)(f:FE):FE:=fun ds=>(f ds).bind (isiD T)
noncomputable def blsD:List D->Option (List Bool)
 |[]=>some []
 | .bl b::r=>(blsD r).map fun bs=>b::bs
 |_=>none
noncomputable def allD:List D->Option D
 |[.lst l]=>(blsD l).map fun bs=>.bl (bs.all id)
 |_=>none
noncomputable def negD:D->Option D
 | .int i=>some (.int (-i))
 |_=>none
noncomputable def un1(op:D->Option D)(f:FE):FE:=fun ds=>(f ds).bind op
noncomputable def retDG(f:FE):FS:=fun ds=>(f ds).map fun d=>.rt (.val d)
noncomputable def runG(g:FS)(n:Nat):List D->Option Ret:=fun ds=>match g (args n ds) with
 |some (.rt r)=>some r
 |some (.nx _)=>some (.val .non)
 |_=>none
def CPowB(i j:Int):Prop:=0<=j/\(Builtin.Int.intBits i:Int)*j<=2 ^ 27
mutual
noncomputable def toPy:D->PyData
 | .non=>.none
 | .bl b=>.bool b
 | .int i=>.int i
 | .str x=>.str x
 | .tup ds=>.tuple (toPys ds)
 | .lst ds=>.list (toPys ds)
 | .dct _ _=>.none
 | .ins _ _=>.none
 | .clo _ _ _=>.none
 | .dcf _ _=>.none
noncomputable def toPys:List D->List PyData
 |[]=>[]
 |d::r=>toPy d::toPys r
end
mutual
noncomputable def shal:Nat->D->Bool
 |_,.non=>true
 |_,.bl _=>true
 |_,.int _=>true
 |_,.str x=>PyData.strOk x
 |n,.tup ds=>shals n ds
 |n,.lst ds=>shals n ds
 |_,.dct _ _=>false
 |_,.ins _ _=>false
 |_,.clo _ _ _=>false
 |_,.dcf _ _=>false
noncomputable def shals:Nat->List D->Bool
 |_,[]=>true
 |0,_::_=>false
 |n+1,d::r=>shal n d&&shals (n+1) r
end
noncomputable def eqvD(x y:D):Bool:=PyData.eqv (toPy x) (toPy y)
noncomputable def eqvs(x y:List D):Bool:=PyData.eqvAll (toPys x) (toPys y)
noncomputable def eqD(x y:D):Option D:=if shal 40 x=true/\shal 40 y=true then some (.bl (eqvD x y)) else none
noncomputable def neD(x y:D):Option D:=if shal 40 x=true/\shal 40 y=true then some (.bl (!eqvD x y)) else none
noncomputable def isD:D->D->Option D
 | .non,.non=>some (.bl true)
 |_,.non=>some (.bl false)
 |_,_=>none
noncomputable def notD:D->D->Option D
 | .non,.non=>some (.bl false)
 |_,.non=>some (.bl true)
 |_,_=>none
noncomputable def asLT:D->Option (List D)
 | .lst l=>some l
 | .tup l=>some l
 |_=>none
noncomputable instance mulOkD(i j:Int):Decidable (uH i j):=Classical.propDecidable _
noncomputable instance powOkD(i j:Int):Decidable (CPowB i j):=Classical.propDecidable _
noncomputable def yX:D->D->Option D
 | .int i,.int j=>if uH i j then some (.int (i*j)) else none
 |_,_=>none
noncomputable def powD:D->D->Option D
 | .int i,.int j=>if CPowB i j then some (.int (i ^ j.toNat)) else none
 |_,_=>none
noncomputable def catA(fa fb:FE):FA:=fun ds=>(fa ds).bind fun x=>(fb ds).bind fun y=>match x,y with
 | .lst a,.lst b=>if a.length+b.length<=sizeLine then some (a++b) else none
 |_,_=>none
noncomputable def noP:List Sl->Option (Option Int):=fun _=>some none
noncomputable def soP(f:FE):List Sl->Option (Option Int):=fun ds=>(f ds).bind fun d=>match d with | .int i=>some (some i) | _=>none
noncomputable def cutD(l:List D)(lo hi:Option Int):List D:=(l.drop (HT.sIx l.length 0 lo)).take (HT.sIx l.length l.length hi-HT.sIx l.length 0 lo)
noncomputable def sliA(f:FE)(lo hi:List Sl->Option (Option Int)):FA:=fun ds=>(f ds).bind fun d=>(lo ds).bind fun a=>(hi ds).bind fun b=>match d with
 | .lst l=>some (cutD l a b)
 |_=>none
noncomputable def lisA(f:FE):FA:=fun ds=>(f ds).bind asLT
noncomputable def mxD:List D->Option D
 |[.int i,.int j]=>some (.int (if j>i then j else i))
 |_=>none
noncomputable def mnD:List D->Option D
 |[.int i,.int j]=>some (.int (if j<i then j else i))
 |_=>none
noncomputable def absD:List D->Option D
 |[.int i]=>some (.int (if i<0 then -i else i))
 |_=>none
noncomputable def truD:D->Option Bool
 | .non=>some false
 | .bl b=>some b
 | .int i=>some (i != 0)
 | .str x=>if x.length<=sizeLine then some ((x.length:Int) != 0) else none
 | .tup l=>some (!l.isEmpty)
 | .lst l=>some (!l.isEmpty)
 |_=>none
noncomputable def testT(f:FE):FT:=fun ds=>(f ds).bind truD
noncomputable def relS(i:Nat)(ds:List Sl):List Sl:=match ds[i]? with | some (.own l)=>ds.set i (.v (.lst l)) | _=>ds
noncomputable def gU(c:FT)(b:FS):Nat->FS
 |0,_=>none
 | n + 1, ds => (c ds).bind fun k => if k = true then (b ds).bind fun o => match o with
   | .nx ds2=>gU c b n ds2
   | .ct ds2=>gU c b n ds2
   | .bk ds2=>some (.nx ds2)
   | .rt r=>some (.rt r) else some (.nx ds)
noncomputable def asgG(ga:D->List Sl->Option (List Sl))(f:FE):FS:=fun ds=>(f ds).bind fun d=>(ga d ds).map .nx
noncomputable def extG(i:Nat)(fe:FA):FS:=fun ds=>match ds[i]? with
 |some (.own l)=>(fe ds).bind fun d=>if l.length+d.length<=sizeLine then some (.nx (ds.set i (.own (l++d)))) else none
 |_=>none
noncomputable def clrG(i:Nat):FS:=fun ds=>match ds[i]? with
 |some (.own l)=>some (.nx (ds.set i (.own [])))
 |_=>none
noncomputable def ltD:D->D->Option D:=cmpI fun i j=>decide (i<j)
noncomputable def leD:D->D->Option D:=cmpI fun i j=>decide (i<=j)
noncomputable def gtD:D->D->Option D:=cmpI fun i j=>decide (j<i)
noncomputable def geD:D->D->Option D:=cmpI fun i j=>decide (j<=i)
noncomputable def rng2(fa fb:FE):FA:=fun ds=>(fa ds).bind fun x=>(fb ds).bind fun y=>match x,y with
 | .int i,.int j=>if okR i/\okR j then some (iC i (j-i).toNat) else none
 |_,_=>none
noncomputable def LM(lo c:Int)(n:Nat):List D:=(List.range n).map fun(k:Nat)=>D.int (lo+(k:Int)*c)
noncomputable def TQ(i j c:Int):Nat:=if i<j then ((j-i-1)/c+1).toNat else 0
def okR3(i j c:Int):Prop:=-(2 ^ 61)<=i/\i<2 ^ 61/\-(2 ^ 61)<=j/\j<2 ^ 61/\0<c/\c<1000000
noncomputable instance okR3D(i j c:Int):Decidable (okR3 i j c):=Classical.propDecidable _
noncomputable def rng3(fa fb fc:FE):FA:=fun ds=>(fa ds).bind fun x=>(fb ds).bind fun y=>(fc ds).bind fun z=>match x,y,z with
 | .int i,.int j,.int c=>if okR3 i j c then some (LM i c (TQ i j c)) else none
 |_,_,_=>none
noncomputable def revA(f:FE):FA:=fun ds=>(f ds).bind fun d=>match d with
 | .lst l=>some l.reverse
 |_=>none
noncomputable def augA(i:Nat)(f:FE):FS:=fun ds=>(qR i ds).bind fun x=>(f ds).bind fun y=>match x,y with
 | .int a,.int b=>some (.nx (ds.set i (.v (.int (a+b)))))
 |_,_=>none
noncomputable def parG(i j:Nat)(f:FA):FS:=fun ds=>(f ds).bind fun l=>match l with
 |[a,b]=>some (.nx ((ds.set i (.v a)).set j (.v b)))
 |_=>none
noncomputable def int1D:List D->Option D
 |[.int i]=>some (.int i)
 |[.bl b]=>some (.int (if b then 1 else 0))
 |_=>none
noncomputable def intsD:List D->Option (List Int)
 |[]=>some []
 | .int b::r=>(intsD r).map fun bs=>b::bs
 |_=>none
abbrev Fun2:=D->List D->Option Ret
noncomputable def callW(Φ : Fun2)(i:Nat)(g:FA):FE:=fun ds=>(qR i ds).bind fun f=>(g ds).bind fun l=>(Φ f l).bind retV
open PySem PyProof.Rows L2
noncomputable def zipD(l m:List D):List D:=(l.zip m).map fun p=>D.tup [p.1,p.2]
noncomputable def zipA(f g:FE):FA:=fun ds=>(f ds).bind fun a=>(g ds).bind fun b=>match a,b with
 | .lst l,.lst m=>some (zipD l m)
 |_,_=>none
noncomputable def fldD(ix:List (Nat×Nat)):D->Option D
 | .ins t ds=>(ix.lookup t).bind fun i=>ds[i]?
 |_=>none
noncomputable def fldG(ix:List (Nat×Nat))(f:FE):FE:=fun ds=>(f ds).bind (fldD ix)
noncomputable def methR(n:Nat)(cs:List Nat)(F:Nat->List D->Option Ret)(o:D)(l:List D):Option Ret:=match o with
 | .ins t es=>if t∈cs/\l.length=n then F t (.ins t es::l) else none
 |_=>none
noncomputable def methV(n:Nat)(cs:List Nat)(F:Nat->List D->Option Ret)(fo:FE)(g:FA):FE:=fun ds=>(fo ds).bind fun o=>(g ds).bind fun l=>(methR n cs F o l).bind retV
noncomputable def methF(n:Nat)(cs:List Nat)(F:Nat->List D->Option Ret)(fo:FE)(g:FA):FA:=fun ds=>(fo ds).bind fun o=>(g ds).bind fun l=>(methR n cs F o l).bind retF
noncomputable def makeG(t n:Nat)(G:List D->Option (List D))(g:FA):FE:=fun ds=>(g ds).bind fun l=>if l.length=n/\flats l=true then (G l).map (D.ins t) else none
open PySem
noncomputable def dropG(f:FE):FS:=fun ds=>(f ds).map fun _=>.nx ds
noncomputable def goneO(i:Nat):Out->Out
 | .nx ds=>.nx (ds.set i .no)
 | .bk ds=>.bk (ds.set i .no)
 | .ct ds=>.ct (ds.set i .no)
 | .rt r=>.rt r
noncomputable def isxG(i:Nat)(tb:List (Nat×Bool)):FE:=fun ds=>match ds[i]? with
 |some (.exc t)=>(tb.lookup t).map D.bl
 |_=>none
def okRB(i j:Int):Prop:=-(2 ^ 61)<=i/\i<2 ^ 61/\-(2 ^ 61)<=j/\j<2 ^ 61
noncomputable instance okRBD(i j:Int):Decidable (okRB i j):=Classical.propDecidable _
noncomputable def insU(k:Int):List Int->List Int
 |[]=>[k]
 |a::l=>if k<a then k::a::l else if k=a then a::l else a::insU k l
noncomputable def srtU(ns:List Int):List Int:=ns.foldr insU []
noncomputable def srtSA(f:FE):FA:=fun ds=>(f ds).bind fun d=>match d with
 | .lst l=>(intsD l).bind fun ns=>if ns.length+1<4096 then some ((srtU ns).map D.int) else none
 |_=>none
noncomputable def sltW(f:FE)(lo hi:List Sl->Option (Option Int)):FE:=fun ds=>(f ds).bind fun d=>(lo ds).bind fun a=>(hi ds).bind fun b=>match d with
 | .tup l=>some (.tup (cutD l a b))
 |_=>none
theorem tI(k a:Int):∀l:List Int,a∈insU k l↔a=k\/a∈l
 |[]=>by simp[insU]
 | b :: l => by
   unfold insU
   split
   . simp
   . split
     . rename_i e;rw[e];simp
     . rw [aH, tI k a l, aH];constructor
       . rintro (h | h | h)
         . exact .inr (.inl h)
         . exact .inl h
         . exact .inr (.inr h)
       . rintro (h | h | h)
         . exact .inr (.inl h)
         . exact .inl h
         . exact .inr (.inr h)
theorem mem_srtU(a:Int):∀ns:List Int,a∈srtU ns↔a∈ns
 |[]=>Iff.rfl
 | k :: ns => by
   show a∈insU k (srtU ns)↔_;rw[tI,mem_srtU a ns,aH]
theorem MQ(k:Int):∀l:List Int,l.Pairwise (· < ·)->(insU k l).Pairwise (· < ·)
 |[],_=>dR _ _
 | a :: l, h => by
   obtain⟨h1,h2⟩:=bL.mp h;unfold insU
   split
   . rename_i hk;refine bL.mpr ⟨fun b hb=>?_,h⟩;rcases aH.mp hb with e | hb
     . rw[e];exact hk
     . exact Int.lt_trans hk (h1 b hb)
   . split
     . exact h
     . rename_i h3 h4;refine bL.mpr ⟨fun b hb=>?_,MQ k l h2⟩;rcases (tI k b l).mp hb with e | hb
       . rw[e];omega
       . exact h1 b hb
theorem srtU_lt:∀ns:List Int,(srtU ns).Pairwise (· < ·)
 |[]=>List.Pairwise.nil
 |k::ns=>MQ k _ (srtU_lt ns)
theorem lt_unique:∀(l m:List Int),(∀a,a∈l↔a∈m)->l.Pairwise (· < ·)->m.Pairwise (· < ·)->l=m
 |[],[],_,_,_=>rfl
 |[],b::m,h,_,_=>absurd ((h b).mpr (.head _)) (by simp)
 |a::l,[],h,_,_=>absurd ((h a).mp (.head _)) (by simp)
 | a :: l, b :: m, h, h1, h2 => by
   obtain⟨p1,p2⟩:=bL.mp h1;obtain⟨q1,q2⟩:=bL.mp h2
   have ha:a<=b:=by
    rcases aH.mp ((h b).mpr (.head _)) with e | e
    . rw[e];exact cQ _
    . exact dY (p1 b e)
   have hb:b<=a:=by
    rcases aH.mp ((h a).mp (.head _)) with e | e
    . rw[e];exact cQ _
    . exact dY (q1 a e)
   have e:a=b:=Int.le_antisymm ha hb;subst e;rw[lt_unique l m (fun c=>?_) p2 q2];constructor
   . intro hc;rcases aH.mp ((h c).mp (.tail _ hc)) with e | e
     . exact absurd (p1 c hc) (by rw[e];exact Int.lt_irrefl _)
     . exact e
   . intro hc;rcases aH.mp ((h c).mpr (.tail _ hc)) with e | e
     . exact absurd (q1 c hc) (by rw[e];exact Int.lt_irrefl _)
     . exact e
open PySem PyProof.Rows L2
noncomputable def fnF(n:Nat)(F:List D->Option Ret)(_ as:List D):Option Ret:=if as.length=n then F as else none
noncomputable def phiOf(l:List ((Nat×Nat)×(List D->List D->Option Ret))):Fun2:=fun f as=>match f with
 | .clo m n caps=>(l.lookup (m,n)).bind fun F=>F caps as
 |_=>none
noncomputable def rngL(fa fb:FE):FA:=fun ds=>(fa ds).bind fun x=>(fb ds).bind fun y=>match x,y with
 | .int i,.int j=>some (iC i (j-i).toNat)
 |_,_=>none
@[simp] theorem rngL_eq(fa fb:FE)(ds:List Sl):rngL fa fb ds=(fa ds).bind fun x=>(fb ds).bind fun y=>match x,y with
 | .int i,.int j=>some (iC i (j-i).toNat)
 |_,_=>none:=rfl
noncomputable instance mulOkSD(x:Str)(n:Int):Decidable (MulOk x n):=Classical.propDecidable _
abbrev FO:=List Sl->Option OT
abbrev FOs:=List Sl->Option (List OT)
noncomputable def getN(i:Nat):FE:=fun ds=>match ds[i]? with
 |some (.v d)=>some d
 |some (.own l)=>some (.lst l)
 |some (.ob _ t)=>some (otD t)
 |_=>none
noncomputable def vO(f:FE):FO:=fun ds=>(f ds).map OT.val
noncomputable def lO(f:FA):FO:=fun ds=>(f ds).map fun l=>.lst (l.map OT.val)
noncomputable def nilO:FOs:=fun _=>some []
noncomputable def consO(f:FO)(g:FOs):FOs:=fun ds=>(f ds).bind fun x=>(g ds).map fun r=>x::r
noncomputable def tO(f:FOs):FO:=fun ds=>(f ds).bind fun l=>if l.length<=sizeLine then some (.tup l) else none
noncomputable def setB(i:Nat)(f:FO):FS:=fun ds=>(f ds).map fun t=>.nx (ds.set i (.ob none t))
mutual
noncomputable def flatO:OT->Bool
 | .val d=>flat d
 | .lst l=>pJ l
 | .tup l=>pJ l
 | .dct _ l=>pJ l
 | .ins _ l=>pJ l
noncomputable def pJ:List OT->Bool
 |[]=>true
 |t::r=>flatO t&&pJ r
end
abbrev FP:=List Sl->Option (Nat×List Nat×OT)
@[simp] theorem getN_eq(i:Nat)(ds:List Sl):getN i ds=match ds[i]? with
 |some (.v d)=>some d
 |some (.own l)=>some (.lst l)
 |some (.ob _ t)=>some (otD t)
 |_=>none:=rfl
@[simp] theorem vO_eq(f:FE)(ds:List Sl):vO f ds=(f ds).map OT.val:=rfl
@[simp] theorem lO_eq(f:FA)(ds:List Sl):lO f ds=(f ds).map fun l=>.lst (l.map OT.val):=rfl
@[simp] theorem nilO_eq(ds:List Sl):nilO ds=some []:=rfl
@[simp] theorem consO_eq(f:FO)(g:FOs)(ds:List Sl):consO f g ds=(f ds).bind fun x=>(g ds).map fun r=>x::r:=rfl
@[simp] theorem tO_eq(f:FOs)(ds:List Sl):tO f ds=(f ds).bind fun l=>if l.length<=sizeLine then some (.tup l) else none:=rfl
@[simp] theorem setB_eq(i:Nat)(f:FO)(ds:List Sl):setB i f ds=(f ds).map fun t=>.nx (ds.set i (.ob none t)):=rfl
abbrev FX:=List Sl->Option (D×List Sl)
noncomputable def seeO(f:FO):FE:=fun ds=>(f ds).map otD
open PySem
open PySem L2
open PySem PyProof.Rows L2
abbrev Fls:=List (Str×Int)
abbrev FF:=List Sl->Option Fls
noncomputable def raiF(f1 f2 f3:Str)(g:FA):FF:=fun ds=>match g ds with
 |some [.int a,.int b,.int c]=>some [(f1,a),(f2,b),(f3,c)]
 |_=>none
noncomputable def pF:FF:=fun _=>none
noncomputable def ifF(c:FT)(a b:FF):FF:=fun ds=>match c ds with
 |some true=>a ds
 |some false=>b ds
 |none=>none
noncomputable def loopF(ga:D->List Sl->Option (List Sl))(body:FS)(x:FF):List D->List Sl->Option Fls
 |[],_=>none
 | d :: r, ds => match ga d ds with
   |none=>none
   | some ds1 => match x ds1 with
     |some v=>some v
     | none => (match body ds1 with
       |some (.nx ds2)=>loopF ga body x r ds2
       |some (.ct ds2)=>loopF ga body x r ds2
       |_=>none)
noncomputable def forF(fi:FA)(ga:D->List Sl->Option (List Sl))(body:FS)(x:FF):FF:=fun ds=>match fi ds with
 |some items=>loopF ga body x items ds
 |none=>none
noncomputable def calXF(n:Nat)(R:List D->Option Fls)(g:FA):FF:=fun ds=>match g ds with
 |some l=>if l.length=n then R l else none
 |none=>none
noncomputable def tryF(i t:Nat)(g:FS)(x:FF)(h:FS):FS:=fun ds=>match x ds with
 |some fs=>(h (ds.set i (.exf t fs))).map (goneO i)
 |none=>g ds
noncomputable def xfldG(i t:Nat)(f:Str):FE:=fun ds=>match ds[i]? with
 |some (.exf u fs)=>if u=t then (fs.lookup f).map D.int else none
 |_=>none
noncomputable def relE(i:Nat)(ds:List Sl):List Sl:=match ds[i]? with
 |some (.exf t _)=>ds.set i (.exc t)
 |_=>ds
end FL
namespace L2
open PySem PySem.Spec PyProof.Rows
noncomputable def isN0:Value->Bool
 | .none=>true
 |_=>false
noncomputable def keyIs:Key->Value->Bool:=fun k v=>match k with
 | .inl (some n)=>Value.isInt n v
 | .inl none=>isN0 v
 | .inr x=>Value.isStrOf x v
noncomputable def keyH(w:bS):Key->Int:=fun k=>match k with
 | .inl (some n)=>oN n
 | .inl none=>4238894112
 | .inr x=>hashStr w x
theorem jJ{k:Key}{v:Value}(h:keyIs k v=true):(∃i t,k=Sum.inl (some i)/\v=Value.int i t)\/(∃x t,k=Sum.inr x/\v=Value.str x t)\/(k=Sum.inl none/\v=Value.none):=by
 rcases k with(_ | i) | x
 . refine .inr (.inr ⟨rfl, ?_⟩);cases v<;>first | rfl | cases h
 . obtain⟨t, e⟩ := Value.isInt_shape (k := i) (v := v) h;exact .inl ⟨i,t,rfl,e⟩
 . obtain⟨t, e⟩ := Value.isStrOf_shape (x := x) (v := v) h;exact .inr (.inl ⟨x,t,rfl,e⟩)
theorem QH{prog:aY}{w:bS}{A:bR}{E:Value->aC->Prop}{s:aC}{Q:Int->aC->Prop}(h:Q 4238894112 { s with toks:=s.toks+1 }):aU (aM prog w) A (PySem.pyHash .none) Q E s:=by
 have ht:s.TypeIs .none "NoneType":=rfl;unfold PySem.pyHash;have hv:[Value.none].any Value.onHeap=false:=rfl;refine aA ?_;rw[cRoomFor,if_neg (by rw[hv];exact hO)];refine aJ ?_;refine aA (lW ht fU.lookup ?_);show aU _ _ (if (some (Value.builtin "NoneType.__hash__")==some Value.none)=true then _ else _) Q E s;rw[if_neg (by decide)];refine aA (lW ht fU.lookup ?_);show aU _ _ (callSpecialIfBoundUnlessNone? .none "__hash__" _ >>= _) Q E s
 refine aA (wpAny_callSpecialIfBoundUnlessNone?_slot ht fU
  (fP fU ht PySem.F.entry_NoneType_hash
    (show aU _ _ (do ret (<- mkInt 4238894112)) _ _ s from wpAny_ret_mkInt ?_) (PySem.F.args_NoneType_hash_1 _)))
 exact aJ h
noncomputable def CK(prog:aY)(w:bS):PySem.KeyKind prog w Key where
 is:=keyIs
 hash:=keyH w
 inj:=fun v a b ha hb=>by
  rcases jJ ha with⟨i,t,rfl,rfl⟩ | ⟨x,t,rfl,rfl⟩ | ⟨rfl,rfl⟩<;>rcases jJ hb with⟨j,u,rfl,e⟩ | ⟨y,u,rfl,e⟩ | ⟨rfl,e⟩<;>cases e<;>rfl
 byValue:=fun k v h=>by rcases jJ h with⟨i,t,rfl,rfl⟩ | ⟨x,t,rfl,rfl⟩ | ⟨rfl,rfl⟩<;>rfl
 pyHash:=fun hv h=>by
  rcases jJ hv with⟨i,t,rfl,rfl⟩ | ⟨x,t,rfl,rfl⟩ | ⟨rfl,rfl⟩
  . exact wpAny_pyHash_int h
  . exact wpAny_pyHash_str h
  . exact QH h
 eqBool:=fun hu hv h=>by
  rcases jJ hu with⟨i,t,rfl,rfl⟩ | ⟨x,t,rfl,rfl⟩ | ⟨rfl,rfl⟩<;>rcases jJ hv with⟨j,u,rfl,rfl⟩ | ⟨y,u,rfl,rfl⟩ | ⟨rfl,rfl⟩
  . exact wpAny_eqBool_int (by simp only[Sum.inl.injEq,Option.some.injEq] at h;exact h)
  . exact SeqAt.EqAt.int_str i t y u _ _ _ _ (by simpa using h)
  . exact SeqAt.EqAt.int_none i t _ _ _ _ (by simpa using h)
  . exact SeqAt.EqAt.str_int x t j u _ _ _ _ (by simpa using h)
  . exact wpAny_eqBool_str (by simpa using h)
  . exact SeqAt.EqAt.str_none x t _ _ _ _ (by simpa using h)
  . exact SeqAt.EqAt.none_int j u _ _ _ _ (by simpa using h)
  . exact SeqAt.EqAt.none_str y u _ _ _ _ (by simpa using h)
  . exact SeqAt.EqAt.same .none _ _ _ _ (by simpa using h)
 «strs»:=fun k x t v h=>by
  rcases jJ h with⟨i,u,rfl,e⟩ | ⟨y,u,rfl,e⟩ | ⟨rfl,e⟩<;>cases e
  cases v<;>rfl
inductive V where
 |non | bl (b:Bool) | int (i:Int) | str (x:Str) | byt (b:Array UInt8) | flt (b:UInt64) | ref (a:aB) | ty (n:String)
 deriving DecidableEq
noncomputable def RelV:V->Value->Prop
 | .non,u=>u=Value.none
 | .bl b,u=>u=Value.bool b
 | .int i,u=>∃t,u=Value.int i t
 | .str x,u=>∃t,u=Value.str x t
 | .byt b,u=>∃t,u=Value.bytes b t
 | .flt b,u=>∃t,u=Value.float b t
 | .ref a,u=>u=Value.ref a
 | .ty n,u=>u=Value.type n
abbrev Vals:List V->List Value->Prop:=uZ RelV
theorem Vals.length{xs:List V}{us:List Value}(r:Vals xs us):xs.length=us.length:=uZ.length r
theorem Vals.get:∀{xs:List V} {us:List Value} {i:Nat} {x:V},Vals xs us->xs[i]?=some x->∃u,us[i]?=some u/\RelV x u
 |_,_,_,_,.nil,e=>by simp at e
 |_,_,0,_,.cons r _,e=>by simp at e;subst e;exact⟨_,rfl,r⟩
 | _, _, i + 1, x, .cons _ t, e => by
   obtain⟨u,h1,h2⟩:=Vals.get (i:=i) (x:=x) t (by simpa using e);exact⟨u,by simpa using h1,h2⟩
theorem Vals.set{x:V}{u:Value}(r:RelV x u):∀{xs:List V} {us:List Value} (i:Nat),Vals xs us->Vals (xs.set i x) (us.set i u)
 |_,_,_,.nil=>.nil
 |_,_,0,.cons _ t=>.cons r t
 |_,_,i+1,.cons q t=>.cons q (Vals.set r i t)
theorem Vals.append:∀{xs ys:List V} {us ws:List Value},Vals xs us->Vals ys ws->Vals (xs++ys) (us++ws)
 |_,_,_,_,.nil,s=>s
 |_,_,_,_,.cons r t,s=>.cons r (Vals.append t s)
theorem Vals.take:∀{xs:List V} {us:List Value} (n:Nat),Vals xs us->Vals (xs.take n) (us.take n)
 |_,_,0,_=>.nil
 |_,_,_+1,.nil=>.nil
 |_,_,n+1,.cons r t=>.cons r (Vals.take n t)
theorem Vals.drop:∀{xs:List V} {us:List Value} (n:Nat),Vals xs us->Vals (xs.drop n) (us.drop n)
 |_,_,0,r=>r
 |_,_,_+1,.nil=>.nil
 |_,_,n+1,.cons _ t=>Vals.drop n t
noncomputable def RelO:Option V->Option Value->Prop
 |some v,some u=>RelV v u
 |none,none=>True
 |_,_=>False
def KV{κ : Type}: List (κ×V)->List (κ×Value)->Prop:=uZ fun(p : κ×V) (q : κ×Value)=>p.1=q.1/\RelV p.2 q.2
noncomputable def kV:Key->V:=fun k=>match k with
 | .inl (some n)=>.int n
 | .inl none=>.non
 | .inr x=>.str x
inductive HO where
 |lst (xs:List V)
 |tup (xs:List V)
 |dK (kvs:List (Key×V)) | dT (kvs:List (List Key×V))
 |set (S:Int->Bool) (n:Nat)
 |ins (C dx:aB) (fs:List (Str×V))
 |own (x:aB)
 |xd (fs:List (Str×V))
 |met (f x:aB)
 |rng (lo hi:Int)
 |frz (o:Obj) (u:HO)
 |tbl (q:Nat->Nat->Str)
 |ext (φ : Heap->Prop)
abbrev Hp:=aB->Option HO
noncomputable def upd(H:Hp)(a:aB)(o:HO):Hp:=fun b=>if b=a then some o else H b
theorem bY{H:Hp}{a:aB}{o:HO}: upd H a o a=some o:=by unfold upd;rw[if_pos rfl]
theorem zJ{H:Hp}{a b:aB}{o:HO}(h:b≠a):upd H a o b=H b:=by unfold upd;rw[if_neg h]
theorem jZ{H:Hp}{a b:aB}{o:HO}(h:H a=some o)(h':H b=none):a≠b:=by
 intro e;subst e;rw[h] at h';cases h'
def TblOk(H:Hp)(q:Nat->Nat->Str)(ps:Array Value):Prop:=TriplesOk ps.toList/\∀pos v,codeAmong pos ps.toList=some v->∃c o u vs t,v=.ref c/\H c=some (.frz o u)/\o.data=.fields vs/\vs[1]?=some (.str (q pos.line pos.col) t)
noncomputable def Fixed:HO->Prop
 | .tup _=>True
 | .frz o _=>∃vs,o.data=.fields vs
 |_=>False
noncomputable def Fx:={ u:HO // Fixed u }
section
variable(P:aY)(w:bS)
noncomputable def ObjOk(H:Hp)(h:Heap)(a:aB):HO->Prop
 | .lst xs=>xs.length<=sizeLine/\∃(its:List Value) (n:Nat),Vals xs its/\h.get? a=some { cls:=.type "list",data:=.seq its.toArray n }
 | .tup xs=>xs.length<=sizeLine/\∃its:List Value,Vals xs its/\IsTup h a its.toArray
 | .dK kvs=>kvs.length<=sizeLine/\(a==sysModules)=false/\∃vs,KV kvs vs/\h.DictOf (CK P w) a vs
 | .dT kvs=>kvs.length<=sizeLine/\(a==sysModules)=false/\∃xs:List (List Key×aB×Value),
    uZ (fun(p:List Key×V) (q:List Key×aB×Value)=>p.1=q.1/\H q.2.1=some (.tup (p.1.map kV))/\RelV p.2 q.2.2) kvs xs ∧
    ∃o es ep,h.get? a=some o/\o.ExactDict/\o.data=.dict es ep/\es.toList=xs.map (entryOfKey (tupleKind (CK P w)))/\(xs.map (·.1)).Nodup
 | .set S n=>h.SetOf (mV P w) a S n
 | .ins C dx fs=>H dx=some (.own a)/\fs.length<=1000/\dx≠a/\h.get? a=some (rL C dx) ∧
    ∃mA,h.Ns1 dx mA/\(∀f,RelO (fs.lookup f) (mA f))/\PySem.Within mA (fs.map (·.1))
 | .own _=>∃o,h.get? a=some o
 | .xd fs=>∃mA,h.Ns1 a mA/\∀f,RelO (fs.lookup f) (mA f)
 | .rng lo hi=>∃t u v,h.get? a=some { cls:=.type "range",data:=.fields #[.int lo t,.int hi u,.int 1 v] }
 | .frz o u=>h.get? a=some o/\ObjOk H h a u
 | .tbl q=>∃ps,h.get? a=some (sN ps)/\TblOk H q ps
 | .met f x=>h.get? a=some (pL (.ref f) (.ref x))
 | .ext φ=>φ h/\(∃o,h.get? a=some o)/\∀h1 h2:Heap,φ h1->(∀o,h1.get? a=some o->h2.get? a=some o)->φ h2
def HOk(H:Hp)(h:Heap):Prop:=∀a o,H a=some o->ObjOk P w H h a o
end
section
variable{P:aY}{w:bS}{H H':Hp}{h h':Heap}{a:aB}{o:HO}
theorem ObjOk.lt(x:ObjOk P w H h a o):a<h.objs.size:=by
 cases o with
 |lst xs=>obtain⟨_,_,_,_,e⟩:=x;exact aS e
 |tup xs=>obtain⟨_,_,_,p⟩:=x;exact p.lt
 |dK kvs=>obtain⟨_,_,_,_,o,_,_,e,_⟩:=x;exact aS e
 |dT kvs=>obtain⟨_,_,_,_,o,_,_,e,_⟩:=x;exact aS e
 |set S n=>obtain⟨o,_,_,_,e,_⟩:=x;exact aS e
 |ins C dx fs=>obtain⟨_,_,_,e,_⟩:=x;exact aS e
 |own y=>obtain⟨_,e⟩:=x;exact aS e
 |xd fs=>obtain⟨_,⟨_,_,_,e,_⟩,_⟩:=x;exact aS e
 |rng lo hi=>obtain⟨_,_,_,e⟩:=x;exact aS e
 |frz ob u=>obtain⟨e,_⟩:=x;exact aS e
 |tbl q=>obtain⟨_,e,_⟩:=x;exact aS e
 |met f y=>exact aS (show h.get? a=some _ from x)
 |ext φ=>obtain⟨_,⟨_,e⟩,_⟩:=x;exact aS e
theorem uZ.mapP{α β : Type}{F G : α->β->Prop}:∀{l₁ : List α} {l₂ : List β},uZ F l₁ l₂->(∀a b,F a b->G a b)->uZ G l₁ l₂
 |_,_,.nil,_=>.nil
 |_,_,.cons r t,f=>.cons (f _ _ r) (uZ.mapP t f)
theorem ObjOk.stay(x:ObjOk P w H h a o)(k:∀b u,(b=a\/H b=some (.own a))->h.get? b=some u->h'.get? b=some u)(ho:∀b,H b=some (.own a)->H' b=some (.own a))(ht:∀b (xs:Fx),H b=some xs.1->H' b=some xs.1):ObjOk P w H' h' a o:=by
 induction o with
 |lst xs=>obtain⟨z,its,n,r,e⟩:=x;exact⟨z,its,n,r,k _ _ (.inl rfl) e⟩
 |tup xs=>obtain⟨z,its,r,ob,e,c⟩:=x;exact⟨z,its,r,ob,k _ _ (.inl rfl) e,c⟩
 |dK kvs=>obtain⟨z,y,vs,r,ob,es,ep,e,c⟩:=x;exact⟨z,y,vs,r,ob,es,ep,k _ _ (.inl rfl) e,c⟩
 | dT kvs =>
   obtain⟨z,y,xs,r,ob,es,ep,e,c⟩:=x;exact⟨z,y,xs,uZ.mapP r fun p q z=>⟨z.1,ht _ ⟨.tup _,trivial⟩ z.2.1,z.2.2⟩,ob,es,ep,k _ _ (.inl rfl) e,c⟩
 |set S n=>obtain⟨ob,es,ep,t,e,c⟩:=x;exact⟨ob,es,ep,t,k _ _ (.inl rfl) e,c⟩
 | ins C dx fs =>
   obtain⟨d,z,ne,e,mA,⟨od,es,ep,e2,c⟩,r⟩:=x;exact⟨ho _ d,z,ne,k _ _ (.inl rfl) e,mA,⟨od,es,ep,k _ _ (.inr d) e2,c⟩,r⟩
 |own y=>obtain⟨ob,e⟩:=x;exact⟨ob,k _ _ (.inl rfl) e⟩
 |xd fs=>obtain⟨mA,⟨od,es,ep,e,c⟩,r⟩:=x;exact⟨mA,⟨od,es,ep,k _ _ (.inl rfl) e,c⟩,r⟩
 |rng lo hi=>obtain⟨t,u,v,e⟩:=x;exact⟨t,u,v,k _ _ (.inl rfl) e⟩
 |frz ob u ih=>obtain⟨e,q⟩:=x;exact⟨k _ _ (.inl rfl) e,ih q⟩
 | tbl q =>
   obtain⟨ps,e,t1,t2⟩:=x;refine⟨ps,k a _ (.inl rfl) e,t1,fun pos v z=>?_⟩;obtain⟨c,o,u,vs,t,h1,h2,h3,h4⟩:=t2 pos v z;exact⟨c,o,u,vs,t,h1,ht c ⟨.frz o u,vs,h3⟩ h2,h3,h4⟩
 | met f y =>
   have e:h.get? a=some (pL (.ref f) (.ref y)):=x;show h'.get? a=some (pL (.ref f) (.ref y));exact k a _ (.inl rfl) e
 |ext φ=>obtain⟨p,⟨o,e⟩,st⟩:=x;exact⟨st _ _ p fun o q=>k _ _ (.inl rfl) q,⟨o,k _ _ (.inl rfl) e⟩,st⟩
theorem HOk.lt(x:HOk P w H h)(e:H a=some o):a<h.objs.size:=(x a o e).lt
theorem HOk.fresh(x:HOk P w H h)(e:h.objs.size<=a):H a=none:=by
 cases q:H a with
 |none=>rfl
 |some u=>exact absurd (bN (x.lt q) e) (cT _)
theorem HOk.kept(x:HOk P w H h)(k:∀b u,h.get? b=some u->h'.get? b=some u):HOk P w H h':=fun a o e =>
 (x a o e).stay (fun b u _ q=>k b u q) (fun _ q=>q) fun _ _ q=>q
theorem HOk.laid(x:HOk P w H h)(k:∀b u,h.get? b=some u->h'.get? b=some u)(hp:h.objs.size<=a)(new:ObjOk P w (upd H a o) h' a o):HOk P w (upd H a o) h':=fun b u e=>by
 have hn:=x.fresh hp
 by_cases hb:b=a
 . subst hb;rw[bY] at e;cases e;exact new
 . rw[zJ hb] at e;exact(x b u e).stay (fun c v _ q=>k c v q) (fun c q=>by rw[zJ (jZ q hn)];exact q) fun c xs q=>by rw[zJ (jZ q hn)];exact q
end
def Rd(H:Hp)(a:aB)(u:HO):Prop:=H a=some u\/∃o,H a=some (.frz o u)
theorem Rd.of{H:Hp}{a:aB}{u:HO}(h:H a=some u):Rd H a u:=.inl h
theorem Rd.ok{P:aY}{w:bS}{H:Hp}{h:Heap}{a:aB}{u:HO}(r:Rd H a u)(x:HOk P w H h):ObjOk P w H h a u:=by
 rcases r with r | ⟨o,r⟩
 . exact x a u r
 . obtain⟨_, q⟩ := x a _ r;exact q
noncomputable def Mut:Option HO->Prop
 |some (.lst _)=>True
 |some (.dK _)=>True
 |some (.dT _)=>True
 |some (.set _ _)=>True
 |some (.ins _ _ _)=>True
 |some (.ext _)=>True
 |_=>False
section
variable{P:aY}{w:bS}{H:Hp}{h h':Heap}{x e:aB}{o':HO}
theorem HOk.write(ok:HOk P w H h)(mu:Mut (H x))(he:e=x\/H e=some (.own x))(k:∀b u,b≠e->h.get? b=some u->h'.get? b=some u)(heo:∃u,h'.get? e=some u)(new:ObjOk P w (upd H x o') h' x o'):HOk P w (upd H x o') h':=fun b u q=>by
 have nown:∀c y,H c=some (.own y)->c≠x:=fun c y r z=>by subst z;rw[r] at mu;exact mu
 have ntup:∀c (xs:Fx),H c=some xs.1->c≠x:=fun c xs r z=>by
  subst z;rw[r] at mu;obtain⟨u,hu⟩:=xs;cases u<;>first | exact False.elim mu | exact False.elim hu
 by_cases hb:b=x
 . subst hb;rw[bY] at q;cases q;exact new
 . rw [zJ hb] at q
   by_cases hbe:b=e
   . have q':H b=some (.own x):=by
      rcases he with z | z
      . exact absurd (hbe.trans z) hb
      . rw[hbe];exact z
     rw[q] at q';cases q';obtain⟨v,hv⟩:=heo;exact⟨v,by rw[hbe];exact hv⟩
   . refine (ok b u q).stay (fun c v hc r => k c v ?_ r) (fun c r => by rw [zJ (nown c b r)]; exact r) fun c xs r => by rw [zJ (ntup c xs r)]; exact r
     rcases hc with rfl | hc
     . exact hbe
     . rintro rfl;rcases he with z | z
       . exact nown c b hc z
       . rw[hc] at z;cases z;exact hb rfl
end
structure Un(fs ex:List aB)(H H':Hp)(h h':Heap):Prop where
 keep:∀b o,h.get? b=some o->H b=none->b∉fs->b∉ex->h'.get? b=some o
 slot:∀b o,h.get? b=some o->H b=none->b∈fs->b∉ex->∃sl,h'.get? b=some { o with slots:=sl }
 free:∀b o,h.get? b=some o->H b=none->b∉ex->H' b=none
 there:∀b o,h.get? b=some o->b∉ex->∃o',h'.get? b=some o'
 tups:∀b xs,H b=some (.tup xs)->H' b=some (.tup xs)
 frzs:∀b o u,H b=some (.frz o u)->H' b=some (.frz o u)
 tbls:∀b ps,H b=some (.tbl ps)->H' b=some (.tbl ps)
section
variable{fs fs' ex ex':List aB}{H H1 H2:Hp}{h h1 h2 h':Heap}{a x e:aB}{o:HO}
theorem Un.any(u:Un fs ex H H1 h h1){b:aB}{ob:Obj}(q:h.get? b=some ob)(n:H b=none)(hx:b∉ex):∃sl,h1.get? b=some { ob with slots:=sl }:=by
 by_cases hb:b∈fs
 . exact u.slot b ob q n hb hx
 . exact⟨ob.slots,u.keep b ob q n hb hx⟩
theorem Un.trans(a:Un fs ex H H1 h h1)(b:Un fs ex H1 H2 h1 h2):Un fs ex H H2 h h2 where
 keep:=fun c ob q n hc hx=>b.keep c ob (a.keep c ob q n hc hx) (a.free c ob q n hx) hc hx
 slot:=fun c ob q n hc hx=>by
  obtain⟨sl,e1⟩:=a.slot c ob q n hc hx;obtain⟨sl',e2⟩:=b.slot c _ e1 (a.free c ob q n hx) hc hx;exact⟨sl',e2⟩
 free:=fun c ob q n hx=>by
  obtain⟨o',e1⟩:=a.there c ob q hx;exact b.free c o' e1 (a.free c ob q n hx) hx
 there:=fun c ob q hx=>by
  obtain⟨o',e1⟩:=a.there c ob q hx;exact b.there c o' e1 hx
 tups:=fun c xs q=>b.tups c xs (a.tups c xs q)
 frzs:=fun c ob xs q=>b.frzs c ob xs (a.frzs c ob xs q)
 tbls:=fun c ps q=>b.tbls c ps (a.tbls c ps q)
theorem Un.kept(k:∀b u,h.get? b=some u->h'.get? b=some u):Un fs ex H H h h' :=
 ⟨fun b ob q _ _ _=>k b ob q,fun b ob q _ _ _=>⟨ob.slots,k b ob q⟩,fun _ _ _ n _=>n,fun b ob q _=>⟨ob,k b ob q⟩,fun _ _ q=>q,fun _ _ _ q=>q,fun _ _ q=>q⟩
theorem Un.refl:Un fs ex H H h h:=Un.kept fun _ _ q=>q
theorem Un.laid(k:∀b u,h.get? b=some u->h'.get? b=some u)(hp:h.objs.size<=a)(hn:H a=none):Un fs ex H (upd H a o) h h' where
 keep:=fun b u q _ _ _=>k b u q
 slot:=fun b u q _ _ _=>⟨u.slots,k b u q⟩
 free:=fun b u q n _=>by rw[zJ (bE (bN (aS q) hp))];exact n
 there:=fun b u q _=>⟨u,k b u q⟩
 tups:=fun b xs q=>by rw[zJ (jZ q hn)];exact q
 frzs:=fun b u xs q=>by rw[zJ (jZ q hn)];exact q
 tbls:=fun b ps q=>by rw[zJ (jZ q hn)];exact q
theorem Un.write(mu:Mut (H x))(he:e=x\/H e=some (.own x))(k:∀b u,b≠e->h.get? b=some u->h'.get? b=some u)(heo:∃u,h'.get? e=some u):Un fs ex H (upd H x o) h h':=by
 have hx:∀b,H b=none->b≠x:=fun b n z=>by subst z;rw[n] at mu;exact mu
 have hb:∀b,H b=none->b≠e:=fun b n z=>by
  subst z;rcases he with r | r
  . exact hx b n r
  . rw[n] at r;cases r
 have hm:∀b u,H b=some u->¬Mut (some u)->b≠x:=fun b u q nm z=>by subst z;rw[q] at mu;exact nm mu
 refine⟨fun b u q n _ _=>k b u (hb b n) q,fun b u q n _ _=>⟨u.slots,k b u (hb b n) q⟩,fun b u q n _=>by rw[zJ (hx b n)];exact n,fun b u q _=>?_,
  fun b xs q=>by rw[zJ (hm b _ q fun z=>z)];exact q,fun b u xs q=>by rw[zJ (hm b _ q fun z=>z)];exact q,fun b ps q=>by rw[zJ (hm b _ q fun z=>z)];exact q⟩
 by_cases hbe:b=e
 . subst hbe;exact heo
 . exact⟨u,k b u hbe q⟩
theorem Un.mono(u:Un fs ex H H1 h h1)(hs:∀b∈fs,b∈fs')(hx:∀b∈ex,b∈ex'):Un fs' ex' H H1 h h1 :=
 ⟨fun b ob q n hb he=>u.keep b ob q n (fun z=>hb (hs b z)) fun z=>he (hx b z),fun _ _ q n _ he=>u.any q n fun z=>he (hx _ z),fun b ob q n he=>u.free b ob q n fun z=>he (hx b z),fun b ob q he=>u.there b ob q fun z=>he (hx b z),u.tups,u.frzs,u.tbls⟩
end
noncomputable def trk(h:Heap)(H:Hp):List aB:=(List.range h.objs.size).filter fun a=>(H a).isSome
noncomputable def hidT(h:Heap)(H:Hp):Heap:=PySem.W.hideAll h (trk h H)
theorem QG(h:Heap)(H:Hp):(hidT h H).objs.size=h.objs.size:=PySem.W.hideAll_size _ _
theorem FV{h:Heap}{H:Hp}{b:aB}{o:Obj}(e:h.get? b=some o)(n:H b=none):(hidT h H).get? b=some o :=
 PySem.W.hideAll_get _ e fun hm=>by
  have q:(H b).isSome=true:=(YB.mp hm).2;rw[n] at q;simp at q
theorem of_hidT{h:Heap}{H:Hp}{b:aB}{o:Obj}(e:(hidT h H).get? b=some o):h.get? b=some o/\H b=none:=by
 have e':h.get? b=some o:=PySem.W.of_hideAll (trk h H) e;refine⟨e',?_⟩;cases q:H b with
 |none=>rfl
 | some x =>
   have hm:b∈trk h H:=YB.mpr ⟨oE.mpr (aS e'),by simp[q]⟩;have z:(hidT h H).get? b=none:=PySem.W.hideAll_none (trk h H) hm;rw[z] at e;cases e
noncomputable def allNews(g h:Heap)(L:aB):List (aB×Obj):=(List.range h.objs.size).filterMap fun a=>if a=L\/(g.get? a).isSome=true then none else (h.get? a).map fun o=>(a,o)
noncomputable def rest(g h:Heap)(L d:aB):List (aB×Obj):=(allNews g h L).filter fun p=>decide (p.1≠d)
structure Mod(K:aR)(mg:Str->Option Value)(base:Heap):Prop where
 kin:K.In base
 glob:base.Ns aP mg
 blt:∃mb,base.Ns sL mb/\∀x:Str,x≠"__name__"->mb x=eA x
 nolimit:base.NoLimit
structure Cx where
 prog:aY
 w:bS
 K:aR
 mg:Str->Option Value
 base:Heap
 A:bR
 N:List Str
 s₀ : aC
 H₀ : Hp
 env:Env
 outer:List Env
 stack:List Env
 ex:List aB
 fn:Str->Bool
 calm:Bool
 pn:List (aB×Obj)
 xe:Value->aC->Prop
noncomputable def frs(l:List Env):List aB:=l.filterMap (·.frame)
noncomputable abbrev Cx.fs(X:Cx):List aB:=frs X.outer
def Vis(sc:Scope)(x:Str):Prop:=sc.names.lookup x=some .local\/sc.names.lookup x=some .cell\/sc.names.lookup x=some .free
def Loc(sc:Scope)(x:Str):Prop:=sc.names.lookup x=some .local\/sc.names.lookup x=some .cell
def Look(env:Env)(h:Heap)(m:Str->Option Value)(x:Str)(u:Value):Prop :=
 (env.kindOf x=some .local/\m x=some u)\/((env.kindOf x=some .cell\/env.kindOf x=some .free)/\∃c,env.cells.lookup x=some c/\h.IsCell c (some u))
noncomputable def makers:List Str:=["law","_law_with_itself","_law_ways","_law_way","holding","_law_any_test","_law_test","_law_turned","_law_right","wheel_run","answer_run"]
noncomputable def JP:List Stmt->Nat->Nat->Str
 |[],_,_=>"<lambda>"
 | .FunctionDef n _ _ _ _ _ _ _ _ pos::r,l,c=>if pos.line=l/\pos.col=c then n else JP r l c
 |_::r,l,c=>JP r l c
noncomputable def pH(K:aR)(x:Str)(l c:Nat):Str:=match aQ K aP x with
 | some (some (.ref f)) => (match K.lookup f with
   | some ⟨_, _, .func fd, _⟩ => (match fd.body with
     | .stmts b=>x++".<locals>."++JP b l c
     |_=>x)
   |_=>x)
 |_=>x
structure TabsK(K:aR)(mg:Str->Option Value)(base:Heap)(H:Hp):Prop where
 bm:∃bm ob,mg "__builtins__" = some (.ref bm)/\bm≠sL/\base.get? bm=some ob/\ob.cls=.type "module"/\ob.dict=some sL/\ob.data=.plain
 tab:∀x c P,x∈makers->gN K x=some (c,P)->RD base c P/\H P=some (.tbl (pH K x))
def Bsz(K:aR)(mg:Str->Option Value)(base h:Heap)(H:Hp):Prop:=base.objs.size<=h.objs.size/\TabsK K mg base H
def FreeC(X:Cx)(H:Hp)(x:Str)(c:aB):Prop:=H c=none\/(X.fn x=false/\∃o u,H c=some (.frz o u))
theorem FreeC.now{X:Cx}{H:Hp}{x:Str}{c:aB}(h:FreeC X H x c)(hf:X.fn x=true):H c=none:=h.elim id fun z=>by rw[hf] at z;cases z.1
structure Cx.Ok(X:Cx):Prop where
 mod:Mod X.K X.mg X.base
 kind:X.env.scope.kind=.function
 glob:X.env.globals=aP
 blt:X.env.builtins=sL
 above:X.s₀.heap.objs.size<=X.env.locals
 inj:∀x y c,X.env.cells.lookup x=some c->X.env.cells.lookup y=some c->x=y
 has:∀x,(X.env.kindOf x=some .cell\/X.env.kindOf x=some .free)->∃c,X.env.cells.lookup x=some c
 cab:∀x c,X.fn x=true->X.env.cells.lookup x=some c->X.s₀.heap.objs.size<=c
 hd:X.calm=true->X.A.handled=none
 frames:X.A.frames=some X.stack
 stk:X.stack=X.outer\/(X.stack=X.env::X.outer/\X.env.frame=some X.env.locals)
 exf:∀b∈X.ex,b≠X.env.locals/\∀x c,X.env.cells.lookup x=some c->c≠b
 bs:∀b o,X.base.get? b=some o->X.s₀.heap.get? b=some o/\X.H₀ b=none
 bsz:Bsz X.K X.mg X.base X.s₀.heap X.H₀
 noex:∀b o,X.base.get? b=some o->b∉X.ex
 exfs:∀b∈X.ex,b∉X.fs
 funs:X.s₀.heap.FunFrames X.base X.outer
 frf:∀b∈X.fs,X.H₀ b=none
structure Inv(X:Cx)(aD:List (aB×Obj))(σ : List (Option V))(H:Hp)(s:aC):Prop where
 ok:X.Ok
 os:s.os=X.s₀.os
 bare:lN s.gens
 base:Un X.fs X.ex X.H₀ H X.s₀.heap s.heap
 loc:∃m,s.heap.Ns X.env.locals m/\∀(i:Nat) (x:Str) (v:V),X.N[i]?=some x->σ[i]?=some (some v)->Vis X.env.scope x->∃u,RelV v u/\Look X.env s.heap m x u
 cell:∀x c,X.env.cells.lookup x=some c->∃v,s.heap.IsCell c v
 free:H X.env.locals=none
 freeC:∀x c,X.env.cells.lookup x=some c->FreeC X H x c
 pin:∀p∈X.pn++aD,s.heap.get? p.1=some p.2/\H p.1=none/\p.1≠X.env.locals/\p.1∉X.fs/\∀v,p.2.data≠.cell v
 hok:HOk X.prog X.w H s.heap
 len : σ.length=X.N.length
section
variable{X:Cx}{aD:List (aB×Obj)}{σ : List (Option V)}{H H':Hp}{s:aC}{h':Heap}
theorem Cx.Ok.nofr(ok:X.Ok){b:aB}{o:Obj}(e:X.base.get? b=some o):b∉X.fs:=fun hb=>by
 have:=(ok.funs.mem hb).1;rw[e] at this;cases this
theorem Inv.bs(I:Inv X aD σ H s):∀b o,X.base.get? b=some o->s.heap.get? b=some o/\H b=none:=fun b o e =>
 ⟨I.base.keep b o (I.ok.bs b o e).1 (I.ok.bs b o e).2 (I.ok.nofr e) (I.ok.noex b o e),I.base.free b o (I.ok.bs b o e).1 (I.ok.bs b o e).2 (I.ok.noex b o e)⟩
theorem Inv.bk(I:Inv X aD σ H s):∀b o,X.base.get? b=some o->s.heap.get? b=some o:=fun b o e=>(I.bs b o e).1
theorem Inv.mod(I:Inv X aD σ H s):Mod X.K X.mg X.base:=I.ok.mod
theorem Inv.kIn(I:Inv X aD σ H s):X.K.In s.heap:=I.ok.mod.kin.keeps I.bk
theorem Inv.lt(I:Inv X aD σ H s):X.env.locals<s.heap.objs.size:=let ⟨_,hn,_⟩:=I.loc;hn.lt
theorem Inv.sz(I:Inv X aD σ H s):X.s₀.heap.objs.size<=s.heap.objs.size:=cW I.ok.above (HK I.lt)
theorem Inv.nofs(I:Inv X aD σ H s){a:aB}(h:s.heap.objs.size<=a):a∉X.fs:=fun hb=>by
 obtain⟨_,o,ho,_⟩:=I.ok.funs.mem hb;exact absurd (bN (aS ho) (cW I.sz h)) (cT _)
theorem Inv.cne(I:Inv X aD σ H s):∀x c,X.env.cells.lookup x=some c->c≠X.env.locals:=fun x c e z=>by
 obtain⟨v,o,ho,hd⟩:=I.cell x c e;obtain⟨m,⟨o',es,ep,ho',hd',_⟩,_⟩:=I.loc;rw[z,ho'] at ho;cases ho;rw[hd'] at hd;cases hd
theorem Inv.funs(I:Inv X aD σ H s):s.heap.FunFrames X.base X.outer:=by
 have all:∀(l:List Env),(∀b∈frs l,b∈X.fs)->X.s₀.heap.FunFrames X.base l->s.heap.FunFrames X.base l:=by
  intro l
  induction l with
  |nil=>intro _ _;trivial
  | cons env r ih =>
    intro hs hl;obtain⟨hk,⟨L,o,hf,hn,ho,hd⟩,hr⟩:=hl;have hL:L∈X.fs:=hs L (by unfold frs;rw[gP,hf];exact aF);obtain⟨sl,e⟩:=I.base.slot L o ho (I.ok.frf L hL) hL fun z=>I.ok.exfs L z hL;exact⟨hk,⟨L,_,hf,hn,e,hd⟩,ih (fun b hb=>hs b (by unfold frs;rw[gP,hf];exact aI _ hb)) hr⟩
 exact all X.outer (fun _ hb=>hb) I.ok.funs
theorem Inv.stack(I:Inv X aD σ H s):s.heap.FunFrames X.base X.stack:=by
 rcases I.ok.stk with e | ⟨e,hf⟩
 . rw[e];exact I.funs
 . rw[e];obtain⟨m,hn,_⟩:=I.loc;refine .cons (by rw[I.ok.kind];decide) hf hn ?_ I.funs;exact oK (cW I.ok.bsz.1 I.ok.above)
theorem Inv.stkSub(I:Inv X aD σ H s):∀b∈frs X.stack,b∈X.env.locals::X.fs:=fun b hb=>by
 rcases I.ok.stk with e | ⟨e,hf⟩
 . rw[e] at hb;exact aI _ hb
 . rw[e] at hb;unfold frs at hb;rw[gP,hf] at hb;exact hb
theorem Inv.stkFree(I:Inv X aD σ H s):∀b∈frs X.stack,H b=none:=fun b hb=>by
 rcases aH.mp (I.stkSub b hb) with e | hb
 . rw[e];exact I.free
 . obtain⟨_, o, ho, _⟩ := I.ok.funs.mem hb;exact I.base.free b o ho (I.ok.frf b hb) fun z=>I.ok.exfs b z hb
theorem Inv.step{g':Array iY}{t':Nat}{d':pD}{ch:List aB}(I:Inv X aD σ H s)(hch:∀b∈ch,(b∈X.ex\/X.s₀.heap.objs.size<=b)/\b≠X.env.locals/\(∀x c,X.env.cells.lookup x=some c->c≠b)/\∀p∈X.pn++aD,p.1≠b)(keep:∀b o,b≠X.env.locals->b∉X.fs->b∉ch->s.heap.get? b=some o->H b=none->h'.get? b=some o)(slot:∀b o,b≠X.env.locals->b∈X.fs->b∉ch->s.heap.get? b=some o->H b=none->∃sl,h'.get? b=some { o with slots:=sl })(free:∀b o,b∉ch->s.heap.get? b=some o->H b=none->H' b=none)(there:∀b o,b∉ch->s.heap.get? b=some o->∃o',h'.get? b=some o')(tups:∀b xs,H b=some (.tup xs)->H' b=some (.tup xs))(frzs:∀b o u,H b=some (.frz o u)->H' b=some (.frz o u))(tbls:∀b ps,H b=some (.tbl ps)->H' b=some (.tbl ps))(ns:∀m,s.heap.Ns X.env.locals m->h'.Ns X.env.locals m)(hok:HOk X.prog X.w H' h')(hg:lN g') :
  Inv X aD σ H' { s with heap:=h',gens:=g',drawn:=d',toks:=t' }:=by
 have neL:∀b o,X.s₀.heap.get? b=some o->b≠X.env.locals:=fun b o e=>bE (bN (aS e) I.ok.above)
 have neC:∀b o,X.s₀.heap.get? b=some o->b∉X.ex->b∉ch:=fun b o e hx hb=>by
  rcases(hch b hb).1 with z | z
  . exact hx z
  . exact absurd (bN (aS e) z) (cT _)
 have cellK:∀x c,X.env.cells.lookup x=some c->∀v,s.heap.IsCell c v->h'.IsCell c v:=fun x c e v ⟨o,ho,hd⟩=>by
  have nch:c∉ch:=fun z=>(hch c z).2.2.1 x c e rfl;rcases I.freeC x c e with fr | ⟨_,of,uf,fr⟩
  . by_cases hc : c ∈ X.fs
    . obtain⟨sl, q⟩ := slot c o (I.cne x c e) hc nch ho fr;exact⟨_,q,hd⟩
    . exact⟨o,keep c o (I.cne x c e) hc nch ho fr,hd⟩
  . obtain⟨e1, _⟩ := I.hok c _ fr;obtain⟨e2,_⟩:=hok c _ (frzs c of uf fr);rw[ho] at e1;cases e1;exact⟨o,e2,hd⟩
 refine⟨I.ok,I.os,hg,⟨fun b o e n hb hx=>?_,fun b o e n hb hx=>?_,fun b o e n hx=>?_,fun b o e hx=>?_,fun b xs e=>tups b xs (I.base.tups b xs e),fun b o xs e=>frzs b o xs (I.base.frzs b o xs e),fun b ps e=>?_⟩,?_,fun x c e=>?_,?_,fun x c e=>?_,fun p hp=>?_,hok,I.len⟩
 . exact keep b o (neL b o e) hb (neC b o e hx) (I.base.keep b o e n hb hx) (I.base.free b o e n hx)
 . obtain⟨sl, e1⟩ := I.base.slot b o e n hb hx;obtain⟨sl',e2⟩:=slot b _ (neL b o e) hb (neC b o e hx) e1 (I.base.free b o e n hx);exact⟨sl',e2⟩
 . obtain⟨o', e1⟩ := I.base.there b o e hx;exact free b o' (neC b o e hx) e1 (I.base.free b o e n hx)
 . obtain⟨o', e1⟩ := I.base.there b o e hx;exact there b o' (neC b o e hx) e1
 . exact tbls b ps (I.base.tbls b ps e)
 . obtain ⟨m, hn, hl⟩ := I.loc;refine ⟨m,ns m hn,fun i x v e1 e2 e3=>?_⟩;obtain ⟨u,r,l⟩:=hl i x v e1 e2 e3;refine ⟨u,r,?_⟩;rcases l with l | ⟨k,c,e,z⟩
   . exact .inl l
   . exact .inr ⟨k,c,e,cellK x c e _ z⟩
 . obtain⟨v, z⟩ := I.cell x c e;exact⟨v,cellK x c e v z⟩
 . obtain⟨m, ⟨o, _, _, ho, _⟩, _⟩ := I.loc;exact free _ o (fun z=>(hch _ z).2.1 rfl) ho I.free
 . obtain⟨v, o, ho, hd⟩ := I.cell x c e;exact(I.freeC x c e).elim (fun fr=>.inl (free c o (fun z=>(hch c z).2.2.1 x c e rfl) ho fr)) fun⟨h1,of,uf,fr⟩=>.inr ⟨h1,of,uf,frzs c of uf fr⟩
 . obtain⟨e, n, ne, nf, d⟩ := I.pin p hp;have nch:p.1∉ch:=fun z=>(hch p.1 z).2.2.2 p hp rfl;exact⟨keep p.1 p.2 ne nf nch e n,free p.1 p.2 nch e n,ne,nf,d⟩
theorem Inv.un{t':Nat}(I:Inv X aD σ H s)(u:Un X.fs [] H H' s.heap h')(hok:HOk X.prog X.w H' h'):Inv X aD σ H' { s with heap:=h',toks:=t' }:=by
 obtain⟨m,⟨o,es,ep,ho,r⟩,_⟩:=id I.loc;obtain⟨sl,hL⟩:=u.any ho I.free (by simp)
 exact I.step (g':=s.gens) (d':=s.drawn) (ch:=[]) (fun _ z=>nomatch z) (fun b o _ hb _ e n=>u.keep b o e n hb (by simp)) (fun b o _ hb _ e n=>u.slot b o e n hb (by simp)) (fun b o _ e n=>u.free b o e n (by simp)) (fun b o _ e=>u.there b o e (by simp)) u.tups u.frzs u.tbls (fun m' hm=>by
  obtain⟨o',es',ep',ho',r'⟩:=hm;rw[ho] at ho';cases ho'
  exact⟨_,es',ep',hL,r'⟩) hok I.bare
theorem Inv.call{g':Array iY}{t':Nat}{d':pD}{ch:List aB}(I:Inv X aD σ H s)(u:Un (frs X.stack) ch H H' s.heap h')(hok:HOk X.prog X.w H' h')(hg:lN g')(hch:∀b∈ch,(b∈X.ex\/X.s₀.heap.objs.size<=b)/\b≠X.env.locals/\(∀x c,X.env.cells.lookup x=some c->c≠b)/\∀p∈X.pn++aD,p.1≠b) :
  Inv X aD σ H' { s with heap:=h',gens:=g',drawn:=d',toks:=t' }:=by
 obtain⟨m,⟨o,es,ep,ho,r⟩,_⟩:=id I.loc;obtain⟨sl,hL⟩:=u.any ho I.free fun z=>(hch _ z).2.1 rfl
 exact I.step (ch:=ch) hch (fun b o hL hb hc e n=>u.keep b o e n (fun z=>(aH.mp (I.stkSub b z)).elim hL hb) hc) (fun b o _ _ hc e n=>u.any e n hc) (fun b o hc e n=>u.free b o e n hc) (fun b o hc e=>u.there b o e hc) u.tups u.frzs u.tbls (fun m' hm=>by
  obtain⟨o',es',ep',ho',r'⟩:=hm;rw[ho] at ho';cases ho'
  exact⟨_,es',ep',hL,r'⟩) hok hg
theorem Inv.turned{t':Nat}{it:aB}(I:Inv X aD σ H s)(k:∀b o,b≠it->s.heap.get? b=some o->h'.get? b=some o)(hn:H it=none)(hL:it≠X.env.locals)(h1:it∈X.ex\/X.s₀.heap.objs.size<=it)(h2:∀x c,X.env.cells.lookup x=some c->c≠it)(h3:∀p∈X.pn++aD,p.1≠it):Inv X aD σ H { s with heap:=h',toks:=t' }:=by
 have nit:∀b u,H b=some u->b≠it:=fun b u e z=>by rw[z,hn] at e;cases e
 refine I.step (g':=s.gens) (d':=s.drawn) (ch:=[it]) (fun b hb=>?_) (fun b o _ _ hc e _=>k b o (fun z=>hc (by simp[z])) e) (fun b o _ _ hc e _=>⟨o.slots,k b o (fun z=>hc (by simp[z])) e⟩) (fun _ _ _ _ n=>n)
  (fun b o hc e=>⟨o,k b o (fun z=>hc (by simp[z])) e⟩) (fun _ _ e=>e) (fun _ _ _ e=>e) (fun _ _ e=>e) (fun m hm=>?_) (fun b u e=>?_) I.bare
 . have e : b = it := by simpa using hb
   subst e;exact⟨h1,hL,h2,h3⟩
 . obtain⟨o, es, ep, ho, r⟩ := hm;exact⟨o,es,ep,k _ o (Ne.symm hL) ho,r⟩
 . refine (I.hok b u e).stay (fun c v hc q => k c v ?_ q) (fun _ q => q) fun _ _ q => q;rcases hc with z | z
   . rw[z];exact nit b u e
   . exact nit c _ z
theorem Inv.tok(I:Inv X aD σ H s)(t:Nat):Inv X aD σ H { s with toks:=t }:=I.un (h':=s.heap) (t':=t) Un.refl I.hok
theorem Inv.kept{t':Nat}(I:Inv X aD σ H s)(k:∀b u,s.heap.get? b=some u->h'.get? b=some u):Inv X aD σ H { s with heap:=h',toks:=t' }:=I.un (Un.kept k) (I.hok.kept k)
theorem Inv.laid{a:aB}{o:HO}{t':Nat}(I:Inv X aD σ H s)(k:∀b u,s.heap.get? b=some u->h'.get? b=some u)(hp:s.heap.objs.size<=a)(new:ObjOk X.prog X.w (upd H a o) h' a o) :
  Inv X aD σ (upd H a o) { s with heap:=h',toks:=t' }:=I.un (Un.laid k hp (I.hok.fresh hp)) (I.hok.laid k hp new)
theorem Inv.write{x e:aB}{o:HO}{t':Nat}(I:Inv X aD σ H s)(mu:Mut (H x))(he:e=x\/H e=some (.own x))(k:∀b u,b≠e->s.heap.get? b=some u->h'.get? b=some u)(heo:∃u,h'.get? e=some u)(new:ObjOk X.prog X.w (upd H x o) h' x o):Inv X aD σ (upd H x o) { s with heap:=h',toks:=t' }:=I.un (Un.write mu he k heo) (I.hok.write mu he k heo new)
theorem Inv.pins_of{pins':List (aB×Obj)}(I:Inv X aD σ H s)(h:∀p∈pins',s.heap.get? p.1=some p.2/\H p.1=none/\p.1≠X.env.locals/\p.1∉X.fs/\∀v,p.2.data≠.cell v):Inv X pins' σ H s :=
 ⟨I.ok,I.os,I.bare,I.base,I.loc,I.cell,I.free,I.freeC,fun p hp=>(bI.mp hp).elim (fun z=>I.pin p (bZ _ z)) (h p),I.hok,I.len⟩
theorem tF{N:List Str}(hN:N.Nodup){i j:Nat}{x:Str}(a:N[i]?=some x)(b:N[j]?=some x):i=j:=by
 obtain⟨h1,e1⟩:=aV.mp a;obtain⟨h2,e2⟩:=aV.mp b;exact(List.getElem_inj hN).mp (e1.trans e2.symm)
theorem AI{M:nX}{A:bR}{E:Value->aC->Prop}{i:Nat}{x:Str}{v:V}{u:Value}{Q:Unit->aC->Prop}(I:Inv X aD σ H s)(hN:X.N.Nodup)(hi:X.N[i]?=some x)(hx:Loc X.env.scope x)(r:RelV v u)(h:∀s',Inv X aD (σ.set i (some v)) H s'->(∃a,Heap.SameBut a s.heap s'.heap/\(a=X.env.locals\/X.env.cells.lookup x=some a))->Q () s')(hf:X.fn x=true\/X.env.scope.names.lookup x=some .local:=by first | exact .inl rfl | exact .inr rfl | assumption):aU M A (storeName X.env x u) Q E s:=by
 obtain⟨m,hn,hl⟩:=id I.loc;have hcls:(X.env.scope.kind==.class||(X.env.scope.kind==.module&&X.env.locals != X.env.globals))=false:=by rw[I.ok.kind];rfl
 have hiσ : i<σ.length:=by rw[I.len];exact(aV.mp hi).1
 have cne:=I.cne
 have tracked:∀{a:aB} {h':Heap},(∃o,s.heap.get? a=some o/\H a=none)->Heap.SameBut a s.heap h'->HOk X.prog X.w H h':=fun {a h'} ha hs b ob e=>by
  obtain⟨_,_,hfree⟩:=ha;refine(I.hok b ob e).stay (fun c w' hc q=>(hs.2 c ?_).trans q) (fun _ q=>q) fun _ _ q=>q;rintro rfl;rcases hc with rfl | hc
  . rw[hfree] at e;cases e
  . rw[hfree] at hc;cases hc
 rcases hx with hk | hk
 . refine wpAny_storeName_local hk hn (fun h' hn' hs => ?_) hcls;obtain ⟨oL,_,_,hoL,_⟩:=id hn;refine h _ ⟨I.ok,I.os,I.bare,⟨fun b o e n hb hx=>?_,fun b o e n hb hx=>?_,I.base.free,fun b o e hx=>?_,I.base.tups,I.base.frzs,I.base.tbls⟩,⟨_,hn',fun j y v' e1 e2 e3=>?_⟩,fun y c e=>?_,I.free,I.freeC,fun p hp=>?_,tracked ⟨oL,hoL,I.free⟩ hs,by simpa using I.len⟩ ⟨_,hs,.inl rfl⟩
   . exact(hs.2 b (bE (bN (aS e) I.ok.above))).trans (I.base.keep b o e n hb hx)
   . obtain⟨sl, e1⟩ := I.base.slot b o e n hb hx;exact⟨sl,(hs.2 b (bE (bN (aS e) I.ok.above))).trans e1⟩
   . obtain⟨o', e1⟩ := I.base.there b o e hx;exact⟨o',(hs.2 b (bE (bN (aS e) I.ok.above))).trans e1⟩
   . by_cases hj : j = i
     . subst hj;rw[hi] at e1;cases e1;rw[bA hiσ] at e2;cases e2;exact⟨u,r,.inl ⟨hk,by simp⟩⟩
     . rw [aG (Ne.symm hj)] at e2;obtain ⟨u',r',q⟩:=hl j y v' e1 e2 e3;refine ⟨u',r',?_⟩;rcases q with ⟨k,e⟩ | ⟨k,c,e,z⟩
       . refine .inl ⟨k, ?_⟩;have:y≠x:=fun e=>hj (tF hN e1 (e▸hi));simp[this,e]
       . exact .inr ⟨k,c,e,z.sameBut hs (cne y c e)⟩
   . obtain⟨w', z⟩ := I.cell y c e;exact⟨w',z.sameBut hs (cne y c e)⟩
   . obtain⟨e, n, ne, nf, d⟩ := I.pin p hp;exact⟨(hs.2 p.1 ne).trans e,n,ne,nf,d⟩
 . have hfn:X.fn x=true:=by
    rcases hf with z | z
    . exact z
    . rw[z] at hk;cases hk
   obtain⟨c,hc⟩:=I.ok.has x (.inl hk);obtain⟨w',z⟩:=I.cell x c hc;refine wpAny_storeName_cell I.ok.kind hk hc z (fun h' hc' hs=>?_);obtain⟨oc,hoc,hocd⟩:=id z;refine h { s with heap:=h' } ⟨I.ok,I.os,I.bare,⟨fun b o e n hb hx=>?_,fun b o e n hb hx=>?_,I.base.free,fun b o e hx=>?_,I.base.tups,I.base.frzs,I.base.tbls⟩,⟨m,hn.sameBut hs (Ne.symm (cne x c hc)),fun j y v' e1 e2 e3=>?_⟩,fun y c' e=>?_,I.free,I.freeC,fun p hp=>?_,tracked ⟨oc,hoc,(I.freeC x c hc).now hfn⟩ hs,by simpa using I.len⟩ ⟨c,hs,.inr hc⟩
   . exact(hs.2 b (bE (bN (aS e) (I.ok.cab x c hfn hc)))).trans (I.base.keep b o e n hb hx)
   . obtain⟨sl, e1⟩ := I.base.slot b o e n hb hx;exact⟨sl,(hs.2 b (bE (bN (aS e) (I.ok.cab x c hfn hc)))).trans e1⟩
   . obtain⟨o', e1⟩ := I.base.there b o e hx;exact⟨o',(hs.2 b (bE (bN (aS e) (I.ok.cab x c hfn hc)))).trans e1⟩
   . by_cases hj : j = i
     . subst hj;rw[hi] at e1;cases e1;rw[bA hiσ] at e2;cases e2;exact⟨u,r,.inr ⟨.inl hk,c,hc,hc'⟩⟩
     . rw [aG (Ne.symm hj)] at e2;obtain ⟨u',r',q⟩:=hl j y v' e1 e2 e3;refine ⟨u',r',?_⟩;rcases q with q | ⟨k,c',e,z'⟩
       . exact .inl q
       . refine .inr ⟨k, c', e, z'.sameBut hs ?_⟩;rintro rfl;exact hj (tF hN e1 (I.ok.inj _ _ _ e hc▸hi))
   . by_cases hcc : c' = c
     . subst hcc;exact⟨_,hc'⟩
     . obtain⟨w2, z2⟩ := I.cell y c' e;exact⟨w2,z2.sameBut hs hcc⟩
   . obtain⟨e, n, ne, nf, d⟩ := I.pin p hp;refine⟨(hs.2 p.1 ?_).trans e,n,ne,nf,d⟩;intro q;rw[q,hoc] at e;have q':oc=p.2:=Option.some.inj e;exact d w' (by rw[<- q'];exact hocd)
theorem wM{M:nX}{A:bR}{E:Value->aC->Prop}{i:Nat}{x:Str}{v:V}{u:Value}{Q:Unit->aC->Prop}(I:Inv X aD σ H s)(hN:X.N.Nodup)(hi:X.N[i]?=some x)(hx:Loc X.env.scope x)(r:RelV v u)(h:∀s',Inv X aD (σ.set i (some v)) H s'->Q () s')(hf:X.fn x=true\/X.env.scope.names.lookup x=some .local:=by first | exact .inl rfl | exact .inr rfl | assumption):aU M A (storeName X.env x u) Q E s :=
 AI I hN hi hx r (fun s' I' _=>h s' I') hf
theorem Inv.call'{s':aC}{ch:List aB}(I:Inv X aD σ H s)(ho:s'.os=s.os)(u:Un (frs X.stack) ch H H' s.heap s'.heap)(hok:HOk X.prog X.w H' s'.heap)(hg:lN s'.gens)(hch:∀b∈ch,(b∈X.ex\/X.s₀.heap.objs.size<=b)/\b≠X.env.locals/\(∀x c,X.env.cells.lookup x=some c->c≠b)/\∀p∈X.pn++aD,p.1≠b):Inv X aD σ H' s':=by
 obtain⟨h',g',d',t',o'⟩:=s';have e:o'=s.os:=ho;subst e;exact I.call (g':=g') (t':=t') (d':=d') u hok hg hch
end
abbrev XK:=Value->Option aB->Hp->Prop
abbrev St:=List (Option V)
abbrev VK:=V->Hp->Prop
abbrev TE:=St->Hp->VK->Prop
abbrev TT:=St->Hp->(Bool->Hp->Prop)->Prop
abbrev TA:=St->Hp->(List V->Hp->Prop)->Prop
structure Ends where
 nx:St->Hp->Prop
 rt:VK
 bk:St->Hp->Prop:=fun _ _=>False
 ct:St->Hp->Prop:=fun _ _=>False
abbrev TS:=Ends->St->Hp->Prop
def EP(X:Cx)(aD:List (aB×Obj))(σ : St)(Q:VK)(u:Value)(s':aC):Prop:=∃v H',Inv X aD σ H' s'/\RelV v u/\Q v H'
def TP(X:Cx)(aD:List (aB×Obj))(σ : St)(Q:Bool->Hp->Prop)(b:Bool)(s':aC):Prop:=∃H',Inv X aD σ H' s'/\Q b H'
def AP(X:Cx)(aD:List (aB×Obj))(σ : St)(Q:List V->Hp->Prop)(us:List Value)(s':aC):Prop:=∃vs H',Inv X aD σ H' s'/\Vals vs us/\Q vs H'
def SP(X:Cx)(aD:List (aB×Obj))(D:Ends)(f:Flow)(s':aC):Prop :=
 match f with
 | .next=>∃σ' H',Inv X aD σ' H' s'/\D.nx σ' H'
 | .brk=>∃σ' H',Inv X aD σ' H' s'/\D.bk σ' H'
 | .cont=>∃σ' H',Inv X aD σ' H' s'/\D.ct σ' H'
 | .ret u=>∃v σ' H',Inv X aD σ' H' s'/\RelV v u/\D.rt v H'
def PE(X:Cx)(e:Expr)(t:TE):Prop :=
 ∀(aD:List (aB×Obj)) (s:aC) (σ : St) (H:Hp) (Q:VK),Inv X aD σ H s->t σ H Q->aU (aM X.prog X.w) X.A (cM e X.env) (EP X aD σ Q) X.xe s
def PT(X:Cx)(e:Expr)(t:TT):Prop :=
 ∀(aD:List (aB×Obj)) (s:aC) (σ : St) (H:Hp) (Q:Bool->Hp->Prop),Inv X aD σ H s->t σ H Q->aU (aM X.prog X.w) X.A (uW e X.env (cM e X.env)) (TP X aD σ Q) X.xe s
def PW(X:Cx)(e:Expr)(t:TT):Prop :=
 ∀(whole:Sem Value) (aD:List (aB×Obj)) (s:aC) (σ : St) (H:Hp) (Q:Bool->Hp->Prop),Inv X aD σ H s->t σ H Q->aU (aM X.prog X.w) X.A (uW e X.env whole) (TP X aD σ Q) X.xe s
theorem PW.pt{X:Cx}{e:Expr}{t:TT}(h:PW X e t):PT X e t:=h _
def PA(X:Cx)(es:List Expr)(t:TA):Prop :=
 ∀(pos:Pos) (aD:List (aB×Obj)) (s:aC) (σ : St) (H:Hp) (Q:List V->Hp->Prop),Inv X aD σ H s->t σ H Q->aU (aM X.prog X.w) X.A (spliced (eF pos (aL es X.env))) (AP X aD σ Q) X.xe s
def PS(X:Cx)(st:Stmt)(t:TS):Prop :=
 ∀(aD:List (aB×Obj)) (s:aC) (σ : St) (H:Hp) (D:Ends),Inv X aD σ H s->t D σ H->aU (aM X.prog X.w) X.A (exec st X.env) (SP X aD D) X.xe s
def PSs(X:Cx)(st:List Stmt)(t:TS):Prop :=
 ∀(aD:List (aB×Obj)) (s:aC) (σ : St) (H:Hp) (D:Ends),Inv X aD σ H s->t D σ H->aU (aM X.prog X.w) X.A (execs st X.env) (SP X aD D) X.xe s
theorem thn{α : Type}{t:Sem α}{Q Q' : α->aC->Prop}{M:nX}{A:bR}{E:Value->aC->Prop}{s:aC}(h:aU M A t Q E s)(hQ:∀a s,Q a s->Q' a s):aU M A t Q' E s:=cB h hQ fun _ _ x=>x
section
variable{X:Cx}
def tVar(i:Nat):TE:=fun σ H Q=>∃v,σ[i]?=some (some v)/\Q v H
def tC(v:V):TE:=fun _ H Q=>Q v H
theorem yL{i:Nat}{x:Str}{pos:Pos}(hN:X.N[i]?=some x)(hv:Vis X.env.scope x)(hd:(x==("__debug__" : Str))=false:=by decide)(hcd:(x==("__classdict__" : Str))=false:=by decide):PE X (.Name x pos) (tVar i):=by
 intro aD s σ H Q I h;obtain⟨v,e,h⟩:=h;obtain⟨m,hn,hl⟩:=I.loc;obtain⟨u,r,l⟩:=hl i x v hN e hv;have fin:EP X aD σ Q u s:=⟨v,H,I,r,h⟩
 rcases l with⟨hk,hm⟩ | ⟨hk,c,hc,hcell⟩
 . exact wpAny_Name (wpAny_loadName_local I.ok.kind hk hn hm fin) hd
 . rcases hk with hk | hk
   . exact wpAny_Name (wpAny_loadName_cell I.ok.kind hk hc hcell fin) hd
   . exact wpAny_Name (wpAny_loadName_free I.ok.kind hk hc hcell fin hcd) hd
theorem pe_int{i j pos}: PE X (.Constant (.int i) j pos) (tC (.int i)):=fun _ _ _ H _ I h=>wpAny_Constant_int ⟨.int i,H,I.tok _,⟨_,rfl⟩,h⟩
theorem pe_bl{b j pos}: PE X (.Constant (.bool b) j pos) (tC (.bl b)):=fun _ _ _ H _ I h=>Constant_bool ⟨.bl b,H,I,rfl,h⟩
theorem pe_non{j pos}: PE X (.Constant .none j pos) (tC .non):=fun _ _ _ H _ I h=>Constant_none ⟨.non,H,I,rfl,h⟩
def Gl(X:Cx)(x:Str):Prop:=X.env.kindOf x=some .globalImplicit
theorem vB{E:Value->aC->Prop}{aD:List (aB×Obj)}{s:aC}{σ : St}{H:Hp}{x:Str}{u:Value}{pos:Pos}{Q:Value->aC->Prop}(I:Inv X aD σ H s)(hg:Gl X x)(hm:X.mg x=some u)(h:Q u s)(hd:(x==("__debug__" : Str))=false:=by decide):aU (aM X.prog X.w) X.A (cM (.Name x pos) X.env) Q E s :=
 Calls.Name_function_global I.ok.kind hg (Calls.loadGlobal_global (by rw[I.ok.glob];exact I.mod.glob.keeps I.bk) hm h) hd
theorem xJ{E:Value->aC->Prop}{aD:List (aB×Obj)}{s:aC}{σ : St}{H:Hp}{x:Str}{u:Value}{pos:Pos}{Q:Value->aC->Prop}(I:Inv X aD σ H s)(hg:Gl X x)(hm:X.mg x=none)(hv:eA x=some u)(h:Q u s)(hn:x≠"__name__":=by decide)(hd:(x==("__debug__" : Str))=false:=by decide):aU (aM X.prog X.w) X.A (cM (.Name x pos) X.env) Q E s:=by
 obtain⟨mb,h1,h2⟩:=I.mod.blt;exact Calls.Name_function_global I.ok.kind hg (Calls.loadGlobal_builtin (by rw[I.ok.glob];exact I.mod.glob.keeps I.bk) hm (by rw[I.ok.blt];exact h1.keeps I.bk) ((h2 x hn).trans hv) h) hd
theorem CG{x:Str}{v:V}{u:Value}{pos:Pos}(hg:Gl X x)(hm:X.mg x=some u)(r:RelV v u)(hd:(x==("__debug__" : Str))=false:=by decide):PE X (.Name x pos) (tC v):=
 fun _ _ _ H _ I h=>vB I hg hm ⟨v,H,I,r,h⟩ hd
theorem LY{x:Str}{v:V}{u:Value}{pos:Pos}(hg:Gl X x)(hm:X.mg x=none)(hv:eA x=some u)(r:RelV v u)(hn:x≠"__name__":=by decide)(hd:(x==("__debug__" : Str))=false:=by decide):PE X (.Name x pos) (tC v):=
 fun _ _ _ H _ I h=>xJ I hg hm hv ⟨v,H,I,r,h⟩ hn hd
variable{a b:Expr}{ta tb:TE}{pos:Pos}
def tB(t:TE):TT:=fun σ H Q=>t σ H fun x H1=>∃c,x=.bl c/\Q c H1
theorem pt_val{e:Expr}{t:TE}(h:PE X e t)(he:∀whole,uW e X.env whole=(do let v <- whole;DJ e.pos;lK [v] (truthy v)):=by intro _;rfl):PT X e (tB t):=by
 intro aD s σ H Q I hw;refine isTrue_plain (thn (h aD s σ H _ I hw) fun v s1 zq=>?_) (he _);obtain⟨x,H1,I1,r1,q1⟩:=zq;obtain⟨d,rfl,q⟩:=q1;cases r1;exact fC ⟨H1,I1,q⟩
variable{tA tB':TT}{rest:List Expr}
def tAnd(t u:TT):TT:=fun σ H Q=>t σ H fun c H1=>if c=true then u σ H1 Q else Q false H1
def tOr(t u:TT):TT:=fun σ H Q=>t σ H fun c H1=>if c=true then Q true H1 else u σ H1 Q
def tNot(t:TT):TT:=fun σ H Q=>t σ H fun c H1=>Q (!c) H1
theorem ZK(ha:PT X a tA):PW X (.BoolOp .And [a] pos) tA:=by
 intro wh aD s σ H Q I h;refine isTrue_and (thn (ha aD s σ H Q I h) fun c s1 e=>?_);cases c with
 |true=>exact isTrue_and_nil e
 |false=>exact e
theorem pw_or1(ha:PT X a tA):PW X (.BoolOp .Or [a] pos) tA:=by
 intro wh aD s σ H Q I h;refine isTrue_or (thn (ha aD s σ H Q I h) fun c s1 e=>?_);cases c with
 |false=>exact isTrue_or_nil e
 |true=>exact e
theorem pw_and(ha:PT X a tA)(hb:PW X (.BoolOp .And (b::rest) pos) tB'):PW X (.BoolOp .And (a::b::rest) pos) (tAnd tA tB'):=by
 intro wh aD s σ H Q I h;refine isTrue_and (thn (ha aD s σ H _ I h) fun c s1 zq=>?_);obtain⟨H1,I1,q1⟩:=zq;cases c with
 |true=>exact hb wh aD s1 σ H1 Q I1 q1
 |false=>exact⟨H1,I1,q1⟩
theorem pw_or(ha:PT X a tA)(hb:PW X (.BoolOp .Or (b::rest) pos) tB'):PW X (.BoolOp .Or (a::b::rest) pos) (tOr tA tB'):=by
 intro wh aD s σ H Q I h;refine isTrue_or (thn (ha aD s σ H _ I h) fun c s1 zq=>?_);obtain⟨H1,I1,q1⟩:=zq;cases c with
 |true=>exact⟨H1,I1,q1⟩
 |false=>exact hb wh aD s1 σ H1 Q I1 q1
theorem pt_not(ha:PT X a tA):PT X (.UnaryOp .Not a pos) (tNot tA):=by
 intro aD s σ H Q I h;exact isTrue_not (ha aD s σ H (fun c H1=>Q (!c) H1) I h)
def tAndV(ta tb:TE):TE:=fun σ H Q=>ta σ H fun x H1=>∃c,x=.bl c/\if c=true then tb σ H1 Q else Q (.bl false) H1
def tOrV(ta tb:TE):TE:=fun σ H Q=>ta σ H fun x H1=>∃c,x=.bl c/\if c=true then Q (.bl true) H1 else tb σ H1 Q
def tNotV(ta:TE):TE:=fun σ H Q=>ta σ H fun x H1=>∃c,x=.bl c/\Q (.bl (!c)) H1
theorem pe_one{op}{t:TE}(h:PE X a t):PE X (.BoolOp op [a] pos) t:=fun aD s σ H Q I hw=>BoolOp_one (h aD s σ H Q I hw)
theorem pe_and(ha:PE X a ta)(hb:PE X (.BoolOp .And (b::rest) pos) tb):PE X (.BoolOp .And (a::b::rest) pos) (tAndV ta tb):=by
 intro aD s σ H Q I h;refine BoolOp_and (thn (ha aD s σ H _ I h) fun v s1 zq=>?_);obtain⟨x,H1,I1,r1,q1⟩:=zq;obtain⟨c,rfl,q1⟩:=q1;cases r1;refine fC ?_;cases c with
 |true=>exact hb aD s1 σ H1 Q I1 q1
 |false=>exact⟨.bl false,H1,I1,rfl,q1⟩
theorem pe_or(ha:PE X a ta)(hb:PE X (.BoolOp .Or (b::rest) pos) tb):PE X (.BoolOp .Or (a::b::rest) pos) (tOrV ta tb):=by
 intro aD s σ H Q I h;refine BoolOp_or (thn (ha aD s σ H _ I h) fun v s1 zq=>?_);obtain⟨x,H1,I1,r1,q1⟩:=zq;obtain⟨c,rfl,q1⟩:=q1;cases r1;refine fC ?_;cases c with
 |false=>exact hb aD s1 σ H1 Q I1 q1
 |true=>exact⟨.bl true,H1,I1,rfl,q1⟩
theorem pe_not(ha:PE X a ta):PE X (.UnaryOp .Not a pos) (tNotV ta):=by
 intro aD s σ H Q I h;refine UnaryOp_ (thn (ha aD s σ H _ I h) fun v s1 zq=>?_);obtain⟨x,H1,I1,r1,q1⟩:=zq;obtain⟨c,rfl,q1⟩:=q1;cases r1;exact not_of (fC ⟨.bl (!c),H1,I1,rfl,q1⟩)
def tIf(t:TT)(ta tb:TE):TE:=fun σ H Q=>t σ H fun c H1=>if c=true then ta σ H1 Q else tb σ H1 Q
theorem UW{c:Expr}(hc:PT X c tA)(ha:PE X a ta)(hb:PE X b tb):PE X (.IfExp c a b pos) (tIf tA ta tb):=by
 intro aD s σ H Q I h;refine wpAny_IfExp (thn (hc aD s σ H _ I h) fun d s1 zq=>?_);obtain⟨H1,I1,q1⟩:=zq;cases d with
 |true=>exact ha aD s1 σ H1 Q I1 q1
 |false=>exact hb aD s1 σ H1 Q I1 q1
end
def SqL(K:aR)(H:Hp)(a:aB)(xs:List V):Prop :=
 Rd H a (.lst xs) ∨
  ∃(o:Obj) (its:Array Value) (n:Nat),K.lookup a=some o/\o.cls=.type "list"/\o.dict=none/\o.data=.seq its n/\its.size<=sizeLine/\Vals xs its.toList
def SqT(K:aR)(H:Hp)(a:aB)(xs:List V):Prop :=
 Rd H a (.tup xs) ∨
  ∃(o:Obj) (its:Array Value) (n:Nat),K.lookup a=some o/\o.cls=.type "tuple"/\o.data=.seq its n/\its.size<=sizeLine/\Vals xs its.toList
noncomputable def absV:Value->Option V
 | .none=>some .non
 | .bool b=>some (.bl b)
 | .int i _=>some (.int i)
 | .str x _=>some (.str x)
 | .bytes b _=>some (.byt b)
 | .float b _=>some (.flt b)
 | .ref a=>some (.ref a)
 | .type n=>some (.ty n)
 |_=>none
theorem RelV.abs{x:V}{u:Value}(r:RelV x u):absV u=some x:=by
 cases x with
 |non=>cases r;rfl
 |bl _=>cases r;rfl
 |int _=>obtain⟨t,rfl⟩:=r;rfl
 |str _=>obtain⟨t,rfl⟩:=r;rfl
 |byt _=>obtain⟨t,rfl⟩:=r;rfl
 |flt _=>obtain⟨t,rfl⟩:=r;rfl
 |ref _=>cases r;rfl
 |ty _=>cases r;rfl
theorem RelV.inj{x y:V}{u:Value}(r:RelV x u)(q:RelV y u):x=y:=Option.some.inj (r.abs.symm.trans q.abs)
theorem Vals.inj:∀{xs ys:List V} {us:List Value},Vals xs us->Vals ys us->xs=ys
 |_,_,_,.nil,.nil=>rfl
 |_,_,_,.cons r t,.cons r' t'=>by rw[r.inj r',Vals.inj t t']
section
variable{X:Cx}{aD:List (aB×Obj)}{σ : St}{H:Hp}{s:aC}{a:aB}{xs ys:List V}
theorem SqL.of{K:aR}(h:H a=some (.lst xs)):SqL K H a xs:=.inl (.inl h)
theorem SqT.of{K:aR}(h:H a=some (.tup xs)):SqT K H a xs:=.inl (.inl h)
theorem Inv.list(I:Inv X aD σ H s)(h:SqL X.K H a xs):∃its:List Value,Vals xs its/\PlainL s.heap a its.toArray/\xs.length<=sizeLine:=by
 rcases h with h | ⟨o,its,n,hk,hc,hd,hs,hz,r⟩
 . obtain⟨z, its, n, r, e⟩ := h.ok I.hok;exact⟨its,r,⟨_,n,e,rfl,rfl,rfl⟩,z⟩
 . refine⟨its.toList, r, ⟨o, n, I.kIn a o hk, hc, hd, by simpa using hs⟩, ?_⟩;have e:=r.length;simp only[bC] at e;omega
theorem Inv.tuple(I:Inv X aD σ H s)(h:SqT X.K H a xs):∃its:List Value,Vals xs its/\IsTup s.heap a its.toArray/\xs.length<=sizeLine:=by
 rcases h with h | ⟨o,its,n,hk,hc,hs,hz,r⟩
 . obtain⟨z, its, r, p⟩ := h.ok I.hok;exact⟨its,r,p,z⟩
 . refine⟨its.toList, r, ⟨o, I.kIn a o hk, hc, n, by simpa using hs⟩, ?_⟩;have e:=r.length;simp only[bC] at e;omega
theorem Inv.list_inj(I:Inv X aD σ H s)(h:SqL X.K H a xs)(h':SqL X.K H a ys):xs=ys:=by
 obtain⟨its,r,⟨o,n,e,_,_,d⟩,_⟩:=I.list h;obtain⟨its',r',⟨o',n',e',_,_,d'⟩,_⟩:=I.list h';rw[e] at e';cases e';rw[d] at d';injection d' with d1 _
 have:its=its':=by simpa using congrArg Array.toList d1
 subst this;exact r.inj r'
theorem Inv.tuple_inj(I:Inv X aD σ H s)(h:SqT X.K H a xs)(h':SqT X.K H a ys):xs=ys:=by
 obtain⟨its,r,⟨o,e,_,n,d⟩,_⟩:=I.tuple h;obtain⟨its',r',⟨o',e',_,n',d'⟩,_⟩:=I.tuple h';rw[e] at e';cases e';rw[d] at d';injection d' with d1 _
 have:its=its':=by simpa using congrArg Array.toList d1
 subst this;exact r.inj r'
end
noncomputable abbrev Cx.wish(X:Cx)(E:Value->aC->Prop):Cx:={ X with xe:=E }
noncomputable abbrev Cx.nox(X:Cx):Cx:=X.wish fun _ _=>False
theorem Cx.Ok.wish{X:Cx}(ok:X.Ok)(E:Value->aC->Prop):(X.wish E).Ok :=
 ⟨ok.mod,ok.kind,ok.glob,ok.blt,ok.above,ok.inj,ok.has,ok.cab,ok.hd,ok.frames,ok.stk,ok.exf,ok.bs,ok.bsz,ok.noex,ok.exfs,ok.funs,ok.frf⟩
theorem Cx.Ok.unwish{X:Cx}{E:Value->aC->Prop}(ok:(X.wish E).Ok):X.Ok :=
 ⟨ok.mod,ok.kind,ok.glob,ok.blt,ok.above,ok.inj,ok.has,ok.cab,ok.hd,ok.frames,ok.stk,ok.exf,ok.bs,ok.bsz,ok.noex,ok.exfs,ok.funs,ok.frf⟩
section
variable{X:Cx}{aD:List (aB×Obj)}{σ : St}{H:Hp}{s:aC}{E:Value->aC->Prop}
theorem Inv.wish(I:Inv X aD σ H s)(E:Value->aC->Prop):Inv (X.wish E) aD σ H s:=⟨I.ok.wish E,I.os,I.bare,I.base,I.loc,I.cell,I.free,I.freeC,I.pin,I.hok,I.len⟩
theorem Inv.unwish(I:Inv (X.wish E) aD σ H s):Inv X aD σ H s:=⟨I.ok.unwish,I.os,I.bare,I.base,I.loc,I.cell,I.free,I.freeC,I.pin,I.hok,I.len⟩
theorem SP.unwish{D:Ends}{f:Flow}{s':aC}(h:SP (X.wish E) aD D f s'):SP X aD D f s':=by
 cases f with
 |next=>obtain⟨σ',H',I,q⟩:=h;exact⟨σ',H',I.unwish,q⟩
 |brk=>obtain⟨σ',H',I,q⟩:=h;exact⟨σ',H',I.unwish,q⟩
 |cont=>obtain⟨σ',H',I,q⟩:=h;exact⟨σ',H',I.unwish,q⟩
 |ret u=>obtain⟨v,σ',H',I,r,q⟩:=h;exact⟨v,σ',H',I.unwish,r,q⟩
theorem PSs.nox{st:List Stmt}{t:TS}(h:PSs X.nox st t):PSs X st t:=fun aD s σ H D I hw =>
 cB (h aD s σ H D (I.wish _) hw) (fun _ _ q=>q.unwish) fun _ _ z=>False.elim z
end
section
variable{X:Cx}{st:Stmt}{rest:List Stmt}{t u:TS}{e:Expr}{te:TE}{pos:Pos}
def tNext:TS:=fun D σ H=>D.nx σ H
def tSeq(t u:TS):TS:=fun D σ H=>t { D with nx:=u D } σ H
theorem LR:PSs X [] tNext:=fun _ _ σ H _ I h=>iF ⟨σ,H,I,h⟩
theorem xQ(h1:PS X st t)(h2:PSs X rest u):PSs X (st::rest) (tSeq t u):=by
 intro aD s σ H D I h;refine uT (thn (h1 aD s σ H { D with nx:=u D } I h) fun f s1 q=>?_);cases f with
 | next =>
   obtain⟨σ',H',I',q⟩:=q;exact h2 aD s1 σ' H' D I' q
 |ret v=>exact q
 |brk=>exact q
 |cont=>exact q
theorem ZS(h1:PS X st t):PSs X [st] t:=by
 intro aD s σ H D I h;refine uT (thn (h1 aD s σ H D I h) fun f s1 q=>?_);cases f with
 |next=>exact iF q
 |ret v=>exact q
 |brk=>exact q
 |cont=>exact q
def tCont:TS:=fun D σ H=>D.ct σ H
theorem ER:PS X (.Continue pos) tCont:=fun _ _ σ H _ I h=>wpAny_Continue ⟨σ,H,I,h⟩
theorem Inv.quiet{aD:List (aB×Obj)}{σ : St}{H:Hp}{s:aC}(I:Inv X aD σ H s):interactive X.env=false:=by simp[interactive,I.ok.kind]
def tDrop(te:TE):TS:=fun D σ H=>te σ H fun _ H1=>D.nx σ H1
theorem CC(he:PE X e te)(hs:gG e none pos.line X.env=pure false:=by rfl):PS X (.Expr e pos) (tDrop te):=by
 intro aD s σ H D I h;exact wpAny_Expr_any (thn (he aD s σ H _ I h) fun v s1 ⟨x,H1,I1,r1,q1⟩=>⟨σ,H1,I1,q1⟩) I.quiet hs
def tRet(te:TE):TS:=fun D σ H=>te σ H D.rt
theorem IS(he:PE X e te):PS X (.Return (some e) pos) (tRet te):=by
 intro aD s σ H D I h;exact wpAny_Return_some (thn (he aD s σ H _ I h) fun v s1 ⟨x,H1,I1,r1,q1⟩=>⟨x,σ,H1,I1,r1,q1⟩)
def tIfS(c:TT)(t u:TS):TS:=fun D σ H=>c σ H fun b H1=>if b=true then t D σ H1 else u D σ H1
theorem ps_if{c:Expr}{a b:List Stmt}{tc:TT}(hc:PT X c tc)(ha:PSs X a t)(hb:PSs X b u):PS X (.If c a b pos) (tIfS tc t u):=by
 intro aD s σ H D I h;refine wpAny_If (thn (hc aD s σ H _ I h) fun d s1 zq=>?_);obtain⟨H1,I1,q1⟩:=zq;cases d with
 |true=>exact ha aD s1 σ H1 D I1 q1
 |false=>exact hb aD s1 σ H1 D I1 q1
def tNever:TS:=fun _ _ _=>False
theorem UO:PS X st tNever:=fun _ _ _ _ _ _ h=>h.elim
end
abbrev TG:=V->St->Hp->(St->Hp->Prop)->Prop
abbrev TGs:=List V->St->Hp->(St->Hp->Prop)->Prop
def PG(X:Cx)(target:Expr)(t:TG):Prop :=
 ∀(aD:List (aB×Obj)) (s:aC) (σ : St) (H:Hp) (v:V) (u:Value) (Q:St->Hp->Prop),Inv X aD σ H s->RelV v u->t v σ H Q →
  aU (aM X.prog X.w) X.A (mZ target X.env u) (fun _ s'=>∃σ' H',Inv X aD σ' H' s'/\Q σ' H') X.xe s
def PGs(X:Cx)(ts:List Expr)(t:TGs):Prop :=
 ∀(aD:List (aB×Obj)) (s:aC) (σ : St) (H:Hp) (vs:List V) (us:List Value) (Q:St->Hp->Prop),Inv X aD σ H s->Vals vs us->t vs σ H Q →
  aU (aM X.prog X.w) X.A (assignInOrder ((fF ts X.env).map (·.2)) us) (fun _ s'=>∃σ' H',Inv X aD σ' H' s'/\Q σ' H') X.xe s
abbrev TSet:=V->V->V->Hp->(Hp->Prop)->Prop
def PSet(X:Cx)(t:TSet):Prop :=
 ∀(aD:List (aB×Obj)) (s:aC) (σ : St) (H:Hp) (o i v:V) (ov iv u:Value) (Q:Hp->Prop),Inv X aD σ H s->RelV o ov->RelV i iv->RelV v u->t o i v H Q →
  aU (aM X.prog X.w) X.A (setItem ov iv u) (fun _ s'=>∃H',Inv X aD σ H' s'/\Q H') X.xe s
abbrev TIp:=V->V->Hp->VK->Prop
def PIp(X:Cx)(op:YA)(t:TIp):Prop :=
 ∀(aD:List (aB×Obj)) (s:aC) (σ : St) (H:Hp) (x y:V) (v u:Value) (Q:VK),Inv X aD σ H s->RelV x v->RelV y u->t x y H Q →
  aU (aM X.prog X.w) X.A (inplaceOp op v u) (EP X aD σ Q) X.xe s
section
variable{X:Cx}{pos:Pos}
def gName(i:Nat):TG:=fun v σ H Q=>Q (σ.set i (some v)) H
theorem pg_name{i:Nat}{x:Str}(hN:X.N.Nodup)(hi:X.N[i]?=some x)(hx:Loc X.env.scope x)(hf:X.fn x=true\/X.env.scope.names.lookup x=some .local:=by first | exact .inl rfl | exact .inr rfl | assumption):PG X (.Name x pos) (gName i):=by
 intro aD s σ H v u Q I r h;exact wpAny_assign_Name (wM I hN hi hx r (fun s' I'=>⟨_,H,I',h⟩) hf)
def gNil:TGs:=fun vs σ H Q=>vs=[]/\Q σ H
def gCons(t:TG)(u:TGs):TGs:=fun vs σ H Q=>∃v r,vs=v::r/\t v σ H fun σ' H'=>u r σ' H' Q
theorem pgs_nil:PGs X [] gNil:=by
 intro aD s σ H vs us Q I r h;obtain⟨e,h⟩:=h;subst e;cases r;exact assignInOrder_nil ⟨σ,H,I,h⟩
theorem UT{e:Expr}{es:List Expr}{t:TG}{u:TGs}(h1:PG X e t)(h2:PGs X es u)(hs:(fF (e::es) X.env).map (·.2)=mZ e X.env::(fF es X.env).map (·.2):=by rfl):PGs X (e::es) (gCons t u):=by
 intro aD s σ H vs us Q I r h;obtain⟨v,vr,e1,h⟩:=h;subst e1;cases r with
 | cons r rr =>
   rw[hs];refine assignInOrder_cons (thn (h1 aD s σ H _ _ _ I r h) fun _ s1 zq=>?_);obtain⟨σ1,H1,I1,q1⟩:=zq;exact h2 aD s1 σ1 H1 _ _ Q I1 rr q1
def gTup(K:aR)(n:Nat)(t:TGs):TG:=fun v σ H Q=>∃a xs,v=.ref a/\SqT K H a xs/\xs.length=n/\t xs σ H Q
theorem pg_tup{es:List Expr}{k:Nat}{t:TGs}{n:Nat}(hc:X.calm=true)(h:PGs X es t)(hn:(fF es X.env).length=n:=by rfl)(hst:(fF es X.env).findIdx? (·.1)=none:=by rfl):PG X (.Tuple es k pos) (gTup X.K n t):=by
 intro aD s σ H v u Q I r hw;obtain⟨a,xs,e1,hq,hl,hw⟩:=hw;subst e1;cases r;obtain⟨its,rv,ht,hz⟩:=I.tuple hq;refine assign_Tuple_tuple (I.ok.hd hc) ht (by simp[hn,<- hl,rv.length]) hst fun h' hx=>?_;have I1:Inv X aD σ H { s with heap:=h' }:=I.kept (t':=s.toks) fun b o e=>hx b o (bE (aS e)) e;exact h aD _ σ H xs _ Q I1 (by simpa using rv) hw
def gSub(to ti:TE)(t:TSet):TG:=fun v σ H Q=>to σ H fun o H1=>ti σ H1 fun i H2=>t o i v H2 fun H3=>Q σ H3
theorem pg_sub{o i:Expr}{to ti:TE}{t:TSet}(ho:PE X o to)(hi:PE X i ti)(hs:PSet X t)(ha:∀v,mZ (.Subscript o i pos) X.env v=(do
    let ov <- lK [v] (cM o X.env)
    let iv <- lK [v,ov] (cM i X.env)
    DJ pos
    lK [v,ov,iv] (setItem ov iv v)
    release [v,ov,iv] []):=by intro _;rfl):PG X (.Subscript o i pos) (gSub to ti t):=by
 intro aD s σ H v u Q I r h;rw[ha];refine aA (cU (thn (ho aD s σ H _ I h) fun ov s1 zq=>?_));obtain⟨x,H1,I1,r1,q1⟩:=zq;refine aA (cU (thn (hi aD s1 σ H1 _ I1 q1) fun iv s2 zq=>?_));obtain⟨y,H2,I2,r2,q2⟩:=zq;refine aA (eQ (aA (cU (thn (hs aD s2 σ H2 x y v ov iv u _ I2 r1 r2 r q2) fun _ s3 zq=>?_))));obtain⟨H3,I3,q3⟩:=zq;exact wpAny_release ⟨σ,H3,I3,q3⟩
def tAsg(te:TE)(g:TG):TS:=fun D σ H=>te σ H fun x H1=>g x σ H1 D.nx
theorem UP{tg e:Expr}{te:TE}{g:TG}(he:PE X e te)(hg:PG X tg g)(hs:KN [tg] e pos.line X.env=pure false:=by rfl)(hw:KO [tg] e X.env=pure none:=by rfl)(h1:(fF [tg] X.env).map (·.2)=[mZ tg X.env]:=by rfl):PS X (.Assign [tg] e pos) (tAsg te g):=by
 intro aD s σ H D I h;refine wpAny_Assign_stores (thn (he aD s σ H _ I h) fun v s1 zq=>?_) hs hw;obtain⟨x,H1,I1,r1,q1⟩:=zq;rw[h1];exact thn (hg aD s1 σ H1 x v _ I1 r1 q1) fun _ s2 q=>q
theorem UN{i:Nat}{x:Str}{e:Expr}{te:TE}{pos':Pos}(hN:X.N.Nodup)(hi:X.N[i]?=some x)(hx:Loc X.env.scope x)(he:PE X e te)(hs:gG e (some (.Name x pos')) pos.line X.env=pure false:=by rfl)(hf:X.fn x=true\/X.env.scope.names.lookup x=some .local:=by first | exact .inl rfl | exact .inr rfl | assumption) :
  PS X (.Assign [.Name x pos'] e pos) (tAsg te (gName i)):=by
 intro aD s σ H D I h;refine wpAny_Assign_Name (thn (he aD s σ H _ I h) fun v s1 zq=>?_) hs;obtain⟨y,H1,I1,r1,q1⟩:=zq;exact wM I1 hN hi hx r1 (fun s2 I2=>⟨_,H1,I2,q1⟩) hf
def tAug(i:Nat)(te:TE)(ti:TIp):TS:=fun D σ H=>∃x,σ[i]?=some (some x)/\te σ H fun y H1=>ti x y H1 fun z H2=>D.nx (σ.set i (some z)) H2
theorem ps_aug{i:Nat}{x:Str}{e:Expr}{te:TE}{op:YA}{ti:TIp}{pos':Pos}(hN:X.N.Nodup)(hi:X.N[i]?=some x)(hx:Loc X.env.scope x)(he:PE X e te)(ho:PIp X op ti)(hf:X.fn x=true\/X.env.scope.names.lookup x=some .local:=by first | exact .inl rfl | exact .inr rfl | assumption) :
  PS X (.AugAssign (.Name x pos') op e pos) (tAug i te ti):=by
 intro aD s σ H D I h;obtain⟨v,e1,h⟩:=h;obtain⟨m,hn,hl⟩:=I.loc;have vis:Vis X.env.scope x:=by rcases hx with k | k;exact .inl k;exact .inr (.inl k)
 obtain⟨u,r,l⟩:=hl i x v hi e1 vis;refine wpAny_AugAssign_Name ?_
 have go:aU (aM X.prog X.w) X.A (cM e X.env) (fun w s₂=>aU (aM X.prog X.w) X.A (inplaceOp op u w) (fun r s₃=>aU (aM X.prog X.w) X.A (storeName X.env x r) (fun _=>SP X aD D .next) X.xe s₃) X.xe s₂) X.xe s:=by
  refine thn (he aD s σ H _ I h) fun w s1 zq=>?_;obtain⟨y,H1,I1,r1,q1⟩:=zq;refine thn (ho aD s1 σ H1 v y u w _ I1 r r1 q1) fun z s2 zq=>?_;obtain⟨zv,H2,I2,r2,q2⟩:=zq;exact wM I2 hN hi hx r2 (fun s3 I3=>⟨_,H2,I3,q2⟩) hf
 rcases l with⟨hk,hm⟩ | ⟨hk,c,hc,hcell⟩
 . exact wpAny_loadName_local I.ok.kind hk hn hm go
 . rcases hk with hk | hk
   . exact wpAny_loadName_cell I.ok.kind hk hc hcell go
   . rcases hx with k | k
     . have : X.env.scope.names.lookup x=some .free := hk;rw[k] at this;cases this
     . have : X.env.scope.names.lookup x=some .free := hk;rw[k] at this;cases this
def ipI(f:Int->Int->Int):TIp:=fun x y H Q=>∃i j,x=.int i/\y=.int j/\Q (.int (f i j)) H
theorem ip_add:PIp X .Add (ipI fun i j=>i+j):=by
 intro aD s σ H x y v u Q I r1 r2 h;obtain⟨i,j,e1,e2,q⟩:=h;subst e1;subst e2;obtain⟨t,rfl⟩:=r1;obtain⟨t',rfl⟩:=r2;exact iadd_int ⟨.int _,H,I.tok _,⟨_,rfl⟩,q⟩
end
section
variable{X:Cx}{pos:Pos}
def tWhile(c:TT)(tb:TS):TS:=fun D σ H=>∃W:Nat->St->Hp->Prop,(∃m,W m σ H)/\∀m σ H,W m σ H →
 c σ H fun b H1=>if b=true then ∃N:St->Hp->Prop,(∀σ' H',N σ' H'->∃m',m'<m/\W m' σ' H')/\tb { D with nx:=N,ct:=N,bk:=D.nx } σ H1 else D.nx σ H1
theorem UM{c:Expr}{body:List Stmt}{tc:TT}{tb:TS}(hp:nW (aM X.prog X.w) X.A X.env X.xe)(hc:PT X c tc)(hb:PSs X body tb):PS X (.While c body [] pos) (tWhile tc tb):=by
 intro aD s σ H D I h;obtain⟨W,⟨m0,w0⟩,turn⟩:=h;refine wpAny_While (codeAny_whileLoop (fun n s'=>∃σ' H',Inv X aD σ' H' s'/\W n σ' H') ?_ m0 ⟨σ,H,I,w0⟩);rintro n s1 ⟨σ1,H1,I1,w1⟩;refine gD hp (thn (hc aD s1 σ1 H1 _ I1 (turn n σ1 H1 w1)) fun b s2 zq=>?_);obtain⟨H2,I2,q2⟩:=zq;cases b with
 | true =>
   obtain⟨N,hN,q2⟩:=q2;rw[if_pos rfl];refine gD hp (thn (hb aD s2 σ1 H2 _ I2 q2) fun f s3 q3=>?_);cases f with
   | next =>
     obtain⟨σ3,H3,I3,n3⟩:=q3;obtain⟨m',hm,w3⟩:=hN σ3 H3 n3;exact⟨m',hm,σ3,H3,I3,w3⟩
   | cont =>
     obtain⟨σ3,H3,I3,n3⟩:=q3;obtain⟨m',hm,w3⟩:=hN σ3 H3 n3;exact⟨m',hm,σ3,H3,I3,w3⟩
   |brk=>exact q3
   |ret v=>exact q3
 | false =>
   rw[if_neg hO];exact iF ⟨σ1,H2,I2,q2⟩
end
structure It where
 go:Nat->Hp->Prop
 yld:Nat->Hp->V->Hp->Prop
 stop:Nat->Hp->Prop
def FpOk(X:Cx)(aD:List (aB×Obj))(H:Hp)(b:aB):Prop :=
 H b=none/\b≠X.env.locals/\b∉X.fs/\(b∈X.ex\/X.s₀.heap.objs.size<=b)/\(∀x c,X.env.cells.lookup x=some c->c≠b)/\∀p∈X.pn++aD,p.1≠b
theorem Inv.fpOk{X:Cx}{aD:List (aB×Obj)}{σ : St}{H H':Hp}{s:aC}{b:aB}(I:Inv X aD σ H s)(hb:s.heap.objs.size<=b)(hn:H' b=none):FpOk X aD H' b:=by
 refine⟨hn,fR (bN I.lt hb),I.nofs hb,.inr (cW I.sz hb),fun x c e z=>?_,fun p hp z=>?_⟩
 . obtain⟨v, q⟩ := I.cell x c e;exact absurd (bN q.lt (by rw[z];exact hb)) (cT _)
 . exact absurd (bN (aS (I.pin p hp).1) (by rw[z];exact hb)) (cT _)
structure Turn(P:aY)(w:bS)(K:aR)(tg:Expr)(J:It)(fp:List aB)(it:aB)(tn:Nat->Heap->Prop)(cm:Cx->Prop:=fun X=>X.calm=true):Prop where
 mem:it∈fp
 obj:∀i h,tn i h->∀b∈fp,∃o,h.get? b=some o/\∀v,o.data≠.cell v
 keep:∀i h h',tn i h->(∀b∈fp,∀o,h.get? b=some o->h'.get? b=some o)->tn i h'
 item:∀(X:Cx),X.prog=P->X.w=w->X.K=K->cm X->∀(i:Nat) (aD:List (aB×Obj)) (s:aC) (σ : St) (H:Hp) (E:Value->aC->Prop),Inv X aD σ H s->(∀b∈fp,FpOk X aD H b)->tn i s.heap->J.go i H →
  aU (aM P w) X.A (HC (.ref it)) (fun r s1=>∃u,r=some u ∧
   aU (aM P w) X.A (pA tg (.ref it) u) (fun _ s2=>∃x H',Inv X aD σ H' s2/\RelV x u/\J.yld i H x H'/\tn (i+1) s2.heap/\∀b∈fp,H' b=none) E s1) E s
 done:∀(X:Cx),X.prog=P->X.w=w->X.K=K->cm X->∀(i:Nat) (aD:List (aB×Obj)) (s:aC) (σ : St) (H:Hp) (E:Value->aC->Prop),Inv X aD σ H s->(∀b∈fp,FpOk X aD H b)->tn i s.heap->J.stop i H →
  aU (aM P w) X.A (HC (.ref it)) (fun r s1=>r=none/\Inv X aD σ H s1) E s
 self:∀(A:bR) (i:Nat) (s:aC) (Q:Value->aC->Prop) (E:Value->aC->Prop),tn i s.heap->Q (.ref it) s->aU (aM P w) A (RA (.ref it)) Q E s
abbrev TI:=St->Hp->(It->Hp->Prop)->Prop
def PIE(X:Cx)(aD:List (aB×Obj))(σ : St)(tg:Expr)(R:It->Hp->Prop)(cm:Cx->Prop:=fun X=>X.calm=true)(itv:Value)(s2:aC):Prop :=
 ∃(it:aB) (fp:List aB) (tn:Nat->Heap->Prop) (J:It) (H':Hp),itv=.ref it/\Inv X aD σ H' s2/\Turn X.prog X.w X.K tg J fp it tn cm/\tn 0 s2.heap/\(∀b∈fp,FpOk X aD H' b)/\R J H'
def PI(X:Cx)(tg iter:Expr)(wi:TI)(cm:Cx->Prop:=fun X=>X.calm=true):Prop :=
 ∀(aD:List (aB×Obj)) (s:aC) (σ : St) (H:Hp) (R:It->Hp->Prop),Inv X aD σ H s->wi σ H R →
  aU (aM X.prog X.w) X.A (cM iter X.env) (fun v s1=>aU (aM X.prog X.w) X.A (RA v) (PIE X aD σ tg R cm) X.xe s1) X.xe s
theorem WP{M:nX}{A:bR}{E:Value->aC->Prop}{s:aC}{tg:Expr}{it:aB}{u:Value}{o:Obj}{n:String}{vs:Array Value}{Q:Unit->aC->Prop}(ho:s.heap.get? it=some o)(hc:o.cls=.type n)(hd:o.data=.fields vs)(hn:["enumerate","zip","dict_itemiterator","dict_reverseitemiterator","odict_iterator","itertools.zip_longest","itertools.pairwise"].contains n=false)(hQ:Q () s):aU M A (pA tg (.ref it) u) Q E s:=by
 unfold pA
 cases tg<;>first
  |exact aJ hQ
  |(cases u<;>first
      |exact aJ hQ
      | (refine aA (wpAny_load ho ?_)
         rw[hc,hd];show aU M A (if (["enumerate","zip","dict_itemiterator","dict_reverseitemiterator","odict_iterator","itertools.zip_longest","itertools.pairwise"].contains n&&vs[0]?==some (gS _))=true then _ else _) Q E s;rw[if_neg (by intro h;rw[hn,YO] at h;cases h)]
         exact aJ hQ))
noncomputable def Itl(K:aR)(a:aB):It :=
 ⟨fun i H=>∃xs x,SqL K H a xs/\xs[i]?=some x,fun i H x H'=>H'=H/\∀xs,SqL K H a xs->xs[i]?=some x,fun i H=>∃xs,SqL K H a xs/\xs.length<=i⟩
noncomputable def Itt(K:aR)(a:aB):It :=
 ⟨fun i H=>∃xs x,SqT K H a xs/\xs[i]?=some x,fun i H x H'=>H'=H/\∀xs,SqT K H a xs->xs[i]?=some x,fun i H=>∃xs,SqT K H a xs/\xs.length<=i⟩
noncomputable def Itr(lo:Int)(n:Nat):It:=⟨fun i _=>i<n,fun i H x H'=>H'=H/\x=.int (lo+i),fun i _=>n<=i⟩
theorem OF{P:aY}{w:bS}{K:aR}{tg:Expr}(a it:aB):Turn P w K tg (Itl K a) [it] it (fun i h=>h.IsListIter it a i) where
 mem:=by simp
 obj:=fun i h st b hb=>by
  have e:b=it:=by simpa using hb
  subst e;obtain⟨o,e,c,d⟩:=st;exact⟨o,e,fun v z=>by rw[d] at z;cases z⟩
 keep:=fun i h h' st k=>st.at fun o e=>k it (by simp) o e
 item:=by
  intro X hP hw hK hc i aD s σ H E I hf st hg;subst hP hw hK;obtain⟨xs,x,hq,hx⟩:=hg;obtain⟨its,rv,p,hz⟩:=I.list hq;obtain⟨u,hu,ru⟩:=rv.get hx;obtain⟨f0,f1,f2,f3,f4,f5⟩:=hf it (by simp);refine wpAny_pyNext_list_item st p.isList (x:=u) (by simpa using hu) fun h' st' sb=>?_;have I1:Inv X aD σ H { s with heap:=h' }:=I.turned (t':=s.toks) (fun b o hb e=>(sb.2 b hb).trans e) f0 f1 f3 f4 f5;obtain⟨o,e,c,d⟩:=id st';exact⟨u,rfl,WP (s:={ s with heap:=h' }) e c d (by decide) ⟨x,H,I1,ru,⟨rfl,fun ys hy=>by rw[I.list_inj hy hq];exact hx⟩,st',fun b hb=>(hf b hb).1⟩⟩
 done:=by
  intro X hP hw hK hc i aD s σ H E I hf st hg;subst hP hw hK;obtain⟨xs,hq,hx⟩:=hg;obtain⟨its,rv,p,hz⟩:=I.list hq;obtain⟨f0,f1,f2,f3,f4,f5⟩:=hf it (by simp);have hl:=rv.length;exact wpAny_pyNext_list_end (I.ok.hd hc) st p.isList (by simp;omega) fun h' eb=>⟨rfl,I.turned (t':=s.toks) (fun b o hb e=>eb b o hb e) f0 f1 f3 f4 f5⟩
 self:=fun _ _ _ _ _ st h=>wpAny_pyIter_listiter st h
theorem IE{P:aY}{w:bS}{K:aR}{tg:Expr}(a it:aB):Turn P w K tg (Itt K a) [it] it (fun i h=>h.IsTupleIter it a i) where
 mem:=by simp
 obj:=fun i h st b hb=>by
  have e:b=it:=by simpa using hb
  subst e;obtain⟨o,e,c,d⟩:=st;exact⟨o,e,fun v z=>by rw[d] at z;cases z⟩
 keep:=fun i h h' st k=>st.at fun o e=>k it (by simp) o e
 item:=by
  intro X hP hw hK hc i aD s σ H E I hf st hg;subst hP hw hK;obtain⟨xs,x,hq,hx⟩:=hg;obtain⟨its,rv,p,hz⟩:=I.tuple hq;obtain⟨u,hu,ru⟩:=rv.get hx;obtain⟨f0,f1,f2,f3,f4,f5⟩:=hf it (by simp);refine wpAny_pyNext_tuple_item st (show s.heap.IsTuple a its.toArray from p) (x:=u) (by simpa using hu) fun h' st' sb=>?_;have I1:Inv X aD σ H { s with heap:=h' }:=I.turned (t':=s.toks) (fun b o hb e=>(sb.2 b hb).trans e) f0 f1 f3 f4 f5;obtain⟨o,e,c,d⟩:=id st';exact⟨u,rfl,WP (s:={ s with heap:=h' }) e c d (by decide) ⟨x,H,I1,ru,⟨rfl,fun ys hy=>by rw[I.tuple_inj hy hq];exact hx⟩,st',fun b hb=>(hf b hb).1⟩⟩
 done:=by
  intro X hP hw hK hc i aD s σ H E I hf st hg;subst hP hw hK;obtain⟨xs,hq,hx⟩:=hg;obtain⟨its,rv,p,hz⟩:=I.tuple hq;obtain⟨f0,f1,f2,f3,f4,f5⟩:=hf it (by simp);have hl:=rv.length;exact wpAny_pyNext_tuple_end (I.ok.hd hc) st (show s.heap.IsTuple a its.toArray from p) (by simp;omega) fun h' eb=>⟨rfl,I.turned (t':=s.toks) (fun b o hb e=>eb b o hb e) f0 f1 f3 f4 f5⟩
 self:=fun _ _ _ _ _ st h=>wpAny_pyIter_tupleiter st h
theorem IF{P:aY}{w:bS}{K:aR}{tg:Expr}(it:aB)(lo:Int)(n:Nat):Turn P w K tg (Itr lo n) [it] it (fun i h=>IsRangeIter h it (lo+(i:Nat)*1) ((n:Int)-(i:Nat)) 1) where
 mem:=by simp
 obj:=fun i h st b hb=>by
  have e:b=it:=by simpa using hb
  subst e
  exact⟨_,st,fun v z=>by
   have z':Data.fields _=Data.cell v:=z
   cases z'⟩
 keep:=fun i h h' st k=>k it (by simp) _ st
 item:=by
  intro X hP hw hK hc i aD s σ H E I hf st hg;subst hP hw hK;obtain⟨f0,f1,f2,f3,f4,f5⟩:=hf it (by simp);have W:=Walks.range (prog:=X.prog) (w:=X.w) (I.ok.hd hc) it lo 1 n;refine W.item i s _ _ hg st fun v h' tk hv st' kk=>?_;obtain⟨t,rfl⟩:=hv;have I1:Inv X aD σ H { s with heap:=h',toks:=tk }:=I.turned (fun b o hb e=>kk b o (by simpa using hb) e) f0 f1 f3 f4 f5;refine⟨_,rfl,WP (s:={ s with heap:=h',toks:=tk }) (n:="range_iterator") st' rfl rfl (by decide) ⟨.int (lo+i),H,I1,⟨t,?_⟩,⟨rfl,rfl⟩,st',fun b hb=>(hf b hb).1⟩⟩;rw[Int.mul_one]
 done:=by
  intro X hP hw hK hc i aD s σ H E I hf st hg;subst hP hw hK;obtain⟨f0,f1,f2,f3,f4,f5⟩:=hf it (by simp);exact wpAny_pyNext_range_end (I.ok.hd hc) st (by have:n<=i:=hg;omega) fun h' eb=>⟨rfl,I.turned (t':=s.toks) (fun b o hb e=>eb b o hb e) f0 f1 f3 f4 f5⟩
 self:=fun _ _ _ _ _ st h=>wpAny_pyIter_rangeiter st h
section
variable{X:Cx}{tg:Expr}
def iList(K:aR)(tl:TE):TI:=fun σ H R=>tl σ H fun x H1=>∃a,x=.ref a/\(∃xs,SqL K H1 a xs)/\R (Itl K a) H1
def iTup(K:aR)(tl:TE):TI:=fun σ H R=>tl σ H fun x H1=>∃a,x=.ref a/\(∃xs,SqT K H1 a xs)/\R (Itt K a) H1
theorem pi_list{l:Expr}{tl:TE}(hl:PE X l tl):PI X tg l (iList X.K tl):=by
 intro aD s σ H R I h;refine thn (hl aD s σ H _ I h) fun v s1 zq=>?_;obtain⟨x,H1,I1,r1,q1⟩:=zq;obtain⟨a,e,⟨xs,hq⟩,q⟩:=q1;subst e;cases r1;obtain⟨its,rv,p,hz⟩:=I1.list hq;refine uB p.isList ?_;refine⟨s1.heap.objs.size,[s1.heap.objs.size],_,_,H1,rfl,I1.kept (t':=s1.toks) fun b o e=>aE _ e,OF a _,⟨_,aX _ rfl,rfl,rfl⟩,fun b hb=>?_,q⟩;have e:b=s1.heap.objs.size:=by simpa using hb
 subst e;exact I1.fpOk (aO _) (I1.hok.fresh (aO _))
theorem pi_tup{l:Expr}{tl:TE}(hl:PE X l tl):PI X tg l (iTup X.K tl):=by
 intro aD s σ H R I h;refine thn (hl aD s σ H _ I h) fun v s1 zq=>?_;obtain⟨x,H1,I1,r1,q1⟩:=zq;obtain⟨a,e,⟨xs,hq⟩,q⟩:=q1;subst e;cases r1;obtain⟨its,rv,p,hz⟩:=I1.tuple hq;refine wpAny_pyIter_tuple (show s1.heap.IsTuple a its.toArray from p) ?_;refine⟨s1.heap.objs.size,[s1.heap.objs.size],_,_,H1,rfl,I1.kept (t':=s1.toks) fun b o e=>aE _ e,IE a _,⟨_,aX _ rfl,rfl,rfl⟩,fun b hb=>?_,q⟩;have e:b=s1.heap.objs.size:=by simpa using hb
 subst e;exact I1.fpOk (aO _) (I1.hok.fresh (aO _))
theorem UB{aD:List (aB×Obj)}{σ : St}{H:Hp}{s:aC}{R:It->Hp->Prop}{E:Value->aC->Prop}{lo hi:Int}{t u v:Tok}{tk:Nat}(I:Inv X aD σ H s)(h1 : -(2 ^ 62)<=lo)(h2:lo<2 ^ 62)(h3 : -(2 ^ 62)<=hi)(h4:hi<2 ^ 62)(q:R (Itr lo (hi-lo).toNat) H):aU (aM X.prog X.w) X.A (RA (.ref s.heap.objs.size)) (PIE X aD σ tg R) E { s with heap:=s.heap.push { cls:=.type "range",data:=.fields #[.int lo t,.int hi u,.int 1 v] },toks:=tk }:=by
 refine wpAny_pyIter_range (IsRange.new ..) (small_one h1 h2 h3 h4) ?_;have I1:Inv X aD σ H { s with heap:=s.heap.push { cls:=.type "range",data:=.fields #[.int lo t,.int hi u,.int 1 v] },toks:=tk }:=I.kept fun b o e=>aE _ e
 refine⟨(s.heap.push { cls:=.type "range",data:=.fields #[.int lo t,.int hi u,.int 1 v] }).objs.size,[(s.heap.push { cls:=.type "range",data:=.fields #[.int lo t,.int hi u,.int 1 v] }).objs.size],_,_,H,rfl,
  I1.kept (t':=tk) fun b o e=>aE _ e,IF _ lo (hi-lo).toNat,?_,fun b hb=>?_,q⟩
 . have e1 : lo + ((0 : Nat) : Int) * 1 = lo := by simp
   have e2:(((hi-lo).toNat:Nat):Int)-((0:Nat):Int)=Builtin.Range.rangeSize lo hi 1:=by rw[rangeSize_one];split<;>omega
   show IsRangeIter _ _ (lo+((0:Nat):Int)*1) ((((hi-lo).toNat:Nat):Int)-((0:Nat):Int)) 1;rw[e1,e2];exact aX _ rfl
 . have e : b = (s.heap.push { cls := .type "range", data := .fields #[.int lo t, .int hi u, .int 1 v] }).objs.size := by simpa using hb
   subst e;exact I1.fpOk (aO _) (I1.hok.fresh (aO _))
def iRng1(ta:TA):TI:=fun σ H R=>ta σ H fun vs H1=>∃j:Int,vs=[.int j]/\-(2 ^ 62)<=j/\j<2 ^ 62/\R (Itr 0 j.toNat) H1
theorem OW{a:Expr}{ta:TA}{p pos:Pos}(hg:Gl X "range")(hm:X.mg "range" = none)(ha:PA X [a] ta)(hs:aL [a] X.env=[(false,cM a X.env)]:=by rfl):PI X tg (.Call (.Name "range" p) [a] [] pos) (iRng1 ta):=by
 intro aD s σ H R I h;refine Call_ (xJ I hg hm boot_range (dO (thn (ha pos aD s σ H _ I h) fun us s1 zq=>?_) hs rfl));obtain⟨vs,H1,I1,r1,q1⟩:=zq;obtain⟨j,e,q1,q2,q⟩:=q1;subst e;cases r1 with
 | cons r rr =>
   cases rr;obtain⟨t,rfl⟩:=r;exact call_range_1 (UB I1 (by omega) (by omega) q1 q2 (by simpa using q))
def tFor(wi:TI)(g:TG)(tb:TS):TS:=fun D σ H=>wi σ H fun J H1=>∃W:Nat->Nat->St->Hp->Prop,(∃m,W 0 m σ H1)/\∀i m σ H,W i m σ H →
 (J.stop i H/\D.nx σ H)\/(J.go i H/\∃N:St->Hp->Prop,(∀σ' H',N σ' H'->∃m',m'<m/\W (i+1) m' σ' H')/\∀x H',J.yld i H x H'->g x σ H' fun σ2 H2=>tb { D with nx:=N,ct:=N,bk:=D.nx } σ2 H2)
noncomputable def tE(fp:List aB)(h:Heap):List (aB×Obj):=fp.filterMap fun b=>(h.get? b).map fun o=>(b,o)
theorem xE{fp:List aB}{h:Heap}{b:aB}{o:Obj}(hb:b∈fp)(e:h.get? b=some o):(b,o)∈tE fp h:=pO.mpr ⟨b,hb,by rw[e];rfl⟩
theorem OZ{fp:List aB}{h:Heap}{p:aB×Obj}(hp:p∈tE fp h):p.1∈fp/\h.get? p.1=some p.2:=by
 obtain⟨b,hb,e⟩:=pO.mp hp;cases q:h.get? b with
 |none=>rw[q] at e;cases e
 | some o =>
   rw[q] at e;have e':(b,o)=p:=Option.some.inj e;subst e';exact⟨hb,q⟩
theorem Inv.pinned{aD:List (aB×Obj)}{σ : St}{H:Hp}{s:aC}{fp:List aB}(I:Inv X aD σ H s)(hf:∀b∈fp,FpOk X aD H b)(ho:∀b∈fp,∃o,s.heap.get? b=some o/\∀v,o.data≠.cell v):Inv X (aD++tE fp s.heap) σ H s :=
 I.pins_of fun p hp=>(bI.mp hp).elim (fun z=>I.pin p (bJ _ z)) fun z=>by
  obtain⟨hb,e⟩:=OZ z;obtain⟨f0,f1,f2,_⟩:=hf p.1 hb;obtain⟨o,e',d⟩:=ho p.1 hb;rw[e] at e';cases e';exact⟨e,f0,f1,f2,d⟩
theorem Inv.unpinned{aD pl:List (aB×Obj)}{σ : St}{H:Hp}{s:aC}(I:Inv X (aD++pl) σ H s):Inv X aD σ H s:=I.pins_of fun p hp=>I.pin p (bJ _ (bZ _ hp))
theorem IT{iter:Expr}{body:List Stmt}{wi:TI}{g:TG}{tb:TS}{pos:Pos}(hp:nW (aM X.prog X.w) X.A X.env X.xe)(hc:X.calm=true)(hi:PI X tg iter wi)(hg:PG X tg g)(hb:PSs X body tb)(hs:∀x,dZ iter X.env x=pure x:=by intro _;rfl):PS X (.For tg iter body [] pos) (tFor wi g tb):=by
 intro aD s σ H D I h;refine wpAny_For (thn (hi aD s σ H _ I h) fun v s1 h1=>thn h1 fun itv s2 h2=>?_) hs;obtain⟨it,fp,tn,J,H2,e,I2,T,st2,f2,W,⟨m0,w0⟩,turn⟩:=h2;subst e;have stat:∀{H':Hp},(∀b∈fp,H' b=none)->∀b∈fp,FpOk X aD H' b:=fun hn b hb=>⟨hn b hb,(f2 b hb).2⟩
 refine codeAny_forLoop_any (fun n s'=>∃i σ' H',Inv X aD σ' H' s'/\tn i s'.heap/\(∀b∈fp,H' b=none)/\W i n σ' H') ?_ m0 ⟨0,σ,H2,I2,st2,fun b hb=>(f2 b hb).1,w0⟩;rintro n s3 ⟨i,σ3,H3,I3,st3,fr3,w3⟩;rcases turn i n σ3 H3 w3 with⟨stop,qn⟩ | ⟨go,N,hN,step⟩
 . refine gD hp (thn (T.done X rfl rfl rfl hc i aD s3 σ3 H3 X.xe I3 (stat fr3) st3 stop) fun r s4 zq => ?_);obtain⟨hr,I4⟩:=zq;subst hr;exact iF ⟨σ3,H3,I4,qn⟩
 . refine gD hp (thn (T.item X rfl rfl rfl hc i aD s3 σ3 H3 X.xe I3 (stat fr3) st3 go) fun r s4 zq => ?_);obtain ⟨u,hr,h4⟩:=zq;subst hr;refine gD hp (thn h4 fun _ s5 zq=>?_);obtain ⟨x,H5,I5,r5,y5,st5,fr5⟩:=zq;have I5':=I5.pinned (stat fr5) (T.obj _ _ st5);refine gD hp (thn (hg _ s5 σ3 H5 x u _ I5' r5 (step x H5 y5)) fun _ s6 zq=>?_);obtain ⟨σ6,H6,I6,q6⟩:=zq;refine gD hp (thn (hb _ s6 σ6 H6 _ I6 q6) fun f s7 q7=>?_)
   have again:∀{σ7:St} {H7:Hp},Inv X (aD++tE fp s5.heap) σ7 H7 s7->N σ7 H7->∃m,m<n/\∃i σ' H',Inv X aD σ' H' s7/\tn i s7.heap/\(∀b∈fp,H' b=none)/\W i m σ' H':=fun {σ7 H7} I7 n7=>by
    obtain⟨m',hm,w7⟩:=hN σ7 H7 n7;refine⟨m',hm,i+1,σ7,H7,I7.unpinned,T.keep _ _ _ st5 fun b hb o e=>(I7.pin (b,o) (bJ _ (bJ _ (xE hb e)))).1,fun b hb=>?_,w7⟩;obtain⟨o,e,d⟩:=T.obj _ _ st5 b hb;exact(I7.pin (b,o) (bJ _ (bJ _ (xE hb e)))).2.1
   cases f with
   |next=>obtain⟨σ7,H7,I7,n7⟩:=q7;exact again I7 n7
   |cont=>obtain⟨σ7,H7,I7,n7⟩:=q7;exact again I7 n7
   |brk=>obtain⟨σ7,H7,I7,q7⟩:=q7;exact⟨σ7,H7,I7.unpinned,q7⟩
   |ret v=>obtain⟨x7,σ7,H7,I7,r7,q7⟩:=q7;exact⟨x7,σ7,H7,I7.unpinned,r7,q7⟩
end
abbrev R2:=V->V->Hp->VK->Prop
def OpR(X:Cx)(f:Value->Value->Sem Value)(r:R2):Prop :=
 ∀(aD:List (aB×Obj)) (s:aC) (σ : St) (H:Hp) (x y:V) (v u:Value) (Q:VK),Inv X aD σ H s->RelV x v->RelV y u->r x y H Q →
  aU (aM X.prog X.w) X.A (f v u) (EP X aD σ Q) X.xe s
def UnR(X:Cx)(f:Value->Sem Value)(r:V->Hp->VK->Prop):Prop :=
 ∀(aD:List (aB×Obj)) (s:aC) (σ : St) (H:Hp) (x:V) (v:Value) (Q:VK),Inv X aD σ H s->RelV x v->r x H Q →
  aU (aM X.prog X.w) X.A (f v) (EP X aD σ Q) X.xe s
def CallR(X:Cx)(f:Value)(r:List V->Hp->VK->Prop):Prop :=
 ∀(aD:List (aB×Obj)) (s:aC) (σ : St) (H:Hp) (xs:List V) (us:List Value) (Q:VK),Inv X aD σ H s->Vals xs us->r xs H Q →
  aU (aM X.prog X.w) X.A (call f us) (EP X aD σ Q) X.xe s
def TruR(X:Cx)(r:V->Hp->(Bool->Hp->Prop)->Prop):Prop :=
 ∀(aD:List (aB×Obj)) (s:aC) (σ : St) (H:Hp) (x:V) (v:Value) (Q:Bool->Hp->Prop),Inv X aD σ H s->RelV x v->r x H Q →
  aU (aM X.prog X.w) X.A (truthy v) (TP X aD σ Q) X.xe s
def tOp(r:R2)(ta tb:TE):TE:=fun σ H Q=>ta σ H fun x H1=>tb σ H1 fun y H2=>r x y H2 Q
def tUn(r:V->Hp->VK->Prop)(ta:TE):TE:=fun σ H Q=>ta σ H fun x H1=>r x H1 Q
noncomputable def rI(C:Int->Int->Prop)(g:Int->Int->V):R2:=fun x y H Q=>∃i j,x=.int i/\y=.int j/\C i j/\Q (g i j) H
noncomputable def rI0(g:Int->Int->V):R2:=fun x y H Q=>∃i j,x=.int i/\y=.int j/\Q (g i j) H
def rU(g:Int->V):V->Hp->VK->Prop:=fun x H Q=>∃i,x=.int i/\Q (g i) H
section
variable{X:Cx}{a b c:Expr}{ta tb tc:TE}{pos:Pos}
theorem binT(ha:PE X a ta)(hb:PE X b tb){aD:List (aB×Obj)}{s:aC}{σ : St}{H:Hp}{R:V->V->Hp->Prop}(I:Inv X aD σ H s)(h:ta σ H fun x H1=>tb σ H1 fun y H2=>R x y H2){Q:Value->aC->Prop}{f:Value->Value->Sem Value}(hf:∀v u s2 x y H2,Inv X aD σ H2 s2->RelV x v->RelV y u->R x y H2->aU (aM X.prog X.w) X.A (f v u) Q X.xe s2) :
  aU (aM X.prog X.w) X.A (cM a X.env) (fun v s₁=>aU (aM X.prog X.w) X.A (cM b X.env) (fun u s₂=>aU (aM X.prog X.w) X.A (f v u) Q X.xe s₂) X.xe s₁) X.xe s:=by
 refine thn (ha aD s σ H _ I h) fun v s1 zq=>?_;obtain⟨x,H1,I1,r1,q1⟩:=zq;refine thn (hb aD s1 σ H1 _ I1 q1) fun u s2 zq=>?_;obtain⟨y,H2,I2,r2,q2⟩:=zq;exact hf v u s2 x y H2 I2 r1 r2 q2
theorem pe_op{op:YA}{r:R2}(ho:OpR X (lR op) r)(ha:PE X a ta)(hb:PE X b tb):PE X (.BinOp a op b pos) (tOp r ta tb):=by
 intro aD s σ H Q I h;exact wpAny_BinOp (binT ha hb I h fun v u s2 x y H2 I2 rx ry q=>ho aD s2 σ H2 x y v u Q I2 rx ry q)
theorem pe_un{op:UnaryOp}{r:V->Hp->VK->Prop}(ho:UnR X (unaryOp op) r)(ha:PE X a ta):PE X (.UnaryOp op a pos) (tUn r ta):=by
 intro aD s σ H Q I h;exact UnaryOp_ (thn (ha aD s σ H _ I h) fun v s1 ⟨x,H1,I1,r1,q1⟩=>ho aD s1 σ H1 x v Q I1 r1 q1)
theorem opI{f:Value->Value->Sem Value}{C:Int->Int->Prop}{g:Int->Int->Int}(rule:∀(i j:Int) (t u:Tok) (s:aC) (Q:Value->aC->Prop) (E:Value->aC->Prop),C i j->Q (.int (g i j) s.toks) { s with toks:=s.toks+1 }->aU (aM X.prog X.w) X.A (f (.int i t) (.int j u)) Q E s) :
  OpR X f (rI C fun i j=>.int (g i j)):=by
 intro aD s σ H x y v u Q I rx ry h;obtain⟨i,j,rfl,rfl,hc,q⟩:=h;obtain⟨t,rfl⟩:=rx;obtain⟨t',rfl⟩:=ry;exact rule i j t t' s _ _ hc ⟨.int (g i j),H,I.tok _,⟨_,rfl⟩,q⟩
theorem opI0{f:Value->Value->Sem Value}{g:Int->Int->Int}(rule:∀(i j:Int) (t u:Tok) (s:aC) (Q:Value->aC->Prop) (E:Value->aC->Prop),Q (.int (g i j) s.toks) { s with toks:=s.toks+1 }->aU (aM X.prog X.w) X.A (f (.int i t) (.int j u)) Q E s) :
  OpR X f (rI0 fun i j=>.int (g i j)):=by
 intro aD s σ H x y v u Q I rx ry h;obtain⟨i,j,rfl,rfl,q⟩:=h;obtain⟨t,rfl⟩:=rx;obtain⟨t',rfl⟩:=ry;exact rule i j t t' s _ _ ⟨.int (g i j),H,I.tok _,⟨_,rfl⟩,q⟩
theorem opB0{f:Value->Value->Sem Value}{g:Int->Int->Bool}(rule:∀(i j:Int) (t u:Tok) (s:aC) (Q:Value->aC->Prop) (E:Value->aC->Prop),Q (.bool (g i j)) s->aU (aM X.prog X.w) X.A (f (.int i t) (.int j u)) Q E s) :
  OpR X f (rI0 fun i j=>.bl (g i j)):=by
 intro aD s σ H x y v u Q I rx ry h;obtain⟨i,j,rfl,rfl,q⟩:=h;obtain⟨t,rfl⟩:=rx;obtain⟨t',rfl⟩:=ry;exact rule i j t t' s _ _ ⟨.bl (g i j),H,I,rfl,q⟩
def CMul(i j:Int):Prop:=(-(2 ^ 64)<i/\i<2 ^ 64)\/(-(2 ^ 64)<j/\j<2 ^ 64)
theorem CMul.ok{i j:Int}(h:CMul i j):uH i j:=by
 rcases h with⟨h1,h2⟩ | ⟨h1,h2⟩
 . exact .of_left (intBits_le_64 h1 h2)
 . exact .of_right (intBits_le_64 h1 h2)
theorem op_add:OpR X (lR .Add) (rI0 fun i j=>.int (i+j)):=opI0 fun _ _ _ _ _ _ _ q=>add_int q
theorem op_sub:OpR X (lR .Sub) (rI0 fun i j=>.int (i-j)):=opI0 fun _ _ _ _ _ _ _ q=>sub_int q
theorem op_mod:OpR X (lR .Mod) (rI (fun _ j=>0<j) fun i j=>.int (i%j)):=opI fun i j _ _ _ _ _ hc q=>by
 have h1:(0:Int)<j:=hc;exact mod_int' (by omega) (by rw[Int.fmod_eq_emod_of_nonneg i (by omega)];exact q)
theorem unI{f:Value->Sem Value}{g:Int->Int}(rule:∀(i:Int) (t:Tok) (s:aC) (Q:Value->aC->Prop) (E:Value->aC->Prop),Q (.int (g i) s.toks) { s with toks:=s.toks+1 }->aU (aM X.prog X.w) X.A (f (.int i t)) Q E s) :
  UnR X f (rU fun i=>.int (g i)):=by
 intro aD s σ H x v Q I rx h;obtain⟨i,rfl,q⟩:=h;obtain⟨t,rfl⟩:=rx;exact rule i t s _ _ ⟨.int (g i),H,I.tok _,⟨_,rfl⟩,q⟩
theorem un_neg:UnR X (unaryOp .USub) (rU fun i=>.int (-i)):=unI fun _ _ _ _ _ q=>neg_int q
end
section
variable{X:Cx}{a b c:Expr}{ta tb tc:TE}{pos:Pos}
theorem WV{aD:List (aB×Obj)}{σ : St}{H:Hp}{s:aC}{Q:VK}{k k':Bool}(I:Inv X aD σ H s)(q:Q (.bl k) H)(e:k=k'):EP X aD σ Q (.bool k') s:=by
 subst e;exact⟨.bl k,H,I,rfl,q⟩
theorem op_lt:OpR X (fQ .Lt) (rI0 fun i j=>.bl (decide (i<j))):=opB0 fun _ _ _ _ _ _ _ q=>lt_int q
theorem op_le:OpR X (fQ .LtE) (rI0 fun i j=>.bl (decide (i<=j))):=opB0 fun _ _ _ _ _ _ _ q=>le_int q
theorem op_gt:OpR X (fQ .Gt) (rI0 fun i j=>.bl (decide (j<i))):=opB0 fun _ _ _ _ _ _ _ q=>gt_int q
theorem op_ge:OpR X (fQ .GtE) (rI0 fun i j=>.bl (decide (j<=i))):=opB0 fun _ _ _ _ _ _ _ q=>ge_int q
theorem UZ:OpR X (fQ .Is) (fun x y H Q=>y=.non/\Q (.bl (decide (x=.non))) H):=by
 intro aD s σ H x y v u Q I rx ry h;obtain⟨rfl,q⟩:=h;cases ry;refine is_none_gen (WV I q ?_)
 cases x<;>first
  |(cases rx;rfl)
  |(obtain⟨t,rfl⟩:=rx;rfl)
theorem MA:OpR X (fQ .IsNot) (fun x y H Q=>y=.non/\Q (.bl (!decide (x=.non))) H):=by
 intro aD s σ H x y v u Q I rx ry h;obtain⟨rfl,q⟩:=h;cases ry;refine isnot_none_gen (WV I q ?_)
 cases x<;>first
  |(cases rx;rfl)
  |(obtain⟨t,rfl⟩:=rx;rfl)
theorem OpR.or{f:Value->Value->Sem Value}{r r':R2}(h:OpR X f r)(h':OpR X f r'):OpR X f (fun x y H Q=>r x y H Q\/r' x y H Q):=by
 intro aD s σ H x y v u Q I rx ry q;rcases q with q | q
 . exact h aD s σ H x y v u Q I rx ry q
 . exact h' aD s σ H x y v u Q I rx ry q
theorem kP(b:Expr){op:CmpOp}(h:op≠.In:=by decide)(h2:op≠.NotIn:=by decide):iD op b=false:=by
 have e1:(op==CmpOp.In)=false:=by cases op<;>first | rfl | exact absurd rfl h
 have e2:(op==CmpOp.NotIn)=false:=by cases op<;>first | rfl | exact absurd rfl h2
 cases b<;>simp[iD,e1,e2]
theorem pe_cmpR{op:CmpOp}{r:R2}(ho:OpR X (fQ op) r)(ha:PE X a ta)(hb:PE X b tb)(hm:iD op b=false):PE X (.Compare a [op] [b] pos) (tOp r ta tb):=by
 intro aD s σ H Q I h;exact wpAny_Compare1 (binT ha hb I h fun v u s2 x y H2 I2 rx ry q=>ho aD s2 σ H2 x y v u Q I2 rx ry q) hm
def tTest(t:TE):TT:=fun σ H Q=>t σ H fun x H'=>∃k,x=.bl k/\Q k H'
theorem LQ{op:CmpOp}{r:R2}(ho:OpR X (fQ op) r)(ha:PE X a ta)(hb:PE X b tb)(hm:iD op b=false):PT X (.Compare a [op] [b] pos) (tTest (tOp r ta tb)):=by
 intro aD s σ H Q I h
 refine wpAny_isTrue_Compare1 (thn (ha aD s σ H _ I h) fun v s1 ⟨x,H1,I1,r1,q1⟩=>thn (hb aD s1 σ H1 _ I1 q1) fun u s2 ⟨y,H2,I2,r2,q2⟩ =>
  thn (ho aD s2 σ H2 x y v u _ I2 r1 r2 q2) fun c s3 ⟨z,H3,I3,r3,k,e,q3⟩=>?_) hm
 subst e;cases r3;exact fC ⟨H3,I3,q3⟩
def TruV(K:aR)(x:V)(H:Hp)(k:Bool):Prop :=
 match x with
 | .non=>k=false
 | .bl b=>k=b
 | .int i=>k=(i != 0)
 | .str y=>y.length<=sizeLine/\k=((y.length:Int) != 0)
 | .byt y=>y.size<=sizeLine/\k=((y.size:Int) != 0)
 | .ref p=>(∃xs,SqL K H p xs/\k=!xs.isEmpty)\/(∃xs,SqT K H p xs/\k=!xs.isEmpty)\/∃kvs,H p=some (.dK kvs)/\k=!kvs.isEmpty
 |_=>False
theorem JM{κ : Type}{kvs:List (κ×V)}{vs:List (κ×Value)}(r:KV kvs vs):(!vs.isEmpty)=!kvs.isEmpty:=by
 cases r<;>rfl
theorem tN{xs:List V}{its:List Value}(r:Vals xs its):(!its.toArray.isEmpty)=!xs.isEmpty:=by
 cases r<;>simp
theorem pG:(sizeLine:Nat)<2 ^ 63:=by rw[iN];decide
theorem tru_ok:TruR X (fun x H Q=>∃k,TruV X.K x H k/\Q k H):=by
 intro aD s σ H x v Q I rx h;obtain⟨k,e,q⟩:=h;have hl:=pG;have hs:sizeLine=16777216:=iN;cases x with
 | non =>
   cases rx;have e':k=false:=e;subst e';exact truthy_none ⟨H,I,q⟩
 | bl b =>
   cases rx;have e':k=b:=e;subst e';exact fC ⟨H,I,q⟩
 | int i =>
   obtain⟨t,rfl⟩:=rx;have e':k=(i != 0):=e;subst e';exact PySem.P.truthy_int ⟨H,I,q⟩
 | str y =>
   obtain⟨t,rfl⟩:=rx;obtain⟨hy,e'⟩:y.length<=sizeLine/\k=((y.length:Int) != 0):=e;subst e';exact PySem.P.truthy_str (by omega) ⟨H,I.tok _,q⟩
 | byt y =>
   obtain⟨t,rfl⟩:=rx;obtain⟨hy,e'⟩:y.size<=sizeLine/\k=((y.size:Int) != 0):=e;subst e';exact PySem.W.truthy_bytes (by omega) ⟨H,I.tok _,q⟩
 | ref p =>
   cases rx;have e':(∃xs,SqL X.K H p xs/\k=!xs.isEmpty)\/(∃xs,SqT X.K H p xs/\k=!xs.isEmpty)\/∃kvs,H p=some (.dK kvs)/\k=!kvs.isEmpty:=e;rcases e' with⟨xs,hx,e'⟩ | ⟨xs,hx,e'⟩ | ⟨kvs,hx,e'⟩
   . subst e';obtain⟨its,r,pl,hz⟩:=I.list hx;have hlen:=r.length;exact wpAny_truthy_list pl.isList (by simp only[bB];omega) ⟨H,I.tok _,by rw[tN r];exact q⟩
   . subst e';obtain⟨its,r,pl,hz⟩:=I.tuple hx;have hlen:=r.length;exact truthy_tuple pl (by simp only[bB];omega) ⟨H,I.tok _,by rw[tN r];exact q⟩
   . subst e';obtain⟨hz,hS,vs,r,m⟩:kvs.length<=sizeLine/\(p==sysModules)=false/\∃vs,KV kvs vs/\s.heap.DictOf (CK X.prog X.w) p vs:=I.hok p _ hx;have hlen:kvs.length=vs.length:=uZ.length r;exact wpAny_truthy_dict hS m (by omega) ⟨H,I.tok _,by rw[JM r];exact q⟩
 |_=>exact(show False from e).elim
theorem UH(ha:PE X a ta)(he:∀whole,uW a X.env whole=(do let v <- whole;DJ a.pos;lK [v] (truthy v))) :
  PT X a (fun σ H Q=>ta σ H fun x H'=>∃k,TruV X.K x H' k/\Q k H'):=by
 intro aD s σ H Q I h;exact isTrue_plain (thn (ha aD s σ H _ I h) fun v s1 ⟨x,H1,I1,r1,q1⟩=>tru_ok aD s1 σ H1 x v Q I1 r1 q1) (he _)
theorem IV:OpR X (lR .Add) (fun x y H Q=>∃i j,x=.str i/\y=.str j/\i.length+j.length<=sizeLine/\Q (.str (i++j)) H):=by
 intro aD s σ H x y v u Q I rx ry h;obtain⟨i,j,rfl,rfl,hz,q⟩:=h;obtain⟨t,rfl⟩:=rx;obtain⟨t',rfl⟩:=ry;exact add_str (fun t' tk=>⟨.str (i++j),H,I.tok _,⟨_,rfl⟩,q⟩) hz
theorem vals1{x:V}{us:List Value}(r:Vals [x] us):∃u,us=[u]/\RelV x u:=by
 cases r with
 |cons r1 r2=>cases r2;exact⟨_,rfl,r1⟩
theorem vals2{x y:V}{us:List Value}(r:Vals [x,y] us):∃u w',us=[u,w']/\RelV x u/\RelV y w':=by
 cases r with
 | cons r1 r2 =>
   cases r2 with
   |cons r3 r4=>cases r4;exact⟨_,_,rfl,r1,r3⟩
theorem QU(hc:X.calm=true):CallR X (.builtin "max") (fun xs H Q=>∃i j,xs=[.int i,.int j]/\Q (.int (if j>i then j else i)) H):=by
 intro aD s σ H xs us Q I r h;obtain⟨i,j,rfl,q⟩:=h;obtain⟨u,w',rfl,⟨t,rfl⟩,⟨t',rfl⟩⟩:=vals2 r;refine max_two_ints (I.ok.hd hc) fun h' tk k=>⟨_,H,I.kept k,?_,q⟩
 by_cases hj:j>i
 . rw[if_pos hj,if_pos hj];exact⟨_,rfl⟩
 . rw[if_neg hj,if_neg hj];exact⟨_,rfl⟩
theorem QT(hc:X.calm=true):CallR X (.builtin "min") (fun xs H Q=>∃i j,xs=[.int i,.int j]/\Q (.int (if j<i then j else i)) H):=by
 intro aD s σ H xs us Q I r h;obtain⟨i,j,rfl,q⟩:=h;obtain⟨u,w',rfl,⟨t,rfl⟩,⟨t',rfl⟩⟩:=vals2 r;refine min_two_ints (I.ok.hd hc) fun h' tk k=>⟨_,H,I.kept k,?_,q⟩
 by_cases hj:j<i
 . rw[if_pos hj,if_pos hj];exact⟨_,rfl⟩
 . rw[if_neg hj,if_neg hj];exact⟨_,rfl⟩
theorem QX:CallR X (.type "int") (fun xs H Q=>(∃i,xs=[.int i]/\Q (.int i) H)\/∃k,xs=[.bl k]/\Q (.int (if k then 1 else 0)) H):=by
 intro aD s σ H xs us Q I r h;rcases h with⟨i,rfl,q⟩ | ⟨k,rfl,q⟩
 . obtain⟨u, rfl, t, rfl⟩ := vals1 r;exact call_int_int ⟨.int i,H,I,⟨_,rfl⟩,q⟩
 . obtain⟨u, rfl, r1⟩ := vals1 r;cases r1;exact call_int_bool ⟨.int (if k then 1 else 0),H,I.tok _,⟨_,rfl⟩,q⟩
end
structure ObjM(h:Heap)(x dx C:aB)(mA:Str->Option Value):Prop where
 obj:h.get? x=some (rL C dx)
 ns:h.Ns1 dx mA
 ne:dx≠x
theorem AX{h:Heap}{dx:aB}{mA:Str->Option Value}(n:h.Ns1 dx mA):∃od,h.get? dx=some od/\∀name,sP name od=some (mA name):=by
 obtain⟨o,es,ep,ho,hd,hk,_,hm⟩:=n;refine⟨o,ho,fun name=>?_⟩;have e:=hm name;unfold nsFind findBy at e;rw[<- KS] at e;unfold sP;rw[hd];dsimp only
 split
 . rename_i y q;rw[q] at e;exact congrArg some e
 . rename_i q;rw [q] at e
   have a:es.toList.any (·.refKey)=false:=by
    rw[RG];intro y hy;obtain⟨z,t,hkey⟩:=hk y (Array.mem_toList_iff.mp hy);simp[DictEntry.refKey,hkey]
   have a' : ¬es.toList.any (·.refKey)=true:=by rw[a];exact hO
   rw[if_neg a'];exact congrArg some e
theorem ObjM.look{h:Heap}{x dx C:aB}{mA:Str->Option Value}(I:ObjM h x dx C mA):∃od,PySem.W.InstAt h x (rL C dx) C (some od)/\∀name,sP name od=some (mA name):=
 let ⟨od,ho,hl⟩:=AX I.ns
 ⟨od,⟨I.obj,rfl,rfl,ho⟩,hl⟩
section
variable{prog:aY}{w:bS}{A:bR}{E:Value->aC->Prop}{s:aC}{K:aR}{x dx C f:aB}{mA:Str->Option Value}{name:Str}{v:Value}
end
noncomputable def putF(f:Str)(v:V):List (Str×V)->List (Str×V)
 |[]=>[(f,v)]
 |(g,x)::r=>if g=f then (g,v)::r else (g,x)::putF f v r
theorem rR(f g:Str)(v:V):∀fs:List (Str×V),(putF f v fs).lookup g=if g=f then some v else fs.lookup g
 | [] => by
   show List.lookup g [(f,v)]=_
   by_cases h:g=f
   . have hb : (g==f)=true := beq_iff_eq.mpr h;simp only[List.lookup,hb,if_pos h]
   . have hb : (g==f)=false := beq_eq_false_iff_ne.mpr h;simp only[List.lookup,hb,if_neg h]
 | (k, x) :: r => by
   have ih:=rR f g v r;rw[show putF f v ((k,x)::r)=(if k=f then (k,v)::r else (k,x)::putF f v r) from rfl]
   by_cases hk:k=f
   . rw [if_pos hk]
     by_cases h:g=k
     . have hb : (g==k)=true := beq_iff_eq.mpr h;simp only[List.lookup,hb,if_pos (h.trans hk)]
     . have hb : (g==k)=false := beq_eq_false_iff_ne.mpr h;simp only[List.lookup,hb,if_neg (fun e:g=f=>h (e.trans hk.symm))]
   . rw [if_neg hk]
     by_cases h:g=k
     . have hb : (g==k)=true := beq_iff_eq.mpr h;simp only[List.lookup,hb,if_neg (fun e:g=f=>hk (h.symm.trans e))]
     . have hb : (g==k)=false := beq_eq_false_iff_ne.mpr h;simp only[List.lookup,hb];exact ih
theorem vJ(f:Str)(v:V):∀fs:List (Str×V),f∈(putF f v fs).map (·.1)/\∀g,g∈fs.map (·.1)->g∈(putF f v fs).map (·.1)
 |[]=>⟨by simp[putF],fun g h=>by simp at h⟩
 | (k, x) :: r => by
   obtain⟨i1,i2⟩:=vJ f v r;rw[show putF f v ((k,x)::r)=(if k=f then (k,v)::r else (k,x)::putF f v r) from rfl]
   by_cases hk:k=f
   . rw[if_pos hk];subst hk;exact⟨by simp,fun g h=>by simpa using h⟩
   . rw [if_neg hk];refine ⟨?_,fun g h=>?_⟩
     . rw[bO];exact aI _ i1
     . rw [bO] at h ⊢;rcases aH.mp h with e | e
       . exact aH.mpr (.inl e)
       . exact aI _ (i2 g e)
section
variable{P:aY}{w:bS}{H H':Hp}{h h':Heap}{a C dx:aB}{fs fs':List (Str×V)}
theorem ins_get(hok:HOk P w H h)(e:H a=some (.ins C dx fs)):∃mA,ObjM h a dx C mA/\(∀f,RelO (fs.lookup f) (mA f))/\PySem.Within mA (fs.map (·.1))/\fs.length<=1000/\H dx=some (.own a):=by
 obtain⟨d,z,ne,ob,mA,n,r,q⟩:=(show ObjOk P w H h a (.ins C dx fs) from hok a _ e)
 exact⟨mA,⟨ob,n,ne⟩,r,q,z,d⟩
end
structure Cls(K:aR)(C:aB):Prop where
 pg:pW K C Str.empty=true
 hd:pN K C=true
 po:HU K C=true
 sa:cZ K (.ref C) "__setattr__" = some (some (.builtin "object.__setattr__"))
theorem Cls.get{K:aR}{C:aB}(c:Cls K C)(f:Str):pW K C f=true:=c.pg
def NoAttr(K:aR)(C:aB)(f:Str):Prop:=cZ K (.ref C) f=some none
section
variable{X:Cx}{aD:List (aB×Obj)}{σ : St}{H:Hp}{s:aC}{a C dx:aB}{fs:List (Str×V)}{f:Str}{v:V}{A:bR}{E:Value->aC->Prop}
theorem attr_of{prog:aY}{w:bS}{env:Env}{e:Expr}{f:Str}{pos:Pos}{s:aC}{Q:Value->aC->Prop}(hb:lL e f env (cM e env)=cM e env)(h:aU (aM prog w) A (cM e env) (fun o s₁=>aU (aM prog w) A (getAttr o f true) Q E s₁) E s):aU (aM prog w) A (cM (.Attribute e f pos) env) Q E s :=
 Attribute_any_ h (by rw[arm_eval_Attribute,hb])
end
section
variable{X:Cx}{o e value:Expr}{f:Str}{pos pos' tpos:Pos}{ta tv:TE}
end
section
variable{X:Cx}{aD:List (aB×Obj)}{σ : St}{H:Hp}{s:aC}{A:bR}{E:Value->aC->Prop}{Q:Value->aC->Prop}{c:Value}{b:Bool}
inductive TyOf(K:aR)(H:Hp):V->Value->Prop where
 |non:TyOf K H .non (.type "NoneType")
 |bl (x:Bool):TyOf K H (.bl x) (.type "bool")
 |int (i:Int):TyOf K H (.int i) (.type "int")
 |str (x:Str):TyOf K H (.str x) (.type "str")
 |flt (x:UInt64):TyOf K H (.flt x) (.type "float")
 |lst {a:aB} {xs:List V} (e:H a=some (.lst xs)):TyOf K H (.ref a) (.type "list")
 |frz {a:aB} {o:Obj} {xs:List V} (e:H a=some (.frz o (.lst xs))):TyOf K H (.ref a) (.type "list")
 |tup {a:aB} {xs:List V} (e:H a=some (.tup xs)):TyOf K H (.ref a) (.type "tuple")
 |dK {a:aB} {kvs:List (Key×V)} (e:H a=some (.dK kvs)):TyOf K H (.ref a) (.type "dict")
 |dT {a:aB} {kvs:List (List Key×V)} (e:H a=some (.dT kvs)):TyOf K H (.ref a) (.type "dict")
 |ins {a C dx:aB} {fs:List (Str×V)} (e:H a=some (.ins C dx fs)) (cl:Cls K C) (ha:cZ K (.ref C) "__class__" = some (some (.builtin "object.__class__")))
    (hn:PySem.W.specialIn K (.builtin "object.__class__") "__get__" = some (some (.builtin "getset_descriptor.__get__"))) (htk:PySem.W.takesIn K (.builtin "object.__class__")=some true)
    (hm:oA K C (.type "object")=some true):TyOf K H (.ref a) (.ref C)
theorem QB{x:V}{u t:Value}(I:Inv X aD σ H s)(rx:RelV x u)(ty:TyOf X.K H x t)(e:cO X.K t c=some b)(h:∀tk,Q (.bool b) { s with toks:=tk }) :
  aU (aM X.prog X.w) A (call (.builtin "isinstance") [u,c]) Q E s:=by
 cases ty with
 |non=>cases(show u=Value.none from rx);exact cK PySem.W.kitx_none I.kIn True.intro e (fun z=>nomatch z) h
 |bl y=>cases(show u=Value.bool y from rx);exact cK PySem.W.kitx_bool I.kIn True.intro e (fun z=>nomatch z) h
 |int i=>obtain⟨t,q⟩:=(show ∃t,u=Value.int i t from rx);cases q;exact cK PySem.W.kitx_int I.kIn True.intro e (fun z=>nomatch z) h
 |str y=>obtain⟨t,q⟩:=(show ∃t,u=Value.str y t from rx);cases q;exact cK PySem.W.kitx_str I.kIn True.intro e (fun z=>nomatch z) h
 |flt y=>obtain⟨t,q⟩:=(show ∃t,u=Value.float y t from rx);cases q;exact cK PySem.W.kitx_float I.kIn True.intro e (fun z=>nomatch z) h
 | @lst a xs ea =>
   cases(show u=Value.ref a from rx);obtain⟨_,_,n,_,h1⟩:=(show ObjOk X.prog X.w H s.heap a (.lst xs) from I.hok a _ ea)
   exact cK pM I.kIn ⟨_,h1,rfl⟩ e (fun z=>nomatch z) h
 | @frz a ob xs ea =>
   cases(show u=Value.ref a from rx);obtain⟨_,_,_,n,_,h1⟩:=(show ObjOk X.prog X.w H s.heap a (.frz ob (.lst xs)) from I.hok a _ ea)
   exact cK pM I.kIn ⟨_,h1,rfl⟩ e (fun z=>nomatch z) h
 | @tup a xs ea =>
   cases(show u=Value.ref a from rx);obtain⟨_,_,_,p⟩:=(show ObjOk X.prog X.w H s.heap a (.tup xs) from I.hok a _ ea)
   obtain⟨o,h1,h2,_⟩:=p;exact cK oO I.kIn ⟨o,h1,h2⟩ e (fun z=>nomatch z) h
 | @dK a kvs ea =>
   cases(show u=Value.ref a from rx);obtain⟨_,_,vs,_,p⟩:=(show ObjOk X.prog X.w H s.heap a (.dK kvs) from I.hok a _ ea)
   obtain⟨o,es,ep,h1,h2,_⟩:=p;exact cK HV I.kIn ⟨o,h1,h2.1⟩ e (fun z=>nomatch z) h
 | @dT a kvs ea =>
   cases(show u=Value.ref a from rx);obtain⟨_,_,xs,_,o,es,ep,h1,h2,_⟩:=(show ObjOk X.prog X.w H s.heap a (.dT kvs) from I.hok a _ ea)
   exact cK HV I.kIn ⟨o,h1,h2.1⟩ e (fun z=>nomatch z) h
 | @ins a C dx fs ea cl ha hn htk hm =>
   cases(show u=Value.ref a from rx);obtain⟨mA,O,_⟩:=ins_get I.hok ea;obtain⟨od,J,_⟩:=O.look;exact cK (PySem.W.kitx_own (cl.get _) cl.hd ha hn htk hm) I.kIn J e (fun z=>nomatch z) h
end
structure Room(k:Nat)(A:bR):Prop where
 hd:A.handled=none
 dp:A.depth+3*k+5<recursionLimit
 un:A.units+16*k+200<cLine
theorem Room.mono{j k:Nat}{A:bR}(r:Room k A)(h:j<=k):Room j A:=⟨r.hd,by have:=r.dp;omega,by have:=r.un;omega⟩
theorem Room.deeper{k:Nat}{A:bR}(r:Room (k+1) A)(env:Env):Room k (A.deeper env):=
 ⟨r.hd,by have:=r.dp;show A.depth+1+3*k+5<_;omega,by have:=r.un;show A.units+3+16*k+200<_;omega⟩
theorem JH{A:bR}{C:aB}{us:List Value}{kw:List (Str×Value)}:(A.under (.builtin "type.__call__" ⟨.ref C::us,kw⟩)).depth=A.depth+1:=by
 first | rfl | simp[bR.under,Code.weight,Code.isCreation,Code.isGuard,Code.isCaller,Code.frames,Code.isFrame,guardIds]
theorem JG{A:bR}{C:aB}{us:List Value}{kw:List (Str×Value)}:(A.under (.builtin "type.__call__" ⟨.ref C::us,kw⟩)).units=A.units+1:=by
 first | rfl | simp[bR.under,Code.cUnits,Code.frames,Code.isFrame]
theorem Room.make{k:Nat}{A:bR}(r:Room (k+1) A)(C:aB)(us:List Value)(kw:List (Str×Value)):Room k (A.under (.builtin "type.__call__" ⟨.ref C::us,kw⟩)):=
 ⟨r.hd,by have:=r.dp;rw[JH];omega,by have:=r.un;rw[JG];omega⟩
theorem Room.depth{k:Nat}{A:bR}(r:Room k A):A.depth<recursionLimit:=by have:=r.dp;omega
theorem Room.units{k:Nat}{A:bR}(r:Room k A):A.units+64<cLine:=by have:=r.un;omega
def tNil:TA:=fun _ H Q=>Q [] H
def tCons(ta:TE)(tr:TA):TA:=fun σ H Q=>ta σ H fun x H1=>tr σ H1 fun xs H2=>Q (x::xs) H2
section
variable{X:Cx}{e:Expr}{es:List Expr}{te:TE}{t:TA}{pos:Pos}
theorem yW:PA X [] tNil:=fun _ _ _ _ H Q I h=>Calls.spliced_nil ⟨[],H,I,.nil,h⟩
theorem jF(ha:PE X e te)(hr:PA X es t)(hs:aL (e::es) X.env=(false,cM e X.env)::aL es X.env:=by rfl):PA X (e::es) (tCons te t):=by
 intro pos aD s σ H Q I h;rw[hs];show aU _ _ (spliced ((false,cM e X.env)::eF pos (aL es X.env))) _ _ s;refine Calls.spliced_cons (thn (ha aD s σ H _ I h) fun u s1 zq=>?_);obtain⟨x,H1,I1,r1,q1⟩:=zq;exact thn (hr pos aD s1 σ H1 _ I1 q1) fun us s2 ⟨xs,H2,I2,r2,q2⟩=>⟨x::xs,H2,I2,.cons r1 r2,q2⟩
def tTup(t:TA):TE:=fun σ H Q=>t σ H fun xs H1=>xs.length<=sizeLine/\∀p,H1 p=none->Q (.ref p) (upd H1 p (.tup xs))
def tLst(t:TA):TE:=fun σ H Q=>t σ H fun xs H1=>xs.length<=sizeLine/\∀p,H1 p=none->Q (.ref p) (upd H1 p (.lst xs))
theorem UU{x1}(h:PA X es t):PE X (.Tuple es x1 pos) (tTup t):=by
 intro aD s σ H Q I hq;refine wpAny_Tuple_spliced (thn (h pos aD s σ H _ I hq) fun us s1 ⟨xs,H1,I1,r,z,q⟩=>⟨by rw[<- r.length];exact z,?_⟩);have hf:H1 s1.heap.objs.size=none:=I1.hok.fresh (aO _);refine⟨.ref s1.heap.objs.size,upd H1 s1.heap.objs.size (.tup xs),I1.laid (t':=s1.toks) (fun b u e=>aE _ e) (aO _) ?_,rfl,q _ hf⟩;exact⟨z,us,r,⟨_,aX _ rfl,rfl,_,rfl⟩⟩
theorem UV(h:PA X es t):PE X (.List es pos) (tLst t):=by
 intro aD s σ H Q I hq;refine wpAny_List_spliced (thn (h pos aD s σ H _ I hq) fun us s1 ⟨xs,H1,I1,r,z,q⟩=>⟨by rw[<- r.length];exact z,?_⟩);have hf:H1 s1.heap.objs.size=none:=I1.hok.fresh (aO _);refine⟨.ref s1.heap.objs.size,upd H1 s1.heap.objs.size (.lst xs),I1.laid (t':=s1.toks) (fun b u e=>aE _ e) (aO _) ?_,rfl,q _ hf⟩;exact⟨z,us,0,r,aX _ rfl⟩
end
abbrev Sp:=List V->Hp->VK->XK->Prop
abbrev CXT:=List Env->Hp->aC->XK->Value->aC->Prop
structure Env0(P:aY)(w:bS)(K:aR)(mg:Str->Option Value)(base:Heap)(A:bR)(outer:List Env)(s:aC)(H:Hp):Prop where
 frames:A.frames=some outer
 mod:Mod K mg base
 bs:∀b o,base.get? b=some o->s.heap.get? b=some o/\H b=none
 bsz:Bsz K mg base s.heap H
 funs:s.heap.FunFrames base outer
 frf:∀b∈frs outer,H b=none
 hok:HOk P w H s.heap
 bare:lN s.gens
def CE(outer:List Env)(P:aY)(w:bS)(H:Hp)(s:aC)(Q:VK)(u:Value)(s':aC):Prop :=
 ∃v H',s'.os=s.os/\lN s'.gens/\Un (frs outer) [] H H' s.heap s'.heap/\HOk P w H' s'.heap/\RelV v u/\Q v H'
def CR(CX:CXT)(outer:List Env)(P:aY)(w:bS)(H:Hp)(s:aC)(Q:VK)(E:XK)(r:sM)(s':aC):Prop :=
 match r with
 | .ok (.ret u)=>CE outer P w H s Q u s'
 | .ok _=>False
 | .error e=>CX outer H s E e s'
structure FnOk(P:aY)(w:bS)(K:aR)(mg:Str->Option Value)(base:Heap)(CX:CXT)(k:Nat)(f:aB)(fd:bQ)(ps:List Str)(sp:Sp):Prop where
 len:∀vs H Q E,sp vs H Q E->vs.length=ps.length
 run:∀(A:bR) (outer:List Env) (s:aC) (H:Hp) (args:Args) (us:List Value) (vs:List V) (Q:VK) (E:XK),Room k A->Env0 P w K mg base A outer s H->RK s fd args (ps.zip us)->Vals vs us->sp vs H Q E →
  fK (aM P w) A (.call (.ref f) args) (CR CX outer P w H s Q E) s
theorem FnOk.mono{P:aY}{w:bS}{K:aR}{mg:Str->Option Value}{base:Heap}{CX:CXT}{j k:Nat}{f:aB}{fd:bQ}{ps:List Str}{sp:Sp}(F:FnOk P w K mg base CX j f fd ps sp)(h:j<=k) :
  FnOk P w K mg base CX k f fd ps sp:=⟨F.len,fun A outer s H args us vs Q E hr=>F.run A outer s H args us vs Q E (hr.mono h)⟩
theorem FnOk.imp{P:aY}{w:bS}{K:aR}{mg:Str->Option Value}{base:Heap}{CX:CXT}{k:Nat}{f:aB}{fd:bQ}{ps:List Str}{sp sp':Sp}(F:FnOk P w K mg base CX k f fd ps sp)(h:∀vs H Q E,sp' vs H Q E->sp vs H Q E):FnOk P w K mg base CX k f fd ps sp' :=
 ⟨fun vs H Q E q=>F.len vs H Q E (h _ _ _ _ q),fun A outer s H args us vs Q E hr he hb hv hs=>F.run A outer s H args us vs Q E hr he hb hv (h _ _ _ _ hs)⟩
theorem Env0.make{P:aY}{w:bS}{K:aR}{mg:Str->Option Value}{base:Heap}{A:bR}{outer:List Env}{s:aC}{H:Hp}(e:Env0 P w K mg base A outer s H)(C:aB)(us:List Value)(kw:List (Str×Value)) :
  Env0 P w K mg base (A.under (.builtin "type.__call__" ⟨.ref C::us,kw⟩)) outer s H:=⟨by first | exact e.frames | (simpa[bR.under,Code.envs,Code.isFrame,pushEnvs] using e.frames),e.mod,e.bs,e.bsz,e.funs,e.frf,e.hok,e.bare⟩
section
variable{X:Cx}{aD:List (aB×Obj)}{σ : St}{H:Hp}{s s':aC}
theorem Inv.tabsH(I:Inv X aD σ H s):TabsK X.K X.mg X.base H:=⟨I.ok.bsz.2.bm,fun x c P hx ht=>⟨(I.ok.bsz.2.tab x c P hx ht).1,I.base.tbls _ _ (I.ok.bsz.2.tab x c P hx ht).2⟩⟩
theorem Inv.env0(I:Inv X aD σ H s):Env0 X.prog X.w X.K X.mg X.base X.A X.stack s H :=
 ⟨I.ok.frames,I.ok.mod,I.bs,⟨cW I.ok.bsz.1 I.sz,I.tabsH⟩,I.stack,I.stkFree,I.hok,I.bare⟩
theorem Inv.after{Q:VK}{u:Value}(I:Inv X aD σ H s)(h:CE X.stack X.prog X.w H s Q u s'):EP X aD σ Q u s':=by
 obtain⟨v,H',os,bare,un,hok,r,q⟩:=h;obtain⟨hh,g,d,t,os'⟩:=s';obtain rfl:os'=s.os:=os;exact⟨v,H',I.call (h':=hh) (g':=g) (d':=d) (t':=t) (ch:=[]) un hok bare (fun b z=>absurd z (by simp)),r,q⟩
end
def tCall(sp:Sp)(dvs:List V)(E:XK)(t:TA):TE:=fun σ H Q=>t σ H fun vs H1=>sp (vs++dvs) H1 Q E
def Binds(K:aR)(fd:bQ)(ps:List Str)(ds:List Value):Prop :=
 ∀(s:aC) (us:List Value),K.In s.heap->(us++ds).length=ps.length->RK s fd ⟨us,[]⟩ (ps.zip (us++ds))
theorem Binds.all{K:aR}{fd:bQ}{ps:List Str}(h:∀us:List Value,us.length=ps.length->HF fd ⟨us,[]⟩=pure (ps.zip us)):Binds K fd ps []:=fun s us _ hl=>by
 rw[dG] at hl ⊢;exact .of_eq (h us hl)
def KJ(CX:CXT)(X:Cx)(E:XK):Prop:=∀(aD:List (aB×Obj)) (σ : St) (H:Hp) (s:aC) (e:Value) (s':aC),Inv X aD σ H s->CX X.stack H s E e s'->X.xe e s'
section
variable{X:Cx}{CX:CXT}{k:Nat}{f C:aB}{fd:bQ}{ps:List Str}{sp:Sp}{dvs:List V}{ds:List Value}{E:XK}{x m:Str}{p pos apos:Pos}{e o:Expr}{es:List Expr}{ta:TE}{t:TA}
theorem run_fn{aD:List (aB×Obj)}{σ : St}{H:Hp}{s:aC}{Q:VK}{us:List Value}{vs:List V}(F:FnOk X.prog X.w X.K X.mg X.base CX k f fd ps sp)(hr:Room k X.A)(hb:Binds X.K fd ps ds)(hd:Vals dvs ds)(hx:KJ CX X E)(I:Inv X aD σ H s)(r:Vals vs us)(h:sp (vs++dvs) H Q E):aU (aM X.prog X.w) X.A (call (.ref f) us) (EP X aD σ Q) X.xe s:=by
 have r2:Vals (vs++dvs) (us++ds):=r.append hd;have hl:(us++ds).length=ps.length:=by rw[<- r2.length];exact F.len _ _ _ _ h
 refine mI (gX (F.run X.A X.stack s H ⟨us,[]⟩ (us++ds) (vs++dvs) Q E hr I.env0 (hb s us I.kIn hl) r2 h) fun r s' hq=>?_);cases r with
 |error e=>exact hx aD σ H s e s' I hq
 | ok fl =>
   cases fl with
   |ret u=>exact I.after hq
   |next=>exact False.elim hq
   |brk=>exact False.elim hq
   |cont=>exact False.elim hq
theorem LX(F:FnOk X.prog X.w X.K X.mg X.base CX k f fd ps sp)(hr:Room k X.A)(hg:Gl X x)(hm:X.mg x=some (.ref f))(hk:cP X.K (.ref f)=true)(hb:Binds X.K fd ps ds)(hd:Vals dvs ds)(hx:KJ CX X E)(ha:PA X (e::es) t)(hdb:(x==("__debug__" : Str))=false:=by decide)(he:aL (e::es) X.env=(false,cM e X.env)::aL es X.env:=by rfl)(hpl:(eF pos (aL es X.env)).any (·.1)=false:=by rfl) :
  PE X (.Call (.Name x p) (e::es) [] pos) (tCall sp dvs E t):=by
 intro aD s σ H Q I h;refine eU (vB I hg hm ?_ hdb);refine HG (h₀:=X.base) I.ok.mod.kin hk (thn (ha pos aD s σ H _ I h) fun us s1 ⟨vs,H1,I1,r,q⟩=>⟨I1.kIn,?_⟩) he hpl;exact run_fn F hr hb hd hx I1 r q
end
section
variable{X:Cx}{CX:CXT}{k:Nat}{f C:aB}{fd:bQ}{ps ks:List Str}{sp:Sp}{E:XK}{x m:Str}{p pos apos kpos:Pos}{e o:Expr}{es:List Expr}{kws:List RH}{te ta:TE}{t tk:TA}{nm:Option Str}
variable{g:List Value->List Value->List Value}{gV:List V->List V->List V}
end
structure FnScope(N P:List Str)(sc:Scope):Prop where
 kind:sc.kind=.function:=by rfl
 co:sc.isCoroutine=false:=by rfl
 gen:sc.isGenerator=false:=by rfl
 nd:N.Nodup:=by decide +kernel
 pre:N.take P.length=P:=by rfl
 par:∀x∈P,sc.names.lookup x=some .local\/sc.names.lookup x=some .cell:=by decide +kernel
 nofree:∀y∈sc.names,y.2≠.free:=by decide +kernel
theorem BI{kindOf:Str->Option iE}{x:Str}:∀{binds:List (Str×Value)} {m:Str->Option Value},(∀v,(x,v)∉binds)->NQ kindOf binds m x=m x
 |[],_,_=>rfl
 | (n, v) :: r, m, h => by
   unfold NQ;rw[BI fun w hw=>h w (aI _ hw)]
   split
   . have : x ≠ n := by rintro rfl; exact h v aF
     simp[this]
   . rfl
theorem BK{kindOf:Str->Option iE}{x:Str}:∀{binds:List (Str×Value)} {m:Str->Option Value},(∀v,(x,v)∉binds)->NR kindOf binds m x=m x
 |[],_,_=>rfl
 | (n, v) :: r, m, h => by
   unfold NR;rw[BK fun w hw=>h w (aI _ hw)]
   split
   . rfl
   . have : x ≠ n := by rintro rfl; exact h v aF
     simp[this]
theorem BJ{kindOf:Str->Option iE}{x:Str}{v:Value}:∀{P:List Str} {vs:List Value} {i:Nat} {m:Str->Option Value},P.Nodup->P[i]?=some x->vs[i]?=some v->kindOf x=some .local →
  NQ kindOf (P.zip vs) m x=some v
 |[],_,_,_,_,h,_,_=>by simp at h
 |_::_,[],_,_,_,_,h,_=>by simp at h
 | p :: P, w :: vs, 0, m, nd, h1, h2, hk => by
   simp at h1 h2;subst h1;subst h2;show NQ kindOf ((p,w)::P.zip vs) m p=_;unfold NQ;rw[BI fun v hv=>(nB.mp nd).1 (sU hv).1,if_pos hk];simp
 | p :: P, w :: vs, i + 1, m, nd, h1, h2, hk => by
   show NQ kindOf ((p,w)::P.zip vs) m x=_;unfold NQ;exact BJ (i:=i) (nB.mp nd).2 (by simpa using h1) (by simpa using h2) hk
theorem BL{kindOf:Str->Option iE}{x:Str}{v:Value}:∀{P:List Str} {vs:List Value} {i:Nat} {m:Str->Option Value},P.Nodup->P[i]?=some x->vs[i]?=some v->kindOf x≠some .local →
  NR kindOf (P.zip vs) m x=some v
 |[],_,_,_,_,h,_,_=>by simp at h
 |_::_,[],_,_,_,_,h,_=>by simp at h
 | p :: P, w :: vs, 0, m, nd, h1, h2, hk => by
   simp at h1 h2;subst h1;subst h2;show NR kindOf ((p,w)::P.zip vs) m p=_;unfold NR;rw[BK fun v hv=>(nB.mp nd).1 (sU hv).1,if_neg hk];simp
 | p :: P, w :: vs, i + 1, m, nd, h1, h2, hk => by
   show NR kindOf ((p,w)::P.zip vs) m x=_;unfold NR;exact BL (i:=i) (nB.mp nd).2 (by simpa using h1) (by simpa using h2) hk
noncomputable def start(N:List Str)(vs:List V):St:=vs.map some++List.replicate (N.length-vs.length) none
noncomputable def cxOf(CX:CXT)(P:aY)(w:bS)(K:aR)(mg:Str->Option Value)(base:Heap)(N:List Str)(qual:Str)(scope:Scope)(f:aB)(cd:Value)(A:bR)(outer:List Env)(s:aC)(H:Hp)(E:XK):Cx where
 prog:=P
 w:=w
 K:=K
 mg:=mg
 base:=base
 A:=A.deeper (iX qual scope s.heap.objs.size f cd)
 N:=N
 s₀:=s
 H₀:=H
 env:=iX qual scope s.heap.objs.size f cd
 outer:=outer
 stack:=iX qual scope s.heap.objs.size f cd::outer
 ex:=[]
 calm:=true
 fn:=fun _=>true
 pn:=[]
 xe:=fun e s'=>aU (aM P w) (A.deeper (iX qual scope s.heap.objs.size f cd)) (leaving (iX qual scope s.heap.objs.size f cd) e) (fun _ s''=>CX outer H s E e s'') (fun e' s''=>CX outer H s E e' s'') s'
theorem GO{sc:Scope}{n:Nat}{x:Str}(h:sc.names.lookup x=some .cell):∃c,(cellsFrom n sc.names []).lookup x=some c:=by
 have q:=uY sc.names n [] (.inl h);exact uL.mp q
theorem QF{CX:CXT}{P:aY}{w:bS}{K:aR}{mg:Str->Option Value}{base:Heap}{N ps:List Str}{qual:Str}{scope:Scope}{f:aB}{cd:Value}{A:bR}{outer:List Env}{s s1:aC}{H:Hp}{E:XK}{us:List Value}{vs:List V}(S:FnScope N ps scope)(hd:A.handled=none)(e0:Env0 P w K mg base A outer s H)(hl:vs.length=ps.length)(r:Vals vs us)(x:InCallC s s.heap.objs.size (NQ (iX qual scope s.heap.objs.size f cd).kindOf (ps.zip us) fun _=>none) (cellsFrom (s.heap.objs.size+1) scope.names []) (NR (iX qual scope s.heap.objs.size f cd).kindOf (ps.zip us) fun _=>none) s1) :
  Inv (cxOf CX P w K mg base N qual scope f cd A outer s H E) [] (start N vs) H s1:=by
 have hpl:ps.length<=N.length:=by have:=congrArg List.length S.pre;rw[dS] at this;omega
 obtain⟨h1,tk,rfl,hk⟩:=x.done;have noA:∀b:aB,b∉(cxOf CX P w K mg base N qual scope f cd A outer s H E).ex:=fun b z=>absurd (show b∈([]:List aB) from z) (by simp)
 refine⟨⟨e0.mod,S.kind,rfl,rfl,aO _,fun y z c h1 h2=>?_,fun y hy=>?_,fun y c _ h=>?_,fun _=>hd,bR.frames_deeper e0.frames,.inr ⟨rfl,rfl⟩,fun b z=>absurd z (noA b),e0.bs,e0.bsz,fun b _ _=>noA b,fun b z=>absurd z (noA b),e0.funs,e0.frf⟩,
  rfl,e0.bare,Un.kept hk,⟨_,x.toInCall.ns,fun i y v h1 h2 h3=>?_⟩,fun y c h=>⟨_,x.cell y c h⟩,e0.hok.fresh (aO _),fun y c h=>?_,fun p hp=>absurd (show p∈([]:List (aB×Obj)) from hp) (by simp),e0.hok.kept hk,?_⟩
 . exact name_of_addr x.apart (fB h1) (fB h2)
 . have hy : scope.names.lookup y = some .cell \/ scope.names.lookup y = some .free := hy;rcases hy with hy | hy
   . exact GO hy
   . exact absurd rfl (S.nofree _ (fB hy))
 . exact HK (x.above y c (fB h))
 . have hi:i<vs.length:=by
    unfold start at h2
    by_cases hi:i<vs.length
    . exact hi
    . rw [cJ (by simpa using hi)] at h2;rw [hU] at h2
      split at h2<;>cases h2
   have ha:vs[i]?=some v:=by
    unfold start at h2;rw[bK (by simpa using hi),bT] at h2;cases e:vs[i]? with
    |none=>rw[e] at h2;cases h2
    |some a=>rw[e] at h2;cases h2;rfl
   obtain⟨u,hu,rv⟩:=r.get ha
   have hp:ps[i]?=some y:=by
    rw[<- S.pre,eY (by omega)];exact h1
   have ndP:ps.Nodup:=by rw[<- S.pre];exact S.nd.sublist (eX _ _)
   refine⟨u,rv,?_⟩;rcases S.par y (eH hp) with k | k
   . exact .inl ⟨k,BJ ndP hp hu k⟩
   . obtain⟨c, e⟩ := GO (n := s.heap.objs.size + 1) k;refine .inr ⟨.inl k,c,e,?_⟩;have q:=x.cell y c e;rw[BL ndP hp hu (by show scope.names.lookup y≠_;rw[k];decide)] at q;exact q
 . exact .inl (e0.hok.fresh (HK (x.above y c (fB h))))
 . unfold start;show _=N.length;rw[cV,cH,List.length_replicate];omega
theorem fn_of{CX:CXT}{P:aY}{w:bS}{K:aR}{mg:Str->Option Value}{base:Heap}{k:Nat}{f:aB}{name qual:Str}{params:Arguments}{body:List Stmt}{scope:Scope}{dV kV doc pm cdv ct oc:Value}{an od:Option aB}{osl:Array (Option Value)}{N ps:List Str}{sp:Sp}(lk:K.lookup f=some ⟨oc,od,.func (eC name qual params body scope dV kV doc pm an cdv ct),osl⟩)(hcd:eZ K cdv qual=true)(S:FnScope N ps scope)(len:∀vs H Q E,sp vs H Q E->vs.length=ps.length)(hbody:∀(A:bR) (outer:List Env) (s:aC) (H:Hp) (vs:List V) (Q:VK) (E:XK),Room k (A.deeper (iX qual scope s.heap.objs.size f cdv))->sp vs H Q E →
    ∃t,PSs (cxOf CX P w K mg base N qual scope f cdv A outer s H E) body t/\t { nx:=fun _ H'=>Q .non H',rt:=Q } (start N vs) H) :
  FnOk P w K mg base CX (k+1) f (eC name qual params body scope dV kV doc pm an cdv ct) ps sp:=by
 refine⟨len,fun A outer s H args us vs Q E hr e0 hb r hsp=>?_⟩;have hl:=len _ _ _ _ hsp;have KX:K.In s.heap:=e0.mod.kin.keeps fun b o e=>(e0.bs b o e).1;have lim:s.heap.NoLimit:=e0.mod.nolimit.keeps fun b o e=>(e0.bs b o e).1
 have hkind:∀y∈ps.zip us,scope.names.lookup y.1=some .local\/(scope.names.lookup y.1=some .cell/\((cellsFrom (s.heap.objs.size+1) scope.names []).lookup y.1).isSome=true):=fun⟨n,v⟩ hy=>by
  rcases S.par n (sU hy).1 with q | q
  . exact .inl q
  . exact .inr ⟨q,uY _ _ _ (.inl q)⟩
 refine codeAny_call_function hr.depth (KX _ _ lk) rfl S.co S.gen rfl (PySem.W.codeRec_of KX hcd) (hb _ _ _ _ ?_);refine wpAny_newFunctionEnv_cells S.kind hkind fun env he s1 x=>?_;subst he;refine⟨lim.keeps x.toInCall.keep,codeAny_func ?_⟩;obtain⟨t,ht,hq⟩:=hbody A outer s H vs Q E (hr.deeper _) hsp;have I:Inv (cxOf CX P w K mg base N qual scope f cdv A outer s H E) [] (start N vs) H s1:=QF S hr.hd e0 hl r x;refine cB (ht [] s1 (start N vs) H _ I hq) (fun fl s' hs=>?_) fun e s' hs=>hs
 have fin:∀{σ':St} {H':Hp} {v:V} {u:Value},Inv (cxOf CX P w K mg base N qual scope f cdv A outer s H E) [] σ' H' s'->RelV v u->Q v H'->CE outer P w H s Q u s' :=
  fun {σ' H' v u} J rv q=>⟨v,H',J.os,J.bare,J.base,J.hok,rv,q⟩
 cases fl with
 | ret u =>
   obtain⟨v,σ',H',J,rv,q⟩:=hs;exact fin J rv q
 | next =>
   obtain⟨σ',H',J,q⟩:=hs;exact fin (v:=V.non) (u:=Value.none) J rfl q
 | brk =>
   obtain⟨_,_,_,q⟩:=hs;exact False.elim q
 | cont =>
   obtain⟨_,_,_,q⟩:=hs;exact False.elim q
section
variable{X:Cx}{x:Str}{p pos:Pos}{e:Expr}{es:List Expr}{t:TA}{id T:String}{r:List V->Hp->VK->Prop}
def tCB(r:List V->Hp->VK->Prop)(t:TA):TE:=fun σ H Q=>t σ H fun vs H1=>r vs H1 Q
theorem xU(hc:CallR X (.builtin id) r)(hg:Gl X x)(hm:X.mg x=none)(hv:eA x=some (.builtin id))(ha:PA X (e::es) t)(hn:x≠"__name__":=by decide)(hdb:(x==("__debug__" : Str))=false:=by decide)(he:aL (e::es) X.env=(false,cM e X.env)::aL es X.env:=by rfl)(hpl:(eF pos (aL es X.env)).any (·.1)=false:=by rfl):PE X (.Call (.Name x p) (e::es) [] pos) (tCB r t):=by
 intro aD s σ H Q I h;refine eU (xJ I hg hm hv ?_ hn hdb);exact oC (thn (ha pos aD s σ H _ I h) fun us s1 ⟨vs,H1,I1,r1,q1⟩=>hc aD s1 σ H1 vs us Q I1 r1 q1) he hpl
theorem AT(hc:CallR X (.type T) r)(hg:Gl X x)(hm:X.mg x=none)(hv:eA x=some (.type T))(ha:PA X (e::es) t)(hn:x≠"__name__":=by decide)(hdb:(x==("__debug__" : Str))=false:=by decide)(he:aL (e::es) X.env=(false,cM e X.env)::aL es X.env:=by rfl)(hpl:(eF pos (aL es X.env)).any (·.1)=false:=by rfl):PE X (.Call (.Name x p) (e::es) [] pos) (tCB r t):=by
 intro aD s σ H Q I h;refine eU (xJ I hg hm hv ?_ hn hdb);exact dO (thn (ha pos aD s σ H _ I h) fun us s1 ⟨vs,H1,I1,r1,q1⟩=>hc aD s1 σ H1 vs us Q I1 r1 q1) he hpl
end
end L2
namespace HT
open PySem PyProof.Rows
section
open PySem.SeqAt
open PySem.AutoSeq1 (wpAny_loadPart')
open PySem.MeetsSeq PySem.MeetsSeq2 PySem.MeetsSeq3
end
section
variable{prog:aY}{w:bS}{A:bR}{E:Value->aC->Prop}{s:aC}
theorem sIx_le(n d:Nat)(hd:d<=n)(o:Option Int):sIx n d o<=n:=by
 cases o with
 |none=>exact hd
 | some v =>
   show(if v<0 then (v+(n:Int)).toNat else min v.toNat n)<=n
   by_cases hv:v<0
   . rw[if_pos hv];omega
   . rw[if_neg hv];exact Nat.min_le_right _ _
theorem NF(v:Int)(n d:Nat):(if v<0 then max (v+(n:Int)) 0 else min v (n:Int))=((sIx n d (some v):Nat):Int):=by
 show(if v<0 then max (v+(n:Int)) 0 else min v (n:Int))=(((if v<0 then (v+(n:Int)).toNat else min v.toNat n):Nat):Int)
 by_cases hv:v<0
 . simp only[if_pos hv];omega
 . simp only[if_neg hv];omega
theorem KH(lo hi:Option Int)(n:Nat):Builtin.Slice.sliceAdjust lo hi 1 (n:Int)=(((sIx n 0 lo:Nat):Int),((sIx n n hi:Nat):Int)):=by
 have h1 : ¬((1:Int)<0):=by omega
 unfold Builtin.Slice.sliceAdjust;simp only[h1,if_false];refine YM ?_ ?_
 . cases lo with
   |none=>rfl
   |some v=>exact NF v n 0
 . cases hi with
   |none=>rfl
   |some v=>exact NF v n n
theorem IU(i j:Nat):Builtin.Slice.slicePlaces (i:Int) (j:Int) 1=j-i:=by
 unfold Builtin.Slice.slicePlaces;have h1:(1:Int)>0:=by omega
 simp only[h1,if_true,Int.ediv_one]
 split<;>omega
theorem sX{v:Value}{o:Option Int}{Q:Option Int->aC->Prop}(p:pX v o)(h:Q o s):aU (aM prog w) A (Builtin.Slice.slicePartIndex v) Q E s:=by
 cases p with
 |none=>exact slicePart_none h
 |int i t=>exact slicePart_int h
theorem mH{sl:aB}{vl vu:Value}{lo hi:Option Int}{n:Nat}{Q:Int×Int×Nat->aC->Prop}(hs:s.heap.IsSliceOf sl vl vu .none)(pl:pX vl lo)(pu:pX vu hi)(h:Q (((sIx n 0 lo:Nat):Int),1,sIx n n hi-sIx n 0 lo) s):aU (aM prog w) A (Builtin.Slice.sliceApplied (.ref sl) (pure (n:Int))) Q E s:=by
 obtain⟨os,hos,hcs,hds⟩:=id hs;unfold Builtin.Slice.sliceApplied Builtin.Slice.sliceFields;refine aA (aA (lP hos hds (x:=vl) rfl (aA (lP hos hds (x:=vu) rfl (aA (lP hos hds (x:=.none) rfl (aJ ?_)))))));refine aA (slicePart_none ?_);show aU _ _ (if ((1:Int)==0)=true then _ else _) _ _ s;rw[if_neg (by decide)];refine aA (sX pl (aA (sX pu (aA (aJ ?_)))));show aU _ _ (match Builtin.Slice.sliceAdjust lo hi 1 (n:Int) with | (lo,hi)=>pure (lo,(1:Int),Builtin.Slice.slicePlaces lo hi 1)) _ _ s;rw[KH lo hi n];show aU _ _ (pure (((sIx n 0 lo:Nat):Int),(1:Int),Builtin.Slice.slicePlaces ((sIx n 0 lo:Nat):Int) ((sIx n n hi:Nat):Int) 1)) _ _ s;rw[IU];exact aJ h
theorem UR(xs:Array Value)(i k:Nat):((List.range k).filterMap fun(m:Nat)=>xs[((i:Int)+(m:Int)*1).toNat]?).toArray=((xs.toList.drop i).take k).toArray:=by
 have e:(fun(m:Nat)=>xs[((i:Int)+(m:Int)*1).toNat]?)=fun m=>xs[i+m]?:=by
  funext m;have:((i:Int)+(m:Int)*1).toNat=i+m:=by omega
  rw[this]
 rw[e];have:=pick_run xs i k;rw[List.filterMap_map] at this;have e2:((fun x=>xs[x]?) ∘ fun x=>i+x)=fun m=>xs[i+m]?:=rfl;rw[e2] at this;rw[this]
theorem getItem_tuple_cut{t sl:aB}{items:Array Value}{vl vu:Value}{lo hi:Option Int}{Q:Value->aC->Prop}(ht:IsTup s.heap t items)(hs:s.heap.IsSliceOf sl vl vu .none)(pl:pX vl lo)(pu:pX vu hi)(hw : ¬(sIx items.size 0 lo=0/\sIx items.size items.size hi=items.size))(h:Q (.ref s.heap.objs.size) { s with heap:=s.heap.push { cls:=.type "tuple",data:=.seq ((items.toList.drop (sIx items.size 0 lo)).take (sIx items.size items.size hi-sIx items.size 0 lo)).toArray } })(hsz:items.size<=sizeLine):aU (aM prog w) A (uE (.ref t) (.ref sl)) Q E s:=by
 have htake:sizeOk (.seq ((items.toList.drop (sIx items.size 0 lo)).take (sIx items.size items.size hi-sIx items.size 0 lo)).toArray):=by
  show((items.toList.drop (sIx items.size 0 lo)).take (sIx items.size items.size hi-sIx items.size 0 lo)).toArray.size<=sizeLine;rw[bB,dS,gL,bC];omega
 have hj:sIx items.size items.size hi<=items.size:=sIx_le _ _ (aO _) hi;obtain⟨os,hos,hcs,hds⟩:=id hs;have hTs:s.TypeIs (.ref sl) "slice":=⟨os,hos,hcs⟩
 unfold uE
 try with_reducible refine cU ?_
 first | refine aA (aJ ?_) | skip
 refine aA (wpAny_sequenceKey ht.typeIs (by decide) ?_)
 refine aA (nU (name:=Str.ofString "__getitem__") ht.typeIs cY
  (fP cY ht.typeIs entry_tuple_getitem ?_ (args_tuple_getitem _ _)))
 show aU _ _ (Builtin.Tuple.tupleItemsOf (.ref t) >>= _) _ _ s;refine aA (tupleItemsOf_ ht ?_);refine aA (iV hTs ?_);rw[if_pos (by decide)];refine aA (mH hs pl pu ?_)
 have hno : ¬((((sIx items.size 0 lo:Nat):Int)==0&&(1:Int)==1&&(sIx items.size items.size hi-sIx items.size 0 lo)==items.size)=true):=by
  intro q;rw[cL,cL] at q;have q1:((sIx items.size 0 lo:Nat):Int)=0:=eq_of_beq q.1.1;have q2:sIx items.size items.size hi-sIx items.size 0 lo=items.size:=eq_of_beq q.2;exact hw ⟨by omega,by omega⟩
 show aU _ _ (if (((sIx items.size 0 lo:Nat):Int)==0&&(1:Int)==1&&(sIx items.size items.size hi-sIx items.size 0 lo)==items.size)=true then _ else _) _ _ s;rw[if_neg hno,UR]
 first
  |exact aA (m:=Builtin.Tuple.tupleExact _) (dC (aJ ⟨_,rfl,aJ h⟩) htake)
  |exact aA (m:=Builtin.Tuple.tupleExact _) (dC (aA (aJ (aJ ⟨_,rfl,aJ h⟩))) htake)
  |exact aA (aA (m:=Builtin.Tuple.tupleExact _) (dC (aJ (aJ ⟨_,rfl,aJ h⟩)) htake))
  |exact aA (aA (m:=Builtin.Tuple.tupleExact _) (dC (aJ ⟨_,rfl,aJ h⟩) htake))
end
end HT
namespace L2
open PySem PySem.Spec PyProof.Rows
abbrev TO:=St->Hp->(Option Int->Hp->Prop)->Prop
def PO(X:Cx)(e:Option Expr)(t:TO):Prop :=
 ∀(aD:List (aB×Obj)) (s:aC) (σ : St) (H:Hp) (Q:Option Int->Hp->Prop),Inv X aD σ H s->t σ H Q →
  aU (aM X.prog X.w) X.A (evalPart e X.env) (fun u s'=>∃o H',Inv X aD σ H' s'/\pX u o/\Q o H') X.xe s
def ZB:TO:=fun _ H Q=>Q none H
def tPart(t:TE):TO:=fun σ H Q=>t σ H fun x H1=>∃i,x=.int i/\Q (some i) H1
theorem JO{ns:List Int}:∀{us:List Value},Vals (ns.map V.int) us->eB us ns:=by
 induction ns with
 |nil=>intro us r;rw[dI] at r;cases r;exact .nil
 | cons n ns ih =>
   intro us r;rw[bO] at r;cases r with
   | cons r1 r2 =>
     obtain⟨t,e⟩:=r1;subst e;exact .cons n t (ih r2)
section
variable{X:Cx}{e:Expr}{te:TE}{lo hi:Option Expr}{tl th:TO}{pos p2:Pos}
theorem ZX:PO X none ZB:=by
 intro aD s σ H Q I h;rw[evalPart_none];exact aJ ⟨none,H,I,.none,h⟩
theorem ZW(h:PE X e te):PO X (some e) (tPart te):=by
 intro aD s σ H Q I hw;rw[evalPart_some];refine thn (h aD s σ H _ I hw) fun u s1 zq=>?_;obtain⟨x,H1,I1,r1,q1⟩:=zq;obtain⟨i,rfl,q⟩:=q1;obtain⟨t,rfl⟩:=r1;exact⟨some i,H1,I1,.int i t,q⟩
def SlR(X:Cx)(r:V->Option Int->Option Int->Hp->VK->Prop):Prop :=
 ∀(aD:List (aB×Obj)) (s:aC) (σ : St) (H:Hp) (x:V) (v vl vu:Value) (lo hi:Option Int) (sl:aB) (Q:VK),Inv X aD σ H s->RelV x v->s.heap.IsSliceOf sl vl vu .none->pX vl lo->pX vu hi->r x lo hi H Q →
  ∃T id,sK (.type T) "__getitem__" = pure (some (.builtin id))/\s.TypeIs v T/\aU (aM X.prog X.w) X.A (uE v (.ref sl)) (EP X aD σ Q) X.xe s
def tSl(r:V->Option Int->Option Int->Hp->VK->Prop)(te:TE)(tl th:TO):TE:=fun σ H Q=>te σ H fun x H1=>tl σ H1 fun l H2=>th σ H2 fun u H3=>r x l u H3 Q
theorem EU{r:V->Option Int->Option Int->Hp->VK->Prop}(hr:SlR X r)(he:PE X e te)(hl:PO X lo tl)(hu:PO X hi th):PE X (.Subscript e (.Slice lo hi none p2) pos) (tSl r te tl th):=by
 intro aD s σ H Q I h;refine Subscript_ (thn (he aD s σ H _ I h) fun v s1 zq=>?_);obtain⟨x,H1,I1,r1,q1⟩:=zq;refine wpAny_Slice (thn (hl aD s1 σ H1 _ I1 q1) fun vl s2 ⟨l,H2,I2,pl,q2⟩=>thn (hu aD s2 σ H2 _ I2 q2) fun vu s3 zq=>?_);obtain⟨u,H3,I3,pu,q3⟩:=zq;rw[evalPart_none];refine aJ ?_;have I4:Inv X aD σ H3 { s3 with heap:=s3.heap.push { cls:=.type "slice",data:=.fields #[vl,vu,.none] } }:=I3.kept (t':=s3.toks) fun b ob q=>aE _ q;obtain⟨T,id,hT,ht,hg⟩:=hr aD { s3 with heap:=s3.heap.push { cls:=.type "slice",data:=.fields #[vl,vu,.none] } } σ H3 x v vl vu l u s3.heap.objs.size Q I4 r1 (Heap.IsSliceOf.new ..) pl pu q3;show aU (aM X.prog X.w) X.A (subscriptTail e (.Slice lo hi none p2) v (.ref s3.heap.objs.size)) (EP X aD σ Q) X.xe { s3 with heap:=s3.heap.push { cls:=.type "slice",data:=.fields #[vl,vu,.none] } };exact tail_any (ops:=[.ref s3.heap.objs.size,v]) ht hT hg (by with_unfolding_all rfl)
noncomputable def cutV(xs:List V)(lo hi:Option Int):List V:=(xs.drop (HT.sIx xs.length 0 lo)).take (HT.sIx xs.length xs.length hi-HT.sIx xs.length 0 lo)
theorem rW(xs:List V)(lo hi:Option Int):(cutV xs lo hi).length<=xs.length:=by
 unfold cutV;rw[dS,gL];omega
def rSlT(K:aR):V->Option Int->Option Int->Hp->VK->Prop:=fun x lo hi H Q=>∃a xs,x=.ref a/\SqT K H a xs ∧
 ¬(HT.sIx xs.length 0 lo=0/\HT.sIx xs.length xs.length hi=xs.length)/\∀p,H p=none->Q (.ref p) (upd H p (.tup (cutV xs lo hi)))
theorem sl_tup:SlR X (rSlT X.K):=by
 intro aD s σ H x v vl vu lo hi sl Q I rx hs pl pu h;obtain⟨a,xs,rfl,hx,hw,q⟩:=h;cases rx;obtain⟨its,r,ht,hz⟩:=I.tuple hx;have hlen:its.toArray.size=xs.length:=by rw[bB];exact r.length.symm
 refine⟨"tuple",_,cY.lookup,ht.typeIs,?_⟩;refine HT.getItem_tuple_cut ht hs pl pu (by rw[hlen];exact hw) ?_ (by rw[hlen];exact hz);rw[hlen];refine⟨.ref s.heap.objs.size,_,I.laid (t':=s.toks) (o:=.tup (cutV xs lo hi)) (fun b ob q=>aE _ q) (aO _) ?_,rfl,q _ (I.hok.fresh (aO _))⟩;exact⟨cW (rW xs lo hi) hz,_,(r.drop (HT.sIx xs.length 0 lo)).take (HT.sIx xs.length xs.length hi-HT.sIx xs.length 0 lo),IsTup.new _ _⟩
end
theorem MN{n:Nat}{i:Int}{j:Nat}(h:ixN n i=some j):seqIndex? i n=some j/\j<n/\-(n:Int)<=i/\i<n:=by
 unfold ixN at h
 by_cases h0:0<=i
 . rw [if_pos h0] at h
   by_cases h1:i<n
   . rw[if_pos h1] at h;have e:i.toNat=j:=Option.some.inj h;exact⟨by rw[XX h0 h1,e],by omega,by omega,h1⟩
   . rw[if_neg h1] at h;cases h
 . rw [if_neg h0] at h
   by_cases h1 : -(n:Int)<=i
   . rw[if_pos h1] at h;have e:(i+n).toNat=j:=Option.some.inj h;exact⟨by rw[QZ (by omega) h1,e],by omega,h1,by omega⟩
   . rw[if_neg h1] at h;cases h
theorem DA{α : Type}{xs:List α}{i:Int}{v : α}(h:atI xs i=some v):∃j,seqIndex? i xs.length=some j/\xs[j]?=some v/\j<xs.length/\-(xs.length:Int)<=i/\i<xs.length:=by
 unfold atI at h;cases e:ixN xs.length i with
 |none=>rw[e] at h;cases h
 | some j =>
   rw[e] at h;obtain⟨h1,h2,h3,h4⟩:=MN e;exact⟨j,h1,h,h2,h3,h4⟩
def NK(b:Expr):Prop:=∀o i,subscripted b false o i=operate [o,i] (uE o i)
def IxR(X:Cx)(r:R2):Prop :=
 ∀(value slice:Expr) (aD:List (aB×Obj)) (s:aC) (σ : St) (H:Hp) (x y:V) (v u:Value) (Q:VK),Inv X aD σ H s->RelV x v->RelV y u->r x y H Q →
  subscripted slice false v u=operate [v,u] (uE v u)->aU (aM X.prog X.w) X.A (subscriptTail value slice v u) (EP X aD σ Q) X.xe s
def MtR(X:Cx)(id:String)(r:V->List V->Hp->VK->Prop):Prop :=
 ∀(aD:List (aB×Obj)) (s:aC) (σ : St) (H:Hp) (x:V) (xs:List V) (v:Value) (us:List Value) (Q:VK),Inv X aD σ H s->RelV x v->Vals xs us->r x xs H Q →
  aU (aM X.prog X.w) X.A (call (.builtin id) (v::us)) (EP X aD σ Q) X.xe s
section
variable{X:Cx}{a b:Expr}{ta tb:TE}{pos:Pos}
theorem IxR.or{r r':R2}(h:IxR X r)(h':IxR X r'):IxR X (fun x y H Q=>r x y H Q\/r' x y H Q):=by
 intro value slice aD s σ H x y v u Q I rx ry q hs;rcases q with q | q
 . exact h value slice aD s σ H x y v u Q I rx ry q hs
 . exact h' value slice aD s σ H x y v u Q I rx ry q hs
theorem pe_ix{r:R2}(hr:IxR X r)(ha:PE X a ta)(hb:PE X b tb)(hs:NK b):PE X (.Subscript a b pos) (tOp r ta tb):=by
 intro aD s σ H Q I h;exact Subscript_ (binT ha hb I h fun v u s2 x y H2 I2 rx ry q=>hr a b aD s2 σ H2 x y v u Q I2 rx ry q (hs _ _))
noncomputable def rIxL(K:aR):R2:=fun x y H Q=>∃p xs i v,x=.ref p/\y=.int i/\SqL K H p xs/\atI xs i=some v/\Q v H
noncomputable def rIxT(K:aR):R2:=fun x y H Q=>∃p xs i v,x=.ref p/\y=.int i/\SqT K H p xs/\atI xs i=some v/\Q v H
noncomputable def rIxS:R2:=fun x y H Q=>∃z i c,x=.str z/\y=.int i/\z.length<=sizeLine/\atI z.cps.toList i=some c/\Q (.str ⟨#[c]⟩) H
theorem ix_list:IxR X (rIxL X.K):=by
 intro value slice aD s σ H x y v u Q I rx ry h hs;obtain⟨p,xs,i,z,rfl,rfl,hq,he,q⟩:=h;cases rx;obtain⟨t,rfl⟩:=ry;obtain⟨its,r,pl,hz⟩:=I.list hq;obtain⟨j,h1,h2,h3,h4,h5⟩:=DA he;obtain⟨w,ew,rw'⟩:=r.get h2;have hl:=r.length;have hn:=pG;have fin:EP X aD σ Q w s:=⟨z,H,I,rw',q⟩
 by_cases h0:0<=i
 . have hj:i.toNat=j:=by
    rw[XX h0 h5] at h1;exact Option.some.inj h1
   exact item_listR pl.isList h0 (by omega) (by rw[hj];simpa using ew) fin hs
 . have hj:(i+(its.toArray.size:Int)).toNat=j:=by
    rw[QZ (by omega) h4] at h1;rw[bB,<- hl];exact Option.some.inj h1
   exact subscriptTail_builtinR (x:=w) pl.isList.typeIs slot_list_getitem.lookup
    (wpAny_getItem_list_neg (Q:=fun r s'=>r=w/\EP X aD σ Q r s') pl.isList (by omega) (by rw[bB]<;>omega) (by omega) (by rw[hj];simpa using ew) ⟨rfl,fin⟩) hs
theorem ix_tup:IxR X (rIxT X.K):=by
 intro value slice aD s σ H x y v u Q I rx ry h hs;obtain⟨p,xs,i,z,rfl,rfl,hq,he,q⟩:=h;cases rx;obtain⟨t,rfl⟩:=ry;obtain⟨its,r,pl,hz⟩:=I.tuple hq;obtain⟨j,h1,h2,h3,h4,h5⟩:=DA he;obtain⟨w,ew,rw'⟩:=r.get h2;have hl:=r.length;have hn:=pG;have fin:EP X aD σ Q w s:=⟨z,H,I,rw',q⟩
 exact subscriptTail_builtinR (x:=w) pl.typeIs slot_tuple_getitem.lookup
  (getItem_tuple (j:=j) (Q:=fun r s'=>r=w/\EP X aD σ Q r s') pl (by omega) (by omega) (by rw[bB,<- hl];exact h1) (by simpa using ew) ⟨rfl,fin⟩) hs
theorem ix_str:IxR X rIxS:=by
 intro value slice aD s σ H x y v u Q I rx ry h hs;obtain⟨z,i,c,rfl,rfl,hz,he,q⟩:=h;obtain⟨t,rfl⟩:=rx;obtain⟨t',rfl⟩:=ry;obtain⟨j,h1,h2,h3,h4,h5⟩:=DA he;have hl:z.cps.toList.length=z.length:=by simp[Str.length]
 rw[hl] at h1 h4 h5;have hn:=pG
 exact tail_any (typeIs_str s z t) slot_str_getitem.lookup (getItem_str (c:=c) (by
  have e1:decide (i < -(2 ^ 63:Int))=false:=decide_eq_false (by omega);have e2:decide (i≥2 ^ 63)=false:=decide_eq_false (by omega)
  rw[e1,e2,Bool.or_false]) (by rw[h1];simpa using h2) ⟨.str ⟨#[c]⟩,H,I.tok _,⟨_,rfl⟩,q⟩) hs
noncomputable def rIx(K:aR):R2:=fun x y H Q=>rIxL K x y H Q\/rIxT K x y H Q\/rIxS x y H Q
theorem ix_seq:IxR X (rIx X.K):=ix_list.or (ix_tup.or ix_str)
theorem JF(its:List Value)(n j:Nat)(u:Value):Obj.mapSeq (·.setIfInBounds j u) { cls:=.type "list",data:=.seq its.toArray n }={ cls:=.type "list",data:=.seq (its.set j u).toArray n }:=by
 simp[Obj.mapSeq]
theorem Inv.lst{aD:List (aB×Obj)}{σ : St}{H:Hp}{s:aC}{p:aB}{xs:List V}(I:Inv X aD σ H s)(h:H p=some (.lst xs)) :
  ∃(its:List Value) (n:Nat),Vals xs its/\s.heap.get? p=some { cls:=.type "list",data:=.seq its.toArray n }/\xs.length<=sizeLine:=by
 obtain⟨z,its,n,r,e⟩:=I.hok p _ h;exact⟨its,n,r,e,z⟩
theorem Inv.lstUpd{aD:List (aB×Obj)}{σ : St}{H:Hp}{s:aC}{p:aB}{xs ys:List V}{its its':List Value}{n n':Nat}{f:Obj->Obj}(I:Inv X aD σ H s)(h:H p=some (.lst xs))(ho:s.heap.get? p=some { cls:=.type "list",data:=.seq its.toArray n })(hf:f { cls:=.type "list",data:=.seq its.toArray n }={ cls:=.type "list",data:=.seq its'.toArray n' })(r:Vals ys its')(hz:ys.length<=sizeLine)(t:Nat) :
  Inv X aD σ (upd H p (.lst ys)) { s with heap:=s.heap.update p f,toks:=t }:=by
 have e:(s.heap.update p f).get? p=some { cls:=.type "list",data:=.seq its'.toArray n' }:=by
  rw[cC f ho (by rw[hf]<;>rfl),hf]
 refine I.write (x:=p) (e:=p) (by rw[h];trivial) (.inl rfl) (fun b u hb q=>(bG _ _ (Ne.symm hb)).trans q) ⟨_,e⟩ ?_;exact⟨hz,its',n',r,e⟩
def rSetL:V->V->V->Hp->(Hp->Prop)->Prop:=fun o i v H Q=>∃p xs k j,o=.ref p/\i=.int k/\H p=some (.lst xs)/\ixN xs.length k=some j/\Q (upd H p (.lst (xs.set j v)))
theorem TU:PSet X rSetL:=by
 intro aD s σ H o i v ov iv u Q I ro ri rv h;obtain⟨p,xs,k,j,rfl,rfl,hp,hj,q⟩:=h;cases ro;obtain⟨t,rfl⟩:=ri;obtain⟨its,n,r,ho,hz⟩:=I.lst hp;obtain⟨h1,h2,h3,h4⟩:=MN hj;have hl:=r.length;have hn:=pG
 have I':Inv X aD σ (upd H p (.lst (xs.set j v))) { s with heap:=s.heap.update p (Obj.mapSeq (·.setIfInBounds j u)) }:=
  I.lstUpd hp ho (JF its n j u) (r.set rv j) (by rw[List.length_set];exact hz) s.toks
 by_cases h0:0<=k
 . have hk:k.toNat=j:=by
    rw[XX h0 h4] at h1;exact Option.some.inj h1
   exact PySem.W.ki_setAt ho h0 (by omega) (by rw[bB,<- hl];exact h4) (by rw[hk];exact⟨_,I',q⟩)
 . have hk:(k+(its.toArray.size:Int)).toNat=j:=by
    rw[QZ (by omega) h3] at h1;rw[bB,<- hl];exact Option.some.inj h1
   exact PySem.W.ki_setBack ho (by omega) (by rw[bB,<- hl];exact h3) (by omega) (by rw[hk];exact⟨_,I',q⟩)
theorem BU(lo hi:Option Int)(n:Nat):(lQ lo hi none n).1=((HT.sIx n 0 lo:Nat):Int)/\(lQ lo hi none n).2.1=((HT.sIx n n hi:Nat):Int)/\(lQ lo hi none n).2.2=1:=by
 refine⟨?_,?_,rfl⟩
 . cases lo with
   |none=>simp[lQ,HT.sIx]
   | some i =>
     simp only[lQ,HT.sIx,NU,show(1:Int)>0 by decide,if_true]
     by_cases h:i<0
     . simp only[h,if_true]<;>omega
     . simp only[h,if_false]<;>omega
 . cases hi with
   |none=>simp[lQ,HT.sIx]
   | some i =>
     simp only[lQ,HT.sIx,NU,show(1:Int)>0 by decide,if_true]
     by_cases h:i<0
     . simp only[h,if_true]<;>omega
     . simp only[h,if_false]<;>omega
theorem uO(its:List Value)(lo hi:Option Int):slicePick its.toArray lo hi none=((its.drop (HT.sIx its.length 0 lo)).take (HT.sIx its.length its.length hi-HT.sIx its.length 0 lo)).toArray:=by
 obtain⟨h1,h2,h3⟩:=BU lo hi its.toArray.size;unfold slicePick;rw[h1,h2,h3];simp only[sliceRange_one,pick_run,bB]<;>rfl
def rSlL(K:aR):V->Option Int->Option Int->Hp->VK->Prop:=fun x lo hi H Q=>∃a xs,x=.ref a/\SqL K H a xs/\∀p,H p=none->Q (.ref p) (upd H p (.lst (cutV xs lo hi)))
theorem ZD:SlR X (rSlL X.K):=by
 intro aD s σ H x v vl vu lo hi sl Q I rx hs pl pu h;obtain⟨a,xs,rfl,hx,q⟩:=h;cases rx;obtain⟨its,r,ht,hz⟩:=I.list hx;have hlen:=r.length;refine⟨"list",_,slot_list_getitem.lookup,ht.isList.typeIs,?_⟩;refine wpAny_getItem_list_slice ht.isList hs pl pu .none (by simp) ?_ (by rw[bB]<;>omega);rw[uO,<- hlen];refine⟨.ref s.heap.objs.size,_,I.laid (t':=s.toks) (o:=.lst (cutV xs lo hi)) (fun b ob q=>aE _ q) (aO _) ?_,rfl,q _ (I.hok.fresh (aO _))⟩;exact⟨cW (rW xs lo hi) hz,_,0,(r.drop (HT.sIx xs.length 0 lo)).take (HT.sIx xs.length xs.length hi-HT.sIx xs.length 0 lo),aX _ rfl⟩
theorem CY:CallR X (.builtin "len") (fun xs H Q=>∃p ys,xs=[.ref p]/\(SqL X.K H p ys\/SqT X.K H p ys)/\Q (.int ys.length) H):=by
 intro aD s σ H xs us Q I r h;obtain⟨p,ys,rfl,hq,q⟩:=h;obtain⟨u,rfl,rx⟩:=vals1 r;cases rx;have hn:=pG;rcases hq with hq | hq
 . obtain⟨its, r', pl, hz⟩ := I.list hq;have hlen:=r'.length;exact Calls.call_len_list pl.isList (by simp only[bB]<;>omega) ⟨.int ys.length,H,I.tok _,⟨s.toks+1,by rw[bB,hlen]⟩,q⟩
 . obtain⟨its, r', pl, hz⟩ := I.tuple hq;have hlen:=r'.length;exact len_tuple pl (by simp only[bB]<;>omega) ⟨.int ys.length,H,I.tok _,⟨s.toks+1,by rw[bB,hlen]⟩,q⟩
theorem CW:CallR X (.builtin "len") (fun xs H Q=>∃z,xs=[.str z]/\z.length<=sizeLine/\Q (.int z.length) H):=by
 intro aD s σ H xs us Q I r h;obtain⟨z,rfl,hz,q⟩:=h;obtain⟨u,rfl,t,rfl⟩:=vals1 r;have hn:=pG;exact len_str (by omega) ⟨.int z.length,H,I.tok _,⟨_,rfl⟩,q⟩
theorem CallR.or{f:Value}{r r':List V->Hp->VK->Prop}(h:CallR X f r)(h':CallR X f r'):CallR X f (fun xs H Q=>r xs H Q\/r' xs H Q):=by
 intro aD s σ H xs us Q I rs q;rcases q with q | q
 . exact h aD s σ H xs us Q I rs q
 . exact h' aD s σ H xs us Q I rs q
theorem CV:CallR X (.type "list") (fun xs H Q=>∃p ys,xs=[.ref p]/\(SqL X.K H p ys\/SqT X.K H p ys)/\∀l,H l=none->Q (.ref l) (upd H l (.lst ys))):=by
 intro aD s σ H xs us Q I r h;obtain⟨p,ys,rfl,hq,q⟩:=h;obtain⟨u,rfl,rx⟩:=vals1 r;cases rx
 have fin:∀(its:List Value),Vals ys its->ys.length<=sizeLine->∀(h':Heap) (c':Nat),(∀b o',s.heap.get? b=some o'->h'.get? b=some o') →
   h'.get? s.heap.objs.size=some { cls:=.type "list",dict:=none,data:=.seq its.toArray c',slots:=#[] }->EP X aD σ Q (.ref s.heap.objs.size) { s with heap:=h' }:=fun its r' hz h' c' kp e =>
  ⟨.ref s.heap.objs.size,_,I.laid (t':=s.toks) kp (aO _) (show ObjOk X.prog X.w _ h' _ (.lst ys) from ⟨hz,its,c',r',e⟩),rfl,q _ (I.hok.fresh (aO _))⟩
 rcases hq with hq | hq
 . obtain⟨its, r', pl, hz⟩ := I.list hq;have hlen:=r'.length;obtain⟨o,ho,hc,n,hd⟩:=pl.isList;exact call_list_seq p (.inl rfl) ho hc hd (fun h' c' kp e=>fin its r' hz h' c' kp e) (by simp only[bB]<;>omega)
 . obtain⟨its, r', pl, hz⟩ := I.tuple hq;have hlen:=r'.length;obtain⟨o,ho,hc,n,hd⟩:=pl;exact call_list_seq p (.inr rfl) ho hc hd (fun h' c' kp e=>fin its r' hz h' c' kp e) (by simp only[bB]<;>omega)
def tyV(K:aR)(T:String)(x:V)(H:Hp):Prop:=match x with
 | .str _=>T = "str"
 | .int _=>T = "int"
 | .ref p=>(T = "list"/\∃xs,SqL K H p xs)\/(T = "tuple"/\∃o,K.lookup p=some o/\o.cls=.type "tuple"/\o.dict=none) ∨
    (T = "dict"/\((∃kvs,H p=some (.dK kvs))\/∃kvs,H p=some (.dT kvs)))\/(T = "set"/\∃S n,H p=some (.set S n))
 |_=>False
theorem TD{aD:List (aB×Obj)}{σ : St}{H:Hp}{s:aC}{T:String}{x:V}{v:Value}(I:Inv X aD σ H s)(r:RelV x v)(ty:tyV X.K T x H) :
  s.TypeIs v T/\∀a,v=.ref a->∃ob,s.heap.get? a=some ob/\ob.dict=none:=by
 cases x with
 | str z =>
   obtain⟨t,rfl⟩:=r;cases(show T = "str" from ty);exact⟨typeIs_str s z t,fun _ e=>nomatch e⟩
 | int i =>
   obtain⟨t,rfl⟩:=r;cases(show T = "int" from ty);exact⟨typeIs_int s i t,fun _ e=>nomatch e⟩
 | ref p =>
   cases r;rcases ty with⟨rfl,xs,hq⟩ | ⟨rfl,o,hk,hc,hd⟩ | ⟨rfl,hk⟩ | ⟨rfl,S,n,hk⟩
   . obtain⟨its, _, pl, _⟩ := I.list hq;refine⟨pl.isList.typeIs,fun a e=>?_⟩;cases e;obtain⟨o,n,e,c,hd,_⟩:=pl;exact⟨o,e,hd⟩
   . refine⟨⟨o, I.kIn p o hk, hc⟩, fun a e => ?_⟩;cases e;exact⟨o,I.kIn _ o hk,hd⟩
   . have z:∃o,s.heap.get? p=some o/\o.ExactDict:=by
      rcases hk with⟨kvs,hk⟩ | ⟨kvs,hk⟩
      . obtain⟨_, _, _, _, o, _, _, e, ex, _⟩ := I.hok p _ hk;exact⟨o,e,ex⟩
      . obtain⟨_, _, _, _, o, _, _, e, ex, _⟩ := I.hok p _ hk;exact⟨o,e,ex⟩
     obtain⟨o,e,ex⟩:=z;refine⟨⟨o,e,ex.1⟩,fun a e2=>?_⟩;cases e2;exact⟨o,e,ex.2.1⟩
   . obtain⟨o, _, _, _, e, ex, _⟩ := I.hok p _ hk;refine⟨⟨o,e,ex.1⟩,fun a e2=>?_⟩;cases e2;exact⟨o,e,ex.2.1⟩
 |_=>exact False.elim ty
def tBM0(K:aR)(T:String)(r:V->List V->Hp->VK->Prop)(to:TE):TE:=fun σ H Q=>to σ H fun x H1=>tyV K T x H1/\r x [] H1 Q
def tBM(K:aR)(T:String)(r:V->List V->Hp->VK->Prop)(to:TE)(t:TA):TE:=fun σ H Q=>to σ H fun x H1=>tyV K T x H1/\t σ H1 fun xs H2=>r x xs H2 Q
variable{o e:Expr}{es:List Expr}{to:TE}{t:TA}{name:Str}{apos cpos:Pos}{T id:String}{r:V->List V->Hp->VK->Prop}
theorem pe_bm0(pa:PlainAttrs T)(slot:Slot T name id)(hty:typeOf (.builtin id)=pure (.type "method_descriptor"))(hm:MtR X id r)(ho:PE X o to)(hbase:lL o name X.env (cM o X.env)=cM o X.env:=by rfl)(hline:(apos.endLine==cpos.line)=true:=by rfl):PE X (.Call (.Attribute o name apos) [] [] cpos) (tBM0 X.K T r to):=by
 intro aD s σ H Q I h;refine wpAny_Call_method0_late hbase hline (thn (ho aD s σ H _ I h) fun v s1 zq=>?_);obtain⟨x,H1,I1,r1,ty,q1⟩:=zq;obtain⟨h1,h2⟩:=TD I1 r1 ty;exact⟨T,id,pa,slot,hty,h1,h2,Calls.callWith_builtin rfl (PySem.evalArgs_none (hm aD s1 σ H1 x [] v [] Q I1 r1 .nil q1))⟩
theorem pe_bm(pa:PlainAttrs T)(slot:Slot T name id)(hty:typeOf (.builtin id)=pure (.type "method_descriptor"))(hm:MtR X id r)(ho:PE X o to)(ha:PA X (e::es) t)(hbase:lL o name X.env (cM o X.env)=cM o X.env:=by rfl)(hfew:((eF cpos (aL (e::es) X.env)).all (fun x=>!x.1)&&(backToKw cpos (keywordEach [] X.env)).all (fun x=>x.1.isSome)
    && decide ((e::es).length+([]:List RH).length+(if ([]:List RH).isEmpty then 0 else 1)<30))=true:=by rfl)(hline:(apos.endLine==cpos.line)=true:=by rfl)(hs:aL (e::es) X.env=(false,cM e X.env)::aL es X.env:=by rfl)(hplain:(eF cpos (aL es X.env)).any (·.1)=false:=by rfl) :
  PE X (.Call (.Attribute o name apos) (e::es) [] cpos) (tBM X.K T r to t):=by
 intro aD s σ H Q I h;refine wpAny_Call_method_late hbase hfew hline rfl (thn (ho aD s σ H _ I h) fun v s1 zq=>?_);obtain⟨x,H1,I1,r1,ty,q1⟩:=zq;obtain⟨h1,h2⟩:=TD I1 r1 ty;refine⟨T,id,pa,slot,hty,h1,h2,?_⟩;have hA:=ha cpos aD s1 σ H1 _ I1 q1;rw[hs] at hA ⊢;refine Calls.callWith_builtin (by show(false||(eF cpos (aL es X.env)).any (·.1))=false;rw[hplain]<;>rfl) (Calls.evalArgs_plain ?_);exact thn hA fun us s2 ⟨vs,H2,I2,r2,q2⟩=>hm aD s2 σ H2 x vs v us Q I2 r1 r2 q2
/- xs.append(e),list.index on a module's tuple .. are MtR facts of 06m -/
end
def MtM(X:Cx)(id:String)(r:V->List V->Hp->VK->Prop):Prop :=
 ∀(aD:List (aB×Obj)) (s:aC) (σ : St) (H:Hp) (x:V) (xs:List V) (v:Value) (us:List Value) (Q:VK),Inv X aD σ H s->RelV x v->Vals xs us->r x xs H Q →
  aU (aM X.prog X.w) X.A (call (.builtin id) (v::us)) (EP X aD σ Q) X.xe s
theorem Vals.one:∀{x:V} {us:List Value},Vals [x] us->∃u,us=[u]/\RelV x u
 |_,_,.cons r .nil=>⟨_,rfl,r⟩
theorem Vals.zero:∀{us:List Value},Vals [] us->us=[]
 |_,.nil=>rfl
theorem Vals.reverse{xs:List V}{us:List Value}(h:Vals xs us):Vals xs.reverse us.reverse:=by
 induction h with
 |nil=>exact .nil
 |cons r t ih=>rw[mC,mC];exact Vals.append ih (.cons r .nil)
section
variable{X:Cx}{aD:List (aB×Obj)}{σ : St}{H:Hp}{s:aC}{l b:aB}{xs ys zs:List V}
theorem Inv.lset{its its':List Value}{n:Nat}{f:Array Value->Array Value}{t':Nat}(I:Inv X aD σ H s)(hH:H l=some (.lst xs))(e:s.heap.get? l=some { cls:=.type "list",data:=.seq its.toArray n })(hf:f its.toArray=its'.toArray)(hv:Vals ys its')(hz:ys.length<=sizeLine) :
  Inv X aD σ (upd H l (.lst ys)) { s with heap:=s.heap.update l (Obj.mapSeq f),toks:=t' }:=by
 have q:=PySem.IsL.update e f;rw[hf] at q;refine I.write (x:=l) (e:=l) (by rw[hH];exact trivial) (.inl rfl) (fun b' u hb hu=>(bG s.heap (Obj.mapSeq f) (Ne.symm hb)).trans hu) ⟨_,q⟩ ?_;exact⟨hz,its',_,hv,q⟩
theorem Inv.fresh(I:Inv X aD σ H s):H s.heap.objs.size=none:=I.hok.fresh (aO _)
theorem Inv.lstM(I:Inv X aD σ H s)(hH:H l=some (.lst xs)):xs.length<=sizeLine/\∃(its:List Value) (n:Nat),Vals xs its/\xs.length=its.length/\s.heap.get? l=some { cls:=.type "list",data:=.seq its.toArray n }:=by
 obtain⟨z,its,n,r,e⟩:=I.hok l _ hH;exact⟨z,its,n,r,r.length,e⟩
end
section
variable{X:Cx}
def ZJ:V->List V->Hp->VK->Prop:=fun x vs H Q=>∃l xs y,x=.ref l/\vs=[y]/\H l=some (.lst xs)/\xs.length<sizeLine/\Q .non (upd H l (.lst (xs++[y])))
theorem PM:MtM X "list.append" ZJ:=by
 intro aD s σ H x vs v us Q I rx rv h;obtain⟨l,xs,y,rfl,rfl,hH,hz,q⟩:=h;cases rx;obtain⟨u,rfl,ru⟩:=rv.one;obtain⟨z,its,n,r,hl,e⟩:=I.lstM hH;refine call_meets F.slot_list_append ⟨_,e,rfl⟩ F.entry_list_append (F.args_list_append_2 _ _) (PySem.list_append l its.toArray n u (by rw[bB];omega)) ⟨e,?_⟩;refine⟨.non,_,I.lset (its':=its++[u]) hH e (by simp) (r.append (.cons ru .nil)) ?_,rfl,q⟩;rw[cV,nL];omega
def rClear:V->List V->Hp->VK->Prop:=fun x vs H Q=>∃l xs,x=.ref l/\vs=[]/\H l=some (.lst xs)/\Q .non (upd H l (.lst []))
theorem VQ:MtM X "list.clear" rClear:=by
 intro aD s σ H x vs v us Q I rx rv h;obtain⟨l,xs,rfl,rfl,hH,q⟩:=h;cases rx;have hus:=rv.zero;subst hus;obtain⟨z,its,n,r,hl,e⟩:=I.lstM hH;refine call_meets F.slot_list_clear ⟨_,e,rfl⟩ F.entry_list_clear (F.args_list_clear_1 _) (AutoSeq1.list_clear_list_0 l its.toArray n (by rw[bB];omega)) ⟨e,?_⟩;exact⟨.non,_,I.lset (its':=[]) (ys:=[]) hH e rfl .nil (bW _),rfl,q⟩
end
section
variable{prog:aY}{w:bS}{A:bR}{E:Value->aC->Prop}{s:aC}
end
section
variable{X:Cx}
end
section
variable{κ : Type}[DecidableEq κ]
noncomputable def valV(kvs:List (κ×V))(k : κ):Option V:=(kvs.find? fun kv=>decide (kv.1=k)).map (·.2)
noncomputable def putK(kvs:List (κ×V))(k : κ)(v:V):List (κ×V):=
 if (kvs.any fun kv=>decide (kv.1=k))=true then kvs.map (fun kv=>if kv.1=k then (kv.1,v) else kv) else kvs++[(k,v)]
theorem DT{p : κ×V}{r:List (κ×V)}{k : κ}(e:p.1=k):valV (p::r) k=some p.2:=by simp[valV,cR,e]
theorem DU{p : κ×V}{r:List (κ×V)}{k : κ}(e : ¬p.1=k):valV (p::r) k=valV r k:=by simp[valV,cR,e]
theorem RelO.getD{o:Option V}{u:Option Value}{d:V}{d':Value}(r:RelO o u)(rd:RelV d d'):RelV (o.getD d) (u.getD d'):=by
 cases o with
 | none => cases u with
   |none=>exact rd
   |some _=>exact(show False from r).elim
 | some _ => cases u with
   |none=>exact(show False from r).elim
   |some _=>exact r
theorem KV.val{kvs:List (κ×V)}{vs:List (κ×Value)}(r:KV kvs vs)(k : κ):RelO (valV kvs k) (DI vs k):=by
 unfold KV at r
 induction r with
 |nil=>exact True.intro
 | @cons p q ps qs h t ih =>
   obtain⟨h1,h2⟩:=h
   by_cases e:p.1=k
   . have e' : q.1 = k := h1.symm.trans e;have b:DI (q::qs) k=some q.2:=by simp [DI,cR,e']
     rw[DT e,b];exact h2
   . have e' : ¬ q.1 = k := fun z => e (h1.trans z);have b:DI (q::qs) k=DI qs k:=by simp [DI,cR,e']
     rw[DU e,b];exact ih
theorem KV.any{kvs:List (κ×V)}{vs:List (κ×Value)}(r:KV kvs vs)(k : κ):(kvs.any fun kv=>decide (kv.1=k))=vs.any fun kv=>decide (kv.1=k):=by
 unfold KV at r
 induction r with
 |nil=>rfl
 |cons h t ih=>rw[BQ,BQ,ih,h.1]
theorem KV.length{kvs:List (κ×V)}{vs:List (κ×Value)}(r:KV kvs vs):kvs.length=vs.length:=uZ.length r
end
abbrev KT(H:Hp):List (List Key×V)->List (List Key×aB×Value)->Prop:=uZ fun p q=>p.1=q.1/\H q.2.1=some (.tup (p.1.map kV))/\RelV p.2 q.2.2
theorem KT.val{H:Hp}{kvs:List (List Key×V)}{xs:List (List Key×aB×Value)}(r:KT H kvs xs)(k:List Key):RelO (valV kvs k) ((atKey xs k).map (·.2)):=by
 induction r with
 |nil=>exact True.intro
 | @cons p q ps qs h t ih =>
   obtain⟨h1,_,h2⟩:=h
   by_cases e:p.1=k
   . have e' : q.1 = k := h1.symm.trans e;have b:atKey (q::qs) k=some q.2:=by simp [atKey,cR,e']
     rw[DT e,b];exact h2
   . have e' : ¬ q.1 = k := fun z => e (h1.trans z);have b:atKey (q::qs) k=atKey qs k:=by simp [atKey,cR,e']
     rw[DU e,b];exact ih
section
variable{P:aY}{w:bS}{H:Hp}{h:Heap}{a:aB}
end
def DGet(H:Hp)(a:aB)(y:V)(r:Option V):Prop :=
 (∃kvs k,Rd H a (.dK kvs)/\y=kV k/\r=valV kvs k)\/∃kvs k b,Rd H a (.dT kvs)/\y=.ref b/\H b=some (.tup (k.map kV))/\r=valV kvs k
def DPut(H:Hp)(a:aB)(y v:V)(H':Hp):Prop :=
 (∃kvs k,H a=some (.dK kvs)/\y=kV k/\kvs.length<sizeLine/\H'=upd H a (.dK (putK kvs k v))) ∨
 ∃kvs k b,H a=some (.dT kvs)/\y=.ref b/\H b=some (.tup (k.map kV))/\kvs.length<sizeLine/\H'=upd H a (.dT (putK kvs k v))
theorem DGet.k{H:Hp}{a:aB}{kvs:List (Key×V)}{k:Key}(e:H a=some (.dK kvs)):DGet H a (kV k) (valV kvs k):=.inl ⟨kvs,k,.inl e,rfl,rfl⟩
theorem DGet.t{H:Hp}{a b:aB}{kvs:List (List Key×V)}{k:List Key}(e:H a=some (.dT kvs))(eb:H b=some (.tup (k.map kV))):DGet H a (.ref b) (valV kvs k):=.inr ⟨kvs,k,b,.inl e,rfl,eb,rfl⟩
theorem DPut.k{H:Hp}{a:aB}{kvs:List (Key×V)}{k:Key}{v:V}(e:H a=some (.dK kvs))(hl:kvs.length<sizeLine):DPut H a (kV k) v (upd H a (.dK (putK kvs k v))):=.inl ⟨kvs,k,e,rfl,hl,rfl⟩
theorem DPut.t{H:Hp}{a b:aB}{kvs:List (List Key×V)}{k:List Key}{v:V}(e:H a=some (.dT kvs))(eb:H b=some (.tup (k.map kV)))(hl:kvs.length<sizeLine) :
  DPut H a (.ref b) v (upd H a (.dT (putK kvs k v))):=.inr ⟨kvs,k,b,e,rfl,eb,hl,rfl⟩
section
variable{X:Cx}{aD:List (aB×Obj)}{σ : St}{H:Hp}{s:aC}{a:aB}{y v:V}{u r:Value}{o:Option V}{A:bR}{E:Value->aC->Prop}
end
section
variable{X:Cx}{aD:List (aB×Obj)}{σ : St}{H:Hp}{s:aC}{a:aB}{kvs:List (Key×V)}{k:Key}{u:Value}{A:bR}{E:Value->aC->Prop}
end
section
variable{X:Cx}{o i e value:Expr}{pos pos' tpos:Pos}{td ty tv:TE}
end
section
variable{X:Cx}{pos:Pos}
end
section
variable{X:Cx}{aD:List (aB×Obj)}{σ : St}{H:Hp}{s:aC}{a:aB}{y d:V}{u r:Value}{o:Option V}{A:bR}{E:Value->aC->Prop}
end
section
variable{X:Cx}{o e f:Expr}{apos cpos:Pos}{td ty tx:TE}
end
section
variable{X:Cx}{aD:List (aB×Obj)}{σ : St}{H:Hp}{s:aC}{a:aB}{kvs:List (Key×V)}{A:bR}{E:Value->aC->Prop}
end
section
variable{X:Cx}{aD:List (aB×Obj)}{σ : St}{H:Hp}{s:aC}{a:aB}{y:V}{u:Value}{A:bR}{E:Value->aC->Prop}
end
end L2
namespace Att
open PySem PySem.W PySem.Calls PyProof.Rows
theorem sB{P:Params}{h:Heap}:∀(ns:List Int) (vs:List Value),WellAll P h vs (ns.map WData.int)->eB vs ns:=by
 intro ns
 induction ns with
 | nil =>
   intro vs w;rw[dI] at w;cases w;exact .nil
 | cons n ns ih =>
   intro vs w;rw[bO] at w;cases w with
   | cons a b =>
     cases a;exact .cons _ _ (ih _ b)
theorem OJ{l:OpenLaw}{n:Nat}(hn:l.most=some n){P:Params}{h:Heap}{args:List WData}{vals:List Value}(hpre:l.row.toRowW.claim.pre args=true)(hwl:WellAll P h vals args) :
  ∃a vs ns,vals=[Value.ref a]/\args=[WData.list (ns.map WData.int)]/\h.get? a=some { cls:=.type "list",data:=.seq vs.toArray }/\eB vs ns/\ns.length<=n:=by
 have hsh:WShape.hasAll [] args [.list .int]=true:=(pre_splitW hpre).1;have hc:l.pre.holds [] { args:=args }=true:=(pre_splitW hpre).2;obtain⟨d,r,rfl,h1,h2⟩:=hasAllW_cons hsh;obtain rfl:=hasAllW_nil h2;obtain⟨xs,rfl,h3⟩:=hasW_list h1;obtain⟨ns,rfl⟩:=items_int h3
 have hlen:ns.length<=n:=by
  unfold OpenLaw.pre at hc
  have h4:(WTm.not (.lt (.lit (.int (n:Int))) (.len (.arg 0)))).holds [] { args:=[.list (ns.map .int)] }=true:=by
   have h4:=(holds_andW hc).1;rw[hn] at h4;exact h4
  have h5:=condW_of h4 (w_not (w_lt w_lit (w_len_list (w_arg rfl))));rw[cH] at h5;refine Nat.le_of_not_lt fun q=>?_;have q':(n:Int)<((ns.length:Nat):Int):=by omega
  first
   |(rw[decide_eq_true q'] at h5;exact absurd h5 (by decide))
   |(simp at h5;omega)
 cases hwl with
 | cons w1 w2 =>
   cases w2;cases w1 with
   |list ho hall=>exact⟨_,_,ns,rfl,rfl,ho,sB ns _ hall,hlen⟩
theorem OU(l:OpenLaw)(args:List WData):l.row.toRowW.claim.post args (.bool true) args=true :=
 postW_of (r:=l.row.toRowW) (X:=(true==true))
  (show WShape.has [] (.bool true) .bool=true by first | rfl | decide | simp[WShape.has,WShape.arms,WShape.armsAll])
  (show(WTm.eq .res (.lit (.bool true))).value [] { args:=args,res:=some (.bool true),after:=args }=some (.bool (true==true)) from w_eq_bool (w_res rfl) w_lit) rfl
section
variable{prog:aY}{w:bS}{A:bR}{E:Value->aC->Prop}{s:aC}{K:Frag}
end
end Att
namespace L2
open PySem PySem.Spec PyProof.Rows
theorem AF:∀{vs:List Value} {ns:List Int},eB vs ns->Vals (ns.map V.int) vs
 |_,_,.nil=>.nil
 |_,_,.cons n t h=>.cons ⟨t,rfl⟩ (AF h)
noncomputable def inClass(s:Stmt)(j:Nat):Stmt:=match s with
 | .ClassDef _ _ _ body _ _ _ _ _ _ _=>body.getD j (.Pass ⟨0,0,0,0⟩)
 |_=>.Pass ⟨0,0,0,0⟩
noncomputable def yK(s:Stmt):Arguments:=match s with
 | .FunctionDef _ a _ _ _ _ _ _ _ _=>a
 |_=>{ posonlyargs:=[],args:=[],vararg:=none,kwonlyargs:=[],kw_defaults:=[],kwarg:=none,defaults:=[] }
noncomputable def jH(s:Stmt):List Stmt:=match s with
 | .FunctionDef _ _ b _ _ _ _ _ _ _=>b
 |_=>[]
noncomputable def zK(s:Stmt):Scope:=match s with
 | .FunctionDef _ _ _ _ _ _ sc _ _ _=>sc
 |_=>{ kind:=.function,names:=[],isGenerator:=false,isCoroutine:=false }
abbrev CX0:CXT:=fun _ _ _ _ _ _=>False
abbrev E0:XK:=fun _ _ _=>False
theorem pass0{X:Cx}: KJ CX0 X E0:=fun _ _ _ _ _ _ _ h=>h.elim
structure Fun(K:aR)(x qual:Str)(st:Stmt)(f:aB)(fd:bQ):Prop where
 ex:∃(oc:Value) (od:Option aB) (kV doc pm:Value) (an:Option aB) (cdv ct:Value) (osl:Array (Option Value)),
  fd=eC x qual (yK st) (jH st) (zK st) .none kV doc pm an cdv ct/\K.lookup f=some ⟨oc,od,.func fd,osl⟩/\eZ K cdv qual=true
 kp:cP K (.ref f)=true
section
variable{P:aY}{w:bS}{K:aR}{mg:Str->Option Value}{base:Heap}
theorem Fun.ok{x qual:Str}{st:Stmt}{f:aB}{fd:bQ}{N ps:List Str}{k:Nat}{sp:Sp}(F:Fun K x qual st f fd)(S:FnScope N ps (zK st))(len:∀vs H Q E,sp vs H Q E->vs.length=ps.length)(hbody:∀(cdv:Value) (A:bR) (outer:List Env) (s:aC) (H:Hp) (vs:List V) (Q:VK) (E:XK),Room k (A.deeper (iX qual (zK st) s.heap.objs.size f cdv))->sp vs H Q E →
    ∃t,PSs (cxOf CX0 P w K mg base N qual (zK st) f cdv A outer s H E).nox (jH st) t/\t { nx:=fun _ H'=>Q .non H',rt:=Q } (start N vs) H):FnOk P w K mg base CX0 (k+1) f fd ps sp:=by
 obtain⟨oc,od,kV,doc,pm,an,cdv,ct,osl,rfl,lk,hcd⟩:=F.ex;refine fn_of lk hcd S len fun A outer s H vs Q E hr hsp=>?_;obtain⟨t,h,q⟩:=hbody cdv A outer s H vs Q E hr hsp;exact⟨t,h.nox,q⟩
theorem Fun.binds{x qual:Str}{st:Stmt}{f:aB}{fd:bQ}{ps:List Str}(F:Fun K x qual st f fd)(h:∀(kV doc pm:Value) (an:Option aB) (cdv ct:Value) (us:List Value),us.length=ps.length->HF (eC x qual (yK st) (jH st) (zK st) .none kV doc pm an cdv ct) ⟨us,[]⟩=pure (ps.zip us)):Binds K fd ps []:=by
 obtain⟨oc,od,kV,doc,pm,an,cdv,ct,osl,rfl,lk,hcd⟩:=F.ex;exact .all (h kV doc pm an cdv ct)
theorem CS{x qual:Str}{st:Stmt}{f:aB}{oc:Value}{od an:Option aB}{osl:Array (Option Value)}{kV doc pm cdv ct:Value}(l:K.lookup f=some ⟨oc,od,.func (eC x qual (yK st) (jH st) (zK st) .none kV doc pm an cdv ct),osl⟩)(c:eZ K cdv qual=true)(k:cP K (.ref f)=true):Fun K x qual st f (eC x qual (yK st) (jH st) (zK st) .none kV doc pm an cdv ct):=⟨⟨oc,od,kV,doc,pm,an,cdv,ct,osl,rfl,l,c⟩,k⟩
end
section
variable{X:Cx}
theorem pv(i:Nat){x:Str}{pos:Pos}(hN:X.N[i]?=some x:=by rfl)(hv:Vis X.env.scope x:=by first | exact Or.inl rfl | exact Or.inr (Or.inl rfl) | exact Or.inr (Or.inr rfl))(hd:(x==("__debug__" : Str))=false:=by decide)(hcd:(x==("__classdict__" : Str))=false:=by decide):PE X (.Name x pos) (tVar i):=yL hN hv hd hcd
end
theorem iteF{A B:Prop}(h:B):if false=true then A else B:=by
 rw[if_neg hO];exact h
theorem iteT{A B:Prop}(h:A):if true=true then A else B:=by
 rw[if_pos rfl];exact h
def Same(H H':Hp):Prop:=∀b o,H b=some o->H' b=some o
theorem Same.refl(H:Hp):Same H H:=fun _ _ h=>h
theorem Same.trans{H H1 H2:Hp}(a:Same H H1)(b:Same H1 H2):Same H H2:=fun c o h=>b c o (a c o h)
theorem Same.free{H H':Hp}(e:Same H H'){l:aB}(h:H' l=Option.none):H l=Option.none:=by
 cases q:H l with
 |none=>rfl
 | some o =>
   rw[e l o q] at h;cases h
theorem Same.seq{K:aR}{H H':Hp}{a:aB}{xs:List V}(e:Same H H')(h:SqL K H a xs):SqL K H' a xs:=by
 rcases h with(h | ⟨o,h⟩) | h
 . exact .inl (.inl (e _ _ h))
 . exact .inl (.inr ⟨o,e _ _ h⟩)
 . exact .inr h
section
variable{X:Cx}
end
section
variable{κ : Type}[DecidableEq κ]
end
noncomputable def wE(env:Env):List (Str×iE)->List (Str×aB)->List (Str×aB)
 |[],cs=>cs
 |(n,k)::r,cs=>wE env r (if k==iE.free then (match env.cells.lookup n with | some c=>(n,c)::cs | none=>cs) else cs)
theorem oY{scope:Scope}{env:Env}(h:∀y∈scope.names,y.2=iE.free->∃c,env.cells.lookup y.1=some c):closureFor scope env=pure (wE env scope.names []):=by
 simp only[closureFor];generalize ([]:List (Str×aB))=cs
 revert h cs
 generalize scope.names=l;intro h
 induction l with
 |nil=>intro cs;rfl
 | cons y r ih =>
   intro cs;obtain⟨n,k⟩:=y;have ihr:=ih fun z hz=>h z (aI _ hz);simp only[List.forIn_cons,wE]
   by_cases hk:k=iE.free
   . obtain ⟨c, hc⟩ := h (n, k) aF hk;have hc':env.cells.lookup n=some c:=hc;have hcell:cellOf env n=pure c:=by unfold cellOf; rw [hc']
     subst hk;simp only[hcell,hc',beq_self_eq_true,if_true,pure_bind,bind_pure_comp,map_pure,bind_assoc]
     first
      |exact ihr _
      |simpa using ihr _
   . have hb : (k == iE.free) = false := by simpa using hk
     simp only[hb,bD,if_false,pure_bind]
     first
      |exact ihr _
      |simpa using ihr _
theorem uA{env:Env}:∀(l:List (Str×iE)) (cs:List (Str×aB)),(∀x c,cs.lookup x=some c->env.cells.lookup x=some c)->∀x c,(wE env l cs).lookup x=some c->env.cells.lookup x=some c
 |[],_,h=>h
 | (n, k) :: r, cs, h => by
   unfold wE;refine uA r _ fun x c e=>?_
   split at e
   . cases hc : env.cells.lookup n with
     |none=>rw[hc] at e;exact h x c e
     | some c' =>
       rw[hc] at e;simp only[cG] at e
       by_cases hx:x==n
       . rw[hx] at e;cases e;rw[beq_iff_eq] at hx;rw[hx];exact hc
       . have hx' : (x == n) = false := by simpa using hx
         rw[hx'] at e;exact h x c e
   . exact h x c e
theorem tZ{env:Env}:∀(l:List (Str×iE)) (cs:List (Str×aB)) (x:Str),(∃c,cs.lookup x=some c)->∃c,(wE env l cs).lookup x=some c
 |[],_,_,h=>h
 | (n, k) :: r, cs, x, h => by
   unfold wE;refine tZ r _ x ?_
   split
   . cases hc : env.cells.lookup n with
     |none=>exact h
     | some c' =>
       simp only[cG]
       by_cases hx:x==n
       . rw[hx];exact⟨_,rfl⟩
       . have hx' : (x == n) = false := by simpa using hx
         rw[hx'];exact h
   . exact h
theorem vL{env:Env}:∀(l:List (Str×iE)) (cs:List (Str×aB)) (x:Str) (c:aB),(x,iE.free)∈l->env.cells.lookup x=some c->∃c,(wE env l cs).lookup x=some c
 |[],_,_,_,h,_=>nomatch h
 | (n, k) :: r, cs, x, c, h, hc => by
   unfold wE;rcases aH.mp h with e | e
   . cases e;refine tZ r _ _ ?_;simp only[beq_self_eq_true,if_true,hc,cG];exact⟨_,rfl⟩
   . exact vL r _ x c e hc
theorem kR{env:Env}:∀{names:List (Str×iE)} {x:Str},names.lookup x=some iE.free →
  (names.map fun(n,k)=>if (k==iE.free&&env.scope.kind==.function&&env.kindOf n==some .cell) then (n,iE.cell) else (n,k)).lookup x=some iE.cell ∨
  (names.map fun(n,k)=>if (k==iE.free&&env.scope.kind==.function&&env.kindOf n==some .cell) then (n,iE.cell) else (n,k)).lookup x=some iE.free
 |[],_,h=>by simp at h
 | (n, k) :: r, x, h => by
   have ih:=@kR env r x;simp only[bO];cases hx:x==n with
   | true =>
     simp only[cG,hx] at h;cases h
     by_cases hc:(iE.free==iE.free&&env.scope.kind==.function&&env.kindOf n==some .cell)=true
     . rw[if_pos hc];left;simp only[cG,hx]
     . rw[if_neg hc];right;simp only[cG,hx]
   | false =>
     simp only[cG,hx] at h
     by_cases hc:(k==iE.free&&env.scope.kind==.function&&env.kindOf n==some .cell)=true
     . rw[if_pos hc];simp only[cG,hx];exact ih h
     . rw[if_neg hc];simp only[cG,hx];exact ih h
theorem xZ{env:Env}:∀{names:List (Str×iE)} {x:Str} {k':iE},(∀y∈names,y.2≠iE.cell) →
  (names.map fun(n,k)=>if (k==iE.free&&env.scope.kind==.function&&env.kindOf n==some .cell) then (n,iE.cell) else (n,k)).lookup x=some k'->(k'=iE.cell\/k'=iE.free)->(x,iE.free)∈names
 |[],_,_,_,h,_=>by simp at h
 | (n, k) :: r, x, k', hn, h, hk => by
   have ih:=@xZ env r x k' fun y hy=>hn y (aI _ hy);simp only[bO] at h;cases hx:x==n with
   | true =>
     have ex:x=n:=by simpa using hx
     by_cases hc:(k==iE.free&&env.scope.kind==.function&&env.kindOf n==some .cell)=true
     . have:k=iE.free:=by
        simp only[cL,beq_iff_eq] at hc;exact hc.1.1
       subst this;subst ex;exact aF
     . rw [if_neg hc] at h;simp only [cG,hx] at h;cases h;rcases hk with hk | hk
       . exact absurd hk (hn (n,k) aF)
       . subst hk;subst ex;exact aF
   | false =>
     by_cases hc:(k==iE.free&&env.scope.kind==.function&&env.kindOf n==some .cell)=true
     . rw[if_pos hc] at h;simp only[cG,hx] at h;exact aI _ (ih h hk)
     . rw[if_neg hc] at h;simp only[cG,hx] at h;exact aI _ (ih h hk)
section
variable{X:Cx}
structure CI where
 C:aB
 s:aC
 H:Hp
 ex:List aB
noncomputable def jA(X:Cx)(scope:Scope)(NY:List Str)(c:CI):Cx where
 prog:=X.prog
 w:=X.w
 K:=X.K
 mg:=X.mg
 base:=X.base
 A:=X.A
 N:=NY
 s₀:=c.s
 H₀:=c.H
 env:=compEnvC scope (wE X.env scope.names []) c.C X.env
 outer:=X.stack
 stack:=X.stack
 ex:=c.ex
 fn:=fun _=>false
 calm:=X.calm
 pn:=[]
 xe:=fun _ _=>False
theorem Inv.adopt{aD:List (aB×Obj)}{σ : St}{H:Hp}{s:aC}{a:aB}{o:HO}(I:Inv X aD σ H s)(hn:H a=none)(young:X.s₀.heap.objs.size<=a)(hL:a≠X.env.locals)(hc:∀x c,X.env.cells.lookup x=some c->c≠a)(hp:∀p∈X.pn++aD,p.1≠a)(new:ObjOk X.prog X.w (upd H a o) s.heap a o):Inv X aD σ (upd H a o) s:=by
 have ne:∀{b:aB} {u:HO},H b=some u->b≠a:=fun e z=>by rw[z,hn] at e;cases e
 refine⟨I.ok,I.os,I.bare,⟨I.base.keep,I.base.slot,fun b ob q n hx=>?_,I.base.there,fun b xs q=>?_,fun b ob u q=>?_,fun b ps q=>?_⟩,I.loc,I.cell,?_,fun x c e=>?_,fun p hpm=>?_,fun b u e=>?_,I.len⟩
 . rw[zJ (bE (bN (aS q) young))];exact I.base.free b ob q n hx
 . have := I.base.tups b xs q;rw[zJ (ne this)];exact this
 . have := I.base.frzs b ob u q;rw[zJ (ne this)];exact this
 . have := I.base.tbls b ps q;rw[zJ (ne this)];exact this
 . rw[zJ (Ne.symm hL)];exact I.free
 . have := I.freeC x c e;unfold FreeC at this ⊢;rw[zJ (hc x c e)];exact this
 . obtain⟨h1, h2, h3⟩ := I.pin p hpm;exact⟨h1,by rw[zJ (hp p hpm)];exact h2,h3⟩
 . by_cases hb : b = a
   . subst hb;rw[bY] at e;cases e;exact new
   . rw[zJ hb] at e;exact(I.hok b u e).stay (fun c v _ q=>q) (fun c q=>by rw[zJ (ne q)];exact q) fun c xs q=>by rw[zJ (ne q)];exact q
def PF(X:Cx)(ifs:List Expr)(t:TT):Prop :=
 ∀(aD:List (aB×Obj)) (s:aC) (σ : St) (H:Hp) (Q:Bool->Hp->Prop),Inv X aD σ H s->t σ H Q →
  aU (aM X.prog X.w) X.A (forIn ifs true fun c r=>if r=true then do let ok <- uW c X.env (cM c X.env);pure (ForInStep.yield ok) else pure (ForInStep.yield r)) (TP X aD σ Q) X.xe s
def tNoIf:TT:=fun _ H Q=>Q true H
theorem pf_nil:PF X [] tNoIf:=fun _ _ _ H _ I h=>wpAny_tests_nil ⟨H,I,h⟩
noncomputable def gW(mp:List (Option Nat))(σ : St):St:=mp.map fun o=>o.bind fun j=>σ[j]?.join
def TN(J:It)(mp:List (Option Nat))(g:CI->TG)(tt:CI->TT)(te:CI->TE)(σ : St)(H1:Hp)(R:List V->Hp->Prop):Prop :=
 ∀c:CI,∃W:Nat->Nat->List V->Hp->Prop,(∃m,W 0 m [] H1)/\∀i m ys H,W i m ys H →
  (J.stop i H/\R ys H) ∨
  (J.go i H/\ys.length<sizeLine/\∀x H',J.yld i H x H'->g c x (gW mp σ) H' fun σ2 H2=>tt c σ2 H2 fun b H3 =>
    if b=true then te c σ2 H3 fun y H4=>∃m',m'<m/\W (i+1) m' (ys++[y]) H4 else ∃m',m'<m/\W (i+1) m' ys H3)
def tComp(wi:TI)(mp:List (Option Nat))(g:CI->TG)(tt:CI->TT)(te:CI->TE):TE:=fun σ H Q=>wi σ H fun J H1 =>
 TN J mp g tt te σ H1 fun ys H'=>ys.length<=sizeLine/\∀p,H' p=none->Q (.ref p) (upd H' p (.lst ys))
structure CompScope(X:Cx)(scope:Scope)(NY:List Str)(mp:List (Option Nat)):Prop where
 kind:scope.kind=.function
 nocell:∀y∈scope.names,y.2≠.cell
 names:∀y∈scope.names,y.2=.local->scope.names.lookup y.1=some .local
 free:∀y∈scope.names,y.2=.free->(X.env.kindOf y.1=some .cell\/X.env.kindOf y.1=some .free)
 len:mp.length=NY.length
 map:∀(i:Nat) (x:Str) (j:Nat),NY[i]?=some x->mp[i]?=some (some j)->X.N[j]?=some x/\scope.names.lookup x=some .free
theorem CT{prog:aY}{w:bS}{A:bR}{R:sM->aC->Prop}{s:aC}{elt target iter:Expr}{ifs:List Expr}{scope:Scope}{pos:Pos}{it acc:Value}{env:Env}{Z:Value->aC->Prop}(hZ:∀e s,Z e s->notedBy (aM prog w) A env (fun x s'=>R (.error x) s') e s)(I:Nat->aC->Prop)(turn:∀n s,I n s->aU (aM prog w) A (HC it) (fun r s₁=>match r with
    |none=>R (.ok .next) s₁
    |some v=>aU (aM prog w) A (pA target it v) (fun _ s₁'=>aU (aM prog w) A (mZ target env v) (fun _ s₂ =>
       aU (aM prog w) A (forIn ifs true fun c r=>if r=true then do let ok <- uW c env (cM c env);pure (ForInStep.yield ok) else pure (ForInStep.yield r)) (fun ok s₃ =>
        if ok=true then aU (aM prog w) A (cM elt env) (fun x s₄ =>
         aU (aM prog w) A (call (.builtin "list.append") [acc,x]) (fun _ s₅=>∃m,m<n/\I m s₅) (fun _ _=>False) s₄) Z s₃
        else ∃m,m<n/\I m s₃) (fun _ _=>False) s₂) (fun _ _=>False) s₁') (fun _ _=>False) s₁) (fun _ _=>False) s)(n:Nat)(h:I n s) :
  fK (aM prog w) A (.compLoop (.ListComp elt [⟨target,iter,ifs,0⟩] scope pos) 0 it acc env) R s:=by
 refine codeAny_loop rfl I (fun n s hI=>?_) n h;show aU _ A ((compTurn (.ListComp elt [⟨target,iter,ifs,0⟩] scope pos) 0 it acc env).onRaise (fun x=>do rC x env;theTreesLotGoes x)) _ _ s;refine wpAny_noted ?_;rw[compTurn_list];refine aA (eQ (aA (cB (turn n s hI) (fun r s₁ h₁=>?_) fun _ _ h'=>h'.elim)));cases r with
 |none=>exact aJ h₁
 | some v =>
   refine aA (cB h₁ (fun _ s₁' h₁'=>?_) fun _ _ h'=>h'.elim);refine aA (cB h₁' (fun _ s₂ h₂=>aA (cB h₂ (fun ok s₃ h₃=>?_) fun _ _ h'=>h'.elim)) fun _ _ h'=>h'.elim);cases ok with
   |false=>exact aJ ⟨rfl,h₃⟩
   | true =>
     exact aA (aA (cB h₃ (fun x s₄ h₄=>aA (cB h₄ (fun _ s₅ h₅=>aJ (aJ ⟨rfl,h₅⟩)) fun _ _ h'=>h'.elim)) fun e s' h'=>hZ e s' h'))
theorem tY{E:Value->aC->Prop}{scope:Scope}{NY:List Str}{mp:List (Option Nat)}{tg iter elt:Expr}{ifs:List Expr}{pos:Pos}{g:CI->TG}{tt:CI->TT}{te:CI->TE}{aD:List (aB×Obj)}{σ : St}{H:Hp}{s₂ : aC}{J:It}{fp:List aB}{it:aB}{tn:Nat->Heap->Prop}{R:List V->Hp->Prop}{RR:Value->aB->sM->aC->Prop}{WW:CI->Value->aC->Prop}{cm:Cx->Prop}(S:CompScope X scope NY mp)(hc:∀c:CI,c.H=H->cm (jA X scope NY c))(I:Inv X aD σ H s₂)(T:Turn X.prog X.w X.K tg J fp it tn cm)(st:tn 0 s₂.heap)(hf:∀b∈fp,FpOk X aD H b)(hg:∀c,PG (jA X scope NY c) tg (g c))(ht:∀c,PF (jA X scope NY c) ifs (tt c))(he:∀c,PE ((jA X scope NY c).wish (WW c)) elt (te c))(err:∀c:CI,X.s₀.heap.objs.size<=c.C->c.C∉frs X.stack->(∀pl σ' H' s1,Inv (jA X scope NY c) pl σ' H' s1->Inv X aD σ H' s1)->∀e s',WW c e s'->notedBy (aM X.prog X.w) X.A (jA X scope NY c).env (fun x s''=>RR (.ref s₂.heap.objs.size) c.C (.error x) s'') e s')(h:TN J mp g tt te σ H R)(fin:∀(s':aC) (C:aB) (m:Str->Option Value) (ys:List V) (H':Hp),R ys H'->H' s₂.heap.objs.size=none->H' C=none->C≠s₂.heap.objs.size->s'.heap.Ns C m →
    (ys.length<=sizeLine->Inv X aD σ (upd H' s₂.heap.objs.size (.lst ys)) s') →
    (C≠X.env.locals/\X.s₀.heap.objs.size<=C/\(∀x c,X.env.cells.lookup x=some c->c≠C)/\∀p∈X.pn++aD,p.1≠C)->RR (.ref s₂.heap.objs.size) C (.ok .next) s') :
  aU (aM X.prog X.w) X.A (newList []) (fun acc s₃=>aU (aM X.prog X.w) X.A (newFunctionEnv scope X.env.globals (wE X.env scope.names []) [] X.env.qual none .none (some X.env)) (fun cenv s₄ =>
   fK (aM X.prog X.w) X.A (.compStart (.ListComp elt [⟨tg,iter,ifs,0⟩] scope pos) 0 (.ref it) acc { cenv with scope:=relabel scope X.env }) (RR acc cenv.locals) s₄) E s₃) E s₂:=by
 refine dC (wpAny_newFunctionEnv S.nocell (by intro y hy;simp at hy) (fun h₁ hns₁ hsb₁=>?_) S.kind);dsimp only at hns₁ hsb₁ ⊢;generalize hH2:s₂.heap.push { cls:=.type "list",dict:=none,data:=.seq ([]:List Value).toArray }=H2 at hns₁ hsb₁ ⊢;have hC:(H2.objs.size:Nat)=s₂.heap.objs.size+1:=by rw[<- hH2,Heap.size_push]
 generalize hDd:s₂.heap.objs.size=D at fin err hC ⊢;generalize hCC:H2.objs.size=C at hns₁ hsb₁ hC ⊢;have hC:(C:Nat)=(D:Nat)+1:=hC;have hDC:D≠C:=fun z=>absurd (z.trans hC) (bE (mR _));have ltC:∀{b:aB},b<D->b≠C:=fun {b} h=>bE (Nat.lt_of_lt_of_eq (iM h) hC.symm);have ltD:∀{b:aB},b<D->b≠D:=fun {b} h=>bE h;have hlt:∀{b:aB} {o:Obj},s₂.heap.get? b=some o->(b:Nat)<D:=fun e=>hDd▸aS e;have k2:∀b o,s₂.heap.get? b=some o->H2.get? b=some o:=fun b o e=>hH2▸aE _ e
 have k1:∀b o,H2.get? b=some o->h₁.get? b=some o:=fun b o e=>by
  have hb:b<C:=hCC▸aS e;exact hsb₁.extBut b o (bE hb) (aE _ e)
 have fr:∀a,D<=a->H a=none:=fun a ha=>I.hok.fresh (hDd▸ha);have accP:h₁.PlainList D #[]:=⟨_,k1 _ _ (by rw[<- hH2,<- hDd];exact aX _ rfl)⟩
 have fpo:∀b∈fp,(b:Nat)<D:=fun b hb=>let ⟨o,e,_⟩:=T.obj 0 _ st b hb;hlt e;have clF:∀x c,(wE X.env scope.names []).lookup x=some c->X.env.cells.lookup x=some c:=uA _ _ fun x c e=>nomatch e
 have cellLt:∀x c,X.env.cells.lookup x=some c->(c:Nat)<D:=fun x c e=>by
  obtain⟨v,o,ho,_⟩:=I.cell x c e;exact hlt ho
 have locLt:(X.env.locals:Nat)<D:=hDd▸I.lt
 have stkLt:∀b∈frs X.stack,(b:Nat)<D:=fun b hb=>by
  obtain⟨_,o,ho,_⟩:=I.stack.mem hb;exact hlt ho
 have fpStk:∀b∈fp,b∉frs X.stack:=fun b hb z=>by
  obtain⟨_,f1,f2,_⟩:=hf b hb;rcases aH.mp (I.stkSub b z) with q | q
  . exact f1 q
  . exact f2 q
 have pinLt:∀p∈X.pn++aD,(p.1:Nat)<D:=fun p hp=>hlt (I.pin p hp).1
 have pinStk:∀p∈X.pn++aD,p.1∉frs X.stack:=fun p hp z=>by
  obtain⟨_,_,f1,f2,_⟩:=I.pin p hp;rcases aH.mp (I.stkSub _ z) with q | q
  . exact f1 q
  . exact f2 q
 let Y:Cx:=jA X scope NY ⟨C,{ s₂ with heap:=H2 },H,D::fp⟩
 obtain⟨W,⟨m0,w0⟩,turn⟩:=h ⟨C,{ s₂ with heap:=H2 },H,D::fp⟩
 have okY:Y.Ok:=by
  refine⟨I.ok.mod,S.kind,I.ok.glob,I.ok.blt,rN hCC,fun x y c h1 h2=>I.ok.inj x y c (clF _ _ h1) (clF _ _ h2),fun x hx=>?_,fun x c hfn=>absurd hfn (by intro z;cases z),I.ok.hd,I.ok.frames,.inl rfl,fun b hb=>?_,fun b o e=>?_,?_,fun b o e=>?_,fun b hb=>?_,?_,I.stkFree⟩
  . have hx':(x,iE.free)∈scope.names:=by
     rcases hx with hx | hx
     . exact xZ S.nocell hx (.inl rfl)
     . exact xZ S.nocell hx (.inr rfl)
    obtain⟨c,e⟩:=I.ok.has x (S.free _ hx' rfl);exact vL _ _ x c hx' e
  . rcases aH.mp hb with z | z
    . subst z;exact⟨hDC,fun x c e q=>absurd (cellLt x c (clF x c e)) (by rw[q];exact cT _)⟩
    . have := fpo b z;exact⟨ltC this,fun x c e q=>(hf b z).2.2.2.2.1 x c (clF x c e) q⟩
  . have := I.bs b o e;exact⟨k2 b o this.1,this.2⟩
  . refine⟨?_, I.tabsH⟩;show(X.base.objs.size:Nat)<=H2.objs.size;have h1:(X.base.objs.size:Nat)<=s₂.heap.objs.size:=cW I.ok.bsz.1 I.sz;have h2:(H2.objs.size:Nat)=C:=hCC;have h3:(s₂.heap.objs.size:Nat)=D:=hDd;omega
  . have hb := I.bs b o e;have hb':=hlt hb.1;intro z;rcases aH.mp z with z | z
    . rw[z] at hb';exact cT _ hb'
    . rcases (hf b z).2.2.2.1 with q | q
      . exact I.ok.noex b o e q
      . exact absurd (bN (aS (I.ok.bs b o e).1) q) (cT _)
  . rcases aH.mp hb with z | z
    . subst z;exact fun q=>absurd (stkLt _ q) (cT _)
    . exact fpStk b z
  . exact I.stack.of_keeps fun b o e _=>⟨o,k2 b o e,rfl⟩
 have capt:∀(i:Nat) (x:Str) (v:V),NY[i]?=some x->(gW mp σ)[i]?=some (some v)->∃u c,RelV v u/\(Y.env.kindOf x=some .cell\/Y.env.kindOf x=some .free)/\Y.env.cells.lookup x=some c/\H2.IsCell c (some u)/\(H c=none\/∃o u,H c=some (.frz o u))/\c∉D::fp:=by
  intro i x v e1 e2
  have e2':(mp[i]?.map fun o=>o.bind fun j=>σ[j]?.join)=some (some v):=by
   unfold gW at e2
   rwa [bT] at e2
  cases hm:mp[i]? with
  |none=>rw[hm] at e2';cases e2'
  | some o =>
    rw[hm] at e2';cases o with
    |none=>simp at e2'
    | some j =>
      simp only[cX,bF,Option.some.injEq] at e2'
      have e4 : σ[j]?=some (some v):=by
       cases hs : σ[j]? with
       |none=>rw[hs] at e2';cases e2'
       |some q=>rw[hs] at e2';simp at e2';rw[e2']
      obtain⟨hXj,hfr⟩:=S.map i x j e1 hm;have hmem:(x,iE.free)∈scope.names:=fB hfr;have hk:=S.free _ hmem rfl;obtain⟨m,hn,hl⟩:=I.loc;obtain⟨u,ru,l⟩:=hl j x v hXj e4 (hk.elim (fun z=>.inr (.inl z)) fun z=>.inr (.inr z))
      have hlook:∃c,X.env.cells.lookup x=some c/\s₂.heap.IsCell c (some u):=by
       rcases l with⟨kl,_⟩ | ⟨_,c,ec,hcell⟩
       . rcases hk with q | q
         . exact absurd (kl.symm.trans q) (by intro z;cases z)
         . exact absurd (kl.symm.trans q) (by intro z;cases z)
       . exact⟨c,ec,hcell⟩
      obtain⟨c,ec,oc,hoc,hocd⟩:=hlook;obtain⟨c',ec'⟩:=vL (env:=X.env) scope.names [] x c hmem ec;have:c'=c:=Option.some.inj ((clF x c' ec').symm.trans ec);subst this;refine⟨u,c',ru,kR hfr,ec',⟨oc,k2 _ _ hoc,hocd⟩,(I.freeC x c' ec).imp id And.right,fun z=>?_⟩;rcases aH.mp z with z | z
      . have:=cellLt x c' ec;rw[z] at this;exact cT _ this
      . exact(hf c' z).2.2.2.2.1 x c' ec rfl
 have lenY:(gW mp σ).length=NY.length:=by
  unfold gW;rw[cH];exact S.len
 have I0:∀tk,Inv Y [] (gW mp σ) H { s₂ with heap:=h₁,toks:=tk }:=by
  intro tk;refine⟨okY,rfl,I.bare,Un.kept k1,⟨_,hns₁,fun i x v e1 e2 e3=>?_⟩,fun x c e=>?_,fr C (by show(D:Nat)<=C;omega),fun x c e=>(I.freeC x c (clF x c e)).imp id fun z=>⟨rfl,z.2⟩,fun p hp=>absurd (show p∈([]:List (aB×Obj)) from hp) (by simp),I.hok.kept fun b o e=>k1 b o (k2 b o e),lenY⟩
  . obtain⟨u, c, ru, hk, ec, ⟨oc, hoc, hocd⟩, _⟩ := capt i x v e1 e2;exact⟨u,ru,.inr ⟨hk,c,ec,oc,k1 _ _ hoc,hocd⟩⟩
  . obtain⟨v, o, ho, hd⟩ := I.cell x c (clF x c e);exact⟨v,o,k1 _ _ (k2 _ _ ho),hd⟩
 have stat:∀{H':Hp} {pl:List (aB×Obj)},(∀p∈pl,p.1∉fp)->(∀b∈fp,H' b=none)->∀b∈fp,FpOk Y pl H' b:=fun hpl hn b hb=>by
  have hbD:=fpo b hb;refine⟨hn b hb,ltC hbD,fpStk b hb,.inl (aI _ hb),fun x c e=>(hf b hb).2.2.2.2.1 x c (clF x c e),fun p hp z=>hpl p (show p∈_ from hp) (z▸hb)⟩
 have dN:D∉Y.fs:=fun q=>absurd (stkLt _ q) (cT _);have dFp:D∉fp:=fun q=>absurd (fpo _ q) (cT _)
 have plD:∀(o:Obj),∀p∈[(D,o)],p.1∉fp:=fun o p hp=>by
  have e:p=(D,o):=by simpa using hp
  rw[e];exact dFp
 have toX:∀pl σ' H3 s4,Inv Y pl σ' H3 s4->Inv X aD σ H3 s4:=fun pl σ' H3 s4 I4=>by
  have u:Un (frs X.stack) fp H H3 s₂.heap s4.heap:=by
   have B:Un (frs X.stack) (D::fp) H H3 H2 s4.heap:=I4.base
   have nx:∀{b:aB} {o:Obj},s₂.heap.get? b=some o->b∉fp->b∉D::fp:=fun e hb z=>by
    rcases aH.mp z with z | z
    . have:=hlt e;rw[z] at this;exact cT _ this
    . exact hb z
   exact⟨fun b o q n hb hx=>B.keep b o (k2 b o q) n hb (nx q hx),fun b o q n hb hx=>B.slot b o (k2 b o q) n hb (nx q hx),fun b o q n hx=>B.free b o (k2 b o q) n (nx q hx),fun b o q hx=>B.there b o (k2 b o q) (nx q hx),B.tups,B.frzs,B.tbls⟩
  exact I.call' I4.os u I4.hok I4.bare fun b hb=>⟨(hf b hb).2.2.2.1,(hf b hb).2.1,(hf b hb).2.2.2.2.1,(hf b hb).2.2.2.2.2⟩
 have keyC:∀(tk:Nat) (it':Value),it'=.ref it->fK (aM X.prog X.w) X.A (.compLoop (.ListComp elt [⟨tg,iter,ifs,0⟩] scope pos) 0 it' (.ref D) Y.env) (RR (.ref D) C) { s₂ with heap:=h₁,toks:=tk }:=by
  rintro tk _ rfl
  refine CT (Z:=WW ⟨C,{ s₂ with heap:=H2 },H,D::fp⟩) (fun e s' z=>err ⟨C,{ s₂ with heap:=H2 },H,D::fp⟩ (by have:(X.s₀.heap.objs.size:Nat)<=D:=hDd▸I.sz;show(X.s₀.heap.objs.size:Nat)<=C;omega) (fun q=>absurd (stkLt _ q) (by show ¬(C:Nat)<D;omega)) toX e s' z) (fun n s'=>∃i ys H' its,Inv Y [] (gW mp σ) H' s'/\tn i s'.heap/\(∀b∈fp,H' b=none)/\H' D=none/\s'.heap.PlainList D its/\Vals ys its.toList/\W i n ys H') ?_ m0
   ⟨0,[],H,#[],I0 tk,T.keep 0 _ _ st fun b _ o e=>k1 b o (k2 b o e),fun b hb=>(hf b hb).1,fr D (aO _),accP,.nil,w0⟩
  rintro n s3 ⟨i,ys,H3,its,I3,st3,fr3,d3,⟨kk,pl3⟩,rv3,w3⟩
  have I3':Inv Y [(D,{ cls:=.type "list",data:=.seq its kk })] (gW mp σ) H3 s3:=I3.pins_of fun p hp=>by
   have e:p=(D,{ cls:=.type "list",data:=.seq its kk }):=by simpa using hp
   subst e;exact⟨pl3,d3,hDC,dN,fun v z=>nomatch (show Data.seq its kk=Data.cell v from z)⟩
  rcases turn i n ys H3 w3 with⟨stop,qn⟩ | ⟨go,hsz,step⟩
  . refine thn (T.done Y rfl rfl rfl (hc ⟨C, { s₂ with heap := H2 }, H, D :: fp⟩ rfl) i _ s3 _ H3 _ I3' (stat (plD _) fr3) st3 stop) fun r s4 zq => ?_;obtain ⟨hr,I4⟩:=zq;subst hr;have hD4:s4.heap.get? D=some { cls:=.type "list",data:=.seq its kk }:=(I4.pin (D,_) (by simp)).1;have J4:Inv X aD σ H3 s4:=toX _ _ _ _ I4;obtain ⟨m4,hn4,_⟩:=I4.loc;refine fin s4 C m4 ys H3 qn d3 I4.free (Ne.symm hDC) hn4 (fun hz=>?_) ⟨(ltC locLt).symm,?_,fun x c e=>?_,fun p hp=>?_⟩
    . refine J4.adopt d3 ?_ (ltD locLt).symm (fun x c e => ?_) (fun p hp => ?_) ⟨hz, its.toList, kk, rv3, hD4⟩
      . exact hDd▸I.sz
      . exact ltD (cellLt x c e)
      . exact ltD (pinLt p hp)
    . have : (X.s₀.heap.objs.size : Nat)<=D := hDd▸I.sz;show(X.s₀.heap.objs.size:Nat)<=C;omega
    . exact ltC (cellLt x c e)
    . exact ltC (pinLt p hp)
  . refine thn (T.item Y rfl rfl rfl (hc ⟨C, { s₂ with heap := H2 }, H, D :: fp⟩ rfl) i _ s3 _ H3 _ I3' (stat (plD _) fr3) st3 go) fun r s4 zq => ?_;obtain ⟨u,hr,h4⟩:=zq;subst hr;refine thn h4 fun _ s5 zq=>?_;obtain ⟨x,H5,I5,r5,y5,st5,fr5⟩:=zq;have I5':=I5.pinned (stat (plD _) fr5) (T.obj _ _ st5);refine thn (hg _ _ s5 _ H5 x u _ I5' r5 (step x H5 y5)) fun _ s6 zq=>?_;obtain ⟨σ6,H6,I6,q6⟩:=zq;refine thn (ht _ _ s6 σ6 H6 _ I6 q6) fun ok s7 zq=>?_;obtain ⟨H7,I7,q7⟩:=zq
    have back:∀{s8:aC} {σ8:St} {H8:Hp},Inv Y ([(D,{ cls:=.type "list",data:=.seq its kk })]++tE fp s5.heap) σ8 H8 s8 →
      tn (i+1) s8.heap/\(∀b∈fp,H8 b=none)/\H8 D=none/\s8.heap.get? D=some { cls:=.type "list",data:=.seq its kk }:=fun {s8 σ8 H8} I8=>by
     refine⟨T.keep _ _ _ st5 fun b hb o e=>(I8.pin (b,o) (bJ _ (bJ _ (xE hb e)))).1,fun b hb=>?_,?_,?_⟩
     . obtain⟨o, e, d⟩ := T.obj _ _ st5 b hb;exact(I8.pin (b,o) (bJ _ (bJ _ (xE hb e)))).2.1
     . exact(I8.pin (D,_) (bJ _ (bZ _ (cD.mpr rfl)))).2.1
     . exact(I8.pin (D,_) (bJ _ (bZ _ (cD.mpr rfl)))).1
    have drop:∀{s8:aC} {σ8:St} {H8:Hp} {pl:List (aB×Obj)},Inv Y pl σ8 H8 s8->Inv Y [] (gW mp σ) H8 s8:=fun {s8 σ8 H8 pl} I8=>by
     obtain⟨m8,hn8,_⟩:=I8.loc;refine⟨I8.ok,I8.os,I8.bare,I8.base,⟨m8,hn8,fun i x v e1 e2 e3=>?_⟩,I8.cell,I8.free,I8.freeC,fun p hp=>absurd (show p∈([]:List (aB×Obj)) from hp) (by simp),I8.hok,lenY⟩;obtain⟨u,c,ru,hk,ec,⟨oc,hoc,hocd⟩,hn,hx⟩:=capt i x v e1 e2;rcases hn with hn | ⟨ob,ub,hn⟩
     . obtain⟨sl, e⟩ := I8.base.any hoc hn hx;exact⟨u,ru,.inr ⟨hk,c,ec,_,e,hocd⟩⟩
     . obtain⟨e1, _⟩ := I.hok c _ hn;obtain⟨e2,_⟩:=I8.hok c _ (I8.base.frzs c ob ub hn);have e3:=k2 _ _ e1;rw[hoc] at e3;cases e3;exact⟨u,ru,.inr ⟨hk,c,ec,oc,e2,hocd⟩⟩
    cases ok with
    | false =>
      obtain⟨m',hm',w'⟩:=q7;obtain⟨b1,b2,b3,b4⟩:=back I7;exact⟨m',hm',i+1,ys,H7,its,drop I7,b1,b2,b3,⟨kk,b4⟩,rv3,w'⟩
    | true =>
      refine thn (he _ _ s7 σ6 H7 _ (I7.wish _) q7) fun y s8 zq=>?_;obtain⟨yv,H8,I8w,r8,q8⟩:=zq;have I8:=I8w.unwish;obtain⟨b1,b2,b3,b4⟩:=back I8;have hl:ys.length=its.size:=by simpa using rv3.length
      refine wpAny_list_append_plain (items:=its) ⟨kk,b4⟩ (fun h' pl' sb=>?_) (by omega);obtain⟨m',hm',w'⟩:=q8;have I9:Inv Y [] (gW mp σ) H8 { s8 with heap:=h' }:=(drop I8).turned (it:=D) (t':=s8.toks) (fun b o hb e=>(sb.2 b hb).trans e) b3 hDC (.inl aF) (fun x c e=>ltD (cellLt x c (clF x c e))) fun p hp=>absurd (show p∈([]:List (aB×Obj)) from hp) (by simp);refine⟨m',hm',i+1,ys++[yv],H8,its.push y,I9,?_,b2,b3,pl',?_,w'⟩
      . exact T.keep _ _ _ b1 fun b hb o e=>(sb.2 b (fun z=>dFp (z▸hb))).trans e
      . rw[dW];exact rv3.append (.cons r8 .nil)
 exact codeAny_compStart_list (keyC _ _ rfl) (T.self _ 0 _ _ _ (T.keep 0 _ _ st fun b _ o e=>k1 b o (k2 b o e)) (keyC _ _ rfl))
theorem UX{scope:Scope}{NY:List Str}{mp:List (Option Nat)}{tg iter elt:Expr}{ifs:List Expr}{pos:Pos}{wi:TI}{g:CI->TG}{tt:CI->TT}{te:CI->TE}{cm:Cx->Prop}(S:CompScope X scope NY mp)(hc:∀aD σ H s,Inv X aD σ H s->∀c:CI,c.H=H->cm (jA X scope NY c))(hi:PI X tg iter wi cm)(hg:∀c,PG (jA X scope NY c) tg (g c))(ht:∀c,PF (jA X scope NY c) ifs (tt c))(he:∀c,PE (jA X scope NY c) elt (te c))(hs:∀x,dZ iter X.env x=pure x:=by intro _;rfl):PE X (.ListComp elt [⟨tg,iter,ifs,0⟩] scope pos) (tComp wi mp g tt te):=by
 intro aD s σ H Q I h;rw[eval_ListComp];refine wpAny_comprehension_free (use:=none) rfl hs (oY fun y hy hk=>I.ok.has y.1 (S.free y hy hk)) S.kind S.names (thn (hi aD s σ H _ I h) fun v s1 h1=>thn h1 fun itv s2 h2=>?_);obtain⟨it,fp,tn,J,H2,e,I2,T,st2,f2,hk⟩:=h2;subst e;refine tY (RR:=fun acc C=>compPost (aM X.prog X.w) X.A X.xe none (EP X aD σ Q) acc C) (WW:=fun _ _ _=>False) S (hc _ _ _ _ I2) I2 T st2 f2 hg ht he (fun _ _ _ _ _ _ z=>z.elim) hk ?_;intro s' C m ys H' q hD hC hCD hn hI hct;refine⟨m,hn,fun h' sb=>?_⟩;have J':=hI q.1;refine⟨.ref s2.heap.objs.size,_,J'.turned (it:=C) (t':=s'.toks) (fun b o hb e=>(sb.2 b hb).trans e) (by rw[zJ hCD];exact hC) hct.1 (.inr hct.2.1) hct.2.2.1 hct.2.2.2,rfl,q.2 _ hD⟩
theorem pe_comp{scope:Scope}{NY:List Str}{mp:List (Option Nat)}{tg iter elt:Expr}{ifs:List Expr}{pos:Pos}{wi:TI}{g:CI->TG}{tt:CI->TT}{te:CI->TE}(S:CompScope X scope NY mp)(hc:X.calm=true)(hi:PI X tg iter wi)(hg:∀c,PG (jA X scope NY c) tg (g c))(ht:∀c,PF (jA X scope NY c) ifs (tt c))(he:∀c,PE (jA X scope NY c) elt (te c))(hs:∀x,dZ iter X.env x=pure x:=by intro _;rfl):PE X (.ListComp elt [⟨tg,iter,ifs,0⟩] scope pos) (tComp wi mp g tt te):=UX S (fun _ _ _ _ _ _ _=>hc) hi hg ht he hs
def tCompS(wi:TI)(mp:List (Option Nat))(g:CI->TG)(tt:CI->TT)(te:CI->TE)(i:Nat):TS:=fun D σ H=>tComp wi mp g tt te σ H fun v H1=>D.nx (σ.set i (some v)) H1
theorem ZT{i:Nat}{y:Str}{py:Pos}{scope:Scope}{NY:List Str}{mp:List (Option Nat)}{tg iter elt:Expr}{ifs:List Expr}{pos spos:Pos}{wi:TI}{g:CI->TG}{tt:CI->TT}{te:CI->TE}(hN:X.N.Nodup)(hy:X.N[i]?=some y)(hl:X.env.scope.names.lookup y=some .local)(hsw:gG (.ListComp elt [⟨tg,iter,ifs,0⟩] scope pos) (some (.Name y py)) spos.line X.env=pure true)(S:CompScope X scope NY mp)(hc:X.calm=true)(hi:PI X tg iter wi)(hg:∀c,PG (jA X scope NY c) tg (g c))(ht:∀c,PF (jA X scope NY c) ifs (tt c))(he:∀c,PE (jA X scope NY c) elt (te c))(hs:∀x,dZ iter X.env x=pure x:=by intro _;rfl):PS X (.Assign [.Name y py] (.ListComp elt [⟨tg,iter,ifs,0⟩] scope pos) spos) (tCompS wi mp g tt te i):=by
 intro aD s σ H D I h;rw[exec_Assign_Name_used _ _ _ _ hsw];refine aA (eQ (aA ?_));show aU _ X.A (do let _ <- comprehension (.ListComp elt [⟨tg,iter,ifs,0⟩] scope pos) scope X.env _ (newList []) false (cM iter X.env) (some (mZ (.Name y py) X.env))) _ _ s
 refine aA (cB (wpAny_comprehension_free (use:=some (mZ (.Name y py) X.env)) (Q:=fun _ s'=>SP X aD D .next s') rfl hs (oY fun y hy hk=>I.ok.has y.1 (S.free y hy hk)) S.kind S.names
  (thn (hi aD s σ H _ I h) fun v s1 h1=>thn h1 fun itv s2 h2=>?_)) (fun _ s' hq=>aJ (aJ hq)) fun _ _ e=>e)
 obtain⟨it,fp,tn,J,H2,e,I2,T,st2,f2,hk⟩:=h2;subst e;refine tY (RR:=fun acc C=>compPost (aM X.prog X.w) X.A X.xe (some (mZ (.Name y py) X.env)) (fun _ s'=>SP X aD D .next s') acc C) (WW:=fun _ _ _=>False) S (fun _ _=>hc) I2 T st2 f2 hg ht he (fun _ _ _ _ _ _ z=>z.elim) hk ?_;intro s' C m ys H' q hD hC hCD hn hI hct;have J':=hI q.1;refine wpAny_assign_Name (AI J' hN hy (.inl hl) (v:=.ref s2.heap.objs.size) rfl (fun s'' I'' sb=>?_) (.inr hl));obtain⟨a,sba,ha⟩:=sb
 have haC:C≠a:=by
  rcases ha with rfl | ha
  . exact hct.1
  . exact fun z=>hct.2.2.1 _ _ ha z.symm
 refine⟨m,hn.sameBut sba haC,fun h' sb'=>?_⟩;exact⟨_,_,I''.turned (it:=C) (t':=s''.toks) (fun b o hb e=>(sb'.2 b hb).trans e) (by rw[zJ hCD];exact hC) hct.1 (.inr hct.2.1) hct.2.2.1 hct.2.2.2,q.2 _ hD⟩
end
end L2
namespace TS
open PySem PyProof.Rows
set_option autoImplicit false
noncomputable def ky(p:Keyed):Int:=numOf p.1
def IsI(p:Keyed):Prop:=∃n t,p.1=.int n t
structure TB(a₀ : Array Keyed)(st:SortSt):Prop where
 pm:(bM st).Perm a₀
 kd:kindOf st=gE
 nf:pV st=none
def Seg(xs:Array Keyed)(i j:Nat):Prop:=∀p q,i<=p->p<=q->q<j->K xs p<=K xs q
def Dsc(xs:Array Keyed)(i j:Nat):Prop:=∀p q,i<=p->p<=q->q<j->K xs q<=K xs p
def Ch(xs ys:Array Keyed)(i j:Nat):Prop:=xs.Perm ys/\∀k,(k<i\/j<=k)->K xs k=K ys k
theorem Ch.rfl'{xs:Array Keyed}{i j:Nat}: Ch xs xs i j:=⟨iR _,fun _ _=>rfl⟩
theorem Ch.tr{xs ys zs:Array Keyed}{i j:Nat}(a:Ch xs ys i j)(b:Ch ys zs i j):Ch xs zs i j :=
 ⟨a.1.trans b.1,fun k hk=>(a.2 k hk).trans (b.2 k hk)⟩
theorem Ch.wide{xs ys:Array Keyed}{i j i' j':Nat}(a:Ch xs ys i j)(h1:i'<=i)(h2:j<=j'):Ch xs ys i' j' :=
 ⟨a.1,fun k hk=>a.2 k (by omega)⟩
theorem TB.arr{a₀ : Array Keyed}{st:SortSt}(h:TB a₀ st){xs:Array Keyed}(hp:xs.Perm (bM st)):TB a₀ (eE st xs):=⟨hp.trans h.pm,h.kd,h.nf⟩
theorem TB.sz{a₀ : Array Keyed}{st:SortSt}(h:TB a₀ st):(bM st).size=a₀.size:=h.pm.size_eq
theorem XW{a₀ xs:Array Keyed}(hp:xs.Perm a₀)(h0:IntKeys a₀){i:Nat}(hi:i<a₀.size):∃t q,xs[i]?=some (.int (K xs i) t,q):=by
 have hi':i<xs.size:=by rw[hp.size_eq];exact hi
 obtain⟨n,t,hn⟩:=h0 _ ((lT.mp hp).mem_iff.mp (show xs[i]∈xs.toList by simp));have e:xs[i]?=some xs[i]:=getElem?_pos _ i hi';refine⟨t,xs[i].2,?_⟩;unfold K;rw[e];simp only[hn,numOf];exact congrArg some (YM hn rfl)
section
variable{prog:aY}{w:bS}{A:bR}{E:Value->aC->Prop}{s:aC}{a₀ : Array Keyed}
theorem VW{st:SortSt}{i j:Nat}{Q:Option Bool->SortSt->Prop}(hB:TB a₀ st)(h0:IntKeys a₀)(hi:i<a₀.size)(hj:j<a₀.size)(told:Q (some (decide (K (bM st) i<K (bM st) j))) st):wpS (aM prog w) A E s (NP i j) Q st:=by
 obtain⟨t,p,e1⟩:=XW hB.pm h0 hi;obtain⟨u,q,e2⟩:=XW hB.pm h0 hj;exact wpS_ltAt hB.kd e1 e2 told
theorem VV{st:SortSt}{xs:Array Keyed}{i j:Nat}{Q:Option Bool->SortSt->Prop}(hB:TB a₀ (eE st xs))(h0:IntKeys a₀)(hi:i<a₀.size)(hj:j<a₀.size)(h:Q (some (decide (K xs i<K xs j))) (eE st xs)):wpS (aM prog w) A E s (NP i j) Q (eE st xs):=VW hB h0 hi hj h
theorem MT{st:SortSt}{i j:Nat}{Q:Unit->SortSt->Prop}(hj:j<=(bM st).size)(h:∀xs,Ch xs (bM st) i j->(∀k,i<=k->k<j->K xs k=K (bM st) (i+j-1-k))->Q () (eE st xs)) :
  wpS (aM prog w) A E s (lJ i j) Q st:=by
 rw[reverseSlice'_eq];refine iL (h _ ⟨mirror_perm _ _ _ _,fun k hk=>?_⟩ fun k h1 h2=>?_)
 . rw[K_mirror hj,if_neg (by omega)]
 . rw[K_mirror hj,if_pos ⟨h1,h2⟩]
theorem vG{st:SortSt}{i j:Nat}{Q:Unit->SortSt->Prop}(hj:j<=(bM st).size)(he:∀k,i<=k->k<j->K (bM st) k=K (bM st) (j-1))(h:∀xs,xs.Perm (bM st)->(∀k,K xs k=K (bM st) k)->Q () (eE st xs)) :
  wpS (aM prog w) A E s (lJ i j) Q st:=by
 refine MT hj fun xs c hk=>h xs c.1 fun k=>?_
 by_cases hh:i<=k/\k<j
 . rw[hk k hh.1 hh.2,he _ (by omega) (by omega),he k hh.1 hh.2]
 . exact c.2 k (by omega)
noncomputable def dTail(lo m0 nrem:Nat):StateT SortSt Sem (Option Nat):=do
 let mut m:=m0
 lJ lo (lo+m)
 for _ in [m:nrem] do
  let some less <- NP (lo+m) (lo+m-1) | return none
  if less then break
  m:=m+1
 return some m
noncomputable def dPart(lo m0 nrem:Nat):StateT SortSt Sem (Option Nat):=do
 let mut m:=m0
 rule "list.sort.descending-run"
 m:=m+1
 let mut q:=0
 for _ in [m:nrem] do
  let some less <- NP (lo+m) (lo+m-1) | return none
  if less then
   if q>0 then lJ (lo+m-(q+1)) (lo+m)
   q:=0
  else
   let some more <- NP (lo+m-1) (lo+m) | return none
   if more then break
   q:=q+1
  m:=m+1
 if q>0 then lJ (lo+m-(q+1)) (lo+m)
 dTail lo m nrem
noncomputable def cRun(lo nrem:Nat):StateT SortSt Sem (Option Nat):=do
 let mut m:=1
 for _ in [1:nrem] do
  let some less <- NP (lo+m) (lo+m-1) | return none
  if less then break
  m:=m+1
 if m==nrem then return some m
 if m>1 then
  let some more <- NP lo (lo+m-1) | return none
  if more then return some m
  lJ lo (lo+m)
 dPart lo m nrem
theorem GI(lo nrem:Nat):countRun' lo nrem=cRun lo nrem:=by
 rw[countRun'_eq];rfl
theorem TW{xs:Array Keyed}{i j:Nat}(hs:Seg xs i j)(h:i<j->K xs (j-1)<=K xs j):Seg xs i (j+1):=by
 intro p q h1 h2 h3
 by_cases hq:q<j
 . exact hs p q h1 h2 hq
 . have : q = j := by omega
   subst this
   by_cases hp:p=q
   . subst hp;exact cQ _
   . exact dX (hs p (q-1) h1 (by omega) (by omega)) (h (by omega))
theorem wO{xs:Array Keyed}{i j:Nat}(hs:Dsc xs i j)(h:i<j->K xs j<=K xs (j-1)):Dsc xs i (j+1):=by
 intro p q h1 h2 h3
 by_cases hq:q<j
 . exact hs p q h1 h2 hq
 . have : q = j := by omega
   subst this
   by_cases hp:p=q
   . subst hp;exact cQ _
   . exact dX (h (by omega)) (hs p (q-1) h1 (by omega) (by omega))
theorem vY{xs ys:Array Keyed}{i j:Nat}(hs:Dsc xs i j)(h:∀k,K ys k=K xs k):Dsc ys i j:=by
 intro p q h1 h2 h3;rw[h,h];exact hs p q h1 h2 h3
theorem GW{st:SortSt}{lo a nrem:Nat}{R:Option (Option Nat)×Nat->SortSt->Prop}(h0:IntKeys a₀)(hn:lo+nrem<=a₀.size)(ha:1<=a)(han:a<=nrem)(hB:TB a₀ st)(hs:Seg (bM st) lo (lo+a))(h:∀n,a<=n->n<=nrem->Seg (bM st) lo (lo+n)->(n=nrem\/K (bM st) (lo+n)<K (bM st) (lo+n-1))->R (none,n) st) :
  wpS (aM prog w) A E s (forIn [a:nrem] ((none,a):Option (Option Nat)×Nat) fun _ c=>do
        let x <- NP (lo+c.snd) (lo+c.snd-1)
        match x with
         |some less=>if less=true then pure (ForInStep.done (none,c.snd)) else pure (ForInStep.yield (none,c.snd+1))
         |_=>pure (ForInStep.done (some none,c.snd))) R st:=by
 refine dB (I:=fun x c z=>z=st/\c=(none,x)/\Seg (bM st) lo (lo+x)) ?_ ?_ ⟨rfl,rfl,hs⟩
 . rintro x c z hax hxn ⟨rfl, rfl, hz⟩;dsimp only;refine aT (VW hB h0 (by omega) (by omega) ?_)
   by_cases hl:K (bM z) (lo+x)<K (bM z) (lo+x-1)
   . simp only[hl, decide_true, if_true];exact aZ (h x hax (by omega) hz (.inr hl))
   . simp only[hl, decide_false, bD, if_false];exact aZ ⟨rfl,rfl,TW hz fun _=>pY.mp hl⟩
 . rintro c z ⟨rfl, rfl, hz⟩;rw[show max a nrem=nrem by omega] at hz ⊢;exact h nrem han (aO _) hz (.inl rfl)
theorem YV{st:SortSt}{lo n nrem:Nat}{Q:Option Nat->SortSt->Prop}(h0:IntKeys a₀)(hn:lo+nrem<=a₀.size)(h1:1<=n)(hnn:n<=nrem)(hB:TB a₀ st)(hs:Dsc (bM st) lo (lo+n))(h:∀m xs,Ch xs (bM st) lo (lo+nrem)->1<=m->m<=nrem->Seg xs lo (lo+m)->Q (some m) (eE st xs)) :
  wpS (aM prog w) A E s (dTail lo n nrem) Q st:=by
 unfold dTail;refine aT (MT (by rw[hB.sz];omega) fun xs c hk=>?_);refine aT (GW h0 hn h1 hnn (hB.arr c.1) ?_ fun m hm1 hm2 hsm _=>aZ (h m xs (c.wide (aO _) (by omega)) (by omega) hm2 hsm));intro p q g1 g2 g3;show K xs p<=K xs q;rw[hk p g1 (by omega),hk q (by omega) g3];exact hs _ _ (by omega) (by omega) (by omega)
theorem KW{st:SortSt}{lo n nrem:Nat}{Q:Option Nat->SortSt->Prop}(h0:IntKeys a₀)(hn:lo+nrem<=a₀.size)(hnn:n+1<=nrem)(hB:TB a₀ st)(hs:Dsc (bM st) lo (lo+(n+1)))(h:∀m xs,Ch xs (bM st) lo (lo+nrem)->1<=m->m<=nrem->Seg xs lo (lo+m)->Q (some m) (eE st xs)) :
  wpS (aM prog w) A E s (dPart lo n nrem) Q st:=by
 unfold dPart;refine aT (pR (gQ ⟨rfl,?_⟩))
 refine aT (fO (dB
  (I:=fun x c z=>∃q xs,c=(none,x,q)/\z=eE st xs/\xs.Perm (bM st)/\(∀k,K xs k=K (bM st) k)/\Dsc xs lo (lo+x)/\q+1<=x/\∀i,lo+x-(q+1)<=i->i<lo+x->K xs i=K xs (lo+x-1))
  (Q:=fun c z=>∃x q xs,n+1<=x/\x<=nrem/\c=(none,x,q)/\z=eE st xs/\xs.Perm (bM st)/\(∀k,K xs k=K (bM st) k)/\Dsc xs lo (lo+x)/\q+1<=x/\∀i,lo+x-(q+1)<=i->i<lo+x->K xs i=K xs (lo+x-1))
  ?step ?fin ⟨0,bM st,rfl,rfl,iR _,fun _=>rfl,hs,by omega,fun i _ _=>by congr 1;omega⟩) ?post)
 case fin =>
  rintro c z ⟨q,xs,e1,e2,e3,e4,e5,e6,e7⟩;rw[show max (n+1) nrem=nrem by omega] at e1 e5 e6 e7;exact⟨nrem,q,xs,hnn,aO _,e1,e2,e3,e4,e5,e6,e7⟩
 case step =>
  rintro x c z hax hxn ⟨q,xs,rfl,rfl,hp,hk,hd,hq,he⟩;have hB':TB a₀ (eE st xs):=hB.arr hp;have hsz:lo+x<=(bM (eE st xs)).size:=by rw[hB'.sz];omega
  dsimp only;refine aT (VV hB' h0 (by omega) (by omega) ?_)
  by_cases hl:K xs (lo+x)<K xs (lo+x-1)
  . simp only [hl, decide_true, if_true];have hd1:Dsc xs lo (lo+x+1):=wO hd fun _=>dY hl
    by_cases hq0:q>0
    . rw[if_pos hq0];refine aT (vG hsz he fun ys y1 y2=>aZ ?_);exact⟨0,ys,rfl,rfl,y1.trans hp,fun k=>(y2 k).trans (hk k),vY hd1 y2,by omega,fun i _ _=>by congr 1;omega⟩
    . rw[if_neg hq0];exact aZ ⟨0,xs,rfl,rfl,hp,hk,hd1,by omega,fun i _ _=>by congr 1;omega⟩
  . simp only [hl, decide_false, bD, if_false];refine aT (VV hB' h0 (by omega) (by omega) ?_)
    by_cases hm:K xs (lo+x-1)<K xs (lo+x)
    . simp only[hm, decide_true, if_true];exact aZ ⟨x,q,xs,hax,by omega,rfl,rfl,hp,hk,hd,hq,he⟩
    . simp only [hm, decide_false, bD, if_false];have eq:K xs (lo+x)=K xs (lo+x - 1):=by omega
      refine aZ ⟨q+1,xs,rfl,rfl,hp,hk,wO hd fun _=>Int.le_of_eq eq,by omega,fun i g1 g2=>?_⟩;rw[show lo+(x+1)-1=lo+x by omega]
      by_cases hi:i=lo+x
      . rw[hi]
      . rw[eq];exact he i (by omega) (by omega)
 case post =>
  rintro c z ⟨x,q,xs,hx1,hx2,rfl,rfl,hp,hk,hd,hq,he⟩;have hB':TB a₀ (eE st xs):=hB.arr hp;have hsz:lo+x<=(bM (eE st xs)).size:=by rw[hB'.sz];omega
  have fin:∀ys:Array Keyed,ys.Perm xs->(∀k,K ys k=K xs k)->wpS (aM prog w) A E s (dTail lo x nrem) Q (eE st ys):=fun ys y1 y2 =>
   YV (st:=eE st ys) h0 hn (by omega) hx2 (hB.arr (y1.trans hp)) (vY hd y2) fun m zs c z1 z2 z3 =>
    h m zs (c.tr ⟨y1.trans hp,fun k _=>(y2 k).trans (hk k)⟩) z1 z2 z3
  dsimp only
  by_cases hq0:q>0
  . rw[if_pos hq0];exact aT (vG hsz he fun ys y1 y2=>fin ys y1 y2)
  . rw[if_neg hq0];exact fin xs (iR _) fun _=>rfl
theorem wp_run{st:SortSt}{lo nrem:Nat}{Q:Option Nat->SortSt->Prop}(h0:IntKeys a₀)(hn:lo+nrem<=a₀.size)(h1:1<=nrem)(hB:TB a₀ st)(h:∀m xs,Ch xs (bM st) lo (lo+nrem)->1<=m->m<=nrem->Seg xs lo (lo+m)->Q (some m) (eE st xs)) :
  wpS (aM prog w) A E s (countRun' lo nrem) Q st:=by
 rw[GI];unfold cRun;refine aT (GW h0 hn (aO 1) h1 hB (fun p q _ _ _=>by rw[show p=q by omega];exact cQ _) fun n g1 g2 hs hor=>?_);dsimp only
 by_cases hnn:n=nrem
 . rw[if_pos (by simpa using hnn)];exact aZ (h n _ Ch.rfl' g1 g2 hs)
 rw[if_neg (by simpa using hnn)];have hl:=hor.resolve_left hnn
 by_cases hgt:n>1
 . rw [if_pos hgt];refine aT (VW hB h0 (by omega) (by omega) ?_)
   by_cases hr:K (bM st) lo<K (bM st) (lo+n-1)
   . simp only[hr, decide_true, if_true];exact aZ (h n _ Ch.rfl' g1 g2 hs)
   . simp only [hr, decide_false, bD, if_false]
     have hall:∀k,lo<=k->k<lo+n->K (bM st) k=K (bM st) (lo+n-1):=fun k k1 k2=>by
      have a1:=hs lo k (aO _) k1 k2;have a2:=hs k (lo+n-1) k1 (by omega) (by omega);omega
     refine aT (vG (by rw[hB.sz];omega) hall fun ys y1 y2=>?_);refine KW (st:=eE st ys) h0 hn (by omega) (hB.arr y1) ?_ fun m zs c z1 z2 z3=>h m zs (c.tr ⟨y1,fun k _=>y2 k⟩) z1 z2 z3;refine vY (xs:=bM st) ?_ y2;show Dsc (bM st) lo (lo+n+1);refine wO (fun p q k1 k2 k3=>?_) fun _=>dY hl;rw[hall p k1 (by omega),hall q (by omega) k3];exact cQ _
 . rw [if_neg hgt];have e:n=1:=by omega
   subst e;refine KW h0 hn (by omega) hB ?_ h;exact wO (fun p q _ _ _=>by rw[show p=q by omega];exact cQ _) fun _=>dY hl
theorem wp_ins{st:SortSt}{lo n ok:Nat}{Q:Bool->SortSt->Prop}(h0:IntKeys a₀)(hn:lo+n<=a₀.size)(hok:ok<=n)(hB:TB a₀ st)(hs:Seg (bM st) lo (lo+ok))(h:∀xs,Ch xs (bM st) lo (lo+n)->Seg xs lo (lo+n)->Q true (eE st xs)):wpS (aM prog w) A E s (binarySort' lo n ok) Q st:=by
 rw[binarySort'_eq]
 refine aT (fO (dB (I:=fun k c z=>∃xs,c=(none,())/\z=eE st xs/\Ch xs (bM st) lo (lo+n)/\Seg xs lo (lo+min k n))
  (Q:=fun c z=>∃xs,c=(none,())/\z=eE st xs/\Ch xs (bM st) lo (lo+n)/\Seg xs lo (lo+n)) ?step ?fin ?init) ?post)
 case post =>
  rintro c z ⟨xs,rfl,rfl,c,hz⟩;exact aZ (h xs c hz)
 case init =>
  refine⟨bM st,rfl,rfl,Ch.rfl',fun p q k1 k2 k3=>?_⟩
  by_cases g:ok=0
  . have e : p = q := by omega
    rw[e];exact cQ _
  . exact hs p q k1 k2 (by omega)
 case fin =>
  rintro c z ⟨xs,e1,e2,e3,e4⟩;refine⟨xs,e1,e2,e3,?_⟩
  rwa [show min (max (max ok 1) n) n=n by omega] at e4
 case step =>
  rintro k c z hak hkn ⟨xs,rfl,rfl,c,hz⟩;rw[show min k n=k by omega] at hz;have hB':TB a₀ (eE st xs):=hB.arr c.1
  refine aT (fO (dB (I:=fun x e y=>y=eE st xs/\∃l r,e=(none,l,r)/\l<=r/\r<=k/\r-l<=k-x ∧
    (∀i,i<l->K xs (lo+i)<=K xs (lo+k))/\(∀i,r<=i->i<k->K xs (lo+k)<K xs (lo+i)))
   (Q:=fun e y=>y=eE st xs/\∃l r,e=(none,l,r)/\l<=k ∧
     (∀i,i<l->K xs (lo+i)<=K xs (lo+k))/\(∀i,l<=i->i<k->K xs (lo+k)<K xs (lo+i))) ?a ?b ?c) ?d)
  case c=>exact⟨rfl,0,k,rfl,by omega,by omega,by omega,fun i hi=>by omega,fun i _ _=>by omega⟩
  case b =>
   rintro e y ⟨rfl,l,r,rfl,g1,g2,g3,g4,g5⟩;have e:l=r:=by omega
   subst e;exact⟨rfl,l,l,rfl,g2,g4,g5⟩
  case a =>
   rintro x e y _ hx ⟨rfl,l,r,rfl,g1,g2,g3,g4,g5⟩;dsimp only
   by_cases hge:l≥r
   . rw [if_pos hge];have e:l=r:=by omega
     subst e;exact aZ ⟨rfl,l,l,rfl,g2,g4,g5⟩
   . rw [if_neg hge];refine aT (VV hB' h0 (by omega) (by omega) ?_)
     by_cases hl:K xs (lo+k)<K xs (lo+(l+r)/2)
     . simp only[hl, decide_true, if_true];exact aZ ⟨rfl,l,(l+r)/2,rfl,by omega,by omega,by omega,g4,fun i k1 k2=>Int.lt_of_lt_of_le hl (hz _ _ (by omega) (by omega) (by omega))⟩
     . simp only[hl, decide_false, bD, if_false];exact aZ ⟨rfl,(l+r)/2+1,r,rfl,by omega,by omega,by omega,fun i k1=>dX (hz (lo+i) (lo+(l+r)/2) (by omega) (by omega) (by omega)) (pY.mp hl),g5⟩
  case d =>
   rintro e y ⟨rfl,l,r,rfl,g1,g2,g3⟩;show wpS _ _ _ _ (do moveDown' (lo+k) (lo+l);pure (ForInStep.yield (none,()))) _ _;rw[moveDown'_eq];have hks:lo+k<xs.size:=by have:=hB'.sz;change xs.size=_ at this;omega
   have hkk:∀i,K (bubble xs (lo+k) (lo+k-(lo+l))) i=if i=lo+l then K xs (lo+k) else if lo+l<i/\i<=lo+k then K xs (i-1) else K xs i:=fun i=>by
    rw[K_bubble hks (by omega),show lo+k-(lo+k-(lo+l))=lo+l by omega]
   refine aT (iL (aZ ⟨_,rfl,rfl,⟨(bubble_perm _ _ _).trans c.1,fun i hi=>?_⟩,?_⟩))
   . show K (bubble xs (lo + k) (lo + k-(lo + l))) i=_;rw[hkk,if_neg (by omega),if_neg (by omega)];exact c.2 i hi
   . rw [show min (k + 1) n = k + 1 by omega];intro p q k1 k2 k3;show K (bubble xs (lo+k) (lo+k - (lo+l))) p<=K (bubble xs (lo+k) (lo+k - (lo+l))) q;rw [hkk,hkk];have lo':∀ i,lo<=i->i < lo+l->K xs i<=K xs (lo+k):=fun i a b=>by have:=g2 (i - lo) (by omega); rwa [show lo+(i - lo)=i by omega] at this
     have hi':∀i,lo+l<=i->i<lo+k->K xs (lo+k)<=K xs i:=fun i a b=>by have:=g3 (i-lo) (by omega) (by omega);rw[show lo+(i-lo)=i by omega] at this;exact dY this
     repeat' split
     all_goals first
      |(exfalso;omega)
      |exact cQ _
      |exact lo' _ (by omega) (by omega)
      |exact hi' _ (by omega) (by omega)
      |exact hz _ _ (by omega) (by omega) (by omega)
end
set_option autoImplicit false
noncomputable def lY:Bool->Keyed->Array Keyed->Nat->Nat->Nat->StateT SortSt Sem (Option Nat):=sortPriv% PySem.Builtin.gallop
noncomputable def galB(ask:Nat->StateT SortSt Sem (Option Bool))(n l₀ h₀ : Nat):StateT SortSt Sem (Option Nat):=do
 let mut lo:=l₀
 let mut hi:=h₀
 for _ in [0:n] do
  if lo≥hi then break
  let mid:=lo+(hi-lo)/2
  let some yes <- ask mid | return none
  if yes then lo:=mid+1 else hi:=mid
 return some hi
noncomputable def gal(ask:Nat->StateT SortSt Sem (Option Bool))(n hint:Nat):StateT SortSt Sem (Option Nat):=do
 let mut last:=0
 let mut off:=1
 let mut lo:=0
 let mut hi:=0
 let some right <- ask hint | return none
 if right then
  let top:=n-hint
  for _ in [0:n] do
   if off≥top then break
   let some yes <- ask (hint+off) | return none
   if !yes then break
   last:=off
   off:=2*off+1
  lo:=hint+last+1
  hi:=hint+min off top
 else
  let top:=hint+1
  for _ in [0:n] do
   if off≥top then break
   let some yes <- ask (hint-off) | return none
   if yes then break
   last:=off
   off:=2*off+1
  lo:=hint+1-min off top
  hi:=hint-last
 galB ask n lo hi
theorem QI(left:Bool)(key:Keyed)(arr:Array Keyed)(base n hint:Nat):lY left key arr base n hint=gal (fun i=>do
  let x <- iP arr (base+i)
  if left then lt' x key else return (<- lt' key x).map (!·)) n hint:=rfl
section
variable{prog:aY}{w:bS}{A:bR}{E:Value->aC->Prop}{s:aC}
def Cut(g:Nat->Bool)(n r:Nat):Prop:=r<=n/\(∀i,i<r->g i=true)/\∀i,r<=i->i<n->g i=false
variable{st:SortSt}{ask:Nat->StateT SortSt Sem (Option Bool)}{g:Nat->Bool}{n:Nat}(hask:∀(i:Nat) (R:Option Bool->SortSt->Prop),i<n->R (some (g i)) st->wpS (aM prog w) A E s (ask i) R st)(mono:∀i j,i<=j->j<n->g j=true->g i=true)
include hask mono
theorem KZ{l₀ h₀ : Nat}{Q:Option Nat->SortSt->Prop}(hle:l₀<=h₀)(hh:h₀<=n)(hl:∀i,i<l₀->g i=true)(hg:∀i,h₀<=i->i<n->g i=false)(h:∀r,Cut g n r->Q (some r) st):wpS (aM prog w) A E s (galB ask n l₀ h₀) Q st:=by
 unfold galB
 refine aT (fO (dB
  (I:=fun x c z=>z=st/\∃l r,c=(none,l,r)/\l<=r/\r<=n/\r-l<=n-x/\(∀i,i<l->g i=true)/\(∀i,r<=i->i<n->g i=false))
  (Q:=fun c z=>z=st/\∃l,∃r,c=(none,l,r)/\Cut g n r) ?a ?b ⟨rfl,l₀,h₀,rfl,hle,hh,by omega,hl,hg⟩) ?c)
 case c =>
  rintro c z ⟨rfl,l,r,rfl,hc⟩;exact aZ (h r hc)
 case b =>
  rintro c z ⟨rfl,l,r,rfl,g1,g2,g3,g4,g5⟩;have e:l=r:=by omega
  subst e;exact⟨rfl,l,l,rfl,g2,g4,g5⟩
 case a =>
  rintro x c z _ hx ⟨rfl,l,r,rfl,g1,g2,g3,g4,g5⟩;dsimp only
  by_cases hge:l≥r
  . rw [if_pos hge];have e:l=r:=by omega
    subst e;exact aZ ⟨rfl,l,l,rfl,g2,g4,g5⟩
  . rw [if_neg hge];refine aT (hask _ _ (by omega) ?_);dsimp only;cases hy:g (l+(r - l) / 2) with
    | true =>
      simp only[if_true];exact aZ ⟨rfl,l+(r-l)/2+1,r,rfl,by omega,g2,by omega,fun i hi=>mono i _ (by omega) (by omega) hy,g5⟩
    | false =>
      simp only[bD,if_false];refine aZ ⟨rfl,l,l+(r-l)/2,rfl,by omega,by omega,by omega,g4,fun i h1 h2=>?_⟩;cases hi:g i with
      |false=>rfl
      |true=>rw[mono _ i h1 h2 hi] at hy;cases hy
theorem wp_gal{hint:Nat}{Q:Option Nat->SortSt->Prop}(hhint:hint<n)(h:∀r,Cut g n r->Q (some r) st):wpS (aM prog w) A E s (gal ask n hint) Q st:=by
 unfold gal;refine aT (hask _ _ hhint ?_);dsimp only;cases hr:g hint with
 | true =>
   simp only[if_true]
   refine aT (fO (dB
    (I:=fun x c z=>z=st/\∃l o,c=(none,l,o)/\l<o/\x+1<=o/\hint+l<n/\g (hint+l)=true)
    (Q:=fun c z=>z=st/\∃l o,c=(none,l,o)/\l<o/\hint+l<n/\g (hint+l)=true/\(n-hint<=o\/(hint+o<n/\g (hint+o)=false))) ?a ?b ⟨rfl,0,1,rfl,by omega,by omega,hhint,hr⟩) ?c)
   case c =>
    rintro c z ⟨rfl,l,o,rfl,h1,h2,h3,h4⟩;dsimp only;refine KZ hask mono (by omega) (by omega) (fun i hi=>mono i _ (by omega) h2 h3) (fun i i1 i2=>?_) h;rcases h4 with h4 | ⟨h4,h5⟩
    . omega
    . cases hi : g i with
      |false=>rfl
      |true=>rw[mono _ i (by omega) i2 hi] at h5;cases h5
   case b =>
    rintro c z ⟨rfl,l,o,rfl,h1,h2,h3,h4⟩;exact⟨rfl,l,o,rfl,h1,h3,h4,.inl (by omega)⟩
   case a =>
    rintro x c z _ hx ⟨rfl,l,o,rfl,h1,h2,h3,h4⟩;dsimp only
    by_cases hge:o≥n-hint
    . rw[if_pos hge];exact aZ ⟨rfl,l,o,rfl,h1,h3,h4,.inl hge⟩
    . rw [if_neg hge];refine aT (hask _ _ (by omega) ?_);dsimp only;cases hy:g (hint+o) with
      | true =>
        simp only[iZ,bD,if_false];exact aZ ⟨rfl,o,2*o+1,rfl,by omega,by omega,by omega,hy⟩
      | false =>
        simp only[Bool.not_false,if_true];exact aZ ⟨rfl,l,o,rfl,h1,h3,h4,.inr ⟨by omega,hy⟩⟩
 | false =>
   simp only[bD,if_false]
   refine aT (fO (dB
    (I:=fun x c z=>z=st/\∃l o,c=(none,l,o)/\l<o/\x+1<=o/\l<=hint/\g (hint-l)=false)
    (Q:=fun c z=>z=st/\∃l o,c=(none,l,o)/\l<o/\l<=hint/\g (hint-l)=false/\(hint+1<=o\/(o<=hint/\g (hint-o)=true))) ?a ?b ⟨rfl,0,1,rfl,by omega,by omega,by omega,hr⟩) ?c)
   case c =>
    rintro c z ⟨rfl,l,o,rfl,h1,h2,h3,h4⟩;dsimp only;refine KZ hask mono (by omega) (by omega) (fun i hi=>?_) (fun i i1 i2=>?_) h
    . rcases h4 with h4 | ⟨h4, h5⟩
      . omega
      . exact mono i _ (by omega) (by omega) h5
    . cases hi : g i with
      |false=>rfl
      |true=>rw[mono _ i i1 i2 hi] at h3;cases h3
   case b =>
    rintro c z ⟨rfl,l,o,rfl,h1,h2,h3,h4⟩;exact⟨rfl,l,o,rfl,h1,h3,h4,.inl (by omega)⟩
   case a =>
    rintro x c z _ hx ⟨rfl,l,o,rfl,h1,h2,h3,h4⟩;dsimp only
    by_cases hge:o≥hint+1
    . rw[if_pos hge];exact aZ ⟨rfl,l,o,rfl,h1,h3,h4,.inl hge⟩
    . rw [if_neg hge];refine aT (hask _ _ (by omega) ?_);dsimp only;cases hy:g (hint - o) with
      | true =>
        simp only[if_true];exact aZ ⟨rfl,l,o,rfl,h1,h3,h4,.inr ⟨by omega,hy⟩⟩
      | false =>
        simp only[bD,if_false];exact aZ ⟨rfl,o,2*o+1,rfl,by omega,by omega,by omega,hy⟩
end
section
variable{prog:aY}{w:bS}{A:bR}{E:Value->aC->Prop}{s:aC}{st:SortSt}
theorem KY{x y:Keyed}{Q:Option Bool->SortSt->Prop}(hk:kindOf st=gE)(hx:IsI x)(hy:IsI y)(h:Q (some (decide (ky x<ky y))) st) :
  wpS (aM prog w) A E s (lt' x y) Q st:=by
 obtain⟨x1,x2⟩:=x;obtain⟨y1,y2⟩:=y;obtain⟨a,t,ha⟩:=hx;obtain⟨b,u,hb⟩:=hy;simp only at ha hb;subst ha hb;rw[lt'_eq];refine aT (oM ?_);rw[hk,keyLt'_oneType];refine aT (pR (wpAny_attempt (oneLt_int ⟨rfl,?_⟩)));exact aZ h
theorem qP{arr:Array Keyed}{i:Nat}{p:Keyed}{Q:Keyed->SortSt->Prop}(hp:arr[i]?=some p)(h:Q p st):wpS (aM prog w) A E s (iP arr i) Q st:=by
 rw[elem'_eq,hp];exact aZ h
theorem yN{left:Bool}{key:Keyed}{arr:Array Keyed}{base n hint:Nat}{Q:Option Nat->SortSt->Prop}(hk:kindOf st=gE)(hkey:IsI key)(hI:∀p∈arr.toList,IsI p)(hb:base+n<=arr.size)(hs:Seg arr base (base+n))(hhint:hint<n)(h:∀r,r<=n->(∀i,base<=i->i<base+r->if left then K arr i<ky key else K arr i<=ky key)->(∀i,base+r<=i->i<base+n->if left then ky key<=K arr i else ky key<K arr i)->Q (some r) st) :
  wpS (aM prog w) A E s (lY left key arr base n hint) Q st:=by
 rw[QI];refine wp_gal (g:=fun i=>if left then decide (K arr (base+i)<ky key) else decide (K arr (base+i)<=ky key)) ?_ ?_ hhint ?_
 . intro i R hi hR;have hi':base+i < arr.size:=by omega
   have e:arr[base+i]?=some arr[base+i]:=getElem?_pos arr (base+i) hi';have hp:IsI arr[base+i]:=hI _ (by simp);have eK:K arr (base+i)=ky arr[base+i]:=K_eq hi';refine aT (qP e ?_);cases left with
   | true =>
     simp only[if_true] at hR ⊢;refine KY hk hp hkey ?_;rw[<- eK];exact hR
   | false =>
     simp only[bD,if_false] at hR ⊢;refine aT (KY hk hkey hp ?_);refine aZ ?_
     have:(Option.map (fun x=>!x) (some (decide (ky key<ky arr[base+i]))))=some (decide (K arr (base+i)<=ky key)):=by
      rw[eK];simp only[cX,Option.some.injEq]
      by_cases hlt:ky key<ky arr[base+i]
      . simp[hlt,Int.not_le.mpr hlt]
      . simp[hlt,pY.mp hlt]
     rw[this];exact hR
 . intro i j hij hj hg;have:=hs (base+i) (base+j) (by omega) (by omega) (by omega);cases left<;>simp only[bD,if_false,if_true,decide_eq_true_eq] at hg ⊢<;>omega
 . rintro r ⟨h1, h2, h3⟩;refine h r h1 (fun i i1 i2=>?_) fun i i1 i2=>?_
   . have := h2 (i-base) (by omega);dsimp only at this;rw[show base+(i-base)=i by omega] at this;cases left<;>simpa using this
   . have := h3 (i-base) (by omega) (by omega);dsimp only at this;rw[show base+(i-base)=i by omega] at this;cases left<;>simpa using this
end
set_option autoImplicit false
def Sd(l:List Keyed):Prop:=l.Pairwise fun p q=>ky p<=ky q
theorem Sd.app{l r:List Keyed}: Sd (l++r)↔Sd l/\Sd r/\∀p∈l,∀q∈r,ky p<=ky q:=by
 unfold Sd;rw[gH]
theorem vN{a:Array Keyed}(h:Sd a.toList){i j:Nat}(hj:j<=a.size):Seg a i j:=by
 intro p q h1 h2 h3;rw[K_eq (show p<a.size by omega),K_eq (show q<a.size by omega)]
 by_cases e:p=q
 . subst e;exact cQ _
 . have := bU.mp h p q (by simp;omega) (by simp;omega) (by omega);simpa[ky] using this
theorem yD{a:Array Keyed}{i:Nat}{p:Keyed}(h:a.toList[i]?=some p):i<a.size/\K a i=ky p:=by
 obtain⟨h1,h2⟩:=aV.mp h;have h1':i<a.size:=by simpa using h1
 refine⟨h1',?_⟩;rw[K_eq h1',<- h2];simp[ky]
theorem vU{l:List Keyed}{x:Nat}{p:Keyed}(h:p∈l.drop x):∃i,x<=i/\l[i]?=some p:=by
 obtain⟨i,hi,e⟩:=eM h;refine⟨x+i,by omega,?_⟩;rw[<- lV,aK hi,e]
theorem jM{l:List Keyed}{x k:Nat}{p:Keyed}(h:p∈(l.drop x).take k):∃i,x<=i/\i<x+k/\l[i]?=some p:=by
 obtain⟨i,hi,e⟩:=eM h;have hk:i<k:=by rw[dS] at hi;omega
 refine⟨x+i,by omega,by omega,?_⟩;rw[<- lV,<- eY hk,aK hi,e]
theorem wQ{l:List Keyed}{k:Nat}{p:Keyed}(h:p∈l.take k):∃i,i<k/\l[i]?=some p:=by
 obtain⟨i,hi,e⟩:=eM h;have hk:i<k:=by rw[dS] at hi;omega
 exact⟨i,hk,by rw[<- eY hk,aK hi,e]⟩
theorem sQ{a:Array Keyed}(h:Sd a.toList){x:Nat}{p:Keyed}(hp:a.toList[x]?=some p):∀q∈a.toList.drop x,ky p<=ky q:=by
 intro q hq;obtain⟨i,h1,h2⟩:=vU hq;obtain⟨g1,g2⟩:=yD hp;obtain⟨g3,g4⟩:=yD h2;rw[<- g2,<- g4];exact vN h (aO _) x i (aO _) h1 g3
theorem ZE{a:Array Keyed}(h:Sd a.toList){x:Nat}{p:Keyed}(hp:a.toList[x]?=some p):∀q∈a.toList.take (x+1),ky q<=ky p:=by
 intro q hq;obtain⟨i,h1,h2⟩:=wQ hq;obtain⟨g1,g2⟩:=yD hp;obtain⟨g3,g4⟩:=yD h2;rw[<- g2,<- g4];exact vN h (aO _) i x (bW _) (by omega) g1
structure Mg(a b:List Keyed)(o:List Keyed)(x y:Nat):Prop where
 xa:x<=a.length
 yb:y<=b.length
 pm:(o++(a.drop x++b.drop y)).Perm (a++b)
 sd:Sd o
 le:∀p∈o,∀q,(q∈a.drop x\/q∈b.drop y)->ky p<=ky q
theorem Mg.stepA{a b o:List Keyed}{x y:Nat}(m:Mg a b o x y)(ha:Sd a)(t:List Keyed)(k:Nat)(ht:t=(a.drop x).take k)(hk:x+k<=a.length)(h:∀p∈t,∀q∈b.drop y,ky p<=ky q) :
  Mg a b (o++t) (x+k) y:=by
 have e:a.drop x=t++a.drop (x+k):=by rw[ht,<- oJ,eP]
 have hs:Sd (t++a.drop (x+k)):=by rw[<- e];exact bV (fV ..) ha
 obtain⟨s1,s2,s3⟩:=Sd.app.mp hs;refine⟨hk,m.yb,?_,?_,?_⟩
 . have := m.pm;rw[e] at this;rw[bH,<- bH t];exact this
 . exact Sd.app.mpr ⟨m.sd,s1,fun p hp q hq=>m.le p hp q (.inl (by rw[e];exact bZ _ hq))⟩
 . intro p hp q hq;rcases bI.mp hp with hp | hp
   . refine m.le p hp q ?_;rcases hq with hq | hq
     . exact .inl (by rw[e];exact bJ _ hq)
     . exact .inr hq
   . rcases hq with hq | hq
     . exact s3 p hp q hq
     . exact h p hp q hq
theorem Mg.stepB{a b o:List Keyed}{x y:Nat}(m:Mg a b o x y)(hb:Sd b)(t:List Keyed)(k:Nat)(ht:t=(b.drop y).take k)(hk:y+k<=b.length)(h:∀p∈t,∀q∈a.drop x,ky p<=ky q) :
  Mg a b (o++t) x (y+k):=by
 have e:b.drop y=t++b.drop (y+k):=by rw[ht,<- oJ,eP]
 have hs:Sd (t++b.drop (y+k)):=by rw[<- e];exact bV (fV ..) hb
 obtain⟨s1,s2,s3⟩:=Sd.app.mp hs;refine⟨m.xa,hk,?_,?_,?_⟩
 . refine List.Perm.trans ?_ m.pm;rw[e,bH];refine fH _ ?_;rw[<- bH,<- bH];exact gZ _ iS
 . exact Sd.app.mpr ⟨m.sd,s1,fun p hp q hq=>m.le p hp q (.inr (by rw[e];exact bZ _ hq))⟩
 . intro p hp q hq;rcases bI.mp hp with hp | hp
   . refine m.le p hp q ?_;rcases hq with hq | hq
     . exact .inl hq
     . exact .inr (by rw[e];exact bJ _ hq)
   . rcases hq with hq | hq
     . exact h p hp q hq
     . exact s3 p hp q hq
def Dn(a b:List Keyed)(r:List Keyed):Prop:=r.Perm (a++b)/\Sd r
theorem Mg.endF{a b o:List Keyed}{x y:Nat}(m:Mg a b o x y)(ha:Sd a)(hb:Sd b)(h:x=a.length\/y=b.length):Dn a b (o++a.drop x++b.drop y):=by
 refine⟨by rw[bH];exact m.pm,?_⟩;rw[bH];refine Sd.app.mpr ⟨m.sd,?_,fun p hp q hq=>m.le p hp q (bI.mp hq)⟩;rcases h with h | h
 . rw[h,eO,dF];exact bV (fV ..) hb
 . rw[h,eO,dG];exact bV (fV ..) ha
theorem Mg.endA{a b o:List Keyed}{x y:Nat}(m:Mg a b o x y)(hb:Sd b)(h:x+1=a.length)(hl:∀q∈b,∀p,a[a.length-1]?=some p->ky q<=ky p):Dn a b (o++b.drop y++a.drop x):=by
 obtain⟨p,hp⟩:∃p,a.drop x=[p]:=by
  have hl:(a.drop x).length=1:=by rw[gL];omega
  match he:a.drop x,hl with
  |[p],_=>exact⟨p,rfl⟩
 have hp':a[a.length-1]?=some p:=by
  have:=lV (xs:=a) (i:=x) (j:=0);rw[hp] at this;rw[show a.length-1=x+0 by omega,<- this];rfl
 refine⟨?_,?_⟩
 . refine List.Perm.trans ?_ m.pm;rw[bH];exact fH _ iS
 . rw [bH];refine Sd.app.mpr ⟨m.sd,Sd.app.mpr ⟨bV (fV ..) hb,?_,?_⟩,?_⟩
   . rw[hp];exact dR _ _
   . intro q hq r hr;rw[hp] at hr;rw[cD.mp hr];exact hl q (oG hq) p hp'
   . intro q hq r hr;rcases bI.mp hr with hr | hr
     . exact m.le q hq r (.inr hr)
     . exact m.le q hq r (.inl hr)
noncomputable def tG:Array Keyed->Array Keyed->StateT SortSt Sem (Array Keyed):=sortPriv% PySem.Builtin.mergeLo
noncomputable def tH:Array Keyed->Array Keyed->StateT SortSt Sem (Array Keyed):=sortPriv% PySem.Builtin.mergeHi
noncomputable def setMG(g:Nat):StateT SortSt Sem Unit:=(sortPriv% PySem.Builtin.setMinGallop) g
abbrev gst(z:SortSt)(g:Nat):SortSt:=SortSt.mk' (kindOf z) (bM z) (bP z) g (pV z)
theorem wJ(g:Nat):setMG g=modify fun z=>gst z g:=rfl
abbrev GS:=Option (Array Keyed)×Array Keyed×Nat×Nat×Nat×Nat×Nat
abbrev OS:=Option (Array Keyed)×Array Keyed×Nat×Nat×Nat×Nat
abbrev TSt:=Option (Array Keyed)×Array Keyed×Nat×Nat×Nat
noncomputable def fin(a b o:Array Keyed)(x y:Nat):Array Keyed:=o++a.extract x a.size++b.extract y b.size
noncomputable def finA(a b o:Array Keyed)(x y:Nat):Array Keyed:=o++b.extract y b.size++a.extract x a.size
noncomputable def lo3(a b o:Array Keyed)(x y mg ca cb:Nat):StateT SortSt Sem (ForInStep GS):=do
 let p <- iP a x
 if (x+1+1==a.size)=true then pure (ForInStep.done (some (finA a b (o.push p) (x+1) y),o.push p,x+1,y,mg,ca,cb))
 else if (decide (ca<7)&&decide (cb<7))=true then pure (ForInStep.done (none,o.push p,x+1,y,mg,ca,cb))
 else pure (ForInStep.yield (none,o.push p,x+1,y,mg,ca,cb))
noncomputable def lo2(a b o:Array Keyed)(x y mg ca cb:Nat):StateT SortSt Sem (ForInStep GS):=do
 let p <- iP b y
 if (y+1==b.size)=true then pure (ForInStep.done (some (fin a b (o.push p) x (y+1)),o.push p,x,y+1,mg,ca,cb))
 else do
  let q <- iP a x
  let r <- lY true q b (y+1) (b.size-(y+1)) 0
  match r with
   | some k =>
     if k>0 then
      if (y+1+k==b.size)=true then pure (ForInStep.done (some (fin a b (o.push p++b.extract (y+1) (y+1+k)) x (y+1+k)),o.push p++b.extract (y+1) (y+1+k),x,y+1+k,mg,ca,k))
      else lo3 a b (o.push p++b.extract (y+1) (y+1+k)) x (y+1+k) mg ca k
     else lo3 a b (o.push p) x (y+1) mg ca k
   |_=>pure (ForInStep.done (some (fin a b (o.push p) x (y+1)),o.push p,x,y+1,mg,ca,cb))
noncomputable def lo1(a b o:Array Keyed)(x y mg ca cb:Nat):StateT SortSt Sem (ForInStep GS):=do
 setMG mg
 let q <- iP b y
 let r <- lY false q a x (a.size-x) 0
 match r with
  | some k =>
    if k>0 then
     if (x+k+1==a.size)=true then pure (ForInStep.done (some (finA a b (o++a.extract x (x+k)) (x+k) y),o++a.extract x (x+k),x+k,y,mg,k,cb))
     else if (x+k==a.size)=true then pure (ForInStep.done (some (fin a b (o++a.extract x (x+k)) (x+k) y),o++a.extract x (x+k),x+k,y,mg,k,cb))
     else lo2 a b (o++a.extract x (x+k)) (x+k) y mg k cb
    else lo2 a b o x y mg k cb
  |_=>pure (ForInStep.done (some (fin a b o x y),o,x,y,mg,ca,cb))
noncomputable def loO(a b:Array Keyed)(mg:Nat)(c:OS):StateT SortSt Sem (ForInStep OS):=do
 let p <- iP b c.2.2.2.1
 let q <- iP a c.2.2.1
 let r <- lt' p q
 match r with
  | some bw =>
    if bw=true then do
     let p <- iP b c.2.2.2.1
     if (c.2.2.2.1+1==b.size)=true then pure (ForInStep.done (some (fin a b (c.2.1.push p) c.2.2.1 (c.2.2.2.1+1)),c.2.1.push p,c.2.2.1,c.2.2.2.1+1,0,c.2.2.2.2.2+1))
     else if c.2.2.2.2.2+1≥mg then pure (ForInStep.done (none,c.2.1.push p,c.2.2.1,c.2.2.2.1+1,0,c.2.2.2.2.2+1))
     else pure (ForInStep.yield (none,c.2.1.push p,c.2.2.1,c.2.2.2.1+1,0,c.2.2.2.2.2+1))
    else do
     let p <- iP a c.2.2.1
     if (c.2.2.1+1+1==a.size)=true then pure (ForInStep.done (some (finA a b (c.2.1.push p) (c.2.2.1+1) c.2.2.2.1),c.2.1.push p,c.2.2.1+1,c.2.2.2.1,c.2.2.2.2.1+1,0))
     else if c.2.2.2.2.1+1≥mg then pure (ForInStep.done (none,c.2.1.push p,c.2.2.1+1,c.2.2.2.1,c.2.2.2.2.1+1,0))
     else pure (ForInStep.yield (none,c.2.1.push p,c.2.2.1+1,c.2.2.2.1,c.2.2.2.2.1+1,0))
  |_=>pure (ForInStep.done (some (fin a b c.2.1 c.2.2.1 c.2.2.2.1),c.2.1,c.2.2.1,c.2.2.2.1,c.2.2.2.2.1,c.2.2.2.2.2))
noncomputable def loT(a b:Array Keyed)(c:TSt):StateT SortSt Sem (ForInStep TSt):=do
 let d <- forIn [0:a.size+b.size] ((none,c.2.1,c.2.2.1,c.2.2.2.1,0,0):OS) fun _ d=>loO a b c.2.2.2.2 d
 match d.1 with
  |some r=>pure (ForInStep.done (some r,d.2.1,d.2.2.1,d.2.2.2.1,c.2.2.2.2))
  | none => do
    liftM (rule "list.sort.gallop")
    let e <- forIn [0:a.size+b.size] ((none,d.2.1,d.2.2.1,d.2.2.2.1,c.2.2.2.2+1,d.2.2.2.2.1,d.2.2.2.2.2):GS) fun _ e =>
     if e.2.2.2.2.1>1 then lo1 a b e.2.1 e.2.2.1 e.2.2.2.1 (e.2.2.2.2.1-1) e.2.2.2.2.2.1 e.2.2.2.2.2.2 else lo1 a b e.2.1 e.2.2.1 e.2.2.2.1 e.2.2.2.2.1 e.2.2.2.2.2.1 e.2.2.2.2.2.2
    match e.1 with
     |some r=>pure (ForInStep.done (some r,e.2.1,e.2.2.1,e.2.2.2.1,e.2.2.2.2.1))
     | none => do
       setMG (e.2.2.2.2.1+1)
       pure (ForInStep.yield (none,e.2.1,e.2.2.1,e.2.2.2.1,e.2.2.2.2.1+1))
noncomputable def mLo(a b:Array Keyed):StateT SortSt Sem (Array Keyed):=do
 liftM (rule "list.sort.merge-lo")
 let p <- iP b 0
 if (1==b.size)=true then pure (fin a b #[p] 0 1)
 else if (0+1==a.size)=true then pure (finA a b #[p] 0 1)
 else do
  let z <- get
  let c <- forIn [0:a.size+b.size] ((none,#[p],0,1,nV z):TSt) fun _ c=>loT a b c
  match c.1 with
   |some r=>pure r
   |none=>liftM (unsupported "internal:list.sort.merge-bound" : Sem (Array Keyed))
theorem JB(a b:Array Keyed):tG a b=mLo a b:=by kernel_rfl
structure Two(a b:Array Keyed):Prop where
 sa:Sd a.toList
 sb:Sd b.toList
 ia:∀p∈a.toList,IsI p
 ib:∀p∈b.toList,IsI p
 na:1<=a.size
 nb:1<=b.size
 fst:∀p∈a.toList,∀q,b.toList[0]?=some q->ky q<=ky p
 lst:∀q∈b.toList,∀p,a.toList[a.toList.length-1]?=some p->ky q<=ky p
theorem WU(a b o:Array Keyed)(x y:Nat):(fin a b o x y).toList=o.toList++a.toList.drop x++b.toList.drop y:=by
 unfold fin;simp only[dL,eG,List.extract_eq_drop_take];congr 1
 . congr 1;rw[dH (by simp)]
 . rw[dH (by simp)]
theorem QJ(a b o:Array Keyed)(x y:Nat):(finA a b o x y).toList=o.toList++b.toList.drop y++a.toList.drop x:=by
 unfold finA;simp only[dL,eG,List.extract_eq_drop_take];congr 1
 . congr 1;rw[dH (by simp)]
 . rw[dH (by simp)]
theorem wR(a:Array Keyed)(x k:Nat):(a.extract x (x+k)).toList=(a.toList.drop x).take k:=by
 simp only[eG,List.extract_eq_drop_take];congr 1;omega
theorem wP{l:List Keyed}{x:Nat}{p:Keyed}(h:l[x]?=some p):[p]=(l.drop x).take 1:=by
 obtain⟨h1,h2⟩:=aV.mp h;rw[cE h1,h2];rfl
theorem jE{a:Array Keyed}{x:Nat}(h:x<a.size):∃p,a[x]?=some p/\a.toList[x]?=some p/\p∈a.toList :=
 ⟨a[x],getElem?_pos a x h,by rw[cN];exact getElem?_pos a x h,by simp⟩
section
variable{prog:aY}{w:bS}{A:bR}{E:Value->aC->Prop}{s:aC}{a b:Array Keyed}
structure In(a b o:Array Keyed)(x y:Nat):Prop where
 mg:Mg a.toList b.toList o.toList x y
 x1:x+1<a.size
 y1:y<b.size
def Told(a b:Array Keyed)(r:Array Keyed):Prop:=Dn a.toList b.toList r.toList
theorem Mg.pushA{o:Array Keyed}{x y:Nat}{p:Keyed}(T:Two a b)(m:Mg a.toList b.toList o.toList x y)(hp:a.toList[x]?=some p)(h:∀q∈b.toList.drop y,ky p<=ky q) :
  Mg a.toList b.toList (o.push p).toList (x+1) y:=by
 rw[dW];refine m.stepA T.sa [p] 1 (wP hp) ?_ fun q hq=>by rw[cD.mp hq];exact h
 obtain⟨h1,_⟩:=aV.mp hp;omega
theorem Mg.pushB{o:Array Keyed}{x y:Nat}{p:Keyed}(T:Two a b)(m:Mg a.toList b.toList o.toList x y)(hp:b.toList[y]?=some p)(h:∀q∈a.toList.drop x,ky p<=ky q) :
  Mg a.toList b.toList (o.push p).toList x (y+1):=by
 rw[dW];refine m.stepB T.sb [p] 1 (wP hp) ?_ fun q hq=>by rw[cD.mp hq];exact h
 obtain⟨h1,_⟩:=aV.mp hp;omega
theorem Mg.told{o:Array Keyed}{x y:Nat}(T:Two a b)(m:Mg a.toList b.toList o.toList x y)(h:x=a.size\/y=b.size):Told a b (fin a b o x y):=by
 unfold Told;rw[WU];exact m.endF T.sa T.sb (by simpa using h)
theorem Mg.toldA{o:Array Keyed}{x y:Nat}(T:Two a b)(m:Mg a.toList b.toList o.toList x y)(h:x+1=a.size):Told a b (finA a b o x y):=by
 unfold Told;rw[QJ];exact m.endA T.sb (by simpa using h) T.lst
def GOk(a b:Array Keyed)(st:SortSt)(n:Nat)(c:GS)(z:SortSt):Prop :=
 (∃g,z=gst st g)/\((∃r o x y mg ca cb,c=(some r,o,x,y,mg,ca,cb)/\Told a b r)\/∃o x y mg ca cb,c=(none,o,x,y,mg,ca,cb)/\In a b o x y/\n<=x+y)
def OOk(a b:Array Keyed)(st:SortSt)(n:Nat)(c:OS)(z:SortSt):Prop :=
 (∃g,z=gst st g)/\((∃r o x y ca cb,c=(some r,o,x,y,ca,cb)/\Told a b r)\/∃o x y ca cb,c=(none,o,x,y,ca,cb)/\In a b o x y/\n<=x+y)
theorem SN{st:SortSt}{o:Array Keyed}{x y mg ca cb g n:Nat}{Q:ForInStep GS->SortSt->Prop}(T:Two a b)(m:In a b o x y)(hn:n<=x+y+1)(hle:∀p,a.toList[x]?=some p->∀q∈b.toList.drop y,ky p<=ky q)(hd:∀c,GOk a b st n c (gst st g)->Q (.done c) (gst st g))(hy:∀o x y mg ca cb,In a b o x y->n<=x+y->Q (.yield (none,o,x,y,mg,ca,cb)) (gst st g)) :
  wpS (aM prog w) A E s (lo3 a b o x y mg ca cb) Q (gst st g):=by
 obtain⟨p,p1,p2,p3⟩:=jE (a:=a) (x:=x) (by have:=m.x1;omega);have m':=m.mg.pushA T p2 (hle p p2);unfold lo3;refine aT (qP p1 ?_)
 by_cases h1:x+1+1=a.size
 . rw[if_pos (by simpa using h1)];exact aZ (hd _ ⟨⟨g,rfl⟩,.inl ⟨_,_,_,_,_,_,_,rfl,m'.toldA T h1⟩⟩)
 . rw [if_neg (by simpa using h1)];have hin:In a b (o.push p) (x+1) y:=⟨m',by have:=m.x1; omega,m.y1⟩
   split
   . exact aZ (hd _ ⟨⟨g,rfl⟩,.inr ⟨_,_,_,_,_,_,rfl,hin,by omega⟩⟩)
   . exact aZ (hy _ _ _ _ _ _ hin (by omega))
theorem SO{st:SortSt}{o:Array Keyed}{x y mg ca cb g n:Nat}{Q:ForInStep GS->SortSt->Prop}(hk:kindOf st=gE)(T:Two a b)(m:In a b o x y)(hn:n<=x+y+1)(hle:∀p,b.toList[y]?=some p->∀q∈a.toList.drop x,ky p<=ky q)(hd:∀c,GOk a b st n c (gst st g)->Q (.done c) (gst st g))(hy:∀o x y mg ca cb,In a b o x y->n<=x+y->Q (.yield (none,o,x,y,mg,ca,cb)) (gst st g)) :
  wpS (aM prog w) A E s (lo2 a b o x y mg ca cb) Q (gst st g):=by
 obtain⟨p,p1,p2,p3⟩:=jE (a:=b) (x:=y) m.y1;obtain⟨q,q1,q2,q3⟩:=jE (a:=a) (x:=x) (by have:=m.x1;omega);have m':=m.mg.pushB T p2 (hle p p2);unfold lo2;refine aT (qP p1 ?_)
 by_cases h1:y+1=b.size
 . rw[if_pos (by simpa using h1)];exact aZ (hd _ ⟨⟨g,rfl⟩,.inl ⟨_,_,_,_,_,_,_,rfl,m'.told T (.inr h1)⟩⟩)
 . rw [if_neg (by simpa using h1)];have hy1:y+1 < b.size:=by have:=m.y1; omega
   refine aT (qP q1 ?_);refine aT (yN hk (T.ia q q3) T.ib (by omega) (vN T.sb (by omega)) (by omega) fun k k1 k2 k3=>?_);simp only[if_true] at k2 k3;dsimp only
   have hrest:∀j,j=y+1+k->∀p',a.toList[x]?=some p'->∀u∈b.toList.drop j,ky p'<=ky u:=by
    rintro j rfl p' hp' u hu;rw[q2] at hp';cases hp';obtain⟨i,i1,i2⟩:=vU hu;obtain⟨i3,i4⟩:=yD i2;rw[<- i4];exact k3 i i1 (by omega)
   by_cases hk0:k>0
   . rw [if_pos hk0]
     have m2:Mg a.toList b.toList (o.push p++b.extract (y+1) (y+1+k)).toList x (y+1+k):=by
      rw[dL];refine m'.stepB T.sb _ k (wR b (y+1) k) (by rw[bC];omega) fun u hu v hv=>?_;rw[wR] at hu;obtain⟨i,i1,i2,i3⟩:=jM hu;obtain⟨i4,i5⟩:=yD i3;have:=k2 i i1 i2;have h2:=sQ T.sa q2 v hv;omega
     by_cases h2:y+1+k=b.size
     . rw[if_pos (by simpa using h2)];exact aZ (hd _ ⟨⟨g,rfl⟩,.inl ⟨_,_,_,_,_,_,_,rfl,m2.told T (.inr h2)⟩⟩)
     . rw[if_neg (by simpa using h2)];exact SN T ⟨m2,m.x1,by omega⟩ (by omega) (hrest _ rfl) hd hy
   . rw[if_neg hk0];exact SN T ⟨m',m.x1,hy1⟩ (by omega) (hrest _ (by omega)) hd hy
theorem SQ{st:SortSt}{o:Array Keyed}{x y mg ca cb g n:Nat}{Q:ForInStep GS->SortSt->Prop}(hk:kindOf st=gE)(T:Two a b)(m:In a b o x y)(hn:n<=x+y+1)(hd:∀c z,GOk a b st n c z->Q (.done c) z)(hy:∀o x y mg ca cb g,In a b o x y->n<=x+y->Q (.yield (none,o,x,y,mg,ca,cb)) (gst st g)) :
  wpS (aM prog w) A E s (lo1 a b o x y mg ca cb) Q (gst st g):=by
 obtain⟨p,p1,p2,p3⟩:=jE (a:=b) (x:=y) m.y1;have hx1:=m.x1;unfold lo1;rw[wJ];refine aT (iL ?_);show wpS (aM prog w) A E s _ _ (gst st mg);refine aT (qP p1 ?_);refine aT (yN hk (T.ib p p3) T.ia (by omega) (vN T.sa (by omega)) (by omega) fun k k1 k2 k3=>?_);simp only[bD,if_false] at k2 k3;dsimp only
 have hrest:∀j,j=x+k->∀p',b.toList[y]?=some p'->∀u∈a.toList.drop j,ky p'<=ky u:=by
  rintro j rfl p' hp' u hu;rw[p2] at hp';cases hp';obtain⟨i,i1,i2⟩:=vU hu;obtain⟨i3,i4⟩:=yD i2;rw[<- i4];exact dY (k3 i i1 (by omega))
 by_cases hk0:k>0
 . rw [if_pos hk0]
   have m2:Mg a.toList b.toList (o++a.extract x (x+k)).toList (x+k) y:=by
    rw[dL];refine m.mg.stepA T.sa _ k (wR a x k) (by rw[bC];omega) fun u hu v hv=>?_;rw[wR] at hu;obtain⟨i,i1,i2,i3⟩:=jM hu;obtain⟨i4,i5⟩:=yD i3;have:=k2 i i1 i2;have h2:=sQ T.sb p2 v hv;omega
   by_cases h1:x+k+1=a.size
   . rw[if_pos (by simpa using h1)];exact aZ (hd _ _ ⟨⟨_,rfl⟩,.inl ⟨_,_,_,_,_,_,_,rfl,m2.toldA T h1⟩⟩)
   rw[if_neg (by simpa using h1)]
   by_cases h2:x+k=a.size
   . rw[if_pos (by simpa using h2)];exact aZ (hd _ _ ⟨⟨_,rfl⟩,.inl ⟨_,_,_,_,_,_,_,rfl,m2.told T (.inl h2)⟩⟩)
   rw[if_neg (by simpa using h2)];exact SO hk T ⟨m2,by omega,m.y1⟩ (by omega) (hrest _ rfl) (fun c h=>hd c _ h) fun o x y mg' ca cb=>hy o x y mg' ca cb mg
 . rw[if_neg hk0];exact SO hk T m hn (hrest _ (by omega)) (fun c h=>hd c _ h) fun o x y mg' ca cb=>hy o x y mg' ca cb mg
theorem wp_loO{st:SortSt}{o:Array Keyed}{x y ca cb mg g n:Nat}{Q:ForInStep OS->SortSt->Prop}(hk:kindOf st=gE)(T:Two a b)(m:In a b o x y)(hn:n<=x+y+1)(hd:∀c,OOk a b st n c (gst st g)->Q (.done c) (gst st g))(hy:∀o x y ca cb,In a b o x y->n<=x+y->Q (.yield (none,o,x,y,ca,cb)) (gst st g)) :
  wpS (aM prog w) A E s (loO a b mg (none,o,x,y,ca,cb)) Q (gst st g):=by
 obtain⟨p,p1,p2,p3⟩:=jE (a:=b) (x:=y) m.y1;obtain⟨q,q1,q2,q3⟩:=jE (a:=a) (x:=x) (by have:=m.x1;omega);have hx1:=m.x1;have hy1:=m.y1;unfold loO;dsimp only;refine aT (qP p1 (aT (qP q1 ?_)));refine aT (KY hk (T.ib p p3) (T.ia q q3) ?_);dsimp only
 by_cases hl:ky p<ky q
 . rw [if_pos (by simpa using hl)];have m':=m.mg.pushB T p2 fun u hu=>dX (dY hl) (sQ T.sa q2 u hu);refine aT (qP p1 ?_)
   by_cases h1:y+1=b.size
   . rw[if_pos (by simpa using h1)];exact aZ (hd _ ⟨⟨_,rfl⟩,.inl ⟨_,_,_,_,_,_,rfl,m'.told T (.inr h1)⟩⟩)
   rw[if_neg (by simpa using h1)];have hin:In a b (o.push p) x (y+1):=⟨m',hx1,by omega⟩
   split
   . exact aZ (hd _ ⟨⟨_,rfl⟩,.inr ⟨_,_,_,_,_,rfl,hin,by omega⟩⟩)
   . exact aZ (hy _ _ _ _ _ hin (by omega))
 . rw [if_neg (by simpa using hl)];have m':=m.mg.pushA T q2 fun u hu=>dX (pY.mp hl) (sQ T.sb p2 u hu);refine aT (qP q1 ?_)
   by_cases h1:x+1+1=a.size
   . rw[if_pos (by simpa using h1)];exact aZ (hd _ ⟨⟨_,rfl⟩,.inl ⟨_,_,_,_,_,_,rfl,m'.toldA T h1⟩⟩)
   rw[if_neg (by simpa using h1)];have hin:In a b (o.push q) (x+1) y:=⟨m',by omega,hy1⟩
   split
   . exact aZ (hd _ ⟨⟨_,rfl⟩,.inr ⟨_,_,_,_,_,rfl,hin,by omega⟩⟩)
   . exact aZ (hy _ _ _ _ _ hin (by omega))
theorem wp_loT{st:SortSt}{o:Array Keyed}{x y mg g:Nat}{Q:ForInStep TSt->SortSt->Prop}(hk:kindOf st=gE)(T:Two a b)(m:In a b o x y)(hd:∀r o x y mg g,Told a b r->Q (.done (some r,o,x,y,mg)) (gst st g))(hy:∀o' x' y' mg g,In a b o' x' y'->x+y+1<=x'+y'->Q (.yield (none,o',x',y',mg)) (gst st g)) :
  wpS (aM prog w) A E s (loT a b (none,o,x,y,mg)) Q (gst st g):=by
 have hna:=T.na;have hnb:=T.nb;unfold loT;dsimp only
 refine aT (fO (dB (I:=fun i c z=>∃o' x' y' ca cb g,c=(none,o',x',y',ca,cb)/\z=gst st g/\In a b o' x' y'/\x+y+i<=x'+y')
  (Q:=fun c z=>OOk a b st (x+y+1) c z) ?s1 ?s2 ⟨o,x,y,0,0,g,rfl,rfl,m,by omega⟩) ?s3)
 case s2 =>
  rintro c z ⟨o',x',y',ca,cb,g',rfl,rfl,m',hle⟩;exact⟨⟨_,rfl⟩,.inr ⟨_,_,_,_,_,rfl,m',by omega⟩⟩
 case s1 =>
  rintro i c z _ hi ⟨o',x',y',ca,cb,g',rfl,rfl,m',hle⟩;refine wp_loO (n:=x+y+(i+1)) hk T m' (by omega) (fun c hc=>?_) fun o2 x2 y2 ca cb m2 h2=>⟨o2,x2,y2,ca,cb,g',rfl,rfl,m2,h2⟩
  obtain⟨h1,h2⟩:=hc;refine⟨h1,?_⟩;rcases h2 with h2 | ⟨o2,x2,y2,ca,cb,e,m2,h2⟩
  . exact .inl h2
  . exact .inr ⟨o2,x2,y2,ca,cb,e,m2,by omega⟩
 case s3 =>
  rintro c z ⟨⟨g',rfl⟩,hc⟩;rcases hc with⟨r,o2,x2,y2,ca,cb,rfl,hr⟩ | ⟨o2,x2,y2,ca,cb,rfl,m2,h2⟩
  . dsimp only;exact aZ (hd _ _ _ _ _ _ hr)
  . dsimp only;refine aT (pR (gQ ⟨rfl,?_⟩))
    refine aT (fO (dB (I:=fun i c z=>∃o' x' y' mg ca cb g,c=(none,o',x',y',mg,ca,cb)/\z=gst st g/\In a b o' x' y'/\x+y+1<=x'+y')
     (Q:=fun c z=>GOk a b st (x+y+1) c z) ?s4 ?s5 ⟨o2,x2,y2,mg+1,ca,cb,g',rfl,rfl,m2,h2⟩) ?s6)
    case s5 =>
     rintro c z ⟨o',x',y',mg',ca,cb,g',rfl,rfl,m',hle⟩;exact⟨⟨_,rfl⟩,.inr ⟨_,_,_,_,_,_,rfl,m',by omega⟩⟩
    case s4 =>
     rintro i c z _ hi ⟨o',x',y',mg',ca,cb,g',rfl,rfl,m',hle⟩;dsimp only
     split
     . exact SQ (n:=x+y+1) hk T m' (by omega) (fun c z hc=>hc) fun o2 x2 y2 mg ca cb g m2 h2=>⟨o2,x2,y2,mg,ca,cb,g,rfl,rfl,m2,h2⟩
     . exact SQ (n:=x+y+1) hk T m' (by omega) (fun c z hc=>hc) fun o2 x2 y2 mg ca cb g m2 h2=>⟨o2,x2,y2,mg,ca,cb,g,rfl,rfl,m2,h2⟩
    case s6 =>
     rintro c z ⟨⟨g',rfl⟩,hc⟩;rcases hc with⟨r,o2,x2,y2,mg',ca,cb,rfl,hr⟩ | ⟨o2,x2,y2,mg',ca,cb,rfl,m2,h2⟩
     . dsimp only;exact aZ (hd _ _ _ _ _ _ hr)
     . dsimp only;rw[wJ];exact aT (iL (aZ (hy _ _ _ _ _ m2 h2)))
theorem IA{st:SortSt}{Q:Array Keyed->SortSt->Prop}(hk:kindOf st=gE)(T:Two a b)(h:∀r g,Told a b r->Q r (gst st g)) :
  wpS (aM prog w) A E s (tG a b) Q st:=by
 have hna:=T.na;have hnb:=T.nb;obtain⟨p,p1,p2,p3⟩:=jE (a:=b) (x:=0) (by omega);have m0:Mg a.toList b.toList [] 0 0:=⟨bW _,bW _,by simp,List.Pairwise.nil,fun p hp=>absurd hp (by simp)⟩
 have m1:Mg a.toList b.toList (#[]:Array Keyed).toList 0 0:=m0;have m:Mg a.toList b.toList (#[p]:Array Keyed).toList 0 1:=m1.pushB T p2 fun q hq=>T.fst q (oG hq) p p2;rw[JB];unfold mLo;refine aT (pR (gQ ⟨rfl,?_⟩));refine aT (qP p1 ?_)
 by_cases h1:1=b.size
 . rw[if_pos (by simpa using h1)];exact aZ (h _ (nV st) (m.told T (.inr h1)))
 rw[if_neg (by simpa using h1)]
 by_cases h2:0+1=a.size
 . rw[if_pos (by simpa using h2)];exact aZ (h _ (nV st) (m.toldA T h2))
 rw[if_neg (by simpa using h2)];refine aT (oM ?_)
 refine aT (fO (dB (I:=fun i c z=>∃o x y mg g,c=(none,o,x,y,mg)/\z=gst st g/\In a b o x y/\i+1<=x+y)
  (Q:=fun c z=>∃r o x y mg g,c=(some r,o,x,y,mg)/\z=gst st g/\Told a b r) ?s1 ?s2 ⟨#[p],0,1,_,nV st,rfl,rfl,⟨m,by omega,by omega⟩,by omega⟩) ?s3)
 case s2 =>
  rintro c z ⟨o,x,y,mg,g,rfl,rfl,m,hle⟩;have:=m.x1;have:=m.y1;omega
 case s1 =>
  rintro i c z _ hi ⟨o,x,y,mg,g,rfl,rfl,m,hle⟩;exact wp_loT hk T m (fun r o x y mg g hr=>⟨r,o,x,y,mg,g,rfl,rfl,hr⟩) fun o x y mg g m h=>⟨o,x,y,mg,g,rfl,rfl,m,by omega⟩
 case s3 =>
  rintro c z ⟨r,o,x,y,mg,g,rfl,rfl,hr⟩;exact aZ (h r g hr)
end
set_option autoImplicit false
noncomputable def fiH(a b o:Array Keyed)(x y:Nat):Array Keyed:=a.extract 0 x++b.extract 0 y++o.reverse
noncomputable def fiB(a b o:Array Keyed)(x y:Nat):Array Keyed:=b.extract 0 y++a.extract 0 x++o.reverse
abbrev GH:=Option (Array Keyed)×Nat×Nat×Array Keyed×Nat×Nat×Nat
abbrev OH:=Option (Array Keyed)×Nat×Nat×Array Keyed×Nat×Nat
abbrev TH:=Option (Array Keyed)×Nat×Nat×Array Keyed×Nat
noncomputable def hi3(a b o:Array Keyed)(x y mg ca cb:Nat):StateT SortSt Sem (ForInStep GH):=do
 let p <- iP a (x-1)
 if (x-1==0)=true then pure (ForInStep.done (some (fiH a b (o.push p) (x-1) y),x-1,y,o.push p,mg,ca,cb))
 else if (decide (ca<7)&&decide (cb<7))=true then pure (ForInStep.done (none,x-1,y,o.push p,mg,ca,cb))
 else pure (ForInStep.yield (none,x-1,y,o.push p,mg,ca,cb))
noncomputable def hi2(a b o:Array Keyed)(x y mg ca cb:Nat):StateT SortSt Sem (ForInStep GH):=do
 let p <- iP b (y-1)
 if (y-1==1)=true then pure (ForInStep.done (some (fiB a b (o.push p) x (y-1)),x,y-1,o.push p,mg,ca,cb))
 else do
  let q <- iP a (x-1)
  let r <- lY true q b 0 (y-1) (y-1-1)
  match r with
   | some t =>
     if y-1-t>0 then
      if (t==1)=true then pure (ForInStep.done (some (fiB a b (o.push p++(b.extract t (y-1)).reverse) x t),x,t,o.push p++(b.extract t (y-1)).reverse,mg,ca,y-1-t))
      else if (t==0)=true then pure (ForInStep.done (some (fiH a b (o.push p++(b.extract t (y-1)).reverse) x t),x,t,o.push p++(b.extract t (y-1)).reverse,mg,ca,y-1-t))
      else hi3 a b (o.push p++(b.extract t (y-1)).reverse) x t mg ca (y-1-t)
     else hi3 a b (o.push p) x (y-1) mg ca (y-1-t)
   |_=>pure (ForInStep.done (some (fiH a b (o.push p) x (y-1)),x,y-1,o.push p,mg,ca,cb))
noncomputable def hi1(a b o:Array Keyed)(x y mg ca cb:Nat):StateT SortSt Sem (ForInStep GH):=do
 setMG mg
 let q <- iP b (y-1)
 let r <- lY false q a 0 x (x-1)
 match r with
  | some t =>
    if x-t>0 then
     if (t==0)=true then pure (ForInStep.done (some (fiH a b (o++(a.extract t x).reverse) t y),t,y,o++(a.extract t x).reverse,mg,x-t,cb))
     else hi2 a b (o++(a.extract t x).reverse) t y mg (x-t) cb
    else hi2 a b o x y mg (x-t) cb
  |_=>pure (ForInStep.done (some (fiH a b o x y),x,y,o,mg,ca,cb))
noncomputable def hiO(a b:Array Keyed)(mg:Nat)(c:OH):StateT SortSt Sem (ForInStep OH):=do
 let p <- iP b (c.2.2.1-1)
 let q <- iP a (c.2.1-1)
 let r <- lt' p q
 match r with
  | some aw =>
    if aw=true then do
     let p <- iP a (c.2.1-1)
     if (c.2.1-1==0)=true then pure (ForInStep.done (some (fiH a b (c.2.2.2.1.push p) (c.2.1-1) c.2.2.1),c.2.1-1,c.2.2.1,c.2.2.2.1.push p,c.2.2.2.2.1+1,0))
     else if c.2.2.2.2.1+1≥mg then pure (ForInStep.done (none,c.2.1-1,c.2.2.1,c.2.2.2.1.push p,c.2.2.2.2.1+1,0))
     else pure (ForInStep.yield (none,c.2.1-1,c.2.2.1,c.2.2.2.1.push p,c.2.2.2.2.1+1,0))
    else do
     let p <- iP b (c.2.2.1-1)
     if (c.2.2.1-1==1)=true then pure (ForInStep.done (some (fiB a b (c.2.2.2.1.push p) c.2.1 (c.2.2.1-1)),c.2.1,c.2.2.1-1,c.2.2.2.1.push p,0,c.2.2.2.2.2+1))
     else if c.2.2.2.2.2+1≥mg then pure (ForInStep.done (none,c.2.1,c.2.2.1-1,c.2.2.2.1.push p,0,c.2.2.2.2.2+1))
     else pure (ForInStep.yield (none,c.2.1,c.2.2.1-1,c.2.2.2.1.push p,0,c.2.2.2.2.2+1))
  |_=>pure (ForInStep.done (some (fiH a b c.2.2.2.1 c.2.1 c.2.2.1),c.2.1,c.2.2.1,c.2.2.2.1,c.2.2.2.2.1,c.2.2.2.2.2))
noncomputable def hiT(a b:Array Keyed)(c:TH):StateT SortSt Sem (ForInStep TH):=do
 let d <- forIn [0:a.size+b.size] ((none,c.2.1,c.2.2.1,c.2.2.2.1,0,0):OH) fun _ d=>hiO a b c.2.2.2.2 d
 match d.1 with
  |some r=>pure (ForInStep.done (some r,d.2.1,d.2.2.1,d.2.2.2.1,c.2.2.2.2))
  | none => do
    liftM (rule "list.sort.gallop")
    let e <- forIn [0:a.size+b.size] ((none,d.2.1,d.2.2.1,d.2.2.2.1,c.2.2.2.2+1,d.2.2.2.2.1,d.2.2.2.2.2):GH) fun _ e =>
     if e.2.2.2.2.1>1 then hi1 a b e.2.2.2.1 e.2.1 e.2.2.1 (e.2.2.2.2.1-1) e.2.2.2.2.2.1 e.2.2.2.2.2.2 else hi1 a b e.2.2.2.1 e.2.1 e.2.2.1 e.2.2.2.2.1 e.2.2.2.2.2.1 e.2.2.2.2.2.2
    match e.1 with
     |some r=>pure (ForInStep.done (some r,e.2.1,e.2.2.1,e.2.2.2.1,e.2.2.2.2.1))
     | none => do
       setMG (e.2.2.2.2.1+1)
       pure (ForInStep.yield (none,e.2.1,e.2.2.1,e.2.2.2.1,e.2.2.2.2.1+1))
noncomputable def mHi(a b:Array Keyed):StateT SortSt Sem (Array Keyed):=do
 liftM (rule "list.sort.merge-hi")
 let p <- iP a (a.size-1)
 if (a.size-1==0)=true then pure (fiH a b #[p] (a.size-1) b.size)
 else if (b.size==1)=true then pure (fiB a b #[p] (a.size-1) b.size)
 else do
  let z <- get
  let c <- forIn [0:a.size+b.size] ((none,a.size-1,b.size,#[p],nV z):TH) fun _ c=>hiT a b c
  match c.1 with
   |some r=>pure r
   |none=>liftM (unsupported "internal:list.sort.merge-bound" : Sem (Array Keyed))
theorem JC(a b:Array Keyed):tH a b=mHi a b:=by kernel_rfl
structure Mh(a b:List Keyed)(o:List Keyed)(x y:Nat):Prop where
 xa:x<=a.length
 yb:y<=b.length
 pm:((a.take x++b.take y)++o.reverse).Perm (a++b)
 sd:Sd o.reverse
 le:∀p∈o,∀q,(q∈a.take x\/q∈b.take y)->ky q<=ky p
theorem EA(l:List Keyed){j x:Nat}(h:j<=x):l.take x=l.take j++(l.drop j).take (x-j):=by
 conv=>lhs;rw[show x=j+(x-j) by omega,List.take_add]
theorem Mh.stepA{a b o:List Keyed}{x y:Nat}(m:Mh a b o x y)(ha:Sd a)(t:List Keyed)(j:Nat)(ht:t=(a.drop j).take (x-j))(hj:j<=x)(h:∀p∈t,∀q∈b.take y,ky q<=ky p) :
  Mh a b (o++t.reverse) j y:=by
 have e:a.take x=a.take j++t:=by rw[ht];exact EA a hj
 have hs:Sd (a.take j++t):=by rw[<- e];exact bV (eX ..) ha
 obtain⟨s1,s2,s3⟩:=Sd.app.mp hs;refine⟨cW hj m.xa,m.yb,?_,?_,?_⟩
 . refine List.Perm.trans ?_ m.pm;rw[e,lC,kN,<- bH];refine gZ _ ?_;rw[bH,bH];exact fH _ iS
 . rw[lC, kN];exact Sd.app.mpr ⟨s2,m.sd,fun q hq p hp=>m.le p (cS.mp hp) q (.inl (by rw[e];exact bJ _ hq))⟩
 . intro p hp q hq;rcases bI.mp hp with hp | hp
   . refine m.le p hp q ?_;rcases hq with hq | hq
     . exact .inl (by rw[e];exact bZ _ hq)
     . exact .inr hq
   . rcases hq with hq | hq
     . exact s3 q hq p (cS.mp hp)
     . exact h p (cS.mp hp) q hq
theorem Mh.stepB{a b o:List Keyed}{x y:Nat}(m:Mh a b o x y)(hb:Sd b)(t:List Keyed)(j:Nat)(ht:t=(b.drop j).take (y-j))(hj:j<=y)(h:∀p∈t,∀q∈a.take x,ky q<=ky p) :
  Mh a b (o++t.reverse) x j:=by
 have e:b.take y=b.take j++t:=by rw[ht];exact EA b hj
 have hs:Sd (b.take j++t):=by rw[<- e];exact bV (eX ..) hb
 obtain⟨s1,s2,s3⟩:=Sd.app.mp hs;refine⟨m.xa,cW hj m.yb,?_,?_,?_⟩
 . refine List.Perm.trans ?_ m.pm;rw[e,lC,kN,<- bH,<- bH]
 . rw[lC, kN];exact Sd.app.mpr ⟨s2,m.sd,fun q hq p hp=>m.le p (cS.mp hp) q (.inr (by rw[e];exact bJ _ hq))⟩
 . intro p hp q hq;rcases bI.mp hp with hp | hp
   . refine m.le p hp q ?_;rcases hq with hq | hq
     . exact .inl hq
     . exact .inr (by rw[e];exact bZ _ hq)
   . rcases hq with hq | hq
     . exact h p (cS.mp hp) q hq
     . exact s3 q hq p (cS.mp hp)
theorem Mh.endF{a b o:List Keyed}{x y:Nat}(m:Mh a b o x y)(ha:Sd a)(hb:Sd b)(h:x=0\/y=0):Dn a b (a.take x++b.take y++o.reverse):=by
 refine⟨m.pm,Sd.app.mpr ⟨?_,m.sd,fun q hq p hp=>m.le p (cS.mp hp) q (bI.mp hq)⟩⟩;rcases h with h | h
 . rw[h,YN,dF];exact bV (eX ..) hb
 . rw[h,YN,dG];exact bV (eX ..) ha
theorem Mh.endB{a b o:List Keyed}{x y:Nat}(m:Mh a b o x y)(ha:Sd a)(h:y=1)(hf:∀p∈a,∀q,b[0]?=some q->ky q<=ky p):Dn a b (b.take y++a.take x++o.reverse):=by
 subst h;refine⟨?_,Sd.app.mpr ⟨Sd.app.mpr ⟨?_,bV (eX ..) ha,?_⟩,m.sd,?_⟩⟩
 . refine List.Perm.trans ?_ m.pm;exact gZ _ iS
 . match b with
   |[]=>exact List.Pairwise.nil
   |q::r=>exact dR _ _
 . intro q hq p hp;obtain ⟨i,i1,i2⟩:=wQ hq;have:i=0:=by omega
   subst this;exact hf p (oF hp) q i2
 . intro q hq p hp;refine m.le p (cS.mp hp) q ?_;rcases bI.mp hq with h | h
   . exact .inr h
   . exact .inl h
theorem WX(a b o:Array Keyed)(x y:Nat):(fiH a b o x y).toList=a.toList.take x++b.toList.take y++o.toList.reverse:=by
 unfold fiH;simp only[dL,eG,List.extract_eq_drop_take,kL,oH,HJ]
theorem WY(a b o:Array Keyed)(x y:Nat):(fiB a b o x y).toList=b.toList.take y++a.toList.take x++o.toList.reverse:=by
 unfold fiB;simp only[dL,eG,List.extract_eq_drop_take,kL,oH,HJ]
theorem yC(a:Array Keyed)(j x:Nat):(a.extract j x).toList=(a.toList.drop j).take (x-j):=by
 simp only[eG,List.extract_eq_drop_take]
section
variable{prog:aY}{w:bS}{A:bR}{E:Value->aC->Prop}{s:aC}{a b:Array Keyed}
structure InH(a b o:Array Keyed)(x y:Nat):Prop where
 mh:Mh a.toList b.toList o.toList x y
 x1:1<=x
 y1:2<=y
theorem Mh.pushA{o:Array Keyed}{x y:Nat}{p:Keyed}(T:Two a b)(m:Mh a.toList b.toList o.toList x y)(hx:1<=x)(hp:a.toList[x-1]?=some p)(h:∀q∈b.toList.take y,ky q<=ky p) :
  Mh a.toList b.toList (o.push p).toList (x-1) y:=by
 rw[dW];exact m.stepA T.sa [p] (x-1) (by rw[show x-(x-1)=1 by omega];exact wP hp) (by omega) fun q hq=>by rw[cD.mp hq];exact h
theorem Mh.pushB{o:Array Keyed}{x y:Nat}{p:Keyed}(T:Two a b)(m:Mh a.toList b.toList o.toList x y)(hy:1<=y)(hp:b.toList[y-1]?=some p)(h:∀q∈a.toList.take x,ky q<=ky p) :
  Mh a.toList b.toList (o.push p).toList x (y-1):=by
 rw[dW];exact m.stepB T.sb [p] (y-1) (by rw[show y-(y-1)=1 by omega];exact wP hp) (by omega) fun q hq=>by rw[cD.mp hq];exact h
theorem Mh.told{o:Array Keyed}{x y:Nat}(T:Two a b)(m:Mh a.toList b.toList o.toList x y)(h:x=0\/y=0):Told a b (fiH a b o x y):=by
 unfold Told;rw[WX];exact m.endF T.sa T.sb h
theorem Mh.toldB{o:Array Keyed}{x y:Nat}(T:Two a b)(m:Mh a.toList b.toList o.toList x y)(h:y=1):Told a b (fiB a b o x y):=by
 unfold Told;rw[WY];exact m.endB T.sa h T.fst
def GHok(a b:Array Keyed)(st:SortSt)(n:Nat)(c:GH)(z:SortSt):Prop :=
 (∃g,z=gst st g)/\((∃r x y o mg ca cb,c=(some r,x,y,o,mg,ca,cb)/\Told a b r)\/∃x y o mg ca cb,c=(none,x,y,o,mg,ca,cb)/\InH a b o x y/\x+y<=n)
def OHok(a b:Array Keyed)(st:SortSt)(n:Nat)(c:OH)(z:SortSt):Prop :=
 (∃g,z=gst st g)/\((∃r x y o ca cb,c=(some r,x,y,o,ca,cb)/\Told a b r)\/∃x y o ca cb,c=(none,x,y,o,ca,cb)/\InH a b o x y/\x+y<=n)
theorem InH.xs{o:Array Keyed}{x y:Nat}(m:InH a b o x y):x-1<a.size:=by have:=m.mh.xa;have:=m.x1;rw[bC] at *;omega
theorem InH.ys{o:Array Keyed}{x y:Nat}(m:InH a b o x y):y-1<b.size:=by have:=m.mh.yb;have:=m.y1;rw[bC] at *;omega
theorem BR{c:Array Keyed}(h:Sd c.toList){x:Nat}{p:Keyed}(hx:1<=x)(hp:c.toList[x-1]?=some p):∀q∈c.toList.take x,ky q<=ky p:=by
 have:=ZE h hp
 rwa [show x-1+1=x by omega] at this
theorem SR{st:SortSt}{o:Array Keyed}{x y mg ca cb g n:Nat}{Q:ForInStep GH->SortSt->Prop}(T:Two a b)(m:InH a b o x y)(hn:x+y<=n+1)(hle:∀p,a.toList[x-1]?=some p->∀q∈b.toList.take y,ky q<=ky p)(hd:∀c,GHok a b st n c (gst st g)->Q (.done c) (gst st g))(hy:∀x y o mg ca cb,InH a b o x y->x+y<=n->Q (.yield (none,x,y,o,mg,ca,cb)) (gst st g)) :
  wpS (aM prog w) A E s (hi3 a b o x y mg ca cb) Q (gst st g):=by
 obtain⟨p,p1,p2,p3⟩:=jE (a:=a) (x:=x-1) m.xs;have hx:=m.x1;have m':=m.mh.pushA T hx p2 (hle p p2);unfold hi3;refine aT (qP p1 ?_)
 by_cases h1:x-1=0
 . rw[if_pos (by simpa using h1)];exact aZ (hd _ ⟨⟨g,rfl⟩,.inl ⟨_,_,_,_,_,_,_,rfl,m'.told T (.inl h1)⟩⟩)
 . rw [if_neg (by simpa using h1)];have hin:InH a b (o.push p) (x - 1) y:=⟨m',by omega,m.y1⟩
   split
   . exact aZ (hd _ ⟨⟨g,rfl⟩,.inr ⟨_,_,_,_,_,_,rfl,hin,by omega⟩⟩)
   . exact aZ (hy _ _ _ _ _ _ hin (by omega))
theorem SS{st:SortSt}{o:Array Keyed}{x y mg ca cb g n:Nat}{Q:ForInStep GH->SortSt->Prop}(hk:kindOf st=gE)(T:Two a b)(m:InH a b o x y)(hn:x+y<=n+1)(hle:∀p,b.toList[y-1]?=some p->∀q∈a.toList.take x,ky q<=ky p)(hd:∀c,GHok a b st n c (gst st g)->Q (.done c) (gst st g))(hy:∀x y o mg ca cb,InH a b o x y->x+y<=n->Q (.yield (none,x,y,o,mg,ca,cb)) (gst st g)) :
  wpS (aM prog w) A E s (hi2 a b o x y mg ca cb) Q (gst st g):=by
 obtain⟨p,p1,p2,p3⟩:=jE (a:=b) (x:=y-1) m.ys;obtain⟨q,q1,q2,q3⟩:=jE (a:=a) (x:=x-1) m.xs;have hx:=m.x1;have hy2:=m.y1;have hys:=m.ys;have m':=m.mh.pushB T (by omega) p2 (hle p p2);unfold hi2;refine aT (qP p1 ?_)
 by_cases h1:y-1=1
 . rw[if_pos (by simpa using h1)];exact aZ (hd _ ⟨⟨g,rfl⟩,.inl ⟨_,_,_,_,_,_,_,rfl,m'.toldB T h1⟩⟩)
 . rw [if_neg (by simpa using h1)];refine aT (qP q1 ?_);refine aT (yN hk (T.ia q q3) T.ib (by omega) (vN T.sb (by omega)) (by omega) fun t k1 k2 k3=>?_);simp only [if_true,Nat.zero_add] at k2 k3;dsimp only
   have hrest:∀j,j=t->∀p',a.toList[x-1]?=some p'->∀u∈b.toList.take j,ky u<=ky p':=by
    rintro j rfl p' hp' u hu;rw[q2] at hp';cases hp';obtain⟨i,i1,i2⟩:=wQ hu;obtain⟨i3,i4⟩:=yD i2;rw[<- i4];exact dY (k2 i (bW _) i1)
   by_cases hk0:y-1-t>0
   . rw [if_pos hk0]
     have m2:Mh a.toList b.toList (o.push p++(b.extract t (y-1)).reverse).toList x t:=by
      rw[dL,kL];refine m'.stepB T.sb _ t (yC b t (y-1)) k1 fun u hu v hv=>?_;rw[yC] at hu;obtain⟨i,i1,i2,i3⟩:=jM hu;obtain⟨i4,i5⟩:=yD i3;have:=k3 i i1 (by omega);have h2:=BR T.sa hx q2 v hv;omega
     by_cases h2:t=1
     . rw[if_pos (by simpa using h2)];exact aZ (hd _ ⟨⟨g,rfl⟩,.inl ⟨_,_,_,_,_,_,_,rfl,m2.toldB T h2⟩⟩)
     rw[if_neg (by simpa using h2)]
     by_cases h3:t=0
     . rw[if_pos (by simpa using h3)];exact aZ (hd _ ⟨⟨g,rfl⟩,.inl ⟨_,_,_,_,_,_,_,rfl,m2.told T (.inr h3)⟩⟩)
     rw[if_neg (by simpa using h3)];exact SR T ⟨m2,hx,by omega⟩ (by omega) (hrest _ rfl) hd hy
   . rw[if_neg hk0];exact SR T ⟨m',hx,by omega⟩ (by omega) (hrest _ (by omega)) hd hy
theorem SU{st:SortSt}{o:Array Keyed}{x y mg ca cb g n:Nat}{Q:ForInStep GH->SortSt->Prop}(hk:kindOf st=gE)(T:Two a b)(m:InH a b o x y)(hn:x+y<=n+1)(hd:∀c z,GHok a b st n c z->Q (.done c) z)(hy:∀x y o mg ca cb g,InH a b o x y->x+y<=n->Q (.yield (none,x,y,o,mg,ca,cb)) (gst st g)) :
  wpS (aM prog w) A E s (hi1 a b o x y mg ca cb) Q (gst st g):=by
 obtain⟨p,p1,p2,p3⟩:=jE (a:=b) (x:=y-1) m.ys;have hx:=m.x1;have hy2:=m.y1;have hxs:=m.xs;unfold hi1;rw[wJ];refine aT (iL ?_);show wpS (aM prog w) A E s _ _ (gst st mg);refine aT (qP p1 ?_);refine aT (yN hk (T.ib p p3) T.ia (by omega) (vN T.sa (by omega)) (by omega) fun t k1 k2 k3=>?_);simp only[bD,if_false,Nat.zero_add] at k2 k3;dsimp only
 have hrest:∀j,j=t->∀p',b.toList[y-1]?=some p'->∀u∈a.toList.take j,ky u<=ky p':=by
  rintro j rfl p' hp' u hu;rw[p2] at hp';cases hp';obtain⟨i,i1,i2⟩:=wQ hu;obtain⟨i3,i4⟩:=yD i2;rw[<- i4];exact k2 i (bW _) i1
 by_cases hk0:x-t>0
 . rw [if_pos hk0]
   have m2:Mh a.toList b.toList (o++(a.extract t x).reverse).toList t y:=by
    rw[dL,kL];refine m.mh.stepA T.sa _ t (yC a t x) k1 fun u hu v hv=>?_;rw[yC] at hu;obtain⟨i,i1,i2,i3⟩:=jM hu;obtain⟨i4,i5⟩:=yD i3;have:=k3 i i1 (by omega);have h2:=BR T.sb (by omega) p2 v hv;omega
   by_cases h1:t=0
   . rw[if_pos (by simpa using h1)];exact aZ (hd _ _ ⟨⟨_,rfl⟩,.inl ⟨_,_,_,_,_,_,_,rfl,m2.told T (.inl h1)⟩⟩)
   rw[if_neg (by simpa using h1)];exact SS hk T ⟨m2,by omega,hy2⟩ (by omega) (hrest _ rfl) (fun c h=>hd c _ h) fun x y o mg' ca cb=>hy x y o mg' ca cb mg
 . rw[if_neg hk0];exact SS hk T m hn (hrest _ (by omega)) (fun c h=>hd c _ h) fun x y o mg' ca cb=>hy x y o mg' ca cb mg
theorem wp_hiO{st:SortSt}{o:Array Keyed}{x y ca cb mg g n:Nat}{Q:ForInStep OH->SortSt->Prop}(hk:kindOf st=gE)(T:Two a b)(m:InH a b o x y)(hn:x+y<=n+1)(hd:∀c,OHok a b st n c (gst st g)->Q (.done c) (gst st g))(hy:∀x y o ca cb,InH a b o x y->x+y<=n->Q (.yield (none,x,y,o,ca,cb)) (gst st g)) :
  wpS (aM prog w) A E s (hiO a b mg (none,x,y,o,ca,cb)) Q (gst st g):=by
 obtain⟨p,p1,p2,p3⟩:=jE (a:=b) (x:=y-1) m.ys;obtain⟨q,q1,q2,q3⟩:=jE (a:=a) (x:=x-1) m.xs;have hx:=m.x1;have hy2:=m.y1;unfold hiO;dsimp only;refine aT (qP p1 (aT (qP q1 ?_)));refine aT (KY hk (T.ib p p3) (T.ia q q3) ?_);dsimp only
 by_cases hl:ky p<ky q
 . rw [if_pos (by simpa using hl)];have m':=m.mh.pushA T hx q2 fun u hu=>dX (BR T.sb (by omega) p2 u hu) (dY hl);refine aT (qP q1 ?_)
   by_cases h1:x-1=0
   . rw[if_pos (by simpa using h1)];exact aZ (hd _ ⟨⟨_,rfl⟩,.inl ⟨_,_,_,_,_,_,rfl,m'.told T (.inl h1)⟩⟩)
   rw[if_neg (by simpa using h1)];have hin:InH a b (o.push q) (x-1) y:=⟨m',by omega,hy2⟩
   split
   . exact aZ (hd _ ⟨⟨_,rfl⟩,.inr ⟨_,_,_,_,_,rfl,hin,by omega⟩⟩)
   . exact aZ (hy _ _ _ _ _ hin (by omega))
 . rw [if_neg (by simpa using hl)];have m':=m.mh.pushB T (by omega) p2 fun u hu=>dX (BR T.sa hx q2 u hu) (pY.mp hl);refine aT (qP p1 ?_)
   by_cases h1:y-1=1
   . rw[if_pos (by simpa using h1)];exact aZ (hd _ ⟨⟨_,rfl⟩,.inl ⟨_,_,_,_,_,_,rfl,m'.toldB T h1⟩⟩)
   rw[if_neg (by simpa using h1)];have hin:InH a b (o.push p) x (y-1):=⟨m',hx,by omega⟩
   split
   . exact aZ (hd _ ⟨⟨_,rfl⟩,.inr ⟨_,_,_,_,_,rfl,hin,by omega⟩⟩)
   . exact aZ (hy _ _ _ _ _ hin (by omega))
theorem wp_hiT{st:SortSt}{o:Array Keyed}{x y mg g:Nat}{Q:ForInStep TH->SortSt->Prop}(hk:kindOf st=gE)(T:Two a b)(m:InH a b o x y)(hd:∀r x y o mg g,Told a b r->Q (.done (some r,x,y,o,mg)) (gst st g))(hy:∀x' y' o' mg g,InH a b o' x' y'->x'+y'+1<=x+y->Q (.yield (none,x',y',o',mg)) (gst st g)) :
  wpS (aM prog w) A E s (hiT a b (none,x,y,o,mg)) Q (gst st g):=by
 have hna:=T.na;have hnb:=T.nb;have hx:=m.x1;unfold hiT;dsimp only
 refine aT (fO (dB (I:=fun i c z=>∃x' y' o' ca cb g,c=(none,x',y',o',ca,cb)/\z=gst st g/\InH a b o' x' y'/\x'+y'+i<=x+y)
  (Q:=fun c z=>OHok a b st (x+y-1) c z) ?s1 ?s2 ⟨x,y,o,0,0,g,rfl,rfl,m,by omega⟩) ?s3)
 case s2 =>
  rintro c z ⟨x',y',o',ca,cb,g',rfl,rfl,m',hle⟩;exact⟨⟨_,rfl⟩,.inr ⟨_,_,_,_,_,rfl,m',by omega⟩⟩
 case s1 =>
  rintro i c z _ hi ⟨x',y',o',ca,cb,g',rfl,rfl,m',hle⟩;have h1':=m'.x1;refine wp_hiO (n:=x'+y'-1) hk T m' (by omega) (fun c hc=>?_) fun x2 y2 o2 ca cb m2 h2=>⟨x2,y2,o2,ca,cb,g',rfl,rfl,m2,by omega⟩
  obtain⟨h1,h2⟩:=hc;refine⟨h1,?_⟩;rcases h2 with h2 | ⟨x2,y2,o2,ca,cb,e,m2,h2⟩
  . exact .inl h2
  . exact .inr ⟨x2,y2,o2,ca,cb,e,m2,by omega⟩
 case s3 =>
  rintro c z ⟨⟨g',rfl⟩,hc⟩;rcases hc with⟨r,x2,y2,o2,ca,cb,rfl,hr⟩ | ⟨x2,y2,o2,ca,cb,rfl,m2,h2⟩
  . dsimp only;exact aZ (hd _ _ _ _ _ _ hr)
  . dsimp only;refine aT (pR (gQ ⟨rfl,?_⟩))
    refine aT (fO (dB (I:=fun i c z=>∃x' y' o' mg ca cb g,c=(none,x',y',o',mg,ca,cb)/\z=gst st g/\InH a b o' x' y'/\x'+y'<=x+y-1)
     (Q:=fun c z=>GHok a b st (x+y-1) c z) ?s4 ?s5 ⟨x2,y2,o2,mg+1,ca,cb,g',rfl,rfl,m2,h2⟩) ?s6)
    case s5 =>
     rintro c z ⟨x',y',o',mg',ca,cb,g',rfl,rfl,m',hle⟩;exact⟨⟨_,rfl⟩,.inr ⟨_,_,_,_,_,_,rfl,m',by omega⟩⟩
    case s4 =>
     rintro i c z _ hi ⟨x',y',o',mg',ca,cb,g',rfl,rfl,m',hle⟩;dsimp only
     split
     . exact SU (n:=x+y-1) hk T m' (by omega) (fun c z hc=>hc) fun x2 y2 o2 mg ca cb g m2 h2=>⟨x2,y2,o2,mg,ca,cb,g,rfl,rfl,m2,h2⟩
     . exact SU (n:=x+y-1) hk T m' (by omega) (fun c z hc=>hc) fun x2 y2 o2 mg ca cb g m2 h2=>⟨x2,y2,o2,mg,ca,cb,g,rfl,rfl,m2,h2⟩
    case s6 =>
     rintro c z ⟨⟨g',rfl⟩,hc⟩;rcases hc with⟨r,x2,y2,o2,mg',ca,cb,rfl,hr⟩ | ⟨x2,y2,o2,mg',ca,cb,rfl,m2,h2⟩
     . dsimp only;exact aZ (hd _ _ _ _ _ _ hr)
     . dsimp only;rw[wJ];exact aT (iL (aZ (hy _ _ _ _ _ m2 (by omega))))
theorem IB{st:SortSt}{Q:Array Keyed->SortSt->Prop}(hk:kindOf st=gE)(T:Two a b)(h:∀r g,Told a b r->Q r (gst st g)) :
  wpS (aM prog w) A E s (tH a b) Q st:=by
 have hna:=T.na;have hnb:=T.nb;obtain⟨p,p1,p2,p3⟩:=jE (a:=a) (x:=a.size-1) (by omega)
 have m1:Mh a.toList b.toList (#[]:Array Keyed).toList a.size b.size:=by
  refine⟨by simp,by simp,?_,List.Pairwise.nil,fun p hp=>absurd hp (by simp)⟩;rw[dH (by simp),dH (by simp)];simp
 have m:Mh a.toList b.toList (#[p]:Array Keyed).toList (a.size-1) b.size:=m1.pushA T (by omega) p2 fun q hq=>T.lst q (oF hq) p (by rw[bC];exact p2);rw[JC];unfold mHi;refine aT (pR (gQ ⟨rfl,?_⟩));refine aT (qP p1 ?_)
 by_cases h1:a.size-1=0
 . rw[if_pos (by simpa using h1)];exact aZ (h _ (nV st) (m.told T (.inl h1)))
 rw[if_neg (by simpa using h1)]
 by_cases h2:b.size=1
 . rw[if_pos (by simpa using h2)];exact aZ (h _ (nV st) (m.toldB T h2))
 rw[if_neg (by simpa using h2)];refine aT (oM ?_)
 refine aT (fO (dB (I:=fun i c z=>∃x y o mg g,c=(none,x,y,o,mg)/\z=gst st g/\InH a b o x y/\x+y+i+1<=a.size+b.size)
  (Q:=fun c z=>∃r x y o mg g,c=(some r,x,y,o,mg)/\z=gst st g/\Told a b r) ?s1 ?s2 ⟨a.size-1,b.size,#[p],_,nV st,rfl,rfl,⟨m,by omega,by omega⟩,by omega⟩) ?s3)
 case s2 =>
  rintro c z ⟨x,y,o,mg,g,rfl,rfl,m,hle⟩;have:=m.x1;have:=m.y1;omega
 case s1 =>
  rintro i c z _ hi ⟨x,y,o,mg,g,rfl,rfl,m,hle⟩;exact wp_hiT hk T m (fun r x y o mg g hr=>⟨r,x,y,o,mg,g,rfl,rfl,hr⟩) fun x y o mg g m h=>⟨x,y,o,mg,g,rfl,rfl,m,by omega⟩
 case s3 =>
  rintro c z ⟨r,x,y,o,mg,g,rfl,rfl,hr⟩;exact aZ (h r g hr)
end
set_option autoImplicit false
noncomputable def mAt(i:Nat):StateT SortSt Sem Bool:=do
 let z <- get
 let (some (sa,na,pw),some (sb,nb,_)):=((bP z)[i]?,(bP z)[i+1]?) | unsupported "internal:list.sort.pending"
 set (gR z (((bP z).setIfInBounds i (sa,na+nb,pw)).eraseIdxIfInBounds (i+1)))
 let some k <- lY false (<- iP (bM z) sb) (bM z) sa na 0 | return false
 let (sa,na):=(sa+k,na-k)
 if na==0 then return true
 let some nb <- lY true (<- iP (bM z) (sa+na-1)) (bM z) sb nb (nb-1) | return false
 if nb==0 then return true
 let x:=(bM z).extract sa sb
 let y:=(bM z).extract sb (sb+nb)
 let r <- if na<=nb then tG x y else tH x y
 modify fun z=>eE z (r.toList.zipIdx.foldl (fun a (p,j)=>a.setIfInBounds (sa+j) p) (bM z))
 return (pV (<- get)).isNone
theorem JD(i:Nat):HD i=mAt i:=by kernel_rfl
noncomputable def lay(xs:Array Keyed)(sa:Nat)(r:List Keyed):Array Keyed:=r.zipIdx.foldl (fun a (p,j)=>a.setIfInBounds (sa+j) p) xs
theorem MM(sa i:Nat):∀(r:List Keyed) (n:Nat) (xs:Array Keyed),sa+n+r.length<=xs.size →
  ((r.zipIdx n).foldl (fun a (p,j)=>a.setIfInBounds (sa+j) p) xs)[i]?=if sa+n<=i/\i<sa+n+r.length then r[i-(sa+n)]? else xs[i]?
 | [], n, xs, h => by
   rw[if_neg (by simp)];rfl
 | p :: r, n, xs, h => by
   rw[List.zipIdx_cons,nC];have h':sa+(n+1)+r.length<=(xs.setIfInBounds (sa+n) p).size:=by simp only[Array.size_setIfInBounds];simp only[aN] at h;omega
   rw[MM sa i r (n+1) _ h',Array.getElem?_setIfInBounds];simp only[aN] at h ⊢
   by_cases h1:sa+n=i
   . subst h1;rw[if_neg (by omega),if_pos rfl,if_pos (by omega),if_pos (by omega)];simp
   . by_cases h2 : sa + (n + 1) <= i /\ i < sa + (n + 1) + r.length
     . rw[if_pos h2,if_pos (by omega),show i-(sa+n)=(i-(sa+(n+1)))+1 by omega,iA]
     . rw[if_neg h2,if_neg h1,if_neg (by omega)]
theorem WB{xs:Array Keyed}{sa:Nat}{r:List Keyed}(h:sa+r.length<=xs.size)(i:Nat):(lay xs sa r)[i]?=if sa<=i/\i<sa+r.length then r[i-sa]? else xs[i]? :=
 MM sa i r 0 xs h
theorem WA{xs:Array Keyed}{sa:Nat}{r:List Keyed}(h:sa+r.length<=xs.size):(lay xs sa r).toList=xs.toList.take sa++r++xs.toList.drop (sa+r.length):=by
 apply iK;intro i;rw[cN,WB h,bH];have hl:(xs.toList.take sa).length=sa:=by rw[dS,bC];omega
 by_cases h1:i<sa
 . rw[if_neg (by omega),bK (by omega),eY h1,cN]
 . rw [cJ (by omega), hl]
   by_cases h2:i<sa+r.length
   . rw[if_pos ⟨by omega,h2⟩,bK (by omega)]
   . rw[if_neg (by omega), cJ (by omega), lV, cN];congr 1;omega
theorem VZ{xs:Array Keyed}{sa:Nat}{r:List Keyed}(h:sa+r.length<=xs.size)(hp:r.Perm ((xs.toList.drop sa).take r.length)):(lay xs sa r).Perm xs:=by
 rw[lT,WA h]
 have e:xs.toList=xs.toList.take sa++(xs.toList.drop sa).take r.length++xs.toList.drop (sa+r.length):=by
  rw[bH,<- oJ,eP,eP]
 conv=>rhs;rw[e]
 exact gZ _ (fH _ hp)
theorem lay_K{xs:Array Keyed}{sa:Nat}{r:List Keyed}(h:sa+r.length<=xs.size){i:Nat}:(sa<=i->i<sa+r.length->∃p,r[i-sa]?=some p/\K (lay xs sa r) i=ky p)/\((i<sa\/sa+r.length<=i)->K (lay xs sa r) i=K xs i):=by
 have e:=WB h i;refine⟨fun h1 h2=>?_,fun h1=>?_⟩
 . rw[if_pos ⟨h1, h2⟩] at e;refine⟨r[i-sa],aK (by omega),?_⟩;unfold K;rw[e,aK (by omega)];rfl
 . rw[if_neg (by omega)] at e;exact K_congr e
theorem EI{xs:Array Keyed}{i j k:Nat}(h1:Seg xs i j)(h2:Seg xs j k)(h:i<j->j<k->K xs (j-1)<=K xs j):Seg xs i k:=by
 intro p q a b c
 by_cases hp:p<j
 . by_cases hq : q < j
   . exact h1 p q a b hq
   . exact dX (h1 p (j-1) a (by omega) (by omega)) (dX (h (by omega) (by omega)) (h2 j q (aO _) (by omega) c))
 . exact h2 p q (by omega) b c
theorem TX{xs:Array Keyed}{i j:Nat}(h:Seg xs i j)(hj:j<=xs.size):Sd (xs.extract i j).toList:=by
 refine bU.mpr fun p q h1 h2 hpq=>?_;rw[bC,fJ] at h1 h2;have:=h (i+p) (i+q) (by omega) (by omega) (by omega);rw[K_eq (show i+p<xs.size by omega),K_eq (show i+q<xs.size by omega)] at this;simpa[ky] using this
theorem xY{xs:Array Keyed}{i j:Nat}{p:Keyed}(hj:j<=xs.size)(h:p∈(xs.extract i j).toList):∃k,i<=k/\k<j/\K xs k=ky p/\p∈xs.toList:=by
 rw[yC] at h;obtain⟨k,k1,k2,k3⟩:=jM h;exact⟨k,k1,by omega,(yD k3).2,eH k3⟩
section
variable{prog:aY}{w:bS}{A:bR}{E:Value->aC->Prop}{s:aC}{a₀ : Array Keyed}
theorem YW{σ : Type}{M:nX}{x : σ}{Q:PUnit->σ->Prop}{st : σ}(h:Q ⟨⟩ x):wpS M A E s (set x:StateT σ Sem PUnit) Q st:=by
 unfold wpS;rw[StateT.run_set];exact aJ ⟨rfl,h⟩
theorem pend_at{P:Array (Nat×Nat×Nat)}{pre post:List (Nat×Nat×Nat)}{u v:Nat×Nat×Nat}(h:P.toList=pre++u::v::post)(c:Nat×Nat×Nat) :
  P[pre.length]?=some u/\P[pre.length+1]?=some v/\((P.setIfInBounds pre.length c).eraseIdxIfInBounds (pre.length+1)).toList=pre++c::post:=by
 obtain⟨l⟩:=P;simp only at h;subst h;refine⟨by simp,by simp,?_⟩;simp[Array.eraseIdxIfInBounds,List.eraseIdx_append_of_length_le]
theorem IC{st:SortSt}{i sa na pw sb nb pw2:Nat}{pre post:List (Nat×Nat×Nat)}{Q:Bool->SortSt->Prop}(h0:IntKeys a₀)(hB:TB a₀ st)(hP:(bP st).toList=pre++(sa,na,pw)::(sb,nb,pw2)::post)(hi:i=pre.length)(hsb:sb=sa+na)(hna:1<=na)(hnb:1<=nb)(hsz:sb+nb<=a₀.size)(s1:Seg (bM st) sa sb)(s2:Seg (bM st) sb (sb+nb))(h:∀st',TB a₀ st'->(bP st').toList=pre++(sa,na+nb,pw)::post->(∀k,(k<sa\/sb+nb<=k)->K (bM st') k=K (bM st) k)->Seg (bM st') sa (sb+nb)->Q true st') :
  wpS (aM prog w) A E s (HD i) Q st:=by
 subst hi;obtain⟨e1,e2,e3⟩:=pend_at hP (sa,na+nb,pw);have hs:=hB.sz;have hI:∀p∈(bM st).toList,IsI p:=fun p hp=>h0 p ((lT.mp hB.pm).mem_iff.mp hp);rw[JD];unfold mAt;refine aT (oM ?_);rw[e1,e2];dsimp only;refine aT (YW ?_);generalize hP':((bP st).setIfInBounds pre.length (sa,na+nb,pw)).eraseIdxIfInBounds (pre.length+1)=P' at e3 ⊢;have hB1:TB a₀ (gR st P'):=⟨hB.pm,hB.kd,hB.nf⟩
 obtain⟨p,p1,p2,p3⟩:=jE (a:=bM st) (x:=sb) (by omega);have pK:K (bM st) sb=ky p:=(yD p2).2;refine aT (qP p1 ?_);refine aT (yN (st:=gR st P') hB.kd (hI p p3) hI (by omega) (by rw[<- hsb];exact s1) (by omega) fun k k1 k2 k3=>?_);simp only[bD,if_false] at k2 k3;dsimp only
 by_cases hz:na-k=0
 . rw[if_pos (by simpa using hz)];refine aZ (h _ hB1 e3 (fun _ _=>rfl) (EI s1 s2 fun _ _=>?_));show K (bM st) (sb-1)<=K (bM st) sb;rw[pK];exact k2 _ (by omega) (by omega)
 rw[if_neg (by simpa using hz)];have hlast:sa+k+(na-k)-1=sb-1:=by omega
 obtain⟨q,q1,q2,q3⟩:=jE (a:=bM st) (x:=sb-1) (by omega);have qK:K (bM st) (sb-1)=ky q:=(yD q2).2;rw[hlast];refine aT (qP q1 ?_);refine aT (yN (st:=gR st P') hB.kd (hI q q3) hI (by omega) s2 (by omega) fun m m1 m2 m3=>?_);simp only[if_true] at m2 m3;dsimp only
 by_cases hm:m=0
 . rw[if_pos (by simpa using hm)];refine aZ (h _ hB1 e3 (fun _ _=>rfl) (EI s1 s2 fun _ _=>?_));show K (bM st) (sb-1)<=K (bM st) sb;rw[qK];exact m3 _ (by omega) (by omega)
 rw[if_neg (by simpa using hm)]
 have T:Two ((bM st).extract (sa+k) sb) ((bM st).extract sb (sb+m)):=by
  refine⟨TX (fun a b c d e=>s1 a b (by omega) d e) (by omega),TX (fun a b c d e=>s2 a b (by omega) d (by omega)) (by omega),fun u hu=>?_,fun u hu=>?_,?_,?_,fun u hu v hv=>?_,fun u hu v hv=>?_⟩
  . obtain⟨_,_,_,_,hh⟩:=xY (by omega) hu;exact hI u hh
  . obtain⟨_,_,_,_,hh⟩:=xY (by omega) hu;exact hI u hh
  . rw[fJ];omega
  . rw[fJ];omega
  . obtain⟨j, j1, j2, j3, _⟩ := xY (by omega) hu;rw[cN,DH] at hv;rw[if_pos (by omega),Nat.add_zero,p1] at hv;cases hv;rw[<- j3];exact dY (k3 j j1 (by omega))
  . obtain⟨j, j1, j2, j3, _⟩ := xY (by omega) hu;rw[cN,bC,fJ,DH] at hv;rw[if_pos (by omega),show sa+k+(min sb (bM st).size-(sa+k)-1)=sb-1 by omega,q1] at hv;cases hv;rw[<- j3];exact dY (m2 j j1 j2)
 have fin:∀r g,Told ((bM st).extract (sa+k) sb) ((bM st).extract sb (sb+m)) r →
   wpS (aM prog w) A E s (do
    modify fun z=>eE z (r.toList.zipIdx.foldl (fun a (p,j)=>a.setIfInBounds (sa+k+j) p) (bM z))
    return (pV (<- get)).isNone) Q (gst (gR st P') g):=by
  rintro r g ⟨r1,r2⟩
  have hlen:r.toList.length=sb+m-(sa+k):=by
   rw[r1.length_eq,cV,bC,bC,fJ,fJ];omega
  have hfit:sa+k+r.toList.length<=(bM st).size:=by omega
  have hpm:(lay (bM st) (sa+k) r.toList).Perm (bM st):=by
   refine VZ hfit (r1.trans (HW ?_));rw[yC,yC,hlen,show sb+m-(sa+k)=(sb-(sa+k))+m by omega,List.take_add,oJ,show sa+k+(sb-(sa+k))=sb by omega,show sb+m-sb=m by omega]
  have rmem:∀u∈r.toList,K (bM st) sb<=ky u/\ky u<=K (bM st) (sb-1):=fun u hu=>by
   rcases bI.mp (r1.mem_iff.mp hu) with hu | hu
   . obtain⟨j, j1, j2, j3, _⟩ := xY (by omega) hu;rw[<- j3];have a1:=k3 j j1 (by omega);have a2:=s1 j (sb-1) (by omega) (by omega) (by omega);omega
   . obtain⟨j, j1, j2, j3, _⟩ := xY (by omega) hu;rw[<- j3];have a1:=m2 j j1 j2;have a2:=s2 sb j (aO _) j1 (by omega);omega
  refine aT (iL (aT (oM (aZ ?_))));show Q (pV st).isNone (eE (gst (gR st P') g) (lay (bM st) (sa+k) r.toList));rw[hB.nf];have hin:∀i,sa+k<=i->i<sb+m->∃u,r.toList[i-(sa+k)]?=some u/\K (lay (bM st) (sa+k) r.toList) i=ky u:=fun i i1 i2=>(lay_K hfit).1 i1 (by omega);have hout:∀i,(i<sa+k\/sb+m<=i)->K (lay (bM st) (sa+k) r.toList) i=K (bM st) i:=fun i i1=>(lay_K hfit).2 (by omega);refine h _ ⟨hpm.trans hB.pm,hB.kd,hB.nf⟩ e3 (fun j hj=>hout j (by omega)) ?_;intro x y x1 xy y1;show K (lay (bM st) (sa+k) r.toList) x<=K (lay (bM st) (sa+k) r.toList) y
  by_cases hx1:x<sa+k
  . rw [hout x (.inl hx1)]
    by_cases hy1:y<sa+k
    . rw[hout y (.inl hy1)];exact s1 x y x1 xy (by omega)
    . have hxk := k2 x x1 hx1
      by_cases hy2:y<sb+m
      . obtain⟨u, u1, u2⟩ := hin y (by omega) hy2;rw[u2];have:=(rmem u (eH u1)).1;omega
      . rw[hout y (.inr (by omega))];have:=s2 sb y (aO _) (by omega) y1;omega
  . by_cases hx2 : x < sb + m
    . obtain ⟨u, u1, u2⟩ := hin x (by omega) hx2;rw [u2]
      by_cases hy2:y<sb+m
      . obtain ⟨v, v1, v2⟩ := hin y (by omega) hy2;rw [v2]
        by_cases hxy:x=y
        . subst hxy;rw[u1] at v1;cases v1;exact cQ _
        . obtain ⟨g1, g2⟩ := aV.mp u1;obtain ⟨g3,g4⟩:=aV.mp v1;have:=bU.mp r2 _ _ g1 g3 (by omega)
          rwa [g2,g4] at this
      . rw[hout y (.inr (by omega))];have a1:=(rmem u (eH u1)).2;have a2:=m3 y (by omega) y1;omega
    . rw[hout x (.inr (by omega)), hout y (.inr (by omega))];exact s2 x y (by omega) xy y1
 split
 . exact aT (IA hB.kd T fun r g hr=>fin r g hr)
 . exact aT (IB hB.kd T fun r g hr=>fin r g hr)
end
set_option autoImplicit false
abbrev PQ:=Nat×Nat×Nat
noncomputable def Rn(xs:Array Keyed):List PQ->Nat->Nat->Prop
 |[],s,e=>s=e
 |(a,n,_)::r,s,e=>a=s/\1<=n/\Seg xs s (s+n)/\Rn xs r (s+n) e
theorem pE{xs:Array Keyed}{r:List PQ}{e:Nat}:∀{l:List PQ} {s:Nat},Rn xs (l++r) s e↔∃m,Rn xs l s m/\Rn xs r m e
 |[],s=>⟨fun h=>⟨s,rfl,h⟩,fun⟨m,h1,h2⟩=>by cases h1;exact h2⟩
 | (a, n, p) :: l, s => by
   constructor
   . rintro⟨h1, h2, h3, h4⟩;obtain⟨m,g1,g2⟩:=pE.mp h4;exact⟨m,⟨h1,h2,h3,g1⟩,g2⟩
   . rintro⟨m, ⟨h1, h2, h3, g1⟩, g2⟩;exact⟨h1,h2,h3,pE.mpr ⟨m,g1,g2⟩⟩
theorem LK{xs:Array Keyed}{e:Nat}:∀{l:List PQ} {s:Nat},Rn xs l s e->s+l.length<=e
 |[],s,h=>by cases h;simp
 |(a,n,p)::l,s,⟨h1,h2,h3,h4⟩=>by have:=LK h4;simp only[aN];omega
theorem wX{xs ys:Array Keyed}{e:Nat}:∀{l:List PQ} {s:Nat},Rn xs l s e->(∀k,s<=k->k<e->K ys k=K xs k)->Rn ys l s e
 |[],s,h,_=>h
 | (a, n, p) :: l, s, ⟨h1, h2, h3, h4⟩, h => by
   have hle:=LK h4;exact⟨h1,h2,fun i j a b c=>by rw[h i a (by omega),h j (by omega) (by omega)];exact h3 i j a b c,wX h4 fun k k1 k2=>h k (by omega) k2⟩
noncomputable def rsOld(pw:Nat)(_:Option Unit×Unit):StateT SortSt Sem (ForInStep (Option Unit×Unit)):=do
 let z <- get
 match if (bP z).size>1 then (bP z)[(bP z).size-2]? else none with
  | some (_, _, older) =>
    if older<=pw then pure (ForInStep.done (none,()))
    else do
     let b <- HD ((bP z).size-2)
     if (!b)=true then pure (ForInStep.done (some (),())) else pure (ForInStep.yield (none,()))
  |_=>pure (ForInStep.done (none,()))
noncomputable def BW(size lo n:Nat):StateT SortSt Sem (ForInStep (Option Unit×Nat)):=do
 let z <- get
 match (bP z).back? with
  | some (s1, n1, _) => do
    let c <- forIn [0:size] (none,()) fun _ c=>rsOld (power' size (2*s1+n1) (2*s1+n1+n1+n) size) c
    match c.1 with
     |some r=>pure (ForInStep.done (some r,lo))
     | none => do
       modify fun z=>gR z ((bP z).modify ((bP z).size-1) fun x=>match x with | (a,l,_)=>(a,l,power' size (2*s1+n1) (2*s1+n1+n1+n) size))
       modify fun z=>gR z ((bP z).push (lo,n,0))
       pure (ForInStep.yield (none,lo+n))
  | _ => do
    modify fun z=>gR z ((bP z).push (lo,n,0))
    pure (ForInStep.yield (none,lo+n))
noncomputable def IN(size mr:Nat)(c:Option Unit×Nat):StateT SortSt Sem (ForInStep (Option Unit×Nat)):=
 if c.2≥size then pure (ForInStep.done (none,c.2))
 else do
  let x <- countRun' c.2 (size-c.2)
  match x with
   | some n =>
     if n<mr then do
      liftM (rule "list.sort.binary-insertion")
      let b <- binarySort' c.2 (min (size-c.2) mr) n
      if (!b)=true then pure (ForInStep.done (some (),c.2)) else BW size c.2 (min (size-c.2) mr)
     else BW size c.2 n
   |_=>pure (ForInStep.done (some (),c.2))
noncomputable def pick(p:Array PQ):Nat :=
 if Option.any (fun x=>decide (x<p[p.size-2+1]?.elim 0 fun x=>x.2.1)) (if p.size-2>0 then Option.map (fun x=>x.2.1) p[p.size-2-1]? else none)=true then p.size-2-1 else p.size-2
noncomputable def rsEnd(_:Option Unit×Unit):StateT SortSt Sem (ForInStep (Option Unit×Unit)):=do
 let z <- get
 if (bP z).size<=1 then pure (ForInStep.done (none,()))
 else do
  let b <- HD (pick (bP z))
  if (!b)=true then pure (ForInStep.done (some (),())) else pure (ForInStep.yield (none,()))
noncomputable def sR:StateT SortSt Sem Unit:=do
 let z <- get
 let c <- forIn [0:(bM z).size] (none,0) fun _ c=>IN (bM z).size (minRun' (bM z).size (bM z).size 0) c
 match c.1 with
  |some r=>pure r
  | none => do
    let d <- forIn [0:(bM z).size] (none,()) fun _ d=>rsEnd d
    match d.1 with
     |some r=>pure r
     |none=>pure ()
theorem EE:sortRuns'=sR:=by kernel_rfl
section
variable{prog:aY}{w:bS}{A:bR}{E:Value->aC->Prop}{s:aC}{a₀ : Array Keyed}
structure RS(a₀ : Array Keyed)(st:SortSt)(lo:Nat):Prop where
 tb:TB a₀ st
 rn:Rn (bM st) (bP st).toList 0 lo
 le:lo<=a₀.size
theorem sW{st:SortSt}{lo i:Nat}{Q:Bool->SortSt->Prop}(h0:IntKeys a₀)(R:RS a₀ st lo)(hi:i+1<(bP st).size)(h:∀st',RS a₀ st' lo->(bP st').size+1=(bP st).size->(∀k,lo<=k->K (bM st') k=K (bM st) k)->Q true st'):wpS (aM prog w) A E s (HD i) Q st:=by
 have hlen:(bP st).toList.length=(bP st).size:=bC
 obtain⟨pre,u,v,post,e,hpl⟩:∃pre u v post,(bP st).toList=pre++u::v::post/\pre.length=i:=by
  refine⟨(bP st).toList.take i,(bP st).toList[i]'(by omega),(bP st).toList[i+1]'(by omega),(bP st).toList.drop (i+2),?_,by rw[dS];omega⟩
  conv=>lhs;rw[<- eP i (bP st).toList]
  rw[cE (by omega),cE (by omega)]
 have hr:=R.rn;obtain⟨sa,na,pw⟩:=u;obtain⟨sb,nb,pw2⟩:=v;rw[e] at hr;obtain⟨m,g1,g2,g3,g4,g5,g6,g7,g8⟩:=pE.mp hr;subst g2;have hle:=LK g8;have hlo:=R.le;refine IC (sb:=sb) h0 R.tb e hpl.symm g5 g3 g6 (by omega) (by rw[g5];exact g4) (by rw[g5];exact g7) fun st' b1 b2 b3 b4=>h st' ⟨b1,?_,hlo⟩ ?_ fun k hk=>b3 k (.inr (by omega))
 . rw[b2];refine pE.mpr ⟨sa,wX g1 fun k _ k2=>b3 k (.inl k2),rfl,by omega,by rw[<- Nat.add_assoc,<- g5];exact b4,?_⟩;rw[<- Nat.add_assoc];exact wX g8 fun k k1 _=>b3 k (.inr (by omega))
 . have l1 : (bP st').toList.length=(bP st').size := bC;rw[b2] at l1;rw[e] at hlen;simp only[cV,aN] at l1 hlen;omega
theorem pick_lt{p:Array PQ}(h:2<=p.size):pick p+1<p.size:=by
 have:∀c:Bool,(if c=true then p.size-2-1 else p.size-2)+1<p.size:=fun c=>by cases c<;>simp<;>omega
 exact this _
theorem EZ(f:PQ->PQ):∀(l:List PQ) (u:PQ),(l++[u]).modify l.length f=l++[f u]
 |[],u=>rfl
 | a :: l, u => by
   rw[gM,aN,List.modify_succ_cons,EZ f l u];rfl
theorem KU{st:SortSt}{lo n:Nat}{Q:ForInStep (Option Unit×Nat)->SortSt->Prop}(h0:IntKeys a₀)(R:RS a₀ st lo)(hn:1<=n)(hle:lo+n<=a₀.size)(hs:Seg (bM st) lo (lo+n))(h:∀st',RS a₀ st' (lo+n)->Q (.yield (none,lo+n)) st'):wpS (aM prog w) A E s (BW a₀.size lo n) Q st:=by
 have fin:∀st':SortSt,TB a₀ st'->Rn (bM st') (bP st').toList 0 lo->(∀k,lo<=k->K (bM st') k=K (bM st) k) →
   wpS (aM prog w) A E s (do
    modify fun z=>gR z ((bP z).push (lo,n,0))
    pure (ForInStep.yield ((none,lo+n):Option Unit×Nat))) Q st':=fun st' tb rn kk=>by
  refine aT (iL (aZ (h _ ⟨⟨tb.pm,tb.kd,tb.nf⟩,?_,hle⟩)));show Rn (bM st') ((bP st').push (lo,n,0)).toList 0 (lo+n);rw[dW];exact pE.mpr ⟨lo,rn,rfl,hn,fun i j a b c=>by rw[kk i a,kk j (by omega)];exact hs i j a b c,rfl⟩
 unfold BW;refine aT (oM ?_);cases hb:(bP st).back? with
 |none=>exact fin st R.tb R.rn fun _ _=>rfl
 | some u =>
   obtain⟨s1,n1,u3⟩:=u;dsimp only;generalize power' a₀.size (2*s1+n1) (2*s1+n1+n1+n) a₀.size=pw
   refine aT (fO (dB (I:=fun _ c z=>c=(none,())/\RS a₀ z lo/\(∀k,lo<=k->K (bM z) k=K (bM st) k))
    (Q:=fun c z=>c=(none,())/\RS a₀ z lo/\(∀k,lo<=k->K (bM z) k=K (bM st) k)) ?s1 (fun _ _ hh=>hh) ⟨rfl,R,fun _ _=>rfl⟩) ?s3)
   case s1 =>
    rintro i c z _ _ ⟨rfl,Rz,kz⟩;unfold rsOld;refine aT (oM ?_)
    by_cases hsz:(bP z).size>1
    . rw [if_pos hsz, getElem?_pos (bP z) ((bP z).size - 2) (by omega)];dsimp only
      split
      . exact aZ ⟨rfl,Rz,kz⟩
      . refine aT (sW h0 Rz (by omega) fun st' R' _ k' => ?_);simp only[iZ,bD,if_false];exact aZ ⟨rfl,R',fun k hk=>(k' k hk).trans (kz k hk)⟩
    . rw[if_neg hsz];exact aZ ⟨rfl,Rz,kz⟩
   case s3 =>
    rintro c z ⟨rfl,Rz,kz⟩;dsimp only;refine aT (iL ?_);refine fin _ ⟨Rz.tb.pm,Rz.tb.kd,Rz.tb.nf⟩ ?_ kz;show Rn (bM z) ((bP z).modify ((bP z).size-1) _).toList 0 lo;have hr:=Rz.rn
    have e:∀(P:Array PQ) (pw:Nat),Rn (bM z) P.toList 0 lo->Rn (bM z) (P.modify (P.size-1) fun x=>match x with | (a,l,_)=>(a,l,pw)).toList 0 lo:=by
     rintro⟨l⟩ pw hl;simp only[bB] at hl ⊢;rcases HP l with rfl | ⟨l',u,rfl⟩
     . simpa using hl
     . obtain ⟨u1, u2, u3⟩ := u;rw [HQ] at hl ⊢;obtain ⟨m,m1,m2,m3,m4,m5⟩:=pE.mp hl
       have e2:(Array.modify (l'++[(u1,u2,u3)]).toArray ((l'++[(u1,u2,u3)]).length-1) fun x=>match x with | (a,l,_)=>(a,l,pw)).toList=l'++[(u1,u2,pw)]:=by
        simp[EZ]
       simp only at e2 ⊢;rw[e2];exact pE.mpr ⟨m,m1,m2,m3,m4,m5⟩
    exact e _ _ hr
theorem YU{st:SortSt}{lo mr:Nat}{Q:ForInStep (Option Unit×Nat)->SortSt->Prop}(h0:IntKeys a₀)(R:RS a₀ st lo)(hd:lo=a₀.size->Q (.done (none,lo)) st)(h:∀st' lo',lo+1<=lo'->RS a₀ st' lo'->Q (.yield (none,lo')) st'):wpS (aM prog w) A E s (IN a₀.size mr (none,lo)) Q st:=by
 unfold IN;dsimp only;have hlo:=R.le
 by_cases hge:lo≥a₀.size
 . rw[if_pos hge];exact aZ (hd (by omega))
 rw[if_neg hge];refine aT (wp_run h0 (by omega) (by omega) R.tb fun n xs c n1 n2 sg=>?_);have R':RS a₀ (eE st xs) lo:=⟨R.tb.arr c.1,wX R.rn fun k _ k2=>c.2 k (.inl k2),hlo⟩
 dsimp only
 split
 . refine aT (pR (gQ ⟨rfl, ?_⟩));refine aT (wp_ins h0 (by omega) (by omega) R'.tb sg fun ys c2 sg2=>?_);simp only[iZ,bD,if_false];refine KU h0 (⟨R'.tb.arr c2.1,wX R'.rn fun k _ k2=>c2.2 k (.inl k2),hlo⟩:RS a₀ (eE (eE st xs) ys) lo) (by omega) (by omega) sg2 fun st' r'=>h st' _ (by omega) r'
 . exact KU h0 R' n1 (by omega) sg fun st' r'=>h st' _ (by omega) r'
theorem DP{st:SortSt}{Q:Unit->SortSt->Prop}(h0:IntKeys a₀)(hB:TB a₀ st)(hp:bP st=#[])(h:∀st',(bM st').Perm a₀->pV st'=none->Seg (bM st') 0 a₀.size->Q () st'):wpS (aM prog w) A E s sortRuns' Q st:=by
 rw[EE];unfold sR;refine aT (oM ?_);rw[hB.sz];have R0:RS a₀ st 0:=⟨hB,by rw[hp];rfl,bW _⟩
 refine aT (fO (dB (I:=fun i c z=>∃lo,c=(none,lo)/\i<=lo/\RS a₀ z lo) (Q:=fun c z=>c=(none,a₀.size)/\RS a₀ z a₀.size) ?s1 ?s2 ⟨0,rfl,aO _,R0⟩) ?s3)
 case s2 =>
  rintro c z ⟨lo,rfl,h1,R⟩;have:=R.le;have e:lo=a₀.size:=by omega
  subst e;exact⟨rfl,R⟩
 case s1 =>
  rintro i c z _ hi ⟨lo,rfl,h1,R⟩;refine YU h0 R (fun e=>?_) fun st' lo' h2 R'=>⟨lo',rfl,by omega,R'⟩
  subst e;exact⟨rfl,R⟩
 case s3 =>
  rintro c z ⟨rfl,R⟩;dsimp only;have hfirst:=LK R.rn;rw[bC] at hfirst
  refine aT (fO (dB (I:=fun i c z=>c=(none,())/\RS a₀ z a₀.size/\(bP z).size+i<=a₀.size+1/\(bP z).size+i<=max a₀.size (1+i))
   (Q:=fun c z=>c=(none,())/\RS a₀ z a₀.size/\(bP z).size<=1) ?s4 ?s5 ⟨rfl,R,by omega,by omega⟩) ?s6)
  case s5 =>
   rintro c z ⟨rfl,R,h1,h2⟩;exact⟨rfl,R,by omega⟩
  case s4 =>
   rintro i c z _ hi ⟨rfl,R,h1,h2⟩;unfold rsEnd;refine aT (oM ?_)
   by_cases hsz:(bP z).size<=1
   . rw[if_pos hsz];exact aZ ⟨rfl,R,hsz⟩
   . rw[if_neg hsz];refine aT (sW h0 R (pick_lt (by omega)) fun st' R' e' _=>?_);simp only[iZ,bD,if_false];exact aZ ⟨rfl,R',by omega,by omega⟩
  case s6 =>
   rintro c z ⟨rfl,R,h1⟩;dsimp only;refine aZ (h z R.tb.pm R.tb.nf ?_);have hr:=R.rn;rw[<- bC] at h1
   match hl:(bP z).toList,h1 with
   | [], _ =>
     rw[hl] at hr;have e:0=a₀.size:=hr;intro i j _ _ hj;omega
   | [(u, n, v)], _ =>
     rw[hl] at hr;obtain⟨g1,g2,g3,g4⟩:=hr;have e:0+n=a₀.size:=g4;rw[e] at g3;exact g3
end
section
variable{prog:aY}{w:bS}{A:bR}{E:Value->aC->Prop}{s:aC}
theorem TR{a:aB}{vs:List Value}{ns:List Int}{n:Nat}{R:PySem.Fin->aC->Prop}(ho:s.heap.get? a=some (iW "list" vs.toArray n))(hI:eB vs ns)(hsl:vs.length<=sizeLine)(h:∀(us:Array Value) (ms:List Int),eB us.toList ms->ms.Perm ns->ms.Pairwise (·<=·)->R (.done (.ret .none)) { s with heap:=sortedHeap s.heap a vs us }) :
  aU (aM prog w) A (Builtin.«list.sort» ⟨[.ref a],[]⟩) R E s:=by
 rw[list_sort_plain];have ha:a<s.heap.objs.size:=aS ho;have hsz:vs.toArray.size=vs.length:=by simp
 refine aA (listItems_at ho rfl ?_);refine aA (KP ho rfl ?_ (by rw[hsz];exact hsl) (bW _));obtain⟨ep,ho1⟩:∃ep,(s.heap.update a (Obj.mapSeq fun _=>#[])).get? a=some (iW "list" #[] ep):=⟨_,get?_update_seq ho (fun _=>#[])⟩
 refine aA (XY ho1 rfl (aA (wpAny_newTuple (aA (wpAny_newList (cU ?_))))))
 have ho6:(((s.heap.update a (Obj.mapSeq fun _=>#[])).push (iW "tuple" vs.toArray 0)).push (iW "list" #[] 0)).get? a=some (iW "list" #[] ep):=by
  have h1:=aE (iW "tuple" vs.toArray 0) ho1;exact aE (iW "list" #[] 0) h1
 change aU (aM prog w) A _ R E { s with heap:=((s.heap.update a (Obj.mapSeq fun _=>#[])).push (iW "tuple" vs.toArray 0)).push (iW "list" #[] 0) };dsimp only
 have last:∀z:SortSt,(bM z).Perm (DL vs)->Seg (bM z) 0 (DL vs).size->R (.done (.ret .none)) { s with heap:=sortedHeap s.heap a vs ((bM z).map (·.2)) }:=fun z g1 g2=>by
  obtain⟨ns',u1,u2,u3⟩:=sorted_out hI g1 fun i j hij hj=>g2 i j (bW _) hij hj;exact h _ ns' u1 u2 u3
 by_cases hlt:vs.toArray.size<2
 . rw [if_pos hlt, if_pos hlt];refine aA (aJ ?_);rw [StateT.run_pure];refine aA (aJ ?_);dsimp only;refine aA (XY ho6 rfl (aA (KP ho6 rfl ?_ (bW _) ?_)))
   . simp only [bne_self_eq_false, bD, if_false];refine aJ (last (SortSt.mk' general' (vs.toArray.zip vs.toArray) #[] 7 none) (iR _) ?_);intro i j _ hij hj;rw [RB] at hj;have e:i=j:=by omega
     rw[e];exact cQ _
   . rw[YD];show(DL vs).size<=_;rw[RB];omega
 . rw [if_neg hlt, if_neg hlt]
   obtain⟨x,y,r,rfl⟩:∃x y r,vs=x::y::r:=by
    match vs,hsz,hlt with
    |[],_,h2=>simp at h2
    |[_],_,h2=>simp at h2
    |x::y::r,_,_=>exact⟨x,y,r,rfl⟩
   rw[keyKind_ints hI];refine aA (aJ ?_)
   refine aA (cB (DP (a₀:=DL (x::y::r)) (st:=SortSt.mk' gE ((x::y::r).toArray.zip (x::y::r).toArray) #[] 7 none)
    (Q:=fun _ z=>(bM z).Perm (DL (x::y::r))/\pV z=none/\Seg (bM z) 0 (DL (x::y::r)).size)
    hI.intKeys ⟨iR _,rfl,rfl⟩ rfl fun z g1 g2 g3=>⟨g1,g2,g3⟩) ?_ fun _ _ e=>e)
   rintro⟨⟨⟩,z⟩ s' ⟨rfl,hp,hf,hs⟩;dsimp only;refine aA (XY ho6 rfl (aA (KP ho6 rfl ?_ (bW _) ?_)))
   . rw[hf];simp only[bne_self_eq_false,bD,if_false];exact aJ (last z hp hs)
   . refine cW (rN ((YD ..).trans (hp.size_eq.trans (RB _)))) (by omega)
end
set_option autoImplicit false
def Rise(xs:Array Nat):Prop:=xs.toList.Pairwise (· < ·)
theorem Rise.lt{xs:Array Nat}(h:Rise xs){i k:Nat}(hik:i<k)(hk:k<xs.size)(d:Nat):xs.getD i d<xs.getD k d:=by
 have:=bU.mp h i k (by simp;omega) (by simpa using hk) hik;simp only[dU,getElem?_pos xs i (by omega),getElem?_pos xs k hk,mG];simpa using this
theorem kE{xs:Array Nat}{j:Nat}(hr:Rise xs):∀(fuel lo hi:Nat),lo<=hi->hi<=xs.size->hi-lo<=fuel->(∀i,i<lo->xs.getD i j<j)->(∀i,hi<=i->i<xs.size->j<=xs.getD i j) →
  fD.below.go xs j fuel lo hi<=xs.size/\(∀i,i<fD.below.go xs j fuel lo hi->xs.getD i j<j)/\∀i,fD.below.go xs j fuel lo hi<=i->i<xs.size->j<=xs.getD i j
 | 0, lo, hi, h1, h2, h3, h4, h5 => by
   unfold fD.below.go;have e:lo=hi:=by omega
   subst e;exact⟨h2,h4,h5⟩
 | fuel + 1, lo, hi, h1, h2, h3, h4, h5 => by
   unfold fD.below.go
   by_cases hlt:lo<hi
   . rw [if_pos hlt];dsimp only
     by_cases hm:xs.getD ((lo+hi)/2) j<j
     . rw [if_pos hm];refine kE hr fuel _ hi (by omega) h2 (by omega) (fun i hi'=>?_) h5
       by_cases e:i=(lo+hi)/2
       . rw[e];exact hm
       . exact Nat.lt_trans (hr.lt (by omega) (by omega) j) hm
     . rw [if_neg hm];refine kE hr fuel lo _ (by omega) (by omega) (by omega) h4 fun i i1 i2=>?_
       by_cases e:i=(lo+hi)/2
       . rw[e];omega
       . have := hr.lt (show(lo + hi)/2<i by omega) i2 j;omega
   . rw [if_neg hlt];have e:lo=hi:=by omega
     subst e;exact⟨h2,h4,h5⟩
theorem GV{xs:Array Nat}(hr:Rise xs)(j:Nat) :
  fD.below xs j<=xs.size/\(∀i,i<fD.below xs j->xs.getD i j<j)/\∀i,fD.below xs j<=i->i<xs.size->j<=xs.getD i j :=
 kE hr xs.size 0 xs.size (bW _) (aO _) (by omega) (fun i hi=>absurd hi (Nat.not_lt_zero _)) fun i i1 i2=>by omega
def Tidy(t:fD):Prop:=Rise t.place/\t.dummies=#[]
theorem FR{α : Type}(xs:Array α)(p:Nat)(x : α):(fD.insertAt xs p x).toList=xs.toList.take p++x::xs.toList.drop p:=by
 unfold fD.insertAt;simp only[dL,dW,eG,List.extract_eq_drop_take,oH,HJ,bH,List.singleton_append];congr 2;rw[dH (by simp)]
theorem UG{t:fD}(h:Tidy t){j:Nat}(hj:t.place[fD.below t.place j]?≠some j):Tidy (t.put j).1:=by
 obtain⟨b1,b2,b3⟩:=GV h.1 j;refine⟨?_,?_⟩
 . show Rise (fD.insertAt t.place (fD.below t.place j) j);unfold Rise;rw [FR,gH]
   have gt:∀q∈t.place.toList.drop (fD.below t.place j),j<q:=fun q hq=>by
    obtain⟨i,hi,e⟩:=eM hq;rw[gL,bC] at hi;have hlt:fD.below t.place j+i<t.place.size:=by omega
    have eq:t.place.getD (fD.below t.place j+i) j=q:=by
     rw[<- e,dU,getElem?_pos t.place (fD.below t.place j+i) hlt];simp
    have h3:=b3 (fD.below t.place j+i) (by omega) hlt;rw[eq] at h3
    by_cases hi0:i=0
    . subst hi0;rw[getElem?_pos t.place (fD.below t.place j) (by omega)] at hj;rw[dU,Nat.add_zero,getElem?_pos t.place (fD.below t.place j) (by omega)] at eq;simp only[mG] at eq;rw[eq] at hj;have:q≠j:=fun z=>hj (by rw[z]);omega
    . have h4 := h.1.lt (i := fD.below t.place j) (k := fD.below t.place j + i) (by omega) hlt j;rw[eq] at h4;have h5:=b3 (fD.below t.place j) (aO _) (by omega);omega
   have lt:∀q∈t.place.toList.take (fD.below t.place j),q<j:=fun q hq=>by
    obtain⟨i,hi,e⟩:=eM hq;rw[dS,bC] at hi
    have eq:t.place.getD i j=q:=by
     rw[<- e,dU,getElem?_pos t.place i (by omega)];simp
    rw[<- eq];exact b2 i (by omega)
   refine⟨bV (eX ..) h.1,bL.mpr ⟨gt,bV (fV ..) h.1⟩,fun a ha b hb=>?_⟩;rcases aH.mp hb with rfl | hb
   . exact lt a ha
   . exact Nat.lt_trans (lt a ha) (gt b hb)
 . show(if fD.has t.dummies j then fD.eraseAt t.dummies (fD.below t.dummies j) else t.dummies)=#[];rw[h.2];rw[if_neg];unfold fD.has;simp
theorem ES{t:fD}(h:t.dummies=#[])(f:Nat->Int)(hs:Int):∀(fuel:Nat) (p:fD.Probe),p.dummy=none->∀j d,fD.probe.go t f hs fuel p=some (.empty j d)->d=none/\t.slot j=.empty
 |0,p,_,j,d,e=>by unfold fD.probe.go at e;cases e
 | fuel + 1, p, hp, j, d, e => by
   have ha:∀q:fD.Probe,(t.advance q).dummy=q.dummy:=fun q=>by
    unfold fD.advance
    split<;>rfl
   unfold fD.probe.go at e;cases hsl:t.slot p.j with
   | empty =>
     rw[hsl] at e;simp only[Option.some.injEq,fD.Met.empty.injEq] at e;obtain⟨rfl,rfl⟩:=e;exact⟨hp,hsl⟩
   | dummy =>
     exfalso;unfold fD.slot at hsl;dsimp only at hsl
     split at hsl
     . cases hsl
     . rw [h] at hsl
       split at hsl
       . rename_i hh;unfold fD.has at hh;simp at hh
       . cases hsl
   | live i =>
     rw[hsl] at e;dsimp only at e
     split at e
     . cases e
     . exact ES h f hs fuel _ (by rw[ha];exact hp) j d e
theorem IL{t:fD}{j:Nat}(h:t.slot j=.empty):t.place[fD.below t.place j]?≠some j:=by
 intro hh;unfold fD.slot at h;dsimp only at h;rw[if_pos (by rw[hh];simp)] at h;cases h
theorem free_is{t:fD}(h:Tidy t){hs:Int}{j:Nat}{d:Bool}(e:t.freeSlot hs=some (j,d)):t.place[fD.below t.place j]?≠some j:=by
 unfold fD.freeSlot at e
 split at e
 . rename_i j' d' he;obtain⟨rfl,h2⟩:=ES h.2 _ hs _ _ rfl j' d' he;simp only[Option.some.injEq,Prod.mk.injEq] at e;obtain⟨rfl,rfl⟩:=e;exact IL h2
 . cases e
def Okt(bt:Bool)(t:fD):Prop:=t.led=!bt/\(t.plain=true->Tidy t)
theorem JI{bt:Bool}{t:fD}(h:Okt bt t)(es:Array (Int×Value))(hs:Int)(x:Value):Okt bt (layNew t es hs x).2.1:=by
 unfold layNew
 split
 . rename_i j d he;dsimp only;unfold fD.orStandIn
   split
   . exact⟨h.1,fun hp=>UG (h.2 hp) (free_is (h.2 hp) he)⟩
   . exact⟨h.1,fun hp=>by cases hp⟩
 . exact⟨h.1,fun hp=>by cases hp⟩
theorem WC{bt:Bool}{mask finger moves:Nat}{led plain:Bool}{hs:Array Int}{t:fD}{o:Array Nat}(hl:led=!bt)(e:fD.laid mask finger moves led plain hs=some (t,o)):Okt bt t:=by
 unfold fD.laid at e;cases ho:fD.layClean mask hs with
 |none=>rw[ho] at e;cases e
 | some owner =>
   rw[ho] at e;simp only[Option.bind_eq_bind,bF,Option.pure_def,Option.some.injEq,Prod.mk.injEq] at e;obtain⟨rfl,rfl⟩:=e;refine⟨hl,fun _=>⟨?_,rfl⟩⟩;unfold Rise;simp only
   have key:∀l:List Nat,l.Pairwise (· < ·)->((l.filterMap fun j=>(owner.getD j none).map (j,·)).map (·.1)).Pairwise (· < ·):=by
    intro l hl;refine bV (?_:List.Sublist _ l) hl;clear hl
    induction l with
    |nil=>exact AB _
    | cons a l ih =>
      rw[gP];cases owner.getD a none with
      |none=>exact List.Sublist.cons _ ih
      |some b=>exact List.Sublist.cons₂ _ ih
   exact key _ List.pairwise_lt_range
theorem BX{bt:Bool}{t:fD}(h:Okt bt t)(es:Array (Int×Value))(n:Nat):Okt bt (uD t es n).2.1:=by
 unfold uD
 split
 . rename_i t' o he;dsimp only
   split
   . exact WC h.1 he
   . exact⟨h.1,fun hp=>by cases hp⟩
 . exact⟨h.1,fun hp=>by cases hp⟩
section
variable{prog:aY}{w:bS}{A:bR}{E:Value->aC->Prop}{s:aC}
noncomputable def bt(w:bS):Bool:=w.params.followText "set-order"
def SI(prog:aY)(w:bS)(h:Heap)(a:aB)(ns:List Int):Prop :=
 ∃o es ep t ks,h.get? a=some o/\o.ExactSet/\o.data=.set es ep t/\ElemsOf (mV prog w) es.toList/\eB (es.toList.map (·.2)) ks/\ks.Nodup/\(∀k,k∈ks↔k∈ns)
  /\ es.size<scanBound/\t.fits es.size=true/\Okt (bt w) t
theorem BC:∀{us vs:List Value} {ns:List Int},eB vs ns->us.Perm vs->∃ms,eB us ms/\ms.Perm ns:=by
 intro us vs ns hI hp;refine⟨us.map numOf,intsAre_map us fun v hv=>hI.all v (hp.mem_iff.mp hv),?_⟩;have:=hp.map numOf
 rwa [hI.nums] at this
theorem BB:∀{vs:List Value} {ns:List Int},eB vs ns->∀(k:Int) (t:Tok),eB (vs++[.int k t]) (ns++[k])
 |_,_,.nil,k,t=>.cons k t .nil
 |_,_,.cons n u h,k,t=>.cons n u (BB h k t)
theorem FQ:∀{vs:List Value} {ns:List Int},eB vs ns->∀k,k∈ns↔∃v∈vs,Value.isInt k v=true
 |_,_,.nil,k=>by simp
 | _, _, .cons n u h, k => by
   rw[aH,FQ h k];constructor
   . rintro (rfl | ⟨v, h1, h2⟩)
     . exact⟨_,.head _,by simp[Value.isInt]⟩
     . exact⟨v,.tail _ h1,h2⟩
   . rintro ⟨v, h1, h2⟩;rcases aH.mp h1 with rfl | h1
     . have e : n = k := by simpa [Value.isInt] using h2
       exact .inl e.symm
     . exact .inr ⟨v,h1,h2⟩
theorem add_one{a:aB}{ns:List Int}{k:Int}{tk:Tok}{Q:Bool->aC->Prop}(hS:SI prog w s.heap a ns)(hroom:∀o es ep t,s.heap.get? a=some o->o.data=.set es ep t->es.size+1<scanBound)(h:∀h' b,Heap.SameBut a s.heap h'->SI prog w h' a (ns++[k])->(∀o es ep t o' es' ep' t',s.heap.get? a=some o->o.data=.set es ep t->h'.get? a=some o'->o'.data=.set es' ep' t'->es'.size<=es.size+1)->Q b { s with heap:=h' }) :
  aU (aM prog w) A (setAddHashed a (.int k tk) (oN k)) Q E s:=by
 obtain⟨o,es,ep,t,ks,ho,hex,hd,hel,hI,hnd,hmem,hb,hf,hok⟩:=hS;have hb1:es.size+1<scanBound:=hroom o es ep t ho hd;have hkey:(mV prog w).is k (.int k tk)=true:=intKind_is _ _ _ _
 have old:∀o₂ es₂ ep₂ t₂,s.heap.get? a=some o₂->o₂.data=.set es₂ ep₂ t₂->es₂=es:=fun o₂ es₂ ep₂ t₂ e1 e2=>by
  rw[ho] at e1;cases e1;rw[hd] at e2;cases e2;rfl
 unfold setAddHashed setAddHashedIn;refine cU (aA (gK ho hd hf ?_));dsimp only;rw[byScan_of (knd:=mV prog w) rfl hb hel];simp only[↓reduceIte];unfold setAddByScan;refine aA (aA (gQ (aA (wpAny_setScan_of (knd:=mV prog w) hkey ho hd hf hel ?_))))
 have hks:k∈ks↔∃e∈es.toList,(mV prog w).is k e.2=true:=by
  rw[FQ hI k];constructor
  . rintro⟨v, h1, h2⟩;obtain⟨e,he,rfl⟩:=fL.mp h1;exact⟨e,he,h2⟩
  . rintro⟨e, he, h2⟩;exact⟨e.2,fL.mpr ⟨e,he,rfl⟩,h2⟩
 cases hr:List.findIdx? (fun e=>(mV prog w).is k e.2) es.toList with
 | some j =>
   dsimp only;obtain⟨hj,hpj,_⟩:=List.findIdx?_eq_some_iff_getElem.mp hr;have hin:k∈ks:=hks.mpr ⟨es.toList[j],iU hj,hpj⟩;refine aJ (aJ ?_)
   have:=h s.heap false (Heap.SameBut.refl a s.heap) ⟨o,es,ep,t,ks,ho,hex,hd,hel,hI,hnd,fun z=>?_,hb,hf,hok⟩ fun o₁ es₁ ep₁ t₁ o₂ es₂ ep₂ t₂ e1 e2 e3 e4=>by
    rw[old _ _ _ _ e1 e2,old _ _ _ _ e3 e4];omega
   . exact this
   . rw[bI, cD, <- hmem z];exact⟨.inl,fun q=>q.elim id fun e=>e▸hin⟩
 | none =>
   dsimp only
   have hout:k∉ks:=fun hin=>by
    obtain⟨e,he,hp⟩:=hks.mp hin;have:=List.findIdx?_eq_none_iff.mp hr e he;rw[hp] at this;cases this
   have said:∀(way:Bool) {z:aC} {T:Unit->aC->Prop},T () z->aU (aM prog w) A (match way with | true=>rule "set.scan.the-table-gave-way" | false=>pure ()) T E z:=fun way z T q=>match way with
    |true=>gQ q
    |false=>aJ q
   have hperm:=layNew_perm t es (oN k) (.int k tk);have hfits:=layNew_fits t es (oN k) (.int k tk);have hokt:=JI hok es (oN k) (.int k tk)
   change aU (aM prog w) A (do
    let x:=layNew t es (oN k) (.int k tk)
    _) _ _ _
   generalize hL:layNew t es (oN k) (.int k tk)=L at hperm hfits hokt ⊢;obtain⟨es1,t1,wd,gave⟩:=L;dsimp only at hperm hfits hokt ⊢;rw[dW] at hperm
   have mk:∀es2:Array (Int×Value),es2.toList.Perm es1.toList->ElemsOf (mV prog w) es2.toList/\(∃ks2,eB (es2.toList.map (·.2)) ks2/\ks2.Nodup/\∀z,z∈ks2↔z∈ns++[k])/\es2.size=es.size+1:=fun es2 hp2=>by
    have hp3:=hp2.trans hperm;refine⟨(hel.push (knd:=mV prog w) hkey rfl).perm hp3,?_,?_⟩
    . have e1:eB ((es.toList++[(oN k,Value.int k tk)]).map (·.2)) (ks++[k]):=by
       rw[kY];exact BB hI k tk
      obtain⟨ks2,g1,g2⟩:=BC e1 (hp3.map (·.2));refine⟨ks2,g1,g2.nodup_iff.mpr ?_,fun z=>?_⟩
      . rw[List.nodup_append];exact⟨hnd,by simp,fun x hx y hy=>by rw[cD.mp hy];exact fun e=>hout (e▸hx)⟩
      . rw[g2.mem_iff,bI,bI,hmem z]
    . have := hp3.length_eq;simpa using this
   obtain⟨hel1,⟨ks1,hI1,hnd1,hm1⟩,hsz1⟩:=mk es1 (mS _);refine aA (said _ ?_)
   have fin:∀(t2:fD),t2.fits es1.size=true->Okt (bt w) t2->aU (aM prog w) A (do
     storeSet a es1 t2
     if (!wd && t2.tooFull) = true then do
         (match (uD t2 es1 (fD.grown es1.size)).2.2 with | true=>rule "set.scan.the-table-gave-way" | false=>pure ():Sem Unit)
         storeSet a (uD t2 es1 (fD.grown es1.size)).1 (uD t2 es1 (fD.grown es1.size)).2.1;pure (some true)
      else pure (some true)) (fun r s'=>aU (aM prog w) A (match r with | some added=>pure added | none=>setAddHashedIn a (.int k tk) (oN k) 99999) Q E s') E s:=fun t2 hf2 ok2=>by
    refine aA (wpAny_storeSet_of ho hd ?_ (mW (by omega)))
    have hg1:(s.heap.update a (Obj.putSet es1 t2)).get? a=some { o with data:=.set es1 (ep+1) t2 }:=by
     have:=cC (Obj.putSet es1 t2) ho (by rw[NM es1 t2 hd];rfl);rw[NM es1 t2 hd] at this;exact this
    have sb1:=uI s.heap a (Obj.putSet es1 t2)
    split
    . have hp := relayAll_perm t2 es1 (fD.grown es1.size);have hfr:=relayAll_fits t2 es1 (fD.grown es1.size);have hor:=BX ok2 es1 (fD.grown es1.size);generalize uD t2 es1 (fD.grown es1.size)=Rl at hp hfr hor ⊢;obtain ⟨es2,t3,g2⟩:=Rl;dsimp only at hp hfr hor ⊢;obtain ⟨hel2,⟨ks2,hI2,hnd2,hm2⟩,hsz2⟩:=mk es2 hp;refine aA (said _ ?_);refine aA (wpAny_storeSet_of hg1 rfl ?_ (mW (by omega)))
      have hg2:((s.heap.update a (Obj.putSet es1 t2)).update a (Obj.putSet es2 t3)).get? a=some { o with data:=.set es2 (ep+1+1) t3 }:=by
       have:=cC (Obj.putSet es2 t3) hg1 (by rw[NM es2 t3 rfl];rfl);rw[NM es2 t3 rfl] at this;exact this
      refine aJ (aJ (h _ true (sb1.trans (uI _ a _)) ⟨_,es2,_,t3,ks2,hg2,hex,rfl,hel2,hI2,hnd2,hm2,by omega,hfr,hor⟩ fun o₁ es₁ ep₁ t₁ o₂ es₂ ep₂ t₂ e1 e2 e3 e4=>?_));rw[old _ _ _ _ e1 e2];rw[hg2] at e3;cases e3;cases e4;omega
    . refine aJ (aJ (h _ true sb1 ⟨_, es1, _, t2, ks1, hg1, hex, rfl, hel1, hI1, hnd1, hm1, by omega, hf2, ok2⟩ fun o₁ es₁ ep₁ t₁ o₂ es₂ ep₂ t₂ e1 e2 e3 e4 => ?_));rw[old _ _ _ _ e1 e2];rw[hg1] at e3;cases e3;cases e4;omega
   split
   . refine aA ?_;rw[hashByValue_scannable 8 rfl];refine aJ ?_;exact fin t1 hfits hokt
   . refine aA (aJ ?_);exact fin t1 hfits hokt
end
set_option autoImplicit false
section
variable{prog:aY}{w:bS}
def SIm(prog:aY)(w:bS)(h:Heap)(a:aB)(ns:List Int)(m:Nat):Prop :=
 SI prog w h a ns/\∀o es ep t,h.get? a=some o->o.data=.set es ep t->es.size<=m
theorem SIm.at{h h':Heap}{a:aB}{ns:List Int}{m:Nat}(hS:SIm prog w h a ns m)(k:∀o,h.get? a=some o->h'.get? a=some o):SIm prog w h' a ns m:=by
 obtain⟨⟨o,es,ep,t,ks,ho,r⟩,hm⟩:=hS;refine⟨⟨o,es,ep,t,ks,k o ho,r⟩,fun o' es' ep' t' e1 e2=>?_⟩;rw[k o ho] at e1;cases e1;exact hm o es' ep' t' ho e2
section
variable{A:bR}{R:sM->aC->Prop}{J:aB}{feet hand:List aB}{G:Array iY->Array iY->Prop}{n:Nat}{P:Nat->Value->Prop}{Z:Nat->aC->Prop}
theorem DV{c:aB}{z:aC}(h:aU (aM prog w) A.in1 (HC (.ref J)) (fun r z'=>match r with
   |none=>R (.ok (.ret .none)) z'
   |some v=>aU (aM prog w) A.in1 (setAdd c v) (fun _ z2=>fK (aM prog w) A (.builtin "set.update.loop" ⟨[.ref c,.ref J],[]⟩) R z2) (fun e z2=>R (.error e) z2) z') (fun e z2=>R (.error e) z2) z) :
  fK (aM prog w) A (.builtin "set.update.loop" ⟨[.ref c,.ref J],[]⟩) R z:=by
 have pl:=F.plain_set_update_loop;refine iH F.entry_set_update_loop (Eq.mpr (congrArg (fun B=>aU _ B _ _ _ z) (bR.under_plainId pl _)) ?_);show aU _ A.in1 (HC (.ref J) >>= _) _ _ z;refine aA (cB h (fun r z' q=>?_) fun _ _ q=>q);cases r with
 |none=>exact aJ q
 | some v =>
   show aU _ A.in1 (lK [v] (setAdd c v) >>= _) _ _ z';exact aA (cU (cB q (fun _ z2 q2=>aJ ⟨mX pl _,q2⟩) fun _ _ q2=>q2))
theorem SX(W:WalksS prog w A.in1 J feet hand G n P Z)(c:aB)(off:c∉feet)(num:Nat->Int)(isn:∀i v,P i v->∃t,v=.int (num i) t)(few:n+1<scanBound) :
  ∀(k i:Nat) (z:aC),n-i=k->i<=n->Z i z->SIm prog w z.heap c ((List.range i).map num) i →
   (∀z',Moved (c::hand) G z z'->SIm prog w z'.heap c ((List.range n).map num) n->R (.ok (.ret .none)) z') →
   fK (aM prog w) A (.builtin "set.update.loop" ⟨[.ref c,.ref J],[]⟩) R z:=by
 have away:c∉hand:=fun q=>off (W.sub c q);have more:∀b,b∈hand->b∈c::hand:=fun b q=>.tail _ q;intro k
 induction k with
 | zero =>
   intro i z hk hi here hS done;have e:i=n:=by omega
   subst e;refine DV (W.done z _ _ here fun z' mv=>?_);exact done z' (mv.mono more) (hS.at fun o e=>mv.heap c o away e)
 | succ k ih =>
   intro i z hk hi here hS done;have hlt:i<n:=by omega
   refine DV (W.item i z _ _ hlt here fun v z' hv here' mv=>?_);obtain⟨t,rfl⟩:=isn i v hv;have hS':=hS.at fun o e=>mv.heap c o away e;dsimp only;unfold setAdd;refine cU (aA ((mV prog w).pyHash (k:=num i) (intKind_is _ _ _ _) ?_));refine add_one (s:={ z' with toks:=z'.toks+1 }) hS'.1 (fun o es ep t e1 e2=>?_) fun h' b same hS2 hsz=>?_
   . have := hS'.2 o es ep t e1 e2;omega
   have rest:∀b,b≠c->h'.get? b=z'.heap.get? b:=same.2
   have hS3:SIm prog w h' c ((List.range (i+1)).map num) (i+1):=by
    refine⟨by rw[List.range_succ,kY];exact hS2,fun o es ep t e1 e2=>?_⟩;obtain⟨⟨o₀,es₀,ep₀,t₀,_,ho₀,_,hd₀,_⟩,hm₀⟩:=hS';have:=hsz o₀ es₀ ep₀ t₀ o es ep t ho₀ hd₀ e1 e2;have:=hm₀ o₀ es₀ ep₀ t₀ ho₀ hd₀;omega
   refine ih (i+1) _ (by omega) hlt (W.frame _ z' _ _ here' (kQ _) fun b q o e=>(rest b fun y=>off (y▸q)).trans e) hS3 fun z2 mv2 hS4=>done z2 (Moved.trans W.gtrans ((mv.mono more).then_heap (kQ _) fun b o q e=>(rest b fun y=>q (y▸.head _)).trans e) mv2) hS4
end
section
variable{A:bR}{E:Value->aC->Prop}{s:aC}
abbrev nset(led:Bool):Obj:={ cls:=.type "set",dict:=none,data:=.set #[] 0 (.fresh 0 0 led) }
theorem VH(x:Value){Q:Value->aC->Prop}(h:Q (.ref s.heap.objs.size) { s with heap:=s.heap.push (nset (!bt w)) }) :
  fK (aM prog w) A (.call (.builtin "set.__new__") ⟨[.type "set",x],[]⟩) (wants Q E) s:=by
 have own:=sub_set_self;have pl:=PySem.F.plain_set_new;refine DE ?_;show aU _ A.in1 (uX "set.__new__" ⟨[.type "set",x],[]⟩ >>= fun _=>again (.builtin "set.__new__" ⟨[.type "set",x],[]⟩)) _ _ s;refine aA (wpAny_of_eq (PySem.F.newCall_set_1 x) (aJ ⟨mX pl _,iH PySem.F.entry_set_new ?_⟩));rw[bR.under_plainId pl _];obtain⟨hp,gens,dr,toks,sys⟩:=s;unfold Builtin.«set.__new__»;unfold Builtin.Frozenset.newClass
 wp_walk
 exact uU (aJ (aA (wpAny_alloc (aJ (aJ h)))))
theorem si_new(h:Heap):SIm prog w (h.push (nset (!bt w))) h.objs.size [] 0:=by
 have hg:(h.push (nset (!bt w))).get? h.objs.size=some (nset (!bt w)):=aX _ rfl;refine⟨⟨_,#[],0,_,[],hg,⟨rfl,rfl,rfl⟩,rfl,fun e he=>by simp at he,.nil,List.nodup_nil,fun _=>Iff.rfl,by decide,by rfl,rfl,fun _=>⟨List.Pairwise.nil,rfl⟩⟩,fun o es ep t e1 e2=>?_⟩;rw[hg] at e1;cases e1;cases e2;exact aO _
theorem VF{items:Array Value}{ns:List Int}(hi:eB items.toList ns):(List.range items.size).map (fun i=>ns.getD i 0)=ns:=by
 have hlen:items.size=ns.length:=by rw[<- eB.length hi,bC]
 apply iK;intro i;rw[bT]
 by_cases hi':i<ns.length
 . rw[pC (by omega)];simp[gI,aK hi']
 . rw[aW (by simp;omega),aW (by omega)];rfl
theorem WM{l:aB}{items:Array Value}{ns:List Int}{Q:Value->aC->Prop}(free:A.handled=none)(hl:s.heap.IsList l items)(hi:eB items.toList ns)(few:items.size+1<scanBound)(h:∀(h':Heap) (tk:Nat),SIm prog w h' s.heap.objs.size ns items.size->(∀b o,s.heap.get? b=some o->h'.get? b=some o)->Q .none { s with heap:=h',toks:=tk }) :
  fK (aM prog w) A (.call (.builtin "set.__init__") ⟨[.ref s.heap.objs.size,.ref l],[]⟩) (wants Q E) { s with heap:=s.heap.push (nset (!bt w)) }:=by
 have hS:(s.heap.push (nset (!bt w))).get? s.heap.objs.size=some (nset (!bt w)):=aX _ rfl;refine gT HH.init.plain PySem.F.entry_set_init (check_set_init_1 ⟨_,hS,rfl⟩ ?_);obtain⟨lo,hlo,c1,nl,d1⟩:=hl;obtain⟨k1,k2,k3,k4⟩:=lo;cases c1;cases d1;have old:(s.heap.push (nset (!bt w))).get? l=some { cls:=.type "list",dict:=k2,data:=.seq items nl,slots:=k4 }:=aE _ hlo;have no1:=PySem.F.sub_list_set;have no2:=PySem.F.sub_list_frozenset;have no3:(Value.type "list"==Value.type "dict")=false:=rfl;have hl1:(s.heap.push (nset (!bt w))).IsList l items:=⟨_,old,rfl,nl,rfl⟩
 have lS:=aS hlo;have sz:(s.heap.push (nset (!bt w))).objs.size=s.heap.objs.size+1:=HA _ _;have far:∀b:aB,b<s.heap.objs.size->b≠(s.heap.push (nset (!bt w))).objs.size:=fun b hb=>by rw[sz];exact bE (iM hb)
 unfold Builtin.«set.__init__» noKeywords;unfold Builtin.Frozenset.updateFrom;generalize walker:RA=PI
 wp_walk
 subst walker;refine uB hl1 (aA (wpAny_runValue ?_))
 refine SX ((Walks.list (by simp[free]) _ l (far l lS) items).toS) s.heap.objs.size ?off (fun i=>ns.getD i 0) (fun i v hv=>eB.int_at hi i v (by rw[cN];exact hv)) few items.size 0 _ rfl (bW _)
  ⟨⟨_,aX _ rfl,rfl,rfl⟩,hl1.push _⟩ ((si_new s.heap).at fun o e=>aE _ e) ?fin
 case off =>
  rw[sz];intro q;rcases aH.mp q with e | q
  . exact bE (mR _) e
  . exact fR lS (cD.mp q)
 case fin =>
  rintro⟨h2,g2,d2,t2,s2⟩ mv full;have eg:g2=s.gens:=mv.gens;have ed:d2=s.drawn:=mv.drawn;have es:s2=s.os:=mv.os;rw[VF hi] at full;subst eg ed es;refine aJ (aJ (h h2 t2 full fun b o e=>?_));have hb:=aS e;refine mv.heap b o (fun q=>?_) (aE _ (aE _ e));rcases aH.mp q with y | q
  . exact bE hb y
  . exact far b hb (cD.mp q)
set_option maxHeartbeats 4000000 in
theorem call_set{l:aB}{items:Array Value}{ns:List Int}{Q:Value->aC->Prop}(free:A.handled=none)(hl:s.heap.IsList l items)(hi:eB items.toList ns)(few:items.size+1<scanBound)(h:∀(h':Heap) (tk:Nat),SIm prog w h' s.heap.objs.size ns items.size->(∀b o,s.heap.get? b=some o->h'.get? b=some o)->Q (.ref s.heap.objs.size) { s with heap:=h',toks:=tk }) :
  aU (aM prog w) A (call (.type "set") [.ref l]) Q E s:=by
 have C:=HH;obtain⟨top,above,order⟩:=C.mro;have made:=C.made;have below:=C.sub;have nt:=C.notType;have can:=C.canCreate;have fits:=PySem.F.typeCall_set_1 (.ref l);refine mI (DE (show aU _ _ (callAny (.type "set") _) _ _ _ from aJ ⟨Code.quiet_builtin _ (by decide +kernel),iH PySem.F.entry_type_call ?_⟩));rw[bR.under_plain (weight_type_call_type _ _ _) rfl]
 repeat (any_goals first | assumption | wp_step)
 refine gX (VH (.ref l) (E:=E) (Q:=fun v z=>v=.ref s.heap.objs.size/\z={ s with heap:=s.heap.push (nset (!bt w)) }) ⟨rfl,rfl⟩) fun r z q=>?_;rcases r with e | fl
 . exact q
 cases fl<;>try exact q.elim
 obtain⟨rfl,rfl⟩:=q;have at':aC.TypeIs { s with heap:=s.heap.push (nset (!bt w)) } (.ref s.heap.objs.size) "set":=⟨_,aX _ rfl,rfl⟩
 have look:=C.init.lookup;have bound:=C.init.bind (.ref s.heap.objs.size)
 repeat (any_goals first | assumption | wp_step)
 refine gX (WM (E:=E) (Q:=fun v z=>v=.none/\∃h' tk,z={ s with heap:=h',toks:=tk }/\SIm prog w h' s.heap.objs.size ns items.size/\∀b o,s.heap.get? b=some o->h'.get? b=some o) (by simp[free]) hl hi few
  fun h' tk q1 q2=>⟨rfl,h',tk,rfl,q1,q2⟩) fun r z q=>?_
 rcases r with e | fl
 . exact q
 cases fl<;>try exact q.elim
 obtain⟨rfl,h',tk,rfl,q1,q2⟩:=q
 repeat (any_goals first | assumption | wp_step)
 exact h h' tk q1 q2
end
end
set_option autoImplicit false
theorem oP:Slot "set" "__iter__" "set.__iter__" :=
 .of (owner:="set") (n:="__iter__") (by rw[iG,eW];kernel_rfl) (by decide +kernel) (by decide +kernel) (by decide +kernel) (by first | exact .inl (by decide +kernel) | exact .inr (by decide +kernel)) (by rw[pU];kernel_rfl)
theorem fM:Slot "set_iterator" "__next__" "set_iterator.__next__" :=
 .of (owner:="set_iterator") (n:="__next__") (by rw[iG,eW];kernel_rfl) (by decide +kernel) (by decide +kernel) (by decide +kernel) (by first | exact .inl (by decide +kernel) | exact .inr (by decide +kernel)) (by rw[pU];kernel_rfl)
theorem mT:Slot "set_iterator" "__iter__" "set_iterator.__iter__" :=
 .of (owner:="set_iterator") (n:="__iter__") (by rw[iG,eW];kernel_rfl) (by decide +kernel) (by decide +kernel) (by decide +kernel) (by first | exact .inl (by decide +kernel) | exact .inr (by decide +kernel)) (by rw[pU];kernel_rfl)
theorem tV:entryFor table "set.__iter__" = some Builtin.«frozenset.__iter__»:=entryFor_alias (id':="frozenset.__iter__") (by kernel_rfl) rfl (by decide +kernel) (by kernel_rfl)
theorem rH:entryFor table "set_iterator.__iter__" = some Builtin.«dict_keyiterator.__iter__»:=entryFor_alias (id':="dict_keyiterator.__iter__") (by kernel_rfl) rfl (by decide +kernel) (by kernel_rfl)
theorem sJ(a:Value):RC "set_iterator.__iter__" ⟨[a],[]⟩:=by unfold RC;kernel_rfl
theorem xX{α : Type}:∀{l:List α} {i:Nat} (h:i<l.length),(l[i]::l.eraseIdx i).Perm l
 |a::l,0,h=>mS _
 | a :: l, i + 1, h => by
   rw[List.eraseIdx_cons_succ,List.getElem_cons_succ];exact(List.Perm.swap _ _ _).trans (List.Perm.cons _ (xX (by simpa using h)))
theorem rG:entryFor table "set_iterator.__next__" = some Builtin.«set_iterator.__next__»:=entryFor_of_fast (by kernel_rfl)
theorem uR(a:Value):RC "set.__iter__" ⟨[a],[]⟩:=by unfold RC;kernel_rfl
theorem sI(a:Value):RC "set_iterator.__next__" ⟨[a],[]⟩:=by unfold RC;kernel_rfl
theorem EH:sK (.type "set") "__len__" = pure (some (.builtin "set.__len__")):=by rw[iG,eW];kernel_rfl
theorem LW{α : Type}(next:Nat->Nat):∀(fuel k:Nat) (left:List α) (out:Array α),left.length=fuel->(NN.go next fuel k left out).toList.Perm (out.toList++left)
 | 0, k, left, out, h => by
   have e:left=[]:=DG.mp h;subst e;unfold NN.go;simp
 | fuel + 1, k, left, out, h => by
   unfold NN.go;have hi:next k%left.length<left.length:=Nat.mod_lt _ (by omega);rw[aK hi];dsimp only;refine(LW next fuel (k+1) _ _ (by rw[uM hi];omega)).trans ?_;rw[dW,bH];exact fH _ (xX hi)
theorem OV{α : Type}(next:Nat->Nat)(xs:Array α):(NN next xs).toList.Perm xs.toList:=by
 have:=LW next xs.size 0 xs.toList #[] (by simp);simpa[NN] using this
section
variable{prog:aY}{w:bS}{A:bR}{E:Value->aC->Prop}{s:aC}
theorem OB{M:nX}{src:Source}{n:Nat}{Q:Nat->aC->Prop}(hn:n≠0)(h:∀i d,i<n->Q i { s with drawn:=d }):aU M A (choose src n) Q E s:=by
 intro Γ p hΓ;unfold choose;rw[Sem.wp];refine⟨hn,?_⟩;rw[Sem.wp];exact h _ _ (Nat.mod_lt _ (by omega))
theorem LA{α : Type}{M:nX}:∀(n:Nat) (xs:List α) (z:aC) {Q:List α->aC->Prop},xs.length=n->(∀ys d,ys.Perm xs->Q ys { z with drawn:=d })->aU M A (drawOrder n xs) Q E z
 | 0, xs, z, Q, hl, h => by
   have e:xs=[]:=DG.mp hl;subst e;unfold drawOrder;exact aJ (h [] z.drawn (mS _))
 |n+1,[],z,Q,hl,h=>by simp at hl
 | n + 1, x :: xs, z, Q, hl, h => by
   unfold drawOrder;refine aA (OB (by simp) fun i d hi=>?_);rw[aK hi];dsimp only;refine aA (LA n _ _ (by rw[uM hi,hl];rfl) fun ys d' hp=>aJ ?_);exact h _ d' ((List.Perm.cons _ hp).trans (xX hi))
theorem xM{Q:Bool->aC->Prop}(h:Q (bt w) s):aU (aM prog w) A setsByText Q E s:=by
 unfold setsByText;exact aA (uU (aJ h))
abbrev sit(f:Value)(i:Nat)(a:aB)(n ep:Nat):Obj:={ cls:=.type "set_iterator",data:=.fields #[f,.int i 0,.ref a,.int n 0,.int ep 0] }
theorem EC{M:nX}{it:aB}{Q:Value->aC->Prop}(hh:A.handled=none)(h:∀h' e,(∀b o,s.heap.get? b=some o->h'.get? b=some o)->aC.TypeIs { s with heap:=h' } e "StopIteration"->E e { s with heap:=h' }) :
  aU M A (do XZ (<- newExc (.type "StopIteration") []):Sem PySem.Fin) (fun r s'=>∃v,r=.done (.ret v)/\Q v s') E s:=by
 refine aA ?_;simp only[newExc,newTuple];refine aA (dC ?_ (by size_fits));refine aA (m:=firstArgMember _ _) (wpAny_of_eq (a:=Value.none) rfl ?_);refine dC ?_ (by size_fits);simp only[XZ];refine aA (wpAny_handled ?_);rw[hh];refine aA (aJ (wpAny_throw ?_));refine h _ _ (fun b o e=>aE _ (aE _ e)) ⟨_,aX _ rfl,rfl⟩
theorem wH{it a:aB}{f:Value}{i n ep:Nat}{Q:Option Value->aC->Prop}(hit:s.heap.get? it=some (sit f i a n ep))(h:aU (aM prog w) A.in1 (Builtin.«set_iterator.__next__» ⟨[.ref it],[]⟩) (fun r s'=>∃v,r=.done (.ret v)/\Q (some v) s')
    (fun e s'=>s'.TypeIs e "StopIteration"/\Q none s') s):aU (aM prog w) A (HC (.ref it)) Q E s:=by
 unfold HC
 refine aA (wpAny_attempt (nU (name:=Str.ofString "__next__") ⟨_,hit,rfl⟩ fM
  (fP fM ⟨_,hit,rfl⟩ rG (cB h (fun r s' ⟨v,e,q⟩=>⟨v,e,aJ q⟩) fun e s' ⟨ht,q⟩=>?_) (sI _))))
 refine aA (uS (T:="StopIteration") (b:=true) ht isSubtype_stop ?_);exact aJ q
theorem vZ{it a:aB}{o:Obj}{f:Value}{es:Array (Int×Value)}{i n ep:Nat}{t:fD}{Q:PySem.Fin->aC->Prop}{E':Value->aC->Prop}(hit:s.heap.get? it=some (sit f i a n ep))(ho:s.heap.get? a=some o)(hd:o.data=.set es ep t)(hf:t.fits es.size=true)(hn:es.size=n)(h:aU (aM prog w) A (
    if let .int slot _:=f then do
     match <- DK a slot.toNat i ep with
     | some (x, next) =>
       pS (.ref it) 0 (gS next)
       pS (.ref it) 1 (gS ((i:Int)+1))
       ret x
     |none=>pS (.ref it) 2 .none;XZ (<- newExc (.type "StopIteration") [])
    else do
     let some places <- seqItems? f | unsupported "internal:set_iterator"
     match places[i]? with
     | some (.int place _) =>
       let x <- setNextDrawn a place.toNat ep
       pS (.ref it) 1 (gS ((i:Int)+1))
       ret x
     |some _=>unsupported "internal:set_iterator"
     |none=>pS (.ref it) 0 (gS 0);pS (.ref it) 2 .none;XZ (<- newExc (.type "StopIteration") [])) Q E' s) :
  aU (aM prog w) A (Builtin.«set_iterator.__next__» ⟨[.ref it],[]⟩) Q E' s:=by
 unfold Builtin.«set_iterator.__next__»;show aU (aM prog w) A (fieldsOf (.ref it) >>= _) Q E' s;unfold fieldsOf;refine aA (aA (wpAny_load hit (aJ ?_)));dsimp only;refine aA (wpAny_setEntries_of ho hd hf ?_);rw[if_neg (by simp[hn])];exact h
theorem tM{it a:aB}{f:Value}{i n ep:Nat}{Q:Value->aC->Prop}(hit:s.heap.get? it=some (sit f i a n ep))(h:Q (.ref it) s):aU (aM prog w) A (RA (.ref it)) Q E s:=by
 refine wpAny_pyIter_slot ⟨_,hit,rfl⟩ mT (fP mT ⟨_,hit,rfl⟩ rH ?_ (sJ _));unfold Builtin.«dict_keyiterator.__iter__»;exact aJ ⟨_,rfl,"set_iterator",_,⟨_,hit,rfl⟩,fM.lookup,h⟩
theorem LF{h:Heap}{it a:aB}{f g:Value}{i n ep:Nat}(hit:h.get? it=some (sit f i a n ep)):(h.update it (Obj.mapFields (·.setIfInBounds 0 g))).get? it=some (sit g i a n ep):=
 cC _ hit rfl
theorem LD{h:Heap}{it a:aB}{f:Value}{i n ep:Nat}(hit:h.get? it=some (sit f i a n ep)):(h.update it (Obj.mapFields (·.setIfInBounds 1 (gS ((i:Int)+1))))).get? it=some (sit f (i+1) a n ep):=by
 have:=cC (Obj.mapFields (·.setIfInBounds 1 (gS ((i:Int)+1)))) hit rfl;rw[this];have e:((i+1:Nat):Int)=(i:Int)+1:=by omega
 unfold sit;rw[e];rfl
theorem DR{it a:aB}{o:Obj}{es:Array (Int×Value)}{ep:Nat}{t:fD}{sl:Nat->Nat}{ord:List Value}(hh:A.in1.handled=none)(hne:a≠it)(hd:o.data=.set es ep t)(hf:t.fits es.size=true)(hn:ord.length=es.size)(hx:∀(i:Nat) (z:aC) (Q:Option (Value×Nat)->aC->Prop) (E:Value->aC->Prop),z.heap.get? a=some o->i<=es.size->Q (ord[i]?.map fun x=>(x,sl (i+1))) z->aU (aM prog w) A.in1 (DK a (sl i) i ep) Q E z) :
  WalksS prog w A it [it,a] [it] (fun a b=>b=a) es.size (fun i v=>ord[i]?=some v) (fun i z=>z.heap.get? it=some (sit (.int (sl i) 0) i a es.size ep)/\z.heap.get? a=some o) where
 sub:=fun b hb=>by simp at hb;simp[hb]
 grefl:=fun _=>rfl
 gtrans:=fun _ _ _ h1 h2=>h2.trans h1
 frame:=fun i z h' tk st _ hk=>⟨hk it (by simp) _ st.1,hk a (by simp) _ st.2⟩
 self:=fun i z Q E st h=>tM st.1 h
 item:=fun i z Q E hi st h=>by
  refine wH st.1 (vZ st.1 st.2 hd hf rfl ?_);dsimp only;refine aA (hx i z _ _ st.2 (by omega) ?_);rw[aK (by omega)];dsimp only[cX];refine aA (eT st.1 rfl (by simp) ?_);have s1:=LF (g:=gS (sl (i+1):Int)) st.1;refine aA (eT s1 rfl (by simp) (aJ ⟨_,rfl,?_⟩));have s2:=LD s1;refine h _ _ (aK (by omega)) ⟨s2,?_⟩ ⟨fun b o' hb e=>?_,rfl,rfl,rfl,aO _⟩
  . exact(bG _ _ (Ne.symm hne)).trans ((bG _ _ (Ne.symm hne)).trans st.2)
  . have hb' : it ≠ b := fun z => hb (by simp[z]);exact(bG _ _ hb').trans ((bG _ _ hb').trans e)
 done:=fun z Q E st h=>by
  refine wH st.1 (vZ st.1 st.2 hd hf rfl ?_);dsimp only;refine aA (hx es.size z _ _ st.2 (aO _) ?_);rw[aW (by omega)];dsimp only[Option.map_none];refine aA (eT st.1 rfl (by simp) ?_);refine EC (it:=it) hh fun h' e hk ht=>⟨ht,h _ ⟨fun b o' hb e=>hk b o' ?_,rfl,rfl,rfl,aO _⟩⟩
  exact(bG _ _ (fun z=>hb (by simp[z]))).trans e
theorem ID{it a T:aB}{o oT:Obj}{es:Array (Int×Value)}{ep:Nat}{t:fD}{pl:List Nat}{n0:Nat}(hh:A.in1.handled=none)(hne:a≠it)(hnT:T≠it)(hd:o.data=.set es ep t)(hf:t.fits es.size=true)(hT:oT=iW "tuple" (pl.map fun(i:Nat)=>gS i).toArray n0)(hp:pl.Perm (List.range es.size)) :
  WalksS prog w A it [it,a,T] [it] (fun a b=>b=a) es.size (fun i v=>((pl.map fun i=>(es.toList.map (·.2)).getD i .none))[i]?=some v)
   (fun i z=>z.heap.get? it=some (sit (.ref T) i a es.size ep)/\z.heap.get? a=some o/\z.heap.get? T=some oT) where
 sub:=fun b hb=>by simp at hb;simp[hb]
 grefl:=fun _=>rfl
 gtrans:=fun _ _ _ h1 h2=>h2.trans h1
 frame:=fun i z h' tk st _ hk=>⟨hk it (by simp) _ st.1,hk a (by simp) _ st.2.1,hk T (by simp) _ st.2.2⟩
 self:=fun i z Q E st h=>tM st.1 h
 item:=fun i z Q E hi st h=>by
  have hl:pl.length=es.size:=by rw[hp.length_eq];simp
  have hpi:pl[i]?=some (pl[i]'(by omega)):=aK (by omega);have hlt:pl[i]'(by omega)<es.size:=oE.mp (hp.mem_iff.mp (iU _));refine wH st.1 (vZ st.1 st.2.1 hd hf rfl ?_);dsimp only;refine aA (GZ st.2.2 (by rw[hT]) ?_);dsimp only
  have e1:(pl.map fun(i:Nat)=>gS i).toArray[i]?=some (gS (pl[i]'(by omega):Int)):=by
   rw[nM,bT,hpi];rfl
  rw[e1];dsimp only[gS];unfold setNextDrawn;refine aA (aA (gK st.2.1 hd hf ?_));dsimp only;rw[if_neg (by simp)];rw[rO,getElem?_pos es (pl[i]'(by omega)) hlt];dsimp only;refine aJ (aA (eT st.1 rfl (by simp) (aJ ⟨_,rfl,?_⟩)));refine h _ _ ?_ ⟨LD st.1,(bG _ _ (Ne.symm hne)).trans st.2.1,(bG _ _ (Ne.symm hnT)).trans st.2.2⟩ ⟨fun b o' hb e=>(bG _ _ (fun z=>hb (by simp[z]))).trans e,rfl,rfl,rfl,aO _⟩;rw[bT,hpi];simp[gI,hlt]
 done:=fun z Q E st h=>by
  have hl:pl.length=es.size:=by rw[hp.length_eq];simp
  refine wH st.1 (vZ st.1 st.2.1 hd hf rfl ?_);dsimp only;refine aA (GZ st.2.2 (by rw[hT]) ?_);dsimp only
  have e1:(pl.map fun(i:Nat)=>gS i).toArray[es.size]?=none:=by
   rw[nM,aW (by simp;omega)]
  rw[e1];dsimp only;refine aA (eT st.1 rfl (by simp) ?_);refine aA (eT (LF st.1) rfl (by simp) ?_);refine EC (it:=it) hh fun h' e hk ht=>⟨ht,h _ ⟨fun b o' hb e=>hk b o' ?_,rfl,rfl,rfl,aO _⟩⟩
  have hb':it≠b:=fun z=>hb (by simp[z]);exact(bG _ _ hb').trans ((bG _ _ hb').trans e)
end
set_option autoImplicit false
section
variable{prog:aY}{w:bS}{A:bR}{E:Value->aC->Prop}{s:aC}
noncomputable def slOf(pl:Array Nat)(i:Nat):Nat:=if i=0 then 0 else pl.getD (i-1) 0+1
theorem XU{pl:Array Nat}(h:Rise pl){i:Nat}(hi:i<=pl.size):fD.below pl (slOf pl i)=i:=by
 obtain⟨b1,b2,b3⟩:=GV h (slOf pl i)
 have gd:∀k d d',k<pl.size->pl.getD k d=pl.getD k d':=fun k d d' hk=>by
  simp only[dU,getElem?_pos pl k hk,mG]
 rcases rM (fD.below pl (slOf pl i)) i with hlt | he | hgt
 . exfalso;have h3:=b3 (i-1) (by omega) (by omega);rw[gd (i-1) _ 0 (by omega)] at h3;unfold slOf at h3;rw[if_neg (by omega)] at h3;omega
 . exact he
 . exfalso;have h2:=b2 i hgt
   by_cases hi0:i=0
   . subst hi0;unfold slOf at h2;simp at h2
   . have h4 := h.lt (i := i-1) (k := i) (by omega) (by omega) 0;rw[gd i _ 0 (by omega)] at h2;unfold slOf at h2;rw[if_neg hi0] at h2;omega
theorem PB{a:aB}{o:Obj}{es:Array (Int×Value)}{ep:Nat}{t:fD}(hd:o.data=.set es ep t)(hf:t.fits es.size=true)(hb:bt w=true)(i:Nat)(z:aC)(Q:Option (Value×Nat)->aC->Prop)(E:Value->aC->Prop)(ho:z.heap.get? a=some o)(h:Q ((((NN (w.params.setOrder a ep) es).toList.map (·.2))[i]?).map fun x=>(x,0)) z):aU (aM prog w) A (DK a 0 i ep) Q E z:=by
 unfold DK;refine aA (gK ho hd hf ?_);dsimp only;refine aA (xM ?_);rw[hb];simp only[if_true,bne_self_eq_false,bD,if_false];unfold setWalk;refine aA (aA (gK ho hd hf ?_));dsimp only;refine aA (xM ?_);rw[hb];simp only[if_true];refine aA (uU (aJ (aJ ?_)));rw[bT,cN,Option.map_map] at h;exact h
theorem IW{a:aB}{o:Obj}{es:Array (Int×Value)}{ep:Nat}{t:fD}(hd:o.data=.set es ep t)(hf:t.fits es.size=true)(hb:bt w=false)(hl:t.led=true)(hnd:(!t.plain&&decide (es.size>1))=false)(hr:Rise t.place)(i:Nat)(z:aC)(Q:Option (Value×Nat)->aC->Prop)(E:Value->aC->Prop)(ho:z.heap.get? a=some o)(hi:i<=es.size)(h:Q (((es.toList.map (·.2))[i]?).map fun x=>(x,slOf t.place (i+1))) z):aU (aM prog w) A (DK a (slOf t.place i) i ep) Q E z:=by
 have hps:t.place.size=es.size:=by
  simp only[fD.fits,cL,beq_iff_eq] at hf;exact hf.1
 unfold DK;refine aA (gK ho hd hf ?_);dsimp only;refine aA (xM ?_);rw[hb];simp only[bD,if_false]
 split
 . rename_i hh;have hh':(!t.plain&&decide (es.size>1))=true:=hh;rw[hnd] at hh';cases hh'
 . refine aA ?_;show aU (aM prog w) A (if (!t.led && !es.isEmpty)=true then unsupported "set:maker-not-led" else pure ()) _ _ _;rw [hl];simp only [iZ,YO,bD,if_false];refine aJ (aJ ?_);rw [XU hr (by omega)]
   by_cases hlt:i<es.size
   . rw [getElem?_pos es i hlt, getElem?_pos t.place i (by omega)];rw [aK (by simpa using hlt)] at h
     have e:slOf t.place (i+1)=t.place[i]+1:=by
      unfold slOf;rw[if_neg (by omega),Nat.add_sub_cancel,dU,getElem?_pos t.place i (by omega)];rfl
     rw[e] at h;simpa using h
   . rw[getElem?_neg es i hlt, getElem?_neg t.place i (by omega)];rw[aW (by simp;omega)] at h;exact h
theorem WG{a:aB}{o:Obj}{es:Array (Int×Value)}{ep:Nat}{t:fD}{Q:Value->aC->Prop}(hh:A.in1.handled=none)(ho:s.heap.get? a=some o)(hex:o.ExactSet)(hd:o.data=.set es ep t)(hf:t.fits es.size=true)(hok:Okt (bt w) t)(hb:es.size<scanBound)(h:∀(I:aB) (fp:List aB) (ord:List Value) (St:Nat->aC->Prop) (h':Heap) (d:pD),WalksS prog w A I fp [I] (fun a b=>b=a) es.size (fun i v=>ord[i]?=some v) St->St 0 { s with heap:=h',drawn:=d } →
    ord.length=es.size->ord.Perm (es.toList.map (·.2))->s.heap.objs.size<=I->(∀b∈fp,b=a\/s.heap.objs.size<=b)->(∀b u,s.heap.get? b=some u->h'.get? b=some u)->Q (.ref I) { s with heap:=h',drawn:=d }) :
  aU (aM prog w) A (RA (.ref a)) Q E s:=by
 have haL:=aS ho
 have hps:t.place.size=es.size:=by
  have hf':=hf;simp only[fD.fits,cL,beq_iff_eq] at hf';exact hf'.1
 refine wpAny_pyIter_slot ⟨_,ho,hex.1⟩ oP (fP oP ⟨_,ho,hex.1⟩ tV ?_ (uR _));unfold Builtin.«frozenset.__iter__»;show aU (aM prog w) A.in1 (Builtin.Frozenset.sizeOf a >>= _) _ _ s;unfold Builtin.Frozenset.sizeOf;refine aA (aA (wpAny_setEntries_of ho hd hf (aJ ?_)));refine aA ?_;unfold setDrawn;refine aA (gK ho hd hf ?_);dsimp only;refine aA (xM (aJ ?_));have hlen:(es.toList.map (·.2)).length=es.size:=by simp
 split
 . rename_i hD;refine aA (LA es.size (List.range es.size) s (by simp) fun pl d hp=>?_);refine aA (wpAny_newTuple ?_ (hsz:=by rw [cH,hp.length_eq,List.length_range]; exact mW hb));refine aA (wpAny_setEpoch_of (o:=o) (es:=es) (ep:=ep) (t:=t) (aE _ ho) hd hf ?_);refine aA (dC (aJ ⟨_,rfl,"set_iterator",_,⟨_,aX _ rfl,rfl⟩,fM.lookup,?_⟩));have hsz1:∀ u:Obj,(s.heap.push u).objs.size=s.heap.objs.size+1:=fun u=>HA _ _;refine h _ _ _ _ _ d (ID (prog:=prog) (w:=w) (A:=A) (a:=a) (T:=s.heap.objs.size) (o:=o) (es:=es) (ep:=ep) (t:=t) (pl:=pl) (n0:=0) hh ?_ ?_ hd hf rfl hp) ⟨aX _ rfl,?_,?_⟩ ?_ ?_ ?_ ?_ ?_
   . dsimp only;rw[hsz1];exact bE (iM haL)
   . dsimp only;rw[hsz1];exact bE (mR _)
   . exact aE _ (aE _ ho)
   . exact aE _ (aX _ rfl)
   . rw[cH,hp.length_eq];simp
   . refine (hp.map _).trans (HW ?_);apply iK;intro i;rw [bT]
     by_cases hi:i<es.size
     . rw[pC hi, aK (by simpa using hi)];simp[gI,hi]
     . rw[aW (by simp;omega),aW (by simp;omega)];rfl
   . dsimp only;rw[hsz1];exact kQ _
   . intro b hb;dsimp only at hb;rw [hsz1] at hb;simp only [aH,eD,or_false] at hb;rcases hb with rfl | rfl | rfl
     . exact .inr (kQ _)
     . exact .inl rfl
     . exact .inr (aO _)
   . exact fun b u e=>aE _ (aE _ e)
 . rename_i hD;have hD' : ¬ ((!bt w && (!t.plain && decide (es.size > 1)))=true):=hD;refine aA (aJ ?_);refine aA (wpAny_setEpoch_of (o:=o) (es:=es) (ep:=ep) (t:=t) ho hd hf ?_);refine aA (dC (aJ ⟨_,rfl,"set_iterator",_,⟨_,aX _ rfl,rfl⟩,fM.lookup,?_⟩))
   have hfp:∀b∈[s.heap.objs.size,a],b=a\/s.heap.objs.size<=b:=fun b hb=>by
    simp only[aH,eD,or_false] at hb;rcases hb with rfl | rfl
    . exact .inr (aO _)
    . exact .inl rfl
   cases hb:bt w with
   | true =>
     have hpk:=OV (w.params.setOrder a ep) es
     refine h _ _ _ _ _ s.drawn (DR (prog:=prog) (w:=w) (A:=A) (it:=s.heap.objs.size) (a:=a) (o:=o) (es:=es) (ep:=ep) (t:=t) (sl:=fun _=>0) (ord:=(NN (w.params.setOrder a ep) es).toList.map (·.2)) hh (bE haL) hd hf (by rw[cH,hpk.length_eq,bC])
      fun i z Q' E' hz _ hq=>PB hd hf hb i z Q' E' hz hq) ⟨aX _ rfl,aE _ ho⟩ ?_ (hpk.map _) (aO _) hfp fun b u e=>aE _ e
     rw[cH,hpk.length_eq,bC]
   | false =>
     have hnd:(!t.plain&&decide (es.size>1))=false:=by
      rw[hb] at hD';simpa using hD'
     have hr:Rise t.place:=by
      cases hp:t.plain with
      |true=>exact(hok.2 hp).1
      | false =>
        have h1:es.size<=1:=by
         rw[hp] at hnd;simpa using hnd
        unfold Rise;have hl:t.place.toList.length<=1:=by rw[bC];omega
        match t.place.toList,hl with
        |[],_=>exact List.Pairwise.nil
        |[x],_=>exact dR _ _
     refine h _ _ _ _ _ s.drawn (DR (prog:=prog) (w:=w) (A:=A) (it:=s.heap.objs.size) (a:=a) (o:=o) (es:=es) (ep:=ep) (t:=t) (sl:=slOf t.place) (ord:=es.toList.map (·.2)) hh (bE haL) hd hf hlen
      fun i z Q' E' hz hi hq=>IW hd hf hb (by rw[hok.1,hb];rfl) hnd hr i z Q' E' hz hi hq) ⟨aX _ rfl,aE _ ho⟩ hlen (mS _) (aO _) hfp fun b u e=>aE _ e
theorem QA{ord:List Value}{acc:Array Value}{n:Nat}(h:ItemsOf (fun i v=>ord[i]?=some v) acc n)(hl:ord.length=n):acc.toList=ord:=by
 apply iK;intro i
 by_cases hi:i<n
 . have hi' : i < acc.size := by rw [h.1]; exact hi
   have e:acc.toList[i]?=some acc[i]:=by rw[cN];exact getElem?_pos acc i hi'
   rw[e];exact(h.2 i acc[i] (getElem?_pos acc i hi')).symm
 . rw[aW (by rw[bC,h.1];omega),aW (by omega)]
theorem wp_if{α : Type}{M:nX}{c:Prop}[Decidable c]{x y:Sem α}{Q : α->aC->Prop}(hc:c)(h:aU M A x Q E s):aU M A (if c then x else y) Q E s:=by
 rw[if_pos hc];exact h
theorem uN:splitId "set.__len__" = some ("set","__len__"):=by kernel_rfl
theorem GN{a:aB}{ns:List Int}{m:Nat}{Q:List Value->aC->Prop}(hh:A.handled=none)(hS:SIm prog w s.heap a ns m)(h:∀h' d tk ord ks,eB ord ks->ks.Nodup->(∀k,k∈ks↔k∈ns)->ord.length<=m->(∀b o,s.heap.get? b=some o->h'.get? b=some o)->Q ord { s with heap:=h',drawn:=d,toks:=tk }) :
  aU (aM prog w) A (collect (.ref a)) Q E s:=by
 obtain⟨⟨o,es,ep,t,ks,ho,hex,hd,hel,hI,hnd,hmem,hb,hf,hok⟩,hm⟩:=hS;have hsz:=hm o es ep t ho hd;have haL:=aS ho;have hline:es.size<=sizeLine:=mW hb;unfold collect;refine aA (wpAny_runValue (iH PySem.F.entry_proto_collect ?_));rw[bR.under_plainId PySem.F.plain_proto_collect _];show aU _ A.in1 (newList [] >>= fun l=>again (.builtin "list.__iadd__" ⟨[l,.ref a],[]⟩)) _ _ s;refine aA (dC ?_);refine aJ ⟨mX uJ _,iH PySem.F.entry_list_iadd ?_⟩;rw[bR.under_plainId uJ _];generalize hL:s.heap.objs.size=L;have hLs:s.heap.objs.size=L:=hL;show aU _ A.in1 (Builtin.List.listExtendWith (.ref L) (.ref a) (.ref L)) _ _ { s with heap:=s.heap.push { cls:=.type "list",data:=.seq ([]:List Value).toArray } };unfold Builtin.List.listExtendWith;have ho1:(s.heap.push { cls:=.type "list",data:=.seq ([]:List Value).toArray }).get? a=some o:=aE _ ho;have hL1:(s.heap.push { cls:=.type "list",data:=.seq ([]:List Value).toArray }).get? L=some { cls:=.type "list",data:=.seq ([]:List Value).toArray }:=by rw[<- hL];exact aX _ rfl
 have hz1:(s.heap.push { cls:=.type "list",data:=.seq ([]:List Value).toArray }).objs.size=L+1:=by rw[HA,hL]
 refine aA (iV (T:="set") ⟨_,ho1,hex.1⟩ ?_);have g1:Builtin.List.listSameRef (.ref L) (.ref a)=false:=by simp[Builtin.List.listSameRef];rw[<- hL];exact fR haL
 have g2:(Value.type "set"==Value.type "list")=false:=by decide
 have g3:(Value.type "set"==Value.type "tuple")=false:=by decide
 simp only[g1,g2,g3,Bool.or_false,bD,if_false];refine aA (WG (s:={ s with heap:=s.heap.push { cls:=.type "list",data:=.seq ([]:List Value).toArray } }) (by simp[hh]) ho1 hex hd hf hok hb fun I fp ord St h1 d W st0 hlo hpo hI1 hfp hk1=>?_);dsimp only at hI1 hfp hk1;rw[hz1] at hI1;have hoz:=hk1 _ _ ho1;have hLz:=hk1 _ _ hL1
 have hSf:L∉fp:=fun z=>by
  rw[hz1] at hfp;rcases hfp L z with e | e
  . rw[<- e, <- hL] at haL;exact cT _ haL
  . exact cT _ e
 refine aA (cU ?_);unfold Builtin.List.listLengthHint;refine aA (lW (T:="set") ⟨_,hoz,hex.1⟩ EH ?_);dsimp only;rw[uN];dsimp only;refine aA (uS (T:="set") ⟨_,hoz,hex.1⟩ sub_set_self ?_);rw[if_neg (show ¬((!true)=true) by decide)];refine wp_if (by kernel_rfl) ?_;refine aA (iV (T:="set") ⟨_,hoz,hex.1⟩ (aJ ?_));refine wp_if (by kernel_rfl) ?_;refine aA (gQ ?_);refine aA ?_;show aU _ A.in1 (updateSeq L (·.push .none) >>= fun _=>updateSeq L (·.pop)) _ _ _;refine aA (DD hLz rfl ?_);have hL2:=cC (Obj.mapSeq (·.push Value.none)) hLz rfl;refine DD hL2 rfl ?_;have hL3:=cC (Obj.mapSeq (·.pop)) hL2 rfl
 have oth:∀b u,b≠L->h1.get? b=some u->((h1.update L (Obj.mapSeq (·.push Value.none))).update L (Obj.mapSeq (·.pop))).get? b=some u :=
  fun b u hb e=>(bG _ _ (Ne.symm hb)).trans ((bG _ _ (Ne.symm hb)).trans e)
 refine aJ ⟨mX sT _,codeAny_extend_loopS W hline _ hSf _ es.size 0 _ _ _ rfl (bW _)
  (W.frame 0 ({ s with heap:=h1,drawn:=d }: aC) _ s.toks st0 (aO _) fun b hb u e=>oth b u (fun z=>hSf (z▸hb)) e) hL3 (ItemsOf.nil _) fun z' acc c' hmv hS' hacc=>?_⟩
 show aU _ A (load L >>= _) _ _ z';refine aA (wpAny_load hS' (aJ ?_));rw[QA hacc hlo];obtain⟨h2,gs,d2,tk,os2⟩:=z';have eg:gs=s.gens:=hmv.gens;have ed:d2=d:=hmv.drawn;have eo:os2=s.os:=hmv.os;subst eg ed eo;obtain⟨kk,q1,q2⟩:=BC hI hpo;refine h h2 d2 tk ord kk q1 (q2.nodup_iff.mpr hnd) (fun k=>q2.mem_iff.trans (hmem k)) (by omega) fun b u e=>?_;have hbs:b<s.heap.objs.size:=aS e;have hbL:b≠L:=by rw[<- hL];exact bE hbs
 have hbI:b≠I:=bE (bN (by rw[<- hL];exact iM hbs) hI1);exact hmv.heap b u (by simp[hbL,hbI]) (oth b u hbL (hk1 b u (aE _ e)))
theorem IK{vs:List Value}{ns:List Int}{Q:Value->aC->Prop}(hI:eB vs ns)(hsl:vs.length<=sizeLine)(h:∀(h2:Heap) (vs':List Value) (ns':List Int) (e:Nat),(∀b o,s.heap.get? b=some o->h2.get? b=some o)->h2.get? s.heap.objs.size=some (iW "list" vs'.toArray e)->eB vs' ns'->ns'.Perm ns->ns'.Pairwise (·<=·) →
    Q (.ref s.heap.objs.size) { s with heap:=h2 }) :
  aU (aM prog w) A.in1 (do
   let l <- newList vs
   let _ <- lK [l] (call (.builtin "list.sort") [l] [])
   ret l) (fun r z=>∃v,r=.done (.ret v)/\Q v z) E s:=by
 refine aA (wpAny_newList ?_ (hsz:=hsl));have hoL:(s.heap.push (iW "list" vs.toArray 0)).get? s.heap.objs.size=some (iW "list" vs.toArray 0):=aX _ rfl;refine aA (cU (fP slot_list_sort ⟨_,hoL,rfl⟩ entry_list_sort (TR hoL hI hsl fun out ns' a1 a2 a3=>⟨_,rfl,?_⟩) (args_list_sort _)));obtain⟨e,he⟩:=sortedHeap_at (out:=out) hoL;refine aJ ⟨_,rfl,h _ out.toList ns' e (fun b o q=>?_) (by simpa using he) a1 a2 a3⟩;have hb:=aS q;have q1:=aE (iW "list" vs.toArray 0) q;show(sortedHeap (s.heap.push (iW "list" vs.toArray 0)) s.heap.objs.size vs out).get? b=some o;rw[sortedHeap_old (bE hb) (by rw[HA];exact iM hb)];exact q1
theorem sorted_set{a:aB}{ns:List Int}{m:Nat}{Q:Value->aC->Prop}(hh:A.handled=none)(hS:SIm prog w s.heap a ns m)(hm:m<=sizeLine)(h:∀(h1 h2:Heap) (d:pD) (tk:Nat) (vs:List Value) (ks:List Int) (e:Nat),(∀b o,s.heap.get? b=some o->h1.get? b=some o)->(∀b o,h1.get? b=some o->h2.get? b=some o)->h2.get? h1.objs.size=some (iW "list" vs.toArray e) →
    eB vs ks->ks.Pairwise (· < ·)->(∀k,k∈ks↔k∈ns)->vs.length<=m->Q (.ref h1.objs.size) { s with heap:=h2,drawn:=d,toks:=tk }) :
  aU (aM prog w) A (call (.builtin "sorted") [.ref a]) Q E s:=by
 refine Calls.call_function_entry (A:=A) kind_sorted plain_sorted entry_sorted (args_sorted1 _) ?_;show aU _ _ (checkCount "sorted" 1 1 1 >>= _) _ _ s;refine aA (aJ (aA (GN (by simp[hh]) hS fun h1 d tk ord ks q1 q2 q3 q4 q5=>?_)));refine IK (s:={ s with heap:=h1,drawn:=d,toks:=tk }) q1 (cW q4 hm) fun h2 vs ks' e p1 p2 p3 p4 p5=>?_
 have hlt:ks'.Pairwise (· < ·):=by
  have hnd:ks'.Nodup:=p4.nodup_iff.mpr q2;exact List.Pairwise.imp₂ (fun a b h1 h2=>Int.lt_iff_le_and_ne.mpr ⟨h1,h2⟩) p5 hnd
 refine h h1 h2 d tk vs ks' e q5 p1 p2 p3 hlt (fun k=>p4.mem_iff.trans (q3 k)) ?_;have l1:=eB.length p3;have l2:=eB.length q1;have l3:=p4.length_eq;omega
end
end TS
open PySem PySem.Spec PyProof.Rows L2
variable{X : Cx}
namespace FL
abbrev Frag:=aR
def KLst(K:Frag)(a:aB)(xs:List V):Prop:=∃(o:Obj) (its:Array Value) (n:Nat),K.lookup a=some o/\o.cls=.type "list"/\o.dict=none/\o.data=.seq its n/\its.size<=sizeLine/\Vals xs its.toList
def KTup(K:Frag)(a:aB)(xs:List V):Prop:=∃(o:Obj) (its:Array Value) (n:Nat),K.lookup a=some o/\o.cls=.type "tuple"/\o.data=.seq its n/\its.size<=sizeLine/\Vals xs its.toList
structure LamT where
 qual:Str
 params:Arguments
 body:FuncBody
 scope:Scope
noncomputable def lamsE(q:Str):Nat->Expr->List LamT
 |0,_=>[]
 | n + 1, e => match e with
   | .Lambda a b sc _=>[⟨q++"<lambda>",a,.expr b,sc⟩]
   | .Call _ as _ _=>as.flatMap (lamsE q n)
   | .Compare l _ cs _=>lamsE q n l++cs.flatMap (lamsE q n)
   | .BoolOp _ vs _=>vs.flatMap (lamsE q n)
   | .UnaryOp _ o _=>lamsE q n o
   | .BinOp l _ r _=>lamsE q n l++lamsE q n r
   | .IfExp t b o _=>lamsE q n t++(lamsE q n b++lamsE q n o)
   | .List es _=>es.flatMap (lamsE q n)
   | .Tuple es _ _=>es.flatMap (lamsE q n)
   | .Subscript v i _=>lamsE q n v++lamsE q n i
   |_=>[]
noncomputable def lamsS(q:Str):Nat->Stmt->List LamT
 |0,_=>[]
 | n + 1, s => match s with
   | .FunctionDef x a b _ _ _ sc _ _ _=>[⟨q++x,a,.stmts b,sc⟩]
   | .Assign _ e _=>lamsE q 12 e
   | .Return (some e) _=>lamsE q 12 e
   | .Expr e _=>lamsE q 12 e
   | .If t a b _=>lamsE q 12 t++(a.flatMap (lamsS q n)++b.flatMap (lamsS q n))
   | .For _ _ a _ _=>a.flatMap (lamsS q n)
   | .While _ a _ _=>a.flatMap (lamsS q n)
   |_=>[]
noncomputable def lamsOf(x:Str)(b:List Stmt):List LamT:=b.flatMap (lamsS (x++".<locals>.") 8)
noncomputable def IH(K:aR)(m n:Nat):Option LamT:=(makers[m]?).bind fun x=>match aQ K aP x with
 | some (some (.ref f)) => (match K.lookup f with
   | some ⟨_, _, .func fd, _⟩ => (match fd.body with
     | .stmts b=>(lamsOf x b)[n]?
     |_=>none)
   |_=>none)
 |_=>none
noncomputable def freeR(l:List (Str×iE)):List Str:=((l.filter fun y=>y.2==iE.free).map (·.1)).reverse
inductive ClosOk(H:Hp)(O:aB->Prop):List (Str×aB)->List V->Prop
 |nil:ClosOk H O [] []
 |cons {n:Str} {c:aB} {o:Obj} {u:HO} {w:Value} {x:V} {cl:List (Str×aB)} {xs:List V} (no : ¬O c) (h:H c=some (.frz o u)) (d:o.data=.cell (some w)) (r:RelV x w) (t:ClosOk H O cl xs):ClosOk H O ((n,c)::cl) (x::xs)
def LamAt(H:Hp)(O:aB->Prop)(f:aB)(t:LamT)(cl:List (Str×aB)):Prop:=¬O f/\∃(o oc:Obj) (u uc:HO) (fd:bQ) (c:aB) (vs:Array Value) (tq:Tok),
 H f=some (.frz o u)/\o.cls=.type "function"/\o.data=.func fd/\fd.qualname=t.qual/\fd.params=t.params/\fd.body=t.body/\fd.scope=t.scope/\fd.globals=aP/\fd.closure=cl/\fd.defaults=.none/\fd.kwdefaults=.none/\fd.code=.ref c/\fd.builtins=sL ∧
 ¬O c/\H c=some (.frz oc uc)/\oc.data=.fields vs/\vs[1]?=some (.str t.qual tq)
mutual
inductive Rep(K:Frag)(H:Hp)(O:aB->Prop):V->D->Prop
 |non:Rep K H O .non .non
 |bl (b:Bool):Rep K H O (.bl b) (.bl b)
 |int (i:Int):Rep K H O (.int i) (.int i)
 |str (x:Str):Rep K H O (.str x) (.str x)
 |tup {a:aB} {xs:List V} {ds:List D} (n : ¬O a) (h:Rd H a (.tup xs)) (r:Reps K H O xs ds):Rep K H O (.ref a) (.tup ds)
 |tupK {a:aB} {xs:List V} {ds:List D} (h:KTup K a xs) (r:Reps K H O xs ds):Rep K H O (.ref a) (.tup ds)
 |lst {a:aB} {xs:List V} {ds:List D} (n : ¬O a) (h:Rd H a (.lst xs)) (r:Reps K H O xs ds):Rep K H O (.ref a) (.lst ds)
 |lstK {a:aB} {xs:List V} {ds:List D} (h:KLst K a xs) (r:Reps K H O xs ds):Rep K H O (.ref a) (.lst ds)
 |dct {a:aB} {kvs:List (Key×V)} {ks:List Key} {ds:List D} (n : ¬O a) (h:H a=some (.dK kvs)) (e:kvs.map (·.1)=ks) (r:Reps K H O (kvs.map (·.2)) ds):Rep K H O (.ref a) (.dct ks ds)
 |dcf {a:aB} {o:Obj} {kvs:List (Key×V)} {ks:List Key} {ds:List D} (n : ¬O a) (h:H a=some (.frz o (.dK kvs))) (e:kvs.map (·.1)=ks) (r:Reps K H O (kvs.map (·.2)) ds):Rep K H O (.ref a) (.dcf ks ds)
 |ins {a C dx:aB} {t:Nat} {kvs:List (Str×V)} {ds:List D} (c:aQ K aP (ND t)=some (some (.ref C))) (n : ¬O a) (h:H a=some (.ins C dx kvs)) (e:kvs.map (·.1)=NE t) (r:Reps K H O (kvs.map (·.2)) ds):Rep K H O (.ref a) (.ins t ds)
 |clo {f:aB} {m n:Nat} {t:LamT} {cl:List (Str×aB)} {xs:List V} {ds:List D} (tx:IH K m n=some t) (h:LamAt H O f t cl) (e:cl.map (·.1)=freeR t.scope.names) (nd:(cl.map (·.2)).Nodup) (c:ClosOk H O cl xs) (r:Reps K H O xs ds):Rep K H O (.ref f) (.clo m n ds)
 |fnK {f:aB} {k:Nat} (h:aQ K aP (rF k)=some (some (.ref f))):Rep K H O (.ref f) (.clo 1000 k [])
inductive Reps(K:Frag)(H:Hp)(O:aB->Prop):List V->List D->Prop
 |nil:Reps K H O [] []
 |cons {x:V} {d:D} {xs:List V} {ds:List D} (h:Rep K H O x d) (t:Reps K H O xs ds):Reps K H O (x::xs) (d::ds)
end
section
variable{K:Frag}{H H':Hp}{O O':aB->Prop}
def Keep(O:aB->Prop)(H H':Hp):Prop:=∀b o,¬O b->H b=some o->H' b=some o
theorem Keep.of_same(h:Same H H'):Keep O H H':=fun b o _ e=>h b o e
theorem Keep.rd{a:aB}{u:HO}(k:Keep O H H')(n : ¬O a)(h:Rd H a u):Rd H' a u:=by
 rcases h with h | ⟨o,h⟩
 . exact .inl (k _ _ n h)
 . exact .inr ⟨o,k _ _ n h⟩
def Kp(O O':aB->Prop)(H H':Hp):Prop:=∀b o,¬O b->H b=some o->¬O' b/\H' b=some o
theorem Kp.rd{a:aB}{u:HO}(k:Kp O O' H H')(n : ¬O a)(h:Rd H a u):¬O' a/\Rd H' a u:=by
 rcases h with h | ⟨o,h⟩
 . exact⟨(k _ _ n h).1,.inl (k _ _ n h).2⟩
 . exact⟨(k _ _ n h).1,.inr ⟨o,(k _ _ n h).2⟩⟩
theorem ClosOk.gen(k:Kp O O' H H'){cl:List (Str×aB)}{xs:List V}(h:ClosOk H O cl xs):ClosOk H' O' cl xs:=by
 induction h with
 |nil=>exact .nil
 |cons no h d r _ ih=>exact .cons (k _ _ no h).1 (k _ _ no h).2 d r ih
theorem LamAt.gen{f:aB}{t:LamT}{cl:List (Str×aB)}(k:Kp O O' H H')(h:LamAt H O f t cl):LamAt H' O' f t cl:=by
 obtain⟨n,o,oc,u,uc,fd,c,vs,tq,h1,h2,h3,h4,h5,h6,h7,h8,h9,h10,h11,h12,h13,h14,h15,h16,h17⟩:=h;exact⟨(k _ _ n h1).1,o,oc,u,uc,fd,c,vs,tq,(k _ _ n h1).2,h2,h3,h4,h5,h6,h7,h8,h9,h10,h11,h12,h13,(k _ _ h14 h15).1,(k _ _ h14 h15).2,h16,h17⟩
theorem Kp.of(k:Keep O H H'):Kp O O H H':=fun b o n e=>⟨n,k b o n e⟩
theorem Kp.less(k:∀a,O' a->O a):Kp O O' H H:=fun b o n e=>⟨fun z=>n (k _ z),e⟩
theorem ClosOk.keep(k:Keep O H H'){cl:List (Str×aB)}{xs:List V}(h:ClosOk H O cl xs):ClosOk H' O cl xs:=h.gen (.of k)
theorem LamAt.keep{f:aB}{t:LamT}{cl:List (Str×aB)}(k:Keep O H H')(h:LamAt H O f t cl):LamAt H' O f t cl:=h.gen (.of k)
theorem ClosOk.of(k:∀a o u,H a=some (.frz o u)->¬O' a):∀{cl:List (Str×aB)} {xs:List V},ClosOk H O cl xs->ClosOk H O' cl xs
 |_,_,.nil=>.nil
 |_,_,.cons no h d r t=>.cons (k _ _ _ h) h d r (ClosOk.of k t)
theorem LamAt.of{f:aB}{t:LamT}{cl:List (Str×aB)}(k:∀a o u,H a=some (.frz o u)->¬O' a)(h:LamAt H O f t cl):LamAt H O' f t cl:=by
 obtain⟨n,o,oc,u,uc,fd,c,vs,tq,h1,h2,h3,h4,h5,h6,h7,h8,h9,h10,h11,h12,h13,h14,h15,h16,h17⟩:=h;exact⟨k _ _ _ h1,o,oc,u,uc,fd,c,vs,tq,h1,h2,h3,h4,h5,h6,h7,h8,h9,h10,h11,h12,h13,k _ _ _ h15,h15,h16,h17⟩
def ins1(p:aB)(O:aB->Prop):aB->Prop:=fun b=>b=p\/O b
theorem Kp.ins{p:aB}(hp:H p=none):Kp O (ins1 p O) H H:=fun b o n e=>⟨fun z=>z.elim (fun q=>by rw[q,hp] at e;cases e) n,e⟩
mutual
theorem Rep.gen(k:Kp O O' H H'):∀{v:V} {d:D},Rep K H O v d->Rep K H' O' v d
 |_,_,.non=>.non
 |_,_,.bl b=>.bl b
 |_,_,.int i=>.int i
 |_,_,.str x=>.str x
 |_,_,.tup n h r=>.tup (k.rd n h).1 (k.rd n h).2 (Reps.gen k r)
 |_,_,.tupK h r=>.tupK h (Reps.gen k r)
 |_,_,.lst n h r=>.lst (k.rd n h).1 (k.rd n h).2 (Reps.gen k r)
 |_,_,.lstK h r=>.lstK h (Reps.gen k r)
 |_,_,.dct n h e r=>.dct (k _ _ n h).1 (k _ _ n h).2 e (Reps.gen k r)
 |_,_,.dcf n h e r=>.dcf (k _ _ n h).1 (k _ _ n h).2 e (Reps.gen k r)
 |_,_,.ins c n h e r=>.ins c (k _ _ n h).1 (k _ _ n h).2 e (Reps.gen k r)
 |_,_,.clo tx h e nd c r=>.clo tx (h.gen k) e nd (c.gen k) (Reps.gen k r)
 |_,_,.fnK h=>.fnK h
theorem Reps.gen(k:Kp O O' H H'):∀{vs:List V} {ds:List D},Reps K H O vs ds->Reps K H' O' vs ds
 |_,_,.nil=>.nil
 |_,_,.cons h t=>.cons (Rep.gen k h) (Reps.gen k t)
end
theorem Rep.keep(k:Keep O H H'){v:V}{d:D}(h:Rep K H O v d):Rep K H' O v d:=h.gen (.of k)
theorem Reps.keep(k:Keep O H H'){v:List V}{d:List D}(h:Reps K H O v d):Reps K H' O v d:=h.gen (.of k)
theorem Rep.mono(k:Same H H'){v:V}{d:D}(h:Rep K H O v d):Rep K H' O v d:=h.keep (.of_same k)
theorem Reps.mono(k:Same H H'){v:List V}{d:List D}(h:Reps K H O v d):Reps K H' O v d:=h.keep (.of_same k)
theorem Rep.less(k:∀a,O' a->O a){v:V}{d:D}(h:Rep K H O v d):Rep K H O' v d:=h.gen (.less k)
theorem Reps.less(k:∀a,O' a->O a){v:List V}{d:List D}(h:Reps K H O v d):Reps K H O' v d:=h.gen (.less k)
theorem Rd.some{a:aB}{u:HO}(h:Rd H a u):H a≠none:=by
 rcases h with h | ⟨o,h⟩<;>(rw[h];simp)
theorem Rep.more{p:aB}(hp:H p=none){v:V}{d:D}(h:Rep K H O v d):Rep K H (ins1 p O) v d:=h.gen (.ins hp)
theorem Reps.more{p:aB}(hp:H p=none){v:List V}{d:List D}(h:Reps K H O v d):Reps K H (ins1 p O) v d:=h.gen (.ins hp)
noncomputable def mutO:HO->Bool
 | .lst _ | .dK _ | .dT _ | .set _ _ | .ins _ _ _=>true
 |_=>false
noncomputable def MutHO:={ u:HO // mutO u=true }
def Old(H:Hp):aB->Prop:=fun a=>∃o,H a=some o/\mutO o=true
theorem Old.mono(k:Same H H'){a:aB}(h:Old H a):Old H' a:=let ⟨o,e,m⟩:=h;⟨o,k _ _ e,m⟩
def jR:aB->Prop:=fun _=>False
mutual
theorem Rep.flattn(ho:∀a,O a->Old H a):∀{v:V} {d:D},Rep K H O' v d->flat d=true->Rep K H O v d
 |_,_,.non=>fun _=>.non
 |_,_,.bl b=>fun _=>.bl b
 |_,_,.int i=>fun _=>.int i
 |_,_,.str x=>fun _=>.str x
 |_,_,.tup n h r=>fun f=>.tup (fun z=>by
    obtain⟨u,e,m⟩:=ho _ z;rcases h with h | ⟨o,h⟩
    . rw[e] at h;cases h;cases m
    . rw[e] at h;cases h;cases m) h (Reps.flattn ho r (by simpa[flat] using f))
 |_,_,.tupK h r=>fun f=>.tupK h (Reps.flattn ho r (by simpa[flat] using f))
 |_,_,.lst _ _ _=>fun f=>by simp[flat] at f
 |_,_,.lstK _ _=>fun f=>by simp[flat] at f
 |_,_,.dct _ _ _ _=>fun f=>by simp[flat] at f
 |_,_,.dcf _ _ _ _=>fun f=>by simp[flat] at f
 |_,_,.ins _ _ _ _ _=>fun f=>by simp[flat] at f
 |_,_,.clo _ _ _ _ _ _=>fun f=>by simp[flat] at f
 |_,_,.fnK _=>fun f=>by simp[flat] at f
theorem Reps.flattn(ho:∀a,O a->Old H a):∀{vs:List V} {ds:List D},Reps K H O' vs ds->flats ds=true->Reps K H O vs ds
 |_,_,.nil=>fun _=>.nil
 | _, _, .cons h t => fun f => by
   simp only[flats,cL] at f;exact .cons (Rep.flattn ho h f.1) (Reps.flattn ho t f.2)
end
theorem Rep.flatten(ho:∀a,O a->Old H a){v:V}{d:D}(f:flat d=true)(r:Rep K H O' v d):Rep K H O v d:=r.flattn ho f
theorem Reps.flatten(ho:∀a,O a->Old H a){v:List V}{d:List D}(f:flats d=true)(r:Reps K H O' v d):Reps K H O v d:=r.flattn ho f
theorem Reps.length:∀{vs:List V} {ds:List D},Reps K H O vs ds->vs.length=ds.length
 |_,_,.nil=>rfl
 |_,_,.cons _ t=>by simp[Reps.length t]
theorem Reps.get:∀{vs:List V} {ds:List D} {i:Nat} {d:D},Reps K H O vs ds->ds[i]?=some d->∃v,vs[i]?=some v/\Rep K H O v d
 |_,_,_,_,.nil,e=>by simp at e
 |_,_,0,_,.cons h _,e=>by simp at e;subst e;exact⟨_,rfl,h⟩
 | _, _, i + 1, d, .cons _ t, e => by
   obtain⟨v,h1,h2⟩:=Reps.get (i:=i) (d:=d) t (by simpa using e);exact⟨v,by simpa using h1,h2⟩
theorem Reps.append:∀{xs ys:List V} {ds es:List D},Reps K H O xs ds->Reps K H O ys es->Reps K H O (xs++ys) (ds++es)
 |_,_,_,_,.nil,s=>s
 |_,_,_,_,.cons r t,s=>.cons r (Reps.append t s)
theorem Reps.set{x:V}{d:D}(r:Rep K H O x d):∀{xs:List V} {ds:List D} (i:Nat),Reps K H O xs ds->Reps K H O (xs.set i x) (ds.set i d)
 |_,_,_,.nil=>.nil
 |_,_,0,.cons _ t=>.cons r t
 |_,_,i+1,.cons q t=>.cons q (Reps.set r i t)
theorem Reps.drop:∀{xs:List V} {ds:List D} (n:Nat),Reps K H O xs ds->Reps K H O (xs.drop n) (ds.drop n)
 |_,_,0,r=>r
 |_,_,_+1,.nil=>.nil
 |_,_,n+1,.cons _ t=>Reps.drop n t
theorem Reps.take:∀{xs:List V} {ds:List D} (n:Nat),Reps K H O xs ds->Reps K H O (xs.take n) (ds.take n)
 |_,_,0,_=>.nil
 |_,_,_+1,.nil=>.nil
 |_,_,n+1,.cons r t=>.cons r (Reps.take n t)
theorem Reps.ints:∀(ns:List Int),Reps K H O (ns.map V.int) (ns.map D.int)
 |[]=>.nil
 |n::r=>.cons (.int n) (Reps.ints r)
def WRep(K:Frag)(H:Hp)(O:aB->Prop)(v:V)(d:D):Prop:=Rep K H O v d\/∃a xs l,v=.ref a/\d=.lst l/\O a/\H a=some (.lst xs)/\Reps K H O xs l
theorem WRep.mono(k:Same H H'){v:V}{d:D}(h:WRep K H O v d):WRep K H' O v d:=by
 rcases h with h | ⟨a,xs,l,e1,e2,ho,h,r⟩
 . exact .inl (h.mono k)
 . exact .inr ⟨a,xs,l,e1,e2,ho,k _ _ h,r.mono k⟩
theorem WRep.any{v:V}{d:D}(h:WRep K H O v d):Rep K H jR v d:=by
 rcases h with h | ⟨a,xs,l,rfl,rfl,ho,h,r⟩
 . exact h.less (fun _ z=>z.elim)
 . exact .lst (fun z=>z.elim) (.inl h) (r.less fun _ z=>z.elim)
theorem WRep.seqL{v:V}{l:List D}(h:WRep K H O v (.lst l)):∃a xs,v=.ref a/\SqL K H a xs/\Reps K H O xs l:=by
 rcases h with h | ⟨a,xs,l',rfl,e,ho,h,r⟩
 . cases h with
   |lst n h r=>exact⟨_,_,rfl,.inl h,r⟩
   |lstK h r=>exact⟨_,_,rfl,.inr h,r⟩
 . cases e;exact⟨a,xs,rfl,.inl (.inl h),r⟩
theorem WRep.seqT{v:V}{l:List D}(h:WRep K H O v (.tup l)):∃a xs,v=.ref a/\SqT K H a xs/\Reps K H O xs l:=by
 rcases h with h | ⟨a,xs,l',rfl,e,ho,h,r⟩
 . cases h with
   |tup n h r=>exact⟨_,_,rfl,.inl h,r⟩
   |tupK h r=>exact⟨_,_,rfl,.inr h,r⟩
 . cases e
theorem WRep.int'{v:V}{i:Int}(h:WRep K H O v (.int i)):v=.int i:=by
 rcases h with h | ⟨a,xs,l',rfl,e,_⟩
 . cases h;rfl
 . cases e
theorem WRep.bl'{v:V}{i:Bool}(h:WRep K H O v (.bl i)):v=.bl i:=by
 rcases h with h | ⟨a,xs,l',rfl,e,_⟩
 . cases h;rfl
 . cases e
theorem WRep.str'{v:V}{i:Str}(h:WRep K H O v (.str i)):v=.str i:=by
 rcases h with h | ⟨a,xs,l',rfl,e,_⟩
 . cases h;rfl
 . cases e
end
mutual
inductive RepO(K:Frag)(H:Hp)(O:aB->Prop):V->OT->List aB->Prop
 |val {v:V} {d:D} (r:Rep K H O v d):RepO K H O v (.val d) []
 |lst {a:aB} {xs:List V} {ts:List OT} {fs:List aB} (n:O a) (h:H a=some (.lst xs)) (r:RepsO K H O xs ts fs):RepO K H O (.ref a) (.lst ts) (a::fs)
 |tup {a:aB} {xs:List V} {ts:List OT} {fs:List aB} (n : ¬O a) (h:Rd H a (.tup xs)) (r:RepsO K H O xs ts fs):RepO K H O (.ref a) (.tup ts) fs
 |dct {a:aB} {kvs:List (Key×V)} {ks:List Key} {ts:List OT} {fs:List aB} (n:O a) (h:H a=some (.dK kvs)) (e:kvs.map (·.1)=ks) (r:RepsO K H O (kvs.map (·.2)) ts fs):RepO K H O (.ref a) (.dct ks ts) (a::fs)
 |ins {a C dx:aB} {t:Nat} {kvs:List (Str×V)} {ts:List OT} {fs:List aB} (c:aQ K aP (ND t)=some (some (.ref C))) (n:O a) (h:H a=some (.ins C dx kvs)) (e:kvs.map (·.1)=NE t) (r:RepsO K H O (kvs.map (·.2)) ts fs):RepO K H O (.ref a) (.ins t ts) (a::fs)
inductive RepsO(K:Frag)(H:Hp)(O:aB->Prop):List V->List OT->List aB->Prop
 |nil:RepsO K H O [] [] []
 |cons {x:V} {t:OT} {xs:List V} {ts:List OT} {fs gs:List aB} (h:RepO K H O x t fs) (r:RepsO K H O xs ts gs):RepsO K H O (x::xs) (t::ts) (fs++gs)
end
section
variable{K:Frag}{H H':Hp}{O O':aB->Prop}
mutual
theorem RepO.gen(k:Kp O O' H H'):∀{v:V} {t:OT} {fs:List aB},RepO K H O v t fs->(∀b∈fs,∀u,O b->H b=some u->O' b/\H' b=some u)->RepO K H' O' v t fs
 |_,_,_,.val r=>fun _=>.val (r.gen k)
 |_,_,_,.lst n h r=>fun hb=>.lst (hb _ (.head _) _ n h).1 (hb _ (.head _) _ n h).2 (RepsO.gen k r fun b z=>hb b (.tail _ z))
 |_,_,_,.tup n h r=>fun hb=>.tup (k.rd n h).1 (k.rd n h).2 (RepsO.gen k r hb)
 |_,_,_,.dct n h e r=>fun hb=>.dct (hb _ (.head _) _ n h).1 (hb _ (.head _) _ n h).2 e (RepsO.gen k r fun b z=>hb b (.tail _ z))
 |_,_,_,.ins c n h e r=>fun hb=>.ins c (hb _ (.head _) _ n h).1 (hb _ (.head _) _ n h).2 e (RepsO.gen k r fun b z=>hb b (.tail _ z))
theorem RepsO.gen(k:Kp O O' H H'):∀{v:List V} {t:List OT} {fs:List aB},RepsO K H O v t fs->(∀b∈fs,∀u,O b->H b=some u->O' b/\H' b=some u)->RepsO K H' O' v t fs
 |_,_,_,.nil=>fun _=>.nil
 |_,_,_,.cons h r=>fun hb=>.cons (RepO.gen k h fun b z=>hb b (bZ _ z)) (RepsO.gen k r fun b z=>hb b (bJ _ z))
end
theorem RepO.keep(k:Keep O H H'){v:V}{t:OT}{fs:List aB}(h:RepO K H O v t fs)(hb:∀b∈fs,∀u,H b=some u->H' b=some u):RepO K H' O v t fs:=h.gen (.of k) fun b z u o e=>⟨o,hb b z u e⟩
theorem RepsO.keep(k:Keep O H H'){v:List V}{t:List OT}{fs:List aB}(h:RepsO K H O v t fs)(hb:∀b∈fs,∀u,H b=some u->H' b=some u):RepsO K H' O v t fs:=h.gen (.of k) fun b z u o e=>⟨o,hb b z u e⟩
theorem RepO.mono(k:Same H H'){v:V}{t:OT}{fs:List aB}(h:RepO K H O v t fs):RepO K H' O v t fs:=h.keep (.of_same k) fun b _ u e=>k b u e
theorem RepsO.mono(k:Same H H'){v:List V}{t:List OT}{fs:List aB}(h:RepsO K H O v t fs):RepsO K H' O v t fs:=h.keep (.of_same k) fun b _ u e=>k b u e
theorem RepO.less(k:∀a,O' a->O a){v:V}{t:OT}{fs:List aB}(h:RepO K H O v t fs)(hb:∀b∈fs,O' b):RepO K H O' v t fs:=h.gen (.less k) fun b z _ _ e=>⟨hb b z,e⟩
theorem RepsO.less(k:∀a,O' a->O a){v:List V}{t:List OT}{fs:List aB}(h:RepsO K H O v t fs)(hb:∀b∈fs,O' b):RepsO K H O' v t fs:=h.gen (.less k) fun b z _ _ e=>⟨hb b z,e⟩
theorem RepO.more{p:aB}(hp:H p=none){v:V}{t:OT}{fs:List aB}(h:RepO K H O v t fs):RepO K H (ins1 p O) v t fs:=h.gen (.ins hp) fun _ _ _ o e=>⟨.inr o,e⟩
mutual
theorem RepO.owns:∀{v:V} {t:OT} {fs:List aB},RepO K H O v t fs->∀b∈fs,O b/\∃u:MutHO,H b=some u.1
 |_,_,_,.val r=>fun b z=>nomatch z
 |_,_,_,.lst n h r=>fun b z=>(aH.mp z).elim (fun q=>q▸⟨n,⟨_,rfl⟩,h⟩) (RepsO.owns r b)
 |_,_,_,.tup n h r=>RepsO.owns r
 |_,_,_,.dct n h e r=>fun b z=>(aH.mp z).elim (fun q=>q▸⟨n,⟨_,rfl⟩,h⟩) (RepsO.owns r b)
 |_,_,_,.ins c n h e r=>fun b z=>(aH.mp z).elim (fun q=>q▸⟨n,⟨_,rfl⟩,h⟩) (RepsO.owns r b)
theorem RepsO.owns:∀{v:List V} {t:List OT} {fs:List aB},RepsO K H O v t fs->∀b∈fs,O b/\∃u:MutHO,H b=some u.1
 |_,_,_,.nil=>fun b z=>nomatch z
 |_,_,_,.cons h r=>fun b z=>(bI.mp z).elim (RepO.owns h b) (RepsO.owns r b)
end
mutual
theorem RepO.val':∀{v:V} {t:OT} {fs:List aB},RepO K H O v t fs->(∀a,O' a->O a/\a∉fs)->Rep K H O' v (otD t)
 |_,_,_,.val r=>fun k=>r.less fun a z=>(k a z).1
 |_,_,_,.lst n h r=>fun k=>by unfold otD;exact .lst (fun z=>(k _ z).2 (.head _)) (.inl h) (RepsO.val' r fun a z=>⟨(k a z).1,fun q=>(k a z).2 (.tail _ q)⟩)
 |_,_,_,.tup n h r=>fun k=>by unfold otD;exact .tup (fun z=>n (k _ z).1) h (RepsO.val' r k)
 |_,_,_,.dct n h e r=>fun k=>by unfold otD;exact .dct (fun z=>(k _ z).2 (.head _)) h e (RepsO.val' r fun a z=>⟨(k a z).1,fun q=>(k a z).2 (.tail _ q)⟩)
 |_,_,_,.ins c n h e r=>fun k=>by unfold otD;exact .ins c (fun z=>(k _ z).2 (.head _)) h e (RepsO.val' r fun a z=>⟨(k a z).1,fun q=>(k a z).2 (.tail _ q)⟩)
theorem RepsO.val':∀{v:List V} {t:List OT} {fs:List aB},RepsO K H O v t fs->(∀a,O' a->O a/\a∉fs)->Reps K H O' v (otDs t)
 |_,_,_,.nil=>fun _=>by unfold otDs;exact .nil
 |_,_,_,.cons h r=>fun k=>by unfold otDs;exact .cons (RepO.val' h fun a z=>⟨(k a z).1,fun q=>(k a z).2 (bZ _ q)⟩) (RepsO.val' r fun a z=>⟨(k a z).1,fun q=>(k a z).2 (bJ _ q)⟩)
end
theorem RepO.any{v:V}{t:OT}{fs:List aB}(h:RepO K H O v t fs):Rep K H jR v (otD t):=h.val' fun _ z=>z.elim
theorem RepsO.any{v:List V}{t:List OT}{fs:List aB}(h:RepsO K H O v t fs):Reps K H jR v (otDs t):=h.val' fun _ z=>z.elim
end
noncomputable def isO(e:aB)(oe:Obj):HO:=.ext fun h=>h.get? e=some oe
noncomputable def xdO(dx:aB)(fs:List (Str×V)):HO:=.ext fun h=>∃mA,h.Ns1 dx mA/\(∀f,RelO (fs.lookup f) (mA f))/\Within mA (fs.map (·.1))
def XfOk(K:Frag)(H:Hp)(a:aB)(t:Nat)(fs:List (Str×Int)):Prop:=∃C o u dx od,aQ K aP (xName t)=some (some (.ref C))/\H a=some (.frz o u)/\o.cls=.ref C/\o.dict=some dx/\(∀c,o.data≠.cls c)/\H dx=some (.frz od (xdO dx (fs.map fun p=>(p.1,.int p.2))))
theorem XfOk.keep{K:Frag}{H H':Hp}{a:aB}{t:Nat}{fs:List (Str×Int)}(x:XfOk K H a t fs)(k:∀b o u,H b=some (.frz o u)->H' b=some (.frz o u)):XfOk K H' a t fs :=
 let ⟨C,o,u,dx,od,h1,h2,h3,h4,h5,h6⟩:=x;⟨C,o,u,dx,od,h1,k _ _ _ h2,h3,h4,h5,k _ _ _ h6⟩
noncomputable def SlOk(K:Frag)(H₀ H:Hp)(O:aB->Prop):Option V->Sl->Prop
 |_,.no=>True
 |some x,.v d=>Rep K H O x d
 |some (.ref a),.own l=>O a/\∃xs,H a=some (.lst xs)/\Reps K H O xs l
 |some (.ref a),.fr l=>¬O a/\H₀ a=none/\∃xs,H a=some (.lst xs)/\Reps K H O xs l
 |_,.ob _ _=>True
 |some (.ref a),.exf t fs=>XfOk K H a t fs
 |some (.ref a),.exc t=>∃C o u,aQ K aP (xName t)=some (some (.ref C))/\H a=some (.frz o u)/\o.cls=.ref C
 |_,_=>False
def IsOwn(ds:List Sl)(i:Nat):Prop:=∃l,ds[i]?=some (.own l)
inductive HI where
 |rep (v:V) (d:D) | base (B:aB->Prop) | root (k a:Nat) | fz (a:aB) (o:Obj) (kvs:List (Key×V)) (l:List D)
abbrev Hold:=List HI
noncomputable def HOk(K:Frag)(H₀ H:Hp)(O:aB->Prop):HI->Prop
 | .rep v d=>Rep K H O v d
 | .base B=>∀a,B a->O a/\H₀ a≠none
 | .root _ _=>True
 | .fz a o kvs l=>¬O a/\H a=some (.frz o (.dK kvs))/\Reps K H O (kvs.map (·.2)) l
def Obs(K:Frag)(H₀ H:Hp)(O:aB->Prop)(σ : L2.St)(ds:List Sl)(hd:Hold):Prop:=∃F:Nat->List aB,∀(i:Nat) (r:Option Nat) (t:OT),ds[i]?=some (.ob r t)->∃v,σ[i]?=some (some v)/\RepO K H O v t (F i)/\(∀k a,r=some k->HI.root k a∈hd->v=.ref a)/\(F i).Nodup ∧
 ∀b∈F i,H₀ b=none/\(∀j r' t',j≠i->ds[j]?=some (.ob r' t')->b∉F j)/\∀j,IsOwn ds j->σ[j]?≠some (some (.ref b))
structure Ok(K:Frag)(H₀ H:Hp)(O:aB->Prop)(σ : L2.St)(ds:List Sl)(hd:Hold):Prop where
 same:Same H₀ H
 fresh:∀(i:Nat) (l:List D) (a:aB),ds[i]?=some (.own l)->σ[i]?=some (some (.ref a))->H₀ a=none
 dom:∀a,O a->∃u:MutHO,H a=some u.1
 len : σ.length=ds.length
 sl:∀(i:Nat) (s:Sl),ds[i]?=some s->SlOk K H₀ H O (σ[i]?.join) s
 apart:∀(i j:Nat) (a:aB),i≠j->IsOwn ds i->IsOwn ds j->σ[i]?=some (some (.ref a))->σ[j]?=some (some (.ref a))->False
 hold:∀p∈hd,HOk K H₀ H O p
 obs:Obs K H₀ H O σ ds hd
section
variable{K:Frag}{H₀ H H':Hp}{O O':aB->Prop}{σ : L2.St}{ds:List Sl}{hd:Hold}
theorem HOk.mono(k:Same H H'):∀{p:HI},HOk K H₀ H O p->HOk K H₀ H' O p
 | .rep _ _,h=>Rep.mono k h
 | .base _,h=>h
 | .root _ _,h=>h
 | .fz _ _ _ _,h=>⟨h.1,k _ _ h.2.1,Reps.mono k h.2.2⟩
theorem HOk.keep(k:Keep O H H'):∀{p:HI},HOk K H₀ H O p->HOk K H₀ H' O p
 | .rep _ _,h=>Rep.keep k h
 | .base _,h=>h
 | .root _ _,h=>h
 | .fz _ _ _ _,h=>⟨h.1,k _ _ h.1 h.2.1,Reps.keep k h.2.2⟩
theorem Obs.tr{σ':L2.St}{ds':List Sl}(h:Obs K H₀ H O σ ds hd)(tr:∀v t fs,RepO K H O v t fs->(∀b∈fs,H₀ b=none/\∀j,IsOwn ds j->σ[j]?≠some (some (.ref b)))->RepO K H' O' v t fs)(hob:∀(i:Nat) (r:Option Nat) (t:OT),ds'[i]?=some (.ob r t)->ds[i]?=some (.ob r t)/\σ'[i]?=σ[i]?)(hown:∀(j:Nat) (b:aB),IsOwn ds' j->σ'[j]?=some (some (.ref b))->(IsOwn ds j/\σ[j]?=some (some (.ref b)))\/H b=none):Obs K H₀ H' O' σ' ds' hd:=by
 obtain⟨F,hF⟩:=h;refine⟨F,fun i r t e=>?_⟩;obtain⟨e1,e2⟩:=hob i r t e;obtain⟨v,h1,h2,h3,h4,h5⟩:=hF i r t e1;refine⟨v,e2.trans h1,tr v t _ h2 fun b hb=>⟨(h5 b hb).1,(h5 b hb).2.2⟩,h3,h4,fun b hb=>⟨(h5 b hb).1,fun j r' t' hj ej=>(h5 b hb).2.1 j r' t' hj (hob j r' t' ej).1,fun j oj ej=>?_⟩⟩;rcases hown j b oj ej with⟨o1,o2⟩ | hn
 . exact(h5 b hb).2.2 j o1 o2
 . obtain⟨_, xs, z⟩ := h2.owns b hb;rw[hn] at z;cases z
theorem Obs.no(h:∀(i:Nat) (r:Option Nat) (t:OT),ds[i]?≠some (.ob r t)):Obs K H₀ H O σ ds hd:=⟨fun _=>[],fun i r t e=>(h i r t e).elim⟩
theorem Obs.mono(k:Same H H')(h:Obs K H₀ H O σ ds hd):Obs K H₀ H' O σ ds hd:=h.tr (fun _ _ _ r _=>r.mono k) (fun _ _ _ e=>⟨e,rfl⟩) fun _ _ o e=>.inl ⟨o,e⟩
theorem wC{i:Nat}{s:Sl}(hs:∀r t,s≠.ob r t){j:Nat}{r:Option Nat}{t:OT}(e:(ds.set i s)[j]?=some (.ob r t)):ds[j]?=some (.ob r t)/\j≠i:=by
 by_cases hj:j=i
 . subst hj
   by_cases hl:j<ds.length
   . rw[bA hl] at e;cases e;exact(hs r t rfl).elim
   . rw[aW (by simpa using hl)] at e;cases e
 . rw[aG (Ne.symm hj)] at e;exact⟨e,hj⟩
theorem wZ{i:Nat}{s:Sl}(hs:∀l,s≠.own l){j:Nat}(e:IsOwn (ds.set i s) j):IsOwn ds j/\j≠i:=by
 obtain⟨l,e⟩:=e
 by_cases hj:j=i
 . subst hj
   by_cases hl:j<ds.length
   . rw[bA hl] at e;cases e;exact(hs l rfl).elim
   . rw[aW (by simpa using hl)] at e;cases e
 . rw[aG (Ne.symm hj)] at e;exact⟨⟨l,e⟩,hj⟩
theorem SlOk.mono(k:Same H H'):∀{x:Option V} {s:Sl},SlOk K H₀ H O x s->SlOk K H₀ H' O x s
 |none,.no,_=>trivial
 |some (.ref _),.no,_=>trivial
 |some _,.no,_=>by simp[SlOk]
 | x, .ob _ _, _ => by cases x with
   |none=>trivial
   |some x=>cases x<;>trivial
 | some x, .v d, h => by
   have h:Rep K H O x d:=by cases x<;>exact h
   show SlOk K H₀ H' O (some x) (.v d);have:=h.mono k;cases x<;>exact this
 |some (.ref a),.own l,⟨ho,xs,h,r⟩=>⟨ho,xs,k _ _ h,r.mono k⟩
 |some (.ref a),.fr l,⟨ho,h0,xs,h,r⟩=>⟨ho,h0,xs,k _ _ h,r.mono k⟩
 |some (.ref a),.exc t,⟨C,o,u,h1,h2,h3⟩=>⟨C,o,u,h1,k _ _ h2,h3⟩
 |some (.ref a),.exf t fs,x=>x.keep fun _ _ _ e=>k _ _ e
theorem Ok.old(o:Ok K H₀ H O σ ds hd){a:aB}(h:O a):Old H a:=let ⟨xs,e⟩:=o.dom a h;⟨_,e,xs.2⟩
theorem Ok.mono(k:Same H H')(o:Ok K H₀ H O σ ds hd):Ok K H₀ H' O σ ds hd :=
 ⟨o.same.trans k,o.fresh,fun a h=>let ⟨xs,e⟩:=o.dom a h;⟨xs,k _ _ e⟩,o.len,fun i s e=>(o.sl i s e).mono k,o.apart,fun p hp=>(o.hold p hp).mono k,o.obs.mono k⟩
theorem Ok.free{p:aB}(o:Ok K H₀ H O σ ds hd)(h:H p=none):¬O p:=fun z=>by
 obtain⟨xs,e⟩:=o.dom p z;rw[h] at e;cases e
theorem Ok.read{i:Nat}{d:D}(o:Ok K H₀ H O σ ds hd)(e:ds[i]?=some (.v d)):∃v,σ[i]?=some (some v)/\Rep K H O v d:=by
 have h:=o.sl i _ e;cases q : σ[i]? with
 |none=>rw[q] at h;exact h.elim
 | some x =>
   rw[q] at h;cases x with
   |none=>exact h.elim
   |some x=>exact⟨x,rfl,by cases x<;>exact h⟩
theorem Ok.readO{i:Nat}{l:List D}(o:Ok K H₀ H O σ ds hd)(e:ds[i]?=some (.own l)):∃a xs,σ[i]?=some (some (.ref a))/\O a/\H a=some (.lst xs)/\Reps K H O xs l:=by
 have h:=o.sl i _ e;cases q : σ[i]? with
 |none=>rw[q] at h;exact h.elim
 | some x =>
   rw[q] at h;cases x with
   |none=>exact h.elim
   | some x =>
     cases x with
     |ref a=>obtain⟨ho,xs,h1,h2⟩:=h;exact⟨a,xs,rfl,ho,h1,h2⟩
     |_=>exact h.elim
theorem Ok.readX{i t:Nat}(o:Ok K H₀ H O σ ds hd)(e:ds[i]?=some (.exc t)):∃a C ob u,σ[i]?=some (some (.ref a))/\aQ K aP (xName t)=some (some (.ref C))/\H a=some (.frz ob u)/\ob.cls=.ref C:=by
 have h:=o.sl i _ e;cases q : σ[i]? with
 |none=>rw[q] at h;exact h.elim
 | some x =>
   rw[q] at h;cases x with
   |none=>exact h.elim
   | some x =>
     cases x with
     |ref a=>obtain⟨C,ob,u,h1,h2,h3⟩:=h;exact⟨a,C,ob,u,rfl,h1,h2,h3⟩
     |_=>exact h.elim
theorem Ok.readE{i t:Nat}{fs:List (Str×Int)}(o:Ok K H₀ H O σ ds hd)(e:ds[i]?=some (.exf t fs)):∃a,σ[i]?=some (some (.ref a))/\XfOk K H a t fs:=by
 have h:=o.sl i _ e;cases q : σ[i]? with
 |none=>rw[q] at h;exact h.elim
 | some x =>
   rw[q] at h;cases x with
   |none=>exact h.elim
   | some x =>
     cases x with
     |ref a=>exact⟨a,rfl,h⟩
     |_=>exact h.elim
theorem Ok.readF{i:Nat}{l:List D}(o:Ok K H₀ H O σ ds hd)(e:ds[i]?=some (.fr l)):∃a xs,σ[i]?=some (some (.ref a))/\¬O a/\H₀ a=none/\H a=some (.lst xs)/\Reps K H O xs l:=by
 have h:=o.sl i _ e;cases q : σ[i]? with
 |none=>rw[q] at h;exact h.elim
 | some x =>
   rw[q] at h;cases x with
   |none=>exact h.elim
   | some x =>
     cases x with
     |ref a=>obtain⟨ho,h0,xs,h1,h2⟩:=h;exact⟨a,xs,rfl,ho,h0,h1,h2⟩
     |_=>exact h.elim
theorem jS{x:Option V}: SlOk K H₀ H O x .no:=by
 cases x with
 |none=>trivial
 |some x=>cases x<;>trivial
theorem BV{x:Option V}{r:Option Nat}{t:OT}: SlOk K H₀ H O x (.ob r t):=by
 cases x with
 |none=>trivial
 |some x=>cases x<;>trivial
theorem wV{x:V}{d:D}(h:Rep K H O x d):SlOk K H₀ H O (some x) (.v d):=by
 cases x<;>exact h
theorem Ok.set{i:Nat}{v:V}{d:D}(o:Ok K H₀ H O σ ds hd)(r:Rep K H O v d):Ok K H₀ H O (σ.set i (some v)) (ds.set i (.v d)) hd:=by
 have own':∀{j:Nat},IsOwn (ds.set i (.v d)) j->j≠i/\IsOwn ds j:=fun {j} ⟨l,e⟩=>by
  by_cases hj:j=i
  . subst hj
    by_cases hl:j<ds.length
    . rw[bA hl] at e;cases e
    . rw[aW (by simpa using hl)] at e;cases e
  . rw[aG (Ne.symm hj)] at e;exact⟨hj,l,e⟩
 refine⟨o.same,fun j l a e1 e2=>?_,o.dom,by simpa using o.len,fun j s e=>?_,fun j k a hjk hj hk e1 e2=>?_,o.hold,o.obs.tr (fun _ _ _ r _=>r) (fun j r t e=>by
  obtain⟨e1,hj⟩:=wC (fun r t=>by intro z;cases z) e
  exact⟨e1,by rw[aG (Ne.symm hj)]⟩) (fun j b oj ej=>by
  obtain⟨o1,hj⟩:=wZ (fun l=>by intro z;cases z) oj;rw[aG (Ne.symm hj)] at ej
  exact .inl ⟨o1,ej⟩)⟩
 . obtain⟨n1, h1⟩ := own' ⟨l, e1⟩;rw[aG (Ne.symm n1)] at e1 e2;exact o.fresh j l a e1 e2
 . by_cases hj : j = i
   . subst hj
     by_cases hl:j<ds.length
     . rw[bA hl] at e;cases e;rw[bA (by rw[o.len];exact hl)];exact wV r
     . rw[aW (by simpa using hl)] at e;cases e
   . rw[aG (Ne.symm hj)] at e;rw[aG (Ne.symm hj)];exact o.sl j s e
 . obtain⟨n1, h1⟩ := own' hj;obtain⟨n2,h2⟩:=own' hk;rw[aG (Ne.symm n1)] at e1;rw[aG (Ne.symm n2)] at e2;exact o.apart j k a hjk h1 h2 e1 e2
theorem Ok.setO{i:Nat}{a:aB}{xs:List V}{l:List D}(o:Ok K H₀ H O σ ds hd)(k:Same H H')(hn:H a=none)(e:H' a=some (.lst xs))(r:Reps K H' (ins1 a O) xs l) :
  Ok K H₀ H' (ins1 a O) (σ.set i (some (.ref a))) (ds.set i (.own l)) hd:=by
 have up:∀{v:V} {d:D},Rep K H O v d->Rep K H' (ins1 a O) v d:=fun h=>(h.more hn).mono k;have ups:∀{v:List V} {d:List D},Reps K H O v d->Reps K H' (ins1 a O) v d:=fun h=>(h.more hn).mono k
 have other:∀j:Nat,IsOwn ds j->σ[j]?=some (some (.ref a))->False:=fun j ⟨l',e'⟩ q=>by
  obtain⟨b,ys,h1,h2,h3,_⟩:=o.readO e';rw[q] at h1;cases h1;rw[hn] at h3;cases h3
 have own':∀{j:Nat},j≠i->IsOwn (ds.set i (.own l)) j->IsOwn ds j:=fun {j} hj ⟨l',e'⟩=>⟨l',by rwa [aG (Ne.symm hj)] at e'⟩
 refine⟨o.same.trans k,fun j l' b e1 e2=>?_,fun b hb=>?_,by simpa using o.len,fun j s es=>?_,fun j m b hjm hj hm e1 e2=>?_,fun p hp=>?_,o.obs.tr (fun _ _ _ r _=>(r.more hn).mono k) (fun j r t e=>by
  obtain⟨e1,hj⟩:=wC (fun r t=>by intro z;cases z) e
  exact⟨e1,by rw[aG (Ne.symm hj)]⟩) (fun j b oj ej=>by
  by_cases hj:j=i
  . subst hj
    by_cases hl:j<σ.length
    . rw[bA hl] at ej;cases ej;exact .inr hn
    . rw[aW (by simpa using hl)] at ej;cases ej
  . rw [aG (Ne.symm hj)] at ej;obtain ⟨l',e'⟩:=oj;rw [aG (Ne.symm hj)] at e'
    exact .inl ⟨⟨l',e'⟩,ej⟩)⟩
 rotate_left 4
 . have := o.hold p hp;cases p with
   |rep v d=>exact up this
   |base B=>exact fun b hb=>⟨.inr (this b hb).1,(this b hb).2⟩
   |root k a=>exact True.intro
   |fz a' o' kvs' l'=>exact⟨fun z=>z.elim (fun z=>by have:=this.2.1;rw[z,hn] at this;cases this) this.1,k _ _ this.2.1,(Reps.more hn this.2.2).mono k⟩
 . by_cases hj : j = i
   . subst hj
     by_cases hl:j<σ.length
     . rw[bA hl] at e2;cases e2;exact o.same.free hn
     . rw[aW (by simpa using hl)] at e2;cases e2
   . rw[aG (Ne.symm hj)] at e1 e2;exact o.fresh j l' b e1 e2
 . rcases hb with rfl | hb
   . exact⟨⟨.lst xs,rfl⟩,e⟩
   . obtain⟨ys, q⟩ := o.dom b hb;exact⟨ys,k _ _ q⟩
 . by_cases hj : j = i
   . subst hj
     by_cases hl:j<ds.length
     . rw[bA hl] at es;cases es;rw[bA (by rw[o.len];exact hl)];exact⟨.inl rfl,xs,e,r⟩
     . rw[aW (by simpa using hl)] at es;cases es
   . rw [aG (Ne.symm hj)] at es;rw [aG (Ne.symm hj)];cases s with
     |no=>exact jS
     |ob r t=>exact BV
     | exc t =>
       obtain⟨a',C',ob',u',q1,q2,q3,q4⟩:=o.readX es;rw[q1];exact⟨C',ob',u',q2,k _ _ q3,q4⟩
     | exf t fs =>
       obtain⟨a',q1,q3⟩:=o.readE es;rw[q1];exact q3.keep fun a' ob' u' q3=>k _ _ q3
     | fr l' =>
       obtain⟨a',xs',q1,q2,q0,q3,q4⟩:=o.readF es;rw[q1];exact⟨fun z=>z.elim (fun e'=>by rw[e',hn] at q3;cases q3) q2,q0,xs',k _ _ q3,ups q4⟩
     | v d =>
       obtain⟨v,h1,h2⟩:=o.read es;rw[h1];exact wV (up h2)
     | own l' =>
       obtain⟨b,ys,h1,h2,h3,h4⟩:=o.readO es;rw[h1];exact⟨.inr h2,ys,k _ _ h3,ups h4⟩
 . have hs:∀{q:Nat},q=i->(σ.set i (some (V.ref a)))[q]?=some (some (.ref b))->b=a:=fun {q} hq eq=>by
    subst hq
    by_cases hl:q<σ.length
    . rw[bA hl] at eq;cases eq;rfl
    . rw[aW (by simpa using hl)] at eq;cases eq
   by_cases h1:j=i
   . have hb := hs h1 e1;have h2:m≠i:=fun z=>hjm (h1.trans z.symm);rw[aG (Ne.symm h2),hb] at e2;exact other m (own' h2 hm) e2
   . by_cases h2 : m = i
     . have hb := hs h2 e2;rw[aG (Ne.symm h1),hb] at e1;exact other j (own' h1 hj) e1
     . rw[aG (Ne.symm h1)] at e1;rw[aG (Ne.symm h2)] at e2;exact o.apart j m b hjm (own' h1 hj) (own' h2 hm) e1 e2
theorem Ok.modify{i:Nat}{l l':List D}{a:aB}{xs':List V}(o:Ok K H₀ H O σ ds hd)(e:ds[i]?=some (.own l))(ea : σ[i]?=some (some (.ref a)))(r:Reps K H O xs' l') :
  Ok K H₀ (upd H a (.lst xs')) O σ (ds.set i (.own l')) hd:=by
 obtain⟨a',xs,h1,h2,h3,h4⟩:=o.readO e;rw[ea] at h1;cases h1;have hl:i<ds.length:=(aV.mp e).1
 have k:Keep O H (upd H a (.lst xs')):=fun b u hb eb=>by
  rw[zJ (fun(z:b=a)=>hb (z.symm▸h2))];exact eb
 refine⟨fun b u eb=>?_,fun j l2 b e1 e2=>?_,fun b hb=>?_,by simpa using o.len,fun j s es=>?_,fun j m b hjm hj hm e1 e2=>?_,fun p hp=>(o.hold p hp).keep k,o.obs.tr (fun _ _ _ r hb=>r.keep k fun b z u eu=>by rw[zJ (fun q=>(hb b z).2 i ⟨l,e⟩ (by rw[q];exact ea))];exact eu) (fun j r t ej=>by
  obtain⟨e1,hj⟩:=wC (fun r t=>by intro z;cases z) ej
  exact⟨e1,rfl⟩) (fun j b oj ej=>by
  by_cases hj:j=i
  . subst hj;exact .inl ⟨⟨l,e⟩,ej⟩
  . obtain ⟨l', e'⟩ := oj;rw [aG (Ne.symm hj)] at e'
    exact .inl ⟨⟨l',e'⟩,ej⟩)⟩
 rotate_left 1
 . by_cases hj : j = i
   . subst hj;exact o.fresh j l b e e2
   . rw[aG (Ne.symm hj)] at e1;exact o.fresh j l2 b e1 e2
 rotate_right 1
 . rw[zJ (fun z => by rw[z, o.fresh i l a e ea] at eb;cases eb)];exact o.same b u eb
 . by_cases hba : b = a
   . subst hba;exact⟨⟨.lst xs',rfl⟩,bY⟩
   . rw[zJ hba];exact o.dom b hb
 . by_cases hj : j = i
   . subst hj;rw[bA hl] at es;cases es;rw[ea];exact⟨h2,xs',bY,r.keep k⟩
   . rw [aG (Ne.symm hj)] at es;cases s with
     |no=>exact jS
     |ob r t=>exact BV
     | exc t =>
       obtain⟨a',C',ob',u',q1,q2,q3,q4⟩:=o.readX es;rw[q1];exact⟨C',ob',u',q2,by rw[zJ (fun z=>by rw[z,h3] at q3;cases q3)];exact q3,q4⟩
     | exf t fs =>
       obtain⟨a',q1,q3⟩:=o.readE es;rw[q1];exact q3.keep fun a' ob' u' q3=>by rw[zJ (fun z=>by rw[z,h3] at q3;cases q3)];exact q3
     | fr l' =>
       obtain⟨a',xs'',q1,q2,q0,q3,q4⟩:=o.readF es;rw[q1];exact⟨q2,q0,xs'',by rw[zJ (fun z=>q2 (by rw[z];exact h2))];exact q3,q4.keep k⟩
     | v d =>
       obtain⟨v,q1,q2⟩:=o.read es;rw[q1];exact wV (q2.keep k)
     | own l'' =>
       obtain⟨b,ys,q1,q2,q3,q4⟩:=o.readO es;rw[q1];refine⟨q2,ys,?_,q4.keep k⟩;rw[zJ (fun z=>?_)]
       . exact q3
       . subst z;exact o.apart j i b hj ⟨_,es⟩ ⟨l,e⟩ q1 ea
 . have own':∀{j:Nat},IsOwn (ds.set i (.own l')) j->IsOwn ds j:=fun {j} ⟨l'',e'⟩=>by
    by_cases hj:j=i
    . subst hj;exact⟨l,e⟩
    . rw[aG (Ne.symm hj)] at e';exact⟨l'',e'⟩
   exact o.apart j m b hjm (own' hj) (own' hm) e1 e2
theorem Ok.holdMore{p:HI}(o:Ok K H₀ H O σ ds hd)(r:HOk K H₀ H O p)(hp:∀k a,HI.root k a≠p:=by intro _ _ z;cases z):Ok K H₀ H O σ ds (p::hd):=
 ⟨o.same,o.fresh,o.dom,o.len,o.sl,o.apart,fun q hq=>(aH.mp hq).elim (fun e=>e▸r) (o.hold q),let ⟨F,hF⟩:=o.obs;⟨F,fun i r t e=>let ⟨v,h1,h2,h3,h4⟩:=hF i r t e;⟨v,h1,h2,fun k a z y=>(aH.mp y).elim (fun y=>(hp k a y).elim) (h3 k a z),h4⟩⟩⟩
theorem Ok.holdLess{p:HI}(o:Ok K H₀ H O σ ds (p::hd)):Ok K H₀ H O σ ds hd :=
 ⟨o.same,o.fresh,o.dom,o.len,o.sl,o.apart,fun q hq=>o.hold q (aI _ hq),let ⟨F,hF⟩:=o.obs;⟨F,fun i r t e=>let ⟨v,h1,h2,h3,h4⟩:=hF i r t e;⟨v,h1,h2,fun k a z y=>h3 k a z (aI _ y),h4⟩⟩⟩
end
section
variable(X:Cx)
def PV(e:Expr)(f:FE):Prop:=∃t,PE X e t/\∀H₀ H O σ ds hd d Q,Ok X.K H₀ H O σ ds hd->f ds=some d->(∀v H',Same H H'->Rep X.K H' O v d->Q v H')->t σ H Q
def PVw(e:Expr)(f:FE):Prop:=∃t,PE X e t/\∀H₀ H O σ ds hd d Q,Ok X.K H₀ H O σ ds hd->f ds=some d->(∀v H',Same H H'->WRep X.K H' O v d->Q v H')->t σ H Q
def PVf(e:Expr)(f:FA):Prop:=∃t,PE X e t/\∀H₀ H O σ ds hd l Q,Ok X.K H₀ H O σ ds hd->f ds=some l →
 (∀a xs H',Same H H'->H a=none->H' a=some (.lst xs)->Reps X.K H' (ins1 a O) xs l->Q (.ref a) H')->t σ H Q
def PTv(e:Expr)(c:FT):Prop:=∃t,PT X e t/\∀H₀ H O σ ds hd b Q,Ok X.K H₀ H O σ ds hd->c ds=some b->(∀H',Same H H'->Q b H')->t σ H Q
def PWv(e:Expr)(c:FT):Prop:=∃t,PW X e t/\∀H₀ H O σ ds hd b Q,Ok X.K H₀ H O σ ds hd->c ds=some b->(∀H',Same H H'->Q b H')->t σ H Q
def PAv(es:List Expr)(f:FA):Prop:=∃t,PA X es t/\∀H₀ H O σ ds hd l Q,Ok X.K H₀ H O σ ds hd->f ds=some l->(∀vs H',Same H H'->uZ (WRep X.K H' O) vs l->Q vs H')->t σ H Q
def PAs(es:List Expr)(f:FA):Prop:=∃t,PA X es t/\∀H₀ H O σ ds hd l Q,Ok X.K H₀ H O σ ds hd->f ds=some l->(∀vs H',Same H H'->Reps X.K H' O vs l->Q vs H')->t σ H Q
end
theorem PV.w{e:Expr}{f:FE}(h:PV X e f):PVw X e f:=by
 obtain⟨t,ht,hf⟩:=h;exact⟨t,ht,fun H₀ H O σ ds hd d Q o e q=>hf H₀ H O σ ds hd d Q o e fun v H' s r=>q v H' s (.inl r)⟩
theorem PVf.s{e:Expr}{f:FA}(h:PVf X e f):PV X e (mkL f):=by
 obtain⟨t,ht,hf⟩:=h;refine⟨t,ht,fun H₀ H O σ ds hd d Q o e q=>?_⟩;unfold mkL at e;obtain⟨l,hl,rfl⟩:=mpd e;rw[hl] at e;cases e;refine hf H₀ H O σ ds hd l Q o hl fun a xs H' s hn he r=>q _ _ s ?_;exact .lst (o.free hn) (.inl he) (r.less fun _ z=>.inr z)
theorem zY(i:Nat){x:Str}{pos:Pos}(hN:X.N[i]?=some x:=by rfl)(hv:Vis X.env.scope x:=by first | exact Or.inl rfl | exact Or.inr (Or.inl rfl) | exact Or.inr (Or.inr rfl))(hd:(x==("__debug__" : Str))=false:=by decide)(hcd:(x==("__classdict__" : Str))=false:=by decide):PV X (.Name x pos) (qR i):=by
 refine⟨_,yL hN hv hd hcd,fun H₀ H O σ ds hd d Q o e q=>?_⟩;unfold qR at e;cases hs:ds[i]? with
 |none=>rw[hs] at e;cases e
 | some s =>
   rw[hs] at e;cases s with
   | v d' =>
     cases e;obtain⟨v,h1,h2⟩:=o.read hs;exact⟨v,h1,q v H (Same.refl _) h2⟩
   |no=>cases e
   |exc _=>cases e
   |exf _ _=>cases e
   |fr _=>cases e
   |ob _ _=>cases e
   |own l=>cases e
theorem zE(i:Nat){x:Str}{pos:Pos}(hN:X.N[i]?=some x:=by rfl)(hv:Vis X.env.scope x:=by first | exact Or.inl rfl | exact Or.inr (Or.inl rfl) | exact Or.inr (Or.inr rfl))(hd:(x==("__debug__" : Str))=false:=by decide)(hcd:(x==("__classdict__" : Str))=false:=by decide):PVw X (.Name x pos) (zG i):=by
 refine⟨_,yL hN hv hd hcd,fun H₀ H O σ ds hd d Q o e q=>?_⟩;unfold zG at e;cases hs:ds[i]? with
 |none=>rw[hs] at e;cases e
 | some s =>
   rw[hs] at e;cases s with
   | v d' =>
     cases e;obtain⟨v,h1,h2⟩:=o.read hs;exact⟨v,h1,q v H (Same.refl _) (.inl h2)⟩
   |no=>cases e
   |exc _=>cases e
   |exf _ _=>cases e
   |fr _=>cases e
   |ob _ _=>cases e
   | own l =>
     cases e;obtain⟨a,xs,h1,h2,h3,h4⟩:=o.readO hs;exact⟨.ref a,h1,q _ H (Same.refl _) (.inr ⟨a,xs,l,rfl,rfl,h2,h3,h4⟩)⟩
theorem jD{i:Int}{j pos}: PV X (.Constant (.int i) j pos) (zA (.int i)):=⟨_,pe_int,fun _ H _ _ _ _ _ _ _ e q=>by cases e;exact q _ H (Same.refl _) (.int i)⟩
theorem wT{b:Bool}{j pos}: PV X (.Constant (.bool b) j pos) (zA (.bl b)):=⟨_,pe_bl,fun _ H _ _ _ _ _ _ _ e q=>by cases e;exact q _ H (Same.refl _) (.bl b)⟩
theorem qJ{j pos}: PV X (.Constant .none j pos) (zA .non):=⟨_,pe_non,fun _ H _ _ _ _ _ _ _ e q=>by cases e;exact q _ H (Same.refl _) .non⟩
def OpS(X:Cx)(r:R2)(op:D->D->Option D):Prop:=∀H O x y dx dy d Q,(∀a,O a->∃u:MutHO,H a=some u.1)->WRep X.K H O x dx->WRep X.K H O y dy->op dx dy=some d->(∀v H',Same H H'->Rep X.K H' O v d->Q v H')->r x y H Q
theorem IP{r:R2}{op:D->D->Option D}(hs:OpS X r op){a b:Expr}{fa fb:FE}{ta tb:TE}(ha:∀H₀ H O σ ds hd d Q,Ok X.K H₀ H O σ ds hd->fa ds=some d->(∀v H',Same H H'->WRep X.K H' O v d->Q v H')->ta σ H Q)(hb:∀H₀ H O σ ds hd d Q,Ok X.K H₀ H O σ ds hd->fb ds=some d->(∀v H',Same H H'->WRep X.K H' O v d->Q v H')->tb σ H Q) :
  ∀H₀ H O σ ds hd d Q,Ok X.K H₀ H O σ ds hd->zD op fa fb ds=some d->(∀v H',Same H H'->Rep X.K H' O v d->Q v H')->tOp r ta tb σ H Q:=by
 intro H₀ H O σ ds hd d Q o e q;unfold zD at e;obtain⟨dx,h1,e⟩:=bnd e;obtain⟨dy,h2,e⟩:=bnd e;refine ha H₀ H O σ ds hd dx _ o h1 fun x H1 s1 r1=>?_;refine hb H₀ H1 O σ ds hd dy _ (o.mono s1) h2 fun y H2 s2 r2=>?_;exact hs H2 O x y dx dy d Q ((o.mono s1).mono s2).dom (r1.mono s2) r2 e fun v H' s r=>q v H' ((s1.trans s2).trans s) r
theorem vM{op:YA}{r:R2}{opD:D->D->Option D}{a b:Expr}{fa fb:FE}{pos:Pos}(ho:OpR X (lR op) r)(hs:OpS X r opD)(ha:PVw X a fa)(hb:PVw X b fb):PV X (.BinOp a op b pos) (zD opD fa fb):=by
 obtain⟨ta,pa,ha⟩:=ha;obtain⟨tb,pb,hb⟩:=hb;exact⟨_,pe_op ho pa pb,IP hs (a:=a) (b:=b) ha hb⟩
theorem kG{op:CmpOp}{r:R2}{opD:D->D->Option D}{a b:Expr}{fa fb:FE}{pos:Pos}(ho:OpR X (fQ op) r)(hs:OpS X r opD)(ha:PVw X a fa)(hb:PVw X b fb)(hm:iD op b=false):PTv X (.Compare a [op] [b] pos) (zL (zD opD fa fb)):=by
 obtain⟨ta,pa,ha⟩:=ha;obtain⟨tb,pb,hb⟩:=hb;refine⟨_,LQ ho pa pb hm,fun H₀ H O σ ds hd k Q o e q=>?_⟩;unfold zL at e;obtain⟨d,h,e⟩:=bnd e;refine IP hs (a:=a) (b:=b) ha hb H₀ H O σ ds hd d _ o h fun v H' s r=>?_;cases d with
 |bl c=>cases e;cases r;exact⟨_,rfl,q H' s⟩
 |_=>cases e
theorem os_add:OpS X (fun x y H Q=>rI0 (fun i j=>.int (i+j)) x y H Q\/∃i j,x=.str i/\y=.str j/\i.length+j.length<=sizeLine/\Q (.str (i++j)) H) xH:=by
 intro H O x y dx dy d Q ho rx ry e q;cases dx<;>cases dy<;>first | (simp[xH] at e;done) | skip
 . cases e;rw[rx.int',ry.int'];exact .inl ⟨_,_,rfl,rfl,q _ H (Same.refl _) (.int _)⟩
 . rename_i x y;simp only [xH] at e
   split at e
   . rename_i hl;cases e;rw[rx.str',ry.str'];exact .inr ⟨_,_,rfl,rfl,hl,q _ H (Same.refl _) (.str _)⟩
   . cases e
theorem op_addU:OpR X (lR .Add) (fun x y H Q=>rI0 (fun i j=>.int (i+j)) x y H Q\/∃i j,x=.str i/\y=.str j/\i.length+j.length<=sizeLine/\Q (.str (i++j)) H):=op_add.or IV
theorem os_sub:OpS X (rI0 fun i j=>.int (i-j)) subD:=by
 intro H O x y dx dy d Q ho rx ry e q;cases dx<;>cases dy<;>first | (simp[subD] at e;done) | skip
 cases e;rw[rx.int',ry.int'];exact⟨_,_,rfl,rfl,q _ H (Same.refl _) (.int _)⟩
def CDivB(i j:Int):Prop:=divOk j
theorem VA:OpR X (lR .FloorDiv) (rI CDivB fun i j=>.int (i/j)):=opI fun i j _ _ _ _ _ hc q=>by
 have e:i.fdiv j=i/j:=Int.fdiv_eq_ediv_of_nonneg _ (dY hc.1);refine floordiv_int (by have:=hc.1;omega) ?_ (.inl (PyProof.noPylong_of_log2 hc.2));rw[e];exact q
theorem os_fdiv:OpS X (rI CDivB fun i j=>.int (i/j)) qU:=by
 intro H O x y dx dy d Q ho rx ry e q;cases dx<;>cases dy<;>first | (simp[qU] at e;done) | skip
 simp only[qU] at e
 split at e
 . rename_i hc;cases e;rw[rx.int',ry.int'];exact⟨_,_,rfl,rfl,hc,q _ H (Same.refl _) (.int _)⟩
 . cases e
theorem os_mod:OpS X (rI (fun _ j=>0<j) fun i j=>.int (i%j)) jI:=by
 intro H O x y dx dy d Q ho rx ry e q;cases dx<;>cases dy<;>first | (simp[jI] at e;done) | skip
 simp only[jI] at e
 split at e
 . rename_i hc;cases e;rw[rx.int',ry.int'];exact⟨_,_,rfl,rfl,hc,q _ H (Same.refl _) (.int _)⟩
 . cases e
theorem kJ{p:Int->Int->Bool}: OpS X (rI0 fun i j=>.bl (p i j)) (cmpI p):=by
 intro H O x y dx dy d Q ho rx ry e q;cases dx<;>cases dy<;>first | (simp[cmpI] at e;done) | skip
 cases e;rw[rx.int',ry.int'];exact⟨_,_,rfl,rfl,q _ H (Same.refl _) (.bl _)⟩
theorem PV.t{e:Expr}{f:FE}(h:PV X e f)(he:∀whole,uW e X.env whole=(do let v <- whole;DJ e.pos;lK [v] (truthy v)):=by intro _;rfl):PTv X e (zL f):=by
 obtain⟨t,ht,hf⟩:=h;refine⟨_,pt_val ht he,fun H₀ H O σ ds hd k Q o e q=>?_⟩;unfold zL at e;obtain⟨d,h,e⟩:=bnd e;refine hf H₀ H O σ ds hd d _ o h fun v H' s r=>?_;cases d with
 |bl c=>cases e;cases r;exact⟨_,rfl,q H' s⟩
 |_=>cases e
theorem qV{a:Expr}{pos:Pos}{c:FT}(ha:PTv X a c):PWv X (.BoolOp .And [a] pos) c:=by
 obtain⟨t,ht,hf⟩:=ha;exact⟨_,ZK ht,hf⟩
theorem yT{a:Expr}{pos:Pos}{c:FT}(ha:PTv X a c):PWv X (.BoolOp .Or [a] pos) c:=by
 obtain⟨t,ht,hf⟩:=ha;exact⟨_,pw_or1 ht,hf⟩
theorem qM{a b:Expr}{rest:List Expr}{pos:Pos}{c d:FT}(ha:PTv X a c)(hb:PWv X (.BoolOp .And (b::rest) pos) d):PWv X (.BoolOp .And (a::b::rest) pos) (andT c d):=by
 obtain⟨t,ht,hf⟩:=ha;obtain⟨u,hu,hg⟩:=hb;refine⟨_,pw_and ht hu,fun H₀ H O σ ds hd k Q o e q=>?_⟩;unfold andT at e;obtain⟨b,h,e⟩:=bnd e;refine hf H₀ H O σ ds hd b _ o h fun H' s=>?_;cases b with
 |true=>exact iteT (hg H₀ H' O σ ds hd k Q (o.mono s) (by simpa using e) fun H'' s'=>q H'' (s.trans s'))
 | false =>
   have:false=k:=by simpa using e
   subst this;exact iteF (q H' s)
theorem xG{a b:Expr}{rest:List Expr}{pos:Pos}{c d:FT}(ha:PTv X a c)(hb:PWv X (.BoolOp .Or (b::rest) pos) d):PWv X (.BoolOp .Or (a::b::rest) pos) (orT c d):=by
 obtain⟨t,ht,hf⟩:=ha;obtain⟨u,hu,hg⟩:=hb;refine⟨_,pw_or ht hu,fun H₀ H O σ ds hd k Q o e q=>?_⟩;unfold orT at e;obtain⟨b,h,e⟩:=bnd e;refine hf H₀ H O σ ds hd b _ o h fun H' s=>?_;cases b with
 |false=>exact iteF (hg H₀ H' O σ ds hd k Q (o.mono s) (by simpa using e) fun H'' s'=>q H'' (s.trans s'))
 | true =>
   have:true=k:=by simpa using e
   subst this;exact iteT (q H' s)
theorem PWv.t{e:Expr}{c:FT}(h:PWv X e c):PTv X e c:=by
 obtain⟨t,ht,hf⟩:=h;exact⟨t,ht.pt,hf⟩
theorem yR{a:Expr}{pos:Pos}{c:FT}(ha:PTv X a c):PTv X (.UnaryOp .Not a pos) (notT c):=by
 obtain⟨t,ht,hf⟩:=ha;refine⟨_,pt_not ht,fun H₀ H O σ ds hd k Q o e q=>?_⟩;unfold notT at e;obtain⟨b,h,rfl⟩:=mpd e;exact hf H₀ H O σ ds hd b _ o h fun H' s=>q H' s
theorem vP{a:Expr}{op}{pos:Pos}{f:FE}(ha:PV X a f):PV X (.BoolOp op [a] pos) f:=by
 obtain⟨t,ht,hf⟩:=ha;exact⟨_,pe_one ht,hf⟩
theorem vQ{a b:Expr}{rest:List Expr}{pos:Pos}{f g:FE}(ha:PV X a f)(hb:PV X (.BoolOp .And (b::rest) pos) g):PV X (.BoolOp .And (a::b::rest) pos) (andV f g):=by
 obtain⟨t,ht,hf⟩:=ha;obtain⟨u,hu,hg⟩:=hb;refine⟨_,pe_and ht hu,fun H₀ H O σ ds hd d Q o e q=>?_⟩;unfold andV at e;obtain⟨dd,h,e⟩:=bnd e;refine hf H₀ H O σ ds hd dd _ o h fun v H' s r=>?_;cases dd with
 | bl c =>
   cases r;cases c with
   |true=>exact⟨true,rfl,iteT (hg H₀ H' O σ ds hd d Q (o.mono s) e fun v H'' s'=>q v H'' (s.trans s'))⟩
   | false =>
     have:D.bl false=d:=Option.some.inj e;subst this;exact⟨false,rfl,iteF (q _ H' s (.bl false))⟩
 |_=>cases e
theorem pv_or{a b:Expr}{rest:List Expr}{pos:Pos}{f g:FE}(ha:PV X a f)(hb:PV X (.BoolOp .Or (b::rest) pos) g):PV X (.BoolOp .Or (a::b::rest) pos) (orV f g):=by
 obtain⟨t,ht,hf⟩:=ha;obtain⟨u,hu,hg⟩:=hb;refine⟨_,pe_or ht hu,fun H₀ H O σ ds hd d Q o e q=>?_⟩;unfold orV at e;obtain⟨dd,h,e⟩:=bnd e;refine hf H₀ H O σ ds hd dd _ o h fun v H' s r=>?_;cases dd with
 | bl c =>
   cases r;cases c with
   |false=>exact⟨false,rfl,iteF (hg H₀ H' O σ ds hd d Q (o.mono s) e fun v H'' s'=>q v H'' (s.trans s'))⟩
   | true =>
     have:D.bl true=d:=Option.some.inj e;subst this;exact⟨true,rfl,iteT (q _ H' s (.bl true))⟩
 |_=>cases e
theorem pv_not{a:Expr}{pos:Pos}{f:FE}(ha:PV X a f):PV X (.UnaryOp .Not a pos) (notV f):=by
 obtain⟨t,ht,hf⟩:=ha;refine⟨_,pe_not ht,fun H₀ H O σ ds hd d Q o e q=>?_⟩;unfold notV at e;obtain⟨dd,h,e⟩:=bnd e;refine hf H₀ H O σ ds hd dd _ o h fun v H' s r=>?_;cases dd with
 |bl c=>cases r;cases e;exact⟨c,rfl,q _ H' s (.bl _)⟩
 |_=>cases e
theorem pv_if{c a b:Expr}{pos:Pos}{fc:FT}{f g:FE}(hc:PTv X c fc)(ha:PV X a f)(hb:PV X b g):PV X (.IfExp c a b pos) (ifV fc f g):=by
 obtain⟨tc,pc,hc⟩:=hc;obtain⟨t,ht,hf⟩:=ha;obtain⟨u,hu,hg⟩:=hb;refine⟨_,UW pc ht hu,fun H₀ H O σ ds hd d Q o e q=>?_⟩;unfold ifV at e;obtain⟨k,h,e⟩:=bnd e;refine hc H₀ H O σ ds hd k _ o h fun H' s=>?_;cases k with
 |true=>exact iteT (hf H₀ H' O σ ds hd d Q (o.mono s) (by simpa using e) fun v H'' s'=>q v H'' (s.trans s'))
 |false=>exact iteF (hg H₀ H' O σ ds hd d Q (o.mono s) (by simpa using e) fun v H'' s'=>q v H'' (s.trans s'))
theorem jG:PAv X [] zW:=⟨_,yW,fun _ H _ _ _ _ _ _ _ e q=>by cases e;exact q _ H (Same.refl _) .nil⟩
theorem zU:PAs X [] zW:=⟨_,yW,fun _ H _ _ _ _ _ _ _ e q=>by cases e;exact q _ H (Same.refl _) .nil⟩
theorem qN{e:Expr}{es:List Expr}{f:FE}{g:FA}(ha:PVw X e f)(hr:PAv X es g)(hs:aL (e::es) X.env=(false,cM e X.env)::aL es X.env:=by rfl):PAv X (e::es) (zB f g):=by
 obtain⟨t,ht,hf⟩:=ha;obtain⟨u,hu,hg⟩:=hr;refine⟨_,jF ht hu hs,fun H₀ H O σ ds hd l Q o e q=>?_⟩;unfold zB at e;obtain⟨x,h,e⟩:=bnd e;obtain⟨r,h2,rfl⟩:=mpd e;refine hf H₀ H O σ ds hd x _ o h fun v H1 s1 r1=>?_;refine hg H₀ H1 O σ ds hd r _ (o.mono s1) h2 fun vs H2 s2 r2=>?_;exact q _ H2 (s1.trans s2) (.cons (r1.mono s2) r2)
theorem zH{e:Expr}{es:List Expr}{f:FE}{g:FA}(ha:PV X e f)(hr:PAs X es g)(hs:aL (e::es) X.env=(false,cM e X.env)::aL es X.env:=by rfl):PAs X (e::es) (zB f g):=by
 obtain⟨t,ht,hf⟩:=ha;obtain⟨u,hu,hg⟩:=hr;refine⟨_,jF ht hu hs,fun H₀ H O σ ds hd l Q o e q=>?_⟩;unfold zB at e;obtain⟨x,h,e⟩:=bnd e;obtain⟨r,h2,rfl⟩:=mpd e;refine hf H₀ H O σ ds hd x _ o h fun v H1 s1 r1=>?_;refine hg H₀ H1 O σ ds hd r _ (o.mono s1) h2 fun vs H2 s2 r2=>?_;exact q _ H2 (s1.trans s2) (.cons (r1.mono s2) r2)
theorem qB{H:Hp}{p:aB}(h:H p=none)(o:HO):Same H (upd H p o):=fun b u q=>by rw[zJ (jZ q h)];exact q
theorem qE{es:List Expr}{pos:Pos}{g:FA}(h:PAs X es g):PVf X (.List es pos) (zZ g):=by
 obtain⟨t,ht,hf⟩:=h;refine⟨_,UV ht,fun H₀ H O σ ds hd l Q o e q=>?_⟩;unfold zZ at e;cases h:g ds with
 |none=>rw[h] at e;cases e
 | some l' =>
   rw[h] at e;simp only[bF] at e
   split at e
   . rename_i hl;cases e;refine hf H₀ H O σ ds hd l _ o h fun vs H1 s1 r1=>⟨by rw [r1.length]; exact hl,fun p hp=>?_⟩
     refine q p vs _ (s1.trans (qB hp _)) (s1.free hp) bY ?_;exact(r1.more hp).mono (qB hp _)
   . cases e
theorem yP{es:List Expr}{x1}{pos:Pos}{g:FA}(h:PAs X es g):PV X (.Tuple es x1 pos) (mkT (zZ g)):=by
 obtain⟨t,ht,hf⟩:=h;refine⟨_,UU ht,fun H₀ H O σ ds hd d Q o e q=>?_⟩;unfold mkT zZ at e;cases h:g ds with
 |none=>rw[h] at e;cases e
 | some l' =>
   rw[h] at e;simp only[bF] at e
   split at e
   . rename_i hl;cases e;refine hf H₀ H O σ ds hd l' _ o h fun vs H1 s1 r1=>⟨by rw [r1.length]; exact hl,fun p hp=>?_⟩
     refine q _ _ (s1.trans (qB hp _)) ?_;exact .tup ((o.mono s1).free hp) (.inl bY) (r1.mono (qB hp _))
   . cases e
theorem NJ{K:Frag}{H:Hp}{O:aB->Prop}{xs:List V}{l:List D}{i:Int}{d:D}(r:Reps K H O xs l)(e:atI l i=some d):∃v,atI xs i=some v/\Rep K H O v d:=by
 unfold atI at e ⊢;rw[r.length];cases h:ixN l.length i with
 |none=>rw[h] at e;cases e
 | some j =>
   rw[h] at e;exact r.get e
theorem ix_sem{K:Frag}{H:Hp}{O:aB->Prop}{x y:V}{dx dy d:D}{Q:VK}(rx:WRep K H O x dx)(ry:WRep K H O y dy)(e:ixD dx dy=some d)(q:∀v H',Same H H'->Rep K H' O v d->Q v H'):rIx K x y H Q:=by
 cases dx<;>cases dy<;>first | (simp[ixD] at e;done) | skip
 . simp only [ixD] at e
   split at e
   . rename_i hl;rw[rx.str',ry.int'];rename_i z i;obtain⟨c,hc,rfl⟩:=mpd e;exact .inr (.inr ⟨_,_,c,rfl,rfl,hl,hc,q _ H (Same.refl _) (.str _)⟩)
   . cases e
 . obtain⟨a, xs, rfl, hs, r⟩ := rx.seqT;rw[ry.int'];obtain⟨v,h1,h2⟩:=NJ r e;exact .inr (.inl ⟨a,xs,_,v,rfl,rfl,hs,h1,q _ H (Same.refl _) h2⟩)
 . obtain⟨a, xs, rfl, hs, r⟩ := rx.seqL;rw[ry.int'];obtain⟨v,h1,h2⟩:=NJ r e;exact .inl ⟨a,xs,_,v,rfl,rfl,hs,h1,q _ H (Same.refl _) h2⟩
theorem os_ix:OpS X (rIx X.K) ixD:=fun H O x y dx dy d Q ho rx ry e q=>ix_sem rx ry e q
theorem qA{a b:Expr}{fa fb:FE}{pos:Pos}(ha:PVw X a fa)(hb:PVw X b fb)(hs:NK b:=by exact fun _ _=>rfl):PV X (.Subscript a b pos) (zD ixD fa fb):=by
 obtain⟨ta,pa,ha⟩:=ha;obtain⟨tb,pb,hb⟩:=hb;exact⟨_,pe_ix ix_seq pa pb hs,IP os_ix (a:=a) (b:=b) ha hb⟩
noncomputable def RetOk(K:Frag)(H H':Hp)(v:V):Ret->Prop
 | .val d=>Rep K H' (Old H) v d
 | .fresh l=>∃a xs,v=.ref a/\H a=none/\H' a=some (.lst xs)/\Reps K H' (ins1 a (Old H)) xs l
 | .any d=>Rep K H' jR v d
 | .obj t=>∃fs,RepO K H' (fun b=>b∈fs\/Old H b) v t fs/\fs.Nodup/\∀b∈fs,H b=none
noncomputable def RetB(K:Frag)(H:Hp)(hd:Hold)(v:V):Ret->Prop
 | .any d=>∀B,HI.base B∈hd->Rep K H B v d
 |_=>True
noncomputable def spF(K:Frag)(n:Nat)(F:List D->Option Ret):Sp:=fun vs H Q _=>vs.length=n/\∃ds r,Reps K H jR vs ds/\F ds=some r/\∀v H',Same H H'->RetOk K H H' v r->Q v H'
theorem LL{K:Frag}{H H':Hp}{O:aB->Prop}{v:V}{r:Ret}{d:D}(h:RetOk K H H' v r)(e:retV r=some d)(ho:∀a,O a->Old H a):Rep K H' O v d:=by
 cases r with
 |any d'=>cases e
 |val d'=>cases e;exact h.less ho
 | obj t =>
   cases e;obtain⟨fs,h1,h2,h3⟩:=h;refine h1.val' fun a z=>⟨.inr (ho a z),fun q=>?_⟩
   obtain⟨o,e,_⟩:=ho a z;rw[h3 a q] at e;cases e
 | fresh l =>
   cases e;obtain⟨a,xs,rfl,h1,h2,h3⟩:=h;refine .lst (fun z=>?_) (.inl h2) (h3.less fun b z=>.inr (ho b z));obtain⟨o,e,_⟩:=ho a z;rw[h1] at e;cases e
theorem ZI{K:Frag}{H H':Hp}{O:aB->Prop}{v:V}{r:Ret}{l:List D}(h:RetOk K H H' v r)(e:retF r=some l)(ho:∀a,O a->Old H a):∃a xs,v=.ref a/\H a=none/\H' a=some (.lst xs)/\Reps K H' (ins1 a O) xs l:=by
 cases r with
 |any d'=>cases e
 |val d'=>cases e
 |obj t=>cases e
 | fresh l' =>
   cases e;obtain⟨a,xs,rfl,h1,h2,h3⟩:=h;exact⟨a,xs,rfl,h1,h2,h3.less fun b z=>z.elim .inl fun z=>.inr (ho b z)⟩
section
variable{k:Nat}{f:aB}{fd:bQ}{ps:List Str}{n:Nat}{F:List D->Option Ret}{x:Str}{p pos:Pos}{e:Expr}{es:List Expr}{g:FA}
end
def CallS(X:Cx)(r:List V->Hp->VK->Prop)(F:List D->Option D):Prop:=∀H O vs l d Q,(∀a,O a->∃u:MutHO,H a=some u.1)->uZ (WRep X.K H O) vs l->F l=some d->(∀v H',Same H H'->Rep X.K H' O v d->Q v H')->r vs H Q
theorem wN{x:Str}{p pos:Pos}{e:Expr}{es:List Expr}{id:String}{r:List V->Hp->VK->Prop}{F:List D->Option D}{g:FA}(hc:CallR X (.builtin id) r)(hs:CallS X r F)(hm:X.mg x=none)(hv:eA x=some (.builtin id))(ha:PAv X (e::es) g)(hg:Gl X x)(hn:x≠"__name__":=by decide)(hdb:(x==("__debug__" : Str))=false:=by decide)(he:aL (e::es) X.env=(false,cM e X.env)::aL es X.env:=by rfl)(hpl:(eF pos (aL es X.env)).any (·.1)=false:=by rfl) :
  PV X (.Call (.Name x p) (e::es) [] pos) (callB F g):=by
 obtain⟨t,ht,hf⟩:=ha;refine⟨_,xU hc hg hm hv ht hn hdb he hpl,fun H₀ H O σ ds hd d Q o e q=>?_⟩;unfold callB at e;obtain⟨l,h,e⟩:=bnd e;refine hf H₀ H O σ ds hd l _ o h fun vs H1 s1 r1=>?_;exact hs H1 O vs l d Q (o.mono s1).dom r1 e fun v H' s' r=>q v H' (s1.trans s') r
theorem QV:CallR X (.builtin "len") (fun xs H Q=>(∃p ys,xs=[.ref p]/\(SqL X.K H p ys\/SqT X.K H p ys)/\Q (.int ys.length) H)\/∃z,xs=[.str z]/\z.length<=sizeLine/\Q (.int z.length) H):=CY.or CW
theorem cs_len:CallS X (fun xs H Q=>(∃p ys,xs=[.ref p]/\(SqL X.K H p ys\/SqT X.K H p ys)/\Q (.int ys.length) H)\/∃z,xs=[.str z]/\z.length<=sizeLine/\Q (.int z.length) H) lenD:=by
 intro H O vs l d Q ho r e q;unfold lenD at e
 split at e
 . cases e;cases r with
   | cons r rn =>
     cases rn;obtain⟨a,xs,rfl,hs,rs⟩:=r.seqL;refine .inl ⟨a,xs,rfl,.inl hs,?_⟩;rw[rs.length];exact q _ H (Same.refl _) (.int _)
 . cases e;cases r with
   | cons r rn =>
     cases rn;obtain⟨a,xs,rfl,hs,rs⟩:=r.seqT;refine .inl ⟨a,xs,rfl,.inr hs,?_⟩;rw[rs.length];exact q _ H (Same.refl _) (.int _)
 . split at e
   . rename_i hl;cases e;cases r with
     | cons r rn =>
       cases rn;rw[r.str'];exact .inr ⟨_,rfl,hl,q _ H (Same.refl _) (.int _)⟩
   . cases e
 . cases e
theorem yZ{p pos:Pos}{e:Expr}{g:FA}(hm:X.mg "len" = none)(ha:PAv X [e] g)(hg:Gl X "len":=by rfl)(he:aL [e] X.env=[(false,cM e X.env)]:=by rfl) :
  PV X (.Call (.Name "len" p) [e] [] pos) (callB lenD g):=wN QV cs_len hm PySem.boot_len ha hg (by decide) (by decide) he rfl
noncomputable def After(X:Cx)(H₀ : Hp)(hd:Hold)(E:Ends):Out->Prop
 | .nx ds=>∀σ H O,Ok X.K H₀ H O σ ds hd->E.nx σ H
 | .bk ds=>∀σ H O,Ok X.K H₀ H O σ ds hd->E.bk σ H
 | .ct ds=>∀σ H O,Ok X.K H₀ H O σ ds hd->E.ct σ H
 | .rt r=>∀v H,Same H₀ H->RetOk X.K H₀ H v r->RetB X.K H hd v r->E.rt v H
variable(X) in
def PSv(st:Stmt)(g:FS):Prop:=∃t,PS X st t/\∀H₀ H O σ ds hd out E,Ok X.K H₀ H O σ ds hd->g ds=some out->After X H₀ hd E out->t E σ H
variable(X) in
def PSsv(st:List Stmt)(g:FS):Prop:=∃t,PSs X st t/\∀H₀ H O σ ds hd out E,Ok X.K H₀ H O σ ds hd->g ds=some out->After X H₀ hd E out->t E σ H
theorem zR:PSsv X [] qL:=⟨_,LR,fun _ H O σ ds hd out E o e h=>by cases e;exact h σ H O o⟩
theorem zC{st:Stmt}{rest:List Stmt}{f g:FS}(h1:PSv X st f)(h2:PSsv X rest g):PSsv X (st::rest) (qC f g):=by
 obtain⟨t,ht,hf⟩:=h1;obtain⟨u,hu,hg⟩:=h2;refine⟨_,xQ ht hu,fun H₀ H O σ ds hd out E o e h=>?_⟩;unfold qC at e;obtain⟨o1,h1,e⟩:=bnd e;refine hf H₀ H O σ ds hd o1 _ o h1 ?_;cases o1 with
 |nx ds'=>exact fun σ' H' O' o'=>hg H₀ H' O' σ' ds' hd out E o' e h
 |rt r=>cases e;exact h
 |bk ds'=>cases e;exact h
 |ct ds'=>cases e;exact h
theorem zI{st:Stmt}{f:FS}(h1:PSv X st f):PSsv X [st] f:=by
 obtain⟨t,ht,hf⟩:=h1;exact⟨_,ZS ht,hf⟩
theorem CB{pos:Pos}: PSv X (.Continue pos) (fun ds=>some (.ct ds)):=⟨_,ER,fun _ H O σ ds hd out E o e h=>by cases e;exact h σ H O o⟩
theorem qH{c:Expr}{a b:List Stmt}{pos:Pos}{fc:FT}{f g:FS}(hc:PTv X c fc)(ha:PSsv X a f)(hb:PSsv X b g):PSv X (.If c a b pos) (ifG fc f g):=by
 obtain⟨tc,pc,hc⟩:=hc;obtain⟨t,ht,hf⟩:=ha;obtain⟨u,hu,hg⟩:=hb;refine⟨_,ps_if pc ht hu,fun H₀ H O σ ds hd out E o e h=>?_⟩;unfold ifG at e;obtain⟨k,h1,e⟩:=bnd e;refine hc H₀ H O σ ds hd k _ o h1 fun H' s=>?_;cases k with
 |true=>exact iteT (hf H₀ H' O σ ds hd out E (o.mono s) (by simpa using e) h)
 |false=>exact iteF (hg H₀ H' O σ ds hd out E (o.mono s) (by simpa using e) h)
theorem zT{i:Nat}{x:Str}{e:Expr}{pos pos':Pos}{f:FE}(hN:X.N.Nodup)(he:PV X e f)(hi:X.N[i]?=some x:=by rfl)(hx:Loc X.env.scope x:=by first | exact Or.inl rfl | exact Or.inr rfl)(hs:gG e (some (.Name x pos')) pos.line X.env=pure false:=by rfl)(hf:X.fn x=true\/X.env.scope.names.lookup x=some .local:=by first | exact .inl rfl | exact .inr rfl):PSv X (.Assign [.Name x pos'] e pos) (jQ i f):=by
 obtain⟨t,ht,hg⟩:=he;refine⟨_,UN hN hi hx ht hs hf,fun H₀ H O σ ds hd out E o e h=>?_⟩;unfold jQ at e;obtain⟨d,h1,rfl⟩:=mpd e;exact hg H₀ H O σ ds hd d _ o h1 fun v H' s r=>h _ _ _ ((o.mono s).set r)
theorem jT{i:Nat}{x:Str}{e:Expr}{pos pos':Pos}{f:FA}(hN:X.N.Nodup)(he:PVf X e f)(hi:X.N[i]?=some x:=by rfl)(hx:Loc X.env.scope x:=by first | exact Or.inl rfl | exact Or.inr rfl)(hs:gG e (some (.Name x pos')) pos.line X.env=pure false:=by rfl)(hf:X.fn x=true\/X.env.scope.names.lookup x=some .local:=by first | exact .inl rfl | exact .inr rfl):PSv X (.Assign [.Name x pos'] e pos) (setOG i f):=by
 obtain⟨t,ht,hg⟩:=he;refine⟨_,UN hN hi hx ht hs hf,fun H₀ H O σ ds hd out E o e h=>?_⟩;unfold setOG at e;obtain⟨l,h1,rfl⟩:=mpd e;exact hg H₀ H O σ ds hd l _ o h1 fun a xs H' s hn he r=>h _ _ _ (o.setO s hn he r)
theorem qG{e:Expr}{pos:Pos}{f:FE}(he:PVw X e f):PSv X (.Return (some e) pos) (retG f):=by
 obtain⟨t,ht,hg⟩:=he;refine⟨_,IS ht,fun H₀ H O σ ds hd out E o e h=>?_⟩;unfold retG at e;obtain⟨d,h1,e⟩:=bnd e;simp only[bF,flatR] at e
 split at e
 . rename_i hf;cases e;exact hg H₀ H O σ ds hd d _ o h1 fun v H' s r=>h _ _ (o.same.trans s) (Rep.flatten (fun a z=>Old.mono (o.same.trans s) z) hf r.any) True.intro
 . cases e
theorem xO{e:Expr}{pos:Pos}{f:FA}(he:PVf X e f):PSv X (.Return (some e) pos) (retOG f):=by
 obtain⟨t,ht,hg⟩:=he;refine⟨_,IS ht,fun H₀ H O σ ds hd out E o e h=>?_⟩;unfold retOG at e;obtain⟨l,h1,e⟩:=bnd e;simp only[bF,flatF] at e
 split at e
 . rename_i hf;cases e;refine hg H₀ H O σ ds hd l _ o h1 fun a xs H' s hn he r=>h _ _ (o.same.trans s) ⟨a,xs,rfl,o.same.free hn,he,Reps.flatten (fun b z=>?_) hf r⟩ True.intro;rcases z with rfl | z
   . exact⟨_,he,rfl⟩
   . exact Old.mono (o.same.trans s) z
 . cases e
theorem yS(i:Nat){x:Str}{pos pos':Pos}(hN:X.N[i]?=some x:=by rfl)(hv:Vis X.env.scope x:=by first | exact Or.inl rfl | exact Or.inr (Or.inl rfl) | exact Or.inr (Or.inr rfl))(hd:(x==("__debug__" : Str))=false:=by decide)(hcd:(x==("__classdict__" : Str))=false:=by decide):PSv X (.Return (some (.Name x pos')) pos) (retXG i):=by
 refine⟨_,IS (yL hN hv hd hcd),fun H₀ H O σ ds hd out E o e h=>?_⟩;unfold retXG at e;cases hs:ds[i]? with
 |none=>rw[hs] at e;cases e
 | some s =>
   rw[hs] at e;cases s with
   |v d'=>cases e
   |no=>cases e
   |exc _=>cases e
   |exf _ _=>cases e
   |fr _=>cases e
   |ob _ _=>cases e
   | own l =>
     simp only[flatF] at e
     split at e
     . rename_i hf;cases e;obtain ⟨a,xs,h1,h2,h3,h4⟩:=o.readO hs;refine ⟨.ref a,h1,h _ _ o.same ⟨a,xs,rfl,o.fresh i l a hs h1,h3,Reps.flatten (fun b z=>?_) hf h4⟩ True.intro⟩;rcases z with rfl | z
       . exact⟨_,h3,rfl⟩
       . exact Old.mono o.same z
     . cases e
theorem sS{i:Nat}{x:Str}{e ek:Expr}{pos p1 p2:Pos}{fk fe:FE}(he:PV X e fe)(hk:PV X ek fk)(hN:X.N[i]?=some x:=by rfl)(hv:Vis X.env.scope x:=by first | exact Or.inl rfl | exact Or.inr (Or.inl rfl) | exact Or.inr (Or.inr rfl))(hd:(x==("__debug__" : Str))=false:=by decide)(hcd:(x==("__classdict__" : Str))=false:=by decide)(ha:∀v,mZ (.Subscript (.Name x p1) ek p2) X.env v=(do
    let ov <- lK [v] (cM (.Name x p1) X.env)
    let iv <- lK [v,ov] (cM ek X.env)
    DJ p2
    lK [v,ov,iv] (setItem ov iv v)
    release [v,ov,iv] []):=by intro _;rfl)(hs:KN [.Subscript (.Name x p1) ek p2] e pos.line X.env=pure false:=by rfl)(hw:KO [.Subscript (.Name x p1) ek p2] e X.env=pure none:=by rfl)(h1:(fF [.Subscript (.Name x p1) ek p2] X.env).map (·.2)=[mZ (.Subscript (.Name x p1) ek p2) X.env]:=by rfl):PSv X (.Assign [.Subscript (.Name x p1) ek p2] e pos) (putG i fk fe):=by
 obtain⟨te,pe,he⟩:=he;obtain⟨tk,pk,hk⟩:=hk;refine⟨_,UP pe (pg_sub (yL hN hv hd hcd) pk TU ha) hs hw h1,fun H₀ H O σ ds hd out E o e h=>?_⟩;unfold putG at e;cases hsl:ds[i]? with
 |none=>rw[hsl] at e;cases e
 | some s =>
   rw[hsl] at e;cases s with
   |v d'=>cases e
   |no=>cases e
   |exc _=>cases e
   |exf _ _=>cases e
   |fr _=>cases e
   |ob _ _=>cases e
   | own l =>
     simp only at e;obtain⟨d,h1,e⟩:=bnd e;obtain⟨kd,h2,e⟩:=bnd e;cases kd with
     | int n =>
       simp only at e;obtain⟨j,h3,rfl⟩:=mpd e;refine he H₀ H O σ ds hd d _ o h1 fun v H1 s1 r1=>?_;obtain⟨a,xs,q1,q2,q3,q4⟩:=(o.mono s1).readO hsl;refine⟨.ref a,q1,?_⟩;refine hk H₀ H1 O σ ds hd _ _ (o.mono s1) h2 fun kv H2 s2 r2=>?_;cases r2;refine⟨a,xs,n,j,rfl,rfl,s2 _ _ q3,by rw[q4.length];exact h3,?_⟩;exact h _ _ _ (((o.mono s1).mono s2).modify hsl q1 ((q4.mono s2).set (r1.mono s2) j))
     |_=>cases e
theorem jW{i:Nat}{x:Str}{e:Expr}{pos p1 p2 p3:Pos}{fe:FE}(he:PV X e fe)(hN:X.N[i]?=some x:=by rfl)(hv:Vis X.env.scope x:=by first | exact Or.inl rfl | exact Or.inr (Or.inl rfl) | exact Or.inr (Or.inr rfl))(hd:(x==("__debug__" : Str))=false:=by decide)(hcd:(x==("__classdict__" : Str))=false:=by decide)(hfew:((eF p3 (aL [e] X.env)).all (fun x=>!x.1)&&(backToKw p3 (keywordEach [] X.env)).all (fun x=>x.1.isSome)
    && decide ([e].length+([]:List RH).length+(if ([]:List RH).isEmpty then 0 else 1)<30))=true:=by rfl)(hline:(p2.endLine==p3.line)=true:=by rfl)(hs:aL [e] X.env=(false,cM e X.env)::aL [] X.env:=by rfl)(hbase:lL (.Name x p1) "append" X.env (cM (.Name x p1) X.env)=cM (.Name x p1) X.env:=by rfl)(hsw:gG (.Call (.Attribute (.Name x p1) "append" p2) [e] [] p3) none pos.line X.env=pure false:=by rfl) :
  PSv X (.Expr (.Call (.Attribute (.Name x p1) "append" p2) [e] [] p3) pos) (appG i fe):=by
 obtain⟨te,pe,he⟩:=he;refine⟨_,CC (pe_bm uK PySem.F.slot_list_append PySem.F.type_list_append PM (yL hN hv hd hcd) (jF pe yW hs) hbase hfew hline hs rfl) hsw,fun H₀ H O σ ds hd out E o e h=>?_⟩;unfold appG at e;cases hsl:ds[i]? with
 |none=>rw[hsl] at e;cases e
 | some s =>
   rw[hsl] at e;cases s with
   |v d'=>cases e
   |no=>cases e
   |exc _=>cases e
   |exf _ _=>cases e
   |fr _=>cases e
   |ob _ _=>cases e
   | own l =>
     simp only at e;obtain⟨d,h1,e⟩:=bnd e
     split at e
     . rename_i hl;cases e;obtain⟨a,xs,q1,q2,q3,q4⟩:=o.readO hsl;refine⟨.ref a,q1,.inl ⟨rfl,xs,SqL.of q3⟩,?_⟩;refine he H₀ H O σ ds hd d _ o h1 fun v H1 s1 r1=>?_;refine⟨a,xs,v,rfl,rfl,s1 _ _ q3,by rw[q4.length];exact hl,?_⟩;exact h _ _ _ ((o.mono s1).modify hsl q1 ((q4.mono s1).append (.cons r1 .nil)))
     . cases e
theorem args_ob(n:Nat)(ds:List D)(i:Nat)(r:Option Nat)(t:OT):(args n ds)[i]?≠some (.ob r t):=fun e=>by
 unfold args at e
 by_cases hi:i<ds.length
 . rw [bK (by simpa using hi), bT] at e;cases h:ds[i]? with
   |none=>rw[h] at e;cases e
   |some d=>rw[h] at e;cases e
 . rw [cJ (by simpa using hi), hU] at e
   split at e<;>cases e
theorem EY{K:Frag}{H:Hp}{N:List Str}{vs:List V}{ds:List D}(r:Reps K H jR vs ds):Ok K H H jR (L2.start N vs) (args N.length ds) []:=by
 have hl:=r.length
 have no:∀i,IsOwn (args N.length ds) i->False:=fun i ⟨l,e⟩=>by
  unfold args at e
  by_cases hi:i<ds.length
  . rw [bK (by simpa using hi), bT] at e;cases h:ds[i]? with
    |none=>rw[h] at e;cases e
    |some d=>rw[h] at e;cases e
  . rw [cJ (by simpa using hi), hU] at e
    split at e<;>cases e
 refine⟨Same.refl _,fun i l a e _=>(no i ⟨l,e⟩).elim,fun _ z=>z.elim,by simp[L2.start,args,hl],fun i s e=>?_,fun i j a _ hi _ _ _=>no i hi,(fun p hp=>nomatch hp),.no (args_ob _ _)⟩;unfold args at e;unfold L2.start
 by_cases hi:i<ds.length
 . rw[bK (by simpa using hi), bT] at e;rw[bK (by simpa[hl] using hi),bT];obtain⟨d,h,rfl⟩:=mpd e;obtain⟨v,h1,h2⟩:=r.get h;rw[h1];exact wV h2
 . rw [cJ (by simpa using hi), hU] at e
   split at e
   . cases e;exact jS
   . cases e
def Does(g:FS)(n:Nat)(ds:List D)(r:Ret):Prop:=g (args n ds)=some (.rt r)\/(r=.val .non/\∃ds',g (args n ds)=some (.nx ds'))
theorem jL{P:aY}{w:bS}{K:Frag}{mg:Str->Option Value}{base:Heap}{x qual:Str}{st:Stmt}{f:aB}{fd:bQ}{N ps:List Str}{k:Nat}{F:List D->Option Ret}(Fn:Fun K x qual st f fd)(S:FnScope N ps (zK st)){g:FS}(hbody:∀(cdv:Value) (A:bR) (outer:List Env) (s:aC) (H:Hp) (E:XK),Room k (A.deeper (iX qual (zK st) s.heap.objs.size f cdv))->PSsv (cxOf CX0 P w K mg base N qual (zK st) f cdv A outer s H E).nox (jH st) g)(hg:∀ds r,ds.length=ps.length->F ds=some r->Does g N.length ds r):FnOk P w K mg base CX0 (k+1) f fd ps (spF K ps.length F):=by
 refine Fn.ok S (fun vs H Q E h=>h.1) (fun cdv A outer s H vs Q E hr h=>?_);obtain⟨hl,ds,r,rv,e,q⟩:=h;obtain⟨t,ht,hf⟩:=hbody cdv A outer s H E hr;refine⟨t,ht,?_⟩;have o:=EY (N:=N) rv;rcases hg ds r (by rw[<- rv.length];exact hl) e with e' | ⟨rfl,ds',e'⟩
 . exact hf H H jR _ _ [] _ _ o e' (fun v H' s r _=>q v H' s r)
 . exact hf H H jR _ _ [] _ _ o e' (fun σ H' O o'=>q .non H' o'.same .non)
end FL
namespace L2
section
variable{tg:Expr}
end
end L2
namespace FL
def Wlk(K:Frag)(J:It)(p:V×D)(items:List D):Prop:=∀H O,(∀a,O a->∃u:MutHO,H a=some u.1)->Rep K H O p.1 p.2 →
 (∀i d,items[i]?=some d->J.go i H/\∀x H',J.yld i H x H'->Same H H'/\Rep K H' O x d)/\J.stop items.length H
variable(X) in
def PIv(tg iter:Expr)(fi:FA):Prop:=∃wi,PI X tg iter wi/\∀H₀ H O σ ds hd items R,Ok X.K H₀ H O σ ds hd->fi ds=some items →
 (∀J p H',Same H H'->Rep X.K H' O p.1 p.2->Wlk X.K J p items->R J H')->wi σ H R
theorem SV{K:Frag}{a:aB}{l:List D}: Wlk K (Itl K a) (.ref a,.lst l) l:=by
 intro H O _ r;obtain⟨b,xs,e,hs,rs⟩:=WRep.seqL (.inl r);cases e;refine⟨fun i d hd=>?_,⟨xs,hs,by rw[rs.length];exact aO _⟩⟩;obtain⟨v,h1,h2⟩:=rs.get hd;refine⟨⟨xs,v,hs,h1⟩,fun x H' y=>?_⟩;obtain⟨rfl,y⟩:=y;have:=y xs hs;rw[h1] at this;cases this;exact⟨Same.refl _,h2⟩
theorem YX{K:Frag}{a:aB}{l:List D}: Wlk K (Itt K a) (.ref a,.tup l) l:=by
 intro H O _ r;obtain⟨b,xs,e,hs,rs⟩:=WRep.seqT (.inl r);cases e;refine⟨fun i d hd=>?_,⟨xs,hs,by rw[rs.length];exact aO _⟩⟩;obtain⟨v,h1,h2⟩:=rs.get hd;refine⟨⟨xs,v,hs,h1⟩,fun x H' y=>?_⟩;obtain⟨rfl,y⟩:=y;have:=y xs hs;rw[h1] at this;cases this;exact⟨Same.refl _,h2⟩
theorem OC{K:Frag}{lo:Int}{n:Nat}: Wlk K (Itr lo n) (.non,.non) (iC lo n):=by
 intro H O _ r;have hl:(iC lo n).length=n:=by simp[iC]
 refine⟨fun i d hd=>?_,show n<=_ by rw[hl];exact aO _⟩
 have hi:i<n:=by
  have:=(aV.mp hd).1
  rwa [hl] at this
 refine⟨hi,fun x H' y=>?_⟩;obtain⟨rfl,rfl⟩:=y
 have:d=D.int (lo+(i:Int)):=by
  simp only[iC,bT,pC hi,cX] at hd;exact(Option.some.inj hd).symm
 subst this;exact⟨Same.refl _,.int _⟩
theorem wB{tg e:Expr}{p pos:Pos}{f:FE}(hm:X.mg "range" = none)(h:PV X e f)(hg:Gl X "range":=by rfl)(hs:aL [e] X.env=[(false,cM e X.env)]:=by rfl):PIv X tg (.Call (.Name "range" p) [e] [] pos) (rng1 f):=by
 obtain⟨t,ht,hf⟩:=h;refine⟨_,OW hg hm (jF ht yW hs) hs,fun H₀ H O σ ds hd items R o e q=>?_⟩;unfold rng1 at e;obtain⟨d,h1,e⟩:=bnd e;cases d with
 | int j =>
   simp only at e
   split at e
   . rename_i hj;cases e;refine hf H₀ H O σ ds hd _ _ o h1 fun v H' s r=>?_;cases r;exact⟨j,rfl,hj.1,hj.2,q _ (.non,.non) H' s .non OC⟩
   . cases e
 |_=>cases e
variable(X) in
def PGv(tg:Expr)(ga:D->List Sl->Option (List Sl)):Prop:=∃g,PG X tg g/\∀H₀ H O σ ds hd v d ds' Q,Ok X.K H₀ H O σ ds hd->Rep X.K H O v d->ga d ds=some ds'->(∀σ',Ok X.K H₀ H O σ' ds' hd->Q σ' H)->g v σ H Q
variable(X) in
def PGsv(tgs:List Expr)(ga:List D->List Sl->Option (List Sl)):Prop:=∃g,PGs X tgs g/\∀H₀ H O σ ds hd vs l ds' Q,Ok X.K H₀ H O σ ds hd->Reps X.K H O vs l->ga l ds=some ds'->(∀σ',Ok X.K H₀ H O σ' ds' hd->Q σ' H)->g vs σ H Q
theorem zS{i:Nat}{x:Str}{pos:Pos}(hN:X.N.Nodup)(hi:X.N[i]?=some x:=by rfl)(hx:Loc X.env.scope x:=by first | exact Or.inl rfl | exact Or.inr rfl)(hf:X.fn x=true\/X.env.scope.names.lookup x=some .local:=by first | exact .inl rfl | exact .inr rfl):PGv X (.Name x pos) (zQ i):=
 ⟨_,pg_name hN hi hx hf,fun H₀ H O σ ds hd v d ds' Q o r e q=>by cases e;exact q _ (o.set r)⟩
theorem yG:PGsv X [] tgNil:=⟨_,pgs_nil,fun H₀ H O σ ds hd vs l ds' Q o r e q=>by
 cases r with
 |nil=>cases e;exact⟨rfl,q _ o⟩
 |cons _ _=>cases e⟩
theorem zX{e:Expr}{es:List Expr}{g:D->List Sl->Option (List Sl)}{h:List D->List Sl->Option (List Sl)}(h1:PGv X e g)(h2:PGsv X es h)(hs:(fF (e::es) X.env).map (·.2)=mZ e X.env::(fF es X.env).map (·.2):=by rfl):PGsv X (e::es) (zM g h):=by
 obtain⟨t,ht,hf⟩:=h1;obtain⟨u,hu,hg⟩:=h2;refine⟨_,UT ht hu hs,fun H₀ H O σ ds hd vs l ds' Q o r e q=>?_⟩;cases r with
 |nil=>cases e
 | cons r1 rr =>
   rename_i v d vr dr;simp only[zM] at e;obtain⟨ds1,h1,e⟩:=bnd e;exact⟨v,vr,rfl,hf H₀ H O σ ds hd v d ds1 _ o r1 h1 fun σ' o'=>hg H₀ H O σ' ds1 hd vr dr ds' Q o' rr e q⟩
theorem yY{es:List Expr}{k:Nat}{pos:Pos}{h:List D->List Sl->Option (List Sl)}{n:Nat}(hc:X.calm=true)(hh:PGsv X es h)(hn:(fF es X.env).length=n:=by rfl)(hst:(fF es X.env).findIdx? (·.1)=none:=by rfl):PGv X (.Tuple es k pos) (tupG n h):=by
 obtain⟨t,ht,hf⟩:=hh;refine⟨_,pg_tup hc ht hn hst,fun H₀ H O σ ds hd v d ds' Q o r e q=>?_⟩;cases d with
 | tup l =>
   simp only[tupG] at e
   split at e
   . rename_i hl;obtain⟨a,xs,rfl,hs,rs⟩:=WRep.seqT (.inl r);exact⟨a,xs,rfl,hs,by rw[rs.length];exact hl,hf H₀ H O σ ds hd xs l ds' Q o rs e q⟩
   . cases e
 |_=>cases e
theorem vC{K:Frag}{H:Hp}{hd:Hold}{q:HI}{v:V}{r:Ret}(h:RetB K H (q::hd) v r):RetB K H hd v r:=by
 cases r with
 |any d=>exact fun B hB=>h B (aI _ hB)
 |_=>exact True.intro
theorem yI{tg iter:Expr}{body:List Stmt}{pos:Pos}{fi:FA}{ga:D->List Sl->Option (List Sl)}{g:FS}(hp:nW (aM X.prog X.w) X.A X.env X.xe)(hc:X.calm=true)(hi:PIv X tg iter fi)(hg:PGv X tg ga)(hb:PSsv X body g)(hs:∀x,dZ iter X.env x=pure x:=by intro _;rfl):PSv X (.For tg iter body [] pos) (forG fi ga g):=by
 obtain⟨wi,pi,hi⟩:=hi;obtain⟨tg',pg,hg⟩:=hg;obtain⟨tb,pb,hb⟩:=hb;refine⟨_,IT hp hc pi pg pb hs,fun H₀ H O σ ds hd out E o e h=>?_⟩;unfold forG at e;obtain⟨items,h1,e⟩:=bnd e;refine hi H₀ H O σ ds hd items _ o h1 fun J p H' s r wk=>?_;refine⟨fun i m σ' H'=>i<=items.length/\m=items.length-i/\∃O' ds',Ok X.K H₀ H' O' σ' ds' (HI.rep p.1 p.2::hd)/\qW ga g (items.drop i) ds'=some out,⟨items.length,bW _,rfl,O,ds,(o.mono s).holdMore (p:=HI.rep p.1 p.2) r,by simpa using e⟩,?_⟩;rintro i m σ1 H1 ⟨hi1,rfl,O1,ds1,o1,e1⟩;obtain⟨go,stop⟩:=wk H1 O1 o1.dom (o1.hold (HI.rep p.1 p.2) aF)
 by_cases hlt:i<items.length
 . right;have hd0:items[i]? = some items[i]:=aK hlt;obtain ⟨hgo,hy⟩:=go i _ hd0;rw [cE hlt,qW] at e1;refine ⟨hgo,fun σ' H'=>i+1<=items.length/\∃ O' ds',Ok X.K H₀ H' O' σ' ds' (HI.rep p.1 p.2::hd)/\qW ga g (items.drop (i+1)) ds'=some out,fun σ' H' ⟨q1,q2⟩=>⟨items.length - (i+1),by omega,q1,rfl,q2⟩,fun x H2 y=>?_⟩;obtain ⟨s2,r2⟩:=hy x H2 y;obtain ⟨ds2,h2,e1⟩:=bnd e1;obtain ⟨o3,h3,e1⟩:=bnd e1;refine hg H₀ H2 O1 σ1 ds1 (HI.rep p.1 p.2::hd) x _ ds2 _ (o1.mono s2) r2 h2 fun σ' o'=>?_;refine hb H₀ H2 O1 σ' ds2 (HI.rep p.1 p.2::hd) o3 _ o' h3 ?_;cases o3 with
   |nx ds3=>exact fun σ3 H3 O3 ok3=>⟨hlt,O3,ds3,ok3,e1⟩
   |ct ds3=>exact fun σ3 H3 O3 ok3=>⟨hlt,O3,ds3,ok3,e1⟩
   |bk ds3=>cases e1;exact fun σ3 H3 O3 ok3=>h σ3 H3 O3 ok3.holdLess
   |rt rr=>cases e1;exact fun v H s r b=>h v H s r (vC b)
 . left;have ei:i=items.length:=by omega
   subst ei;rw[eO,qW] at e1;cases e1;exact⟨stop,h σ1 H1 O1 o1.holdLess⟩
variable(X) in
def PFv(ifs:List Expr)(c:FT):Prop:=∃t,PF X ifs t/\∀H₀ H O σ ds hd b Q,Ok X.K H₀ H O σ ds hd->c ds=some b->(∀H',Same H H'->Q b H')->t σ H Q
theorem CF:PFv X [] (fun _=>some true):=⟨_,pf_nil,fun _ H _ _ _ _ _ _ _ e q=>by cases e;exact q H (Same.refl _)⟩
theorem Ok.inner{K:Frag}{H₀ H:Hp}{O:aB->Prop}{σ : L2.St}{ds:List Sl}{hd:Hold}(o:Ok K H₀ H O σ ds hd)(mp:List (Option Nat)):Ok K H₀ H O (gW mp σ) (jV mp ds) hd:=by
 have no:∀{i:Nat} {l:List D},(jV mp ds)[i]?=some (.own l)->False:=fun {i l} e=>by
  unfold jV at e;rw[bT] at e;cases hm:mp[i]? with
  |none=>rw[hm] at e;cases e
  | some m =>
    rw[hm] at e;simp only[cX,Option.some.injEq] at e;cases m with
    |none=>cases e
    | some j =>
      simp only at e
      split at e<;>cases e
 refine⟨o.same,fun i l a e _=>(no e).elim,o.dom,by simp[gW,jV],fun i s e=>?_,fun i j a hij hi hj e1 e2=>?_,o.hold,.no fun i r t e=>by
  unfold jV at e;rw[bT] at e;cases hm:mp[i]? with
  |none=>rw[hm] at e;cases e
  | some m =>
    rw[hm] at e;simp only[cX,Option.some.injEq] at e;cases m with
    |none=>cases e
    | some j =>
      simp only at e
      split at e<;>cases e⟩
 . unfold jV at e;unfold gW;rw [bT] at e ⊢;cases hm:mp[i]? with
   |none=>rw[hm] at e;cases e
   | some m =>
     rw[hm] at e;simp only[cX,Option.some.injEq] at e;cases m with
     | none =>
       simp only at e;subst e;exact jS
     | some j =>
       simp only at e;cases hj:ds[j]? with
       |none=>rw[hj] at e;subst e;exact jS
       | some s' =>
         rw[hj] at e;cases s' with
         |no=>subst e;exact jS
         |exc _=>subst e;exact jS
         |exf _ _=>subst e;exact jS
         |fr _=>subst e;exact jS
         |ob _ _=>subst e;exact jS
         |own l=>subst e;exact jS
         | v d =>
           simp only at e;subst e;obtain⟨v,h1,h2⟩:=o.read hj;simp only[cX,bF,h1,Option.join_some];exact wV h2
 . obtain ⟨l, e⟩ := hi;unfold jV at e;rw [bT] at e;cases hm:mp[i]? with
   |none=>rw[hm] at e;cases e
   | some m =>
     rw[hm] at e;simp only[cX,Option.some.injEq] at e;cases m with
     |none=>cases e
     | some j =>
       simp only at e;cases hj:ds[j]? with
       |none=>rw[hj] at e;cases e
       |some s'=>rw[hj] at e;cases s'<;>cases e
section
variable{scope:Scope}{NY:List Str}{mp:List (Option Nat)}{tg iter elt:Expr}{ifs:List Expr}{pos:Pos}{fi:FA}{ga:D->List Sl->Option (List Sl)}{tt:FT}{fe:FE}
theorem XM{wi:TI}{g:CI->TG}{t1:CI->TT}{t2:CI->TE}(hi:∀H₀ H O σ ds hd items R,Ok X.K H₀ H O σ ds hd->fi ds=some items->(∀J p H',Same H H'->Rep X.K H' O p.1 p.2->Wlk X.K J p items->R J H')->wi σ H R)(hg:∀c H₀ H O σ ds hd v d ds' Q,Ok X.K H₀ H O σ ds hd->Rep X.K H O v d->ga d ds=some ds'->(∀σ',Ok X.K H₀ H O σ' ds' hd->Q σ' H)->g c v σ H Q)(ht:∀c H₀ H O σ ds hd b Q,Ok X.K H₀ H O σ ds hd->tt ds=some b->(∀H',Same H H'->Q b H')->t1 c σ H Q)(he:∀c H₀ H O σ ds hd d Q,Ok X.K H₀ H O σ ds hd->fe ds=some d->(∀v H',Same H H'->Rep X.K H' O v d->Q v H')->t2 c σ H Q) :
  ∀H₀ H O σ ds hd l Q,Ok X.K H₀ H O σ ds hd->compG fi mp ga tt fe ds=some l →
   (∀a xs H',Same H H'->H a=none->H' a=some (.lst xs)->Reps X.K H' (ins1 a O) xs l->Q (.ref a) H')->tComp wi mp g t1 t2 σ H Q:=by
 intro H₀ H O σ ds hd l Q o e q;unfold compG at e;obtain⟨items,h1,e⟩:=bnd e
 split at e
 . rename_i hsz;refine hi H₀ H O σ ds hd items _ o h1 fun J p H1 s1 r1 wk=>fun c=>?_;have oI:Ok X.K H₀ H1 O (gW mp σ) (jV mp ds) (HI.rep p.1 p.2::hd):=((o.mono s1).holdMore (p:=HI.rep p.1 p.2) r1).inner mp
   refine⟨fun i m ys H2=>i<=items.length/\m=items.length-i/\Same H1 H2/\ys.length<=i/\∃l' rest,Reps X.K H2 O ys l'/\compL ga tt fe (jV mp ds) (items.drop i)=some rest/\l=l'++rest,
    ⟨items.length,bW _,rfl,Same.refl _,aO _,[],l,.nil,by simpa using e,rfl⟩,?_⟩
   rintro i m ys H2 ⟨hi1,rfl,s2,hy,l',rest,ry,er,el⟩;have o2:=oI.mono s2;obtain⟨go,stop⟩:=wk H2 O o2.dom (o2.hold (HI.rep p.1 p.2) aF)
   by_cases hlt:i<items.length
   . right;have hd0:items[i]? = some items[i]:=aK hlt;obtain ⟨hgo,hyl⟩:=go i _ hd0;refine ⟨hgo,by omega,fun x H3 y=>?_⟩;obtain ⟨s3,r3⟩:=hyl x H3 y;rw [cE hlt,compL] at er;obtain ⟨ds1,h2,er⟩:=bnd er;refine hg c H₀ H3 O _ _ (HI.rep p.1 p.2::hd) x _ ds1 _ (o2.mono s3) r3 h2 fun σ' o3=>?_;obtain ⟨b,h3,er⟩:=bnd er;refine ht c H₀ H3 O σ' ds1 (HI.rep p.1 p.2::hd) b _ o3 h3 fun H4 s4=>?_;cases b with
     | false =>
       refine iteF ⟨items.length-(i+1),by omega,hlt,rfl,(s2.trans s3).trans s4,SD hy,l',rest,(ry.mono s3).mono s4,by simpa using er,el⟩
     | true =>
       refine iteT ?_;simp only[if_true] at er;obtain⟨yd,h4,er⟩:=bnd er;cases h5:compL ga tt fe (jV mp ds) (items.drop (i+1)) with
       |none=>rw[h5] at er;cases er
       | some rest' =>
         rw[h5] at er;cases er;refine he c H₀ H4 O σ' ds1 (HI.rep p.1 p.2::hd) yd _ (o3.mono s4) h4 fun v H5 s5 r5=>?_;refine⟨items.length-(i+1),by omega,hlt,rfl,((s2.trans s3).trans s4).trans s5,by simp;omega,l'++[yd],rest',(((ry.mono s3).mono s4).mono s5).append (.cons r5 .nil),h5,?_⟩;rw[el];simp
   . left;have ei:i=items.length:=by omega
     subst ei;rw[eO,compL] at er;cases er;rw[dG] at el;subst el;refine⟨stop,by omega,fun a ha=>?_⟩;refine q a ys _ ((s1.trans s2).trans (qB ha _)) ((s1.trans s2).free ha) bY ?_;exact(ry.more ha).mono (qB ha _)
 . cases e
theorem EK(S:CompScope X scope NY mp)(hc:X.calm=true)(hi:PIv X tg iter fi)(hg:∀c,PGv (jA X scope NY c) tg ga)(ht:∀c,PFv (jA X scope NY c) ifs tt)(he:∀c,PV (jA X scope NY c) elt fe)(hs:∀x,dZ iter X.env x=pure x:=by intro _;rfl):PVf X (.ListComp elt [⟨tg,iter,ifs,0⟩] scope pos) (compG fi mp ga tt fe):=by
 obtain⟨wi,pi,hi⟩:=hi;refine⟨_,pe_comp S hc pi (fun c=>(Classical.choose_spec (hg c)).1) (fun c=>(Classical.choose_spec (ht c)).1) (fun c=>(Classical.choose_spec (he c)).1) hs,?_⟩;exact XM hi (fun c=>(Classical.choose_spec (hg c)).2) (fun c=>(Classical.choose_spec (ht c)).2) (fun c=>(Classical.choose_spec (he c)).2)
end
end FL
namespace L2
inductive TyV(K:aR)(H:Hp):V->Value->Prop where
 |of {x:V} {t:Value} (h:TyOf K H x t):TyV K H x t
 |lstK {a:aB} {o:Obj} (h:K.lookup a=some o) (c:o.cls=.type "list"):TyV K H (.ref a) (.type "list")
 |tupK {a:aB} {o:Obj} (h:K.lookup a=some o) (c:o.cls=.type "tuple"):TyV K H (.ref a) (.type "tuple")
 |tupF {a:aB} {o:Obj} {xs:List V} (h:H a=some (.frz o (.tup xs))):TyV K H (.ref a) (.type "tuple")
noncomputable def clsV:V->Value->Prop
 | .ty n,u=>u=.type n
 | .ref a,u=>u=.ref a
 |_,_=>False
theorem XS:CallR X (.builtin "isinstance") (fun xs H Q=>∃x c cv t b,xs=[x,c]/\clsV c cv/\TyV X.K H x t/\cO X.K t cv=some b/\Q (.bl b) H):=by
 intro aD s σ H xs us Q I r h;obtain⟨x,c,cv,t,b,rfl,hc,ty,e,q⟩:=h;obtain⟨u,u2,rfl,ru,ru2⟩:=vals2 r
 have e2:u2=cv:=by
  cases c with
  |ty n=>cases(show cv=.type n from hc);cases(show u2=.type n from ru2);rfl
  |ref a=>cases(show cv=.ref a from hc);cases(show u2=.ref a from ru2);rfl
  |_=>exact(show False from hc).elim
 subst e2;have fin:∀tk,EP X aD σ Q (.bool b) { s with toks:=tk }:=fun tk=>⟨.bl b,H,I.tok tk,rfl,q⟩
 cases ty with
 |of h=>exact QB I ru h e fin
 | @lstK a o h c =>
   cases(show u=Value.ref a from ru);exact cK pM I.kIn ⟨o,I.kIn _ _ h,c⟩ e (fun z=>nomatch z) fin
 | @tupK a o h c =>
   cases(show u=Value.ref a from ru);exact cK oO I.kIn ⟨o,I.kIn _ _ h,c⟩ e (fun z=>nomatch z) fin
 | @tupF a o xs ea =>
   cases(show u=Value.ref a from ru);obtain⟨e0,_,_,_,p⟩:=(show ObjOk X.prog X.w H s.heap a (.frz o (.tup xs)) from I.hok a _ ea)
   obtain⟨o',h1,h2,_⟩:=p;exact cK oO I.kIn ⟨o',h1,h2⟩ e (fun z=>nomatch z) fin
theorem GU:∀{bs:List Bool} {us:List Value},Vals (bs.map V.bl) us->LSm.BoolsAre us bs
 |[],_,.nil=>.nil
 | b :: r, _, .cons h t => by
   cases(show _=Value.bool b from h);exact .cons b (GU t)
theorem QY(hc:X.calm=true):CallR X (.builtin "all") (fun xs H Q=>∃(p:aB) (bs:List Bool),xs=[.ref p]/\SqL X.K H p (bs.map V.bl)/\Q (.bl (bs.all id)) H):=by
 intro aD s σ H xs us Q I r h;obtain⟨p,bs,rfl,hq,q⟩:=h;obtain⟨u,rfl,ru⟩:=vals1 r;cases ru;obtain⟨its,rv,pl,hz⟩:=I.list hq;have hlt:p<s.heap.objs.size:=by obtain⟨_,e,_⟩:=pl.isList;exact aS e
 have hb:=GU rv;refine call_all_walk (uB pl.isList ?_)
 refine⟨s.heap.objs.size,[s.heap.objs.size,p],[s.heap.objs.size],its.toArray.size,_,_,fun i=>(bs[i]?).getD true,rfl,Walks.list (A:=X.A.in1) (I.ok.hd hc) _ p (bE hlt) its.toArray,
  ⟨⟨_,aX _ rfl,rfl,rfl⟩,pl.isList.push _⟩,fun i v s' Q' E' hP hQ=>?_,fun h' tk hk=>?_⟩
 . obtain⟨b, e, rfl⟩ := hb.get i v (by simpa using hP);simp only[e,mG] at hQ;exact fC hQ
 . have e:((List.range its.toArray.size).all fun i=>(bs[i]?).getD true)=bs.all id:=by
    rw[bB,hb.length];exact LSm.range_all bs
   rw[e];exact⟨.bl _,H,I.kept (LSm.kept_iter hk),rfl,q⟩
end L2
namespace FL
noncomputable def kitO(t T:String):Option Bool:=if ((Value.type t)==(Value.type T))=true then some true else if NS T=true then (fastBuiltinMro t).map (·.contains (.type T)) else none
theorem kit_all:∀t∈kitN,∀T∈kitT,kitO t T=some (t==T||(t=="bool"&&T=="int")):=by decide +kernel
theorem kit_of{K:Frag}{t T:String}{b:Bool}(h:kitF t T=some b):cO K (.type t) (.type T)=some b:=by
 unfold kitF at h
 split at h
 . rename_i hm;cases h;exact kit_all t hm.1 T hm.2
 . cases h
theorem ty_of{K:Frag}{H:Hp}{O:aB->Prop}{v:V}{d:D}{t:String}(r:WRep K H O v d)(e:tyD d=some t):TyV K H v (.type t):=by
 rcases r with r | ⟨a,xs,l,rfl,rfl,ho,h,rs⟩
 . cases r with
   |non=>cases e;exact .of .non
   |bl b=>cases e;exact .of (.bl b)
   |int i=>cases e;exact .of (.int i)
   |str x=>cases e;exact .of (.str x)
   | tup n h r =>
     cases e;rcases h with h | ⟨o,h⟩
     . exact .of (.tup h)
     . exact .tupF h
   |tupK h r=>cases e;obtain⟨o,its,m,hk,hc,_⟩:=h;exact .tupK hk hc
   | lst n h r =>
     cases e;rcases h with h | ⟨o,h⟩
     . exact .of (.lst h)
     . exact .of (.frz h)
   |lstK h r=>cases e;obtain⟨o,its,m,hk,hc,_⟩:=h;exact .lstK hk hc
   |dct n h e' r=>cases e;exact .of (.dK h)
   |dcf n h e' r=>cases e
   |ins c n h e' r=>cases e
   |clo tx h e' nd c r=>cases e
   |fnK h=>cases e
 . cases e;exact .of (.lst h)
theorem CA{p pT pos:Pos}{e:Expr}{f:FE}{x:Str}{T:String}(hm:X.mg "isinstance" = none)(hT:X.mg x=none)(hv:eA x=some (.type T))(he:PVw X e f)(hg:Gl X "isinstance":=by rfl)(hgT:Gl X x:=by rfl)(h1:aL [e,.Name x pT] X.env=(false,cM e X.env)::aL [.Name x pT] X.env:=by rfl)(h2:aL [.Name x pT] X.env=(false,cM (.Name x pT) X.env)::aL [] X.env:=by rfl)(h3:(eF pos (aL [.Name x pT] X.env)).any (·.1)=false:=by rfl)(hn:x≠"__name__":=by decide)(hd:(x==("__debug__" : Str))=false:=by decide):PV X (.Call (.Name "isinstance" p) [e,.Name x pT] [] pos) (isiG T f):=by
 obtain⟨t,ht,hf⟩:=he;refine⟨_,xU XS hg hm (by decide +kernel) (jF ht (jF (LY (v:=.ty T) hgT hT hv rfl hn hd) yW h2) h1) (by decide) (by decide) h1 h3,fun H₀ H O σ ds hd d Q o e q=>?_⟩;unfold isiG at e;obtain⟨dx,hh,e⟩:=bnd e;simp only[bF,isiD] at e;obtain⟨t,ht,e⟩:=bnd e;obtain⟨b,hk,rfl⟩:=mpd e;refine hf H₀ H O σ ds hd dx _ o hh fun v H' s r=>?_;exact⟨v,.ty T,.type T,.type t,b,rfl,rfl,ty_of r ht,kit_of hk,q _ H' s (.bl b)⟩
theorem NH{K:Frag}{H:Hp}{O:aB->Prop}:∀{xs:List V} {l:List D} {bs:List Bool},Reps K H O xs l->blsD l=some bs->xs=bs.map V.bl
 |_,_,_,.nil,e=>by cases e;rfl
 | _, _, bs, .cons (d := d) h t, e => by
   cases d with
   | bl b =>
     rename_i ds;simp only[blsD] at e;obtain⟨r,hr,rfl⟩:=mpd e;cases h;rw[NH t hr];rfl
   |_=>cases e
theorem cs_all:CallS X (fun xs H Q=>∃(p:aB) (bs:List Bool),xs=[.ref p]/\SqL X.K H p (bs.map V.bl)/\Q (.bl (bs.all id)) H) allD:=by
 intro H O vs l d Q ho r e q;unfold allD at e
 split at e
 . obtain ⟨bs, hb, rfl⟩ := mpd e;cases r with
   | cons r rn =>
     cases rn;obtain⟨a,xs,rfl,hs,rs⟩:=r.seqL;refine⟨a,bs,rfl,?_,q _ H (Same.refl _) (.bl _)⟩;rw[<- NH rs hb];exact hs
 . cases e
theorem pv_all{p pos:Pos}{e:Expr}{g:FA}(hc:X.calm=true)(hm:X.mg "all" = none)(ha:PAv X [e] g)(hg:Gl X "all":=by rfl)(he:aL [e] X.env=[(false,cM e X.env)]:=by rfl) :
  PV X (.Call (.Name "all" p) [e] [] pos) (callB allD g):=wN (QY hc) cs_all hm (by decide +kernel) ha hg (by decide) (by decide) he rfl
theorem xN{a:Expr}{pos:Pos}{f:FE}(ha:PV X a f):PV X (.UnaryOp .USub a pos) (un1 negD f):=by
 obtain⟨ta,pa,ha⟩:=ha;refine⟨_,pe_un un_neg pa,fun H₀ H O σ ds hd d Q o e q=>?_⟩;unfold un1 at e;obtain⟨dx,h1,e⟩:=bnd e;cases dx with
 | int i =>
   cases e;refine ha H₀ H O σ ds hd _ _ o h1 fun x H1 s1 r1=>?_;cases r1;exact⟨i,rfl,q _ H1 s1 (.int _)⟩
 |_=>cases e
variable(X) in
def PVd(e:Expr)(f:FE):Prop:=∃t,PE X e t/\∀H₀ H O σ ds hd d Q,Ok X.K H₀ H O σ ds hd->f ds=some d->(∀v H',Same H H'->Rep X.K H' (Old H) v d->Q v H')->t σ H Q
noncomputable def XO(sc scope:Scope)(N NY:List Str)(mp:List (Option Nat)):Bool :=
 scope.kind==.function&&scope.names.all (fun y=>y.2 != .cell)&&scope.names.all (fun y=>y.2 != .local||scope.names.lookup y.1==some .local)
 && scope.names.all (fun y=>y.2 != .free||(sc.names.lookup y.1==some .cell||sc.names.lookup y.1==some .free))&&mp.length==NY.length
 && (List.range NY.length).all (fun i=>match NY[i]?,mp[i]? with | some x,some (some j)=>N[j]?==some x&&scope.names.lookup x==some .free | _,_=>true)
theorem wA{scope:Scope}{NY:List Str}{mp:List (Option Nat)}(h:XO X.env.scope scope X.N NY mp=true):CompScope X scope NY mp:=by
 unfold XO at h;simp only[cL,rZ,beq_iff_eq] at h;obtain⟨⟨⟨⟨⟨h1,h2⟩,h3⟩,h4⟩,h5⟩,h6⟩:=h;refine⟨h1,fun y hy=>by simpa using h2 y hy,fun y hy hk=>?_,fun y hy hk=>?_,h5,fun i x j e1 e2=>?_⟩
 . have := h3 y hy;simpa[hk] using this
 . have := h4 y hy;simp only[hk,bne_self_eq_false,Bool.false_or,Bool.or_eq_true,beq_iff_eq] at this;exact this
 . have hi : i ∈ List.range NY.length := oE.mpr (aV.mp e1).1;have:=h6 i hi;rw[e1,e2] at this;simpa using this
theorem qD{g:FS}{n:Nat}{ds:List D}{r:Ret}(e:runG g n ds=some r):Does g n ds r:=by
 unfold runG at e;cases h:g (args n ds) with
 |none=>rw[h] at e;cases e
 | some o =>
   rw[h] at e;cases o with
   |rt r'=>cases e;exact .inl h
   |nx ds'=>cases e;exact .inr ⟨rfl,ds',h⟩
   |bk ds'=>cases e
   |ct ds'=>cases e
end FL
namespace L2
theorem op_mulB:OpR X (lR .Mult) (rI uH fun i j=>.int (i*j)):=opI fun _ _ _ _ _ _ _ hc q=>mul_int q hc
theorem op_powB:OpR X (lR .Pow) (rI FL.CPowB fun i j=>.int (i ^ j.toNat)):=opI fun _ _ _ _ _ _ _ hc q=>pow_int hc.1 hc.2 q
end L2
namespace FL
variable(X) in
def PVn(e:Expr)(f:FE):Prop:=∃t,PE X e t/\∀H₀ H O σ ds hd d Q,Ok X.K H₀ H O σ ds hd->f ds=some d->(∀v H',Same H H'->Rep X.K H' jR v d->Q v H')->t σ H Q
variable(X) in
def PAn(es:List Expr)(f:FA):Prop:=∃t,PA X es t/\∀H₀ H O σ ds hd l Q,Ok X.K H₀ H O σ ds hd->f ds=some l->(∀vs H',Same H H'->Reps X.K H' jR vs l->Q vs H')->t σ H Q
theorem PVw.n{e:Expr}{f:FE}(h:PVw X e f):PVn X e f:=by
 obtain⟨t,ht,hf⟩:=h;exact⟨t,ht,fun H₀ H O σ ds hd d Q o e q=>hf H₀ H O σ ds hd d Q o e fun v H' s r=>q v H' s r.any⟩
theorem PV.n{e:Expr}{f:FE}(h:PV X e f):PVn X e f:=h.w.n
theorem zO:PAn X [] zW:=⟨_,yW,fun _ H _ _ _ _ _ _ _ e q=>by cases e;exact q _ H (Same.refl _) .nil⟩
theorem zF{e:Expr}{es:List Expr}{f:FE}{g:FA}(ha:PVn X e f)(hr:PAn X es g)(hs:aL (e::es) X.env=(false,cM e X.env)::aL es X.env:=by rfl):PAn X (e::es) (zB f g):=by
 obtain⟨t,ht,hf⟩:=ha;obtain⟨u,hu,hg⟩:=hr;refine⟨_,jF ht hu hs,fun H₀ H O σ ds hd l Q o e q=>?_⟩;unfold zB at e;obtain⟨x,h,e⟩:=bnd e;obtain⟨r,h2,rfl⟩:=mpd e;refine hf H₀ H O σ ds hd x _ o h fun v H1 s1 r1=>?_;refine hg H₀ H1 O σ ds hd r _ (o.mono s1) h2 fun vs H2 s2 r2=>?_;exact q _ H2 (s1.trans s2) (.cons (r1.mono s2) r2)
theorem ZL{es:List Expr}{pos:Pos}{g:FA}(h:PAn X es g):PVn X (.List es pos) (mkL (zZ g)):=by
 obtain⟨t,ht,hf⟩:=h;refine⟨_,UV ht,fun H₀ H O σ ds hd d Q o e q=>?_⟩;unfold mkL zZ at e;cases h:g ds with
 |none=>rw[h] at e;cases e
 | some l' =>
   rw[h] at e;simp only[bF] at e
   split at e
   . rename_i hl;cases e;refine hf H₀ H O σ ds hd l' _ o h fun vs H1 s1 r1=>⟨by rw [r1.length]; exact hl,fun p hp=>?_⟩
     refine q _ _ (s1.trans (qB hp _)) ?_;exact .lst (fun z=>z.elim) (.inl bY) (r1.mono (qB hp _))
   . cases e
section
variable{k:Nat}{f:aB}{fd:bQ}{ps:List Str}{n:Nat}{F:List D->Option Ret}{x:Str}{p pos:Pos}{e:Expr}{es:List Expr}{g:FA}
theorem UF(Fn:FnOk X.prog X.w X.K X.mg X.base CX0 k f fd ps (spF X.K n F))(hr:Room k X.A)(hm:X.mg x=some (.ref f))(hk:cP X.K (.ref f)=true)(hb:Binds X.K fd ps [])(ha:PAn X (e::es) g)(hg:Gl X x:=by rfl)(hdb:(x==("__debug__" : Str))=false:=by decide)(he:aL (e::es) X.env=(false,cM e X.env)::aL es X.env:=by rfl)(hpl:(eF pos (aL es X.env)).any (·.1)=false:=by rfl) :
  PV X (.Call (.Name x p) (e::es) [] pos) (qI n F g):=by
 obtain⟨t,ht,hf⟩:=ha;refine⟨_,LX (CX:=CX0) (E:=E0) Fn hr hg hm hk hb .nil pass0 ht hdb he hpl,fun H₀ H O σ ds hd d Q o e q=>?_⟩;unfold qI at e;obtain⟨l,h,e⟩:=bnd e
 split at e
 . rename_i hln;obtain⟨r,h2,e⟩:=bnd e;refine hf H₀ H O σ ds hd l _ o h fun vs H1 s1 r1=>?_;have hl:=r1.length;refine⟨by simp only[dG];omega,l,r,by simpa using r1,h2,fun v H' s' ro=>q v H' (s1.trans s') ?_⟩;exact LL ro e fun a ha=>(o.mono s1).old ha
 . cases e
theorem OM(Fn:FnOk X.prog X.w X.K X.mg X.base CX0 k f fd ps (spF X.K n F))(hr:Room k X.A)(hm:X.mg x=some (.ref f))(hk:cP X.K (.ref f)=true)(hb:Binds X.K fd ps [])(ha:PAn X (e::es) g)(hg:Gl X x:=by rfl)(hdb:(x==("__debug__" : Str))=false:=by decide)(he:aL (e::es) X.env=(false,cM e X.env)::aL es X.env:=by rfl)(hpl:(eF pos (aL es X.env)).any (·.1)=false:=by rfl) :
  PVf X (.Call (.Name x p) (e::es) [] pos) (vS n F g):=by
 obtain⟨t,ht,hf⟩:=ha;refine⟨_,LX (CX:=CX0) (E:=E0) Fn hr hg hm hk hb .nil pass0 ht hdb he hpl,fun H₀ H O σ ds hd d Q o e q=>?_⟩;unfold vS at e;obtain⟨l,h,e⟩:=bnd e
 split at e
 . rename_i hln;obtain⟨r,h2,e⟩:=bnd e;refine hf H₀ H O σ ds hd l _ o h fun vs H1 s1 r1=>?_;have hl:=r1.length;refine⟨by simp only[dG];omega,l,r,by simpa using r1,h2,fun v H' s' ro=>?_⟩;obtain⟨a,xs,rfl,h3,h4,h5⟩:=ZI ro e fun a ha=>(o.mono s1).old ha;exact q a xs H' (s1.trans s') (s1.free h3) h4 h5
 . cases e
end
def OpN(X:Cx)(r:R2)(op:D->D->Option D):Prop:=∀H O x y dx dy d Q,Rep X.K H jR x dx->Rep X.K H jR y dy->op dx dy=some d->(∀v H',Same H H'->Rep X.K H' O v d->Q v H')->r x y H Q
theorem LN{r:R2}{op:D->D->Option D}(hs:OpN X r op){fa fb:FE}{ta tb:TE}(ha:∀H₀ H O σ ds hd d Q,Ok X.K H₀ H O σ ds hd->fa ds=some d->(∀v H',Same H H'->Rep X.K H' jR v d->Q v H')->ta σ H Q)(hb:∀H₀ H O σ ds hd d Q,Ok X.K H₀ H O σ ds hd->fb ds=some d->(∀v H',Same H H'->Rep X.K H' jR v d->Q v H')->tb σ H Q) :
  ∀H₀ H O σ ds hd d Q,Ok X.K H₀ H O σ ds hd->zD op fa fb ds=some d->(∀v H',Same H H'->Rep X.K H' O v d->Q v H')->tOp r ta tb σ H Q:=by
 intro H₀ H O σ ds hd d Q o e q;unfold zD at e;obtain⟨dx,h1,e⟩:=bnd e;obtain⟨dy,h2,e⟩:=bnd e;refine ha H₀ H O σ ds hd dx _ o h1 fun x H1 s1 r1=>?_;refine hb H₀ H1 O σ ds hd dy _ (o.mono s1) h2 fun y H2 s2 r2=>?_;exact hs H2 O x y dx dy d Q (r1.mono s2) r2 e fun v H' s r=>q v H' ((s1.trans s2).trans s) r
theorem vT{op:CmpOp}{r:R2}{opD:D->D->Option D}{a b:Expr}{fa fb:FE}{pos:Pos}(ho:OpR X (fQ op) r)(hs:OpN X r opD)(ha:PVn X a fa)(hb:PVn X b fb)(hm:iD op b=false):PV X (.Compare a [op] [b] pos) (zD opD fa fb):=by
 obtain⟨ta,pa,ha⟩:=ha;obtain⟨tb,pb,hb⟩:=hb;exact⟨_,pe_cmpR ho pa pb hm,LN hs ha hb⟩
theorem kC{op:CmpOp}{r:R2}{opD:D->D->Option D}{a b:Expr}{fa fb:FE}{pos:Pos}(ho:OpR X (fQ op) r)(hs:OpN X r opD)(ha:PVn X a fa)(hb:PVn X b fb)(hm:iD op b=false):PTv X (.Compare a [op] [b] pos) (zL (zD opD fa fb)):=by
 obtain⟨ta,pa,ha⟩:=ha;obtain⟨tb,pb,hb⟩:=hb;refine⟨_,LQ ho pa pb hm,fun H₀ H O σ ds hd k Q o e q=>?_⟩;unfold zL at e;obtain⟨d,h,e⟩:=bnd e;refine LN hs ha hb H₀ H O σ ds hd d _ o h fun v H' s r=>?_;cases d with
 |bl c=>cases e;cases r;exact⟨_,rfl,q H' s⟩
 |_=>cases e
mutual
theorem Rep.reads{aD:List (aB×Obj)}{σ : L2.St}{H:Hp}{s:aC}{O:aB->Prop}(I:Inv X aD σ H s):∀{v:V} {d:D},Rep X.K H O v d->∀{u:Value} {n:Nat},RelV v u->shal n d=true->∃as,Reads s.heap u (toPy d) as/\(toPy d).canLay0=true/\(toPy d).depth<=n+1
 |_,_,.non=>fun r _=>by cases r;exact⟨[],.none,rfl,bW _⟩
 |_,_,.bl b=>fun r _=>by cases r;exact⟨[],.bool b,rfl,bW _⟩
 |_,_,.int i=>fun r _=>by obtain⟨t,rfl⟩:=r;exact⟨[],.int i t,rfl,bW _⟩
 |_,_,.str x=>fun r h=>by obtain⟨t,rfl⟩:=r;exact⟨[],.str x t,by simpa[toPy,PyData.canLay0,shal] using h,bW _⟩
 | _, _, .tup m h q => fun r hs => by
   cases r;obtain⟨its,rv,⟨o,ho,hc,k,hd⟩,hz⟩:=I.tuple (.inl h);obtain⟨as,h1,h2,h3⟩:=Reps.reads I q rv (by simpa[shal] using hs);exact⟨as,.tuple ho hc hd (by simpa using h1),by simpa[toPy,PyData.canLay0] using h2,by simpa[toPy,PyData.depth] using h3⟩
 | _, _, .tupK h q => fun r hs => by
   cases r;obtain⟨its,rv,⟨o,ho,hc,k,hd⟩,hz⟩:=I.tuple (.inr h);obtain⟨as,h1,h2,h3⟩:=Reps.reads I q rv (by simpa[shal] using hs);exact⟨as,.tuple ho hc hd (by simpa using h1),by simpa[toPy,PyData.canLay0] using h2,by simpa[toPy,PyData.depth] using h3⟩
 | _, _, .lst m h q => fun r hs => by
   cases r;obtain⟨its,rv,pl,hz⟩:=I.list (.inl h);obtain⟨o,ho,hc,k,hd⟩:=pl.isList;obtain⟨as,h1,h2,h3⟩:=Reps.reads I q rv (by simpa[shal] using hs);exact⟨_,.list ho hc hd (by simpa using h1),by simpa[toPy,PyData.canLay0] using h2,by simpa[toPy,PyData.depth] using h3⟩
 | _, _, .lstK h q => fun r hs => by
   cases r;obtain⟨its,rv,pl,hz⟩:=I.list (.inr h);obtain⟨o,ho,hc,k,hd⟩:=pl.isList;obtain⟨as,h1,h2,h3⟩:=Reps.reads I q rv (by simpa[shal] using hs);exact⟨_,.list ho hc hd (by simpa using h1),by simpa[toPy,PyData.canLay0] using h2,by simpa[toPy,PyData.depth] using h3⟩
 |_,_,.dct _ _ _ _=>fun _ hs=>by simp[shal] at hs
 |_,_,.dcf _ _ _ _=>fun _ hs=>by simp[shal] at hs
 |_,_,.ins _ _ _ _ _=>fun _ hs=>by simp[shal] at hs
 |_,_,.clo _ _ _ _ _ _=>fun _ hs=>by simp[shal] at hs
 |_,_,.fnK _=>fun _ hs=>by simp[shal] at hs
theorem Reps.reads{aD:List (aB×Obj)}{σ : L2.St}{H:Hp}{s:aC}{O:aB->Prop}(I:Inv X aD σ H s):∀{vs:List V} {ds:List D},Reps X.K H O vs ds->∀{us:List Value} {n:Nat},Vals vs us->shals n ds=true->∃as,ReadsAll s.heap us (toPys ds) as/\PyData.canLayAll0 (toPys ds)=true/\PyData.depthAll (toPys ds)<=n
 |_,_,.nil=>fun r _=>by cases r;exact⟨[],.nil,rfl,bW _⟩
 | _, _, .cons h t => fun r hs => by
   rename Nat=>n
   cases n with
   |zero=>simp[shals] at hs
   |succ n =>
    cases r with
    |cons r1 r2 =>
     simp only[shals,cL] at hs;obtain⟨as,h1,h2,h3⟩:=Rep.reads I h r1 hs.1;obtain⟨bs,k1,k2,k3⟩:=Reps.reads I t r2 hs.2;exact⟨_,.cons h1 k1,by simp[toPys,PyData.canLayAll0,h2,k2],by simp only[toPys,PyData.depthAll];omega⟩
end
noncomputable def rEqD(X:Cx)(neg:Bool):R2:=fun x y H Q=>∃dx dy,Rep X.K H jR x dx/\Rep X.K H jR y dy/\shal 40 dx=true/\shal 40 dy=true/\Q (.bl (if neg then !eqvD dx dy else eqvD dx dy)) H
theorem VB(hu:X.A.units+100<cLine):OpR X (fQ .Eq) (rEqD X false):=by
 intro aD s σ H x y v u Q I rx ry h;obtain⟨dx,dy,r1,r2,s1,s2,q⟩:=h;obtain⟨as,a1,a2,a3⟩:=r1.reads I rx s1;obtain⟨bs,b1,b2,b3⟩:=r2.reads I ry s2;exact SeqAt.compareEq_reads a1 b1 a2 b2 (by omega) ⟨.bl _,H,I,rfl,q⟩
theorem UY(hu:X.A.units+100<cLine):OpR X (fQ .NotEq) (rEqD X true):=by
 intro aD s σ H x y v u Q I rx ry h;obtain⟨dx,dy,r1,r2,s1,s2,q⟩:=h;obtain⟨as,a1,a2,a3⟩:=r1.reads I rx s1;obtain⟨bs,b1,b2,b3⟩:=r2.reads I ry s2;exact SeqAt.compareNe_reads a1 b1 a2 b2 (by omega) ⟨.bl _,H,I,rfl,q⟩
theorem VE:OpN X (rEqD X false) eqD:=by
 intro H O x y dx dy d Q rx ry e q;unfold eqD at e
 split at e
 . rename_i hs;cases e;exact⟨dx,dy,rx,ry,hs.1,hs.2,q _ H (Same.refl _) (.bl _)⟩
 . cases e
theorem VD:OpN X (rEqD X true) neD:=by
 intro H O x y dx dy d Q rx ry e q;unfold neD at e
 split at e
 . rename_i hs;cases e;exact⟨dx,dy,rx,ry,hs.1,hs.2,q _ H (Same.refl _) (.bl _)⟩
 . cases e
theorem hu100{k:Nat}{A:bR}(hr:Room k A):A.units+100<cLine:=by have:=hr.un;omega
theorem UD{a b:Expr}{fa fb:FE}{pos:Pos}{k:Nat}(hr:Room k X.A)(ha:PVn X a fa)(hb:PVn X b fb):PV X (.Compare a [.Eq] [b] pos) (zD eqD fa fb):=vT (VB (hu100 hr)) VE ha hb (kP _)
theorem pv_ne{a b:Expr}{fa fb:FE}{pos:Pos}{k:Nat}(hr:Room k X.A)(ha:PVn X a fa)(hb:PVn X b fb):PV X (.Compare a [.NotEq] [b] pos) (zD neD fa fb):=vT (UY (hu100 hr)) VD ha hb (kP _)
theorem wF{a b:Expr}{fa fb:FE}{pos:Pos}{k:Nat}(hr:Room k X.A)(ha:PVn X a fa)(hb:PVn X b fb):PTv X (.Compare a [.Eq] [b] pos) (zL (zD eqD fa fb)):=kC (VB (hu100 hr)) VE ha hb (kP _)
theorem xL{a b:Expr}{fa fb:FE}{pos:Pos}{k:Nat}(hr:Room k X.A)(ha:PVn X a fa)(hb:PVn X b fb):PTv X (.Compare a [.NotEq] [b] pos) (zL (zD neD fa fb)):=kC (UY (hu100 hr)) VD ha hb (kP _)
theorem MB{K:Frag}{H:Hp}{O:aB->Prop}{v:V}{d:D}(r:Rep K H O v d):decide (v=.non)=(match d with | .non=>true | _=>false):=by
 cases r<;>rfl
theorem on_is:OpN X (fun x y H Q=>y=.non/\Q (.bl (decide (x=.non))) H) isD:=by
 intro H O x y dx dy d Q rx ry e q;cases dy<;>first | (cases dx<;>simp[isD] at e;done) | skip
 cases ry;refine⟨rfl,?_⟩;rw[MB rx];cases dx<;>(simp only[isD,Option.some.injEq] at e;subst e;exact q _ H (Same.refl _) (.bl _))
theorem VC:OpN X (fun x y H Q=>y=.non/\Q (.bl (!decide (x=.non))) H) notD:=by
 intro H O x y dx dy d Q rx ry e q;cases dy<;>first | (cases dx<;>simp[notD] at e;done) | skip
 cases ry;refine⟨rfl,?_⟩;rw[MB rx];cases dx<;>(simp only[notD,Option.some.injEq] at e;subst e;exact q _ H (Same.refl _) (.bl _))
theorem pv_is{a b:Expr}{fa fb:FE}{pos:Pos}(ha:PVn X a fa)(hb:PVn X b fb):PV X (.Compare a [.Is] [b] pos) (zD isD fa fb):=vT UZ on_is ha hb (kP _)
theorem EL{a b:Expr}{fa fb:FE}{pos:Pos}(ha:PVn X a fa)(hb:PVn X b fb):PV X (.Compare a [.IsNot] [b] pos) (zD notD fa fb):=vT MA VC ha hb (kP _)
theorem EN{a b:Expr}{fa fb:FE}{pos:Pos}(ha:PVn X a fa)(hb:PVn X b fb):PTv X (.Compare a [.Is] [b] pos) (zL (zD isD fa fb)):=kC UZ on_is ha hb (kP _)
theorem qT{a b:Expr}{fa fb:FE}{pos:Pos}(ha:PVn X a fa)(hb:PVn X b fb):PTv X (.Compare a [.IsNot] [b] pos) (zL (zD notD fa fb)):=kC MA VC ha hb (kP _)
theorem os_mul:OpS X (rI uH fun i j=>.int (i*j)) yX:=by
 intro H O x y dx dy d Q ho rx ry e q;cases dx<;>cases dy<;>first | (simp[yX] at e;done) | skip
 simp only[yX] at e
 split at e
 . rename_i hc;cases e;rw[rx.int',ry.int'];exact⟨_,_,rfl,rfl,hc,q _ H (Same.refl _) (.int _)⟩
 . cases e
theorem os_pow:OpS X (rI CPowB fun i j=>.int (i ^ j.toNat)) powD:=by
 intro H O x y dx dy d Q ho rx ry e q;cases dx<;>cases dy<;>first | (simp[powD] at e;done) | skip
 simp only[powD] at e
 split at e
 . rename_i hc;cases e;rw[rx.int',ry.int'];exact⟨_,_,rfl,rfl,hc,q _ H (Same.refl _) (.int _)⟩
 . cases e
variable(X) in
def POv(e:Option Expr)(f:List Sl->Option (Option Int)):Prop:=∃t,PO X e t/\∀H₀ H O σ ds hd i Q,Ok X.K H₀ H O σ ds hd->f ds=some i->(∀H',Same H H'->Q i H')->t σ H Q
theorem tD:POv X none noP:=⟨_,ZX,fun _ H _ _ _ _ _ _ _ e q=>by cases e;exact q H (Same.refl _)⟩
theorem wW{e:Expr}{f:FE}(h:PVw X e f):POv X (some e) (soP f):=by
 obtain⟨t,ht,hf⟩:=h;refine⟨_,ZW ht,fun H₀ H O σ ds hd i Q o e q=>?_⟩;unfold soP at e;obtain⟨d,h1,e⟩:=bnd e;cases d<;>first | (cases e;done) | skip
 cases e;refine hf H₀ H O σ ds hd _ _ o h1 fun v H' s r=>?_;rw[r.int'];exact⟨_,rfl,q H' s⟩
theorem GG{K:Frag}{H:Hp}{O:aB->Prop}{xs:List V}{l:List D}{a b:Option Int}(rs:Reps K H O xs l):Reps K H O (cutV xs a b) (cutD l a b):=by
 unfold cutV cutD;rw[rs.length];exact(rs.drop _).take _
theorem xS{e:Expr}{lo hi:Option Expr}{f:FE}{gl gh:List Sl->Option (Option Int)}{p2 pos:Pos}(he:PVw X e f)(hl:POv X lo gl)(hh:POv X hi gh):PVf X (.Subscript e (.Slice lo hi none p2) pos) (sliA f gl gh):=by
 obtain⟨te,pe,he⟩:=he;obtain⟨tl,pl,hl⟩:=hl;obtain⟨th,ph,hh⟩:=hh;refine⟨_,EU ZD pe pl ph,fun H₀ H O σ ds hd l Q o e q=>?_⟩;unfold sliA at e;obtain⟨d,h1,e⟩:=bnd e;obtain⟨a,h2,e⟩:=bnd e;obtain⟨b,h3,e⟩:=bnd e;cases d<;>first | (cases e;done) | skip
 cases e;refine he H₀ H O σ ds hd _ _ o h1 fun v H1 s1 r1=>?_;refine hl H₀ H1 O σ ds hd _ _ (o.mono s1) h2 fun H2 s2=>?_;refine hh H₀ H2 O σ ds hd _ _ ((o.mono s1).mono s2) h3 fun H3 s3=>?_;obtain⟨a1,xs,rfl,hq,rs⟩:=((r1.mono s2).mono s3).seqL;refine⟨a1,xs,rfl,hq,fun p hp=>?_⟩;have ss:=(s1.trans s2).trans s3;refine q p _ _ (ss.trans (qB hp _)) (ss.free hp) bY ?_;exact((GG rs).more hp).mono (qB hp _)
theorem wI{e:Expr}{f:FE}{p pos:Pos}(hm:X.mg "list" = none)(he:PVw X e f)(hg:Gl X "list":=by rfl)(hs:aL [e] X.env=[(false,cM e X.env)]:=by rfl):PVf X (.Call (.Name "list" p) [e] [] pos) (lisA f):=by
 obtain⟨te,pe,he⟩:=he;refine⟨_,AT CV hg hm (by decide +kernel) (jF pe yW hs) (by decide) (by decide) hs rfl,fun H₀ H O σ ds hd l Q o e q=>?_⟩;unfold lisA at e;obtain⟨d,h1,e⟩:=bnd e;refine he H₀ H O σ ds hd _ _ o h1 fun v H1 s1 r1=>?_;cases d<;>first | (cases e;done) | skip
 . cases e;obtain⟨a1,xs,rfl,hq,rs⟩:=r1.seqT;refine⟨a1,xs,rfl,.inr hq,fun p hp=>?_⟩;exact q p _ _ (s1.trans (qB hp _)) (s1.free hp) bY ((rs.more hp).mono (qB hp _))
 . cases e;obtain⟨a1,xs,rfl,hq,rs⟩:=r1.seqL;refine⟨a1,xs,rfl,.inl hq,fun p hp=>?_⟩;exact q p _ _ (s1.trans (qB hp _)) (s1.free hp) bY ((rs.more hp).mono (qB hp _))
theorem cs_max:CallS X (fun xs H Q=>∃i j,xs=[.int i,.int j]/\Q (.int (if j>i then j else i)) H) mxD:=by
 intro H O vs l d Q ho r e q;unfold mxD at e
 split at e
 . cases e;cases r with
   | cons r1 rn =>
     cases rn with
     | cons r2 rm =>
       cases rm;exact⟨_,_,by rw[r1.int',r2.int'],q _ H (Same.refl _) (.int _)⟩
 . cases e
theorem cs_min:CallS X (fun xs H Q=>∃i j,xs=[.int i,.int j]/\Q (.int (if j<i then j else i)) H) mnD:=by
 intro H O vs l d Q ho r e q;unfold mnD at e
 split at e
 . cases e;cases r with
   | cons r1 rn =>
     cases rn with
     | cons r2 rm =>
       cases rm;exact⟨_,_,by rw[r1.int',r2.int'],q _ H (Same.refl _) (.int _)⟩
 . cases e
theorem ZN{p pos:Pos}{a b:Expr}{g:FA}(hc:X.calm=true)(hm:X.mg "max" = none)(ha:PAv X [a,b] g)(hg:Gl X "max":=by rfl)(he:aL [a,b] X.env=(false,cM a X.env)::aL [b] X.env:=by rfl)(hpl:(eF pos (aL [b] X.env)).any (·.1)=false:=by rfl) :
  PV X (.Call (.Name "max" p) [a,b] [] pos) (callB mxD g):=wN (QU hc) cs_max hm (by decide +kernel) ha hg (by decide) (by decide) he hpl
theorem ZM{p pos:Pos}{a b:Expr}{g:FA}(hc:X.calm=true)(hm:X.mg "min" = none)(ha:PAv X [a,b] g)(hg:Gl X "min":=by rfl)(he:aL [a,b] X.env=(false,cM a X.env)::aL [b] X.env:=by rfl)(hpl:(eF pos (aL [b] X.env)).any (·.1)=false:=by rfl) :
  PV X (.Call (.Name "min" p) [a,b] [] pos) (callB mnD g):=wN (QT hc) cs_min hm (by decide +kernel) ha hg (by decide) (by decide) he hpl
theorem rT{α β : Type}{xs:List α}{ys:List β}(h:xs.length=ys.length):xs.isEmpty=ys.isEmpty:=by
 cases xs<;>cases ys<;>simp_all
theorem PVn.t{e:Expr}{f:FE}(h:PVn X e f)(he:∀whole,uW e X.env whole=(do let v <- whole;DJ e.pos;lK [v] (truthy v)):=by intro _;rfl):PTv X e (testT f):=by
 obtain⟨t,ht,hf⟩:=h;refine⟨_,UH ht he,fun H₀ H O σ ds hd k Q o e q=>?_⟩;unfold testT at e;obtain⟨d,h,e⟩:=bnd e;refine hf H₀ H O σ ds hd d _ o h fun v H' s r=>⟨k,?_,q H' s⟩
 cases d with
 |non=>cases e;cases r;exact rfl
 |bl b=>cases e;cases r;exact rfl
 |int i=>cases e;cases r;exact rfl
 | str x =>
   simp only[truD] at e
   split at e
   . rename_i hz;cases e;cases r;exact⟨hz,rfl⟩
   . cases e
 | tup l =>
   cases e;obtain⟨a,xs,rfl,hq,rs⟩:=WRep.seqT (.inl r);exact .inr (.inl ⟨xs,hq,by rw[rT rs.length]⟩)
 | lst l =>
   cases e;obtain⟨a,xs,rfl,hq,rs⟩:=WRep.seqL (.inl r);exact .inl ⟨xs,hq,by rw[rT rs.length]⟩
 |_=>cases e
theorem AQ{st:Stmt}: PSv X st (fun _=>none):=⟨_,UO,fun _ _ _ _ _ _ _ _ _ e _=>by cases e⟩
theorem AO(n:Nat){c:Expr}{body:List Stmt}{pos:Pos}{fc:FT}{g:FS}(hp:nW (aM X.prog X.w) X.A X.env X.xe)(hc:PTv X c fc)(hb:PSsv X body g):PSv X (.While c body [] pos) (gU fc g n):=by
 obtain⟨tc,pc,hc⟩:=hc;obtain⟨tb,pb,hb⟩:=hb;refine⟨_,UM hp pc pb,fun H₀ H O σ ds hd out E o e h=>?_⟩;refine⟨fun m σ' H'=>∃O' ds',Ok X.K H₀ H' O' σ' ds' hd/\gU fc g m ds'=some out,⟨n,O,ds,o,e⟩,?_⟩;rintro m σ1 H1 ⟨O1,ds1,o1,e1⟩;cases m with
 |zero=>cases e1
 | succ m =>
   simp only[gU] at e1;obtain⟨k,h1,e1⟩:=bnd e1;refine hc H₀ H1 O1 σ1 ds1 hd k _ o1 h1 fun H2 s2=>?_;cases k with
   | false =>
     simp only[bD,if_false,Option.some.injEq] at e1;subst e1;exact iteF (h σ1 H2 O1 (o1.mono s2))
   | true =>
     simp only[if_true] at e1;refine iteT ⟨fun σ' H'=>∃O' ds',Ok X.K H₀ H' O' σ' ds' hd/\gU fc g m ds'=some out,fun σ' H' q=>⟨m,mR _,q⟩,?_⟩;obtain⟨o3,h2,e1⟩:=bnd e1;refine hb H₀ H2 O1 σ1 ds1 hd o3 _ (o1.mono s2) h2 ?_;cases o3 with
     |nx ds3=>exact fun σ3 H3 O3 ok3=>⟨O3,ds3,ok3,e1⟩
     |ct ds3=>exact fun σ3 H3 O3 ok3=>⟨O3,ds3,ok3,e1⟩
     |bk ds3=>cases e1;exact fun σ3 H3 O3 ok3=>h σ3 H3 O3 ok3
     |rt rr=>cases e1;exact h
theorem ZR{tg e:Expr}{pos:Pos}{f:FE}{ga:D->List Sl->Option (List Sl)}(he:PV X e f)(hg:PGv X tg ga)(hs:KN [tg] e pos.line X.env=pure false:=by rfl)(hw:KO [tg] e X.env=pure none:=by rfl)(h1:(fF [tg] X.env).map (·.2)=[mZ tg X.env]:=by rfl):PSv X (.Assign [tg] e pos) (asgG ga f):=by
 obtain⟨te,pe,he⟩:=he;obtain⟨tg',pg,hg⟩:=hg;refine⟨_,UP pe pg hs hw h1,fun H₀ H O σ ds hd out E o e h=>?_⟩;unfold asgG at e;obtain⟨d,h2,e⟩:=bnd e;cases h3:ga d ds with
 |none=>rw[h3] at e;cases e
 | some ds' =>
   rw[h3] at e;cases e;refine he H₀ H O σ ds hd d _ o h2 fun v H1 s1 r1=>?_;exact hg H₀ H1 O σ ds hd v d ds' _ (o.mono s1) r1 h3 fun σ' o'=>h σ' H1 O o'
theorem ZQ{i:Nat}{x:Str}{pos p1 p2 p3:Pos}(hN:X.N[i]?=some x:=by rfl)(hv:Vis X.env.scope x:=by first | exact Or.inl rfl | exact Or.inr (Or.inl rfl) | exact Or.inr (Or.inr rfl))(hd:(x==("__debug__" : Str))=false:=by decide)(hcd:(x==("__classdict__" : Str))=false:=by decide)(hline:(p2.endLine==p3.line)=true:=by rfl)(hbase:lL (.Name x p1) "clear" X.env (cM (.Name x p1) X.env)=cM (.Name x p1) X.env:=by rfl)(hsw:gG (.Call (.Attribute (.Name x p1) "clear" p2) [] [] p3) none pos.line X.env=pure false:=by rfl) :
  PSv X (.Expr (.Call (.Attribute (.Name x p1) "clear" p2) [] [] p3) pos) (clrG i):=by
 refine⟨_,CC (pe_bm0 uK PySem.F.slot_list_clear PySem.F.type_list_clear VQ (yL hN hv hd hcd) hbase hline) hsw,fun H₀ H O σ ds hd out E o e h=>?_⟩;unfold clrG at e;cases hsl:ds[i]? with
 |none=>rw[hsl] at e;cases e
 | some s =>
   rw[hsl] at e;cases s with
   |v d'=>cases e
   |no=>cases e
   |exc _=>cases e
   |exf _ _=>cases e
   |fr _=>cases e
   |ob _ _=>cases e
   | own l =>
     cases e;obtain⟨a,xs,q1,q2,q3,q4⟩:=o.readO hsl;refine⟨.ref a,q1,.inl ⟨rfl,xs,SqL.of q3⟩,?_⟩;exact⟨a,xs,rfl,rfl,q3,h _ _ _ (o.modify hsl q1 .nil)⟩
end FL
namespace L2
end L2
namespace Att
open PySem.W PySem.Calls
theorem rX:∀{ns:List Int} {b:Nat},WData.weightAll (ns.map WData.int)<=b->∀c∈ns,Builtin.Int.intBits c<=b
 |[],_,_=>fun c hc=>by cases hc
 | n :: r, b, h => fun c hc => by
   simp only[bO,WData.weightAll,WData.weight] at h;rcases aH.mp hc with rfl | hc
   . unfold Builtin.Int.intBits;omega
   . exact rX (ns:=r) (b:=b) (by omega) c hc
theorem attach_callB{l:OpenLaw}{n:Nat}{q:aY}{loose:List Str}{XP:(Str->Option Value)->Heap->Prop}{YP:bS->Heap->Prop}{d:DefRec}(hn:l.most=some n)(hdf:d.params.defaults=[])(call:∀(w:bS) (s₀ s₁ : aC) (mg mb:Str->Option Value) (fa:aB) (o:Obj) (pm cd doc:Value) (a:aB) (vs:List Value) (ns:List Int),
    Ground q loose [] XP w s₀ mg mb s₁.heap->YP w s₁.heap →
    s₁.heap.get? fa=some o->o.data=.func (docDef d.name d.params d.body d.scope pm cd doc)->s₁.heap.CodeRec cd d.name->mg d.name=some (.ref fa) →
    s₁.heap.get? a=some { cls:=.type "list",data:=.seq vs.toArray }->eB vs ns->ns.length<=n->(∀c∈ns,Builtin.Int.intBits c<=1048576)->s₁.gens=#[] →
    fK (aM l.prog w) uF (.call (.ref fa) ⟨[.ref a],[]⟩) (fun r s'=>r=.ok (.ret (.bool true))/\OldK s₁.heap s'.heap/\s'.os=s₁.os/\lN s'.gens) s₁) :
  WalkO q loose XP YP l.row.toRowW d [] (fun f vs=>PySem.call f vs):=by
 intro w s₀ s₁ mg mb G Y fa o pm cd doc dV kV ho hd hcd hD hmg hg args vals as hpre hlay hrd hwl hlo;obtain rfl:dV=.none:=Dflts.none hD hdf;obtain rfl:kV=.none:=Dflts.noKw hD;obtain⟨a,vs,ns,rfl,rfl,hobj,hints,hlen⟩:=OJ hn hpre hwl
 have hb:∀c∈ns,Builtin.Int.intBits c<=1048576:=by
  have h1:=(layableW_iff.mp (layW_cons hlay).1).2.2;simp only[WData.weight] at h1;exact rX (cW h1 (by decide))
 refine enter_call (gX (call w s₀ s₁ mg mb fa o pm cd doc a vs ns G Y ho (fd_plain hd) hcd hmg hobj hints hlen hb hg) fun r s' hq=>?_);obtain⟨rfl,h2,h3,h4⟩:=hq;exact⟨.inl ⟨.bool true,.bool true,[],rfl,fun _=>rfl,.bool true,OU l _,fun _=>⟨List.Pairwise.nil,fun _ hm=>(nomatch hm)⟩⟩,h2,h3,h4⟩
end Att
namespace FL
noncomputable def IJ(K:Frag)(n:Nat):Sp:=fun vs H Q _=>∃(a:aB) (ns:List Int),vs=[.ref a]/\SqL K H a (ns.map V.int)/\ns.length<=n/\(∀c∈ns,Builtin.Int.intBits c<=1048576)/\∀H',Q (.bl true) H'
theorem law_ofB{P:aY}{w:bS}{K:Frag}{mg:Str->Option Value}{base:Heap}{k:Nat}{f:aB}{fd:bQ}{x:Str}{n:Nat}{F:List D->Option Ret}(Fn:FnOk P w K mg base CX0 k f fd [x] (spF K 1 F))(h:∀ns:List Int,ns.length<=n->(∀c∈ns,Builtin.Int.intBits c<=1048576)->F [.lst (ns.map D.int)]=some (.val (.bl true))):FnOk P w K mg base CX0 k f fd [x] (IJ K n):=by
 refine Fn.imp fun vs H Q E hq=>?_;obtain⟨a,ns,rfl,hS,hl,hb,q⟩:=hq;refine⟨rfl,[.lst (ns.map D.int)],.val (.bl true),.cons ?_ .nil,h ns hl hb,fun v H' s r=>?_⟩
 . rcases hS with hS | hS
   . exact .lst (fun z=>z.elim) hS (Reps.ints ns)
   . exact .lstK hS (Reps.ints ns)
 . cases r;exact q H'
open PySem.W (tabIn CodeHd tabObj noTabs tab_of) in
inductive TabL(K:Frag)(q:aY):List Str->List (Str×aB×aB)->Prop
 |nil:TabL K q [] []
 |yes {x:Str} {xs:List Str} {c P:aB} {tl:List (Str×aB×aB)} (h:gN K x=some (c,P)) (r:((recsOf q).find? (fun e=>e.name==x)).isSome=true) (ap:(tl.all fun p=>p.2.2 != P)=true) (t:TabL K q xs tl):TabL K q (x::xs) ((x,c,P)::tl)
 |no {x:Str} {xs:List Str} {tl:List (Str×aB×aB)} (h:gN K x=none) (t:TabL K q xs tl):TabL K q (x::xs) tl
theorem tabL_no{K:Frag}{q:aY}{x:Str}{xs:List Str}{tl:List (Str×aB×aB)}(h:aQ K aP x=some none)(t:TabL K q xs tl):TabL K q (x::xs) tl:=.no (by unfold gN;rw[h]) t
theorem tabL_yes{K:Frag}{q:aY}{x:Str}{xs:List Str}{c P f:aB}{fd:bQ}{oc oc':Value}{od od':Option aB}{sl sl':Array (Option Value)}{vs:Array Value}{tl:List (Str×aB×aB)}(h1:aQ K aP x=some (some (.ref f)))(h2:K.lookup f=some ⟨oc,od,.func fd,sl⟩)(h3:fd.code=.ref c)(h4:K.lookup c=some ⟨oc',od',.fields vs,sl'⟩)(h5:(vs[11]? : Option Value)=some (.ref P))(r:((recsOf q).find? (fun e=>e.name==x)).isSome=true)(t:TabL K q xs tl)(ap:(tl.all fun p=>p.2.2 != P)=true):TabL K q (x::xs) ((x,c,P)::tl):=
 .yes (by unfold gN;simp only[h1,h2,h3,h4,h5]) r ap t
section
variable{K:Frag}{q:aY}{xs:List Str}{tl:List (Str×aB×aB)}
theorem TabL.get(h:TabL K q xs tl):∀{x:Str} {c P:aB},x∈xs->gN K x=some (c,P)->(x,c,P)∈tl:=by
 induction h with
 |nil=>intro x c P hx;cases hx
 | yes h r ap t ih =>
   intro x c P hx ht;rcases aH.mp hx with e | e
   . subst e;rw[h] at ht;cases ht;exact aF
   . exact aI _ (ih e ht)
 | no h t ih =>
   intro x c P hx ht;rcases aH.mp hx with e | e
   . subst e;rw[h] at ht;cases ht
   . exact ih e ht
theorem TabL.fact(h:TabL K q xs tl):∀p∈tl,gN K p.1=some (p.2.1,p.2.2)/\((recsOf q).find? (fun e=>e.name==p.1)).isSome=true:=by
 induction h with
 |nil=>intro p hp;cases hp
 | yes h r ap t ih =>
   intro p hp;rcases aH.mp hp with e | e
   . subst e;exact⟨h,r⟩
   . exact ih p e
 |no h t ih=>exact ih
noncomputable def tabH(K:Frag)(tl:List (Str×aB×aB)):Hp:=fun b=>(tl.find? fun p=>p.2.2==b).map fun p=>.tbl (pH K p.1)
theorem kD{b:aB}{u:HO}(e:tabH K tl b=some u):∃p∈tl,b=p.2.2/\u=.tbl (pH K p.1):=by
 unfold tabH at e;obtain⟨p,h,rfl⟩:=mpd e;exact⟨p,eS h,(beq_iff_eq.mp (kZ (p:=fun p:Str×aB×aB=>p.2.2==b) h)).symm,rfl⟩
theorem TabL.at(h:TabL K q xs tl):∀p∈tl,tabH K tl p.2.2=some (.tbl (pH K p.1)):=by
 induction h with
 |nil=>intro p hp;cases hp
 | yes h r ap t ih =>
   intro p hp;rename_i x xs c P tl;unfold tabH;rcases aH.mp hp with e | e
   . subst e;simp
   . have:(P==p.2.2)=false:=by
      have:=rZ.mp ap p e;simp only[bne_iff_ne,ne_eq] at this;exact beq_eq_false_iff_ne.mpr (Ne.symm this)
     rw[cR,this];exact ih p e
 |no h t ih=>exact ih
end
theorem no_cls{K:Frag}{h:Heap}{b:aB}{o:Obj}{ps:Array Value}(X:K.In h)(hK:sO K=true)(e:K.lookup b=some o)(hb:h.get? b=some (sN ps)):False:=by
 have q:=X b o e;rw[hb] at q;cases q;have h2:=rZ.mp hK (b,_) (PySem.W.mem_of_lookupK e);exact absurd (show false=true from h2) hO
theorem PP{P:aY}{w:bS}{K:Frag}{q:aY}{loose:List Str}{mean:ExcName->Option Value}{mg mb:Str->Option Value}{k:Nat}{fa a:aB}{fd:bQ}{x:Str}{sp:Sp}{s₁ : aC}{vs:List Value}{ns:List Int}{tl:List (Str×aB×aB)}(KX:K.In s₁.heap)(T:Top q loose mean mg mb s₁.heap)(hT:TabL K q makers tl)(hK:sO K=true)(hg:s₁.gens=#[])(ha:s₁.heap.get? a=some { cls:=.type "list",data:=.seq vs.toArray })(hi:eB vs ns)(hl:ns.length<=sizeLine)(hr:Room k uF)(F:∀base:Heap,K.In base->base.Ns aP mg->FnOk P w K mg base CX0 k fa fd [x] sp)(hbind:∀(s:aC) (u:Value),RK s fd ⟨[u],[]⟩ [(x,u)])(hsp:∀H:Hp,SqL K H a (ns.map V.int)->sp [.ref a] H (fun v _=>v=.bl true) fun _ _ _=>False) :
  fK (aM P w) uF (.call (.ref fa) ⟨[.ref a],[]⟩) (fun r s'=>r=.ok (.ret (.bool true))/\OldK s₁.heap s'.heap/\s'.os=s₁.os/\lN s'.gens) s₁:=by
 have rv:=AF hi
 have tf:∀p∈tl,RD s₁.heap p.2.1 p.2.2/\s₁.heap.get? p.2.2=some (sN #[]):=fun p hp=>by
  obtain⟨h1,h2⟩:=hT.fact p hp;obtain⟨d,hd⟩:=uL.mp h2;exact PySem.W.tab_of T KX hd h1
 have core:∀H:Hp,SqL K H a (ns.map V.int)->L2.HOk P w H s₁.heap->(∀b u,H b=some u->(b=a/\K.lookup a=none/\∃o xs,u=.frz o (.lst xs))\/∃p∈tl,b=p.2.2/\u=.tbl (pH K p.1))->(∀p∈tl,H p.2.2=some (.tbl (pH K p.1))) →
   fK (aM P w) uF (.call (.ref fa) ⟨[.ref a],[]⟩) (fun r s'=>r=.ok (.ret (.bool true))/\OldK s₁.heap s'.heap/\s'.os=s₁.os/\lN s'.gens) s₁:=by
  intro H hS hok hA hP
  have free_of:∀{b:aB} {o:Obj},s₁.heap.get? b=some o->(∀its n,o.data≠.seq its n)->o.data≠.fields #[]->H b=none:=fun {b o} e n1 n2=>by
   cases qb:H b with
   |none=>rfl
   | some u =>
     rcases hA b u qb with⟨rfl,_,_⟩ | ⟨p,hp,rfl,_⟩
     . rw[ha] at e;cases e;exact(n1 _ _ rfl).elim
     . rw[(tf p hp).2] at e;cases e;exact(n2 rfl).elim
  have base_of:∀{b:aB} {o:Obj},s₁.heap.get? b=some o->(∀its n,o.data≠.seq its n)->o.data≠.fields #[]->(hidT s₁.heap H).get? b=some o:=fun e n1 n2=>FV e (free_of e n1 n2);have nsK:∀{b:aB} {m:Str->Option Value},s₁.heap.Ns b m->(hidT s₁.heap H).Ns b m:=fun {b m} ⟨o,es,ep,e,d,r⟩=>⟨o,es,ep,base_of e (fun _ _ z=>by rw[d] at z;cases z) (fun z=>by rw[d] at z;cases z),d,r⟩
  have hKb:K.In (hidT s₁.heap H):=fun b o e=>FV (KX b o e) (by
   cases qb:H b with
   |none=>rfl
   | some u =>
     rcases hA b u qb with⟨rfl,z,_⟩ | ⟨p,hp,rfl,_⟩
     . rw[z] at e;cases e
     . exact(no_cls KX hK e (tf p hp).2).elim)
  have hM:Mod K mg (hidT s₁.heap H):=⟨hKb,nsK T.g,⟨mb,nsK T.b,T.builtins⟩,let ⟨mc,h1,h2⟩:=T.nolimit;⟨mc,nsK h1,h2⟩⟩
  have hTab:TabsK K mg (hidT s₁.heap H) H:=by
   refine⟨?_,fun y c P' hy ht=>?_⟩
   . obtain⟨bm, ob, b1, b2, b3, b4, b5, b6⟩ := T.bmain;exact⟨bm,ob,b1,b2,base_of b3 (fun _ _ z=>by rw[b6] at z;cases z) (fun z=>by rw[b6] at z;cases z),b4,b5,b6⟩
   . have hm := hT.get hy ht;refine⟨?_,hP _ hm⟩;obtain⟨o,ws,file,tf',flags,tg,inF,text,tt,e1,r1,r2,r3,rest⟩:=(tf _ hm).1;refine⟨o,ws,file,tf',flags,tg,inF,text,tt,base_of e1 (fun _ _ z=>by rw[r2] at z;cases z) (fun z=>?_),r1,r2,r3,rest⟩;rw[r2] at z;cases z;cases r3
  have e0:Env0 P w K mg (hidT s₁.heap H) uF [] s₁ H:=⟨rfl,hM,fun b o e=>of_hidT e,⟨rN (QG _ _),hTab⟩,trivial,fun b hb=>absurd (show b∈([]:List aB) from hb) (by simp),hok,.of_eq hg⟩
  refine gX ((F _ hKb (nsK T.g)).run uF [] s₁ H ⟨[.ref a],[]⟩ [.ref a] [.ref a] _ _ hr e0 (hbind s₁ (.ref a)) (.cons rfl .nil) (hsp H hS)) fun r s' h=>?_;cases r with
  |error e=>exact False.elim h
  | ok fl =>
    cases fl with
    |next=>exact False.elim h
    |brk=>exact False.elim h
    |cont=>exact False.elim h
    | ret u =>
      obtain⟨v,H',os,bare,un,hok',r',hv⟩:=h;have hv':v=.bl true:=hv;subst hv';obtain rfl:u=Value.bool true:=r';refine⟨rfl,⟨fun b o e=>?_,fun b o e=>un.there b o e (by simp)⟩,os,bare⟩;cases qb:H b with
      |none=>exact .inl (un.keep b o e qb (by intro z;exact absurd (show b∈([]:List aB) from z) (by simp)) (by simp))
      | some u =>
        rcases hA b u qb with⟨_,_,ob,xs,rfl⟩ | ⟨p,hp,rfl,rfl⟩
        . obtain⟨e1, _⟩ := hok b _ qb;obtain⟨e2,_⟩:=hok' b _ (un.frzs b ob _ qb);rw[e] at e1;cases e1;exact .inl e2
        . have t2 := (tf p hp).2;rw[e] at t2;cases t2;obtain⟨ps,e2,_⟩:=hok' _ _ (un.tbls _ _ qb);exact .inr (.inl ⟨((tf p hp).1.tab (tf p hp).2).isCodeTable,rfl,#[],ps,rfl,by rw[Array.empty_append];exact e2⟩)
 have tabOk:∀(H:Hp) (p:Str×aB×aB),p∈tl->ObjOk P w H s₁.heap p.2.2 (.tbl (pH K p.1)):=fun H p hp=>⟨#[],(tf p hp).2,trivial,fun pos v z=>by cases z⟩
 cases hk:K.lookup a with
 | some o =>
   have e:=KX a o hk;rw[ha] at e;cases e;refine core (tabH K tl) (.inr ⟨_,vs.toArray,_,hk,rfl,rfl,rfl,by rw[bB,hi.length];exact hl,by simpa using rv⟩) (fun b u z=>?_) (fun b u z=>.inr (kD z)) fun p hp=>hT.at p hp;obtain⟨p,hp,rfl,rfl⟩:=kD z;exact tabOk _ p hp
 | none =>
   have na:∀p∈tl,p.2.2≠a:=fun p hp z=>by
    have:=(tf p hp).2;rw[z,ha] at this;cases this
   refine core (upd (tabH K tl) a (.frz { cls:=.type "list",data:=.seq vs.toArray } (.lst (ns.map V.int)))) (.inl (.inr ⟨_,bY⟩)) (fun b u z=>?_) (fun b u z=>?_) fun p hp=>by rw[zJ (na p hp)];exact hT.at p hp
   . by_cases hb : b = a
     . subst hb;rw[bY] at z;cases z;exact⟨ha,by rw[cH];exact hl,vs,_,rv,ha⟩
     . rw[zJ hb] at z;obtain⟨p,hp,rfl,rfl⟩:=kD z;exact tabOk _ p hp
   . by_cases hb : b = a
     . subst hb;rw[bY] at z;cases z;exact .inl ⟨rfl,hk,_,_,rfl⟩
     . rw[zJ hb] at z;exact .inr (kD z)
theorem walkB{l:NT}{q:aY}{loose:List Str}{XP:(Str->Option Value)->Heap->Prop}{YP:bS->Heap->Prop}{d:DefRec}{K:Params->aR}{k:Nat}{tl:List (Str×aB×aB)}(hn:l.most=some 63)(hdf:d.params.defaults=[])(hr:Room k uF)(hY:∀(w:bS) (h:Heap),YP w h->(K w.params).In h)(hK:∀w:bS,sO (K w.params)=true)(hT:∀w:bS,TabL (K w.params) q makers tl)(F:∀(w:bS) (mg:Str->Option Value) (fa:aB) (h:Heap),(K w.params).In h->h.Ns aP mg->mg d.name=some (.ref fa) →
    ∃fd:bQ,(∀(s:aC) (u:Value),RK s fd ⟨[u],[]⟩ [("_law_script",u)])/\∀base:Heap,(K w.params).In base->base.Ns aP mg->FnOk l.prog w (K w.params) mg base CX0 k fa fd ["_law_script"] (IJ (K w.params) 63)) :
  PySem.W.WalkO q loose XP YP l.row.toRowW d [] (fun f vs=>PySem.call f vs):=by
 refine Att.attach_callB hn hdf fun w s₀ s₁ mg mb fa o pm cd doc a vs ns G Y ho hd hcd hmg hobj hints hlen hb hg=>?_;have KX:=hY w _ Y;obtain⟨fd,hbd,hF⟩:=F w mg fa _ KX G.T.g hmg;exact PP KX G.T (hT w) (hK w) hg hobj hints (cW hlen (by decide)) hr hF hbd fun H hS=>⟨a,ns,rfl,hS,hlen,hb,fun _=>rfl⟩
structure Cal(P:aY)(w:bS)(K:Frag)(mg:Str->Option Value)(base:Heap)(x:Str)(k n:Nat)(F:List D->Option Ret):Prop where
 ex:∃(f:aB) (fd:bQ) (ps:List Str),FnOk P w K mg base CX0 k f fd ps (spF K n F)/\Binds K fd ps []/\cP K (.ref f)=true/\mg x=some (.ref f)
section
variable{k j:Nat}{n:Nat}{F:List D->Option Ret}{x:Str}{p pos:Pos}{e:Expr}{es:List Expr}{g:FA}
theorem zP(C:Cal X.prog X.w X.K X.mg X.base x k n F)(hr:Room j X.A)(ha:PAn X (e::es) g)(hj:k<=j:=by decide)(hg:Gl X x:=by rfl)(hdb:(x==("__debug__" : Str))=false:=by decide)(he:aL (e::es) X.env=(false,cM e X.env)::aL es X.env:=by rfl)(hpl:(eF pos (aL es X.env)).any (·.1)=false:=by rfl) :
  PV X (.Call (.Name x p) (e::es) [] pos) (qI n F g):=by
 obtain⟨f,fd,ps,Fn,hb,hk,hm⟩:=C.ex;exact UF Fn (hr.mono hj) hm hk hb ha hg hdb he hpl
theorem yO(C:Cal X.prog X.w X.K X.mg X.base x k n F)(hr:Room j X.A)(ha:PAn X (e::es) g)(hj:k<=j:=by decide)(hg:Gl X x:=by rfl)(hdb:(x==("__debug__" : Str))=false:=by decide)(he:aL (e::es) X.env=(false,cM e X.env)::aL es X.env:=by rfl)(hpl:(eF pos (aL es X.env)).any (·.1)=false:=by rfl) :
  PVf X (.Call (.Name x p) (e::es) [] pos) (vS n F g):=by
 obtain⟨f,fd,ps,Fn,hb,hk,hm⟩:=C.ex;exact OM Fn (hr.mono hj) hm hk hb ha hg hdb he hpl
end
section
variable{a b:Expr}{fa fb:FE}{pos:Pos}
theorem EM(ha:PVw X a fa)(hb:PVw X b fb):PTv X (.Compare a [.Lt] [b] pos) (zL (zD ltD fa fb)):=kG op_lt kJ ha hb (kP _)
theorem pt_le(ha:PVw X a fa)(hb:PVw X b fb):PTv X (.Compare a [.LtE] [b] pos) (zL (zD leD fa fb)):=kG op_le kJ ha hb (kP _)
theorem UI(ha:PVw X a fa)(hb:PVw X b fb):PTv X (.Compare a [.Gt] [b] pos) (zL (zD gtD fa fb)):=kG op_gt kJ ha hb (kP _)
theorem pt_ge(ha:PVw X a fa)(hb:PVw X b fb):PTv X (.Compare a [.GtE] [b] pos) (zL (zD geD fa fb)):=kG op_ge kJ ha hb (kP _)
theorem jO(ha:PVw X a fa)(hb:PVw X b fb):PV X (.BinOp a .Add b pos) (zD xH fa fb):=vM op_addU os_add ha hb
theorem yU(ha:PVw X a fa)(hb:PVw X b fb):PV X (.BinOp a .Sub b pos) (zD subD fa fb):=vM op_sub os_sub ha hb
theorem yF(ha:PVw X a fa)(hb:PVw X b fb):PV X (.BinOp a .Mult b pos) (zD yX fa fb):=vM op_mulB os_mul ha hb
theorem yB(ha:PVw X a fa)(hb:PVw X b fb):PV X (.BinOp a .Pow b pos) (zD powD fa fb):=vM op_powB os_pow ha hb
theorem qF(ha:PVw X a fa)(hb:PVw X b fb):PV X (.BinOp a .Mod b pos) (zD jI fa fb):=vM op_mod os_mod ha hb
theorem jK(ha:PVw X a fa)(hb:PVw X b fb):PV X (.BinOp a .FloorDiv b pos) (zD qU fa fb):=vM VA os_fdiv ha hb
end
end FL
namespace L2
section
variable{tg:Expr}
theorem pi_seq{l:Expr}{tl:TE}(hl:PE X l tl):PI X tg l (fun σ H R=>iList X.K tl σ H R\/iTup X.K tl σ H R):=by
 intro aD s σ H R I h;rcases h with h | h
 . exact pi_list hl aD s σ H R I h
 . exact pi_tup hl aD s σ H R I h
end
end L2
namespace FL
theorem yH{tg e:Expr}{f:FE}(h:PV X e f):PIv X tg e (viaA f asLT):=by
 obtain⟨t,ht,hf⟩:=h;refine⟨_,pi_seq ht,fun H₀ H O σ ds hd items R o e q=>?_⟩;unfold viaA at e;obtain⟨d,h1,e⟩:=bnd e;cases d with
 | lst l =>
   cases e;refine .inl (hf H₀ H O σ ds hd _ _ o h1 fun v H' s r=>?_);obtain⟨a,xs,rfl,hs,rs⟩:=WRep.seqL (.inl r);exact⟨a,rfl,⟨xs,hs⟩,q _ (.ref a,.lst items) H' s r SV⟩
 | tup l =>
   cases e;refine .inr (hf H₀ H O σ ds hd _ _ o h1 fun v H' s r=>?_);obtain⟨a,xs,rfl,hs,rs⟩:=WRep.seqT (.inl r);exact⟨a,rfl,⟨xs,hs⟩,q _ (.ref a,.tup items) H' s r YX⟩
 |_=>cases e
end FL
namespace L2
section
variable{tg:Expr}
end
end L2
namespace FL
theorem FN{K:Frag}{H:Hp}{O:aB->Prop}:∀{xs:List V} {l:List D} {bs:List Int},Reps K H O xs l->intsD l=some bs->xs=bs.map V.int
 |_,_,_,.nil,e=>by cases e;rfl
 | _, _, bs, .cons (d := d) h t, e => by
   cases d with
   | int b =>
     rename_i ds;simp only[intsD] at e;obtain⟨r,hr,rfl⟩:=mpd e;cases h;rw[FN t hr];rfl
   |_=>cases e
theorem LP{p pos:Pos}{e:Expr}{g:FA}(hm:X.mg "int" = none)(ha:PAv X [e] g)(hg:Gl X "int":=by rfl)(he:aL [e] X.env=[(false,cM e X.env)]:=by rfl):PV X (.Call (.Name "int" p) [e] [] pos) (callB int1D g):=by
 obtain⟨t,ht,hf⟩:=ha;refine⟨_,AT QX hg hm (by decide +kernel) ht (by decide) (by decide) he rfl,fun H₀ H O σ ds hd d Q o e q=>?_⟩;unfold callB at e;obtain⟨l,h,e⟩:=bnd e;refine hf H₀ H O σ ds hd l _ o h fun vs H1 s1 r1=>?_;unfold int1D at e
 split at e
 . cases e;cases r1 with
   | cons r rn =>
     cases rn;exact .inl ⟨_,by rw[r.int'],q _ H1 s1 (.int _)⟩
 . cases e;cases r1 with
   | cons r rn =>
     cases rn;exact .inr ⟨_,by rw[r.bl'],q _ H1 s1 (.int _)⟩
 . cases e
theorem EO{i:Nat}{x:Str}{e:Expr}{pos pos':Pos}{f:FE}(hN:X.N.Nodup)(he:PV X e f)(hi:X.N[i]?=some x:=by rfl)(hx:Loc X.env.scope x:=by first | exact Or.inl rfl | exact Or.inr rfl)(hf:X.fn x=true\/X.env.scope.names.lookup x=some .local:=by first | exact .inl rfl | exact .inr rfl):PSv X (.AugAssign (.Name x pos') .Add e pos) (augA i f):=by
 obtain⟨t,ht,hg⟩:=he;refine⟨_,ps_aug hN hi hx ht ip_add hf,fun H₀ H O σ ds hd out E o e h=>?_⟩;unfold augA qR at e;cases hs:ds[i]? with
 |none=>rw[hs] at e;cases e
 | some sl =>
   rw[hs] at e;cases sl with
   |no=>cases e
   |exc _=>cases e
   |exf _ _=>cases e
   |fr _=>cases e
   |ob _ _=>cases e
   |own l=>cases e
   | v dx =>
     simp only[bF] at e;obtain⟨dy,h1,e⟩:=bnd e;cases dx<;>first | (cases e;done) | skip
     cases dy<;>first | (cases e;done) | skip
     cases e;obtain⟨v,q1,q2⟩:=o.read hs;cases q2;refine⟨_,q1,hg H₀ H O σ ds hd _ _ o h1 fun v H' s r=>?_⟩;cases r;exact⟨_,_,rfl,rfl,h _ _ _ ((o.mono s).set (.int _))⟩
end FL
namespace L2
section
variable{aD:List (aB×Obj)}{σ : St}{H:Hp}{s:aC}{h':Heap}
theorem Inv.turnedS{t':Nat}{ch:List aB}(I:Inv X aD σ H s)(k:∀b o,b∉ch->s.heap.get? b=some o->h'.get? b=some o)(hf:∀b∈ch,FpOk X aD H b):Inv X aD σ H { s with heap:=h',toks:=t' }:=by
 have nit:∀b u,H b=some u->b∉ch:=fun b u e z=>by rw[(hf b z).1] at e;cases e
 refine I.step (g':=s.gens) (d':=s.drawn) (ch:=ch) (fun b hb=>?_) (fun b o _ _ hc e _=>k b o hc e) (fun b o _ _ hc e _=>⟨o.slots,k b o hc e⟩) (fun _ _ _ _ n=>n)
  (fun b o hc e=>⟨o,k b o hc e⟩) (fun _ _ e=>e) (fun _ _ _ e=>e) (fun _ _ e=>e) (fun m hm=>?_) (fun b u e=>?_) I.bare
 . obtain⟨f0, f1, f2, f3, f4, f5⟩ := hf b hb;exact⟨f3,f1,f4,f5⟩
 . obtain⟨o, es, ep, ho, r⟩ := hm;exact⟨o,es,ep,k _ o (fun z=>(hf _ z).2.1 rfl) ho,r⟩
 . refine (I.hok b u e).stay (fun c v hc q => k c v ?_ q) (fun _ q => q) fun _ _ q => q;rcases hc with z | z
   . rw[z];exact nit b u e
   . exact nit c _ z
end
noncomputable def Itz(K:aR)(l1 l2:aB):It :=
 ⟨fun i H => ∃ xs ys x y, SqL K H l1 xs /\ SqL K H l2 ys /\ xs[i]? = some x /\ ys[i]? = some y,
  fun i H v H'=>∃T x y,v=.ref T/\H T=none/\H'=upd H T (.tup [x,y])/\(∀xs,SqL K H l1 xs->xs[i]?=some x)/\∀ys,SqL K H l2 ys->ys[i]?=some y,
  fun i H=>∃xs ys,SqL K H l1 xs/\SqL K H l2 ys/\(xs.length<=i\/ys.length<=i)⟩
theorem TJ{P:aY}{w:bS}{K:aR}{es:List Expr}{x1}{pos:Pos}(z TI TO i1 i2 l1 l2:aB)(D:ZipApart z TI TO i1 i2 l1 l2) :
  Turn P w K (.Tuple es x1 pos) (Itz K l1 l2) [z,TI,TO,i1,i2] z (fun i h=>IsZip h z TI TO .none/\IsPair h TI (.ref i1) (.ref i2)/\(∃a b,IsPair h TO a b)/\h.IsListIter i1 l1 i/\h.IsListIter i2 l2 i) where
 mem:=by simp
 obj:=fun i h st b hb=>by
  obtain⟨hz,hTI,⟨a,b',hTO⟩,⟨o1,e1,c1,d1⟩,⟨o2,e2,c2,d2⟩⟩:=st;simp only[aH,eD,or_false] at hb;rcases hb with rfl | rfl | rfl | rfl | rfl
  . exact⟨_,hz,fun v z=>by have z':Data.fields _=Data.cell v:=z;cases z'⟩
  . exact⟨_,hTI,fun v z=>by have z':Data.seq _ _=Data.cell v:=z;cases z'⟩
  . exact⟨_,hTO,fun v z=>by have z':Data.seq _ _=Data.cell v:=z;cases z'⟩
  . exact⟨o1,e1,fun v z=>by rw[d1] at z;cases z⟩
  . exact⟨o2,e2,fun v z=>by rw[d2] at z;cases z⟩
 keep:=fun i h h' st k=>by
  obtain⟨hz,hTI,⟨a,b',hTO⟩,h1,h2⟩:=st;exact⟨k z (by simp) _ hz,k TI (by simp) _ hTI,⟨a,b',k TO (by simp) _ hTO⟩,h1.at fun o e=>k i1 (by simp) o e,h2.at fun o e=>k i2 (by simp) o e⟩
 item:=by
  intro X hP hw hK hc i aD s σ H E I hf st hg;subst hP hw hK;obtain⟨xs,ys,x,y,hq1,hq2,hx,hy⟩:=hg;obtain⟨hz,hTI,⟨a,b',hTO⟩,h1,h2⟩:=st;obtain⟨its1,rv1,p1,hz1⟩:=I.list hq1;obtain⟨its2,rv2,p2,hz2⟩:=I.list hq2;obtain⟨u1,hu1,ru1⟩:=rv1.get hx;obtain⟨u2,hu2,ru2⟩:=rv2.get hy;refine wpAny_pyNext_zip_item D hz hTI hTO h1 h2 p1.isList p2.isList (x:=u1) (y:=u2) (by simpa using hu1) (by simpa using hu2) fun h' a1 a2 a3 a4 a5 a6 hk=>?_;refine⟨_,rfl,wpAny_letOwnedTupleGo_zip a1 fun h2' b1 bs=>?_⟩
  have hT:∀b∈[z,TI,TO,i1,i2],b≠s.heap.objs.size:=fun b hb e=>by
   obtain⟨hz,hTI,hTO⟩:=And.intro hz (And.intro hTI hTO);obtain⟨_,e1,_⟩:=h1;obtain⟨_,e2,_⟩:=h2;simp only[aH,eD,or_false] at hb;have lt:∀{c o},s.heap.get? c=some o->c<s.heap.objs.size:=fun q=>aS q;rcases hb with rfl | rfl | rfl | rfl | rfl
   . exact bE (lt hz) e
   . exact bE (lt hTI) e
   . exact bE (lt hTO) e
   . exact bE (lt e1) e
   . exact bE (lt e2) e
  have fr:H s.heap.objs.size=none:=I.hok.fresh (aO _)
  have I1:Inv X aD σ (upd H s.heap.objs.size (.tup [x,y])) { s with heap:=s.heap.push { cls:=.type "tuple",data:=.seq #[u1,u2] },toks:=s.toks }:=by
   refine I.laid (fun b u e=>aE _ e) (aO _) ?_;exact⟨by simp[sizeLine],[u1,u2],.cons ru1 (.cons ru2 .nil),⟨_,aX _ rfl,rfl,_,rfl⟩⟩
  have nz:s.heap.objs.size≠z:=fun e=>hT z (by simp) e.symm
  have I2:Inv X aD σ (upd H s.heap.objs.size (.tup [x,y])) { s with heap:=h2',toks:=s.toks }:=by
   refine Inv.turnedS (s:={ s with heap:=s.heap.push { cls:=.type "tuple",data:=.seq #[u1,u2] },toks:=s.toks }) I1 (h':=h2') (t':=s.toks) (ch:=[z,TI,TO,i1,i2]) (fun b o hb e=>?_) (fun b hb=>?_)
   . simp only [aH, eD, or_false, not_or] at hb
     by_cases hbT:b=s.heap.objs.size
     . subst hbT;have e':(s.heap.push { cls:=.type "tuple",data:=.seq #[u1,u2] }).get? s.heap.objs.size=some o:=e;rw[aX _ rfl] at e';cases e';exact bs.extBut _ _ nz a5
     . have e' : (s.heap.push { cls := .type "tuple", data := .seq #[u1, u2] }).get? b = some o := e
       have e2:s.heap.get? b=some o:=by
        rwa [RI _ _ _ hbT] at e'
       exact bs.extBut _ _ hb.1 (hk b o hb.1 hb.2.2.1 hb.2.2.2.1 hb.2.2.2.2 e2)
   . obtain⟨f0, fr'⟩ := hf b hb;exact⟨by rw[zJ (hT b hb)];exact f0,fr'⟩
  refine⟨.ref s.heap.objs.size,_,I2,rfl,⟨_,x,y,rfl,fr,rfl,fun zs hzs=>by rw[I.list_inj hzs hq1];exact hx,fun zs hzs=>by rw[I.list_inj hzs hq2];exact hy⟩,⟨b1,bs.extBut _ _ D.TIz (hk _ _ D.TIz D.TITO D.TIi1 D.TIi2 hTI),⟨_,_,bs.extBut _ _ D.TOz a2⟩,a3.extBut bs.extBut D.i1z,a4.extBut bs.extBut D.i2z⟩,fun b hb=>?_⟩;rw[zJ (hT b hb)];exact(hf b hb).1
 done:=by
  intro X hP hw hK hc i aD s σ H E I hf st hg;subst hP hw hK;obtain⟨xs,ys,hq1,hq2,hx⟩:=hg;obtain⟨hz,hTI,⟨a,b',hTO⟩,h1,h2⟩:=st;obtain⟨its1,rv1,p1,hz1⟩:=I.list hq1;obtain⟨its2,rv2,p2,hz2⟩:=I.list hq2;have hl1:=rv1.length;have hl2:=rv2.length;refine wpAny_pyNext_zip_end (I.ok.hd hc) D hz hTI hTO h1 h2 p1.isList p2.isList (hx.elim (fun h=>.inl (by simp;omega)) (fun h=>.inr (by simp;omega))) fun h' hk=>⟨rfl,?_⟩
  refine I.turnedS (t':=s.toks) (ch:=[z,TI,TO,i1,i2]) (fun b o hb e=>?_) hf;simp only[aH,eD,or_false,not_or] at hb;exact hk b o hb.1 hb.2.2.1 hb.2.2.2.1 hb.2.2.2.2 e
 self:=fun _ _ _ _ _ st h=>wpAny_pyIter_zip st.1 h
def iZip(K:aR)(ta:TA):TI:=fun σ H R=>ta σ H fun vs H1=>∃a xs b ys,vs=[.ref a,.ref b]/\SqL K H1 a xs/\SqL K H1 b ys/\R (Itz K a b) H1
theorem US{es:List Expr}{x1}{tp:Pos}{a b:Expr}{ta:TA}{p pos:Pos}(hg:Gl X "zip")(hm:X.mg "zip" = none)(ha:PA X [a,b] ta)(hs:aL [a,b] X.env=[(false,cM a X.env),(false,cM b X.env)]:=by rfl)(hs2:aL [b] X.env=[(false,cM b X.env)]:=by rfl) :
  PI X (.Tuple es x1 tp) (.Call (.Name "zip" p) [a,b] [] pos) (iZip X.K ta):=by
 intro aD s σ H R I h;refine Call_ (xJ I hg hm (show eA "zip" = some (.type "zip") by decide +kernel) (dO (thn (ha pos aD s σ H _ I h) fun us s1 zq=>?_) (by rw[hs,hs2]) (by rw[hs2];rfl)));obtain⟨vs,H1,I1,r1,q1⟩:=zq;obtain⟨a,xs,b,ys,e,hq1,hq2,q⟩:=q1;subst e;cases r1 with
 | cons r rr =>
   cases rr with
   | cons r' rr =>
     cases rr;cases r;cases r';obtain⟨its1,rv1,p1,hz1⟩:=I1.list hq1;obtain⟨its2,rv2,p2,hz2⟩:=I1.list hq2;have l1:a<s1.heap.objs.size:=by obtain⟨_,e,_⟩:=p1.isList;exact aS e
     have l2:b<s1.heap.objs.size:=by obtain⟨_,e,_⟩:=p2.isList;exact aS e
     refine call_zip_2 p1.isList p2.isList fun h' hz hTI hTO hi1 hi2 hsz hk=>?_;refine wpAny_pyIter_zip hz ?_;refine⟨_,[s1.heap.objs.size+4,s1.heap.objs.size+2,s1.heap.objs.size+3,s1.heap.objs.size,s1.heap.objs.size+1],_,_,H1,rfl,I1.kept (t':=s1.toks) hk,TJ _ _ _ _ _ a b (zipApart_new l1 l2),⟨hz,hTI,⟨_,_,hTO⟩,hi1,hi2⟩,fun c hc=>?_,q⟩
     have hle:s1.heap.objs.size<=c:=by
      simp only[aH,eD,or_false] at hc;rcases hc with rfl | rfl | rfl | rfl | rfl<;>omega
     exact I1.fpOk hle (I1.hok.fresh hle)
end L2
namespace FL
variable(X) in
def PIc(tg iter:Expr)(fi:FA):Prop:=∃wi,PI X tg iter wi/\∀H₀ H O σ ds hd items R,Ok X.K H₀ H O σ ds hd->fi ds=some items →
 (∀J H',Same H H'->(∀H2,Same H' H2->(∀i d,items[i]?=some d->J.go i H2/\∀x H3,J.yld i H2 x H3->Same H2 H3/\Rep X.K H3 O x d)/\J.stop items.length H2)->R J H')->wi σ H R
theorem pic_zip{es:List Expr}{x1}{tp:Pos}{a b:Expr}{p pos:Pos}{fa fb:FE}(hm:X.mg "zip" = none)(ha:PV X a fa)(hb:PV X b fb)(hg:Gl X "zip":=by rfl)(hs:aL [a,b] X.env=[(false,cM a X.env),(false,cM b X.env)]:=by rfl)(hs2:aL [b] X.env=[(false,cM b X.env)]:=by rfl) :
  PIc X (.Tuple es x1 tp) (.Call (.Name "zip" p) [a,b] [] pos) (zipA fa fb):=by
 obtain⟨t,ht,hf⟩:=zH ha (zH hb zU hs2) (by rw[hs,hs2]);refine⟨_,US hg hm ht hs hs2,fun H₀ H O σ ds hd items R o e q=>?_⟩;unfold zipA at e;cases h1:fa ds with
 |none=>rw[h1] at e;cases e
 | some d1 =>
   cases h2:fb ds with
   |none=>rw[h1,h2] at e;cases e
   | some d2 =>
     rw[h1,h2] at e;simp only[bF] at e;cases d1<;>first | (cases e;done) | skip
     cases d2<;>first | (cases e;done) | skip
     rename_i l m;cases e;refine hf H₀ H O σ ds hd [.lst l,.lst m] _ o (by simp[zB,h1,h2,zW]) fun vs H' s r=>?_;cases r with
     | cons r1 rr =>
       cases rr with
       | cons r2 rr =>
         cases rr;obtain⟨a1,xs,rfl,hq1,rs1⟩:=WRep.seqL (.inl r1);obtain⟨a2,ys,rfl,hq2,rs2⟩:=WRep.seqL (.inl r2);refine⟨a1,xs,a2,ys,rfl,hq1,hq2,q _ H' s fun H2 s2=>?_⟩;obtain⟨b1,xs,e1,hq1,rs1⟩:=WRep.seqL (.inl (r1.mono s2));obtain⟨b2,ys,e2,hq2,rs2⟩:=WRep.seqL (.inl (r2.mono s2));cases e1;cases e2;have n1:=rs1.length;have n2:=rs2.length;refine⟨fun i d hd=>?_,⟨xs,ys,hq1,hq2,?_⟩⟩
         . unfold zipD at hd;rw[bT] at hd;obtain⟨pq,hz,rfl⟩:=mpd hd;obtain⟨g1,g2⟩:=AA.mp hz;obtain⟨v1,k1,w1⟩:=rs1.get g1;obtain⟨v2,k2,w2⟩:=rs2.get g2;refine⟨⟨xs,ys,v1,v2,hq1,hq2,k1,k2⟩,fun x H3 y=>?_⟩;obtain⟨T,x',y',rfl,hT,rfl,f1,f2⟩:=y;have:=f1 xs hq1;rw[k1] at this;cases this;have:=f2 ys hq2;rw[k2] at this;cases this;have sm:Same H2 (upd H2 T (.tup [v1,v2])):=qB hT _;exact⟨sm,.tup ((o.mono (s.trans s2)).free hT) (.inl bY) (.cons (w1.mono sm) (.cons (w2.mono sm) .nil))⟩
         . unfold zipD;rw[cH,YC];omega
section
variable{scope:Scope}{NY:List Str}{mp:List (Option Nat)}{tg iter elt:Expr}{ifs:List Expr}{pos:Pos}{fi:FA}{ga:D->List Sl->Option (List Sl)}{tt:FT}{fe:FE}
theorem QR{wi:TI}{g:CI->TG}{t1:CI->TT}{t2:CI->TE}(hi:∀H₀ H O σ ds hd items R,Ok X.K H₀ H O σ ds hd->fi ds=some items->(∀J H',Same H H'->(∀H2,Same H' H2->(∀i d,items[i]?=some d->J.go i H2/\∀x H3,J.yld i H2 x H3->Same H2 H3/\Rep X.K H3 O x d)/\J.stop items.length H2)->R J H')->wi σ H R)(hg:∀c H₀ H O σ ds hd v d ds' Q,Ok X.K H₀ H O σ ds hd->Rep X.K H O v d->ga d ds=some ds'->(∀σ',Ok X.K H₀ H O σ' ds' hd->Q σ' H)->g c v σ H Q)(ht:∀c H₀ H O σ ds hd b Q,Ok X.K H₀ H O σ ds hd->tt ds=some b->(∀H',Same H H'->Q b H')->t1 c σ H Q)(he:∀c H₀ H O σ ds hd d Q,Ok X.K H₀ H O σ ds hd->fe ds=some d->(∀v H',Same H H'->Rep X.K H' O v d->Q v H')->t2 c σ H Q) :
  ∀H₀ H O σ ds hd l Q,Ok X.K H₀ H O σ ds hd->compG fi mp ga tt fe ds=some l →
   (∀a xs H',Same H H'->H a=none->H' a=some (.lst xs)->Reps X.K H' (ins1 a O) xs l->Q (.ref a) H')->tComp wi mp g t1 t2 σ H Q:=by
 intro H₀ H O σ ds hd l Q o e q;unfold compG at e;obtain⟨items,h1,e⟩:=bnd e
 split at e
 . rename_i hsz;refine hi H₀ H O σ ds hd items _ o h1 fun J H1 s1 wk=>fun c=>?_;have oI:Ok X.K H₀ H1 O (gW mp σ) (jV mp ds) hd:=(o.mono s1).inner mp
   refine⟨fun i m ys H2=>i<=items.length/\m=items.length-i/\Same H1 H2/\ys.length<=i/\∃l' rest,Reps X.K H2 O ys l'/\compL ga tt fe (jV mp ds) (items.drop i)=some rest/\l=l'++rest,
    ⟨items.length,bW _,rfl,Same.refl _,aO _,[],l,.nil,by simpa using e,rfl⟩,?_⟩
   rintro i m ys H2 ⟨hi1,rfl,s2,hy,l',rest,ry,er,el⟩;have o2:=oI.mono s2;obtain⟨go,stop⟩:=wk H2 s2
   by_cases hlt:i<items.length
   . right;have hd0:items[i]? = some items[i]:=aK hlt;obtain ⟨hgo,hyl⟩:=go i _ hd0;refine ⟨hgo,by omega,fun x H3 y=>?_⟩;obtain ⟨s3,r3⟩:=hyl x H3 y;rw [cE hlt,compL] at er;obtain ⟨ds1,h2,er⟩:=bnd er;refine hg c H₀ H3 O _ _ hd x _ ds1 _ (o2.mono s3) r3 h2 fun σ' o3=>?_;obtain ⟨b,h3,er⟩:=bnd er;refine ht c H₀ H3 O σ' ds1 hd b _ o3 h3 fun H4 s4=>?_;cases b with
     | false =>
       refine iteF ⟨items.length-(i+1),by omega,hlt,rfl,(s2.trans s3).trans s4,SD hy,l',rest,(ry.mono s3).mono s4,by simpa using er,el⟩
     | true =>
       refine iteT ?_;simp only[if_true] at er;obtain⟨yd,h4,er⟩:=bnd er;cases h5:compL ga tt fe (jV mp ds) (items.drop (i+1)) with
       |none=>rw[h5] at er;cases er
       | some rest' =>
         rw[h5] at er;cases er;refine he c H₀ H4 O σ' ds1 hd yd _ (o3.mono s4) h4 fun v H5 s5 r5=>?_;refine⟨items.length-(i+1),by omega,hlt,rfl,((s2.trans s3).trans s4).trans s5,by simp;omega,l'++[yd],rest',(((ry.mono s3).mono s4).mono s5).append (.cons r5 .nil),h5,?_⟩;rw[el];simp
   . left;have ei:i=items.length:=by omega
     subst ei;rw[eO,compL] at er;cases er;rw[dG] at el;subst el;refine⟨stop,by omega,fun a ha=>?_⟩;refine q a ys _ ((s1.trans s2).trans (qB ha _)) ((s1.trans s2).free ha) bY ?_;exact(ry.more ha).mono (qB ha _)
 . cases e
end
end FL
namespace L2
end L2
namespace FL
end FL
namespace L2
end L2
namespace FL
end FL
namespace L2
end L2
namespace FL
theorem PVd.v{e:Expr}{f:FE}(h:PVd X e f):PV X e f:=by
 obtain⟨t,ht,hf⟩:=h;exact⟨t,ht,fun H₀ H O σ ds hd d Q o e q=>hf H₀ H O σ ds hd d Q o e fun v H' s r=>q v H' s (r.less fun a z=>o.old z)⟩
section
variable{m:Str}{k j n:Nat}{cs:List Nat}{F:Nat->List D->Option Ret}{o e:Expr}{es:List Expr}{apos pos:Pos}{fo:FE}{g:FA}
end
def Keepx(x:aB)(H H':Hp):Prop:=∀b o,b≠x->H b=some o->H' b=some o
theorem Keepx.refl{x:aB}{H:Hp}: Keepx x H H:=fun _ _ _ e=>e
theorem Keepx.trans{x:aB}{H H1 H2:Hp}(a:Keepx x H H1)(b:Keepx x H1 H2):Keepx x H H2:=fun c o n e=>b c o n (a c o n e)
theorem Keepx.of_same{x:aB}{H H1:Hp}(s:Same H H1):Keepx x H H1:=fun c o _ e=>s c o e
section
variable{K:Frag}{H H':Hp}{O:aB->Prop}{x:aB}
theorem Keepx.rd{a C dx:aB}{kvs:List (Str×V)}{xs:List V}(k:Keepx x H H')(hx:H x=some (.ins C dx kvs))(h:Rd H a (.tup xs)):Rd H' a (.tup xs):=by
 rcases h with h | ⟨o,h⟩
 . exact .inl (k _ _ (fun z=>by rw[z,hx] at h;cases h) h)
 . exact .inr ⟨o,k _ _ (fun z=>by rw[z,hx] at h;cases h) h⟩
end
section
variable{t k j n:Nat}{G:List D->Option (List D)}{x:Str}{p pos:Pos}{e:Expr}{es:List Expr}{g:FA}
end
theorem WD{K:Frag}(C:aB):cO K (.ref C) (.ref C)=some true:=by unfold cO;rw[if_pos (by simp)]
theorem kit_no{K:Frag}{C C':aB}(u:mQ K C=true)(y:nA K (.ref C)=some (.type "type"))(s:iQ K (.ref C') (.ref C)=some false)(n:(Value.ref C'==Value.ref C)=false):cO K (.ref C') (.ref C)=some false:=by
 unfold cO;rw[n,if_neg (by decide)];unfold lB;simp only;rw[show(oB K C).isSome=true from u,y,if_pos (by simp),s]
section
variable{k j n:Nat}{F:List D->Option Ret}{x:Str}{p pos:Pos}{e:Expr}{es:List Expr}{g:FA}
end
end FL
namespace PySem
section
variable{prog:aY}{w:bS}{A:bR}{R:sM->aC->Prop}{I:aB}{fp wr:List aB}{n:Nat}{P:Nat->Value->Prop}{St:Nat->Heap->Prop}{kw:List (Str×Value)}
end
section
variable{prog:aY}{w:bS}{A:bR}{E:Value->aC->Prop}{s:aC}
end
end PySem
namespace FL
open PySem.Calls PySem.Builtin PySem.Builtin.ObjectAttr PySem.Builtin.Getset_descriptor
open PySem.W (Looks looks_findIn looks_mroIn findIn mroIn specialIn takesIn KitX)
structure XIn(K:Frag)(C:aB):Prop where
 ga:findIn K (.ref C) "__getattribute__" = some (some (.builtin "BaseException.__getattribute__"))
 gt:findIn K (.ref C) "__getattr__" = some none
 cl:findIn K (.ref C) "__class__" = some (some (.builtin "object.__class__"))
 ob:mroIn K C (.type "object")=some true
 be:mroIn K C (.type "BaseException")=some true
section
variable{prog:aY}{w:bS}{A:bR}{E:Value->aC->Prop}{h:Heap}{g:Array iY}{d:pD}{t:Nat}{os:RE}{a C:aB}{o:Obj}{K:Frag}
theorem wD{M:nX}(hx:h.get? a=some o)(hc:o.cls=.ref C):Looks M h (typeOf (.ref a)) (.ref C):=hc▸(PySem.W.Looks.ld hx).andThen .now
theorem DO{R:sM->aC->Prop}{tp:Value}(X:K.In h)(hx:h.get? a=some o)(hc:o.cls=.ref C)(I:XIn K C)(hq:R (.ok (.ret (.ref C))) ⟨h,g,d,t,os⟩) :
  fK (aM prog w) A (.call (.builtin "getset_descriptor.__get__") ⟨[.builtin "object.__class__",.ref a,tp],[]⟩) R ⟨h,g,d,t,os⟩:=by
 have L0:=wD (M:=aM prog w) hx hc;have L1:=looks_mroIn (M:=aM prog w) X I.ob;refine gT BN.plain PySem.W.KF.entry_gs (BN.check _ _ _ _ _ _ _ _ PySem.W.KF.type_class (PySem.W.KF.args_gs _ _ _) ?_);unfold Builtin.«getset_descriptor.__get__» descrGet;rw[PySem.W.dga_obj];refine aA (aJ ?_);unfold descrGetter descrCheckInstance descrNameAndClass HE;simp only[PySem.W.KF.owner_class]
 repeat lk
 refine⟨Code.quiet_builtin _ (by decide +kernel),iH PySem.W.KF.entry_class ?_⟩;unfold Builtin.«object.__class__» shownTypeOf
 repeat lk
 exact hq
theorem sV{M:nX}{nameV:Value}{Q:Unit->aC->Prop}(X:K.In h)(hx:h.get? a=some o)(hc:o.cls=.ref C)(I:XIn K C)(hq:Q () ⟨h,g,d,t,os⟩) :
  aU M A (uX "BaseException.__getattribute__" ⟨[.ref a,nameV],[]⟩) Q E ⟨h,g,d,t,os⟩:=by
 have hk:builtinKind "BaseException.__getattribute__" = some .slot:=by decide +kernel
 have hsplit:splitId "BaseException.__getattribute__" = some ("BaseException","__getattribute__"):=by decide +kernel
 have L0:=wD (M:=M) hx hc;have L1:=looks_mroIn (M:=M) X I.be;have ha:=F.args_bexc_ga (.ref a) nameV;simp only[uX,hk,hsplit];refine aA ?_
 . unfold HE
   repeat (first | with_reducible refine L0.at ?_ | with_reducible refine L1.at ?_ | wp_step)
   exact hq
theorem YT{tk:Tok}{Q:Fin->aC->Prop}(X:K.In h)(hx:h.get? a=some o)(hc:o.cls=.ref C)(I:XIn K C)(hq:Q (.done (.ret (.ref C))) ⟨h,g,d,t,os⟩) :
  aU (aM prog w) A (Builtin.«object.__getattribute__» ⟨[.ref a,.str "__class__" tk],[]⟩) Q E ⟨h,g,d,t,os⟩:=by
 have L0:=wD (M:=aM prog w) hx hc;have L1:=looks_findIn (M:=aM prog w) X I.cl;have hT5:(⟨h,g,d,t,os⟩:aC).TypeIs (.builtin "object.__class__") "getset_descriptor":=F.typeOf_object_class;have f5:=F.typeOf_object_class;have f6:=F.slot_gs_get.lookup;have f7:=F.slot_gs_set.lookup
 repeat (any_goals (first | assumption | with_reducible refine L0.at ?_ | with_reducible refine L1.at ?_ | wp_step))
 refine DO X hx hc I ?_
 repeat (any_goals (first | assumption | wp_step))
theorem x_call{tk:Tok}{R:sM->aC->Prop}(X:K.In h)(hx:h.get? a=some o)(hc:o.cls=.ref C)(I:XIn K C)(hq:R (.ok (.ret (.ref C))) ⟨h,g,d,t,os⟩) :
  fK (aM prog w) A (.call (.builtin "BaseException.__getattribute__") ⟨[.ref a,.str "__class__" tk],[]⟩) R ⟨h,g,d,t,os⟩ :=
 gT F.attr_ValueError.ga.plain F.entry_bexc_ga (sV X hx hc I (YT X hx hc I hq))
theorem x_by{tk:Tok}{fill expr:Bool}{Q:Value->aC->Prop}(X:K.In h)(hx:h.get? a=some o)(hc:o.cls=.ref C)(I:XIn K C)(hq:Q (.ref C) ⟨h,g,d,t,os⟩) :
  aU (aM prog w) A (getAttrBy (.ref a) (.str "__class__" tk) fill expr) Q E ⟨h,g,d,t,os⟩:=by
 have L0:=wD (M:=aM prog w) hx hc;have L1:=looks_findIn (M:=aM prog w) X I.ga;have L2:=looks_findIn (M:=aM prog w) X I.gt;have f3:=F.attr_ValueError.ga.bind (.ref a);have hx0:(expr&&NO (Value.builtin "BaseException.__getattribute__"))=false:=by cases expr<;>rfl
 have hx2:(Value.builtin "BaseException.__getattribute__"==Value.builtin "object.__getattribute__")=false:=by decide +kernel
 have hx1:(NO (Value.ref C)&&Value.builtin "BaseException.__getattribute__"==Value.builtin "object.__getattribute__")=false:=by rw[hx2];rfl
 repeat (any_goals (first | assumption | with_reducible refine L0.at ?_ | with_reducible refine L1.at ?_ | with_reducible refine L2.at ?_ | wp_step))
 refine x_call X hx hc I ?_
 repeat (any_goals (first | assumption | wp_step))
theorem x_attr{Q:Option Value->aC->Prop}(X:K.In h)(hx:h.get? a=some o)(hc:o.cls=.ref C)(I:XIn K C)(hq:Q (some (.ref C)) ⟨h,g,d,t+1,os⟩) :
  aU (aM prog w) A (getAttr? (.ref a) "__class__") Q E ⟨h,g,d,t,os⟩:=by
 unfold getAttr? getAttrBy?
 repeat (any_goals (first | assumption | with_reducible apply x_by X hx hc I | wp_step))
def IsX(a C:aB)(h:Heap):Prop:=∃o,h.get? a=some o/\o.cls=.ref C
theorem FI(I:XIn K C):KitX K (.ref a) (.ref C) (IsX a C) where
 ty:=fun _ _ _ ⟨o,h1,h2⟩=>wD h1 h2
 it:=fun _ _ X _=>by
  have hm:=I.ob;unfold mroIn at hm;obtain⟨cd,hcD,hm⟩:=bnd hm;unfold oB at hcD
  split at hcD
  . rename_i c' d' cd' sl' ho;intro A' Q' E' s' k q;unfold isType loadHead;exact aA (wpAny_loadPart (k _ _ (X _ _ ho)) (aJ q))
  . cases hcD
 ne:=fun h tp dd its n sl X htp=>by
  have hm:=I.ob;unfold mroIn at hm;obtain⟨cd,hcD,hm⟩:=bnd hm;refine mE.mpr fun q=>?_;have e:C=tp:=Value.ref.inj (beq_iff_eq.mp q);subst e;unfold oB at hcD
  split at hcD
  . rename_i c' d' cd' sl' ho;have z:=(X _ _ ho).symm.trans htp;cases z
  . cases hcD
 ca:=fun {prog w A E Q s} X p k=>by
  obtain⟨o,h1,h2⟩:=p;obtain⟨h,g,d,t,os⟩:=s;exact x_attr X h1 h2 I k
end
theorem tW(o:Obj)(f:Array Value->Array Value):(Obj.mapFields f o).dict=o.dict:=by
 unfold Obj.mapFields
 split<;>rfl
def Fl2(B:Heap)(l:List Env)(e:aB)(cls:Value)(a0:Value×Option aB)(fl:Value)(h:Heap):Prop:=B.StaysIn h/\B.get? e=none/\h.FunFrames B l ∧
 ∃oe vs T oT ts,h.get? e=some oe/\((oe.cls=cls/\oe.dict=a0.2)/\vs[0]?=some a0.1/\vs[2]?=some .none)/\oe.data=.fields vs/\vs[1]?=some (.ref T)/\B.get? T=none/\T≠e/\h.get? T=some oT/\oT.data=.fields ts/\ts[3]?=some fl
section
variable{M:nX}{A:bR}{E:Value->aC->Prop}{s:aC}{B:Heap}{l outer:List Env}{env:Env}{e L:aB}{cls fl:Value}{a0:Value×Option aB}{oe:Obj}{vs:Array Value}{Q:Unit->aC->Prop}
theorem set2{v:Option aB}(R:Fl2 B l e cls a0 fl s.heap)(h:∀h',Fl2 B l e cls a0 (v.elim .none fun f=>gS f) h'->s.heap.UpToSlots h'->Q () { s with heap:=h' }):aU M A (setFlight (.ref e) v) Q E s:=by
 obtain⟨r1,r2,r3,oe,vs,T,oT,ts,q1,q2,q3,q4,q5,q6,q7,q8,q9⟩:=R;have hz:3<ts.size:=(lU.mp q9).1;have ot:∀b,b≠T->(s.heap.update T (Obj.mapFields (·.setIfInBounds 3 (v.elim .none fun f=>gS f)))).get? b=s.heap.get? b:=fun b hb=>bG _ _ (Ne.symm hb)
 have nr:∀b o,s.heap.get? b=some o->(∀vs,o.data≠.fields vs)->b≠T:=fun b o hb hn z=>by
  rw[z,q7] at hb;cases hb;exact hn _ q8
 unfold setFlight;refine aA (lP q1 q3 q4 ?_);rw[if_pos (by simp)];refine eT q7 q8 hz (h _ ⟨fun b o hb=>(ot b fun z=>?_).trans (r1 b o hb),r2,r3.of_keeps fun b o hb hn=>⟨o,(ot b (nr b o hb hn)).trans hb,rfl⟩,?_⟩ fun b o hb hn=>⟨o.slots,(ot b (nr b o hb hn)).trans hb⟩)
 . rw[z,q5] at hb;cases hb
 . exact⟨oe,vs,T,_,_,(ot e (Ne.symm q6)).trans q1,q2,q3,q4,q5,q6,cC _ q7 (Obj.isFreed_of_fields (Obj.data_mapFields q8 _)),Obj.data_mapFields q8 _,by simp[hz]⟩
theorem XG{head:Value}{had:Bool}(hfr:A.frames=some (env::outer))(hl:s.heap.FunFrames B (env::outer))(hf:env.frame=some L)(he:s.heap.get? e=some oe)(hk:B.StaysIn s.heap)(hn:B.get? e=none)(hd:oe.data=.fields vs)(hc:(oe.cls=cls/\oe.dict=a0.2)/\vs[0]?=some a0.1/\vs[2]?=some .none)(h:∀h',Fl2 B (env::outer) e cls a0 (gS L) h'->s.heap.UpToSlots h'->Q () { s with heap:=h' }) :
  aU M A (do let a <- frameOf env;let pl <- entryPlaceOf L had;let b <- EntryCells.newEntry head a .none (gS L) .none pl;pS (.ref e) 1 b) Q E s:=by
 have ne:e∉(env::outer).filterMap (·.frame):=fun hm=>by
  obtain⟨_,o,ho,hx⟩:=hl.mem hm;rw[he] at ho;cases ho;exact hx vs hd
 have hsz:1<vs.size:=by have:=(lU.mp hc.2.2).1;omega
 refine aA (wpAny_frameOf_fun hfr hl hf fun h1 s1=>aA (wpAny_entryPlaceOf fun pl hpl=>?_));unfold EntryCells.newEntry newFields;refine aA (dC ?_ (hpl.sizeOk5 _ _ _ _ _));have e1:h1.get? e=some oe:=(s1.2.1 e ne).trans he;have k1:B.StaysIn h1:=fun b o q=>(s1.2.1 b fun hm=>by rw[(hl.mem hm).1] at q;cases q).trans (hk b o q);have te:h1.objs.size≠e:=fR (aS e1);have ot:∀(O:Obj) b o,b≠e->h1.get? b=some o->((h1.push O).update e (Obj.mapFields (·.setIfInBounds 1 (Value.ref h1.objs.size)))).get? b=some o:=fun O b o hb q=>(bG _ _ (Ne.symm hb)).trans (aE _ q)
 have nr:∀b o,s.heap.get? b=some o->(∀vs,o.data≠.fields vs)->b≠e:=fun b o q hx z=>by
  rw[z,he] at q;cases q;exact hx vs hd
 have d3:=Obj.data_mapFields hd (·.setIfInBounds 1 (Value.ref h1.objs.size));refine eT (aE _ e1) hd hsz (h _ ⟨fun b o q=>ot _ b o (fun z=>by rw[z,hn] at q;cases q) (k1 b o q),hn,hl.of_keeps fun b o q hx=>?_,?_⟩ fun b o q hx=>?_)
 . obtain⟨sl, z⟩ := s1.2.2 b o q;exact⟨_,ot _ b _ (nr b o q hx) z,rfl⟩
 . refine ⟨_, _, h1.objs.size, _, _, cC _ (aE _ e1) (Obj.isFreed_of_fields d3), ⟨⟨(Obj.cls_mapFields _ _).trans hc.1.1, (tW _ _).trans hc.1.2⟩, ?_, ?_⟩, d3, by simp [hsz], k1.fresh, te, (bG _ _ (Ne.symm te)).trans (aX _ rfl), rfl, by first | (simp; done) | (rcases hpl with rfl | ⟨_, _, _, _, _, _, _, rfl⟩ <;> simp)⟩
   . rw[rD (by decide)];exact hc.2.1
   . rw[rD (by decide)];exact hc.2.2
 . obtain⟨sl, z⟩ := s1.2.2 b o q;exact⟨sl,ot _ b _ (nr b o q hx) z⟩
theorem note2(hfr:A.frames=some (env::outer))(hf:env.frame=some L)(R:Fl2 B (env::outer) e cls a0 .none s.heap)(h:∀h',Fl2 B (env::outer) e cls a0 (gS L) h'->s.heap.UpToSlots h'->Q () { s with heap:=h' }):aU M A (rC (.ref e) env) Q E s:=by
 obtain⟨r1,r2,r3,oe,vs,T,oT,ts,q1,q2,q3,q4,q5,q6,q7,q8,q9⟩:=R;have ot:∀b,b≠T->(s.heap.update T (Obj.mapFields (·.setIfInBounds 3 Value.none))).get? b=s.heap.get? b:=fun b hb=>bG _ _ (Ne.symm hb)
 have nr:∀b o,s.heap.get? b=some o->(∀vs,o.data≠.fields vs)->b≠T:=fun b o hb hn z=>by
  rw[z,q7] at hb;cases hb;exact hn _ q8
 unfold rC;simp only[hf];refine aA (lP q1 q3 q4 ?_);rw[if_pos (by simp)];refine aA (lP q7 q8 q9 ?_);rw[if_neg (by simp[gS])];refine aA (eT q7 q8 (lU.mp q9).1 ?_);exact XG hfr (r3.of_keeps fun b o hb hn=>⟨o,(ot b (nr b o hb hn)).trans hb,rfl⟩) hf ((ot e (Ne.symm q6)).trans q1) (fun b o hb=>(ot b fun z=>by rw[z,q5] at hb;cases hb).trans (r1 b o hb)) r2 q3 q2 fun h' f u=>h h' f fun b o hb hn=>u b o ((ot b (nr b o hb hn)).trans hb) hn
end
def HdA(A:bR)(H:Hp):Prop:=∃ea oe u vs,A.handled=some (.ref ea)/\H ea=some (.frz oe u)/\oe.data=.fields vs/\vs[2]?=some .none
def HdP(X:Cx):Prop:=HdA X.A X.H₀
open PySem.W (hideAll hideAll_get of_hideAll hideAll_none funFrames_hide excIn tail_of_in nsMap_none_of_in isNs_of_in)
theorem obj_get{P:aY}{w:bS}{H:Hp}{h:Heap}{a:aB}{o:HO}(x:ObjOk P w H h a o):∃u,h.get? a=some u:=by
 cases o with
 |lst xs=>obtain⟨_,_,_,_,e⟩:=x;exact⟨_,e⟩
 |tup xs=>obtain⟨_,_,_,_,e,_⟩:=x;exact⟨_,e⟩
 |dK kvs=>obtain⟨_,_,_,_,o,_,_,e,_⟩:=x;exact⟨_,e⟩
 |dT kvs=>obtain⟨_,_,_,_,o,_,_,e,_⟩:=x;exact⟨_,e⟩
 |set S n=>obtain⟨o,_,_,_,e,_⟩:=x;exact⟨_,e⟩
 |ins C dx fs=>obtain⟨_,_,_,e,_⟩:=x;exact⟨_,e⟩
 |own y=>obtain⟨_,e⟩:=x;exact⟨_,e⟩
 |xd fs=>obtain⟨_,⟨_,_,_,e,_⟩,_⟩:=x;exact⟨_,e⟩
 |rng lo hi=>obtain⟨_,_,_,e⟩:=x;exact⟨_,e⟩
 |frz ob u=>obtain⟨e,_⟩:=x;exact⟨_,e⟩
 |tbl ps=>obtain⟨_,e,_⟩:=x;exact⟨_,e⟩
 |met f y=>exact⟨_,(show h.get? a=some _ from x)⟩
 |ext φ=>obtain⟨_,⟨_,e⟩,_⟩:=x;exact⟨_,e⟩
structure Thrown(P:aY)(w:bS)(outer:List Env)(H:Hp)(s:aC)(cls:Value)(ea:aB)(a0:Value×Option aB)(B:Heap)(H':Hp)(h:Heap):Prop where
 fly:Fl2 B outer ea cls a0 .none h
 keep:∀b o,s.heap.get? b=some o->H b=none->b∉frs outer->B.get? b=some o
 there:∀b o,s.heap.get? b=some o->b∉frs outer->∃o',B.get? b=some o'
 slot:∀b o,s.heap.get? b=some o->b∈frs outer->∃sl,h.get? b=some { o with slots:=sl }
 free:∀b o,s.heap.get? b=some o->H b=none->H' b=none
 tups:∀b xs,H b=some (.tup xs)->H' b=some (.tup xs)
 frzs:∀b o u,H b=some (.frz o u)->H' b=some (.frz o u)
 tbls:∀b ps,H b=some (.tbl ps)->H' b=some (.tbl ps)
 hok:L2.HOk P w H' B
section
variable{P:aY}{w:bS}{outer:List Env}{H H':Hp}{s:aC}{cls:Value}{a0:Value×Option aB}{ea:aB}{B h h':Heap}
theorem Thrown.un(t:Thrown P w outer H s cls ea a0 B H' h):Un (frs outer) [] H H' s.heap h where
 keep:=fun b o e n hb _=>t.fly.1 b o (t.keep b o e n hb)
 slot:=fun b o e n hb _=>t.slot b o e hb
 free:=fun b o e n _=>t.free b o e n
 there:=fun b o e _=>by
  by_cases hb:b∈frs outer
  . obtain⟨sl,q⟩:=t.slot b o e hb;exact⟨_,q⟩
  . obtain⟨o',q⟩:=t.there b o e hb;exact⟨o',t.fly.1 b o' q⟩
 tups:=t.tups
 frzs:=t.frzs
 tbls:=t.tbls
theorem Thrown.hokh(t:Thrown P w outer H s cls ea a0 B H' h):L2.HOk P w H' h:=t.hok.kept t.fly.1
theorem Thrown.on(t:Thrown P w outer H s cls ea a0 B H' h)(f:Fl2 B outer ea cls a0 .none h')(u:h.UpToSlots h'):Thrown P w outer H s cls ea a0 B H' h' where
 fly:=f
 keep:=t.keep
 there:=t.there
 slot:=fun b o e hb=>by
  obtain⟨sl,q⟩:=t.slot b o e hb;obtain⟨_,ob,ho,hd⟩:=t.fly.2.2.1.mem hb;rw[q] at ho;cases ho;obtain⟨sl',q'⟩:=u b _ q hd;exact⟨sl',q'⟩
 free:=t.free
 tups:=t.tups
 frzs:=t.frzs
 tbls:=t.tbls
 hok:=t.hok
theorem Thrown.no(t:Thrown P w outer H s cls ea a0 B H' h):H' ea=none:=by
 cases q:H' ea with
 |none=>rfl
 | some u =>
   obtain⟨o,e⟩:=obj_get (t.hok _ _ q);rw[t.fly.2.1] at e;cases e
end
theorem JQ{P:aY}{w:bS}{H:Hp}{h:Heap}(x:L2.HOk P w H h)(l:List aB)(hl:∀b∈l,H b=none):L2.HOk P w H (hideAll h l):=fun a o e =>
 (x a o e).stay (fun b u hb q=>hideAll_get _ q fun z=>by
   rcases hb with rfl | hb
   . rw[hl _ z] at e;cases e
   . rw[hl _ z] at hb;cases hb) (fun _ q=>q) fun _ _ q=>q
noncomputable def CXM(P:aY)(w:bS):CXT:=fun outer H s E e s'=>∃ea cls a0 B H',e=.ref ea/\s'.os=s.os/\lN s'.gens/\Thrown P w outer H s cls ea a0 B H' s'.heap/\E cls a0.2 H'
abbrev bmVE:List Value:=[.type "ValueError",.type "Exception",.type "BaseException",.type "object"]
section
variable(X:Cx)(C:aB)
end
section
variable{C:aB}
end
open PySem.W (Looks looks_mroIn mroIn)
abbrev fS(X:Cx)(ea:aB)(xe:Value->aC->Prop)(H0:Hp:=X.H₀):Cx:={ X with A:=X.A.mark (some (.ref ea)),calm:=false,H₀:=H0,xe:=xe }
section
variable{aD:List (aB×Obj)}{σ : L2.St}{H:Hp}{s:aC}{ea:aB}{oe:Obj}{xe:Value->aC->Prop}
theorem QE(I:Inv X aD σ H s):Inv (fS X ea xe) aD σ H s:=by
 have ok:=I.ok;exact⟨⟨ok.mod,ok.kind,ok.glob,ok.blt,ok.above,ok.inj,ok.has,ok.cab,(fun z=>by cases z),ok.frames,ok.stk,ok.exf,ok.bs,ok.bsz,ok.noex,ok.exfs,ok.funs,ok.frf⟩,I.os,I.bare,I.base,I.loc,I.cell,I.free,I.freeC,I.pin,I.hok,I.len⟩
theorem JN{u:HO}(I:Inv X aD σ H s)(hH:H ea=some (.frz oe u))(h0:X.s₀.heap.get? ea=none)(nt:∀q,X.H₀ ea≠some (.tbl q))(nf:ea∉X.fs):Inv (fS X ea xe (upd X.H₀ ea (.frz oe u))) aD σ H s:=by
 have ok:=I.ok;have n0:∀{b:aB} {o:Obj},X.s₀.heap.get? b=some o->b≠ea:=fun e z=>by rw[z,h0] at e;cases e
 refine⟨⟨ok.mod,ok.kind,ok.glob,ok.blt,ok.above,ok.inj,ok.has,ok.cab,(fun z=>by cases z),ok.frames,ok.stk,ok.exf,fun b o e=>?_,⟨ok.bsz.1,ok.bsz.2.bm,fun x c P h1 h2=>?_⟩,ok.noex,ok.exfs,ok.funs,fun b hb=>?_⟩,I.os,I.bare,⟨fun b o e n=>?_,fun b o e n=>?_,fun b o e n=>?_,I.base.there,fun b xs e=>?_,fun b o u e=>?_,fun b q e=>?_⟩,I.loc,I.cell,I.free,I.freeC,I.pin,I.hok,I.len⟩
 . have := ok.bs b o e;exact⟨this.1,(zJ (n0 this.1)).trans this.2⟩
 . have := ok.bsz.2.tab x c P h1 h2;exact⟨this.1,(zJ (fun z:P=ea=>nt _ (z▸this.2))).trans this.2⟩
 . exact(zJ (fun z:b=ea=>nf (z▸hb))).trans (ok.frf b hb)
 . exact I.base.keep b o e ((zJ (n0 e)).symm.trans n)
 . exact I.base.slot b o e ((zJ (n0 e)).symm.trans n)
 . exact I.base.free b o e ((zJ (n0 e)).symm.trans n)
 . by_cases hb : b = ea
   . subst hb;cases(bY (o:=.frz oe u)).symm.trans e
   . exact I.base.tups b xs ((zJ hb).symm.trans e)
 . by_cases hb : b = ea
   . subst hb;cases bY.symm.trans e;exact hH
   . exact I.base.frzs b o _ ((zJ hb).symm.trans e)
 . by_cases hb : b = ea
   . subst hb;cases(bY (o:=.frz oe u)).symm.trans e
   . exact I.base.tbls b q ((zJ hb).symm.trans e)
theorem CQ{u:HO}{pins0:List (aB×Obj)}{σ0:L2.St}{H0:Hp}{s0:aC}(I0:Inv X pins0 σ0 H0 s0)(hn:H0 ea=none)(h0:X.s₀.heap.get? ea=none)(I:Inv (fS X ea xe (upd X.H₀ ea (.frz oe u))) aD σ H s):Inv X aD σ H s:=by
 have n0:∀{b:aB} {o:Obj},X.s₀.heap.get? b=some o->b≠ea:=fun e z=>by rw[z,h0] at e;cases e
 have ne:∀{b:aB} {v:HO},H0 b=some v->b≠ea:=fun e z=>by rw[z,hn] at e;cases e
 refine⟨I0.ok,I.os,I.bare,⟨fun b o e n=>I.base.keep b o e ?_,fun b o e n=>I.base.slot b o e ?_,fun b o e n=>I.base.free b o e ?_,I.base.there,fun b xs e=>I.base.tups b xs ?_,fun b o u e=>I.base.frzs b o u ?_,fun b q e=>I.base.tbls b q ?_⟩,I.loc,I.cell,I.free,I.freeC,I.pin,I.hok,I.len⟩
 . exact(zJ (n0 e)).trans n
 . exact(zJ (n0 e)).trans n
 . exact(zJ (n0 e)).trans n
 . exact(zJ (ne (I0.base.tups b xs e))).trans e
 . exact(zJ (ne (I0.base.frzs b o u e))).trans e
 . exact(zJ (ne (I0.base.tbls b q e))).trans e
theorem QD(I:Inv X aD σ H s)(hn:H ea=none)(h1:s.heap.get? ea=some oe)(h3:ea≠X.env.locals)(h0:X.s₀.heap.get? ea=none)(hc:∀v,oe.data≠.cell v)(hp:∀p∈X.pn++aD,p.1≠ea) :
  Inv X aD σ (upd H ea (.frz oe (.own ea))) s:=by
 have nz:∀b u,H b=some u->b≠ea:=fun b u e z=>by rw[z,hn] at e;cases e
 have n0:∀b o,X.s₀.heap.get? b=some o->b≠ea:=fun b o e z=>by rw[z,h0] at e;cases e
 refine⟨I.ok,I.os,I.bare,⟨I.base.keep,I.base.slot,fun b o e n hx=>?_,I.base.there,fun b xs e=>?_,fun b o u e=>?_,fun b ps e=>?_⟩,I.loc,I.cell,?_,fun x c e=>?_,fun p hpp=>?_,fun b u e=>?_,I.len⟩
 . rw[zJ (n0 b o e)];exact I.base.free b o e n hx
 . have:=I.base.tups b xs e;rw[zJ (nz b _ this)];exact this
 . have:=I.base.frzs b o u e;rw[zJ (nz b _ this)];exact this
 . have:=I.base.tbls b ps e;rw[zJ (nz b _ this)];exact this
 . rw[zJ (Ne.symm h3)];exact I.free
 . have hz:c≠ea:=by
    intro z;obtain⟨v,o,ho,hd⟩:=I.cell x c e;rw[z,h1] at ho;cases ho;exact hc v hd
   have:=I.freeC x c e;unfold FreeC at this ⊢;rw[zJ hz];exact this
 . obtain⟨q1, q2, q3, q4, q5⟩ := I.pin p hpp;exact⟨q1,by rw[zJ (hp p hpp)];exact q2,q3,q4,q5⟩
 . by_cases hb : b = ea
   . subst hb;rw[bY] at e;cases e;exact⟨h1,oe,h1⟩
   . rw[zJ hb] at e;exact(I.hok b u e).stay (fun _ _ _ q=>q) (fun c q=>by rw[zJ (nz c _ q)];exact q) fun c xs q=>by rw[zJ (nz c _ q)];exact q
theorem WL{i:Nat}{x:Str}{m:Str->Option Value}{h':Heap}{v:Option Value}{t':Nat}(I:Inv X aD σ H s)(hN:X.N.Nodup)(hi:X.N[i]?=some x)(hn:s.heap.Ns X.env.locals m)(hl:∀(i:Nat) (x:Str) (v:V),X.N[i]?=some x->σ[i]?=some (some v)->Vis X.env.scope x->∃u,RelV v u/\Look X.env s.heap m x u)(hn':h'.Ns X.env.locals (fun y=>if y=x then v else m y))(hs:Heap.SameBut X.env.locals s.heap h'):Inv X aD (σ.set i none) H { s with heap:=h',toks:=t' }:=by
 have cne:=I.cne;obtain⟨oL,_,_,hoL,_⟩:=id hn;refine⟨I.ok,I.os,I.bare,⟨fun b o e n hb hx=>?_,fun b o e n hb hx=>?_,I.base.free,fun b o e hx=>?_,I.base.tups,I.base.frzs,I.base.tbls⟩,⟨_,hn',fun j y v' e1 e2 e3=>?_⟩,fun y c e=>?_,I.free,I.freeC,fun p hp=>?_,fun b ob e=>?_,by simpa using I.len⟩
 . exact(hs.2 b (bE (bN (aS e) I.ok.above))).trans (I.base.keep b o e n hb hx)
 . obtain⟨sl, e1⟩ := I.base.slot b o e n hb hx;exact⟨sl,(hs.2 b (bE (bN (aS e) I.ok.above))).trans e1⟩
 . obtain⟨o', e1⟩ := I.base.there b o e hx;exact⟨o',(hs.2 b (bE (bN (aS e) I.ok.above))).trans e1⟩
 . by_cases hj : j = i
   . subst hj;have hiσ : j < σ.length:=by rw [I.len]; exact (aV.mp hi).1
     rw[bA hiσ] at e2;cases e2
   . rw [aG (Ne.symm hj)] at e2;obtain ⟨u',r',q⟩:=hl j y v' e1 e2 e3;refine ⟨u',r',?_⟩;rcases q with ⟨k,e⟩ | ⟨k,c,e,z⟩
     . refine .inl ⟨k, ?_⟩;have:y≠x:=fun e=>hj (tF hN e1 (e▸hi));simp[this,e]
     . exact .inr ⟨k,c,e,z.sameBut hs (cne y c e)⟩
 . obtain⟨w', z⟩ := I.cell y c e;exact⟨w',z.sameBut hs (cne y c e)⟩
 . obtain⟨e, n, ne, nf, d⟩ := I.pin p hp;exact⟨(hs.2 p.1 ne).trans e,n,ne,nf,d⟩
 . refine (I.hok b ob e).stay (fun c w' hc q => (hs.2 c ?_).trans q) (fun _ q => q) fun _ _ q => q;rintro rfl;have hfree:=I.free;rcases hc with rfl | hc
   . rw[hfree] at e;cases e
   . rw[hfree] at hc;cases hc
end
theorem Ok.setNo{K:Frag}{H₀ H:Hp}{O:aB->Prop}{σ : L2.St}{ds:List Sl}{hd:Hold}(o:Ok K H₀ H O σ ds hd)(i:Nat)(v:Option V):Ok K H₀ H O (σ.set i v) (ds.set i .no) hd:=by
 have own':∀{j:Nat},IsOwn (ds.set i .no) j->j≠i/\IsOwn ds j:=fun {j} ⟨l,e⟩=>by
  by_cases hj:j=i
  . subst hj
    by_cases hl:j<ds.length
    . rw[bA hl] at e;cases e
    . rw[aW (by simpa using hl)] at e;cases e
  . rw[aG (Ne.symm hj)] at e;exact⟨hj,l,e⟩
 refine⟨o.same,fun j l a e1 e2=>?_,o.dom,by simpa using o.len,fun j s e=>?_,fun j k a hjk hj hk e1 e2=>?_,o.hold,o.obs.tr (fun _ _ _ r _=>r) (fun j r t e=>by
  obtain⟨e1,hj⟩:=wC (fun r t=>by intro z;cases z) e
  exact⟨e1,by rw[aG (Ne.symm hj)]⟩) (fun j b oj ej=>by
  obtain⟨o1,hj⟩:=wZ (fun l=>by intro z;cases z) oj;rw[aG (Ne.symm hj)] at ej
  exact .inl ⟨o1,ej⟩)⟩
 . obtain⟨n1, h1⟩ := own' ⟨l, e1⟩;rw[aG (Ne.symm n1)] at e1 e2;exact o.fresh j l a e1 e2
 . by_cases hj : j = i
   . subst hj
     by_cases hl:j<ds.length
     . rw[bA hl] at e;cases e;exact jS
     . rw[aW (by simpa using hl)] at e;cases e
   . rw[aG (Ne.symm hj)] at e;rw[aG (Ne.symm hj)];exact o.sl j s e
 . obtain⟨n1, h1⟩ := own' hj;obtain⟨n2,h2⟩:=own' hk;rw[aG (Ne.symm n1)] at e1;rw[aG (Ne.symm n2)] at e2;exact o.apart j k a hjk h1 h2 e1 e2
theorem Ok.setX{K:Frag}{H₀ H:Hp}{O:aB->Prop}{σ : L2.St}{ds:List Sl}{hd:Hold}(o:Ok K H₀ H O σ ds hd){i t:Nat}{a C:aB}{ob:Obj}{u:HO}(h1:aQ K aP (xName t)=some (some (.ref C)))(h2:H a=some (.frz ob u))(h3:ob.cls=.ref C) :
  Ok K H₀ H O (σ.set i (some (.ref a))) (ds.set i (.exc t)) hd:=by
 have own':∀{j:Nat},IsOwn (ds.set i (.exc t)) j->j≠i/\IsOwn ds j:=fun {j} ⟨l,e⟩=>by
  by_cases hj:j=i
  . subst hj
    by_cases hl:j<ds.length
    . rw[bA hl] at e;cases e
    . rw[aW (by simpa using hl)] at e;cases e
  . rw[aG (Ne.symm hj)] at e;exact⟨hj,l,e⟩
 refine⟨o.same,fun j l a e1 e2=>?_,o.dom,by simpa using o.len,fun j s e=>?_,fun j k a hjk hj hk e1 e2=>?_,o.hold,o.obs.tr (fun _ _ _ r _=>r) (fun j r t e=>by
  obtain⟨e1,hj⟩:=wC (fun r t=>by intro z;cases z) e
  exact⟨e1,by rw[aG (Ne.symm hj)]⟩) (fun j b oj ej=>by
  obtain⟨o1,hj⟩:=wZ (fun l=>by intro z;cases z) oj;rw[aG (Ne.symm hj)] at ej
  exact .inl ⟨o1,ej⟩)⟩
 . obtain⟨n1, h1⟩ := own' ⟨l, e1⟩;rw[aG (Ne.symm n1)] at e1 e2;exact o.fresh j l a e1 e2
 . by_cases hj : j = i
   . subst hj
     by_cases hl:j<ds.length
     . rw[bA hl] at e;cases e;rw[bA (by rw[o.len];exact hl)];exact⟨C,ob,u,h1,h2,h3⟩
     . rw[aW (by simpa using hl)] at e;cases e
   . rw[aG (Ne.symm hj)] at e;rw[aG (Ne.symm hj)];exact o.sl j s e
 . obtain⟨n1, h1⟩ := own' hj;obtain⟨n2,h2⟩:=own' hk;rw[aG (Ne.symm n1)] at e1;rw[aG (Ne.symm n2)] at e2;exact o.apart j k a hjk h1 h2 e1 e2
section
variable{k j n:Nat}{R:List D->Bool}{C:aB}{x:Str}{p pos:Pos}{e:Expr}{es:List Expr}{g:FA}
theorem UL{f:FE}{e:Expr}(h:PV X e f)(hs:gG e none pos.line X.env=pure false:=by rfl):PSv X (.Expr e pos) (dropG f):=by
 obtain⟨t,ht,hf⟩:=h;refine⟨_,CC ht hs,fun H₀ H O σ ds hd out E o e' h=>?_⟩;unfold dropG at e';cases hh:f ds with
 |none=>rw[hh] at e';cases e'
 | some d =>
   rw[hh] at e';cases e';exact hf H₀ H O σ ds hd d _ o hh fun v H' s r=>h σ H' O (o.mono s)
end
open PySem.W (Looks looks_mroIn mroIn clsIn)
structure XCatch(K:Frag)(C S:aB):Prop where
 kit:lB K (.ref C) (.ref S)=some true
 be:mroIn K S (.type "BaseException")=some true
section
variable{prog:aY}{w:bS}{A:bR}{E:Value->aC->Prop}{h:Heap}{g:Array iY}{d:pD}{t:Nat}{os:RE}{a C S:aB}{o:Obj}{K:Frag}
theorem OA{M:nX}{Q:Bool->aC->Prop}(X:K.In h)(hx:h.get? a=some o)(hc:o.cls=.ref C)(hS:XCatch K C S)(hq:Q true ⟨h,g,d,t,os⟩) :
  aU M A (excMatches (.ref a) (.ref S)) Q E ⟨h,g,d,t,os⟩:=by
 have L0:=wD (M:=M) hx hc;have L1:=looks_mroIn (M:=M) X hS.be;obtain⟨L3,L4,L2⟩:=PySem.W.kit_cls (M:=M) X hS.kit;have f:=tc_notTuple;unfold excMatches
 repeat (first | with_reducible refine L0.at ?_ | with_reducible refine L1.at ?_ | with_reducible refine L2.at ?_ | with_reducible refine L3.at ?_ | with_reducible refine L4.at ?_ | with_reducible refine dQ hx ?_ | wp_step)
 exact hq
end
theorem OL{ea:aB}{H0:Hp}{xe0:Value->aC->Prop}{sts:List Stmt}{h:FS}{aD:List (aB×Obj)}{σ : L2.St}{H H₀ : Hp}{O:aB->Prop}{ds:List Sl}{hd:Hold}{out:Out}{D:Ends}{s:aC}(hs:∀xe,PSsv (fS X ea xe H0) sts h)(I:Inv (fS X ea xe0 H0) aD σ H s)(o:Ok X.K H₀ H O σ ds hd)(e:h ds=some out)(af:After X H₀ hd D out){EXC:Value->aC->Prop}{POST:Flow->aC->Prop}(hp:∀f s',SP (fS X ea EXC H0) aD D f s'->POST f s'):aU (aM X.prog X.w) (X.A.mark (some (.ref ea))) (execs sts X.env) POST EXC s:=by
 obtain⟨t,ht,hf⟩:=hs EXC;exact cB (ht aD s σ H D (I.wish EXC) (hf H₀ H O σ ds hd out D o e af)) hp (fun _ _ z=>z)
theorem KG{H₀ : Hp}{hd:Hold}{D:Ends}{i:Nat}{out:Out}(af:After X H₀ hd D (goneO i out)) :
  After X H₀ hd { nx:=fun σ H=>D.nx (σ.set i none) H,rt:=D.rt,bk:=fun σ H=>D.bk (σ.set i none) H,ct:=fun σ H=>D.ct (σ.set i none) H } out:=by
 cases out with
 |nx ds=>exact fun σ H O o=>af _ _ O (o.setNo i none)
 |bk ds=>exact fun σ H O o=>af _ _ O (o.setNo i none)
 |ct ds=>exact fun σ H O o=>af _ _ O (o.setNo i none)
 |rt r=>exact af
theorem BF{B h:Heap}{l:List Env}{e:aB}{cls:Value}{a0:Value×Option aB}(f:Fl2 B l e cls a0 .none h):e∉frs l/\∃oe,h.get? e=some oe/\oe.cls=cls/\(∀v,oe.data≠.cell v)/\∃vs,oe.data=.fields vs/\vs[2]?=some .none:=by
 obtain⟨_,_,f3,oe,vs,T,oT,ts,he,hc,hd,_⟩:=f;refine⟨fun z=>?_,oe,he,hc.1.1,(fun v q=>by rw[hd] at q;cases q),vs,hd,hc.2.2⟩;obtain⟨_,o,ho,hn⟩:=f3.mem z;rw[he] at ho;cases ho;exact hn vs hd
theorem WR{B h:Heap}{l:List Env}{e:aB}{cls:Value}{a0:Value×Option aB}(f:Fl2 B l e cls a0 .none h){oe:Obj}(he:h.get? e=some oe):oe.dict=a0.2:=by
 obtain⟨_,_,_,oe',vs,T,oT,ts,q,hc,_⟩:=f;rw[he] at q;cases q;exact hc.1.2
def tryE(X:Cx)(aD:List (aB×Obj))(D:Ends)(hs:List ExceptHandler):Value->aC->Prop:=fun e s₁=>aU (aM X.prog X.w) X.A (rC e X.env) (fun _ s₂=>aU (aM X.prog X.w) X.A (setFlight e none) (fun _ s₃=>aU (aM X.prog X.w) X.A (handleBy e X.env hs) (SP X aD D) X.xe s₃) X.xe s₂) X.xe s₁
def IsxOk(K:Frag)(cv:Value)(tb:List (Nat×Bool)):Prop:=∀t b,tb.lookup t=some b->∀C,aQ K aP (xName t)=some (some (.ref C))->XIn K C/\cO K (.ref C) cv=some b
def KL(K:Frag)(its:List Value)(tb:List (Nat×Bool)):Prop:=∀t b,tb.lookup t=some b->∀C,aQ K aP (xName t)=some (some (.ref C))->XIn K C/\fT K (.ref C) its=some b
theorem WH{K:Frag}{its:List Value}{t:Nat}{b:Bool}{C:aB}(n:aQ K aP (xName t)=some (some (.ref C)))(x:XIn K C)(k:fT K (.ref C) its=some b):KL K its [(t,b)]:=fun t' b' e C' n'=>by
 by_cases h:t'=t
 . subst h;simp[List.lookup] at e;subst e;rw[n] at n';cases n';exact⟨x,k⟩
 . have : (t'==t)=false := beq_eq_false_iff_ne.mpr h;simp[List.lookup,this] at e
theorem GQ:CallR X (.builtin "isinstance") (fun xs H Q=>∃a o u C c cv b,xs=[.ref a,c]/\clsV c cv/\H a=some (.frz o u)/\o.cls=.ref C/\XIn X.K C/\cO X.K (.ref C) cv=some b/\Q (.bl b) H):=by
 intro aD s σ H xs us Q I r h;obtain⟨a,o,v,C,c,cv,b,rfl,hc,ha,ho,hx,e,q⟩:=h;obtain⟨u,u2,rfl,ru,ru2⟩:=vals2 r
 have e2:u2=cv:=by
  cases c with
  |ty n=>cases(show cv=.type n from hc);cases(show u2=.type n from ru2);rfl
  |ref a=>cases(show cv=.ref a from hc);cases(show u2=.ref a from ru2);rfl
  |_=>exact(show False from hc).elim
 subst e2;cases(show u=Value.ref a from ru);have hg:s.heap.get? a=some o:=(show s.heap.get? a=some o/\ObjOk X.prog X.w H s.heap a v from I.hok a _ ha).1;exact cK (FI hx) I.kIn ⟨o,hg,ho⟩ e (fun z=>nomatch z) fun tk=>⟨.bl b,H,I.tok tk,rfl,q⟩
theorem AD:∀{l:List aB} {us:List Value},Vals (l.map V.ref) us->us=l.map Value.ref
 |[],_,.nil=>rfl
 | a :: l, _, .cons (b := u) r t => by
   rw[AD t,show u=Value.ref a from r];rfl
theorem QW:CallR X (.builtin "isinstance") (fun xs H Q=>∃(a:aB) (o:Obj) (u:HO) (C tp:aB) (Ds:List aB) (b:Bool),xs=[.ref a,.ref tp]/\H tp=some (.tup (Ds.map V.ref))/\H a=some (.frz o u)/\o.cls=.ref C/\XIn X.K C/\fT X.K (.ref C) (Ds.map Value.ref)=some b/\Q (.bl b) H):=by
 intro aD s σ H xs us Q I r h;obtain⟨a,o,v,C,tp,Ds,b,rfl,ht,ha,ho,hx,e,q⟩:=h;obtain⟨u,u2,rfl,ru,ru2⟩:=vals2 r;cases(show u=Value.ref a from ru);cases(show u2=Value.ref tp from ru2);have hg:s.heap.get? a=some o:=(show s.heap.get? a=some o/\ObjOk X.prog X.w H s.heap a v from I.hok a _ ha).1;obtain⟨_,its,rv,ot,hot,hotc,n,hotd⟩:=(show ObjOk X.prog X.w H s.heap tp (.tup (Ds.map V.ref)) from I.hok tp _ ht)
 obtain⟨c0,dd0,dat0,sl0⟩:=ot;simp only at hotc hotd;subst hotc hotd;rw[AD rv] at hot;exact PySem.W.kia_tup (FI hx) I.kIn ⟨o,hg,ho⟩ hot e (fun z=>nomatch z) fun tk=>⟨.bl b,H,I.tok tk,rfl,q⟩
def tCs(Ds:List aB):TA:=fun _ H Q=>Q (Ds.map V.ref) H
def PAc(X:Cx)(es:List Expr)(Ds:List aB):Prop:=PA X es (tCs Ds)
theorem pac_nil:PAc X [] []:=yW
theorem jP{x:Str}{pos:Pos}{es:List Expr}{D:aB}{Ds:List aB}(hm:X.mg x=some (.ref D))(h:PAc X es Ds)(hg:Gl X x:=by rfl)(hd:(x==("__debug__" : Str))=false:=by decide)(hs:aL (.Name x pos::es) X.env=(false,cM (.Name x pos) X.env)::aL es X.env:=by rfl):PAc X (.Name x pos::es) (D::Ds):=by
 have:=jF (CG (v:=.ref D) (pos:=pos) hg hm rfl hd) h hs;exact this
section
variable{en:Str}{i:Nat}{p pe pT pos:Pos}{tb:List (Nat×Bool)}
theorem vV{σ : L2.St}{H₀ H:Hp}{O:aB->Prop}{ds:List Sl}{hd:Hold}{d:D}(o:Ok X.K H₀ H O σ ds hd)(e:isxG i tb ds=some d):∃t b,ds[i]?=some (.exc t)/\tb.lookup t=some b/\d=.bl b:=by
 unfold isxG at e;cases hs:ds[i]? with
 |none=>rw[hs] at e;cases e
 | some s =>
   rw[hs] at e;cases s with
   | exc t =>
     simp only at e;cases hl:tb.lookup t with
     |none=>rw[hl] at e;cases e
     |some b=>rw[hl] at e;cases e;exact⟨t,b,rfl,hl,rfl⟩
   |no=>cases e
   |v d=>cases e
   |own l=>cases e
   |exf t fs=>cases e
   |fr l=>cases e
   |ob _ _=>cases e
theorem pv_isx{x:Str}(hm:X.mg "isinstance" = none)(hI:∃D,X.mg x=some (.ref D)/\IsxOk X.K (.ref D) tb)(hN:X.N[i]?=some en:=by rfl)(hv:Vis X.env.scope en:=by exact Or.inl rfl)(hde:(en==("__debug__" : Str))=false:=by decide)(hcd:(en==("__classdict__" : Str))=false:=by decide)(hg:Gl X "isinstance":=by rfl)(hgT:Gl X x:=by rfl)(h1:aL [.Name en pe,.Name x pT] X.env=(false,cM (.Name en pe) X.env)::aL [.Name x pT] X.env:=by rfl)(h2:aL [.Name x pT] X.env=(false,cM (.Name x pT) X.env)::aL [] X.env:=by rfl)(h3:(eF pos (aL [.Name x pT] X.env)).any (·.1)=false:=by rfl)(hd:(x==("__debug__" : Str))=false:=by decide):PV X (.Call (.Name "isinstance" p) [.Name en pe,.Name x pT] [] pos) (isxG i tb):=by
 obtain⟨D,hT,hI⟩:=hI;refine⟨_,xU GQ hg hm (by decide +kernel) (jF (yL hN hv hde hcd) (jF (CG (v:=.ref D) hgT hT rfl hd) yW h2) h1) (by decide) (by decide) h1 h3,fun H₀ H O σ ds hd d Q o e q=>?_⟩;obtain⟨t,b,hs,hl,rfl⟩:=vV o e;obtain⟨a,C,ob,u,q1,q2,q3,q4⟩:=o.readX hs;obtain⟨x1,x2⟩:=hI t b hl C q2;exact⟨.ref a,q1,a,ob,u,C,.ref D,.ref D,b,rfl,rfl,q3,q4,x1,x2,q _ H (Same.refl _) (.bl b)⟩
theorem ZP{x:Str}{T:String}(hm:X.mg "isinstance" = none)(hx:X.mg x=none)(hI:IsxOk X.K (.type T) tb)(hb:eA x=some (.type T):=by decide +kernel)(hN:X.N[i]?=some en:=by rfl)(hv:Vis X.env.scope en:=by exact Or.inl rfl)(hde:(en==("__debug__" : Str))=false:=by decide)(hcd:(en==("__classdict__" : Str))=false:=by decide)(hg:Gl X "isinstance":=by rfl)(hgT:Gl X x:=by rfl)(h1:aL [.Name en pe,.Name x pT] X.env=(false,cM (.Name en pe) X.env)::aL [.Name x pT] X.env:=by rfl)(h2:aL [.Name x pT] X.env=(false,cM (.Name x pT) X.env)::aL [] X.env:=by rfl)(h3:(eF pos (aL [.Name x pT] X.env)).any (·.1)=false:=by rfl)(hn:x≠"__name__":=by decide)(hd:(x==("__debug__" : Str))=false:=by decide):PV X (.Call (.Name "isinstance" p) [.Name en pe,.Name x pT] [] pos) (isxG i tb):=by
 refine⟨_,xU GQ hg hm (by decide +kernel) (jF (yL hN hv hde hcd) (jF (LY (v:=.ty T) hgT hx hb rfl hn hd) yW h2) h1) (by decide) (by decide) h1 h3,fun H₀ H O σ ds hd d Q o e q=>?_⟩;obtain⟨t,b,hs,hl,rfl⟩:=vV o e;obtain⟨a,C,ob,u,q1,q2,q3,q4⟩:=o.readX hs;obtain⟨x1,x2⟩:=hI t b hl C q2;exact⟨.ref a,q1,a,ob,u,C,.ty T,.type T,b,rfl,rfl,q3,q4,x1,x2,q _ H (Same.refl _) (.bl b)⟩
theorem ZO{es:List Expr}{Ds:List aB}{x1}(hm:X.mg "isinstance" = none)(hP:PAc X es Ds)(hI:KL X.K (Ds.map Value.ref) tb)(hz:Ds.length<=100:=by first | decide | simp)(hN:X.N[i]?=some en:=by rfl)(hv:Vis X.env.scope en:=by exact Or.inl rfl)(hde:(en==("__debug__" : Str))=false:=by decide)(hcd:(en==("__classdict__" : Str))=false:=by decide)(hg:Gl X "isinstance":=by rfl)(h1:aL [.Name en pe,.Tuple es x1 pT] X.env=(false,cM (.Name en pe) X.env)::aL [.Tuple es x1 pT] X.env:=by rfl)(h2:aL [.Tuple es x1 pT] X.env=(false,cM (.Tuple es x1 pT) X.env)::aL [] X.env:=by rfl)(h3:(eF pos (aL [.Tuple es x1 pT] X.env)).any (·.1)=false:=by rfl) :
  PV X (.Call (.Name "isinstance" p) [.Name en pe,.Tuple es x1 pT] [] pos) (isxG i tb):=by
 refine⟨_,xU QW hg hm (by decide +kernel) (jF (yL hN hv hde hcd) (jF (UU hP) yW h2) h1) (by decide) (by decide) h1 h3,fun H₀ H O σ ds hd d Q o e q=>?_⟩;obtain⟨t,b,hs,hl,rfl⟩:=vV o e;obtain⟨a,C,ob,u,q1,q2,q3,q4⟩:=o.readX hs;obtain⟨x1,x2⟩:=hI t b hl C q2;refine⟨.ref a,q1,?_,fun tp htp=>?_⟩
 . show (Ds.map V.ref).length <= sizeLine;have:(100:Nat)<=sizeLine:=by decide
   simp;omega
 . have na : a ≠ tp := fun z => by rw [z, htp] at q3; cases q3
   refine⟨a,ob,u,C,tp,Ds,b,rfl,bY,by rw[zJ na];exact q3,q4,x1,x2,q _ _ (fun b' o' e'=>?_) (.bl b)⟩;rw[zJ (fun z=>by rw[z,htp] at e';cases e')];exact e'
end
structure XT(K:Frag)(mg:Str->Option Value)(t:Nat)(x:Str)(C S:aB):Prop where
 nm:aQ K aP (xName t)=some (some (.ref C))
 gl:mg x=some (.ref S)
 cat:XCatch K C S
section
variable{m:Str}{k j:Nat}{cs:List Nat}{F:Nat->List D->Option Ret}{o:Expr}{apos pos:Pos}{fo:FE}
end
section
variable{C:aB}{x:Str}{p pos:Pos}
end
theorem JK{K:Frag}{C C':aB}(u:mQ K C=true)(y:nA K (.ref C)=some (.type "type"))(s:iQ K (.ref C') (.ref C)=some true):lB K (.ref C') (.ref C)=some true:=by
 unfold lB;simp only;rw[show(oB K C).isSome=true from u,y,if_pos (by simp),s]
theorem WE{K:Frag}{C':aB}{T:String}(u:NS T=true)(s:iQ K (.ref C') (.type T)=some true):cO K (.ref C') (.type T)=some true:=by
 unfold cO
 split
 . rfl
 . unfold lB;simp only;rw[u,if_pos rfl,s]
theorem JL{K:Frag}{t:Value}: fT K t []=some false:=rfl
theorem qZ{K:Frag}{t c:Value}{r:List Value}{b:Bool}(h:cO K t c=some false)(h2:fT K t r=some b):fT K t (c::r)=some b:=by
 unfold fT;rw[h];exact h2
section
variable{K:Frag}{H:Hp}{O:aB->Prop}{a:aB}{xs ys:List V}
end
section
variable(X:Cx)(E:XK)(C:aB)
def PSsAny(st:List Stmt):Prop:=∃t,PSs X st t
end
section
variable{E:XK}{C:aB}
theorem PSsv.any{st:List Stmt}{g:FS}(h:PSsv X st g):PSsAny X st:=let ⟨t,ht,_⟩:=h;⟨t,ht⟩
section
variable{k j n:Nat}{R:List D->Bool}{x:Str}{p pos:Pos}{e:Expr}{es:List Expr}{g:FA}
end
end
section
variable{E:XK}{C:aB}{t k j n:Nat}{R:List D->Bool}{x:Str}{p pos:Pos}{e:Expr}{es:List Expr}{g:FA}
end
structure RoomH(k:Nat)(A:bR):Prop where
 dp:A.depth+3*k+5<recursionLimit
 un:A.units+16*k+200<cLine
theorem RoomH.of{k:Nat}{A:bR}{v:Option Value}(r:Room k A):RoomH k (A.mark v):=⟨r.dp,r.un⟩
theorem RoomH.mono{j k:Nat}{A:bR}(r:RoomH k A)(h:j<=k):RoomH j A:=⟨by have:=r.dp;omega,by have:=r.un;omega⟩
theorem RoomH.depth{k:Nat}{A:bR}(r:RoomH k A):A.depth<recursionLimit:=by have:=r.dp;omega
section
variable{k j i:Nat}{F:Nat->Option Ret}{x en:Str}{p pe pos:Pos}
end
theorem MO{K:Frag}{cv:Value}: IsxOk K cv []:=fun t b e=>by cases e
theorem WI{K:Frag}{cv:Value}{t:Nat}{b:Bool}{C:aB}{tb:List (Nat×Bool)}(n:aQ K aP (xName t)=some (some (.ref C)))(x:XIn K C)(k:cO K (.ref C) cv=some b)(r:IsxOk K cv tb):IsxOk K cv ((t,b)::tb):=fun t' b' e C' n'=>by
 by_cases h:t'=t
 . subst h;simp[List.lookup] at e;subst e;rw[n] at n';cases n';exact⟨x,k⟩
 . have hf : (t'==t)=false := beq_eq_false_iff_ne.mpr h;simp only[List.lookup,hf] at e;exact r t' b' e C' n'
end FL
namespace L2
end L2
namespace FL
end FL
namespace L2
theorem Inv.drw{aD:List (aB×Obj)}{s:aC}{σ}{H:Hp}(I:Inv X aD σ H s)(d:pD):Inv X aD σ H { s with drawn:=d }:=
 I.step (h':=s.heap) (H':=H) (g':=s.gens) (t':=s.toks) (d':=d) (ch:=[]) (fun _ z=>nomatch z) (fun b o _ _ _ e _=>e) (fun b o _ _ _ e _=>⟨o.slots,e⟩) (fun _ _ _ _ n=>n) (fun b o _ e=>⟨o,e⟩)
  (fun _ _ e=>e) (fun _ _ _ e=>e) (fun _ _ e=>e) (fun m hm=>hm) I.hok I.bare
theorem AE:∀{us:List Value} {ns:List Int},eB us ns->Vals (ns.map V.int) us
 |_,_,.nil=>.nil
 |_,_,.cons n t h=>.cons ⟨t,rfl⟩ (AE h)
def tSrtS(ta:TA)(K:aR):TE:=fun σ H Q=>ta σ H fun vs H1=>∃(p:aB) (ns:List Int),vs=[.ref p]/\SqL K H1 p (ns.map V.int)/\ns.length+1<4096/\∀l,H1 l=none->Q (.ref l) (upd H1 l (.lst ((FL.srtU ns).map V.int)))
theorem pe_srtS{a:Expr}{ta:TA}{p p2 pos pos2:Pos}(hc:X.calm=true)(hgl:Gl X "sorted")(hml:X.mg "sorted" = none)(hg:Gl X "set")(hm:X.mg "set" = none)(ha:PA X [a] ta)(hl:aL [.Call (.Name "set" p2) [a] [] pos2] X.env=[(false,cM (.Call (.Name "set" p2) [a] [] pos2) X.env)]:=by rfl)(hs:aL [a] X.env=[(false,cM a X.env)]:=by rfl) :
  PE X (.Call (.Name "sorted" p) [.Call (.Name "set" p2) [a] [] pos2] [] pos) (tSrtS ta X.K):=by
 intro aD s σ H Q I h;refine eU (xJ I hgl hml (show eA "sorted" = some (.builtin "sorted") by decide +kernel) ?_);refine oC ?_ hl rfl;rw[hl];show aU _ _ (spliced ((false,cM (.Call (.Name "set" p2) [a] [] pos2) X.env)::eF pos [])) _ _ s;refine Calls.spliced_cons ?_;refine Call_ (xJ I hg hm (show eA "set" = some (.type "set") by decide +kernel) (dO (thn (ha pos2 aD s σ H _ I h) fun us s1 zq=>?_) hs rfl));obtain⟨vs,H1,I1,r1,q1⟩:=zq;obtain⟨l,ns,e,hq,hz0,q⟩:=q1;subst e;obtain⟨u,rfl,ru⟩:=vals1 r1;cases ru;obtain⟨its,rv,pl,hz⟩:=I1.list hq;have hi:eB its ns:=JO rv;have hlen:=rv.length;have hil:=eB.length hi;refine TS.call_set (I.ok.hd hc) pl.isList (by simpa using hi) (by simp only[bB];unfold scanBound;omega) fun h' tk hS hk=>?_;have I2:Inv X aD σ H1 { s1 with heap:=h',toks:=tk }:=I1.kept hk;refine Calls.spliced_nil ?_;refine TS.sorted_set (s:={ s1 with heap:=h',toks:=tk }) (I.ok.hd hc) hS (by simp only[bB];rw[iN];omega) fun h1 h2 d tk2 vs' ks e k1 k2 hL hI' hlt hm hle=>?_;have en:ks=FL.srtU ns:=FL.lt_unique _ _ (fun k=>(hm k).trans (FL.mem_srtU k ns).symm) hlt (FL.srtU_lt ns);have I3:Inv X aD σ H1 { s1 with heap:=h1,drawn:=d,toks:=tk2 }:=Inv.kept (s:={ s1 with heap:=h',drawn:=d,toks:=tk }) (I2.drw d) k1;refine⟨.ref h1.objs.size,_,Inv.laid (s:={ s1 with heap:=h1,drawn:=d,toks:=tk2 }) I3 (t':=tk2) k2 (aO _) (show ObjOk X.prog X.w _ h2 _ (.lst ((FL.srtU ns).map V.int)) from ⟨?_,vs',e,?_,hL⟩),rfl,q _ (I3.hok.fresh (aO _))⟩
 . have h1 := eB.length hI';rw[<- en,cH];simp only[bB] at hle;rw[iN];omega
 . rw[<- en];exact AE hI'
end L2
namespace FL
theorem AN{K:Frag}{H:Hp}{O:aB->Prop}:∀ns:List Int,Reps K H O (ns.map V.int) (ns.map D.int)
 |[]=>.nil
 |n::ns=>.cons (.int n) (AN ns)
theorem uP{e:Expr}{f:FE}{p p2 pos pos2:Pos}(hc:X.calm=true)(hml:X.mg "sorted" = none)(hm:X.mg "set" = none)(he:PVw X e f)(hgl:Gl X "sorted":=by rfl)(hg:Gl X "set":=by rfl)(hl:aL [.Call (.Name "set" p2) [e] [] pos2] X.env=[(false,cM (.Call (.Name "set" p2) [e] [] pos2) X.env)]:=by rfl)(hs:aL [e] X.env=[(false,cM e X.env)]:=by rfl) :
  PVf X (.Call (.Name "sorted" p) [.Call (.Name "set" p2) [e] [] pos2] [] pos) (srtSA f):=by
 obtain⟨te,pe,he⟩:=he;refine⟨_,pe_srtS hc hgl hml hg hm (jF pe yW hs) hl hs,fun H₀ H O σ ds hd l Q o e q=>?_⟩;unfold srtSA at e;obtain⟨d,h1,e⟩:=bnd e;refine he H₀ H O σ ds hd _ _ o h1 fun v H1 s1 r1=>?_;cases d<;>first | (cases e;done) | skip
 rename_i l';simp only at e;obtain⟨ns,hb,e⟩:=bnd e
 split at e
 . rename_i hz;cases e;obtain ⟨a1,xs,rfl,hq,rs⟩:=r1.seqL;refine ⟨a1,ns,rfl,?_,hz,fun p hp=>?_⟩
   . rw[<- FN rs hb];exact hq
   . exact q p _ _ (s1.trans (qB hp _)) (s1.free hp) bY (AN _)
 . cases e
end FL
namespace L2
section
variable{prog:aY}{w:bS}{A:bR}{E:Value->aC->Prop}{s:aC}
open HT in
theorem uQ{t sl:aB}{items:Array Value}{vl vu:Value}{lo hi:Option Int}{Q:Value->aC->Prop}(ht:IsTup s.heap t items)(hs:s.heap.IsSliceOf sl vl vu .none)(pl:pX vl lo)(pu:pX vu hi)(hw:sIx items.size 0 lo=0/\sIx items.size items.size hi=items.size)(h:Q (.ref t) s):aU (aM prog w) A (uE (.ref t) (.ref sl)) Q E s:=by
 obtain⟨os,hos,hcs,hds⟩:=id hs;have hTs:s.TypeIs (.ref sl) "slice":=⟨os,hos,hcs⟩
 unfold uE
 try with_reducible refine cU ?_
 first | refine aA (aJ ?_) | skip
 refine aA (wpAny_sequenceKey ht.typeIs (by decide) ?_)
 refine aA (nU (name:=Str.ofString "__getitem__") ht.typeIs cY
  (fP cY ht.typeIs entry_tuple_getitem ?_ (args_tuple_getitem _ _)))
 show aU _ _ (Builtin.Tuple.tupleItemsOf (.ref t) >>= _) _ _ s;refine aA (tupleItemsOf_ ht (aA (iV hTs ?_)));rw[if_pos (by decide)];refine aA (mH hs pl pu ?_);show aU _ _ (if (((sIx items.size 0 lo:Nat):Int)==0&&(1:Int)==1&&(sIx items.size items.size hi-sIx items.size 0 lo)==items.size)=true then _ else _) _ _ s;rw[if_pos (by rw[hw.1,hw.2];simp)];refine aA ?_;unfold Builtin.Tuple.tupleIsExact;refine aA (iV (T:="tuple") ht.typeIs (aJ ?_));rw[if_pos (by decide)];exact aA (gQ (aJ ⟨_,rfl,aJ h⟩))
end
def rSlW(K:aR):V->Option Int->Option Int->Hp->VK->Prop:=fun x lo hi H Q=>∃a xs,x=.ref a/\SqT K H a xs ∧
 ((¬ (HT.sIx xs.length 0 lo = 0 /\ HT.sIx xs.length xs.length hi = xs.length) /\ ∀ p, H p = none -> Q (.ref p) (upd H p (.tup (cutV xs lo hi)))) ∨
   ((HT.sIx xs.length 0 lo=0/\HT.sIx xs.length xs.length hi=xs.length)/\Q (.ref a) H))
theorem ZC:SlR X (rSlW X.K):=by
 intro aD s σ H x v vl vu lo hi sl Q I rx hs pl pu h;obtain⟨a,xs,rfl,hx,h⟩:=h;rcases h with⟨hw,q⟩ | ⟨hw,q⟩
 . exact sl_tup aD s σ H _ v vl vu lo hi sl Q I rx hs pl pu ⟨a,xs,rfl,hx,hw,q⟩
 . cases rx;obtain ⟨its,r,ht,hz⟩:=I.tuple hx;have hlen:its.toArray.size=xs.length:=by rw [bB]; exact r.length.symm
   refine⟨"tuple",_,cY.lookup,ht.typeIs,?_⟩;exact uQ ht hs pl pu (by rw[hlen];exact hw) ⟨.ref a,H,I,rfl,q⟩
end L2
namespace FL
theorem KA(l:List D)(a b:Option Int)(h:HT.sIx l.length 0 a=0/\HT.sIx l.length l.length b=l.length):cutD l a b=l:=by
 unfold cutD;rw[h.1,h.2];simp
theorem LO{e:Expr}{lo hi:Option Expr}{f:FE}{gl gh:List Sl->Option (Option Int)}{p2 pos:Pos}(he:PVw X e f)(hl:POv X lo gl)(hh:POv X hi gh):PV X (.Subscript e (.Slice lo hi none p2) pos) (sltW f gl gh):=by
 obtain⟨te,pe,he⟩:=he;obtain⟨tl,pl,hl⟩:=hl;obtain⟨th,ph,hh⟩:=hh;refine⟨_,EU ZC pe pl ph,fun H₀ H O σ ds hd d' Q o e q=>?_⟩;unfold sltW at e;obtain⟨d,h1,e⟩:=bnd e;obtain⟨a,h2,e⟩:=bnd e;obtain⟨b,h3,e⟩:=bnd e;cases d<;>first | (cases e;done) | skip
 simp only at e;cases e;refine he H₀ H O σ ds hd _ _ o h1 fun v H1 s1 r1=>?_;refine hl H₀ H1 O σ ds hd _ _ (o.mono s1) h2 fun H2 s2=>?_;refine hh H₀ H2 O σ ds hd _ _ ((o.mono s1).mono s2) h3 fun H3 s3=>?_;have rr:=(r1.mono s2).mono s3;obtain⟨a1,xs,rfl,hq,rs⟩:=rr.seqT;have ss:=(s1.trans s2).trans s3;refine⟨a1,xs,rfl,hq,?_⟩
 by_cases hw:HT.sIx xs.length 0 a=0/\HT.sIx xs.length xs.length b=xs.length
 . refine .inr ⟨hw, ?_⟩;rw [rs.length] at hw;rw [KA _ _ _ hw] at q;refine q _ _ ss ?_;rcases rr with rr | ⟨_,_,_,_,e,_⟩
   . exact rr
   . cases e
 . refine .inl ⟨hw, fun p hp => ?_⟩;refine q _ _ (ss.trans (qB hp _)) ?_;exact .tup (((o.mono ss).free hp)) (.inl bY) ((GG rs).mono (qB hp _))
open PySem.W (tabIn CodeHd tabObj kla_eval kla_makeFunction kla_makeFunctionHit kla_obj kla_fn kla_callFunE kla_codeExpr FnAt callWith_F envX)
section
variable{aD:List (aB×Obj)}{σ : L2.St}{H H':Hp}{s s':aC}{cs:List aB}
end
section
variable{K:Frag}{H:Hp}{O:aB->Prop}{cs:List aB}
end
theorem LamAt.mono{H H':Hp}{O:aB->Prop}{f:aB}{t:LamT}{cl:List (Str×aB)}(k:Same H H')(h:LamAt H O f t cl):LamAt H' O f t cl:=h.keep (.of_same k)
open PySem.W (tabIn CodeHd tabObj kla_callFunE kla_codeExpr FnAt callWith_F envX)
section
variable{k j' n m j:Nat}{F:List D->Option Ret}{x y:Str}{p pos:Pos}{e:Expr}{es:List Expr}{g:FA}{is:List Nat}{t:LamT}{st:Stmt}{f c P:aB}
end
theorem ClosOk.get{H:Hp}{O:aB->Prop}:∀{cl:List (Str×aB)} {xs:List V},ClosOk H O cl xs->∀{i:Nat} {v:V},xs[i]?=some v->∃p o u w,cl[i]?=some p/\H p.2=some (.frz o u)/\o.data=.cell (some w)/\RelV v w
 |_,_,.nil,_,_,h=>by cases h
 |_,_,.cons no h d r t,0,v,hv=>by cases hv;exact⟨_,_,_,_,rfl,h,d,r⟩
 |_,_,.cons no h d r t,i+1,v,hv=>t.get hv
theorem ClosOk.length{H:Hp}{O:aB->Prop}:∀{cl:List (Str×aB)} {xs:List V},ClosOk H O cl xs->cl.length=xs.length
 |_,_,.nil=>rfl
 |_,_,.cons no h d r t=>by simp[t.length]
theorem YZ{K:Frag}{m n:Nat}{t:LamT}(h:IH K m n=some t):m≠1000:=by
 rintro rfl;have e:makers[1000]?=none:=by decide
 unfold IH at h;rw[e] at h;cases h
def FnIn(K:Frag)(j:Nat):Prop:=∃(f:aB) (oc:Value) (od:Option aB) (fd:bQ) (osl:Array (Option Value)),aQ K aP (rF j)=some (some (.ref f))/\K.lookup f=some ⟨oc,od,.func fd,osl⟩
structure FnV(K:Frag)(mg:Str->Option Value)(j:Nat):Prop where
 ex:∃f:aB,aQ K aP (rF j)=some (some (.ref f))/\mg (rF j)=some (.ref f)
def nZ(P:aY)(w:bS)(K:Frag)(mg:Str->Option Value)(base:Heap)(k m n:Nat)(F:List D->List D->Option Ret):Prop:=∀(A:bR) (outer:List Env) (s:aC) (H:Hp) (f:aB) (caps:List D) (us:List Value) (vs:List V) (as:List D) (r:Ret) (Q:VK),Room k A->Env0 P w K mg base A outer s H →
 Rep K H jR (.ref f) (.clo m n caps)->Vals vs us->Reps K H jR vs as->F caps as=some r->(∀v H',Same H H'->RetOk K H H' v r->Q v H')->fK (aM P w) A (.call (.ref f) ⟨us,[]⟩) (CR CX0 outer P w H s Q E0) s
structure CloOk(P:aY)(w:bS)(K:Frag)(mg:Str->Option Value)(base:Heap)(k:Nat)(Φ : Fun2):Prop where
 hold:∀(H:Hp) (h:Heap) (v:V) (d:D) (as:List D) (r:Ret),Rep K H jR v d->Φ d as=some r->L2.HOk P w H h->K.In h->∃f,v=.ref f/\FnAt f h
 run:∀(A:bR) (outer:List Env) (s:aC) (H:Hp) (f:aB) (d:D) (us:List Value) (vs:List V) (as:List D) (r:Ret) (Q:VK),Room k A->Env0 P w K mg base A outer s H->Rep K H jR (.ref f) d->Vals vs us->Reps K H jR vs as->Φ d as=some r->(∀v H',Same H H'->RetOk K H H' v r->Q v H') →
  fK (aM P w) A (.call (.ref f) ⟨us,[]⟩) (CR CX0 outer P w H s Q E0) s
theorem vI{α β : Type}[BEq α][LawfulBEq α]:∀{l:List (α×β)} {x : α} {a : β},l.lookup x=some a->(x,a)∈l
 |[],_,_,h=>by cases h
 | (y, b) :: r, x, a, h => by
   rw[cG] at h;cases hx:x==y with
   |true=>rw[hx] at h;cases h;rw[beq_iff_eq.mp hx];exact aF
   |false=>rw[hx] at h;exact aI _ (vI h)
structure CalV(P:aY)(w:bS)(K:Frag)(mg:Str->Option Value)(base:Heap)(j k n:Nat)(F:List D->Option Ret):Prop where
 ex:∃(f:aB) (fd:bQ) (ps:List Str) (oc:Value) (od:Option aB) (osl:Array (Option Value)),FnOk P w K mg base CX0 k f fd ps (spF K n F)/\Binds K fd ps []/\aQ K aP (rF j)=some (some (.ref f))/\K.lookup f=some ⟨oc,od,.func fd,osl⟩
theorem CalV.fin{P:aY}{w:bS}{K:Frag}{mg:Str->Option Value}{base:Heap}{j k n:Nat}{F:List D->Option Ret}(C:CalV P w K mg base j k n F):FnIn K j:=by
 obtain⟨f,fd,ps,oc,od,osl,_,_,h1,h2⟩:=C.ex;exact⟨f,oc,od,fd,osl,h1,h2⟩
theorem fn_good{P:aY}{w:bS}{K:Frag}{mg:Str->Option Value}{base:Heap}{j k n:Nat}{F:List D->Option Ret}(C:CalV P w K mg base j k n F):nZ P w K mg base k 1000 j (fnF n F):=by
 intro A outer s H f caps us vs as r Q hr e0 hrep rv ra hF q;obtain⟨f',fd,ps,oc,od,osl,Fn,hb,h1,h2⟩:=C.ex;unfold fnF at hF
 split at hF
 . rename_i hl;cases hrep with
   |clo tx la e nd hco rx=>exact absurd rfl (YZ tx)
   | fnK h =>
     rw[h1] at h;cases h;have KX:K.In s.heap:=e0.mod.kin.keeps fun b o e=>(e0.bs b o e).1;have sp:spF K n F vs H Q E0:=⟨ra.length.trans hl,as,r,ra,hF,q⟩
     have hul:us.length=ps.length:=by rw[<- rv.length];exact Fn.len _ _ _ _ sp
     have bd:=hb s us KX (by rw[dG];exact hul);rw[dG] at bd;exact Fn.run A outer s H ⟨us,[]⟩ us vs Q E0 hr e0 bd rv sp
 . cases hF
theorem clo_of{P:aY}{w:bS}{K:Frag}{mg:Str->Option Value}{base:Heap}{k:Nat}{l:List ((Nat×Nat)×(List D->List D->Option Ret))}(h:∀p∈l,nZ P w K mg base k p.1.1 p.1.2 p.2)(hf:∀p∈l,p.1.1=1000->FnIn K p.1.2):CloOk P w K mg base k (phiOf l):=by
 refine⟨fun H hp v d as r rep e ok kin=>?_,fun A outer s H f d us vs as r Q hr e0 rep rv ra e q=>?_⟩
 . cases d with
   | clo m n caps =>
     cases rep with
     | clo tx la e nd hco rx =>
       obtain⟨_,o,oc,u,uc,fd,c,wsv,tq,h1,h2,h3,_⟩:=la;have ho:=(ok _ _ h1).1;obtain⟨a1,a2,a3,a4⟩:=o;cases h3;exact⟨_,rfl,_,_,_,_,ho⟩
     | fnK hk =>
       have e:((l.lookup (1000,n)).bind fun F=>F [] as)=some r:=e;obtain⟨F,hF,e⟩:=bnd e;obtain⟨f',oc,od,fd,osl,h1,h2⟩:=hf _ (vI hF) rfl;rw[h1] at hk;cases hk;exact⟨_,rfl,_,_,_,_,kin _ _ h2⟩
   |_=>cases e
 . cases d with
   | clo m n caps =>
     have e:((l.lookup (m,n)).bind fun F=>F caps as)=some r:=e;obtain⟨F,hF,e⟩:=bnd e;exact h _ (vI hF) A outer s H f caps us vs as r Q hr e0 rep rv ra e q
   |_=>cases e
section
variable{k j i:Nat}{Φ : Fun2}{x:Str}{p pos:Pos}{e:Expr}{es:List Expr}{g:FA}
theorem pv_fn{j:Nat}{pos:Pos}{x:Str}(V:FnV X.K X.mg j)(hx:rF j=x:=by rfl)(hg:Gl X x:=by rfl)(hdb:(x==("__debug__" : Str))=false:=by decide):PV X (.Name x pos) (zA (.clo 1000 j [])):=by
 obtain⟨f,h1,h2⟩:=V.ex;subst hx;refine⟨_,CG (v:=.ref f) hg h2 rfl hdb,fun H₀ H O σ ds hd d Q o e q=>?_⟩;cases e;exact q _ H (Same.refl _) (.fnK h1)
theorem UE(CO:CloOk X.prog X.w X.K X.mg X.base k Φ)(hr:Room j X.A)(ha:PAn X (e::es) g)(hj:k<=j:=by decide)(hN:X.N[i]?=some x:=by rfl)(hv:Vis X.env.scope x:=by first | exact Or.inl rfl | exact Or.inr (Or.inl rfl) | exact Or.inr (Or.inr rfl))(hdb:(x==("__debug__" : Str))=false:=by decide)(hcd:(x==("__classdict__" : Str))=false:=by decide)(he:aL (e::es) X.env=(false,cM e X.env)::aL es X.env:=by rfl)(hpl:(eF pos (aL es X.env)).any (·.1)=false:=by rfl):PV X (.Call (.Name x p) (e::es) [] pos) (callW Φ i g):=by
 obtain⟨t,ht,hf⟩:=ha;refine⟨fun σ H Q=>∀aD s,Inv X aD σ H s->aU (aM X.prog X.w) X.A (cM (.Call (.Name x p) (e::es) [] pos) X.env) (EP X aD σ Q) X.xe s,fun aD s σ H Q I h=>h aD s I,fun H₀ H O σ ds hd d Q o ee q aD s I=>?_⟩;unfold callW at ee;obtain⟨fd,h1,ee⟩:=bnd ee;obtain⟨l,h2,ee⟩:=bnd ee;obtain⟨r,h3,ee⟩:=bnd ee
 have hsl:ds[i]?=some (.v fd):=by
  unfold qR at h1
  split at h1
  . rename_i d' hd';cases h1;exact hd'
  . cases h1
 obtain⟨v,hv1,rv⟩:=o.read hsl;refine eU (thn (yL hN hv hdb hcd aD s σ H (fun v' H'=>v'=v/\H'=H) I ⟨v,hv1,rfl,rfl⟩) fun u s1 zq=>?_);obtain⟨v',H',I1,ru,e1,e2⟩:=zq;subst e1 e2;have rv0:Rep X.K H' jR v' fd:=rv.less fun _ z=>z.elim;obtain⟨f,rfl,fa⟩:=CO.hold H' s1.heap v' fd l r rv0 h3 I1.hok I1.kIn;obtain rfl:u=Value.ref f:=ru;refine callWith_F fa (thn (ht pos aD s1 σ H' (fun vs H1=>Same H' H1/\Reps X.K H1 jR vs l) I1 (hf H₀ H' O σ ds hd l _ o h2 fun vs H1 a b=>⟨a,b⟩)) fun us s2 zq=>?_) he hpl;obtain⟨vs,H2,I2,r2,sm,rvs⟩:=zq;obtain⟨f',e',fa2⟩:=CO.hold H2 s2.heap _ fd l r (rv0.mono sm) h3 I2.hok I2.kIn;cases e';refine⟨fa2,mI (gX (CO.run X.A X.stack s2 H2 f fd us vs l r Q (hr.mono hj) I2.env0 (rv0.mono sm) r2 rvs h3 fun v H3 a b=>q v H3 (sm.trans a) (LL b ee fun a ha=>(o.mono sm).old ha)) fun rr s' hq=>?_)⟩;cases rr with
 |error e=>exact hq.elim
 | ok fl =>
   cases fl with
   |ret u=>exact I2.after hq
   |next=>exact False.elim hq
   |brk=>exact False.elim hq
   |cont=>exact False.elim hq
end
def WlkZ(K:Frag)(J:It)(p q:V×D)(items:List D):Prop:=∀H O,(∀a,O a->∃u:MutHO,H a=some u.1)->Rep K H O p.1 p.2->Rep K H O q.1 q.2 →
 (∀i d,items[i]?=some d->J.go i H/\∀x H',J.yld i H x H'->Same H H'/\Rep K H' O x d)/\J.stop items.length H
variable(X) in
def PIz(tg iter:Expr)(fi:FA):Prop:=∃wi,PI X tg iter wi/\∀H₀ H O σ ds hd items R,Ok X.K H₀ H O σ ds hd->fi ds=some items →
 (∀J p p' H',Same H H'->Rep X.K H' O p.1 p.2->Rep X.K H' O p'.1 p'.2->WlkZ X.K J p p' items->R J H')->wi σ H R
theorem ZZ{es:List Expr}{x1}{tp:Pos}{a b:Expr}{p pos:Pos}{fa fb:FE}(hm:X.mg "zip" = none)(ha:PV X a fa)(hb:PV X b fb)(hg:Gl X "zip":=by rfl)(hs:aL [a,b] X.env=[(false,cM a X.env),(false,cM b X.env)]:=by rfl)(hs2:aL [b] X.env=[(false,cM b X.env)]:=by rfl) :
  PIz X (.Tuple es x1 tp) (.Call (.Name "zip" p) [a,b] [] pos) (zipA fa fb):=by
 obtain⟨t,ht,hf⟩:=zH ha (zH hb zU hs2) (by rw[hs,hs2]);refine⟨_,US hg hm ht hs hs2,fun H₀ H O σ ds hd items R o e q=>?_⟩;unfold zipA at e;cases h1:fa ds with
 |none=>rw[h1] at e;cases e
 | some d1 =>
   cases h2:fb ds with
   |none=>rw[h1,h2] at e;cases e
   | some d2 =>
     rw[h1,h2] at e;simp only[bF] at e;cases d1<;>first | (cases e;done) | skip
     cases d2<;>first | (cases e;done) | skip
     rename_i l m;cases e;refine hf H₀ H O σ ds hd [.lst l,.lst m] _ o (by simp[zB,h1,h2,zW]) fun vs H' s r=>?_;cases r with
     | cons r1 rr =>
       cases rr with
       | cons r2 rr =>
         cases rr;obtain⟨a1,xs,rfl,hq1,rs1⟩:=WRep.seqL (.inl r1);obtain⟨a2,ys,rfl,hq2,rs2⟩:=WRep.seqL (.inl r2);refine⟨a1,xs,a2,ys,rfl,hq1,hq2,q _ (.ref a1,.lst l) (.ref a2,.lst m) H' s r1 r2 fun H2 O2 dom r1' r2'=>?_⟩;obtain⟨b1,xs,e1,hq1,rs1⟩:=WRep.seqL (.inl r1');obtain⟨b2,ys,e2,hq2,rs2⟩:=WRep.seqL (.inl r2');cases e1;cases e2;have n1:=rs1.length;have n2:=rs2.length;refine⟨fun i d hd=>?_,⟨xs,ys,hq1,hq2,?_⟩⟩
         . unfold zipD at hd;rw[bT] at hd;obtain⟨pq,hz,rfl⟩:=mpd hd;obtain⟨g1,g2⟩:=AA.mp hz;obtain⟨v1,k1,w1⟩:=rs1.get g1;obtain⟨v2,k2,w2⟩:=rs2.get g2;refine⟨⟨xs,ys,v1,v2,hq1,hq2,k1,k2⟩,fun x H3 y=>?_⟩;obtain⟨T,x',y',rfl,hT,rfl,f1,f2⟩:=y;have:=f1 xs hq1;rw[k1] at this;cases this;have:=f2 ys hq2;rw[k2] at this;cases this;have sm:Same H2 (upd H2 T (.tup [v1,v2])):=qB hT _;refine⟨sm,.tup (fun z=>?_) (.inl bY) (.cons (w1.mono sm) (.cons (w2.mono sm) .nil))⟩;obtain⟨zs,ez⟩:=dom _ z;rw[hT] at ez;cases ez
         . unfold zipD;rw[cH,YC];omega
theorem UK{tg iter:Expr}{body:List Stmt}{pos:Pos}{fi:FA}{ga:D->List Sl->Option (List Sl)}{g:FS}(hp:nW (aM X.prog X.w) X.A X.env X.xe)(hc:X.calm=true)(hi:PIz X tg iter fi)(hg:PGv X tg ga)(hb:PSsv X body g)(hs:∀x,dZ iter X.env x=pure x:=by intro _;rfl):PSv X (.For tg iter body [] pos) (forG fi ga g):=by
 obtain⟨wi,pi,hi⟩:=hi;obtain⟨tg',pg,hg⟩:=hg;obtain⟨tb,pb,hb⟩:=hb;refine⟨_,IT hp hc pi pg pb hs,fun H₀ H O σ ds hd out E o e h=>?_⟩;unfold forG at e;obtain⟨items,h1,e⟩:=bnd e;refine hi H₀ H O σ ds hd items _ o h1 fun J p p' H' s r r' wk=>?_;refine⟨fun i m σ' H'=>i<=items.length/\m=items.length-i/\∃O' ds',Ok X.K H₀ H' O' σ' ds' (HI.rep p.1 p.2::HI.rep p'.1 p'.2::hd)/\qW ga g (items.drop i) ds'=some out,⟨items.length,bW _,rfl,O,ds,((o.mono s).holdMore (p:=HI.rep p'.1 p'.2) r').holdMore (p:=HI.rep p.1 p.2) r,by simpa using e⟩,?_⟩;rintro i m σ1 H1 ⟨hi1,rfl,O1,ds1,o1,e1⟩;obtain⟨go,stop⟩:=wk H1 O1 o1.dom (o1.hold (HI.rep p.1 p.2) aF) (o1.hold (HI.rep p'.1 p'.2) (aI _ aF))
 by_cases hlt:i<items.length
 . right;have hd0:items[i]? = some items[i]:=aK hlt;obtain ⟨hgo,hy⟩:=go i _ hd0;rw [cE hlt,qW] at e1;refine ⟨hgo,fun σ' H'=>i+1<=items.length/\∃ O' ds',Ok X.K H₀ H' O' σ' ds' (HI.rep p.1 p.2::HI.rep p'.1 p'.2::hd)/\qW ga g (items.drop (i+1)) ds'=some out,fun σ' H' ⟨q1,q2⟩=>⟨items.length - (i+1),by omega,q1,rfl,q2⟩,fun x H2 y=>?_⟩;obtain ⟨s2,r2⟩:=hy x H2 y;obtain ⟨ds2,h2,e1⟩:=bnd e1;obtain ⟨o3,h3,e1⟩:=bnd e1;refine hg H₀ H2 O1 σ1 ds1 (HI.rep p.1 p.2::HI.rep p'.1 p'.2::hd) x _ ds2 _ (o1.mono s2) r2 h2 fun σ' o'=>?_;refine hb H₀ H2 O1 σ' ds2 (HI.rep p.1 p.2::HI.rep p'.1 p'.2::hd) o3 _ o' h3 ?_;cases o3 with
   |nx ds3=>exact fun σ3 H3 O3 ok3=>⟨hlt,O3,ds3,ok3,e1⟩
   |ct ds3=>exact fun σ3 H3 O3 ok3=>⟨hlt,O3,ds3,ok3,e1⟩
   |bk ds3=>cases e1;exact fun σ3 H3 O3 ok3=>h σ3 H3 O3 ok3.holdLess.holdLess
   |rt rr=>cases e1;exact fun v H s r b=>h v H s r (vC (vC b))
 . left;have ei:i=items.length:=by omega
   subst ei;rw[eO,qW] at e1;cases e1;exact⟨stop,h σ1 H1 O1 o1.holdLess.holdLess⟩
open PySem.W (tabIn CodeHd tabObj makeFunction_K makeFunction_hit fnMade fnX nestDef_K kla_callFunE envX)
section
variable{aD:List (aB×Obj)}{σ : L2.St}{H:Hp}{s:aC}
end
section
variable{aD:List (aB×Obj)}{σ : L2.St}{H:Hp}{s:aC}{cs:List aB}
end
theorem nZ.mono{P:aY}{w:bS}{K:Frag}{mg:Str->Option Value}{base:Heap}{j k m n:Nat}{F:List D->List D->Option Ret}(h:nZ P w K mg base j m n F)(hj:j<=k):nZ P w K mg base k m n F :=
 fun A outer s H f caps us vs as r Q hr=>h A outer s H f caps us vs as r Q (hr.mono hj)
section
variable{tg:Expr}
end
open PySem.W (tabIn CodeHd)
section
variable{E:XK}{C:aB}
end
section
variable{k j:Nat}{n:Nat}{F:List D->Option Ret}{x:Str}{p pos:Pos}{e:Expr}{es:List Expr}{g:FA}
end
section
variable{E:XK}{C:aB}
end
section
variable{E:XK}{C:aB}
theorem pss_or{st:List Stmt}{t u:TS}(h1:PSs X st t)(h2:PSs X st u):PSs X st (fun D σ H=>t D σ H\/u D σ H):=fun aD s σ H D I h=>h.elim (h1 aD s σ H D I) (h2 aD s σ H D I)
end
end FL
namespace L2
end L2
namespace FL
section
variable{E:XK}{C:aB}
end
end FL
namespace L2
open Builtin Builtin.Str
end L2
namespace FL
section
variable{o e:Expr}{apos cpos:Pos}{f g:FE}{name:Str}{id:String}
end
section
variable{E:XK}{C:aB}
theorem pe_or{e:Expr}{t u:TE}(h1:PE X e t)(h2:PE X e u):PE X e (fun σ H Q=>t σ H Q\/u σ H Q):=fun aD s σ H Q I h=>h.elim (h1 aD s σ H Q I) (h2 aD s σ H Q I)
section
variable{x:Str}{p pos:Pos}{e:Expr}{t k j:Nat}{G:List D->Option (List D)}{y:List Sl->Bool}
end
end
end FL
namespace L2
section
variable{prog:aY}{w:bS}{A:bR}{E:Value->aC->Prop}{s:aC}
end
section
variable{pos:Pos}
end
end L2
namespace FL
section
variable{K:Frag}{H H' H₀ : Hp}{O O':aB->Prop}
abbrev orL(fs:List aB)(O:aB->Prop):aB->Prop:=fun b=>b∈fs\/O b
inductive Kid(H:Hp)(b:aB):List V->Prop
 |tup {xs:List V} (h:Rd H b (.tup xs)):Kid H b xs
 |lst {xs:List V} (h:H b=some (.lst xs)):Kid H b xs
 |dct {kvs:List (Key×V)} (h:H b=some (.dK kvs)):Kid H b (kvs.map (·.2))
 |ins {C dx:aB} {kvs:List (Str×V)} (h:H b=some (.ins C dx kvs)):Kid H b (kvs.map (·.2))
theorem RepsO.length:∀{xs:List V} {ts:List OT} {fs:List aB},RepsO K H O xs ts fs->xs.length=ts.length
 |_,_,_,.nil=>rfl
 |_,_,_,.cons _ r=>by simp[RepsO.length r]
end
section
variable(X:Cx)
def PVo(e:Expr)(f:FO):Prop:=∃t,PE X e t/\∀H₀ H O σ ds hd T Q,Ok X.K H₀ H O σ ds hd->f ds=some T->(∀v H' fs,Same H H'->RepO X.K H' (orL fs O) v T fs->fs.Nodup->(∀b∈fs,H b=none)->Q v H')->t σ H Q
end
section
variable{x:Str}{k j n:Nat}{F:List D->Option Ret}{p pos:Pos}{e:Expr}{es:List Expr}{g:FA}
end
mutual
theorem RepO.flatten{K:Frag}{H:Hp}{O O':aB->Prop}(ho:∀a,O a->Old H a):∀{v:V} {t:OT} {fs:List aB},flatO t=true->RepO K H O' v t fs->(∀b∈fs,O b)->RepO K H O v t fs
 |_,_,_,f,.val r,_=>.val (Rep.flatten ho (by simpa[flatO] using f) r)
 |_,_,_,f,.lst n h r,hb=>.lst (hb _ (.head _)) h (RepsO.flatten ho (by simpa[flatO] using f) r fun b z=>hb b (.tail _ z))
 |_,_,_,f,.dct n h e r,hb=>.dct (hb _ (.head _)) h e (RepsO.flatten ho (by simpa[flatO] using f) r fun b z=>hb b (.tail _ z))
 |_,_,_,f,.ins c n h e r,hb=>.ins c (hb _ (.head _)) h e (RepsO.flatten ho (by simpa[flatO] using f) r fun b z=>hb b (.tail _ z))
 |_,_,_,f,.tup (a:=a) n h r,hb=>.tup (fun z=>by
    obtain⟨u,e,m⟩:=ho a z;rcases h with h | ⟨o,h⟩
    . rw[e] at h;cases h;cases m
    . rw[e] at h;cases h;cases m) h (RepsO.flatten ho (by simpa[flatO] using f) r hb)
theorem RepsO.flatten{K:Frag}{H:Hp}{O O':aB->Prop}(ho:∀a,O a->Old H a):∀{v:List V} {t:List OT} {fs:List aB},pJ t=true->RepsO K H O' v t fs->(∀b∈fs,O b)->RepsO K H O v t fs
 |_,_,_,_,.nil,_=>.nil
 | _, _, _, f, .cons h r, hb => by
   simp only[pJ,cL] at f;exact .cons (RepO.flatten ho f.1 h fun b z=>hb b (bZ _ z)) (RepsO.flatten ho f.2 r fun b z=>hb b (bJ _ z))
end
section
variable{K:Frag}{H H' H₀ : Hp}{O O':aB->Prop}
theorem Kid.mono(s:Same H H'){b:aB}{xs:List V}(h:Kid H b xs):Kid H' b xs:=by
 cases h with
 |tup h=>exact .tup (Keep.rd (O:=jR) (.of_same s) (fun z=>z) h)
 |lst h=>exact .lst (s _ _ h)
 |dct h=>exact .dct (s _ _ h)
 |ins h=>exact .ins (s _ _ h)
end
section
variable{K:Frag}{H H' H₀ : Hp}{O O':aB->Prop}
theorem RepO.frz{v:V}{t:OT}{fs:List aB}(r:RepO K H O v t fs)(h:∀a,O' a->O a/\a∉fs):Rep K H O' v (otD t):=r.val' h
theorem Ok.frz{σ : L2.St}{ds:List Sl}{hd:Hold}{i:Nat}{r:Option Nat}{T:OT}(o:Ok K H₀ H O σ ds hd)(e:ds[i]?=some (.ob r T)):∃O',Ok K H₀ H O' σ (ds.set i (.v (otD T))) hd:=by
 obtain⟨F,hF⟩:=o.obs;obtain⟨v,h1,h2,h3,h4,h5⟩:=hF i r T e;have hl:i<ds.length:=(aV.mp e).1
 let O':aB->Prop:=fun b=>O b/\b∉F i
 have sub:∀b,O' b->O b:=fun b hb=>hb.1;have own':∀{j:Nat},IsOwn (ds.set i (.v (otD T))) j->IsOwn ds j/\j≠i:=fun h=>wZ (fun l=>by intro z;cases z) h;refine⟨O',o.same,fun j l' b e1 e2=>?_,fun b hb=>o.dom b (sub b hb),by simpa using o.len,fun j s es=>?_,fun j m b hjm hj hm e1 e2=>o.apart j m b hjm (own' hj).1 (own' hm).1 e1 e2,fun p hp=>?_,?_⟩
 . obtain⟨⟨l2, e2'⟩, _⟩ := own' ⟨l', e1⟩;exact o.fresh j l2 b e2' e2
 . by_cases hj : j = i
   . subst hj;rw[bA hl] at es;cases es;rw[h1];exact wV (h2.frz fun a z=>z)
   . rw [aG (Ne.symm hj)] at es;cases s with
     |no=>exact jS
     |ob r t=>exact BV
     | exc t =>
       obtain⟨a',C',ob',u',q1,q2,q3,q4⟩:=o.readX es;rw[q1];exact⟨C',ob',u',q2,q3,q4⟩
     | exf t fs =>
       obtain⟨a',q1,q3⟩:=o.readE es;rw[q1];exact q3.keep fun a' ob' u' q3=>q3
     | fr l' =>
       obtain⟨a',xs',q1,q2,q0,q3,q4⟩:=o.readF es;rw[q1];exact⟨fun z=>q2 (sub _ z),q0,xs',q3,q4.less sub⟩
     | v d =>
       obtain⟨v,q1,q2⟩:=o.read es;rw[q1];exact wV (q2.less sub)
     | own l' =>
       obtain⟨b,ys,q1,q2,q3,q4⟩:=o.readO es;rw[q1];exact⟨⟨q2,fun z=>(h5 b z).2.2 j ⟨l',es⟩ q1⟩,ys,q3,q4.less sub⟩
 . have := o.hold p hp;cases p with
   |rep v d=>exact Rep.less sub this
   |base B=>exact fun b hb=>⟨⟨(this b hb).1,fun z=>(this b hb).2 (h5 b z).1⟩,(this b hb).2⟩
   |root k a=>exact True.intro
   |fz a' o' kvs' l'=>exact⟨fun z=>this.1 (sub _ z),this.2.1,Reps.less sub this.2.2⟩
 . refine⟨F, fun j r' t' ej => ?_⟩;obtain⟨ej,hj⟩:=wC (fun r t=>by intro z;cases z) ej;obtain⟨w,g1,g2,g3,g4,g5⟩:=hF j r' t' ej;refine⟨w,g1,g2.less sub fun b hb=>⟨(g2.owns b hb).1,fun z=>(h5 b z).2.1 j r' t' hj ej hb⟩,g3,g4,fun b hb=>⟨(g5 b hb).1,fun m r2 t2 hm em=>(g5 b hb).2.1 m r2 t2 hm (wC (fun r t=>by intro z;cases z) em).1,fun m om em=>(g5 b hb).2.2 m (own' om).1 em⟩⟩
end
section
variable{m:Str}{k j n:Nat}{cs:List Nat}{F:Nat->OT->List D->Option OT}{oe e:Expr}{es:List Expr}{apos pos pos':Pos}{f:FP}{g:FA}
end
section
variable{K:Frag}{H H' H₀ : Hp}{O O':aB->Prop}
end
section
variable{i:Nat}
end
end FL
namespace L2
theorem KV.get{κ : Type}{kvs:List (κ×V)}{vs:List (κ×Value)}{i:Nat}{k : κ}{x:V}(h:KV kvs vs)(e:kvs[i]?=some (k,x)):∃u,vs[i]?=some (k,u)/\RelV x u:=by
 unfold KV at h
 induction h generalizing i with
 |nil=>simp at e
 | @cons p q _ _ h _ ih =>
   cases i with
   | zero =>
     simp only[fE,Option.some.injEq] at e;subst e;exact⟨q.2,by simp only[fE];rw[show q=(k,q.2) from YM h.1.symm rfl],h.2⟩
   | succ i =>
     simp only[iA] at e ⊢;exact ih e
end L2
namespace FL
section
variable{K:Frag}{H H' H₀ : Hp}{O O':aB->Prop}
end
section
variable{K:Frag}{H H' H₀ : Hp}{O O':aB->Prop}
end
section
variable{t k j n m:Nat}{F:OT->List D->Option OT}{x:Str}{p pos:Pos}{e:Expr}{es:List Expr}{g:FA}
end
section
variable{m:Str}{k j n:Nat}{cs:List Nat}{F:Nat->OT->List D->Option OT}{oe e:Expr}{es:List Expr}{apos pos pos':Pos}{f:FP}{g:FA}
end
end FL
namespace L2
theorem LB:∀{xs:List V} {us:List Value},xs.length=us.length->(∀(j:Nat) (u:Value),us[j]?=some u->∃x,xs[j]?=some x/\RelV x u)->Vals xs us
 |[],[],_,_=>.nil
 |[],_::_,h,_=>by simp at h
 |_::_,[],h,_=>by simp at h
 | x :: xs, u :: us, h, H => by
   obtain⟨y,h1,h2⟩:=H 0 u rfl;simp only[fE,Option.some.injEq] at h1;subst h1;exact .cons h2 (LB (by simpa using h) fun j v e=>H (j+1) v (by simpa using e))
end L2
namespace FL
end FL
namespace L2
end L2
namespace FL
abbrev LkF(K:Frag)(f:aB)(oc:Value)(od:Option aB)(nm q:Str)(st:Stmt)(dV kV dc pm:Value)(an:Option aB)(cd ct:Value)(sl:Array (Option Value)):Prop:=K.lookup f=some ⟨oc,od,.func (eC nm q (yK st) (jH st) (zK st) dV kV dc pm an cd ct),sl⟩
structure FunD(K:Frag)(x qual:Str)(st:Stmt)(f:aB)(fd:bQ)(its:Array Value):Prop where
 ex:∃(Tu:aB) (ob:Obj) (n:Nat) (oc:Value) (od:Option aB) (kV doc pm:Value) (an:Option aB) (cdv ct:Value) (osl:Array (Option Value)),
  fd=eC x qual (yK st) (jH st) (zK st) (.ref Tu) kV doc pm an cdv ct/\K.lookup f=some ⟨oc,od,.func fd,osl⟩/\eZ K cdv qual=true/\K.lookup Tu=some ob/\ob.data=.seq its n
 kp:cP K (.ref f)=true
section
variable{P:aY}{w:bS}{K:Frag}{mg:Str->Option Value}{base:Heap}{x qual:Str}{st:Stmt}{f:aB}{fd:bQ}{its:Array Value}
theorem FunD.binds{ps:List Str}{ds:List Value}(F:FunD K x qual st f fd its)(h:∀(Tu:aB) (kV doc pm:Value) (an:Option aB) (cdv ct:Value) (us:List Value),(us++ds).length=ps.length->∃k:Option (Array Value)->Sem (List (Str×Value)),HF (eC x qual (yK st) (jH st) (zK st) (.ref Tu) kV doc pm an cdv ct) ⟨us,[]⟩=seqItems? (.ref Tu) >>= k/\k (some its)=pure (ps.zip (us++ds))):Binds K fd ps ds:=by
 obtain⟨Tu,ob,n,oc,od,kV,doc,pm,an,cdv,ct,osl,rfl,lk,hcd,lt,hs⟩:=F.ex;intro s us X hl;obtain⟨k,h1,h2⟩:=h Tu kV doc pm an cdv ct us hl;exact PySem.W.binds_K X rfl lt hs h1 h2
theorem len0{P:List Value->Prop}(h:P []):∀us:List Value,us.length=0->P us:=fun us hl=>by cases us with | nil=>exact h | cons _ _=>cases hl
theorem lenS{P:List Value->Prop}{n:Nat}(h:∀a us,us.length=n->P (a::us)):∀us:List Value,us.length=n+1->P us:=fun us hl=>by cases us with | nil=>cases hl | cons a r=>exact h a r (Nat.succ.inj hl)
theorem len1{P:List Value->Prop}(h:∀a0,P [a0]):∀us:List Value,us.length=1->P us:=lenS fun a=>len0 (P:=fun us=>P (a::us)) (h a)
theorem len2{P:List Value->Prop}(h:∀a0 a1,P [a0,a1]):∀us:List Value,us.length=2->P us:=lenS fun a=>len1 (P:=fun us=>P (a::us)) (h a)
theorem len3{P:List Value->Prop}(h:∀a0 a1 a2,P [a0,a1,a2]):∀us:List Value,us.length=3->P us:=lenS fun a=>len2 (P:=fun us=>P (a::us)) (h a)
theorem len4{P:List Value->Prop}(h:∀a0 a1 a2 a3,P [a0,a1,a2,a3]):∀us:List Value,us.length=4->P us:=lenS fun a=>len3 (P:=fun us=>P (a::us)) (h a)
theorem len5{P:List Value->Prop}(h:∀a0 a1 a2 a3 a4,P [a0,a1,a2,a3,a4]):∀us:List Value,us.length=5->P us:=lenS fun a=>len4 (P:=fun us=>P (a::us)) (h a)
def DefM(K:Frag)(x:Str)(st:Stmt)(f:aB):Prop:=∃(oc:Value) (od:Option aB) (kV dc pm:Value) (an:Option aB) (cd ct:Value) (sl:Array (Option Value)),aQ K aP x=some (some (.ref f))/\LkF K f oc od x x st .none kV dc pm an cd ct sl/\eZ K cd x=true/\cP K (.ref f)=true
def DefC(K:Frag)(C:aB)(m q:Str)(st:Stmt)(f:aB):Prop:=∃(oc:Value) (od:Option aB) (kV dc pm:Value) (an:Option aB) (cd ct:Value) (sl:Array (Option Value)),cZ K (.ref C) m=some (some (.ref f))/\LkF K f oc od m q st .none kV dc pm an cd ct sl/\eZ K cd q=true/\cP K (.ref f)=true/\mJ K (.ref f)=true
theorem DefM.get{x:Str}{st:Stmt}{f:aB}(h:DefM K x st f):∃fd,Fun K x x st f fd/\aQ K aP x=some (some (.ref f))/\cP K (.ref f)=true:=by
 obtain⟨_,_,_,_,_,_,_,_,_,a,l,c,k⟩:=h;exact⟨_,CS l c k,a,k⟩
theorem DefC.get{C:aB}{m q:Str}{st:Stmt}{f:aB}(h:DefC K C m q st f):∃fd,Fun K m q st f fd/\cZ K (.ref C) m=some (some (.ref f))/\cP K (.ref f)=true/\mJ K (.ref f)=true:=by
 obtain⟨_,_,_,_,_,_,_,_,_,a,l,c,k,i⟩:=h;exact⟨_,CS l c k,a,k,i⟩
theorem KD{k n:Nat}{x:Str}{f:aB}{fd:bQ}{ps:List Str}{F:List D->Option Ret}(G:FnOk P w K mg base CX0 k f fd ps (spF K n F))(b:Binds K fd ps [])(h:cP K (.ref f)=true)(m:mg x=some (.ref f)):Cal P w K mg base x k n F:=⟨f,_,_,G,b,h,m⟩
structure SysAt(P:aY)(w:bS)(base:Heap)(K:Frag)(mg:Str->Option Value):Prop where
 ex:∃h:Heap,K.In h/\h.Ns aP mg
def CN(K:Frag)(x:Str)(C:aB):Prop:=aQ K aP x=some (some (.ref C))/\pW K C Str.empty=true/\pN K C=true/\HU K C=true/\cZ K (.ref C) "__setattr__" = some (some (.builtin "object.__setattr__"))
theorem CN.get{C:aB}(h:CN K x C):aQ K aP x=some (some (.ref C))/\Cls K C:=⟨h.1,⟨h.2.1,h.2.2.1,h.2.2.2.1,h.2.2.2.2⟩⟩
def XN(K:Frag)(A B:aB):Prop:=mQ K B=true/\nA K (.ref B)=some (.type "type")/\iQ K (.ref A) (.ref B)=some false/\(Value.ref A==Value.ref B)=false
theorem XN.k{A B:aB}(h:XN K A B):cO K (.ref A) (.ref B)=some false:=kit_no h.1 h.2.1 h.2.2.1 h.2.2.2
def XI(K:Frag)(x:Str)(C:aB):Prop:=aQ K aP x=some (some (.ref C))/\cZ K (.ref C) "__getattribute__" = some (some (.builtin "BaseException.__getattribute__"))/\cZ K (.ref C) "__getattr__" = some none/\cZ K (.ref C) "__class__" = some (some (.builtin "object.__class__"))/\oA K C (.type "object")=some true/\oA K C (.type "BaseException")=some true
theorem XI.i{C:aB}(h:XI K x C):XIn K C:=⟨h.2.1,h.2.2.1,h.2.2.2.1,h.2.2.2.2.1,h.2.2.2.2.2⟩
theorem isx_c{cv:Value}{t:Nat}{b:Bool}{C:aB}{tb:List (Nat×Bool)}(y:XI K (xName t) C)(k:cO K (.ref C) cv=some b)(r:IsxOk K cv tb):IsxOk K cv ((t,b)::tb):=WI y.1 y.i k r
theorem DefM.cal{k n:Nat}{x:Str}{st:Stmt}{f:aB}{ps:List Str}{F:List D->Option Ret}(d:DefM K x st f)(X:SysAt P w base K mg)(hf:∀{fd},Fun K x x st f fd->FnOk P w K mg base CX0 k f fd ps (spF K n F))(hb:∀(kV doc pm:Value) (an:Option aB) (cdv ct:Value) (us:List Value),us.length=ps.length->HF (eC x x (yK st) (jH st) (zK st) .none kV doc pm an cdv ct) ⟨us,[]⟩=pure (ps.zip us):=by
    intro _ _ _ _ _ _;first | exact len0 rfl | exact len1 fun _=>rfl | exact len2 fun _ _=>rfl | exact len3 fun _ _ _=>rfl | exact len4 fun _ _ _ _=>rfl | exact len5 fun _ _ _ _ _=>rfl):Cal P w K mg base x k n F:=by
 obtain⟨_,F1,a,c⟩:=d.get;obtain⟨_,X,G⟩:=X.ex;exact KD (hf F1) (F1.binds hb) c (cA X G a)
end
section
variable{m:Str}{k j:Nat}{cs:List Nat}{F:Nat->List D->Option Ret}{o:Expr}{apos pos:Pos}{fo:FE}
end
end FL
namespace L2
section
variable{prog:aY}{w:bS}{A:bR}{E:Value->aC->Prop}{s:aC}
theorem TZ:sK (.type "list_reverseiterator") "__len__" = pure none:=by rw[iG,eW];kernel_rfl
theorem OK:sK (.type "list_reverseiterator") "__length_hint__" = pure (some (.builtin "list_reverseiterator.__length_hint__")):=by rw[iG,eW];kernel_rfl
theorem ZG{r:aB}{Q:Bool->aC->Prop}(hT:s.TypeIs (.ref r) "list_reverseiterator")(h:Q false s):aU (aM prog w) A (Builtin.List.listLengthHint (.ref r)) Q E s:=by
 unfold Builtin.List.listLengthHint;refine aA (lW hT TZ ?_);show aU _ A (specialOf (Value.ref r) (Str.ofString "__length_hint__") >>= _) _ _ _;refine aA (lW hT OK ?_);generalize hid:("list_reverseiterator.__length_hint__" : String)=id0
 wp_delta
 rw[show splitId id0=some ("list_reverseiterator","__length_hint__") from by subst hid;decide +kernel];subst hid;refine aA (uS (b:=true) hT (by rw[pU];kernel_rfl) ?_);exact aJ h
theorem ZH{I l:aB}{items:Array Value}{Q:Value->aC->Prop}(hh:A.handled=none)(hne:l≠I)(hit:s.heap.IsRevIter I l ((items.size:Int)-1))(hl:s.heap.IsList l items)(hn:items.size<=sizeLine)(hQ:∀h' tk acc' c',(∀b o,b≠I->s.heap.get? b=some o->h'.get? b=some o)->h'.get? s.heap.objs.size=some { cls:=.type "list",dict:=none,data:=.seq acc' c',slots:=#[] }->ItemsOf (fun i v=>items[items.size-1-i]?=some v) acc' items.size->Q (.ref s.heap.objs.size) { s with heap:=h',toks:=tk }) :
  aU (aM prog w) A (call (.type "list") [.ref I]) Q E s:=by
 refine callType_codes (Q₁:=fun obj s₁=>obj=.ref s.heap.objs.size/\s₁={ s with heap:=s.heap.push { cls:=.type "list",data:=.seq #[] } }) PySem.F.called_list (PySem.F.typeCall_list_1 _) PySem.F.entry_list_init
  (code_list_new _ ⟨rfl,rfl⟩) fun obj s₁ h₁=>?_
 obtain⟨rfl,rfl⟩:=h₁;have hS:(s.heap.push { cls:=.type "list",data:=.seq #[] }).get? s.heap.objs.size=some { cls:=.type "list",data:=.seq #[] }:=aX _ rfl;have hI:I<s.heap.objs.size:=let ⟨_,ho,_⟩:=hit;aS ho;have hlt:l<s.heap.objs.size:=let ⟨_,ho,_⟩:=hl;aS ho;refine⟨⟨_,hS,rfl⟩,PySem.F.args_list_init_2 _ _,?_⟩;show aU _ _ (do let old <- Builtin.List.listItems (.ref s.heap.objs.size);Builtin.List.listUpdate (.ref s.heap.objs.size) (fun _=>#[]);letGo old.toList.reverse;Builtin.List.listExtendWith (.ref s.heap.objs.size) (.ref I) .none) _ _ _;refine aA ?_;unfold Builtin.List.listItems;refine aA (GZ hS rfl (aJ ?_));show aU _ _ (updateSeq s.heap.objs.size (fun _=>#[]) >>= fun _=>letGo (#[]:Array Value).toList.reverse >>= fun _=>Builtin.List.listExtendWith (.ref s.heap.objs.size) (.ref I) .none) _ _ _;refine aA (DD hS rfl ?_);have hS₂:=cC (Obj.mapSeq (fun _=>(#[]:Array Value))) hS rfl
 have oth:∀b o,s.heap.get? b=some o->((s.heap.push { cls:=.type "list",data:=.seq #[] }).update s.heap.objs.size (Obj.mapSeq (fun _=>(#[]:Array Value)))).get? b=some o :=
  fun b o e=>(bG _ _ (Ne.symm (bE (aS e)))).trans (aE _ e)
 refine aA (wpAny_letGo ?_);have W:=Walks.listRev (prog:=prog) (w:=w) (A:=A.in1.in1) hh I l hne items
 have hst:0<=items.size/\Heap.IsRevIter ((s.heap.push { cls:=.type "list",data:=.seq #[] }).update s.heap.objs.size (Obj.mapSeq (fun _=>(#[]:Array Value)))) I l ((items.size:Int)-1-((0:Nat):Int))/\Heap.IsList ((s.heap.push { cls:=.type "list",data:=.seq #[] }).update s.heap.objs.size (Obj.mapSeq (fun _=>(#[]:Array Value)))) l items :=
  ⟨bW _,by simpa using hit.at fun o e=>oth _ o e,hl.at fun o e=>oth _ o e⟩
 generalize (s.heap.push { cls:=.type "list",data:=.seq #[] }).update s.heap.objs.size (Obj.mapSeq (fun _=>(#[]:Array Value)))=hp at *;have hT:({ s with heap:=hp }: aC).TypeIs (.ref I) "list_reverseiterator":=hst.2.1.typeIs (s:={ s with heap:=hp });unfold Builtin.List.listExtendWith;refine aA (iV hT ?_)
 have h1:Builtin.List.listSameRef (.ref s.heap.objs.size) (.ref I)=false:=by
  have : ¬s.heap.objs.size=I:=fR hI;simp[Builtin.List.listSameRef,this]
 rw[if_neg (by rw[h1];decide)];refine aA (wpAny_pyIter_revIter (s:={ s with heap:=hp }) hst.2.1 ?_);refine aA (cU (ZG hT ?_));refine wpAny_ite_split (fun z=>absurd z (by decide)) fun _=>?_;refine aJ ⟨mX sT _,codeAny_extend_loopS W.toS hn s.heap.objs.size (fun z=>by simp only[aH,eD,or_false] at z;exact z.elim (fR hI) (fR hlt)) _ items.size 0 _ #[] _ rfl (bW _) hst hS₂ (ItemsOf.nil _) fun s' acc' c' hm hS' hacc=>?_⟩;rw[Moved.eq_with hm];refine⟨rfl,hQ s'.heap s'.toks acc' c' (fun b o hb e=>hm.heap b o (fun hmem=>?_) (oth b o e)) hS' hacc⟩;have hbs:=bE (aS e);simp only[aH,eD,or_false] at hmem;rcases hmem with z | z
 . exact hbs z
 . exact hb z
end
def tLrev(X:Cx)(ta:TA):TE:=fun σ H Q=>ta σ H fun vs H1=>∃a xs,vs=[.ref a]/\SqL X.K H1 a xs/\∀p,H1 p=none->Q (.ref p) (upd H1 p (.lst xs.reverse))
theorem pe_lrev{a:Expr}{ta:TA}{p p2 pos pos2:Pos}(hc:X.calm=true)(hgl:Gl X "list")(hml:X.mg "list" = none)(hg:Gl X "reversed")(hm:X.mg "reversed" = none)(ha:PA X [a] ta)(hl:aL [.Call (.Name "reversed" p2) [a] [] pos2] X.env=[(false,cM (.Call (.Name "reversed" p2) [a] [] pos2) X.env)]:=by rfl)(hs:aL [a] X.env=[(false,cM a X.env)]:=by rfl) :
  PE X (.Call (.Name "list" p) [.Call (.Name "reversed" p2) [a] [] pos2] [] pos) (tLrev X ta):=by
 intro aD s σ H Q I h;refine eU (xJ I hgl hml (show eA "list" = some (.type "list") by decide +kernel) ?_);refine dO ?_ hl rfl;rw[hl];show aU _ _ (spliced ((false,cM (.Call (.Name "reversed" p2) [a] [] pos2) X.env)::eF pos [])) _ _ s;refine Calls.spliced_cons ?_;refine Call_ (xJ I hg hm (show eA "reversed" = some (.type "reversed") by decide +kernel) (dO (thn (ha pos2 aD s σ H _ I h) fun us s1 zq=>?_) hs rfl));obtain⟨vs,H1,I1,r1,q1⟩:=zq;obtain⟨a,xs,e,hq,q⟩:=q1;subst e;obtain⟨u,rfl,ru⟩:=vals1 r1;cases ru;obtain⟨its,rv,pl,hz⟩:=I1.list hq;have hlen:=rv.length;refine call_reversed_list pl.isList ?_;refine Calls.spliced_nil ?_;have I2:Inv X aD σ H1 { s1 with heap:=s1.heap.push (uV a ((its.toArray.size:Int)-1)),toks:=s1.toks }:=I1.kept fun b o e=>aE _ e;have hla:a<s1.heap.objs.size:=let ⟨_,ho,_⟩:=pl.isList;aS ho;refine ZH (I:=s1.heap.objs.size) (l:=a) (items:=its.toArray) (I.ok.hd hc) (bE hla) ⟨_,aX _ rfl,rfl,rfl⟩ (pl.isList.at fun o e=>aE _ e) (by simp only[bB];omega) fun h' tk acc' c' hk hS hacc=>?_
 have hv:Vals xs.reverse acc'.toList:=by
  refine LB (by simp only[pB,bC];rw[hacc.1];simp only[bB];omega) fun j u e=>?_;have e2:=hacc.2 j u (by rw[<- cN];exact e);have hj:j<acc'.toList.length:=(aV.mp e).1;have hj2:j<its.length:=by simp only[bC] at hj;rw[hacc.1] at hj;simpa using hj
  simp only[bB,nM] at e2;have hx:xs[xs.length-1-j]?=some (xs[xs.length-1-j]'(by omega)):=aK (by omega);obtain⟨u',hu',ru⟩:=rv.get hx;rw[hlen,e2] at hu';cases hu';exact⟨_,by rw[HN (by omega)];exact hx,ru⟩
 generalize hN:(s1.heap.push (uV a ((its.toArray.size:Int)-1))).objs.size=N at *;have hlt:s1.heap.objs.size<N:=by rw[<- hN];exact aS (o:=uV a ((its.toArray.size:Int)-1)) (aX _ rfl)
 have fr:H1 N=none:=by rw[<- hN];exact I2.hok.fresh (aO _)
 have I3:Inv X aD σ (upd H1 N (.lst xs.reverse)) { s1 with heap:=(s1.heap.push (uV a ((its.toArray.size:Int)-1))).push { cls:=.type "list",data:=.seq acc' c' },toks:=tk }:=by
  refine Inv.laid (s:={ s1 with heap:=s1.heap.push (uV a ((its.toArray.size:Int)-1)),toks:=s1.toks }) I2 (fun b u e=>aE _ e) (rN hN) (show ObjOk X.prog X.w _ _ _ (.lst xs.reverse) from ⟨by simpa using hz,acc'.toList,c',hv,?_⟩);rw[<- hN,Array.toArray_toList];exact aX _ rfl
 have I4:Inv X aD σ (upd H1 N (.lst xs.reverse)) { s1 with heap:=h',toks:=tk }:=by
  refine Inv.turnedS (s:={ s1 with heap:=(s1.heap.push (uV a ((its.toArray.size:Int)-1))).push { cls:=.type "list",data:=.seq acc' c' },toks:=tk }) I3 (h':=h') (t':=tk) (ch:=[s1.heap.objs.size]) (fun b o hb q=>?_) (fun b hb=>?_)
  . have hb' : b ≠ s1.heap.objs.size := fun z => hb (by rw [z]; exact .head _)
    by_cases hbN:b=N
    . subst hbN;have q':((s1.heap.push (uV a ((its.toArray.size:Int)-1))).push { cls:=.type "list",data:=.seq acc' c' }).get? b=some o:=q;rw[<- hN,aX _ rfl] at q';cases q';exact hS
    . have q' : ((s1.heap.push (uV a ((its.toArray.size : Int)-1))).push { cls := .type "list", data := .seq acc' c' }).get? b=some o := q;rw[RI _ _ _ (by rw[hN];exact hbN)] at q';exact hk b o hb' q'
  . rw[cD.mp hb];exact I1.fpOk (aO _) (by rw[zJ (bE hlt)];exact I1.hok.fresh (aO _))
 exact⟨.ref N,_,I4,rfl,q N fr⟩
end L2
namespace FL
theorem Reps.rev{K:Frag}{H:Hp}{O:aB->Prop}:∀{xs:List V} {l:List D},Reps K H O xs l->Reps K H O xs.reverse l.reverse
 |_,_,.nil=>.nil
 |_,_,.cons h t=>by rw[mC,mC];exact(Reps.rev t).append (.cons h .nil)
theorem UC{e:Expr}{f:FE}{p p2 pos pos2:Pos}(hc:X.calm=true)(hml:X.mg "list" = none)(hm:X.mg "reversed" = none)(h:PV X e f)(hgl:Gl X "list":=by rfl)(hg:Gl X "reversed":=by rfl)(hl:aL [.Call (.Name "reversed" p2) [e] [] pos2] X.env=[(false,cM (.Call (.Name "reversed" p2) [e] [] pos2) X.env)]:=by rfl)(hs:aL [e] X.env=[(false,cM e X.env)]:=by rfl) :
  PVf X (.Call (.Name "list" p) [.Call (.Name "reversed" p2) [e] [] pos2] [] pos) (revA f):=by
 obtain⟨t,ht,hf⟩:=zH h zU hs;refine⟨_,pe_lrev hc hgl hml hg hm ht hl hs,fun H₀ H O σ ds hd l Q o e q=>?_⟩;unfold revA at e;obtain⟨d,h1,e⟩:=bnd e;cases d<;>first | (cases e;done) | skip
 rename_i l;cases e;refine hf H₀ H O σ ds hd [.lst l] _ o (by simp[zB,h1,zW]) fun vs H' s r=>?_;cases r with
 | cons r1 rr =>
   cases rr;obtain⟨a,xs,rfl,hq,rs⟩:=WRep.seqL (.inl r1);refine⟨a,xs,rfl,hq,fun p hp=>q p _ _ (s.trans (qB hp _)) (s.free hp) bY ?_⟩;exact((rs.rev).more hp).mono (qB hp _)
section
variable{scope:Scope}{NY:List Str}{mp:List (Option Nat)}{tg iter elt:Expr}{ifs:List Expr}{pos:Pos}{fi:FA}{ga:D->List Sl->Option (List Sl)}{tt:FT}{fe:FE}
end
theorem PVo.n{e:Expr}{f:FO}(h:PVo X e f):PVn X e (seeO f):=by
 obtain⟨t,ht,hf⟩:=h;refine⟨t,ht,fun H₀ H O σ ds hd d Q o e q=>?_⟩;unfold seeO at e;obtain⟨T,h1,rfl⟩:=mpd e;exact hf H₀ H O σ ds hd T Q o h1 fun v H' fs s r nd hn=>q v H' s (r.frz fun a z=>z.elim)
end FL
namespace L2
end L2
namespace FL
section
variable{prog:aY}{w:bS}{A:bR}{E:Value->aC->Prop}{s:aC}
end
section
variable{tg:Expr}
end
section
variable{K:Frag}{H H' H₀ : Hp}{O O':aB->Prop}
end
section
variable{scope:Scope}{NY:List Str}{mp:List (Option Nat)}{tg iter elt:Expr}{pos:Pos}{fi:FA}{ga:D->List Sl->Option (List Sl)}{fe:FX}{i p:Nat}
end
section
variable{P:aY}{w:bS}{K:Frag}{mg:Str->Option Value}{base:Heap}
end
open PySem.W (hideAll hideAll_get of_hideAll hideAll_none)
section
variable{M:nX}{A:bR}{E:Value->aC->Prop}{s:aC}{B:Heap}{l outer:List Env}{env:Env}{e L:aB}{cls fl:Value}{a0:Value×Option aB}{Q:Unit->aC->Prop}
end
section
variable{E:XK}{C:aB}
end
section
variable{E:XK}{C:aB}{scope:Scope}{NY:List Str}{mp:List (Option Nat)}{tg iter elt:Expr}{pos:Pos}{fi:FA}{ga:D->List Sl->Option (List Sl)}{fe:FE}{x:List Sl->Bool}
end
section
variable{E:XK}{C:aB}{m:Str}{t k j n:Nat}{R:List D->Bool}{o e:Expr}{es:List Expr}{apos pos:Pos}{fo:FE}{g:FA}
end
section
variable{E:XK}{C:aB}{m:Str}{t k j n:Nat}{R:List D->Bool}{o e:Expr}{es:List Expr}{apos pos:Pos}{fo:FE}{g:FA}
end
section
variable{scope:Scope}{NY:List Str}{mp:List (Option Nat)}{tg iter elt:Expr}{ifs:List Expr}{pos:Pos}{fi:FA}{ga:D->List Sl->Option (List Sl)}{tt:FT}{fe:FE}
end
end FL
namespace L2
end L2
namespace FL
section
variable{K:Frag}{H H' H₀ : Hp}{O O':aB->Prop}
end
end FL
namespace TS
section
variable{prog:aY}{w:bS}
section
variable{A:bR}{R:sM->aC->Prop}{J:aB}{feet hand:List aB}{G:Array iY->Array iY->Prop}{n:Nat}{P:Nat->Value->Prop}{Z:Nat->aC->Prop}
end
section
variable{A:bR}{E:Value->aC->Prop}{s:aC}
end
end
end TS
namespace L2
end L2
namespace FL
section
variable{K:Frag}{H H' H₀ : Hp}{O O':aB->Prop}
end
section
variable{scope:Scope}{NY:List Str}{mp:List (Option Nat)}{tg iter elt:Expr}{ifs:List Expr}{pos:Pos}{fi:FA}{ga:D->List Sl->Option (List Sl)}{tt:FT}{fe:FE}
end
section
variable{m:Str}{k n j:Nat}{cs:List Nat}{F:Nat->OT->List D->Option OT}{f:FP}{oe e:Expr}{es:List Expr}{apos pos:Pos}{g:FA}
end
end FL
namespace L2
end L2
namespace FL
section
variable{K:Frag}{H H':Hp}{O O':aB->Prop}
end
section
variable{E:XK}{C:aB}{k j n:Nat}{F:List D->Option Ret}{x:Str}{p pos:Pos}{e:Expr}{es:List Expr}{g:FA}{y:List Sl->Bool}
end
end FL
namespace PySem
section
variable{prog:aY}{w:bS}{A:bR}{E:Value->aC->Prop}{h:Heap}{g:Array iY}{d:pD}{t:Nat}{os:RE}
variable{nm q:Str}{C N:aB}{bs bm bmB:List Value}{hdct:Bool}{sn:List Str}{sub:List Value}{ab:Bool}{col:Option Bool}{dd:Option aB}{k0 k1 k2 k3 k5:Option Value}{B Bn newId nid initId inN:String}{bmN:List Value}
theorem sA(Fn:mD Bn newId inN bmN)(hBn:bmB.contains (.type Bn)=true)(F:mD B nid initId bmB)(T:uG h bmB bm){mN:Str->Option Value}{rest:List Value}{fI:aB}{oI:Obj}{Q:Fin->aC->Prop}(hC:h.get? C=some (iO nm q C N bs bm hdct sn sub ab col dd k0 k1 k2 k3 k5 newId))(hn:h.Ns N mN)(hi:mN "__init__" = some (.ref fI))(hfI:h.get? fI=some oI)(hfc:oI.cls=.type "function")(hq:∀h' e,h.objs.size<=e->Heap.MadeExcOf h h' e (.ref C) rest →
    aU (aM prog w) A (call (.ref fI) (.ref e::rest)) (fun r s'=>r=.none/\Q (.done (.ret (.ref e))) s') E ⟨h',g,d,t,os⟩)(hrest:rest.length<=sizeLine:=by size_fits) :
  aU (aM prog w) A (Builtin.«type.__call__» ⟨.ref C::rest,[]⟩) Q E ⟨h,g,d,t,os⟩:=by
 repeat (first | with_reducible refine dQ hC ?_ | with_reducible refine wpAny_madeBy_exc hC ?_ | wp_step)
 refine codeAny_call_builtin_code (Code.quiet_builtin _ Fn.quiet) (wpAny_check_new_subU Fn hBn T hC ?_);refine codeAny_exc_new_subU Fn hBn F T hC ?_ hrest;show aU _ _ _ _ _ _
 have hC₁:=aE { cls:=.ref C,data:=.fields #[.ref h.objs.size,.none,.none,.none,.bool false,.none] }
  (aE { cls:=.type "tuple",data:=.seq rest.toArray } hC)
 have hfI₁:=aE { cls:=.ref C,data:=.fields #[.ref h.objs.size,.none,.none,.none,.bool false,.none] }
  (aE { cls:=.type "tuple",data:=.seq rest.toArray } hfI)
 have hn₁ : ((h.push { cls:=.type "tuple",data:=.seq rest.toArray }).push { cls:=.ref C,data:=.fields #[.ref h.objs.size,.none,.none,.none,.bool false,.none] }).Ns N mN :=
  let ⟨o,es,ep,e,r⟩:=hn;⟨o,es,ep,aE _ (aE _ e),r⟩
 have hget:((h.push { cls:=.type "tuple",data:=.seq rest.toArray }).push
   { cls:=.ref C,data:=.fields #[.ref h.objs.size,.none,.none,.none,.bool false,.none] }).get? (h.objs.size+1)=some
   { cls:=.ref C,data:=.fields #[.ref h.objs.size,.none,.none,.none,.bool false,.none] }:=by heap_get
 have hcC:(Value.ref C::bm).contains (.ref C)=true:=by simp
 have T₁:=T.keeps (h':=(h.push { cls:=.type "tuple",data:=.seq rest.toArray }).push { cls:=.ref C,data:=.fields #[.ref h.objs.size,.none,.none,.none,.bool false,.none] })
  fun b o e=>aE _ (aE _ e)
 unfold HE
 repeat (first | with_reducible refine dQ hget ?_ | (with_reducible refine wpAny_isSubtype_exc hC₁ ?_;rw[hcC]) | wp_step)
 show aU _ _ (sK (.ref C) _) _ _ _;refine wpAny_typeLookup_tail hC₁ hn₁ T₁ F.mroIs F.init.lookup ?_;rw[hi];refine cU (aA ?_);unfold bindSpecial;refine aA (iV (T:="function") ⟨_,hfI₁,hfc⟩ ?_);rw[if_pos (by decide)];refine aJ (aA (cB (hq _ (h.objs.size+1) (kQ _) ⟨fun b o hb=>aE _ (aE _ hb),oK (kQ _),h.objs.size,hget,oK (aO _),?_⟩) (fun r s' hr=>?_) fun _ _ x=>x))
 . exact aE _ (RJ rfl rfl)
 . obtain ⟨rfl, hQ⟩ := hr
   wp_walk
   exact hQ
theorem KC(Fn:mD Bn newId inN bmN)(hBn:bmB.contains (.type Bn)=true)(F:mD B nid initId bmB)(T:uG h bmB bm){mN:Str->Option Value}{rest:List Value}{fI:aB}{oI:Obj}{Q:Value->aC->Prop}(hC:h.get? C=some (iO nm q C N bs bm hdct sn sub ab col dd k0 k1 k2 k3 k5 newId))(hn:h.Ns N mN)(hi:mN "__init__" = some (.ref fI))(hfI:h.get? fI=some oI)(hfc:oI.cls=.type "function")(hq:∀h' e,h.objs.size<=e->Heap.MadeExcOf h h' e (.ref C) rest →
    aU (aM prog w) (A.under (.builtin "type.__call__" ⟨.ref C::rest,[]⟩)) (call (.ref fI) (.ref e::rest)) (fun r s'=>r=.none/\Q (.ref e) s') E ⟨h',g,d,t,os⟩)(hrest:rest.length<=sizeLine:=by size_fits) :
  aU (aM prog w) A (call (.ref C) rest) Q E ⟨h,g,d,t,os⟩:=by
 have f1:=tc_lookup;have f2:=tc_bind (.ref C);have hT:(⟨h,g,d,t,os⟩:aC).TypeIs (.ref C) "type":=⟨_,hC,rfl⟩
 refine mI (DE ?_);show aU _ _ (callAny (.ref C) _) _ _ _
 repeat (any_goals (first | assumption | with_reducible refine dQ hC ?_ | wp_step))
 refine⟨rfl,?_⟩;refine codeAny_call_builtin_at (Code.quiet_builtin _ (by decide +kernel)) entry_typeCall (wpAny_check_type_call_sub hC (sA (hrest:=hrest) Fn hBn F T hC hn hi hfI hfc fun h' e hz hm=>?_));exact hq h' e hz hm
end
end PySem
namespace FL
open PySem.Calls PySem.Builtin PySem.Builtin.ObjectAttr
open PySem.W (Looks looks_findIn looks_mroIn looks_clsIn findIn mroIn clsIn tailIn nsOkIn nsIn InstAt tail_of_in isNs_of_in)
theorem nsv_of{K:Frag}{h:Heap}{N:aB}{mg:Str->Option Value}{n:Str}{v:Value}(X:K.In h)(G:h.Ns N mg)(e:nsIn K N n=some (some v)):mg n=some v:=by
 obtain⟨o,es,ep,ho,hd,_,hf⟩:=G;unfold nsIn at e
 split at e
 . rename_i c d es' n' sl q;have:=X _ _ q;rw [ho] at this;cases this;cases hd
   split at e
   . rename_i en he;cases e;rw[<- hf];unfold nsFind findBy;rw[<- KS,he];rfl
   . split at e<;>cases e
 . cases e
noncomputable def xinIn(K:Frag)(C f:aB):Bool:=match K.lookup C with
 | some ⟨.type "type", _, .cls cd, sl⟩ => (match cd.mro, sl.toList with
   | .ref C'::bm,[_,_,_,_,some (.builtin n),_]=>C'==C&&n=="ValueError.__new__"&&!cd.hasDel&&tailIn K bmVE bm&&nsOkIn K cd.ns&&nsIn K cd.ns "__init__"==some (some (.ref f))&&cd.hasDict
   |_,_=>false)
 |_=>false
theorem HX{K:Frag}{h:Heap}{C f:aB}(X:K.In h)(q:xinIn K C f=true):∃bm N nm qn bs sn sub ab col dd k0 k1 k2 k3 k5 mN,K.lookup C=some (iO nm qn C N bs bm true sn sub ab col dd k0 k1 k2 k3 k5 "ValueError.__new__")/\h.Ns N mN/\mN "__init__" = some (.ref f)/\uG h bmVE bm:=by
 unfold xinIn at q
 split at q
 . rename_i dd cd sl ho
   split at q
   . rename_i C' bm k0 k1 k2 k3 n k5 hm hs;simp only [cL,beq_iff_eq,Bool.not_eq_true'] at q;obtain ⟨⟨⟨⟨⟨⟨rfl,rfl⟩,hdel⟩,ht⟩,hok⟩,hni⟩,hdi⟩:=q;obtain ⟨nm,bs,mro,ns,qn,hd,sn,sub,ab,col,del⟩:=cd;dsimp only at hm hdel hok hni hdi;subst hm hdel hdi
     have hsl:sl=#[k0,k1,k2,k3,some (.builtin "ValueError.__new__"),k5]:=by
      obtain⟨l⟩:=sl;simp only at hs;rw[hs]
     subst hsl;exact⟨bm,ns,nm,qn,bs,sn,sub,ab,col,dd,k0,k1,k2,k3,k5,_,ho,.of_isNs (isNs_of_in X hok),nsv_of X (.of_isNs (isNs_of_in X hok)) hni,tail_of_in X ht⟩
   . cases q
 . cases q
theorem rP{h:Heap}{bm:List Value}(self:Value)(T:uG h bmVE bm):refuseLoop self "__setattr__" bm=pure ():=by
 induction T with
 |base=>exact PySem.F.store_ValueError.passes self
 |own _ _ _ _ ih=>rw[HB];exact ih
section
variable{prog:aY}{w:bS}{A:bR}{E:Value->aC->Prop}{h:Heap}{g:Array iY}{d:pD}{t:Nat}{os:RE}{K:Frag}{x C N dx:aB}{o:Obj}{nm q:Str}{bs bm:List Value}{sn:List Str}{sub:List Value}{ab:Bool}{col:Option Bool}{dd:Option aB}{k0 k1 k2 k3 k5:Option Value}{name:Str}{v:Value}{mA:Str->Option Value}{newId:String}
theorem YR{tk:Tok}{Q:Fin->aC->Prop}(X:K.In h)(hC:h.get? C=some (iO nm q C N bs bm true sn sub ab col dd k0 k1 k2 k3 k5 newId))(T:uG h bmVE bm)(ha:findIn K (.ref C) name=some none)(hx:h.get? x=some o)(hc:o.cls=.ref C)(hnc:∀c,o.data≠.cls c)(hdn:o.dict=none)(hq:∀h' tk',h'.get? x=some { o with dict:=some h.objs.size }->h'.Ns1 h.objs.size (fun y=>if y=name then some v else none)->(∀b ob,b≠x->h.get? b=some ob->h'.get? b=some ob)->Q (.done (.ret .none)) ⟨h',g,d,tk',os⟩) :
  aU (aM prog w) A (Builtin.«object.__setattr__» ⟨[.ref x,.str name tk,v],[]⟩) Q E ⟨h,g,d,t,os⟩:=by
 have hpass:=rP (.ref x) T;have L1:=looks_findIn (M:=aM prog w) X ha;unfold Builtin.«object.__setattr__»
 repeat (first | rw[refuse_eq] | (rw[HB,hpass]) | (with_reducible refine dQ hx ?_;rw[hc]) | with_reducible refine wpAny_mroOf_exc hC ?_ | with_reducible refine L1.at ?_ | with_reducible refine dQ hC ?_ | wp_step)
 rw[hdn,if_neg (by simp[typeHasDict])]
 split
 . rename_i hcd;cases hcd
 split
 . rename_i c hcd;exact absurd hcd (hnc c)
 . have hx₁ : (h.push { cls := .type "dict", data := .dict #[] }).get? x = some o := aE _ hx;have hxs:x≠h.objs.size:=bE (aS hx);refine aA (wpAny_alloc' ?_);refine aA (wpAny_update' hx₁ ?_);refine aJ ?_
   have hgd:((h.push { cls:=.type "dict",data:=.dict #[] }).update x fun o=>{ cls:=o.cls,dict:=some h.objs.size,data:=o.data,slots:=o.slots }).get? h.objs.size
     = some { cls:=.type "dict",data:=.dict #[] }:=
    (KR _ _ _ _ hxs.symm).trans (RJ rfl rfl)
   have hnd:((h.push { cls:=.type "dict",data:=.dict #[] }).update x fun o=>{ cls:=o.cls,dict:=some h.objs.size,data:=o.data,slots:=o.slots }).Ns h.objs.size (fun _=>none):=
    ⟨_,#[],_,hgd,rfl,fun e he=>absurd he (by simp),fun _=>rfl⟩
   show aU _ _ (storeInDict h.objs.size (.str name tk) name v) _ _ _;unfold storeInDict newKeyGuard;refine aA (aJ (aA (wpAny_nsSet1 (Heap.Ns1.of_empty hnd) fun h' hn' hs=>?_)));obtain⟨oD,esD,epD,hoD,hdD,hcD⟩:=hn'.count (Within.cons name v Within.nil);refine aA (wpAny_lookBehind hoD (by rw[hdD];exact pastItsLine_dict (cW hcD (by rw[aN,gY,iN];omega))) ?_)
   wp_walk
   refine hq h' _ ?_ hn' fun b ob hbx hb=>(hs.2 b (bE (aS hb))).trans ((KR _ _ _ _ hbx).trans (aE _ hb));refine(hs.2 x hxs).trans (cC _ hx₁ ?_);have hfr:=(NV.mp hx).2;obtain⟨oc,od,odt,osl⟩:=o;cases odt<;>first | rfl | exact hfr
theorem YQ{tk:Tok}{Q:Fin->aC->Prop}{ns:List Str}(X:K.In h)(hC:h.get? C=some (iO nm q C N bs bm true sn sub ab col dd k0 k1 k2 k3 k5 newId))(T:uG h bmVE bm)(ha:findIn K (.ref C) name=some none)(hx:h.get? x=some o)(hc:o.cls=.ref C)(hnc:∀c,o.data≠.cls c)(hdx:o.dict=some dx)(hns:h.Ns1 dx mA)(hw:Within mA ns)(hsz:ns.length<=sizeLine)(hq:∀h' tk',h'.Ns1 dx (fun y=>if y=name then some v else mA y)->Heap.SameBut dx h h'->Q (.done (.ret .none)) ⟨h',g,d,tk',os⟩) :
  aU (aM prog w) A (Builtin.«object.__setattr__» ⟨[.ref x,.str name tk,v],[]⟩) Q E ⟨h,g,d,t,os⟩:=by
 have hpass:=rP (.ref x) T;have L1:=looks_findIn (M:=aM prog w) X ha;unfold Builtin.«object.__setattr__»
 repeat (first | rw[refuse_eq] | (rw[HB,hpass]) | (with_reducible refine dQ hx ?_;rw[hc]) | with_reducible refine wpAny_mroOf_exc hC ?_ | with_reducible refine L1.at ?_ | with_reducible refine dQ hC ?_ | wp_step)
 rw[hdx];refine aJ ?_;show aU _ _ (storeInDict dx (.str name tk) name v) _ _ _;unfold storeInDict newKeyGuard;refine aA (aJ (aA (wpAny_nsSet1 hns fun h' hn' hs=>?_)));obtain⟨oD,esD,epD,hoD,hdD,hcD⟩:=hn'.count (Within.cons name v hw);refine aA (wpAny_lookBehind hoD (by rw[hdD];exact pastItsLine_dict (cW hcD (by rw[aN];omega))) ?_)
 wp_walk
 exact hq h' _ hn' hs
theorem NW{R:sM->aC->Prop}{tk:Tok}(X:K.In h)(hb:mroIn K C (.type "object")=some true)(hx:h.get? x=some o)(hc:o.cls=.ref C)(hq:aU (aM prog w) A.in1 (Builtin.«object.__setattr__» ⟨[.ref x,.str name tk,v],[]⟩) (fun fin s'=>match fin with | .done f=>R (.ok f) s' | .again c'=>c'.quiet=true/\fK (aM prog w) A c' R s') (fun e s'=>R (.error e) s') ⟨h,g,d,t,os⟩) :
  fK (aM prog w) A (.call (.builtin "object.__setattr__") ⟨[.ref x,.str name tk,v],[]⟩) R ⟨h,g,d,t,os⟩:=by
 have SF:=DF;have sub:Looks (aM prog w) h (HE (.ref x) (.type "object")) true:=(wD (M:=aM prog w) hx hc).andThen (looks_mroIn X hb);exact gT SF.slot.plain SF.entry (@PySem.W.check_slot (aM prog w) _ _ ⟨h,g,d,t,os⟩ "object.__setattr__" "object" "__setattr__" (.ref x) [.str name tk,v] [] _ SF.kind SF.split sub (SF.args (.ref x) (.str name tk) v) hq)
theorem AC{Q:Unit->aC->Prop}(X:K.In h)(hb:mroIn K C (.type "object")=some true)(hsa:findIn K (.ref C) "__setattr__" = some (some (.builtin "object.__setattr__")))(hx:h.get? x=some o)(hc:o.cls=.ref C)(hq:∀tk,aU (aM prog w) A.in1 (Builtin.«object.__setattr__» ⟨[.ref x,.str name tk,v],[]⟩) (fun fin s'=>fin=.done (.ret .none)/\Q () s') E ⟨h,g,d,t+1,os⟩) :
  aU (aM prog w) A (setAttr (.ref x) name v) Q E ⟨h,g,d,t,os⟩:=by
 have L0:=wD (M:=aM prog w) hx hc;have L1:=looks_findIn (M:=aM prog w) X hsa;refine aA (wpAny_mkText (aA (aA (aA (L0 _ _ _ _ (fun _ _ e=>e) (L1 _ _ _ _ (fun _ _ e=>e) (cU ?_)))))));rw[DF.slot.bind];refine aA (aJ (aA (mI (NW X hb hx hc (cB (hq _) (fun fin s' z=>?_) fun _ _ z=>z)))));obtain⟨rfl,z⟩:=z;exact aJ (aJ z)
end
open PySem.Calls PySem.Builtin PySem.Builtin.ObjectAttr
open PySem.W (Looks looks_findIn looks_mroIn looks_clsIn findIn mroIn clsIn InstAt looks_find findObj handedIn handedOut_of)
section
variable{prog:aY}{w:bS}{A:bR}{E:Value->aC->Prop}{h:Heap}{g:Array iY}{d:pD}{t:Nat}{os:RE}{K:Frag}{x C N dx:aB}{o od:Obj}{name:Str}{v:Value}
theorem HY{tk:Tok}{Q:Fin->aC->Prop}(X:K.In h)(I:InstAt h x o C (some od))(hf:findObj K C (some od) name=some (.value v))(hh:handedIn v=true)(hq:Q (.done (.ret v)) ⟨h,g,d,t,os⟩) :
  aU (aM prog w) A (Builtin.«object.__getattribute__» ⟨[.ref x,.str name tk],[]⟩) Q E ⟨h,g,d,t,os⟩:=by
 have L0:=I.type (M:=aM prog w);have L1:=looks_find (M:=aM prog w) X I hf;unfold Builtin.«object.__getattribute__»
 repeat (any_goals (first | assumption | with_reducible refine L0.at ?_ | with_reducible refine L1.at ?_ | wp_step))
theorem YS{tk:Tok}{fill expr:Bool}{Q:Value->aC->Prop}(X:K.In h)(XI:XIn K C)(I:InstAt h x o C (some od))(hf:findObj K C (some od) name=some (.value v))(hh:handedIn v=true)(hq:Q v ⟨h,g,d,t,os⟩) :
  aU (aM prog w) A (getAttrBy (.ref x) (.str name tk) fill expr) Q E ⟨h,g,d,t,os⟩:=by
 have L0:=I.type (M:=aM prog w);have L1:=looks_findIn (M:=aM prog w) X XI.ga;have L2:=looks_findIn (M:=aM prog w) X XI.gt;have f3:=F.attr_ValueError.ga.bind (.ref x);have hx0:(expr&&NO (Value.builtin "BaseException.__getattribute__"))=false:=by cases expr<;>rfl
 have hx2:(Value.builtin "BaseException.__getattribute__"==Value.builtin "object.__getattribute__")=false:=by decide +kernel
 have hx1:(NO (Value.ref C)&&Value.builtin "BaseException.__getattribute__"==Value.builtin "object.__getattribute__")=false:=by rw[hx2];rfl
 repeat (any_goals (first | assumption | with_reducible refine L0.at ?_ | with_reducible refine L1.at ?_ | with_reducible refine L2.at ?_ | wp_step))
 refine gT F.attr_ValueError.ga.plain F.entry_bexc_ga (sV X I.at_ I.cls XI (HY X I hf hh ?_))
 repeat (any_goals (first | assumption | wp_step))
 show aU _ _ (handedOut v) _ _ _;rw[handedOut_of hh];exact aJ hq
theorem NX{expr:Bool}{Q:Value->aC->Prop}(X:K.In h)(XI:XIn K C)(I:InstAt h x o C (some od))(hf:findObj K C (some od) name=some (.value v))(hh:handedIn v=true)(hq:Q v ⟨h,g,d,t+1,os⟩) :
  aU (aM prog w) A (getAttr (.ref x) name expr) Q E ⟨h,g,d,t,os⟩:=by
 unfold getAttr
 repeat (any_goals (first | assumption | with_reducible apply YS X XI I hf hh | wp_step))
end
theorem WJ{P:aY}{w:bS}{H:Hp}{h:Heap}{e:aB}{oe:Obj}(q:h.get? e=some oe):ObjOk P w H h e (isO e oe):=⟨q,⟨_,q⟩,fun _ _ a k=>k _ a⟩
theorem HZ{P:aY}{w:bS}{H:Hp}{h:Heap}{dx:aB}{fs:List (Str×V)}{mA:Str->Option Value}(n:h.Ns1 dx mA)(r:∀f,RelO (fs.lookup f) (mA f))(wi:Within mA (fs.map (·.1))):ObjOk P w H h dx (xdO dx fs):=
 ⟨⟨mA,n,r,wi⟩,let ⟨o,_,_,e,_⟩:=n;⟨o,e⟩,fun _ _ ⟨m,⟨o,es,ep,e,c⟩,r,wi⟩ k=>⟨m,⟨o,es,ep,k _ e,c⟩,r,wi⟩⟩
theorem kI{P:aY}{w:bS}{H:Hp}{h:Heap}{e:aB}{oe:Obj}(ok:L2.HOk P w H h)(q:H e=some (isO e oe)):h.get? e=some oe:=(ok e _ q).1
structure XFld(K:Frag)(C f:aB):Prop where
 cls:xinIn K C f=true
 xin:XIn K C
 sa:findIn K (.ref C) "__setattr__" = some (some (.builtin "object.__setattr__"))
section
variable{aD:List (aB×Obj)}{σ : L2.St}{H:Hp}{s:aC}{e dx C fI:aB}{oe:Obj}{f:Str}{y:V}{u:Value}{A:bR}{E:Value->aC->Prop}{fs:List (Str×V)}
theorem SM{Q:Unit->aC->Prop}(I:Inv X aD σ H s)(he:H e=some (isO e oe))(c:XFld X.K C fI)(n:findIn X.K (.ref C) f=some none)(hc:oe.cls=.ref C)(hnc:∀c,oe.data≠.cls c)(hdn:oe.dict=none)(ry:RelV y u)(h:∀dx s',H dx=none->dx≠e->Inv X aD σ (upd (upd H dx (xdO dx [(f,y)])) e (isO e { oe with dict:=some dx })) s'->Q () s'):aU (aM X.prog X.w) A (setAttr (.ref e) f u) Q E s:=by
 obtain⟨bm,N,nm,qn,bs,sn,sub,ab,col,dd,k0,k1,k2,k3,k5,mN,c1,c2,c3,c4⟩:=HX I.kIn c.cls;have hx:=kI I.hok he;obtain⟨hh,g,d,t,os⟩:=s;have hlt:=aS hx;refine AC I.kIn c.xin.ob c.sa hx hc fun tk=>YR I.kIn (I.kIn _ _ c1) c4 n hx hc hnc hdn fun h' tk' q1 q2 q3=>⟨rfl,h hh.objs.size _ (I.hok.fresh (aO _)) (fR hlt) ?_⟩
 have ns:hh.objs.size≠e:=fR hlt;have nf:∀o:Obj,h'.get? hh.objs.size=some o->True:=fun _ _=>trivial;have hfr:=(NV.mp hx).2;have m1:(h'.update e fun _=>oe).get? e=some oe:=cC _ q1 hfr;have m2:∀b,b≠e->(h'.update e fun _=>oe).get? b=h'.get? b:=fun b hb=>bG _ _ (Ne.symm hb)
 have I1:=I.laid (a:=hh.objs.size) (o:=xdO hh.objs.size [(f,y)]) (h':=h'.update e fun _=>oe) (t':=tk') (fun b o z=>by
  by_cases hb:b=e
  . subst hb;rw[m1];rw[<- hx];exact z
  . rw [m2 b hb]; exact q3 b o hb z) (aO _) (HZ (mA := fun y => if y = f then some u else none) (by
    obtain⟨o,es,ep,z1,z2⟩:=q2
    exact⟨o,es,ep,(m2 _ ns).trans z1,z2⟩) (fun g=>by
    simp only[cG,List.lookup_nil]
    by_cases hg:g=f
    . subst hg;simpa[RelO] using ry
    . have : (g == f) = false := by simpa using hg
      rw[if_neg hg,this];trivial) (fun g hg=>by
    by_cases q:g=f
    . subst q;simp
    . exact absurd (if_neg q) hg))
 refine Inv.write (s:={ heap:=h'.update e fun _=>oe,gens:=g,drawn:=d,toks:=tk',os:=os }) (x:=e) (e:=e) (h':=h') (t':=tk') I1 (by rw[zJ (Ne.symm ns),he];exact True.intro) (.inl rfl) (fun b o hb z=>?_) ⟨_,q1⟩ (WJ q1);exact(m2 b hb).symm.trans z
theorem SK{Q:Unit->aC->Prop}(I:Inv X aD σ H s)(he:H e=some (isO e oe))(hd:H dx=some (xdO dx fs))(hl:fs.length<1000)(c:XFld X.K C fI)(n:findIn X.K (.ref C) f=some none)(hc:oe.cls=.ref C)(hnc:∀c,oe.data≠.cls c)(hdx:oe.dict=some dx)(ry:RelV y u)(h:∀s',Inv X aD σ (upd H dx (xdO dx (putF f y fs))) s'->Q () s'):aU (aM X.prog X.w) A (setAttr (.ref e) f u) Q E s:=by
 obtain⟨bm,N,nm,qn,bs,sn,sub,ab,col,dd,k0,k1,k2,k3,k5,mN,c1,c2,c3,c4⟩:=HX I.kIn c.cls;have hx:=kI I.hok he;obtain⟨mA,n1,r,wi⟩:=(I.hok _ _ hd).1;obtain⟨hh,g,d,t,os⟩:=s;refine AC I.kIn c.xin.ob c.sa hx hc fun tk=>YQ (ns:=fs.map (·.1)) I.kIn (I.kIn _ _ c1) c4 n hx hc hnc hdx n1 wi (by rw[cH,iN];omega) fun h' tk' q1 q2=>⟨rfl,h _ ?_⟩
 have hd':∃o,h'.get? dx=some o:=let ⟨o,_,_,e',_⟩:=q1;⟨o,e'⟩;refine I.write (x:=dx) (e:=dx) (h':=h') (t':=tk') (by rw[hd];exact True.intro) (.inl rfl) (fun b q hb z=>(q2.2 b hb).trans z) hd' (HZ q1 (fun g=>?_) fun g hg=>?_)
 . show RelO ((putF f y fs).lookup g) (if g = f then some u else mA g);rw [rR]
   by_cases q:g=f
   . rw[if_pos q,if_pos q];exact ry
   . rw[if_neg q,if_neg q];exact r g
 . by_cases q : g = f
   . rw[q];exact(vJ f y fs).1
   . refine(vJ f y fs).2 g (wi g fun z => hg ?_);show(if g=f then some u else mA g)=none;rw[if_neg q];exact z
end
open PySem.W (findIn)
noncomputable def sX1(C:aB)(ta tv:TE)(f:Str):L2.TS:=fun D σ H=>tv σ H fun y H1=>ta σ H1 fun x H2=>∃e oe,x=.ref e/\H2 e=some (isO e oe)/\oe.cls=.ref C/\(∀c,oe.data≠.cls c)/\oe.dict=none ∧
 ∀dx,H2 dx=none->dx≠e->D.nx σ (upd (upd H2 dx (xdO dx [(f,y)])) e (isO e { oe with dict:=some dx }))
noncomputable def sX2(C:aB)(ta tv:TE)(f:Str):L2.TS:=fun D σ H=>tv σ H fun y H1=>ta σ H1 fun x H2=>∃e oe dx fs,x=.ref e/\H2 e=some (isO e oe)/\oe.cls=.ref C/\(∀c,oe.data≠.cls c)/\oe.dict=some dx ∧
 H2 dx=some (xdO dx fs)/\fs.length<1000/\D.nx σ (upd H2 dx (xdO dx (putF f y fs)))
section
variable{C fI:aB}{o value:Expr}{ta tv:TE}{f:Str}{pos pos':Pos}
theorem ps_x1(c:XFld X.K C fI)(n:findIn X.K (.ref C) f=some none)(ha:PE X o ta)(hv:PE X value tv)(hs:gG value (some (.Attribute o f pos')) pos.line X.env=pure false):PS X (.Assign [.Attribute o f pos'] value pos) (sX1 C ta tv f):=by
 intro aD s σ H D I h;refine plainObj_wpAny_Assign_Attribute (thn (hv aD s σ H _ I h) fun u s1 ⟨y,H1,I1,ry,q⟩=>thn (ha aD s1 σ H1 _ I1 q) fun ov s2 zq=>?_) hs;obtain⟨x,H2,I2,rx,e,oe,ex,ea,h1,h2,h3,q2⟩:=zq;subst ex;obtain rfl:ov=Value.ref e:=rx;exact SM I2 ea c n h1 h2 h3 ry fun dx s3 d1 d2 I3=>⟨σ,_,I3,q2 dx d1 d2⟩
theorem ps_x2(c:XFld X.K C fI)(n:findIn X.K (.ref C) f=some none)(ha:PE X o ta)(hv:PE X value tv)(hs:gG value (some (.Attribute o f pos')) pos.line X.env=pure false):PS X (.Assign [.Attribute o f pos'] value pos) (sX2 C ta tv f):=by
 intro aD s σ H D I h;refine plainObj_wpAny_Assign_Attribute (thn (hv aD s σ H _ I h) fun u s1 ⟨y,H1,I1,ry,q⟩=>thn (ha aD s1 σ H1 _ I1 q) fun ov s2 zq=>?_) hs;obtain⟨x,H2,I2,rx,e,oe,dx,fs,ex,ea,h1,h2,h3,h4,h5,q2⟩:=zq;subst ex;obtain rfl:ov=Value.ref e:=rx;exact SK I2 ea h4 h5 c n h1 h2 h3 ry fun s3 I3=>⟨σ,_,I3,q2⟩
end
def Set3(f1 f2 f3:Str)(H H':Hp)(e dx:aB)(oe:Obj)(a b c:V):Prop:=H' dx=some (xdO dx [(f1,a),(f2,b),(f3,c)])/\H' e=some (isO e { oe with dict:=some dx })/\∀x,x≠dx->x≠e->H' x=H x
noncomputable def spXI(C:aB)(f1 f2 f3:Str):Sp:=fun vs H Q _=>∃e a b c oe,vs=[.ref e,a,b,c]/\H e=some (isO e oe)/\oe.cls=.ref C/\(∀c,oe.data≠.cls c)/\oe.dict=none ∧
 ∀dx H',H dx=none->dx≠e->Set3 f1 f2 f3 H H' e dx oe a b c->Q .non H'
theorem init3{P:aY}{w:bS}{K:Frag}{mg:Str->Option Value}{base:Heap}{x qual f1 f2 f3:Str}{st:Stmt}{f C fI:aB}{fd:bQ}{p1 p2 p3 p4 p5 p6 p7 p8 p9 q1 q2 q3:Pos}(Fn:Fun K x qual st f fd)(S:FnScope ["self",f1,f2,f3] ["self",f1,f2,f3] (zK st))(c:XFld K C fI)(n1:findIn K (.ref C) f1=some none)(n2:findIn K (.ref C) f2=some none)(n3:findIn K (.ref C) f3=some none)(h12:f1≠f2)(h13:f1≠f3)(h23:f2≠f3)(hb:jH st=[.Assign [.Attribute (.Name "self" p1) f1 p2] (.Name f1 p3) q1,.Assign [.Attribute (.Name "self" p4) f2 p5] (.Name f2 p6) q2,.Assign [.Attribute (.Name "self" p7) f3 p8] (.Name f3 p9) q3])(hv:∀y∈(["self",f1,f2,f3]:List Str),Vis (zK st) y)(hd:∀y∈(["self",f1,f2,f3]:List Str),(y==("__debug__" : Str))=false/\(y==("__classdict__" : Str))=false) :
  FnOk P w K mg base CX0 1 f fd ["self",f1,f2,f3] (spXI C f1 f2 f3):=by
 refine Fn.ok S (fun vs H Q E h=>?_) fun cdv A outer s H vs Q E hr h=>?_
 . obtain⟨e,a,b,c,oe,rfl,_⟩:=h;rfl
 obtain⟨e,a,b,c',oe,rfl,h1,h2,h3,h4,q⟩:=h;rw[hb]
 have pv:∀{i:Nat} {y:Str} {p:Pos},(["self",f1,f2,f3]:List Str)[i]?=some y->PE (cxOf CX0 P w K mg base ["self",f1,f2,f3] qual (zK st) f cdv A outer s H E).nox (.Name y p) (tVar i):=fun {i y p} hi =>
  yL hi (hv _ (eH hi)) (hd _ (eH hi)).1 (hd _ (eH hi)).2
 refine⟨_,xQ (ps_x1 (C:=C) c n1 (pv (i:=0) rfl) (pv (i:=1) rfl) rfl) (xQ (ps_x2 (C:=C) c n2 (pv (i:=0) rfl) (pv (i:=2) rfl) rfl) (xQ (ps_x2 (C:=C) c n3 (pv (i:=0) rfl) (pv (i:=3) rfl) rfl) LR)),?_⟩;refine⟨a,rfl,.ref e,rfl,e,oe,rfl,h1,h2,h3,h4,fun dx d1 d2=>⟨b,rfl,.ref e,rfl,e,{ oe with dict:=some dx },dx,[(f1,a)],rfl,bY,h2,h3,rfl,?_,by simp,⟨c',rfl,.ref e,rfl,e,{ oe with dict:=some dx },dx,[(f1,a),(f2,b)],rfl,?_,h2,h3,rfl,?_,by simp,?_⟩⟩⟩
 . rw[zJ d2,bY]
 . rw[zJ (Ne.symm d2),bY]
 . rw[bY];simp[putF,h12]
 . refine q dx _ d1 d2 ⟨?_, ?_, fun z z1 z2 => ?_⟩
   . rw[bY];simp[putF,h12,h13,h23]
   . rw[zJ (Ne.symm d2),zJ (Ne.symm d2),bY]
   . rw[zJ z1,zJ z1,zJ z2,zJ z1]
end FL
namespace PySem
section
variable{M:nX}{prog:aY}{w:bS}{A:bR}{E:Value->aC->Prop}{s:aC}{env:Env}
variable{nm q:Str}{C N:aB}{bs bm bmB:List Value}{hdct:Bool}{sn:List Str}{sub:List Value}{ab:Bool}{col:Option Bool}{dd:Option aB}{k0 k1 k2 k3 k5:Option Value}{B Bn newId nid initId inN:String}{bmN:List Value}
theorem yA{x:Sem Value}{Q:Flow->aC->Prop}(hbase:bm.contains (.type "BaseException")=true)(hh:A.handled=none)(h:aU M A x (fun v s₁=>∃e od t,v=.ref e/\s₁.heap.get? C=some (iO nm q C N bs bm hdct sn sub ab col dd k0 k1 k2 k3 k5 newId)/\s₁.heap.get? e=some { cls:=.ref C,dict:=od,data:=.fields #[.ref t,.none,.none,.none,.bool false,.none] }/\E (.ref e) s₁) E s) :
  aU M A (raiseStmt env (some x) none) Q E s:=by
 have hcB:(Value.ref C::bm).contains (.type "BaseException")=true:=by rw[List.contains_cons,hbase,Bool.or_true]
 unfold raiseStmt;refine aA (cB h (fun v s₁ h₁=>?_) fun _ _ x=>x);obtain⟨e,od,t,rfl,hC,he,hE⟩:=h₁;obtain⟨hp,g,d,tk,os⟩:=s₁
 repeat (first | with_reducible refine dQ he ?_ | with_reducible refine dQ hC ?_ | (with_reducible refine wpAny_isSubtype_exc hC ?_;rw[hcB]) | wp_step)
 exact wpAny_raiseNew_none hh hE
theorem GY(Fn:mD Bn newId inN bmN)(hBn:bmB.contains (.type Bn)=true)(F:mD B nid initId bmB){mN:Str->Option Value}{x:Str}{np cpos pos:Pos}{args:List Expr}{fI:aB}{oI:Obj}{Q:Flow->aC->Prop}(hbase:bm.contains (.type "BaseException")=true)(hh:A.handled=none)(hplain:(eF cpos (aL args env)).any (·.1)=false)(hi:mN "__init__" = some (.ref fI))(hfc:oI.cls=.type "function")(h:aU (aM prog w) A (cM (.Name x np) env) (fun f s₁=>f=.ref C/\aU (aM prog w) A (evalArgs (.ref C) true (eF cpos (aL args env)) [])
    (fun a s₂=>a.kw=[]/\a.pos.length<=sizeLine/\s₂.heap.get? C=some (iO nm q C N bs bm hdct sn sub ab col dd k0 k1 k2 k3 k5 newId)/\s₂.heap.Ns N mN/\s₂.heap.get? fI=some oI/\uG s₂.heap bmB bm ∧
      ∀h' e,s₂.heap.objs.size<=e->Heap.MadeExcOf s₂.heap h' e (.ref C) a.pos->aU (aM prog w) (A.under (.builtin "type.__call__" ⟨.ref C::a.pos,[]⟩)) (call (.ref fI) (.ref e::a.pos))
       (fun r s'=>r=.none/\∃od t,s'.heap.get? C=some (iO nm q C N bs bm hdct sn sub ab col dd k0 k1 k2 k3 k5 newId)/\s'.heap.get? e=some { cls:=.ref C,dict:=od,data:=.fields #[.ref t,.none,.none,.none,.bool false,.none] }/\E (.ref e) s') E { s₂ with heap:=h' }) E s₁) E s) :
  aU (aM prog w) A (exec (.Raise (some (.Call (.Name x np) args [] cpos)) none pos) env) Q E s:=by
 rw[arm_exec_Raise]
 first
  |refine aA (eQ (yA (C:=C) (nm:=nm) (q:=q) (N:=N) (bs:=bs) (bm:=bm) (hdct:=hdct) (sn:=sn) (sub:=sub) (ab:=ab) (col:=col) (dd:=dd) (k0:=k0) (k1:=k1) (k2:=k2) (k3:=k3) (k5:=k5) (newId:=newId) hbase hh (aA (cB (uC (cB h (fun f s₁ h₁=>?_) fun _ _ x=>x)) (fun v s₃ h₃=>aA (eQ (aJ h₃))) fun _ _ x=>x))))
  |(simp only[evalOpt,Option.map];refine aA (eQ (yA (C:=C) (nm:=nm) (q:=q) (N:=N) (bs:=bs) (bm:=bm) (hdct:=hdct) (sn:=sn) (sub:=sub) (ab:=ab) (col:=col) (dd:=dd) (k0:=k0) (k1:=k1) (k2:=k2) (k3:=k3) (k5:=k5) (newId:=newId) hbase hh (aA (cB (uC (cB h (fun f s₁ h₁=>?_) fun _ _ x=>x)) (fun v s₃ h₃=>aA (eQ (aJ h₃))) fun _ _ x=>x)))))
  |(refine aA (eQ (yA (C:=C) (nm:=nm) (q:=q) (N:=N) (bs:=bs) (bm:=bm) (hdct:=hdct) (sn:=sn) (sub:=sub) (ab:=ab) (col:=col) (dd:=dd) (k0:=k0) (k1:=k1) (k2:=k2) (k3:=k3) (k5:=k5) (newId:=newId) hbase hh ?_));refine aA (cB (uC (cB h (fun f s₁ h₁=>?_) fun _ _ x=>x)) (fun v s₃ h₃=>aA (eQ (aJ h₃))) fun _ _ x=>x))
 obtain⟨rfl,h₁⟩:=h₁;unfold callWith;refine aA (cU (cB h₁ (fun a s₂ h₂=>aA (eQ ?_)) fun _ _ x=>x));obtain⟨apos,akw⟩:=a;obtain⟨hkw,hlen,hC,hn,hfI,T,h₂⟩:=h₂;obtain rfl:akw=[]:=hkw;obtain⟨hp,g,d,tk,os⟩:=s₂;simp only[hplain];refine aA (wpAny_keeperOf_exc hC ?_);refine aA (KC (hrest:=hlen) Fn hBn F T hC hn hi hfI hfc fun h' e hz hm=>cB (h₂ h' e hz hm) (fun r s' z=>⟨z.1,aA (cU (wpAny_point (aJ ?_)))⟩) fun _ _ x=>x);obtain⟨_,od,t,z1,z2,z3⟩:=z;exact⟨e,od,t,rfl,z1,z2,z3⟩
end
end PySem
namespace FL
noncomputable def xo(C:aB)(od:Option aB)(t:aB):Obj:={ cls:=.ref C,dict:=od,data:=.fields #[.ref t,.none,.none,.none,.bool false,.none] }
def XeOkI(X:Cx)(e:aB)(σ : L2.St)(H:Hp):Prop:=∀(aD:List (aB×Obj)) (s:aC),Inv X aD σ H s->X.xe (.ref e) s
noncomputable def ZA(X:Cx)(C:aB)(sp:Sp)(t:TA):L2.TS:=fun _ σ H=>t σ H fun vs H1=>vs.length<=100/\∀e tu,X.s₀.heap.objs.size<=e->H1 e=none →
 sp (.ref e::vs) (upd H1 e (isO e (xo C none tu))) (fun v H2=>v=.non/\∃od,H2 e=some (isO e (xo C od tu))/\XeOkI X e σ H2) E0
theorem OP{C fI:aB}{k:Nat}{fd:bQ}{ps:List Str}{sp:Sp}{x:Str}{np cpos pos:Pos}{e:Expr}{es:List Expr}{t:TA}(hC:xinIn X.K C fI=true)(hm:X.mg x=some (.ref C))(hcalm:X.calm=true)(Fn:FnOk X.prog X.w X.K X.mg X.base CX0 k fI fd ps sp)(hr:Room (k+1) X.A)(hb:Binds X.K fd ps [])(hf:mJ X.K (.ref fI)=true)(ha:PA X (e::es) t)(hg:Gl X x:=by rfl)(hdb:(x==("__debug__" : Str))=false:=by decide)(he:aL (e::es) X.env=(false,cM e X.env)::aL es X.env:=by rfl)(hpl:(eF cpos (aL (e::es) X.env)).any (·.1)=false:=by rfl):PS X (.Raise (some (.Call (.Name x np) (e::es) [] cpos)) none pos) (ZA X C sp t):=by
 intro aD s σ H D I h;obtain⟨bm,N,nm,qn,bs,sn,sub,ab,col,dd,k0,k1,k2,k3,k5,mN,h1,h2,h3,h4⟩:=HX I.mod.kin hC;have hbase:bm.contains (.type "BaseException")=true:=h4.hasType (by decide +kernel);obtain⟨oI,lI,cI⟩:∃oI,X.K.lookup fI=some oI/\oI.cls=.type "function":=BO.mp (show(X.K.lookup fI).map (·.cls)=some (.type "function") from beq_iff_eq.mp hf);refine GY (C:=C) (mN:=mN) (N:=N) (nm:=nm) (q:=qn) (bs:=bs) (bm:=bm) (hdct:=true) (sn:=sn) (sub:=sub) (ab:=ab) (col:=col) (dd:=dd) (k0:=k0) (k1:=k1) (k2:=k2) (k3:=k3) (k5:=k5) (fI:=fI) (oI:=oI) F.excBase_ValueError (by decide +kernel) F.excBase_ValueError hbase (I.ok.hd hcalm) hpl h3 cI (vB I hg hm ⟨rfl,?_⟩ hdb);have hs:=ha cpos aD s σ H _ I h;rw[he] at hs ⊢;refine Calls.evalArgs_plain (thn hs fun us s1 ⟨vs,H1,I1,r,hl,q⟩=>?_);refine⟨rfl,?_,I1.kIn _ _ h1,h2.keeps I1.bk,I1.kIn _ _ lI,h4.keeps I1.bk,fun h' e hz hm=>?_⟩
 . show us.length<=sizeLine;rw[<- r.length,iN];omega
 obtain⟨tu,q1,q2,q3⟩:=hm.there;have He:H1 e=none:=I1.hok.fresh hz;have I2:=I1.laid (a:=e) (o:=isO e (xo C none tu)) (h':=h') (t':=s1.toks) hm.keeps hz (WJ q1);have q0:=q e tu (cW I1.sz hz) He;have r2:Vals (V.ref e::vs) (Value.ref e::us):=.cons rfl r
 have hl2:(Value.ref e::us++[]).length=ps.length:=by
  have z:=r2.length;rw[Fn.len _ _ _ _ q0] at z;simpa using z.symm
 have hb':=hb _ (Value.ref e::us) I2.kIn hl2;rw[dG] at hb';refine mI (gX (Fn.run _ X.stack _ _ ⟨Value.ref e::us,[]⟩ (Value.ref e::us) _ _ E0 (hr.make C us []) (I2.env0.make C us []) hb' r2 q0) fun r s' hq'=>?_);cases r with
 |error e=>exact False.elim hq'
 | ok fl =>
   cases fl with
   | ret u =>
     obtain⟨v,H2,I3,rv,rfl,od,z1,z2⟩:=I2.after hq';exact⟨rv,od,tu,I3.kIn _ _ h1,kI I3.hok z1,z2 _ _ I3⟩
   |next=>exact False.elim hq'
   |brk=>exact False.elim hq'
   |cont=>exact False.elim hq'
open PySem.W (hideAll hideAll_get of_hideAll hideAll_none funFrames_hide)
noncomputable def thrH(H:Hp)(e dx:aB)(od:Obj)(fv:List (Str×V)):Hp:=fun b=>if b=e then none else if b=dx then some (.frz od (xdO dx fv)) else H b
theorem vD{H:Hp}{e dx b:aB}{od:Obj}{fv:List (Str×V)}(h1:b≠e)(h2:b≠dx):thrH H e dx od fv b=H b:=by unfold thrH;rw[if_neg h1,if_neg h2]
theorem TL{H:Hp}{e dx:aB}{od:Obj}{fv:List (Str×V)}: thrH H e dx od fv e=none:=if_pos rfl
theorem TM{H:Hp}{e dx:aB}{od:Obj}{fv:List (Str×V)}(h:dx≠e):thrH H e dx od fv dx=some (.frz od (xdO dx fv)):=by unfold thrH;rw[if_neg h,if_pos rfl]
theorem NZ{P:aY}{w:bS}{K:Frag}{mg:Str->Option Value}{base:Heap}{N:List Str}{qual:Str}{scope:Scope}{f C e dx tu:aB}{cd:Value}{A:bR}{outer:List Env}{s:aC}{H H2:Hp}{E:XK}{σ : L2.St}{fv:List (Str×V)}(h1:H2 e=some (isO e (xo C (some dx) tu)))(h2:H2 dx=some (xdO dx fv))(ne:dx≠e)(se:s.heap.objs.size<=e)(d0:H dx=none)(hE:∀od,E (.ref C) (some dx) (thrH H2 e dx od fv)) :
  XeOkI (cxOf (CXM P w) P w K mg base N qual scope f cd A outer s H E) e σ H2:=by
 intro aD s1 I;have he:=kI I.hok h1;obtain⟨mA,⟨od,es,ep,hod,c⟩,r,wi⟩:=(I.hok _ _ h2).1;have hfr:frs (iX qual scope s.heap.objs.size f cd::outer)=s.heap.objs.size::frs outer:=rfl
 have lt:∀b o,s.heap.get? b=some o->b≠e/\b≠dx:=fun b o q=>⟨bE (bN (aS q) se),fun z=>by
  subst z;have:=I.base.free b o q d0 (by intro z;cases z)
  rw[h2] at this;cases this⟩
 have nm:∀b o,s.heap.get? b=some o->b∉frs outer->b∉e::frs (iX qual scope s.heap.objs.size f cd::outer):=fun b o q n z=>by
  rw[hfr] at z;rcases aH.mp z with z | z
  . exact(lt b o q).1 z
  rcases aH.mp z with z | z
  . exact absurd (aS q) (by rw[z];exact cT _)
  . exact n z
 have other:∀b u,H2 b=some u->(∀φ,u≠.ext φ)->thrH H2 e dx od fv b=some u:=fun b u q n=>by
  refine(vD (fun z=>?_) fun z=>?_).trans q
  . rw[z,h1] at q;cases q;exact n _ rfl
  . rw[z,h2] at q;cases q;exact n _ rfl
 have hok1:L2.HOk P w (thrH H2 e dx od fv) s1.heap:=fun a o q=>by
  by_cases a1:a=e
  . rw[a1,TL] at q;cases q
  by_cases a2:a=dx
  . rw[a2, TM ne] at q;cases q;rw[a2];exact⟨hod,HZ ⟨od,es,ep,hod,c⟩ r wi⟩
  . rw[vD a1 a2] at q;refine(I.hok a o q).stay (fun b u _ z=>z) (fun b z=>other b _ z fun φ q=>by cases q) fun b u z=>other b _ z fun φ q=>?_;have:=u.2;rw[q] at this;exact this
 show aU _ _ (leaving _ _) _ _ _;unfold leaving rC;simp only[show(iX qual scope s.heap.objs.size f cd).frame=some s.heap.objs.size from rfl];refine aA (aA (lP he rfl (x:=Value.none) rfl ?_));rw[if_neg (by decide)];refine XG (B:=hideAll s1.heap (e::frs (iX qual scope s.heap.objs.size f cd::outer))) (cls:=.ref C) (a0:=(.ref tu,some dx)) I.ok.frames (funFrames_hide I.stack fun env hv b hb=>aI _ (pO.mpr ⟨env,hv,hb⟩)) rfl he (fun b o q=>of_hideAll _ q) ?_ rfl ⟨⟨rfl,rfl⟩,rfl,rfl⟩ fun h3 f3 u3=>set2 (s:={ s1 with heap:=h3 }) f3 fun h4 f4 u4=>?_
 . exact hideAll_none _ aF
 obtain⟨k1,k2,⟨_,_,k3⟩,k4⟩:=f4;refine⟨e,.ref C,(.ref tu,some dx),_,thrH H2 e dx od fv,rfl,I.os,I.bare,⟨⟨k1,k2,k3,k4⟩,fun b o q n hb=>?_,fun b o q hb=>?_,fun b o q hb=>?_,fun b o q n=>?_,fun b xs q=>?_,fun b o u q=>?_,fun b ps q=>?_,?_⟩,hE od⟩
 . exact hideAll_get _ (I.base.keep b o q n hb (by intro z;cases z)) (nm b o q hb)
 . obtain⟨o', q'⟩ := I.base.there b o q (by intro z;cases z);exact⟨o',hideAll_get _ q' (nm b o q hb)⟩
 . obtain⟨sl, q'⟩ := I.base.slot b o q (I.ok.frf b hb) hb (by intro z;cases z);obtain⟨_,ob,ho,hd⟩:=I.ok.funs.mem hb;have ho':s.heap.get? b=some ob:=ho;rw[q] at ho';cases ho';obtain⟨sl',q''⟩:=(u3.trans u4) b _ q' hd;exact⟨sl',q''⟩
 . rw[vD (lt b o q).1 (lt b o q).2];exact I.base.free b o q n (by intro z;cases z)
 . exact other b _ (I.base.tups b xs q) fun φ q=>by cases q
 . exact other b _ (I.base.frzs b o u q) fun φ q=>by cases q
 . exact other b _ (I.base.tbls b ps q) fun φ q=>by cases q
 . refine JQ hok1 _ fun b hb => ?_;rcases aH.mp hb with rfl | hb
   . exact TL
   . have z := I.stkFree b hb;rw[vD (fun y=>by rw[y,h1] at z;cases z) (fun y=>by rw[y,h2] at z;cases z)];exact z
open PySem.W (findIn)
noncomputable def fsV(fs:Fls):List (Str×V):=fs.map fun p=>(p.1,.int p.2)
def XRF(X:Cx)(C:aB)(H₀ : Hp)(fs:Fls):Prop:=∀(σ':L2.St) (H2:Hp) (e dx tu:aB),Same H₀ H2->H₀ dx=none->H₀ e=none->H2 e=some (isO e (xo C (some dx) tu))->H2 dx=some (xdO dx (fsV fs))->dx≠e->X.s₀.heap.objs.size<=e->XeOkI X e σ' H2
section
variable(X:Cx)(C:aB)
def PSF(st:Stmt)(x:FF):Prop:=∃t,PS X st t/\∀H₀ H O σ ds hd D fs,Ok X.K H₀ H O σ ds hd->x ds=some fs->XRF X C H₀ fs->t D σ H
def PSsF(st:List Stmt)(x:FF):Prop:=∃t,PSs X st t/\∀H₀ H O σ ds hd D fs,Ok X.K H₀ H O σ ds hd->x ds=some fs->XRF X C H₀ fs->t D σ H
end
section
variable{C:aB}
theorem OQ{fI:aB}{fd:bQ}{ps:List Str}{f1 f2 f3 x:Str}{np cpos pos:Pos}{e:Expr}{es:List Expr}{g:FA}(hC:xinIn X.K C fI=true)(hm:X.mg x=some (.ref C))(Fn:FnOk X.prog X.w X.K X.mg X.base CX0 1 fI fd ps (spXI C f1 f2 f3))(hr:Room 2 X.A)(hb:Binds X.K fd ps [])(hf:mJ X.K (.ref fI)=true)(ha:PAn X (e::es) g)(hcalm:X.calm=true:=by rfl)(hg:Gl X x:=by rfl)(hdb:(x==("__debug__" : Str))=false:=by decide)(he:aL (e::es) X.env=(false,cM e X.env)::aL es X.env:=by rfl)(hpl:(eF cpos (aL (e::es) X.env)).any (·.1)=false:=by rfl):PSF X C (.Raise (some (.Call (.Name x np) (e::es) [] cpos)) none pos) (raiF f1 f2 f3 g):=by
 obtain⟨t,ht,hft⟩:=ha;refine⟨_,OP hC hm hcalm Fn hr hb hf ht hg hdb he hpl,fun H₀ H O σ ds hd D fs o ex xr=>?_⟩;unfold raiF at ex
 split at ex
 . rename_i a b c hgd;cases ex;refine hft H₀ H O σ ds hd _ _ o hgd fun vs H1 s1 r=>?_
   obtain⟨v1,v2,v3,rfl,rfl,rfl,rfl⟩:∃v1 v2 v3,vs=[v1,v2,v3]/\v1=.int a/\v2=.int b/\v3=.int c:=by
    cases r with
    | cons r1 r => cases r with
      | cons r2 r => cases r with
        |cons r3 r=>cases r;cases r1;cases r2;cases r3;exact⟨_,_,_,rfl,rfl,rfl,rfl⟩
   refine⟨by simp,fun e tu se he=>⟨e,_,_,_,xo C none tu,rfl,bY,rfl,(fun c z=>by cases z),rfl,fun dx H' d1 d2 ⟨z1,z2,z3⟩=>⟨rfl,some dx,z2,?_⟩⟩⟩;have d3:H1 dx=none:=by rwa [zJ d2] at d1
   have sm:Same H₀ H1:=o.same.trans s1;refine xr σ H' e dx tu (fun b u eb=>?_) ?_ ?_ z2 z1 d2 se
   . have e1 := sm b u eb;rw[z3 b (fun z=>by rw[z,d3] at e1;cases e1) (fun z=>by rw[z,he] at e1;cases e1),zJ (fun z=>by rw[z,he] at e1;cases e1)];exact e1
   . cases q : H₀ dx with
     |none=>rfl
     |some u=>have:=sm dx u q;rw[d3] at this;cases this
   . cases q : H₀ e with
     |none=>rfl
     |some u=>have:=sm e u q;rw[he] at this;cases this
 . cases ex
theorem IQ{st:List Stmt}{t:TS}(h:PSs X st t):PSsF X C st pF:=⟨t,h,fun _ _ _ _ _ _ _ _ _ e _=>by cases e⟩
theorem OO{st:Stmt}{rest:List Stmt}{x:FF}{u:TS}(h1:PSF X C st x)(h2:PSs X rest u):PSsF X C (st::rest) x:=by
 obtain⟨t,ht,hf⟩:=h1;exact⟨_,xQ ht h2,fun H₀ H O σ ds hd D fs o e xr=>hf H₀ H O σ ds hd _ fs o e xr⟩
theorem psF_if{c:Expr}{a b:List Stmt}{pos:Pos}{fc:FT}{xa xb:FF}(hc:PTv X c fc)(ha:PSsF X C a xa)(hb:PSsF X C b xb):PSF X C (.If c a b pos) (ifF fc xa xb):=by
 obtain⟨tc,hc,hcf⟩:=hc;obtain⟨ta,ha,haf⟩:=ha;obtain⟨tb,hb,hbf⟩:=hb;refine⟨_,ps_if hc ha hb,fun H₀ H O σ ds hd D fs o e xr=>?_⟩;unfold ifF at e;cases hh:fc ds with
 |none=>rw[hh] at e;cases e
 | some k =>
   rw[hh] at e;refine hcf H₀ H O σ ds hd k _ o hh fun H' s=>?_;cases k with
   |true=>exact haf H₀ H' O σ ds hd D fs (o.mono s) e xr
   |false=>exact hbf H₀ H' O σ ds hd D fs (o.mono s) e xr
theorem ZV{tg iter:Expr}{body:List Stmt}{pos:Pos}{fi:FA}{ga:D->List Sl->Option (List Sl)}{g:FS}{x:FF}(hp:nW (aM X.prog X.w) X.A X.env X.xe)(hi:PIv X tg iter fi)(hg:PGv X tg ga)(hb:PSsv X body g)(hy:PSsF X C body x)(hc:X.calm=true:=by rfl)(hs:∀x,dZ iter X.env x=pure x:=by intro _;rfl):PSF X C (.For tg iter body [] pos) (forF fi ga g x):=by
 obtain⟨wi,pi,hi⟩:=hi;obtain⟨tg',pg,hg⟩:=hg;obtain⟨tb,pb,hb⟩:=hb;obtain⟨tz,pz,hz⟩:=hy;refine⟨_,IT hp hc pi pg (pss_or pz pb) hs (pos:=pos),fun H₀ H O σ ds hd D fs o e hE=>?_⟩;unfold forF at e;cases h1:fi ds with
 |none=>rw[h1] at e;cases e
 | some items =>
   rw[h1] at e;simp only at e;refine hi H₀ H O σ ds hd items _ o h1 fun J p H' s r wk=>?_;refine⟨fun i m σ' H'=>i<=items.length/\m=items.length-i/\∃O' ds',Ok X.K H₀ H' O' σ' ds' (HI.rep p.1 p.2::hd)/\loopF ga g x (items.drop i) ds'=some fs,⟨items.length,bW _,rfl,O,ds,(o.mono s).holdMore (p:=HI.rep p.1 p.2) r,by simpa using e⟩,?_⟩;rintro i m σ1 H1 ⟨hi1,rfl,O1,ds1,o1,e1⟩;obtain⟨go,_⟩:=wk H1 O1 o1.dom (o1.hold (HI.rep p.1 p.2) aF)
   by_cases hlt:i<items.length
   . right;have hd0:items[i]? = some items[i]:=aK hlt;obtain ⟨hgo,hyl⟩:=go i _ hd0;rw [cE hlt,loopF] at e1;refine ⟨hgo,fun σ' H'=>i+1<=items.length/\∃ O' ds',Ok X.K H₀ H' O' σ' ds' (HI.rep p.1 p.2::hd)/\loopF ga g x (items.drop (i+1)) ds'=some fs,fun σ' H' ⟨q1,q2⟩=>⟨items.length - (i+1),by omega,q1,rfl,q2⟩,fun v H2 y=>?_⟩;obtain ⟨s2,r2⟩:=hyl v H2 y;cases h2:ga items[i] ds1 with
     |none=>rw[h2] at e1;cases e1
     | some ds2 =>
       rw[h2] at e1;simp only at e1;refine hg H₀ H2 O1 σ1 ds1 (HI.rep p.1 p.2::hd) v _ ds2 _ (o1.mono s2) r2 h2 fun σ' o'=>?_;cases hx:x ds2 with
       | some fs' =>
         rw[hx] at e1;cases e1;exact .inl (hz H₀ H2 O1 σ' ds2 (HI.rep p.1 p.2::hd) _ fs o' hx hE)
       | none =>
         rw[hx] at e1;right;simp only at e1;cases h3:g ds2 with
         |none=>rw[h3] at e1;cases e1
         | some o3 =>
           rw[h3] at e1;refine hb H₀ H2 O1 σ' ds2 (HI.rep p.1 p.2::hd) o3 _ o' h3 ?_;cases o3 with
           |nx ds3=>exact fun σ3 H3 O3 ok3=>⟨hlt,O3,ds3,ok3,e1⟩
           |ct ds3=>exact fun σ3 H3 O3 ok3=>⟨hlt,O3,ds3,ok3,e1⟩
           |bk ds3=>cases e1
           |rt rr=>cases e1
   . exfalso;have ei:i=items.length:=by omega
     subst ei;rw[eO,loopF] at e1;cases e1
end
noncomputable def spXF(K:Frag)(n:Nat)(R:List D->Option Fls)(C:aB):Sp:=fun vs H _ E=>vs.length=n/\∃ds fs,Reps K H jR vs ds/\R ds=some fs/\∀H' dx od,Same H H'->H' dx=some (.frz od (xdO dx (fsV fs)))->E (.ref C) (some dx) H'
theorem fun_okF{P:aY}{w:bS}{K:Frag}{mg:Str->Option Value}{base:Heap}{x qual:Str}{st:Stmt}{f C:aB}{fd:bQ}{N ps:List Str}{k:Nat}{R:List D->Option Fls}(Fn:Fun K x qual st f fd)(S:FnScope N ps (zK st)){g:FF}(hbody:∀(cdv:Value) (A:bR) (outer:List Env) (s:aC) (H:Hp) (E:XK),Room k (A.deeper (iX qual (zK st) s.heap.objs.size f cdv))->PSsF (cxOf (CXM P w) P w K mg base N qual (zK st) f cdv A outer s H E) C (jH st) g)(hg:∀ds fs,ds.length=ps.length->R ds=some fs->g (args N.length ds)=some fs):FnOk P w K mg base (CXM P w) (k+1) f fd ps (spXF K ps.length R C):=by
 obtain⟨oc,od,kV,doc,pm,an,cdv,ct,osl,rfl,lk,hcd⟩:=Fn.ex;refine fn_of lk hcd S (fun vs H Q E h=>h.1) fun A outer s H vs Q E hr h=>?_;obtain⟨hl,ds,fs,rv,e,q⟩:=h;obtain⟨t,ht,hf⟩:=hbody cdv A outer s H E hr;refine⟨t,ht,hf H H jR _ _ [] _ fs (EY (N:=N) rv) (hg ds fs (by rw[<- rv.length];exact hl) e) fun σ' H2 e dx tu sm d0 e0 h1 h2 ne se=>?_⟩;refine NZ h1 h2 ne se d0 fun od=>q _ dx od (fun b u eb=>?_) (TM ne);have:=sm b u eb;rw[vD (fun z=>by rw[z,e0] at eb;cases eb) (fun z=>by rw[z,d0] at eb;cases eb)];exact this
structure CalF(P:aY)(w:bS)(K:Frag)(mg:Str->Option Value)(base:Heap)(x:Str)(k n:Nat)(R:List D->Option Fls)(C:aB):Prop where
 ex:∃(f:aB) (fd:bQ) (ps:List Str),FnOk P w K mg base (CXM P w) k f fd ps (spXF K n R C)/\Binds K fd ps []/\cP K (.ref f)=true/\mg x=some (.ref f)
open PySem.W (Looks looks_mroIn mroIn clsIn findIn InstAt findObj findObj_own hasDictIn)
theorem Ok.setE{K:Frag}{H₀ H:Hp}{O:aB->Prop}{σ : L2.St}{ds:List Sl}{hd:Hold}(o:Ok K H₀ H O σ ds hd){i t:Nat}{fs:List (Str×Int)}{a:aB}(hx:XfOk K H a t fs) :
  Ok K H₀ H O (σ.set i (some (.ref a))) (ds.set i (.exf t fs)) hd:=by
 have own':∀{j:Nat},IsOwn (ds.set i (.exf t fs)) j->j≠i/\IsOwn ds j:=fun {j} ⟨l,e⟩=>by
  by_cases hj:j=i
  . subst hj
    by_cases hl:j<ds.length
    . rw[bA hl] at e;cases e
    . rw[aW (by simpa using hl)] at e;cases e
  . rw[aG (Ne.symm hj)] at e;exact⟨hj,l,e⟩
 refine⟨o.same,fun j l a e1 e2=>?_,o.dom,by simpa using o.len,fun j s e=>?_,fun j k a hjk hj hk e1 e2=>?_,o.hold,o.obs.tr (fun _ _ _ r _=>r) (fun j r t e=>by
  obtain⟨e1,hj⟩:=wC (fun r t=>by intro z;cases z) e
  exact⟨e1,by rw[aG (Ne.symm hj)]⟩) (fun j b oj ej=>by
  obtain⟨o1,hj⟩:=wZ (fun l=>by intro z;cases z) oj;rw[aG (Ne.symm hj)] at ej
  exact .inl ⟨o1,ej⟩)⟩
 . obtain⟨n1, h1⟩ := own' ⟨l, e1⟩;rw[aG (Ne.symm n1)] at e1 e2;exact o.fresh j l a e1 e2
 . by_cases hj : j = i
   . subst hj
     by_cases hl:j<ds.length
     . rw[bA hl] at e;cases e;rw[bA (by rw[o.len];exact hl)];exact hx
     . rw[aW (by simpa using hl)] at e;cases e
   . rw[aG (Ne.symm hj)] at e;rw[aG (Ne.symm hj)];exact o.sl j s e
 . obtain⟨n1, h1⟩ := own' hj;obtain⟨n2,h2⟩:=own' hk;rw[aG (Ne.symm n1)] at e1;rw[aG (Ne.symm n2)] at e2;exact o.apart j k a hjk h1 h2 e1 e2
def DC(X:Cx)(C:aB)(st:Stmt)(x:FF):Prop:=∀(aD:List (aB×Obj)) (s:aC) (σ : L2.St) (H H₀ : Hp) (O:aB->Prop) (ds:List Sl) (hd:Hold) (fs:Fls),Inv X aD σ H s->Ok X.K H₀ H O σ ds hd->x ds=some fs →
 (∀ea a0 dx od B H1 H' s1 s',Inv X aD σ H1 s1->Same H H1->Same H1 H'->Thrown X.prog X.w X.stack H1 s1 (.ref C) ea a0 B H' s'.heap->a0.2=some dx->H' dx=some (.frz od (xdO dx (fsV fs)))->s'.os=s1.os->lN s'.gens->X.xe (.ref ea) s')->aU (aM X.prog X.w) X.A (exec st X.env) (fun _ _=>False) X.xe s
section
variable{k j n:Nat}{R:List D->Option Fls}{C:aB}{x:Str}{p pos:Pos}{e:Expr}{es:List Expr}{g:FA}
theorem CU(CX:CalF X.prog X.w X.K X.mg X.base x k n R C)(hr:Room j X.A)(ha:PAn X (e::es) g)(hj:k<=j)(hg:Gl X x)(hdb:(x==("__debug__" : Str))=false)(he:aL (e::es) X.env=(false,cM e X.env)::aL es X.env)(hpl:(eF pos (aL es X.env)).any (·.1)=false){aD:List (aB×Obj)}{s:aC}{σ : L2.St}{H H₀ : Hp}{O:aB->Prop}{ds:List Sl}{hd:Hold}{Q:Value->aC->Prop}{fs:Fls}(I:Inv X aD σ H s)(o:Ok X.K H₀ H O σ ds hd)(ex:calXF n R g ds=some fs)(W:∀ea a0 dx od B H1 H' s1 s',Inv X aD σ H1 s1->Same H H1->Same H1 H'->Thrown X.prog X.w X.stack H1 s1 (.ref C) ea a0 B H' s'.heap->a0.2=some dx->H' dx=some (.frz od (xdO dx (fsV fs)))->s'.os=s1.os->lN s'.gens->X.xe (.ref ea) s') :
  aU (aM X.prog X.w) X.A (cM (.Call (.Name x p) (e::es) [] pos) X.env) Q X.xe s:=by
 obtain⟨f,fd,ps,Fn,hb,hk,hm⟩:=CX.ex;obtain⟨t,ht,hf⟩:=ha;unfold calXF at ex;cases hl:g ds with
 |none=>rw[hl] at ex;cases ex
 | some l =>
   rw[hl] at ex;simp only at ex
   split at ex
   case isFalse=>cases ex
   rename_i hln;refine eU (vB I hg hm ?_ hdb);refine HG (h₀:=X.base) I.ok.mod.kin hk (thn (ht pos aD s σ H (fun vs H1=>Same H H1/\Reps X.K H1 jR vs l) I (hf H₀ H O σ ds hd l _ o hl fun vs H1 s1 r=>⟨s1,r⟩)) fun us s1 ⟨vs,H1,I1,r,q1,q2⟩=>⟨I1.kIn,?_⟩) he hpl;have sp:spXF X.K n R C vs H1 (fun _ _=>False) (fun cl oo H'=>cl=.ref C/\Same H1 H'/\∃dx od,oo=some dx/\H' dx=some (.frz od (xdO dx (fsV fs)))):=⟨by rw[q2.length];exact hln,l,fs,q2,ex,fun H' dx od s' z=>⟨rfl,s',dx,od,rfl,z⟩⟩
   have hl2:us.length=ps.length:=by rw[<- r.length];exact Fn.len _ _ _ _ sp
   have bd:=hb s1 us I1.kIn (by rw[dG];exact hl2);rw[dG] at bd;refine mI (gX (Fn.run X.A X.stack s1 H1 ⟨us,[]⟩ us vs (fun _ _=>False) (fun cl oo H'=>cl=.ref C/\Same H1 H'/\∃dx od,oo=some dx/\H' dx=some (.frz od (xdO dx (fsV fs)))) (hr.mono hj) I1.env0 bd r sp) fun r s' hq=>?_);cases r with
   | error e' =>
     obtain⟨ea,cls,a0,B,H',rfl,os,bare,T,rfl,sm,dx,od,z1,z2⟩:=hq;exact W ea a0 dx od B H1 H' s1 s' I1 q1 sm T z1 z2 os bare
   | ok fl =>
     cases fl with
     |ret u=>obtain⟨v,H',_,_,_,_,_,z⟩:=hq;exact z.elim
     |next=>exact False.elim hq
     |brk=>exact False.elim hq
     |cont=>exact False.elim hq
theorem OG{pos':Pos}(CX:CalF X.prog X.w X.K X.mg X.base x k n R C)(hr:Room j X.A)(ha:PAn X (e::es) g)(hj:k<=j:=by decide)(hg:Gl X x:=by rfl)(hdb:(x==("__debug__" : Str))=false:=by decide)(he:aL (e::es) X.env=(false,cM e X.env)::aL es X.env:=by rfl)(hpl:(eF pos (aL es X.env)).any (·.1)=false:=by rfl)(hs:gG (.Call (.Name x p) (e::es) [] pos) none pos'.line X.env=pure false:=by rfl) :
  DC X C (.Expr (.Call (.Name x p) (e::es) [] pos) pos') (calXF n R g):=by
 intro aD s σ H H₀ O ds hd fs I o ex W;exact wpAny_Expr_any (CU CX hr ha hj hg hdb he hpl I o ex W) I.quiet hs
end
theorem IG{st b₀ : Stmt}{suite:List Stmt}{sx en:Str}{hp hpos:Pos}{i t:Nat}{C S:aB}{h:FS}{x:FF}(hN:X.N.Nodup)(hm:X.mg sx=some (.ref S))(hS:XCatch X.K C S)(hC:aQ X.K aP (xName t)=some (some (.ref C)))(hx:∀W,DC (X.wish W) C st x)(hs:∀ea oe xe,HdP (fS X ea xe (upd X.H₀ ea (.frz oe (.own ea))))->PSsv (fS X ea xe (upd X.H₀ ea (.frz oe (.own ea)))) (b₀::suite) h)(hi:X.N[i]?=some en)(hlo:X.env.kindOf en=some .local)(hst:X.stack=X.env::X.outer)(hfr:X.env.frame=some X.env.locals)(hex:X.ex=[])(hgS:Gl X sx)(hdb:(sx==("__debug__" : Str))=false){aD:List (aB×Obj)}{s:aC}{σ : L2.St}{H H₀ : Hp}{O:aB->Prop}{ds:List Sl}{hd:Hold}{D:Ends}{out':Out}{fs:Fls}(I:Inv X aD σ H s)(o:Ok X.K H₀ H O σ ds hd)(hxd:x ds=some fs)(hh:h (ds.set i (.exf t fs))=some out')(af:After X H₀ hd D (goneO i out')) :
  aU (aM X.prog X.w) X.A (exec st X.env) (fun _ _=>False) (tryE X aD D [.ExceptHandler (some (.Name sx hp)) (some en) (b₀::suite) hpos]) s:=by
 have hLoc:Loc X.env.scope en:=.inl hlo
 have hsub:∀b,b∈X.env.locals::X.fs->b∈frs X.stack:=fun b hb=>by
  rw[hst];unfold frs;rw[gP,hfr];exact hb
 refine hx (tryE X aD D [.ExceptHandler (some (.Name sx hp)) (some en) (b₀::suite) hpos]) aD s σ H H₀ O ds hd fs (I.wish _) o hxd ?_;intro ea a0 dx od B H1 H' s1 s' I1 m1 m2 T hdx hdo os bare;have I1':Inv X aD σ H1 s1:=I1.unwish;have T:Thrown X.prog X.w X.stack H1 s1 (.ref C) ea a0 B H' s'.heap:=T;show aU _ _ (rC _ _) _ _ _;have hA:X.A.frames=some (X.env::X.outer):=by rw[<- hst];exact I.ok.frames
 refine note2 hA hfr (by rw[<- hst];exact T.fly) fun h₄ held₄ sm₄=>?_;refine set2 (s:={ s' with heap:=h₄ }) held₄ fun h₅ fly₅ sm₅=>?_;have T5:=T.on (h':=h₅) (by rw[hst];exact fly₅) (sm₄.trans sm₅);have I5:Inv X aD σ H' { s' with heap:=h₅ }:=I1'.call' (ch:=[]) os T5.un T5.hokh bare (fun b z=>by cases z);obtain⟨ap5,ob,hob,hobc,hobd,_⟩:=BF T5.fly;refine wpAny_handleBy_cons (codeAny_handlers_test ?_) (by intro q;cases q);refine vB (X:=fS X ea X.xe) (QE I5) hgS hm ?_ hdb;refine OA (K:=X.K) I5.kIn hob hobc hS ?_;refine codeAny_handlers_suite_as ?_;refine set2 (s:={ s' with heap:=h₅ }) fly₅ fun h₆ fly₆ sm₆=>?_;have T6:=T5.on (h':=h₆) (by rw[hst];exact fly₆) sm₆;have I6:Inv X aD σ H' { s' with heap:=h₆ }:=I1'.call' (ch:=[]) os T6.un T6.hokh bare (fun b z=>by cases z);obtain⟨ap6,oe,hoe,hoec,hoed,vs,hvs,hv2⟩:=BF T6.fly
 have nb:∀b o,s1.heap.get? b=some o->b≠ea:=fun b o e z=>by
  subst z;obtain⟨o',q⟩:=T6.there b o e ap6;rw[T6.fly.2.1] at q;cases q
 have h0:X.s₀.heap.get? ea=none:=by
  cases q:X.s₀.heap.get? ea with
  |none=>rfl
  | some o' =>
    obtain⟨o'',q'⟩:=I1'.base.there ea o' q (by rw[hex];intro z;cases z);exact(nb ea o'' q' rfl).elim
 have It:=QD I6 T6.no hoe (fun z=>ap6 (hsub _ (by rw[z];exact aF))) h0 hoed fun p hpp=>nb p.1 p.2 (I1'.pin p hpp).1;have sm:Same H' (upd H' ea (.frz oe (.own ea))):=fun b u e=>by rw[zJ (fun z=>by rw[z,T6.no] at e;cases e)];exact e
 have Is:Inv (fS X ea X.xe (upd X.H₀ ea (.frz oe (.own ea)))) aD σ (upd H' ea (.frz oe (.own ea))) { s' with heap:=h₆ }:=JN It bY h0 (fun q e=>by have:=I6.base.tbls _ _ e;rw[T6.no] at this;cases this) (fun z=>ap6 (hsub _ (aI _ z)));refine wM (X:=fS X ea X.xe (upd X.H₀ ea (.frz oe (.own ea)))) (i:=i) (v:=.ref ea) Is hN hi hLoc rfl (fun s7 I7=>?_) (.inr hlo);refine OL (fun xe=>hs ea oe xe ⟨ea,oe,_,vs,rfl,bY,hvs,hv2⟩) I7 ((o.mono ((m1.trans m2).trans sm)).setE ⟨C,oe,_,dx,od,hC,bY,hoec,(WR T6.fly hoe).trans hdx,(fun c z=>by rw[hvs] at z;cases z),by rw[zJ (fun z=>by rw[z,T6.no] at hdo;cases hdo)];exact hdo⟩) hh (KG af) fun f s8 h8=>?_;have hcls:(X.env.scope.kind==.class||(X.env.scope.kind==.module&&X.env.locals != X.env.globals))=false:=by rw[I.ok.kind];rfl
 have gone:∀xe σ' H8,Inv (fS X ea xe (upd X.H₀ ea (.frz oe (.own ea)))) aD σ' H8 s8->∀Q:Unit->aC->Prop,(∀s9,Inv X aD (σ'.set i none) H8 s9->Q () s9)->aU (aM X.prog X.w) X.A (do bindName X.env en .none;unbindBehindTheSuite X.env en hpos) Q X.xe s8:=fun xe σ' H8 I8 Q k=>by
  have I8':=CQ I6 T6.no h0 I8;obtain⟨m,hn,hl⟩:=id I8'.loc;exact wpAny_nameGoes_keeps hlo hn hcls fun h' v hn' hs'=>k _ (WL I8' hN hi hn hl hn' hs')
 cases f with
 |next=>obtain⟨σ',H8,I8,q⟩:=h8;exact gone _ σ' H8 I8 _ fun s9 I9=>⟨_,H8,I9,q⟩
 |brk=>obtain⟨σ',H8,I8,q⟩:=h8;exact gone _ σ' H8 I8 _ fun s9 I9=>⟨_,H8,I9,q⟩
 |cont=>obtain⟨σ',H8,I8,q⟩:=h8;exact gone _ σ' H8 I8 _ fun s9 I9=>⟨_,H8,I9,q⟩
 |ret u=>obtain⟨v,σ',H8,I8,r,q⟩:=h8;exact gone _ σ' H8 I8 _ fun s9 I9=>⟨v,_,H8,I9,r,q⟩
theorem UJ{st b₀ : Stmt}{suite:List Stmt}{sx en:Str}{hp hpos pos:Pos}{i t:Nat}{C S:aB}{g h:FS}{x:FF}(hN:X.N.Nodup)(hm:X.mg sx=some (.ref S))(hS:XCatch X.K C S)(hC:aQ X.K aP (xName t)=some (some (.ref C)))(hg:∀W,PSv (X.wish W) st g)(hx:∀W,DC (X.wish W) C st x)(hs:∀ea oe xe,HdP (fS X ea xe (upd X.H₀ ea (.frz oe (.own ea))))->PSsv (fS X ea xe (upd X.H₀ ea (.frz oe (.own ea)))) (b₀::suite) h)(hi:X.N[i]?=some en:=by rfl)(hlo:X.env.kindOf en=some .local:=by rfl)(hst:X.stack=X.env::X.outer:=by rfl)(hfr:X.env.frame=some X.env.locals:=by rfl)(hex:X.ex=[]:=by rfl)(hgS:Gl X sx:=by rfl)(hdb:(sx==("__debug__" : Str))=false:=by decide) :
  PSv X (.Try [st] [.ExceptHandler (some (.Name sx hp)) (some en) (b₀::suite) hpos] [] [] pos) (tryF i t g x h):=by
 refine⟨fun D σ H=>∀aD s,Inv X aD σ H s->aU (aM X.prog X.w) X.A (exec (.Try [st] [.ExceptHandler (some (.Name sx hp)) (some en) (b₀::suite) hpos] [] [] pos) X.env) (SP X aD D) X.xe s,
  fun aD s σ H D I h=>h aD s I,fun H₀ H O σ ds hd out D o e af aD s I=>?_⟩
 refine wpAny_Try_except (uT ?_);show aU _ _ _ _ (tryE X aD D [.ExceptHandler (some (.Name sx hp)) (some en) (b₀::suite) hpos]) s;unfold tryF at e;cases hxd:x ds with
 | some fs =>
   rw[hxd] at e;simp only at e;cases hh:h (ds.set i (.exf t fs)) with
   |none=>rw[hh] at e;cases e
   | some out' =>
     rw[hh] at e;cases e;exact cB (IG hN hm hS hC hx hs hi hlo hst hfr hex hgS hdb I o hxd hh af) (fun _ _ z=>z.elim) (fun _ _ z=>z)
 | none =>
   rw[hxd] at e;simp only at e;obtain⟨t,ht,hf⟩:=hg (tryE X aD D [.ExceptHandler (some (.Name sx hp)) (some en) (b₀::suite) hpos]);refine cB (ht aD s σ H D (I.wish _) (hf H₀ H O σ ds hd out D o e af)) (fun f s1 q=>?_) (fun _ _ z=>z);have q':=q.unwish;cases f with
   |next=>exact iF (iF q')
   |brk=>exact q'
   |cont=>exact q'
   |ret u=>exact q'
open PySem.W (findIn InstAt findObj findObj_own hasDictIn)
theorem Ok.weakE{K:Frag}{H₀ H:Hp}{O:aB->Prop}{σ : L2.St}{ds:List Sl}{hd:Hold}(o:Ok K H₀ H O σ ds hd)(i:Nat):Ok K H₀ H O σ (relE i ds) hd:=by
 unfold relE
 split
 . rename_i t fs h;obtain ⟨a,q1,C,ob,u,dx,od,h1,h2,h3,_⟩:=o.readE h;have:=o.setX (i:=i) h1 h2 h3
   rwa [show σ.set i (some (.ref a))=σ from by
    obtain⟨hl,e⟩:=aV.mp q1
    rw[<- e,HL]] at this
 . exact o
theorem tK(f:Str):∀fs:Fls,(fsV fs).lookup f=(fs.lookup f).map V.int
 |[]=>rfl
 | (g, x) :: r => by
   show List.lookup f ((g,V.int x)::fsV r)=_;simp only[cG];cases f==g with
   |true=>rfl
   |false=>exact tK f r
theorem BZ{e:Expr}{f:FE}(i:Nat)(h:PV X e f):PV X e (fun ds=>f (relE i ds)):=by
 obtain⟨t,ht,hf⟩:=h;exact⟨t,ht,fun H₀ H O σ ds hd d Q o e q=>hf H₀ H O σ _ hd d Q (o.weakE i) e q⟩
theorem BY{i t:Nat}{en f:Str}{C:aB}{p pos:Pos}(hC:aQ X.K aP (xName t)=some (some (.ref C)))(xi:XIn X.K C)(hD:hasDictIn X.K C=true)(n:findIn X.K (.ref C) f=some none)(hN:X.N[i]?=some en:=by rfl)(hv:Vis X.env.scope en:=by exact Or.inl rfl)(hde:(en==("__debug__" : Str))=false:=by decide)(hcd:(en==("__classdict__" : Str))=false:=by decide)(hb:lL (.Name en p) f X.env (cM (.Name en p) X.env)=cM (.Name en p) X.env:=by rfl):PV X (.Attribute (.Name en p) f pos) (xfldG i t f):=by
 refine⟨fun σ H Q=>∃a fs v,σ[i]?=some (some (.ref a))/\XfOk X.K H a t fs/\fs.lookup f=some v/\Q (.int v) H,fun aD s σ H Q I h=>?_,fun H₀ H O σ ds hd d Q o e q=>?_⟩
 . obtain ⟨a, fs, v, q1, ⟨C', ob, u, dx, od, h1, h2, h3, h4, h5, h6⟩, hl, q⟩ := h;rw [hC] at h1;cases h1;refine attr_of hb (thn (yL hN hv hde hcd aD s σ H (fun x H1=>x = .ref a/\H1=H) I ⟨.ref a,q1,rfl,rfl⟩) fun u' s1 zq=>?_);obtain ⟨x,H1,I1,rx,rfl,rfl⟩:=zq;obtain rfl:u'=Value.ref a:=rx;obtain ⟨g1,_⟩:=I1.hok _ _ h2;obtain ⟨g2,⟨mA,ns,r,wi⟩,_⟩:=I1.hok _ _ h6;obtain ⟨od',ho,hlk⟩:=AX ns;have rf:=r f;rw [show (List.map (fun p:Str×Int=>(p.1,V.int p.2)) fs).lookup f=some (V.int v) from by have:=tK f fs; rw [hl] at this; exact this] at rf;cases hm:mA f with
   |none=>rw[hm] at rf;exact rf.elim
   | some w =>
     rw[hm] at rf;obtain⟨tk,rfl⟩:∃tk,w=Value.int v tk:=rf;obtain⟨hh,g,d,t',os⟩:=s1
     have J:InstAt hh a ob C (some od'):=⟨g1,h3,by
      unfold PySem.W.notCls
      split
      . rename_i c z;exact(h5 c z).elim
      . rfl,by rw[h4];exact ho⟩
     refine NX I1.kIn xi J (findObj_own hD n rfl (by rw[hlk,hm])) rfl ⟨.int v,H1,I1.tok _,⟨_,rfl⟩,q⟩
 . unfold xfldG at e
   split at e
   . rename_i u fs hs
     split at e
     . rename_i hu;subst hu;obtain ⟨a,q1,x⟩:=o.readE hs;cases hl:fs.lookup f with
       |none=>rw[hl] at e;cases e
       |some v=>rw[hl] at e;cases e;exact⟨a,fs,v,q1,x,hl,q _ H (Same.refl _) (.int v)⟩
     . cases e
   . cases e
open PySem.W (findIn hasDictIn)
structure XRI(P:aY)(w:bS)(K:Frag)(mg:Str->Option Value)(base:Heap)(t:Nat)(C:aB):Prop where
 gl:mg (xName t)=some (.ref C)
 ex:∃(fI:aB) (fd:bQ) (ps:List Str),xinIn K C fI=true/\FnOk P w K mg base CX0 1 fI fd ps (spXI C "place" "one" "other")/\Binds K fd ps []/\mJ K (.ref fI)=true
structure XTF(K:Frag)(t:Nat)(C:aB):Prop where
 nm:aQ K aP (xName t)=some (some (.ref C))
 xin:XIn K C
 hd:hasDictIn K C=true
 f1:findIn K (.ref C) "place" = some none
 f2:findIn K (.ref C) "one" = some none
 f3:findIn K (.ref C) "other" = some none
theorem xri_mk{P:aY}{w:bS}{K:Frag}{mg:Str->Option Value}{base:Heap}{t:Nat}{C f:aB}{q:Str}{st:Stmt}{p1 p2 p3 p4 p5 p6 p7 p8 p9 q1 q2 q3:Pos}(d:DefC K C "__init__" q st f)(F:XTF K t C)(hx:xinIn K C f=true)(hs:findIn K (.ref C) "__setattr__" = some (some (.builtin "object.__setattr__")))(gl:mg (xName t)=some (.ref C))(S:FnScope ["self","place","one","other"] ["self","place","one","other"] (zK st))(hb:jH st=[.Assign [.Attribute (.Name "self" p1) "place" p2] (.Name "place" p3) q1,.Assign [.Attribute (.Name "self" p4) "one" p5] (.Name "one" p6) q2,.Assign [.Attribute (.Name "self" p7) "other" p8] (.Name "other" p9) q3])(hl:∀(kV doc pm:Value) (an:Option aB) (cdv ct:Value) (us:List Value),us.length=(["self","place","one","other"]:List Str).length->HF (eC "__init__" q (yK st) (jH st) (zK st) .none kV doc pm an cdv ct) ⟨us,[]⟩=pure ((["self","place","one","other"]:List Str).zip us)):XRI P w K mg base t C:=by
 obtain⟨fd,F1,x,y,z⟩:=d.get;exact⟨gl,f,fd,_,hx,init3 F1 S ⟨hx,F.xin,hs⟩ F.f1 F.f2 F.f3 (by decide) (by decide) (by decide) hb (fun y hy=>(S.par y hy).elim .inl fun q=>.inr (.inl q)) (by decide),F1.binds hl,z⟩
section
variable{C:aB}
theorem ZU{t j:Nat}{x:Str}{np cpos pos:Pos}{e:Expr}{es:List Expr}{g:FA}(R:XRI X.prog X.w X.K X.mg X.base t C)(hr:Room j X.A)(ha:PAn X (e::es) g)(hj:2<=j:=by decide)(hx:xName t=x:=by rfl)(hcalm:X.calm=true:=by rfl)(hg:Gl X x:=by rfl)(hdb:(x==("__debug__" : Str))=false:=by decide)(he:aL (e::es) X.env=(false,cM e X.env)::aL es X.env:=by rfl)(hpl:(eF cpos (aL (e::es) X.env)).any (·.1)=false:=by rfl):PSF X C (.Raise (some (.Call (.Name x np) (e::es) [] cpos)) none pos) (raiF "place" "one" "other" g):=by
 obtain⟨fI,fd,ps,h1,h2,h3,h4⟩:=R.ex;exact OQ h1 (hx▸R.gl) h2 (hr.mono hj) h3 h4 ha hcalm hg hdb he hpl
theorem xW{st:Stmt}{rest:List Stmt}{x:FF}{g:FS}(h1:PSF X C st x)(h2:PSsv X rest g):PSsF X C (st::rest) x:=by
 obtain⟨u,hu,_⟩:=h2;exact OO h1 hu
theorem EQ{st:List Stmt}{g:FS}(h:PSsv X st g):PSsF X C st pF:=by
 obtain⟨u,hu,_⟩:=h;exact IQ hu
theorem OX{CX:CXT}{P:aY}{w:bS}{K:Frag}{mg:Str->Option Value}{base:Heap}{N:List Str}{qual:Str}{scope:Scope}{f:aB}{cd:Value}{A:bR}{outer:List Env}{s:aC}{H:Hp}{E:XK} :
  nW (aM P w) (cxOf CX P w K mg base N qual scope f cd A outer s H E).A (cxOf CX P w K mg base N qual scope f cd A outer s H E).env (cxOf CX P w K mg base N qual scope f cd A outer s H E).xe:=nW.leaving
end
section
variable{scope:Scope}{NY:List Str}{mp:List (Option Nat)}{tg iter elt:Expr}{ifs:List Expr}{pos:Pos}{fi:FA}{ga:D->List Sl->Option (List Sl)}{tt:FT}{fe:FE}
theorem ON{i:Nat}{y:Str}{py spos:Pos}(hN:X.N.Nodup)(S:CompScope X scope NY mp)(hc:X.calm=true)(hi:PIc X tg iter fi)(hg:∀c,PGv (jA X scope NY c) tg ga)(ht:∀c,PFv (jA X scope NY c) ifs tt)(he:∀c,PV (jA X scope NY c) elt fe)(hy:X.N[i]?=some y:=by rfl)(hl:X.env.scope.names.lookup y=some .local:=by rfl)(hsw:gG (.ListComp elt [⟨tg,iter,ifs,0⟩] scope pos) (some (.Name y py)) spos.line X.env=pure true:=by rfl)(hs:∀x,dZ iter X.env x=pure x:=by intro _;rfl):PSv X (.Assign [.Name y py] (.ListComp elt [⟨tg,iter,ifs,0⟩] scope pos) spos) (setOG i (compG fi mp ga tt fe)):=by
 obtain⟨wi,pi,hi⟩:=hi;refine⟨_,ZT hN hy hl hsw S hc pi (fun c=>(Classical.choose_spec (hg c)).1) (fun c=>(Classical.choose_spec (ht c)).1) (fun c=>(Classical.choose_spec (he c)).1) hs,fun H₀ H O σ ds hd out E o e h=>?_⟩;unfold setOG at e;obtain⟨l,h1,rfl⟩:=mpd e;exact QR hi (fun c=>(Classical.choose_spec (hg c)).2) (fun c=>(Classical.choose_spec (ht c)).2) (fun c=>(Classical.choose_spec (he c)).2) H₀ H O σ ds hd l _ o h1 fun a xs H' s hn he r=>h _ _ _ (o.setO s hn he r)
end
noncomputable def oi:Option Int->D
 |none=>.non
 |some i=>.int i
@[simp] theorem CH:oi none=.non:=rfl
@[simp] theorem oi_some(i:Int):oi (some i)=.int i:=rfl
noncomputable def andK(r:Option D):D->Option D:=fun d=>match d with | .bl true=>r | .bl false=>some (.bl false) | _=>none
noncomputable def orK(r:Option D):D->Option D:=fun d=>match d with | .bl true=>some (.bl true) | .bl false=>r | _=>none
@[simp] theorem andK_bl(r:Option D)(b:Bool):andK r (.bl b)=if b=true then r else some (.bl false):=by cases b<;>rfl
@[simp] theorem orK_bl(r:Option D)(b:Bool):orK r (.bl b)=if b=true then some (.bl true) else r:=by cases b<;>rfl
@[simp] theorem ite_andD(b c:Bool):(if b=true then some (D.bl c) else some (D.bl false))=some (.bl (b&&c)):=by cases b<;>rfl
@[simp] theorem ite_orD(b c:Bool):(if b=true then some (D.bl true) else some (D.bl c))=some (.bl (b||c)):=by cases b<;>rfl
@[simp] theorem ite_andB(b c:Bool):(if b=true then some c else some false)=some (b&&c):=by cases b<;>rfl
@[simp] theorem ite_orB(b c:Bool):(if b=true then some true else some c)=some (b||c):=by cases b<;>rfl
@[simp] theorem ite_andB'(p:Prop)[Decidable p](c:Bool):(if p then some c else some false)=some (decide p&&c):=by by_cases h:p<;>simp[h]
@[simp] theorem ite_orB'(p:Prop)[Decidable p](c:Bool):(if p then some true else some c)=some (decide p||c):=by by_cases h:p<;>simp[h]
@[simp] theorem szl:sizeLine=16777216:=iN
section
variable(ds:List Sl)
@[simp] theorem MS(i:Nat):qR i ds=match ds[i]? with | some (.v d)=>some d | _=>none:=rfl
@[simp] theorem MR(i:Nat):zG i ds=match ds[i]? with | some (.v d)=>some d | some (.own l)=>some (.lst l) | _=>none:=rfl
@[simp] theorem FH(d:D):zA d ds=some d:=rfl
@[simp] theorem NI(op:D->D->Option D)(fa fb:FE):zD op fa fb ds=(fa ds).bind fun x=>(fb ds).bind fun y=>op x y:=rfl
@[simp] theorem un1_eq(op:D->Option D)(f:FE):un1 op f ds=(f ds).bind op:=rfl
@[simp] theorem callB_eq(F:List D->Option D)(g:FA):callB F g ds=(g ds).bind F:=rfl
@[simp] theorem GR(n:Nat)(F:List D->Option Ret)(g:FA):qI n F g ds=(g ds).bind fun l=>if l.length=n then (F l).bind retV else none:=rfl
@[simp] theorem callF_eq(n:Nat)(F:List D->Option Ret)(g:FA):vS n F g ds=(g ds).bind fun l=>if l.length=n then (F l).bind retF else none:=rfl
@[simp] theorem EJ(d:D):retV (.val d)=some d:=rfl
@[simp] theorem retV_fresh(l:List D):retV (.fresh l)=some (.lst l):=rfl
@[simp] theorem retF_val(d:D):retF (.val d)=none:=rfl
@[simp] theorem retF_fresh(l:List D):retF (.fresh l)=some l:=rfl
@[simp] theorem GJ(f:FE)(g:FA):zB f g ds=(f ds).bind fun x=>(g ds).map fun r=>x::r:=rfl
@[simp] theorem MC:zW ds=some []:=rfl
@[simp] theorem EF(f:FA):zZ f ds=(f ds).bind fun l=>if l.length<=sizeLine then some l else none:=rfl
@[simp] theorem VR(f:FA):mkL f ds=(f ds).map D.lst:=rfl
@[simp] theorem mkT_eq(f:FA):mkT f ds=(f ds).map D.tup:=rfl
@[simp] theorem DY(f:FE):zL f ds=(f ds).bind isB:=rfl
@[simp] theorem testT_eq(f:FE):testT f ds=(f ds).bind truD:=rfl
@[simp] theorem WK(b:Bool):isB (.bl b)=some b:=rfl
@[simp] theorem andT_eq(c d:FT):andT c d ds=(c ds).bind fun b=>if b=true then d ds else some false:=rfl
@[simp] theorem orT_eq(c d:FT):orT c d ds=(c ds).bind fun b=>if b=true then some true else d ds:=rfl
@[simp] theorem notT_eq(c:FT):notT c ds=(c ds).map not:=rfl
@[simp] theorem andV_eq(f g:FE):andV f g ds=(f ds).bind (andK (g ds)):=rfl
@[simp] theorem orV_eq(f g:FE):orV f g ds=(f ds).bind (orK (g ds)):=rfl
@[simp] theorem notV_eq(f:FE):notV f ds=(f ds).bind fun d=>match d with | .bl b=>some (.bl (!b)) | _=>none:=rfl
@[simp] theorem ifV_eq(c:FT)(f g:FE):ifV c f g ds=(c ds).bind fun b=>if b=true then f ds else g ds:=rfl
@[simp] theorem LH(f g:FS):qC f g ds=(f ds).bind fun o=>match o with | .nx ds'=>g ds' | o=>some o:=rfl
@[simp] theorem WN(c:FT)(f g:FS):ifG c f g ds=(c ds).bind fun b=>if b=true then f ds else g ds:=rfl
@[simp] theorem LG(i:Nat)(f:FE):jQ i f ds=(f ds).map fun d=>.nx (ds.set i (.v d)):=rfl
@[simp] theorem setOG_eq(i:Nat)(f:FA):setOG i f ds=(f ds).map fun l=>.nx (ds.set i (.own l)):=rfl
@[simp] theorem retG_eq(f:FE):retG f ds=(f ds).bind flatR:=rfl
@[simp] theorem retOG_eq(f:FA):retOG f ds=(f ds).bind flatF:=rfl
@[simp] theorem retXG_eq(i:Nat):retXG i ds=match ds[i]? with | some (.own l)=>flatF l | _=>none:=rfl
@[simp] theorem VG:qL ds=some (.nx ds):=rfl
@[simp] theorem appG_eq(i:Nat)(fe:FE):appG i fe ds=match ds[i]? with
 |some (.own l)=>(fe ds).bind fun d=>if l.length<sizeLine then some (.nx (ds.set i (.own (l++[d])))) else none
 |_=>none:=rfl
@[simp] theorem extG_eq(i:Nat)(fe:FA):extG i fe ds=match ds[i]? with
 |some (.own l)=>(fe ds).bind fun d=>if l.length+d.length<=sizeLine then some (.nx (ds.set i (.own (l++d)))) else none
 |_=>none:=rfl
@[simp] theorem putG_eq(i:Nat)(fk fe:FE):putG i fk fe ds=match ds[i]? with
 | some (.own l) => (fe ds).bind fun d => (fk ds).bind fun k => match k with
   | .int n=>(ixN l.length n).map fun j=>.nx (ds.set i (.own (l.set j d)))
   |_=>none
 |_=>none:=rfl
@[simp] theorem clrG_eq(i:Nat):clrG i ds=match ds[i]? with
 |some (.own l)=>some (.nx (ds.set i (.own [])))
 |_=>none:=rfl
@[simp] theorem asgG_eq(ga:D->List Sl->Option (List Sl))(f:FE):asgG ga f ds=(f ds).bind fun d=>(ga d ds).map .nx:=rfl
@[simp] theorem relS_eq(i:Nat):relS i ds=match ds[i]? with | some (.own l)=>ds.set i (.v (.lst l)) | _=>ds:=rfl
@[simp] theorem viaA_eq(f:FE)(k:D->Option (List D)):viaA f k ds=(f ds).bind k:=rfl
@[simp] theorem asLT_lst(l:List D):asLT (.lst l)=some l:=rfl
@[simp] theorem asLT_tup(l:List D):asLT (.tup l)=some l:=rfl
@[simp] theorem catA_eq(fa fb:FE):catA fa fb ds=(fa ds).bind fun x=>(fb ds).bind fun y=>match x,y with
 | .lst a,.lst b=>if a.length+b.length<=sizeLine then some (a++b) else none
 |_,_=>none:=rfl
@[simp] theorem sliA_eq(f:FE)(lo hi:List Sl->Option (Option Int)):sliA f lo hi ds=(f ds).bind fun d=>(lo ds).bind fun a=>(hi ds).bind fun b=>match d with
 | .lst l=>some (cutD l a b)
 |_=>none:=rfl
@[simp] theorem lisA_eq(f:FE):lisA f ds=(f ds).bind asLT:=rfl
@[simp] theorem noP_eq:noP ds=some none:=rfl
@[simp] theorem soP_eq(f:FE):soP f ds=(f ds).bind fun d=>match d with | .int i=>some (some i) | _=>none:=rfl
@[simp] theorem kF(fi:FA)(ga:D->List Sl->Option (List Sl))(body:FS):forG fi ga body ds=(fi ds).bind fun items=>qW ga body items ds:=rfl
@[simp] theorem nameG_eq(i:Nat)(d:D):zQ i d ds=some (ds.set i (.v d)):=rfl
@[simp] theorem tupG_eq(n:Nat)(h:List D->List Sl->Option (List Sl))(l:List D):tupG n h (.tup l) ds=if l.length=n then h l ds else none:=rfl
@[simp] theorem tgCons_eq(g:D->List Sl->Option (List Sl))(h:List D->List Sl->Option (List Sl))(d:D)(r:List D):zM g h (d::r) ds=(g d ds).bind fun ds'=>h r ds':=rfl
@[simp] theorem tgNil_eq:tgNil [] ds=some ds:=rfl
@[simp] theorem isiG_eq(T:String)(f:FE):isiG T f ds=(f ds).bind (isiD T):=rfl
@[simp] theorem chain_eq(op op':D->D->Option D)(fa fb fc:FE):chain op op' fa fb fc ds=(fa ds).bind fun x=>(fb ds).bind fun y=>(op x y).bind fun z=>match z with
 | .bl true=>(fc ds).bind fun w=>op' y w
 | .bl false=>some (.bl false)
 |_=>none:=rfl
end
@[simp] theorem GX(i j:Int):xH (.int i) (.int j)=some (.int (i+j)):=rfl
@[simp] theorem EB(i j:Int):subD (.int i) (.int j)=some (.int (i-j)):=rfl
@[simp] theorem negD_int(i:Int):negD (.int i)=some (.int (-i)):=rfl
@[simp] theorem ltD_int(i j:Int):ltD (.int i) (.int j)=some (.bl (decide (i<j))):=rfl
@[simp] theorem leD_int(i j:Int):leD (.int i) (.int j)=some (.bl (decide (i<=j))):=rfl
@[simp] theorem gtD_int(i j:Int):gtD (.int i) (.int j)=some (.bl (decide (j<i))):=rfl
@[simp] theorem geD_int(i j:Int):geD (.int i) (.int j)=some (.bl (decide (j<=i))):=rfl
@[simp] theorem jN{j:Int}(i:Int)(h:0<j):jI (.int i) (.int j)=some (.int (i%j)):=if_pos h
theorem GD{j:Int}(h:0<j)(h2:j<1000000000):divOk j:=⟨h,by
 have h3:j.natAbs<2 ^ 30:=by
  have:(2:Nat) ^ 30=1073741824:=by decide
  omega
 have h4:j.natAbs≠0:=by omega
 have:=(Nat.log2_lt h4).mpr h3
 omega⟩
@[simp] theorem rV{j:Int}(i:Int)(h:0<j)(h2:j<1000000000):qU (.int i) (.int j)=some (.int (i/j)):=if_pos (GD h h2)
theorem yE{i j:Int}(h:uH i j):yX (.int i) (.int j)=some (.int (i*j)):=if_pos h
theorem LS{i j:Int}(h:CPowB i j):powD (.int i) (.int j)=some (.int (i ^ j.toNat)):=if_pos h
theorem NC{i j:Int}{n m:Nat}(h:i.natAbs<2 ^ n)(h0:0<=j)(h1:j<=m)(h2:n*m<=134217728):CPowB i j:=by
 refine⟨h0,?_⟩;have hb:Builtin.Int.intBits i<=n:=intBits_le_iff.mpr h;have h3:(Builtin.Int.intBits i:Int)*j<=(n:Int)*(m:Int):=Int.mul_le_mul (by omega) h1 h0 (by omega);have h4:((n*m:Nat):Int)<=134217728:=by omega
 have e:((n*m:Nat):Int)=(n:Int)*(m:Int):=Int.natCast_mul n m;have e2:(2:Int) ^ 27=134217728:=by decide
 rw[e2];omega
@[simp] theorem pow10{j:Int}(h0:0<=j)(h1:j<=1000):powD (.int 10) (.int j)=some (.int (10 ^ j.toNat)):=LS (NC (n:=4) (m:=1000) (by decide) h0 h1 (by decide))
@[simp] theorem mxD_int(i j:Int):mxD [.int i,.int j]=some (.int (max i j)):=by
 show some (D.int (if j>i then j else i))=_;congr 2
 split<;>omega
@[simp] theorem mnD_int(i j:Int):mnD [.int i,.int j]=some (.int (min i j)):=by
 show some (D.int (if j<i then j else i))=_;congr 2
 split<;>omega
@[simp] theorem lenD_lst(l:List D):lenD [.lst l]=some (.int l.length):=rfl
@[simp] theorem lenD_tup(l:List D):lenD [.tup l]=some (.int l.length):=rfl
@[simp] theorem isD_non:isD .non .non=some (.bl true):=rfl
@[simp] theorem isD_int(i:Int):isD (.int i) .non=some (.bl false):=rfl
@[simp] theorem isD_bl(i:Bool):isD (.bl i) .non=some (.bl false):=rfl
@[simp] theorem isD_tup(i:List D):isD (.tup i) .non=some (.bl false):=rfl
@[simp] theorem isD_lst(i:List D):isD (.lst i) .non=some (.bl false):=rfl
@[simp] theorem isD_oi(o:Option Int):isD (oi o) .non=some (.bl o.isNone):=by cases o<;>rfl
@[simp] theorem notD_non:notD .non .non=some (.bl false):=rfl
@[simp] theorem notD_int(i:Int):notD (.int i) .non=some (.bl true):=rfl
@[simp] theorem notD_bl(i:Bool):notD (.bl i) .non=some (.bl true):=rfl
@[simp] theorem notD_tup(i:List D):notD (.tup i) .non=some (.bl true):=rfl
@[simp] theorem notD_lst(i:List D):notD (.lst i) .non=some (.bl true):=rfl
@[simp] theorem notD_oi(o:Option Int):notD (oi o) .non=some (.bl o.isSome):=by cases o<;>rfl
@[simp] theorem truD_bl(b:Bool):truD (.bl b)=some b:=rfl
@[simp] theorem truD_non:truD .non=some false:=rfl
@[simp] theorem truD_lst(l:List D):truD (.lst l)=some (!l.isEmpty):=rfl
@[simp] theorem truD_tup(l:List D):truD (.tup l)=some (!l.isEmpty):=rfl
theorem CP{n:Nat}{i:Int}(h:0<=i)(h2:i<n):ixN n i=some i.toNat:=by
 unfold ixN;rw[if_pos h,if_pos h2]
theorem yJ(l:List D){i:Int}(h:0<=i)(h2:i<l.length):ixD (.lst l) (.int i)=l[i.toNat]?:=by
 show atI l i=_;unfold atI;rw[CP h h2];rfl
theorem CM(l:List D){i:Int}(h:0<=i)(h2:i<l.length):ixD (.tup l) (.int i)=l[i.toNat]?:=by
 show atI l i=_;unfold atI;rw[CP h h2];rfl
@[simp] theorem ixT0(a:D)(l:List D):ixD (.tup (a::l)) (.int 0)=some a:=by
 rw[CM _ (by decide) (by rw[aN];omega)];rfl
@[simp] theorem ixT1(a b:D)(l:List D):ixD (.tup (a::b::l)) (.int 1)=some b:=by
 rw[CM _ (by decide) (by rw[aN,aN];omega)];rfl
@[simp] theorem ixT2(a b c:D)(l:List D):ixD (.tup (a::b::c::l)) (.int 2)=some c:=by
 rw[CM _ (by decide) (by rw[aN,aN,aN];omega)];rfl
@[simp] theorem ixL0(a:D)(l:List D):ixD (.lst (a::l)) (.int 0)=some a:=by
 rw[yJ _ (by decide) (by rw[aN];omega)];rfl
@[simp] theorem ixL1(a b:D)(l:List D):ixD (.lst (a::b::l)) (.int 1)=some b:=by
 rw[yJ _ (by decide) (by rw[aN,aN];omega)];rfl
theorem tL(l:List D)(a:D):ixD (.lst (l++[a])) (.int (-1))=some a:=by
 show atI (l++[a]) (-1)=_;unfold atI ixN;rw[if_neg (by decide),if_pos (by rw[cV,nL];omega),cV,nL];have e:(-1+((l.length+1:Nat):Int)).toNat=l.length:=by omega
 rw[e];simp
@[simp] theorem flat_non:flat .non=true:=by simp[flat]
@[simp] theorem flat_bl(b:Bool):flat (.bl b)=true:=by simp[flat]
@[simp] theorem flat_int(i:Int):flat (.int i)=true:=by simp[flat]
@[simp] theorem flat_tup(l:List D):flat (.tup l)=flats l:=by simp[flat]
@[simp] theorem flats_nil:flats []=true:=by simp[flats]
@[simp] theorem flats_cons(d:D)(l:List D):flats (d::l)=(flat d&&flats l):=by simp[flats]
@[simp] theorem flat_oi(o:Option Int):flat (oi o)=true:=by cases o<;>simp
theorem kA{d:D}(h:flat d=true):flatR d=some (.rt (.val d)):=if_pos h
@[simp] theorem flatR_non:flatR .non=some (.rt (.val .non)):=kA (by simp)
@[simp] theorem flatR_bl(b:Bool):flatR (.bl b)=some (.rt (.val (.bl b))):=kA (by simp)
@[simp] theorem flatR_int(i:Int):flatR (.int i)=some (.rt (.val (.int i))):=kA (by simp)
@[simp] theorem flatF_of(l:List D)(h:flats l=true):flatF l=some (.rt (.fresh l)):=if_pos h
@[simp] theorem shal_int(n:Nat)(i:Int):shal n (.int i)=true:=by simp[shal]
@[simp] theorem shal_non(n:Nat):shal n .non=true:=by simp[shal]
@[simp] theorem shal_oi(n:Nat)(o:Option Int):shal n (oi o)=true:=by cases o<;>simp
@[simp] theorem shal_tup(n:Nat)(l:List D):shal n (.tup l)=shals n l:=by simp[shal]
@[simp] theorem shal_lst(n:Nat)(l:List D):shal n (.lst l)=shals n l:=by simp[shal]
@[simp] theorem shals_nil(n:Nat):shals n []=true:=by cases n<;>simp[shals]
@[simp] theorem IM(n:Nat)(d:D)(l:List D):shals (n+1) (d::l)=(shal n d&&shals (n+1) l):=by simp[shals]
theorem AJ{n:Nat}{l:List D}(h:∀d∈l,shal n d=true):shals (n+1) l=true:=by
 induction l with
 |nil=>simp
 | cons d r ih =>
   rw[IM,h d aF,ih fun x hx=>h x (aI _ hx)];rfl
theorem tU{x y:D}(h:shal 40 x=true)(h2:shal 40 y=true):eqD x y=some (.bl (eqvD x y)):=if_pos ⟨h,h2⟩
theorem CJ{x y:D}(h:shal 40 x=true)(h2:shal 40 y=true):neD x y=some (.bl (!eqvD x y)):=if_pos ⟨h,h2⟩
@[simp] theorem eqvD_int(i j:Int):eqvD (.int i) (.int j)=decide (i=j):=by
 show(i==j)=_;rw[lA];simp
@[simp] theorem eqvD_non:eqvD .non .non=true:=rfl
@[simp] theorem eqvD_non_int(j:Int):eqvD .non (.int j)=false:=rfl
@[simp] theorem eqvD_int_non(j:Int):eqvD (.int j) .non=false:=rfl
@[simp] theorem eqvD_oi(o p:Option Int):eqvD (oi o) (oi p)=decide (o=p):=by cases o<;>cases p<;>simp
@[simp] theorem eqvD_tup(a b:List D):eqvD (.tup a) (.tup b)=eqvs a b:=by simp[eqvD,eqvs,toPy,PyData.eqv]
@[simp] theorem xF(a b:List D):eqvD (.lst a) (.lst b)=eqvs a b:=by simp[eqvD,eqvs,toPy,PyData.eqv]
@[simp] theorem eqvs_nil:eqvs [] []=true:=by simp[eqvs,toPys,PyData.eqvAll]
@[simp] theorem BG(x y:D)(a b:List D):eqvs (x::a) (y::b)=(eqvD x y&&eqvs a b):=by simp[eqvs,eqvD,toPys,PyData.eqvAll]
@[simp] theorem YH(y:D)(b:List D):eqvs [] (y::b)=false:=by simp[eqvs,toPys,PyData.eqvAll]
@[simp] theorem YI(y:D)(b:List D):eqvs (y::b) []=false:=by simp[eqvs,toPys,PyData.eqvAll]
@[simp] theorem NB(i j:Int):eqD (.int i) (.int j)=some (.bl (decide (i=j))):=by rw[tU (by simp) (by simp)];simp
@[simp] theorem neD_int(i j:Int):neD (.int i) (.int j)=some (.bl (!decide (i=j))):=by rw[CJ (by simp) (by simp)];simp
@[simp] theorem eqD_oi(i j:Option Int):eqD (oi i) (oi j)=some (.bl (decide (i=j))):=by rw[tU (by simp) (by simp)];simp
@[simp] theorem neD_oi(i j:Option Int):neD (oi i) (oi j)=some (.bl (!decide (i=j))):=by rw[CJ (by simp) (by simp)];simp
theorem JV(l:List Int):flats (l.map D.int)=true:=by
 induction l with
 |nil=>simp
 |cons a r ih=>simp[ih]
theorem QQ(l:List D)(k:Nat):cutD l (some (k:Int)) none=l.drop k:=by
 unfold cutD HT.sIx;simp only[show ¬((k:Int)<0) by omega,if_false,rO];rw[dH (by rw[gL];omega)]
 by_cases h:k<=l.length
 . rw[Nat.min_eq_left h]
 . rw[Nat.min_eq_right (by omega),eO,DM (by omega)]
theorem kits:kitF "int" "int" = some true/\kitF "NoneType" "int" = some false/\kitF "bool" "int" = some true/\kitF "tuple" "int" = some false/\kitF "list" "int" = some false/\kitF "str" "int" = some false ∧
  kitF "bool" "bool" = some true/\kitF "int" "bool" = some false/\kitF "NoneType" "bool" = some false/\kitF "tuple" "tuple" = some true/\kitF "list" "tuple" = some false/\kitF "NoneType" "tuple" = some false ∧
  kitF "list" "list" = some true/\kitF "tuple" "list" = some false/\kitF "NoneType" "list" = some false:=by
 refine⟨?_,?_,?_,?_,?_,?_,?_,?_,?_,?_,?_,?_,?_,?_,?_⟩<;>decide +kernel
@[simp] theorem isi_int_int(i:Int):isiD "int" (.int i)=some (.bl true):=by simp[isiD,tyD,kits.1]
@[simp] theorem isi_int_non:isiD "int" .non=some (.bl false):=by simp[isiD,tyD,kits.2.1]
@[simp] theorem isi_bool_int(i:Int):isiD "bool" (.int i)=some (.bl false):=by simp[isiD,tyD,kits.2.2.2.2.2.2.2.1]
@[simp] theorem isi_bool_non:isiD "bool" .non=some (.bl false):=by simp[isiD,tyD,kits.2.2.2.2.2.2.2.2.1]
@[simp] theorem isi_tup_tup(l:List D):isiD "tuple" (.tup l)=some (.bl true):=by simp[isiD,tyD,kits.2.2.2.2.2.2.2.2.2.1]
@[simp] theorem isi_lst_lst(l:List D):isiD "list" (.lst l)=some (.bl true):=by simp[isiD,tyD,kits.2.2.2.2.2.2.2.2.2.2.2.2.1]
@[simp] theorem bind_ite{α β : Type}{c:Prop}[Decidable c](a b:Option α)(f : α->Option β):(if c then a else b).bind f=if c then a.bind f else b.bind f:=by split<;>rfl
@[simp] theorem map_ite{α β : Type}{c:Prop}[Decidable c](a b:Option α)(f : α->β):(if c then a else b).map f=if c then a.map f else b.map f:=by split<;>rfl
theorem FD{ga:D->List Sl->Option (List Sl)}{body:FS}(P:List Sl->Prop):∀(items:List D) (ds:List Sl),P ds →
  (∀d∈items,∀ds,P ds->∃ds1 ds2,ga d ds=some ds1/\(body ds1=some (.nx ds2)\/body ds1=some (.ct ds2))/\P ds2)->∃ds',qW ga body items ds=some (.nx ds')/\P ds'
 |[],ds,h,_=>⟨ds,rfl,h⟩
 | d :: r, ds, h, H => by
   obtain⟨ds1,ds2,e1,e2,h2⟩:=H d aF ds h;obtain⟨ds',e3,h3⟩:=FD P r ds2 h2 fun x hx=>H x (aI _ hx);refine⟨ds',?_,h3⟩;rcases e2 with e2 | e2<;>simp only[qW,e1,e2,bF,e3]
theorem GK{fi:FA}{mp:List (Option Nat)}{ga:D->List Sl->Option (List Sl)}{tt:FT}{fe:FE}{ds:List Sl}{items l:List D}(h:fi ds=some items)(hl:items.length<=sizeLine)(hc:compL ga tt fe (jV mp ds) items=some l):compG fi mp ga tt fe ds=some l:=by
 unfold compG;rw[h];show(if items.length<=sizeLine then compL ga tt fe (jV mp ds) items else none)=_;rw[if_pos hl];exact hc
@[simp] theorem ixL2(a b c:D)(l:List D):ixD (.lst (a::b::c::l)) (.int 2)=some c:=by
 rw[yJ _ (by decide) (by rw[aN,aN,aN];omega)];rfl
@[simp] theorem ixL3(a b c d:D)(l:List D):ixD (.lst (a::b::c::d::l)) (.int 3)=some d:=by
 rw[yJ _ (by decide) (by rw[aN,aN,aN,aN];omega)];rfl
@[simp] theorem rng3_eq(fa fb fc:FE)(ds:List Sl):rng3 fa fb fc ds=(fa ds).bind fun x=>(fb ds).bind fun y=>(fc ds).bind fun z=>match x,y,z with
 | .int i,.int j,.int c=>if okR3 i j c then some (LM i c (TQ i j c)) else none
 |_,_,_=>none:=rfl
@[simp] theorem rng2_eq(fa fb:FE)(ds:List Sl):rng2 fa fb ds=(fa ds).bind fun x=>(fb ds).bind fun y=>match x,y with
 | .int i,.int j=>if okR i/\okR j then some (iC i (j-i).toNat) else none
 |_,_=>none:=rfl
@[simp] theorem rng1_eq(f:FE)(ds:List Sl):rng1 f ds=(f ds).bind fun d=>match d with | .int j=>if okR j then some (iC 0 j.toNat) else none | _=>none:=rfl
theorem wS{j:Int}(h : -1000000000<=j)(h2:j<=1000000000):okR j:=⟨dX (by decide) h,Int.lt_of_le_of_lt h2 (by decide)⟩
theorem BD:∀bs:List Int,intsD (bs.map D.int)=some bs
 |[]=>rfl
 |b::r=>by simp[intsD,BD r]
@[simp] theorem absD_int(i:Int):absD [.int i]=some (.int (if i<0 then -i else i)):=rfl
@[simp] theorem int1D_int(i:Int):int1D [.int i]=some (.int i):=rfl
@[simp] theorem int1D_bl(b:Bool):int1D [.bl b]=some (.int (if b then 1 else 0)):=rfl
@[simp] theorem augA_eq(i:Nat)(f:FE)(ds:List Sl):augA i f ds=(qR i ds).bind fun x=>(f ds).bind fun y=>match x,y with
 | .int a,.int b=>some (.nx (ds.set i (.v (.int (a+b)))))
 |_,_=>none:=rfl
@[simp] theorem parG_eq(i j:Nat)(f:FA)(ds:List Sl):parG i j f ds=(f ds).bind fun l=>match l with
 |[a,b]=>some (.nx ((ds.set i (.v a)).set j (.v b)))
 |_=>none:=rfl
@[simp] theorem revA_eq(f:FE)(ds:List Sl):revA f ds=(f ds).bind fun d=>match d with
 | .lst l=>some l.reverse
 |_=>none:=rfl
theorem JE{d:D}{lo:Int}{n:Nat}(h:d∈iC lo n):∃k:Nat,k<n/\d=.int (lo+(k:Int)):=by
 obtain⟨k,hk,rfl⟩:=fL.mp h;exact⟨k,oE.mp hk,rfl⟩
theorem zN{f g:FS}{ds ds':List Sl}(h:f ds=some (.nx ds')):qC f g ds=g ds':=by simp[h]
theorem TV{f g:FS}{ds:List Sl}{r:Ret}(h:f ds=some (.rt r)):qC f g ds=some (.rt r):=by simp[h]
theorem vR{g:FS}{n:Nat}{ds:List D}{r:Ret}(h:g (args n ds)=some (.rt r)):runG g n ds=some r:=by unfold runG;rw[h]
end FL
section
open FL
noncomputable def rJ:FS:=(qC (ifG (orT (zL (zD isD (zD ixD (zG 0) (zA (.int 0))) (zA .non))) (zL (zD isD (zD ixD (zG 0) (zA (.int 1))) (zA .non)))) (retG (zA .non)) qL)
 (retG (zD subD (zD ixD (zG 0) (zA (.int 1))) (zD ixD (zG 0) (zA (.int 0))))))
noncomputable def rK:List D->Option Ret:=runG rJ 1
noncomputable def gJ:FS:=(qC (ifG (zL (zD isD (zG 0) (zA .non))) (retG (zG 1)) qL)
 (qC (ifG (zL (zD isD (zG 1) (zA .non))) (retG (zG 0)) qL)
 (retG (callB mnD (zB (zG 0) (zB (zG 1) zW))))))
noncomputable def eI:List D->Option Ret:=runG gJ 2
noncomputable def lH:FS:=(qC (ifG (zL (zD isD (zG 4) (zA .non))) (fun ds=>some (.ct ds)) qL)
 (ifG (andT (testT (zG 1)) (andT (zL (zD eqD (zD ixD (zD ixD (zG 1) (un1 negD (zA (.int 1)))) (zA (.int 1))) (zG 2))) (zL (zD eqD (zD ixD (zD ixD (zG 1) (un1 negD (zA (.int 1)))) (zA (.int 2))) (zG 4))))) (putG 1 (un1 negD (zA (.int 1))) (mkT (zZ (zB (zD ixD (zD ixD (zG 1) (un1 negD (zA (.int 1)))) (zA (.int 0))) (zB (qR 3) (zB (qR 4) zW)))))) (appG 1 (mkT (zZ (zB (qR 2) (zB (qR 3) (zB (qR 4) zW))))))))
noncomputable def rB:FS:=(qC (setOG 1 (zZ zW))
 (qC (forG (viaA (qR 0) asLT) (tupG 3 (zM (zQ 2) (zM (zQ 3) (zM (zQ 4) tgNil)))) lH)
 (retXG 1)))
noncomputable def mF:List D->Option Ret:=runG rB 5
noncomputable def fN:FS:=(qC (ifG (zL (zD neD (zG 3) (zG 2))) (appG 1 (mkT (zZ (zB (qR 2) (zB (qR 3) (zB (zA .non) zW)))))) qL)
 (qC (appG 1 (mkT (zZ (zB (qR 3) (zB (qR 4) (zB (qR 5) zW))))))
 (jQ 2 (qR 4))))
noncomputable def mL:FS:=(qC (setOG 1 (zZ zW))
 (qC (jQ 2 (zA .non))
 (qC (forG (viaA (qR 0) asLT) (tupG 3 (zM (zQ 3) (zM (zQ 4) (zM (zQ 5) tgNil)))) fN)
 (qC (ifG (orT (zL (zD notD (zG 2) (zA .non))) (notT (testT (zG 0)))) (appG 1 (mkT (zZ (zB (qR 2) (zB (zA .non) (zB (zA .non) zW)))))) qL)
 (retXG 1)))))
noncomputable def gF:List D->Option Ret:=runG mL 6
noncomputable def kM:FS:=(qC (ifG (zL (zD notD (zD ixD (zG 0) (zA (.int 0))) (zA .non))) (retG (zD ixD (zG 0) (zA (.int 0)))) qL)
 (qC (ifG (zL (zD notD (zD ixD (zG 0) (zA (.int 1))) (zA .non))) (retG (zD subD (zD ixD (zG 0) (zA (.int 1))) (zA (.int 1)))) qL)
 (retG (zA (.int 0)))))
noncomputable def dA:List D->Option Ret:=runG kM 1
noncomputable def kS:FS:=(qC (jQ 8 (zD ixD (zG 2) (zG 6)))
 (qC (jQ 9 (zD ixD (zG 3) (zG 7)))
 (qC (jQ 10 (qI 2 eI (zB (zD ixD (zG 8) (zA (.int 1))) (zB (zD ixD (zG 9) (zA (.int 1))) zW))))
 (qC (appG 4 (mkT (zZ (zB (qR 5) (zB (qR 10) (zB (zD ixD (zG 8) (zA (.int 2))) (zB (zD ixD (zG 9) (zA (.int 2))) zW)))))))
 (qC (ifG (zL (zD eqD (zD ixD (zG 8) (zA (.int 1))) (zG 10))) (augA 6 (zA (.int 1))) qL)
 (qC (ifG (zL (zD eqD (zD ixD (zG 9) (zA (.int 1))) (zG 10))) (augA 7 (zA (.int 1))) qL)
 (jQ 5 (qR 10))))))))
noncomputable def nE:FS:=(qC (jQ 2 (qI 1 gF (zB (zG 0) zW)))
 (qC (jQ 3 (qI 1 gF (zB (zG 1) zW)))
 (qC (setOG 4 (zZ zW))
 (qC (jQ 5 (zA .non))
 (qC (jQ 6 (zA (.int 0)))
 (qC (jQ 7 (zA (.int 0)))
 (qC (gU (zL (zD ltD (zG 6) (callB lenD (zB (zG 2) zW)))) kS 100000)
 (retXG 4))))))))
noncomputable def eN:List D->Option Ret:=runG nE 11
noncomputable def nG(Φ : Fun2):FS:=(qC (jQ 3 (qI 2 eN (zB (zG 0) (zB (zG 1) zW))))
 (retOG (vS 1 mF (zB (mkL (compG (viaA (qR 3) asLT) [none,none,none,none,some 2] (tupG 4 (zM (zQ 0) (zM (zQ 1) (zM (zQ 2) (zM (zQ 3) tgNil))))) (fun _=>some true) (mkT (zZ (zB (qR 0) (zB (qR 1) (zB (callW Φ 4 (zB (zG 2) (zB (zG 3) zW))) zW))))))) zW))))
noncomputable def gA(Φ : Fun2):List D->Option Ret:=runG (nG Φ) 4
noncomputable def nH:FS:=(retG (ifV (zL (zD isD (zG 0) (zA .non))) (qR 1) (qR 0)))
noncomputable def gB:List D->Option Ret:=runG nH 2
noncomputable def eR(Φ : Fun2):FS:=(ifG (andT (zL (zD notD (zG 4) (zA .non))) (andT (zL (zD notD (zG 5) (zA .non))) (zL (zD neD (zG 4) (zG 5))))) (fun _=>none) qL)
noncomputable def nF(Φ : Fun2):FS:=(qC (forG (viaA (qI 2 eN (zB (zG 0) (zB (zG 1) zW))) asLT) (tupG 4 (zM (zQ 2) (zM (zQ 3) (zM (zQ 4) (zM (zQ 5) tgNil))))) (eR Φ))
 (retOG (vS 3 (gA Φ) (zB (zG 0) (zB (zG 1) (zB (zA (.clo 1000 0 [])) zW))))))
noncomputable def fZ(Φ : Fun2):List D->Option Ret:=runG (nF Φ) 6
noncomputable def mP:FS:=(qC (ifG (zL (zD ltD (zG 1) (callB lenD (zB (zG 0) zW)))) (retG (zD ixD (zG 0) (zG 1))) qL)
 (retG (zA (.int 0))))
noncomputable def eL:List D->Option Ret:=runG mP 2
noncomputable def mM:FS:=(retG (andV (isiG "int" (zG 0)) (notV (isiG "bool" (zG 0)))))
noncomputable def dP:List D->Option Ret:=runG mM 1
noncomputable def oZ:FS:=(qC (jQ 1 (zD powD (zD powD (zA (.int 10)) (zA (.int 60))) (zA (.int 8))))
 (retG (zD subD (zD jI (zG 0) (zD xH (zD yX (zA (.int 2)) (zG 1)) (zA (.int 1)))) (zG 1))))
noncomputable def fG:List D->Option Ret:=runG oZ 2
noncomputable def kX:FS:=(qC (ifG (orT (notT (testT (isiG "tuple" (zD ixD (zG 0) (zG 1))))) (orT (zL (zD neD (callB lenD (zB (zD ixD (zG 0) (zG 1)) zW)) (zA (.int 3)))) (notT (testT (qI 1 dP (zB (zD ixD (zD ixD (zG 0) (zG 1)) (zA (.int 2))) zW)))))) (retG (zA (.bl false))) qL)
 (qC (asgG (tupG 3 (zM (zQ 2) (zM (zQ 3) (zM (zQ 4) tgNil)))) (zD ixD (zG 0) (zG 1)))
 (qC (ifG (andT (notT (testT (qI 1 dP (zB (zG 2) zW)))) (orT (zL (zD notD (zG 2) (zA .non))) (zL (zD gtD (zG 1) (zA (.int 0)))))) (retG (zA (.bl false))) qL)
 (qC (ifG (andT (notT (testT (qI 1 dP (zB (zG 3) zW)))) (orT (zL (zD notD (zG 3) (zA .non))) (zL (zD ltD (zG 1) (zD subD (callB lenD (zB (zG 0) zW)) (zA (.int 1))))))) (retG (zA (.bl false))) qL)
 (qC (ifG (andT (zL (zD notD (zG 2) (zA .non))) (andT (zL (zD notD (zG 3) (zA .non))) (zL (zD geD (zG 2) (zG 3))))) (retG (zA (.bl false))) qL)
 (qC (jQ 5 (zD ixD (zG 0) (callB mxD (zB (zD subD (zG 1) (zA (.int 1))) (zB (zA (.int 0)) zW)))))
 (ifG (andT (zL (zD gtD (zG 1) (zA (.int 0)))) (orT (zL (zD gtD (zD ixD (zG 5) (zA (.int 1))) (zG 2))) (zL (zD eqD (sltW (zG 5) (soP (zA (.int 1))) noP) (mkT (zZ (zB (qR 2) (zB (qR 4) zW)))))))) (retG (zA (.bl false))) qL)))))))
noncomputable def nK:FS:=(qC (ifG (notT (testT (isiG "list" (zG 0)))) (retG (zA (.bl false))) qL)
 (qC (forG (rng1 (callB lenD (zB (zG 0) zW))) (zQ 1) kX)
 (retG (zA (.bl true)))))
noncomputable def iT:List D->Option Ret:=runG nK 6
noncomputable def mO:FS:=(ifG (zL (zD notD (zG 4) (zA .non))) (qC (appG 1 (zD subD (zG 4) (zA (.int 1))))
 (appG 1 (qR 4))) qL)
noncomputable def kW:FS:=(forG (viaA (sltW (zG 3) noP (soP (zA (.int 2)))) asLT) (zQ 4) mO)
noncomputable def kU:FS:=(forG (viaA (qR 2) asLT) (zQ 3) kW)
noncomputable def nJ:FS:=(qC (setOG 1 (zZ (zB (zA (.int 0)) zW)))
 (qC (forG (viaA (qR 0) asLT) (zQ 2) kU)
 (retOG (srtSA (zG 1)))))
noncomputable def gC:List D->Option Ret:=runG nJ 5
noncomputable def iB:FS:=(jQ 3 (zD xH (zG 3) (zA (.int 1))))
noncomputable def kT:FS:=(qC (gU (andT (zL (zD ltD (zG 3) (callB lenD (zB (zG 0) zW)))) (andT (zL (zD notD (zD ixD (zD ixD (zG 0) (zG 3)) (zA (.int 1))) (zA .non))) (zL (zD leD (zD ixD (zD ixD (zG 0) (zG 3)) (zA (.int 1))) (zG 4))))) iB 100000)
 (ifG (andT (zL (zD ltD (zG 3) (callB lenD (zB (zG 0) zW)))) (orT (zL (zD isD (zD ixD (zD ixD (zG 0) (zG 3)) (zA (.int 0))) (zA .non))) (zL (zD leD (zD ixD (zD ixD (zG 0) (zG 3)) (zA (.int 0))) (zG 4))))) (appG 2 (zD ixD (zD ixD (zG 0) (zG 3)) (zA (.int 2)))) (appG 2 (zA .non))))
noncomputable def nI:FS:=(qC (setOG 2 (zZ zW))
 (qC (jQ 3 (zA (.int 0)))
 (qC (forG (viaA (qR 1) asLT) (zQ 4) kT)
 (retXG 2))))
noncomputable def dJ:List D->Option Ret:=runG nI 5
end
namespace FL
abbrev Spn:=Option Int×Option Int
noncomputable def spD(s:Spn):D:=.tup [oi s.1,oi s.2]
noncomputable def oS:Option Spn->D
 |none=>.non
 |some s=>spD s
noncomputable def hasS(s:Spn)(p:Int):Bool:=(match s.1 with | none=>true | some a=>decide (a<=p))&&(match s.2 with | none=>true | some b=>decide (p<b))
def okS(s:Spn):Prop:=∀a b,s.1=some a->s.2=some b->a<b
@[simp] theorem spD_0(s:Spn):ixD (spD s) (.int 0)=some (oi s.1):=ixT0 _ _
@[simp] theorem spD_1(s:Spn):ixD (spD s) (.int 1)=some (oi s.2):=ixT1 _ _ _
@[simp] theorem spD_isD(s:Spn):isD (spD s) .non=some (.bl false):=rfl
@[simp] theorem spD_notD(s:Spn):notD (spD s) .non=some (.bl true):=rfl
@[simp] theorem spD_asLT(s:Spn):asLT (spD s)=some [oi s.1,oi s.2]:=rfl
@[simp] theorem oS_isD(o:Option Spn):isD (oS o) .non=some (.bl o.isNone):=by cases o<;>rfl
@[simp] theorem oS_notD(o:Option Spn):notD (oS o) .non=some (.bl o.isSome):=by cases o<;>rfl
theorem length_eq(s:Spn):rK [spD s]=some (.val (oi (match s.1,s.2 with | some a,some b=>some (b-a) | _,_=>none))):=by
 obtain⟨a,b⟩:=s;unfold rK runG rJ;cases a<;>cases b<;>simp[args]
noncomputable def qQ:Option Int->Option Int->Option Int
 |none,b=>b
 |a,none=>a
 |some a,some b=>some (min a b)
theorem XJ(a b:Option Int):eI [oi a,oi b]=some (.val (oi (qQ a b))):=by
 unfold eI runG gJ;cases a<;>cases b<;>simp[args,qQ]
def HasS(s:Spn)(p:Int):Prop:=(∀a,s.1=some a->a<=p)/\(∀b,s.2=some b->p<b)
theorem WO(s:Spn)(p:Int):hasS s p=true↔HasS s p:=by
 obtain⟨a,b⟩:=s;cases a<;>cases b<;>simp[hasS,HasS]
open Builtin.Int (intBits)
noncomputable def cel(ns:List Int)(k:Nat):Int:=ns.getD k 0
theorem XR(ns:List Int){k:Int}(h:0<=k):eL [.lst (ns.map D.int),.int k]=some (.val (.int (ns.getD k.toNat 0))):=by
 unfold eL runG mP
 by_cases hk:k<(ns.length:Int)
 . have hl : k < ((ns.map D.int).length : Int) := by simpa using hk
   have e:(ns.map D.int)[k.toNat]?=some (.int (ns.getD k.toNat 0)):=by
    have:k.toNat<ns.length:=by omega
    simp[this,List.getD]
   simp[args,hk,yJ _ h hl,e]
 . have:ns.getD k.toNat 0=0:=by
    have:ns.length<=k.toNat:=by omega
    simp[List.getD,aW this]
   rw[this];simp[args,hk]
theorem NG(ns:List Int)(k:Nat):eL [.lst (ns.map D.int),.int (k:Int)]=some (.val (.int (cel ns k))):=XR ns (k:=(k:Int)) (by omega)
theorem jC{a:Int}{m:Nat}(h:a.natAbs<2 ^ m):intBits a<=m:=intBits_le_iff.mpr h
theorem LU:powD (.int (10 ^ 60)) (.int 8)=some (.int ((10 ^ 60) ^ 8)):=LS (NC (n:=200) (m:=8) (by decide) (by decide) (by decide) (by decide))
@[simp] theorem eqS_put_put:eqD (.str "put") (.str "put")=some (.bl true):=by kernel_rfl
@[simp] theorem neS_put_put:neD (.str "put") (.str "put")=some (.bl false):=by kernel_rfl
@[simp] theorem YK:eqD (.str "put") (.str "widen")=some (.bl false):=by kernel_rfl
@[simp] theorem YF:neD (.str "put") (.str "widen")=some (.bl true):=by kernel_rfl
@[simp] theorem XA:eqD (.str "put") (.str "narrow")=some (.bl false):=by kernel_rfl
@[simp] theorem VJ:neD (.str "put") (.str "narrow")=some (.bl true):=by kernel_rfl
@[simp] theorem eqS_put_move:eqD (.str "put") (.str "move")=some (.bl false):=by kernel_rfl
@[simp] theorem neS_put_move:neD (.str "put") (.str "move")=some (.bl true):=by kernel_rfl
@[simp] theorem RW:eqD (.str "put") (.str "stretch")=some (.bl false):=by kernel_rfl
@[simp] theorem RN:neD (.str "put") (.str "stretch")=some (.bl true):=by kernel_rfl
@[simp] theorem XB:eqD (.str "put") (.str "mirror")=some (.bl false):=by kernel_rfl
@[simp] theorem VL:neD (.str "put") (.str "mirror")=some (.bl true):=by kernel_rfl
@[simp] theorem YJ:eqD (.str "widen") (.str "put")=some (.bl false):=by kernel_rfl
@[simp] theorem YE:neD (.str "widen") (.str "put")=some (.bl true):=by kernel_rfl
@[simp] theorem RU:eqD (.str "widen") (.str "widen")=some (.bl true):=by kernel_rfl
@[simp] theorem RL:neD (.str "widen") (.str "widen")=some (.bl false):=by kernel_rfl
@[simp] theorem QK:eqD (.str "widen") (.str "narrow")=some (.bl false):=by kernel_rfl
@[simp] theorem PC:neD (.str "widen") (.str "narrow")=some (.bl true):=by kernel_rfl
@[simp] theorem WZ:eqD (.str "widen") (.str "move")=some (.bl false):=by kernel_rfl
@[simp] theorem VI:neD (.str "widen") (.str "move")=some (.bl true):=by kernel_rfl
@[simp] theorem MV:eqD (.str "widen") (.str "stretch")=some (.bl false):=by kernel_rfl
@[simp] theorem MD:neD (.str "widen") (.str "stretch")=some (.bl true):=by kernel_rfl
@[simp] theorem QL:eqD (.str "widen") (.str "mirror")=some (.bl false):=by kernel_rfl
@[simp] theorem PD:neD (.str "widen") (.str "mirror")=some (.bl true):=by kernel_rfl
@[simp] theorem XD:eqD (.str "narrow") (.str "put")=some (.bl false):=by kernel_rfl
@[simp] theorem VM:neD (.str "narrow") (.str "put")=some (.bl true):=by kernel_rfl
@[simp] theorem QN:eqD (.str "narrow") (.str "widen")=some (.bl false):=by kernel_rfl
@[simp] theorem PJ:neD (.str "narrow") (.str "widen")=some (.bl true):=by kernel_rfl
@[simp] theorem MX:eqD (.str "narrow") (.str "narrow")=some (.bl true):=by kernel_rfl
@[simp] theorem MF:neD (.str "narrow") (.str "narrow")=some (.bl false):=by kernel_rfl
@[simp] theorem RX:eqD (.str "narrow") (.str "move")=some (.bl false):=by kernel_rfl
@[simp] theorem RO:neD (.str "narrow") (.str "move")=some (.bl true):=by kernel_rfl
@[simp] theorem JY:eqD (.str "narrow") (.str "stretch")=some (.bl false):=by kernel_rfl
@[simp] theorem IZ:neD (.str "narrow") (.str "stretch")=some (.bl true):=by kernel_rfl
@[simp] theorem MY:eqD (.str "narrow") (.str "mirror")=some (.bl false):=by kernel_rfl
@[simp] theorem MG:neD (.str "narrow") (.str "mirror")=some (.bl true):=by kernel_rfl
@[simp] theorem eqS_move_put:eqD (.str "move") (.str "put")=some (.bl false):=by kernel_rfl
@[simp] theorem neS_move_put:neD (.str "move") (.str "put")=some (.bl true):=by kernel_rfl
@[simp] theorem XE:eqD (.str "move") (.str "widen")=some (.bl false):=by kernel_rfl
@[simp] theorem VN:neD (.str "move") (.str "widen")=some (.bl true):=by kernel_rfl
@[simp] theorem RY:eqD (.str "move") (.str "narrow")=some (.bl false):=by kernel_rfl
@[simp] theorem RP:neD (.str "move") (.str "narrow")=some (.bl true):=by kernel_rfl
@[simp] theorem YL:eqD (.str "move") (.str "move")=some (.bl true):=by kernel_rfl
@[simp] theorem YG:neD (.str "move") (.str "move")=some (.bl false):=by kernel_rfl
@[simp] theorem QO:eqD (.str "move") (.str "stretch")=some (.bl false):=by kernel_rfl
@[simp] theorem PK:neD (.str "move") (.str "stretch")=some (.bl true):=by kernel_rfl
@[simp] theorem RZ:eqD (.str "move") (.str "mirror")=some (.bl false):=by kernel_rfl
@[simp] theorem RQ:neD (.str "move") (.str "mirror")=some (.bl true):=by kernel_rfl
@[simp] theorem RV:eqD (.str "stretch") (.str "put")=some (.bl false):=by kernel_rfl
@[simp] theorem RM:neD (.str "stretch") (.str "put")=some (.bl true):=by kernel_rfl
@[simp] theorem MW:eqD (.str "stretch") (.str "widen")=some (.bl false):=by kernel_rfl
@[simp] theorem ME:neD (.str "stretch") (.str "widen")=some (.bl true):=by kernel_rfl
@[simp] theorem JW:eqD (.str "stretch") (.str "narrow")=some (.bl false):=by kernel_rfl
@[simp] theorem IX:neD (.str "stretch") (.str "narrow")=some (.bl true):=by kernel_rfl
@[simp] theorem QM:eqD (.str "stretch") (.str "move")=some (.bl false):=by kernel_rfl
@[simp] theorem PH:neD (.str "stretch") (.str "move")=some (.bl true):=by kernel_rfl
@[simp] theorem HS:eqD (.str "stretch") (.str "stretch")=some (.bl true):=by kernel_rfl
@[simp] theorem HR:neD (.str "stretch") (.str "stretch")=some (.bl false):=by kernel_rfl
@[simp] theorem JX:eqD (.str "stretch") (.str "mirror")=some (.bl false):=by kernel_rfl
@[simp] theorem IY:neD (.str "stretch") (.str "mirror")=some (.bl true):=by kernel_rfl
@[simp] theorem XF:eqD (.str "mirror") (.str "put")=some (.bl false):=by kernel_rfl
@[simp] theorem VO:neD (.str "mirror") (.str "put")=some (.bl true):=by kernel_rfl
@[simp] theorem QP:eqD (.str "mirror") (.str "widen")=some (.bl false):=by kernel_rfl
@[simp] theorem PL:neD (.str "mirror") (.str "widen")=some (.bl true):=by kernel_rfl
@[simp] theorem MZ:eqD (.str "mirror") (.str "narrow")=some (.bl false):=by kernel_rfl
@[simp] theorem MH:neD (.str "mirror") (.str "narrow")=some (.bl true):=by kernel_rfl
@[simp] theorem SA:eqD (.str "mirror") (.str "move")=some (.bl false):=by kernel_rfl
@[simp] theorem RT:neD (.str "mirror") (.str "move")=some (.bl true):=by kernel_rfl
@[simp] theorem JZ:eqD (.str "mirror") (.str "stretch")=some (.bl false):=by kernel_rfl
@[simp] theorem JA:neD (.str "mirror") (.str "stretch")=some (.bl true):=by kernel_rfl
@[simp] theorem NA:eqD (.str "mirror") (.str "mirror")=some (.bl true):=by kernel_rfl
@[simp] theorem MI:neD (.str "mirror") (.str "mirror")=some (.bl false):=by kernel_rfl
@[simp] theorem fldG_eq(ix:List (Nat×Nat))(f:FE)(ds:List Sl):fldG ix f ds=(f ds).bind (fldD ix):=rfl
@[simp] theorem fldD_ins(ix:List (Nat×Nat))(t:Nat)(es:List D):fldD ix (.ins t es)=(ix.lookup t).bind fun i=>es[i]?:=rfl
@[simp] theorem methV_eq(n:Nat)(cs:List Nat)(F:Nat->List D->Option Ret)(fo:FE)(g:FA)(ds:List Sl):methV n cs F fo g ds=(fo ds).bind fun o=>(g ds).bind fun l=>(methR n cs F o l).bind retV:=rfl
@[simp] theorem methF_eq(n:Nat)(cs:List Nat)(F:Nat->List D->Option Ret)(fo:FE)(g:FA)(ds:List Sl):methF n cs F fo g ds=(fo ds).bind fun o=>(g ds).bind fun l=>(methR n cs F o l).bind retF:=rfl
@[simp] theorem makeG_eq(t n:Nat)(G:List D->Option (List D))(g:FA)(ds:List Sl):makeG t n G g ds=(g ds).bind fun l=>if l.length=n/\flats l=true then (G l).map (D.ins t) else none:=rfl
@[simp] theorem retDG_eq(f:FE)(ds:List Sl):retDG f ds=(f ds).map fun d=>.rt (.val d):=rfl
abbrev Rw:=Option Int×Option Int×Option Int
noncomputable def rwD(r:Rw):D:=.tup [oi r.1,oi r.2.1,oi r.2.2]
noncomputable def has3(r:Rw)(p:Int):Bool:=hasS (r.1,r.2.1) p
def ok3(r:Rw):Prop:=okS (r.1,r.2.1)
@[simp] theorem rwD_0(r:Rw):ixD (rwD r) (.int 0)=some (oi r.1):=ixT0 _ _
@[simp] theorem rwD_1(r:Rw):ixD (rwD r) (.int 1)=some (oi r.2.1):=ixT1 _ _ _
@[simp] theorem rwD_2(r:Rw):ixD (rwD r) (.int 2)=some (oi r.2.2):=ixT2 _ _ _ _
@[simp] theorem rwD_flat(r:Rw):flat (rwD r)=true:=by simp[rwD]
@[simp] theorem rwD_shal(r:Rw)(n:Nat):shal (n+1) (rwD r)=true:=by simp[rwD]
@[simp] theorem rwD_isi(r:Rw):isiD "tuple" (rwD r)=some (.bl true):=by simp[rwD]
@[simp] theorem rwD_len(r:Rw):lenD [rwD r]=some (.int 3):=by simp[rwD]
@[simp] theorem rwD_tupG(h:List D->List Sl->Option (List Sl))(r:Rw)(ds:List Sl):tupG 3 h (rwD r) ds=h [oi r.1,oi r.2.1,oi r.2.2] ds:=by simp[rwD]
@[simp] theorem ZF(r t:Rw):eqvD (rwD r) (rwD t)=decide (r=t):=by
 obtain⟨a,b,c⟩:=r;obtain⟨x,y,z⟩:=t;rw[lA];simp[rwD]
theorem jY(l:List Rw):flats (l.map rwD)=true:=by
 induction l with
 |nil=>simp
 |cons a r ih=>simp[ih]
theorem wK(n:Nat)(l:List Rw):shals (n+2) (l.map rwD)=true:=AJ fun d hd=>by obtain⟨r,_,rfl⟩:=fL.mp hd;simp
theorem kK:∀a b:List Rw,eqvs (a.map rwD) (b.map rwD)=decide (a=b)
 |[],[]=>by simp
 |[],y::b=>by simp
 |x::a,[]=>by simp
 | x :: a, y :: b => by
   simp only[bO,BG,ZF,kK a b];rw[lA];simp
theorem VP(a b:List Rw):neD (.lst (a.map rwD)) (.lst (b.map rwD))=some (.bl (!decide (a=b))):=by rw[CJ (by simpa using wK 38 a) (by simpa using wK 38 b),xF,kK]
theorem yM(a:List Rw):neD (.lst (a.map rwD)) (.lst [])=some (.bl (!a.isEmpty)):=by
 have:=VP a [];simp only[dI] at this;rw[this];cases a<;>simp
theorem FK{n:Nat}(h:0<n):ixN n (-1)=some (n-1):=by
 unfold ixN;rw[if_neg (by decide),if_pos (by omega)];congr 1;omega
def ahead(a b:Rw):Prop:=∃x y,a.2.1=some x/\b.1=some y/\x<=y
structure Ord(rows:List Rw):Prop where
 ok:∀r∈rows,ok3 r
 pw:rows.Pairwise ahead
def Tel(rows:List Rw)(p v:Int):Prop:=∃r∈rows,has3 r p=true/\r.2.2=some v
noncomputable def knit1(acc:List Rw)(r:Rw):List Rw:=match r.2.2 with
 |none=>acc
 | some v => match acc with
   |[]=>[r]
   |q::t=>if q.2.1=r.1/\q.2.2=some v then (q.1,r.2.1,some v)::t else r::q::t
noncomputable def knitF(rows:List Rw):List Rw:=(rows.foldl knit1 []).reverse
theorem PR(acc:List Rw)(r:Rw)(R a b c:Sl)(hl:acc.length<16777216) :
  lH [R,.own (acc.map rwD).reverse,.v (oi r.1),.v (oi r.2.1),.v (oi r.2.2)]=some (.nx [R,.own ((knit1 acc r).map rwD).reverse,.v (oi r.1),.v (oi r.2.1),.v (oi r.2.2)]) ∨
  lH [R,.own (acc.map rwD).reverse,.v (oi r.1),.v (oi r.2.1),.v (oi r.2.2)]=some (.ct [R,.own ((knit1 acc r).map rwD).reverse,.v (oi r.1),.v (oi r.2.1),.v (oi r.2.2)]):=by
 obtain⟨lo,bh,v⟩:=r;unfold lH;cases v with
 |none=>right;simp[knit1]
 | some v =>
   left;cases acc with
   | nil =>
     have e:D.tup [oi lo,oi bh,.int v]=rwD (lo,bh,some v):=rfl;simp[knit1,e]
   | cons q t =>
     have last:ixD (.lst ((t.map rwD).reverse++[rwD q])) (.int (-1))=some (rwD q):=tL _ _;have le:ixN (t.length+1) (-1)=some t.length:=by rw[FK (by omega)];rfl
     have hl':t.length+1<16777216:=by simpa using hl
     have e2:∀x:Option Int,eqD (oi x) (D.int v)=some (.bl (decide (x=some v))):=fun x=>eqD_oi x (some v)
     by_cases h1:q.2.1=lo
     . by_cases h2 : q.2.2 = some v
       . have e : D.tup [oi q.1, oi bh, .int v]=rwD (q.1, bh, some v):= rfl;simp[knit1,h1,h2,last,le,e2,e]
       . have e : D.tup [oi lo, oi bh, .int v]=rwD (lo, bh, some v):= rfl;simp[knit1,h1,h2,last,le,e2,hl',e]
     . have e : D.tup [oi lo, oi bh, .int v]=rwD (lo, bh, some v):= rfl;simp[knit1,h1,last,le,hl',e]
theorem AZ(acc:List Rw)(r:Rw):(knit1 acc r).length<=acc.length+1:=by
 unfold knit1
 split
 . omega
 . split
   . simp
   . split<;>simp
theorem AY(R:Sl):∀(rows acc:List Rw) (a b c:Sl),acc.length+rows.length<16777216 →
  ∃a' b' c',qW (tupG 3 (zM (zQ 2) (zM (zQ 3) (zM (zQ 4) tgNil)))) lH (rows.map rwD) [R,.own (acc.map rwD).reverse,a,b,c]=some (.nx [R,.own ((rows.foldl knit1 acc).map rwD).reverse,a',b',c'])
 |[],acc,a,b,c,_=>⟨a,b,c,rfl⟩
 | r :: rows, acc, a, b, c, h => by
   simp only[aN] at h;have hl:=AZ acc r;obtain⟨a',b',c',ih⟩:=AY R rows (knit1 acc r) (.v (oi r.1)) (.v (oi r.2.1)) (.v (oi r.2.2)) (by omega);refine⟨a',b',c',?_⟩;rcases PR acc r R a b c (by omega) with e | e<;>simp[qW,e,ih]
theorem knit_eq(rows:List Rw)(h:rows.length<16777216):mF [.lst (rows.map rwD)]=some (.fresh ((knitF rows).map rwD)):=by
 obtain⟨a,b,c,e⟩:=AY (.v (.lst (rows.map rwD))) rows [] .no .no .no (by simpa using h);simp only[List.reverse_nil,dI] at e;unfold mF runG rB;have fl:=jY (knitF rows);unfold knitF at fl ⊢;rw[SH] at fl ⊢;simp[args,e,fl]
theorem PY(rows:List Rw):(knitF rows).length<=rows.length:=by
 unfold knitF;rw[pB]
 have:∀(rows acc:List Rw),(rows.foldl knit1 acc).length<=acc.length+rows.length:=by
  intro rows
  induction rows with
  |nil=>intro acc;simp
  | cons r t ih =>
    intro acc;have:=ih (knit1 acc r);have:=AZ acc r;simp only[nC,aN];omega
 have:=this rows [];simpa using this
noncomputable def adjOk:List Rw->Prop
 |b::a::t=>¬(a.2.1=b.1/\a.2.2=b.2.2)/\adjOk (a::t)
 |_=>True
structure KI(acc:List Rw):Prop where
 ok:∀r∈acc,ok3 r
 pw:acc.Pairwise fun b a=>ahead a b
 val:∀r∈acc,r.2.2≠none
 adj:adjOk acc
theorem KI.nil:KI []:=⟨(fun _ h=>nomatch h),List.Pairwise.nil,(fun _ h=>nomatch h),trivial⟩
theorem qO(r:Rw)(p:Int):has3 r p=true↔(∀a,r.1=some a->a<=p)/\(∀b,r.2.1=some b->p<b):=WO _ _
theorem JJ{acc:List Rw}{r:Rw}(k:KI acc)(ho:ok3 r)(ha:∀a∈acc,ahead a r) :
  KI (knit1 acc r)/\(∀r',ahead r r'->(∀a∈acc,ahead a r')->∀a∈knit1 acc r,ahead a r')/\∀p v,Tel (knit1 acc r) p v↔Tel acc p v\/(has3 r p=true/\r.2.2=some v):=by
 obtain⟨lo,bh,w⟩:=r;cases w with
 | none =>
   refine⟨k,fun r' _ h=>h,fun p v=>⟨.inl,fun h=>h.elim id fun z=>by simp at z⟩⟩
 | some w =>
   cases acc with
   | nil =>
     refine⟨⟨?_,?_,?_,trivial⟩,?_,?_⟩
     . intro x hx;simp[knit1] at hx;subst hx;exact ho
     . simp[knit1]
     . intro x hx;simp[knit1] at hx;subst hx;simp
     . intro r' h1 _ a h;simp[knit1] at h;subst h;exact h1
     . intro p v;simp[knit1,Tel]
   | cons q t =>
     obtain⟨x,y,hx,hy,hxy⟩:=ha q aF;simp only at hy;have pw:=bL.mp k.pw
     by_cases hm:q.2.1=lo/\q.2.2=some w
     . have e : knit1 (q :: t) (lo, bh, some w) = (q.1, bh, some w) :: t := by simp [knit1, hm.1, hm.2]
       rw[e]
       have exy:x=y:=by
        have:=hm.1;rw[hx,hy] at this;exact Option.some.inj this
       have hn:∀p,has3 (q.1,bh,some w) p=true↔has3 q p=true\/has3 (lo,bh,some w) p=true:=by
        intro p;rw[qO,qO,qO];simp only;constructor
        . rintro ⟨h1, h2⟩
          by_cases hp:p<x
          . exact .inl ⟨h1,fun b hb=>by rw[hx] at hb;cases hb;exact hp⟩
          . exact .inr ⟨fun a h=>by rw[hy] at h;cases h;omega,h2⟩
        . rintro (⟨h1, h2⟩ | ⟨h1, h2⟩)
          . refine⟨h1, fun b hb => ?_⟩;have:=h2 x hx;have:=ho y b hy hb;omega
          . refine⟨fun a h => ?_, h2⟩;have:=k.ok q aF a x h hx;have:=h1 y hy;omega
       refine⟨⟨?_,?_,?_,?_⟩,?_,?_⟩
       . intro z hz;rcases aH.mp hz with rfl | hz
         . intro a b h1 h2;have:=k.ok q aF a x h1 hx;have:=ho y b hy h2;omega
         . exact k.ok z (aI _ hz)
       . refine bL.mpr ⟨fun a h => ?_, pw.2⟩;exact pw.1 a h
       . intro z hz;rcases aH.mp hz with rfl | hz
         . simp
         . exact k.val z (aI _ hz)
       . have ka := k.adj;cases t with
         |nil=>trivial
         | cons a t =>
           refine⟨fun h=>ka.1 ⟨h.1,?_⟩,ka.2⟩;rw[hm.2];exact h.2
       . intro r' h1 h2 a h;rcases aH.mp h with rfl | h
         . exact h1
         . exact h2 a (aI _ h)
       . intro p v;constructor
         . rintro ⟨z, hz, h1, h2⟩;rcases aH.mp hz with rfl | hz
           . rcases (hn p).mp h1 with h3 | h3
             . exact .inl ⟨q,aF,h3,hm.2.trans h2⟩
             . exact .inr ⟨h3,h2⟩
           . exact .inl ⟨z,aI _ hz,h1,h2⟩
         . rintro (⟨z, hz, h1, h2⟩ | ⟨h1, h2⟩)
           . rcases aH.mp hz with rfl | hz
             . exact⟨_,aF,(hn p).mpr (.inl h1),by rw[hm.2] at h2;exact h2⟩
             . exact⟨z,aI _ hz,h1,h2⟩
           . exact⟨_,aF,(hn p).mpr (.inr h1),h2⟩
     . have e : knit1 (q :: t) (lo, bh, some w) = (lo, bh, some w) :: q :: t := by simp only [knit1]; rw [if_neg hm]
       rw[e];refine⟨⟨?_,bL.mpr ⟨ha,k.pw⟩,?_,hm,k.adj⟩,?_,?_⟩
       . intro z hz;rcases aH.mp hz with rfl | hz
         . exact ho
         . exact k.ok z hz
       . intro z hz;rcases aH.mp hz with rfl | hz
         . simp
         . exact k.val z hz
       . intro r' h1 h2 a h;rcases aH.mp h with rfl | h
         . exact h1
         . exact h2 a h
       . intro p v;constructor
         . rintro ⟨z, hz, h1, h2⟩;rcases aH.mp hz with rfl | hz
           . exact .inr ⟨h1,h2⟩
           . exact .inl ⟨z,hz,h1,h2⟩
         . rintro (⟨z, hz, h1, h2⟩ | ⟨h1, h2⟩)
           . exact⟨z,aI _ hz,h1,h2⟩
           . exact⟨_,aF,h1,h2⟩
theorem wY:∀(rows acc:List Rw),KI acc->Ord rows->(∀a∈acc,∀r∈rows,ahead a r)->KI (rows.foldl knit1 acc)/\∀p v,Tel (rows.foldl knit1 acc) p v↔Tel acc p v\/Tel rows p v
 |[],acc,k,_,_=>⟨k,fun p v=>⟨.inl,fun h=>h.elim id fun⟨r,hr,_⟩=>nomatch hr⟩⟩
 | r :: rows, acc, k, o, h => by
   have pw:=bL.mp o.pw;obtain⟨k1,h1,t1⟩:=JJ k (o.ok r aF) fun a ha=>h a ha r aF;obtain⟨k2,t2⟩:=wY rows (knit1 acc r) k1 ⟨fun z hz=>o.ok z (aI _ hz),pw.2⟩ fun a ha r' hr'=>h1 r' (pw.1 r' hr') (fun b hb=>h b hb r' (aI _ hr')) a ha;refine⟨k2,fun p v=>?_⟩;show Tel (rows.foldl knit1 (knit1 acc r)) p v↔_;rw[t2,t1];constructor
   . rintro ((h | ⟨h, e⟩) | ⟨z, hz, h⟩)
     . exact .inl h
     . exact .inr ⟨r,aF,h,e⟩
     . exact .inr ⟨z,aI _ hz,h⟩
   . rintro (h' | ⟨z, hz, h'⟩)
     . exact .inl (.inl h')
     . rcases aH.mp hz with rfl | hz
       . exact .inl (.inr h')
       . exact .inr ⟨z,hz,h'⟩
structure MapF(ps:List Rw):Prop where
 ord:Ord ps
 val:∀r∈ps,r.2.2≠none
 adj:∀(i:Nat) (a b:Rw),ps[i]?=some a->ps[i+1]?=some b->¬(a.2.1=b.1/\a.2.2=b.2.2)
theorem BM:∀{l:List Rw},adjOk l->∀(i:Nat) (b a:Rw),l[i]?=some b->l[i+1]?=some a->¬(a.2.1=b.1/\a.2.2=b.2.2)
 |[],_,i,b,a,e,_=>by simp at e
 |[x],_,i,b,a,e,e2=>by simp at e2
 | x :: y :: t, h, 0, b, a, e, e2 => by
   simp at e e2;subst e e2;exact h.1
 |x::y::t,h,i+1,b,a,e,e2=>BM h.2 i b a (by simpa using e) (by simpa using e2)
theorem KI.map{acc:List Rw}(k:KI acc):MapF acc.reverse:=by
 refine⟨⟨fun r hr=>k.ok r (cS.mp hr),List.pairwise_reverse.mpr k.pw⟩,fun r hr=>k.val r (cS.mp hr),fun i a b h1 h2=>?_⟩;have l2:=(aV.mp h2).1;rw[pB] at l2;rw[HN (by omega)] at h1 h2;refine BM k.adj (acc.length-1-(i+1)) b a h2 ?_;rw[<- h1];congr 1;omega
theorem DZ{l:List Rw}{p v:Int}: Tel l.reverse p v↔Tel l p v:=⟨fun⟨r,h,q⟩=>⟨r,cS.mp h,q⟩,fun⟨r,h,q⟩=>⟨r,cS.mpr h,q⟩⟩
theorem PX{rows:List Rw}(o:Ord rows):MapF (knitF rows):=(wY rows [] KI.nil o (fun _ h=>nomatch h)).1.map
theorem PU{rows:List Rw}(o:Ord rows)(p v:Int):Tel (knitF rows) p v↔Tel rows p v:=by
 unfold knitF;rw[DZ,(wY rows [] KI.nil o (fun _ h=>nomatch h)).2];exact⟨fun h=>h.elim (fun⟨r,hr,_⟩=>nomatch hr) id,.inr⟩
noncomputable def valL(rows:List Rw)(p:Int):Option Int:=rows.foldl (fun t r=>if has3 r p=true then r.2.2 else t) none
theorem xP{a b:Rw}{p:Int}(h:ahead a b)(h1:has3 a p=true)(h2:has3 b p=true):False:=by
 obtain⟨x,y,hx,hy,hxy⟩:=h;rw[qO] at h1 h2;have:=h1.2 x hx;have:=h2.1 y hy;omega
theorem OE{rows:List Rw}{p:Int}(h:∀r∈rows,has3 r p=false)(t:Option Int):rows.foldl (fun t r=>if has3 r p=true then r.2.2 else t) t=t:=by
 induction rows generalizing t with
 |nil=>rfl
 | cons r rows ih =>
   rw[nC,h r aF];exact ih (fun z hz=>h z (aI _ hz)) _
theorem jX{rows:List Rw}(o:Ord rows)(p v:Int):valL rows p=some v↔Tel rows p v:=by
 have key:∀(rows:List Rw),Ord rows->∀t:Option Int,rows.foldl (fun t r=>if has3 r p=true then r.2.2 else t) t=(match rows.find? (fun r=>has3 r p) with | some r=>r.2.2 | none=>t):=by
  intro rows
  induction rows with
  |nil=>intro _ t;rfl
  | cons r rows ih =>
    intro o t;have pw:=bL.mp o.pw;rw[nC];cases h:has3 r p with
    | true =>
      rw[iI (by exact h)];simp only[if_true]
      exact OE (fun z hz=>by
       cases hz':has3 z p with
       |false=>rfl
       |true=>exact(xP (pw.1 z hz) h hz').elim) _
    | false =>
      rw[iJ (by simpa using h)];simp only[bD,if_false];exact ih ⟨fun z hz=>o.ok z (aI _ hz),pw.2⟩ t
 unfold valL;rw[key rows o none];constructor
 . intro h;cases hf:rows.find? (fun r=>has3 r p) with
   |none=>rw[hf] at h;cases h
   | some r =>
     rw[hf] at h;exact⟨r,eS hf,by simpa using kZ hf,h⟩
 . rintro ⟨r, hr, h1, h2⟩;cases hf:rows.find? (fun r=>has3 r p) with
   | none =>
     have:=hJ.mp hf r hr;exact(this h1).elim
   | some r' =>
     have h3:has3 r' p=true:=by simpa using kZ hf
     have hm:=eS hf
     have:r'=r:=by
      by_cases e:r'=r
      . exact e
      . exfalso;have pw:=o.pw;rcases kO.mp hr with ⟨i,hi,rfl⟩
        rcases kO.mp hm with⟨j,hj,rfl⟩
        rcases rM i j with hlt | hlt | hlt
        . exact xP (bU.mp pw i j hi hj hlt) h1 h3
        . subst hlt;exact e rfl
        . exact xP (bU.mp pw j i hj hi hlt) h3 h1
     rw[this];exact h2
theorem OD{a b:List Rw}(oa:Ord a)(ob:Ord b){p:Int}(h:∀v,Tel a p v↔Tel b p v):valL a p=valL b p:=by
 cases ha:valL a p with
 |some v=>exact((jX ob p v).mpr ((h v).mp ((jX oa p v).mp ha))).symm
 | none =>
   cases hb:valL b p with
   |none=>rfl
   | some v =>
     have:=(jX oa p v).mpr ((h v).mpr ((jX ob p v).mp hb));rw[ha] at this;cases this
open Builtin.Int (intBits)
structure pD(rows:List Rw)(s:Int):Prop where
 ord:Ord rows
 fin:∀r∈rows,∃lo bh,r.1=some lo/\r.2.1=some bh/\bh<=s
theorem pD.snoc{rows:List Rw}{s lo bh:Int}{v:Option Int}(h:pD rows s)(h1:s<=lo)(h2:lo<bh):pD (rows++[(some lo,some bh,v)]) bh:=by
 refine⟨⟨fun r hr=>?_,?_⟩,fun r hr=>?_⟩
 . rcases bI.mp hr with hr | hr
   . exact h.ord.ok r hr
   . have : r = (some lo, some bh, v) := by simpa using hr
     subst this;intro a b e1 e2;cases e1;cases e2;exact h2
 . refine gH.mpr ⟨h.ord.pw, dR _ _, fun a ha b hb => ?_⟩;have:b=(some lo,some bh,v):=by simpa using hb
   subst this;obtain⟨x,y,e1,e2,e3⟩:=h.fin a ha;exact⟨y,lo,e2,rfl,by omega⟩
 . rcases bI.mp hr with hr | hr
   . obtain⟨x, y, e1, e2, e3⟩ := h.fin r hr;exact⟨x,y,e1,e2,by omega⟩
   . have : r = (some lo, some bh, v) := by simpa using hr
     subst this;exact⟨lo,bh,rfl,rfl,cQ _⟩
theorem MP(ns:List Int){k:Int}(h0:0<=k)(h1:k<ns.length):ixD (.lst (ns.map D.int)) (.int k)=some (.int (cel ns k.toNat)):=by
 have h3:k.toNat<ns.length:=by omega
 rw[yJ _ h0 (by simpa using h1)];simp[h3,cel,List.getD]
theorem AU{r:Rw}{t:List Rw}(h:Ord (r::t)):Ord ((none,r.2)::t):=by
 have pw:=bL.mp h.pw;refine⟨fun z hz=>?_,bL.mpr ⟨pw.1,pw.2⟩⟩;rcases aH.mp hz with rfl | hz
 . intro a b e1 _;cases e1
 . exact h.ok z (aI _ hz)
theorem EX{r:Rw}{t:List Rw}(h:Ord (t++[r])):Ord (t++[(r.1,none,r.2.2)]):=by
 have pw:=gH.mp h.pw;refine⟨fun z hz=>?_,gH.mpr ⟨pw.1,dR _ _,fun a ha b hb=>?_⟩⟩
 . rcases bI.mp hz with hz | hz
   . exact h.ok z (bZ _ hz)
   . have : z = (r.1, none, r.2.2) := by simpa using hz
     subst this;intro a b _ e2;cases e2
 . have : b = (r.1, none, r.2.2) := by simpa using hb
   subst this;exact pw.2.2 a ha r (by simp)
theorem ixN0{n:Nat}(h:0<n):ixN n 0=some 0:=by
 rw[CP (by decide) (by omega)];rfl
theorem wL{α : Type}{l:List α}{i:Nat}{x : α}(h:l[i]?=some x):l.set i x=l:=by
 obtain⟨hi,rfl⟩:=aV.mp h;exact HL hi
theorem open_lo(i:Nat)(T:FT)(ds:List Sl)(rows:List Rw)(t:Bool)(o:Ord rows)(hi:ds[i]?=some (.own (rows.map rwD)))(hT:T ds=some t):∃rows':List Rw,Ord rows'/\rows'.length=rows.length/\(rows'=rows\/∃r r',rows=r::r'/\rows'=(none,r.2)::r') ∧
   (ifG (andT (zL (zD neD (zG i) (mkL (zZ zW)))) T) (putG i (zA (.int 0)) (mkT (zZ (zB (zA .non) (zB (zD ixD (zD ixD (zG i) (zA (.int 0))) (zA (.int 1))) (zB (zD ixD (zD ixD (zG i) (zA (.int 0))) (zA (.int 2))) zW)))))) qL) ds=some (.nx (ds.set i (.own (rows'.map rwD)))):=by
 have ne:=yM rows;cases t with
 | true =>
   cases rows with
   | nil =>
     simp at ne hi;exact⟨[],o,rfl,.inl rfl,by simp[hi,ne,wL hi]⟩
   | cons r t =>
     have e0:D.tup [.non,oi r.2.1,oi r.2.2]=rwD (none,r.2):=rfl;have le:ixN (t.length+1) 0=some 0:=ixN0 (by omega);refine⟨(none,r.2)::t,AU o,by simp,.inr ⟨r,t,rfl,rfl⟩,?_⟩;simp at ne hi;simp[hi,ne,hT,le,e0]
 |false=>exact⟨rows,o,rfl,.inl rfl,by simp[hi,ne,hT,wL hi]⟩
theorem open_hi(i:Nat)(T:FT)(ds:List Sl)(rows:List Rw)(t:Bool)(o:Ord rows)(hi:ds[i]?=some (.own (rows.map rwD)))(hT:T ds=some t):∃rows':List Rw,Ord rows'/\rows'.length=rows.length/\(rows'=rows\/∃r r',rows=r'++[r]/\rows'=r'++[(r.1,none,r.2.2)]) ∧
   (ifG (andT (zL (zD neD (zG i) (mkL (zZ zW)))) T) (putG i (un1 negD (zA (.int 1))) (mkT (zZ (zB (zD ixD (zD ixD (zG i) (un1 negD (zA (.int 1)))) (zA (.int 0))) (zB (zA .non) (zB (zD ixD (zD ixD (zG i) (un1 negD (zA (.int 1)))) (zA (.int 2))) zW)))))) qL) ds=some (.nx (ds.set i (.own (rows'.map rwD)))):=by
 have ne:=yM rows;cases t with
 | true =>
   rcases HP rows with rfl | ⟨t,r,rfl⟩
   . simp at ne hi;exact⟨[],o,rfl,.inl rfl,by simp[hi,ne,wL hi]⟩
   . rw [HQ] at o ne hi ⊢;have last:ixD (.lst (t.map rwD++[rwD r])) (.int (-1))=some (rwD r):=tL _ _;have le:ixN (t.length+1) (-1)=some t.length:=by rw [FK (by omega)]; rfl
     have e0:D.tup [oi r.1,.non,oi r.2.2]=rwD (r.1,none,r.2.2):=rfl;have ie:(t++[r]).isEmpty=false:=by simp
     refine⟨t++[(r.1,none,r.2.2)],EX o,by simp,.inr ⟨r,t,rfl,rfl⟩,?_⟩;rw[ie] at ne;simp at ne hi;simp[hi,ne,hT,last,le,e0]
 |false=>exact⟨rows,o,rfl,.inl rfl,by simp[hi,ne,hT,wL hi]⟩
theorem vE(i:Int):dP [.int i]=some (.val (.bl true)):=by
 unfold dP runG mM;simp[args]
@[simp] theorem methR_ins(n:Nat)(cs:List Nat)(F:Nat->List D->Option Ret)(t:Nat)(es l:List D):methR n cs F (.ins t es) l=if t∈cs/\l.length=n then F t (.ins t es::l) else none:=rfl
theorem MapF.nil:MapF []:=⟨⟨(fun _ h=>nomatch h),List.Pairwise.nil⟩,(fun _ h=>nomatch h),(fun i a b h _=>by simp at h)⟩
theorem xD{rows:List Rw}(o:Ord rows)(p:Int):valL rows p=(match rows.find? (fun r=>has3 r p) with | some r=>r.2.2 | none=>none):=by
 cases hf:rows.find? (fun r=>has3 r p) with
 | none =>
   cases hv:valL rows p with
   |none=>rfl
   | some v =>
     obtain⟨r,hr,h1,_⟩:=(jX o p v).mp hv;exact(hJ.mp hf r hr h1).elim
 | some r =>
   have hm:=eS hf;have h3:has3 r p=true:=by simpa using kZ hf
   cases hw:r.2.2 with
   |some v=>exact((jX o p v).mpr ⟨r,hm,h3,hw⟩).trans hw.symm
   | none =>
     cases hv:valL rows p with
     |none=>exact hw.symm
     | some v =>
       obtain⟨r',hr',h1,h2⟩:=(jX o p v).mp hv
       have:r'=r:=by
        by_cases e:r'=r
        . exact e
        . exfalso;rcases kO.mp hr' with ⟨i,hi,rfl⟩
          rcases kO.mp hm with⟨j,hj,rfl⟩
          rcases rM i j with hlt | hlt | hlt
          . exact xP (bU.mp o.pw i j hi hj hlt) h1 h3
          . subst hlt;exact e rfl
          . exact xP (bU.mp o.pw j i hj hi hlt) h3 h1
       rw[this,hw] at h2;cases h2
noncomputable def runsR(here:Option Int)(b:Bool):List Rw->List Rw
 |[]=>if here≠none\/b=true then [(here,none,none)] else []
 |r::t=>(if r.1≠here then [(here,r.1,none)] else [])++r::runsR r.2.1 false t
noncomputable def zV(ps:List Rw):List Rw:=runsR none true ps
noncomputable def runsB(here:Option Int):List Rw->List Rw
 |[]=>[]
 |r::t=>(if r.1≠here then [(here,r.1,none)] else [])++r::runsB r.2.1 t
noncomputable def lastB(here:Option Int):List Rw->Option Int
 |[]=>here
 |r::t=>lastB r.2.1 t
theorem vW:∀(ps:List Rw) (here:Option Int) (b:Bool),runsR here b ps=runsB here ps++(if lastB here ps≠none\/(b=true/\ps=[]) then [(lastB here ps,none,none)] else [])
 |[],here,b=>by simp[runsR,runsB,lastB]
 | r :: t, here, b => by
   rw[runsR,vW t];simp[runsB,lastB]
theorem vK:∀(ps:List Rw) (here:Option Int),(runsB here ps).length<=2*ps.length
 |[],here=>by simp[runsB]
 | r :: t, here => by
   have:=vK t r.2.1;rw[runsB]
   split<;>simp<;>omega
theorem vH(R:Sl):∀(ps acc:List Rw) (here:Option Int) (a b c:Sl),acc.length+2*ps.length<16777216->∃a' b' c',qW (tupG 3 (zM (zQ 3) (zM (zQ 4) (zM (zQ 5) tgNil)))) fN (ps.map rwD) [R,.own (acc.map rwD),.v (oi here),a,b,c]=some (.nx [R,.own ((acc++runsB here ps).map rwD),.v (oi (lastB here ps)),a',b',c'])
 |[],acc,here,a,b,c,_=>⟨a,b,c,by simp[runsB,lastB,qW]⟩
 | r :: ps, acc, here, a, b, c, h => by
   simp only[aN] at h;have e0:D.tup [oi here,oi r.1,.non]=rwD (here,r.1,none):=rfl;have e1:D.tup [oi r.1,oi r.2.1,oi r.2.2]=rwD r:=rfl;have z1:acc.length<16777216:=by omega
   have z2:acc.length+1<16777216:=by omega
   by_cases hr:r.1=here
   . subst hr;obtain ⟨a',b',c',ih⟩:=vH R ps (acc++[r]) r.2.1 (.v (oi r.1)) (.v (oi r.2.1)) (.v (oi r.2.2)) (by simp; omega);refine ⟨a',b',c',?_⟩;simp only [kY,bO,dI,bH,gM,dF] at ih;have turn:fN [R,.own (acc.map rwD),.v (oi r.1),.v (oi r.1),.v (oi r.2.1),.v (oi r.2.2)]=some (.nx [R,.own (acc.map rwD++[rwD r]),.v (oi r.2.1),.v (oi r.1),.v (oi r.2.1),.v (oi r.2.2)]):=by simp [fN,z1,e1]
     simp[qW,turn,ih,runsB,lastB]
   . obtain ⟨a', b', c', ih⟩ := vH R ps (acc ++ [(here, r.1, none), r]) r.2.1 (.v (oi r.1)) (.v (oi r.2.1)) (.v (oi r.2.2)) (by simp; omega);refine ⟨a',b',c',?_⟩;simp only [kY,bO,dI,bH,gM,dF] at ih;have turn:fN [R,.own (acc.map rwD),.v (oi here),.v (oi r.1),.v (oi r.2.1),.v (oi r.2.2)]=some (.nx [R,.own (acc.map rwD++[rwD (here,r.1,none),rwD r]),.v (oi r.2.1),.v (oi r.1),.v (oi r.2.1),.v (oi r.2.2)]):=by simp [fN,z1,z2,e0,e1,hr]
     simp[qW,turn,ih,runsB,lastB,hr]
theorem LJ(ps:List Rw)(h:ps.length<=1000000):gF [.lst (ps.map rwD)]=some (.fresh ((zV ps).map rwD)):=by
 obtain⟨a,b,c,e⟩:=vH (.v (.lst (ps.map rwD))) ps [] none .no .no .no (by simp;omega);have hl:=vK ps none;have z:(runsB none ps).length<16777216:=by omega
 simp only[dI,dF,CH] at e;have fl:=jY (zV ps);unfold zV at fl ⊢;rw[vW] at fl ⊢;unfold gF runG mL;have e0:D.tup [oi (lastB none ps),.non,.non]=rwD (lastB none ps,none,none):=rfl;cases hb:lastB none ps with
 | some x =>
   rw[hb] at e e0 fl;simp at fl e0;simp[args,e,z,e0,fl]
 | none =>
   rw[hb] at e e0 fl;cases ps with
   | nil =>
     simp[runsB] at e fl;simp[args,e,runsB,rwD]
   | cons r t =>
     simp at fl;simp only[bO,CH] at e;simp[args,e,fl]
noncomputable def befo(p:Int):Option Int->Bool
 |some a=>decide (p<a)
 |none=>false
noncomputable def inso(p:Int):Option Int->Bool
 |some b=>decide (p<b)
 |none=>true
noncomputable def lookF(p:Int)(here:Option Int):List Rw->Rw
 |[]=>(here,none,none)
 | r :: t => if befo p r.1 = true then (here, r.1, none)
   else if inso p r.2.1=true then r else lookF p r.2.1 t
theorem AW(p:Int):∀(ps:List Rw) (here:Option Int) (b:Bool),Ord ps->(∀r,ps.head?=some r->r.1=none->here=none)->(∀h,here=some h->h<=p)->(here≠none\/b=true)->(runsR here b ps).find? (fun r=>has3 r p)=some (lookF p here ps)
 | [], here, b, _, _, h, hb => by
   have:has3 (here,none,none) p=true:=by
    rw[qO];exact⟨h,fun b e=>by cases e⟩
   simp[runsR,hb,lookF,this]
 | r :: t, here, b, o, hN, h, hb => by
   obtain⟨lo,bh,w⟩:=r;have pw:=bL.mp o.pw;rw[runsR,lookF];simp only
   by_cases h1:befo p lo=true
   . rw [if_pos h1];cases lo with
     |none=>simp[befo] at h1
     | some a =>
       have hp:p<a:=by simpa[befo] using h1
       have hne:(some a:Option Int)≠here:=fun e=>by
        have:=h a e.symm;omega
       have hg:has3 (here,some a,none) p=true:=by
        rw[qO];exact⟨h,fun b e=>by cases e;exact hp⟩
       rw[if_pos hne];simp[hg]
   . rw [if_neg h1]
     have hlo:∀a,lo=some a->a<=p:=fun a e=>by
      subst e;have : ¬p<a:=by simpa[befo] using h1
      omega
     have skip:(if lo≠here then [((here,lo,none):Rw)] else []).find? (fun r=>has3 r p)=none:=by
      split
      . rename_i hne
        have:has3 (here,lo,none) p=false:=by
         rw[mE];intro z;rw[qO] at z;cases lo with
         | none =>
           cases here with
           |none=>exact hne rfl
           | some x =>
             have:=hN _ rfl rfl;cases this
         | some a =>
           have:=z.2 a rfl;have:=hlo a rfl;omega
        simp[this]
      . rfl
     rw[RF,skip];simp only[Option.none_or]
     by_cases h2:inso p bh=true
     . rw [if_pos h2]
       have:has3 (lo,bh,w) p=true:=by
        rw[qO];refine⟨hlo,fun b e=>?_⟩;simp only at e;subst e;simpa[inso] using h2
       rw[iI (by exact this)]
     . rw [if_neg h2];cases bh with
       |none=>simp[inso] at h2
       | some b =>
         have hp:b<=p:=by
          have : ¬p<b:=by simpa[inso] using h2
          omega
         have:has3 (lo,some b,w) p=false:=by
          rw[mE];intro z;rw[qO] at z;have:=z.2 b rfl;omega
         rw[iJ (by simpa using this)]
         exact AW p t (some b) false ⟨fun z hz=>o.ok z (aI _ hz),pw.2⟩ (fun r' e e'=>by
          obtain⟨x,y,_,hy,_⟩:=pw.1 r' (HM e);rw[e'] at hy
          cases hy) (fun x e=>by cases e;exact hp) (.inl (by simp))
theorem VY{ps:List Rw}(o:Ord ps)(p:Int):(zV ps).find? (fun r=>has3 r p)=some (lookF p none ps):=AW p ps none true o (fun _ _ _=>rfl) (fun h e=>by cases e) (.inr rfl)
theorem FG(p:Int):∀(ps:List Rw) (here:Option Int),Ord ps->(lookF p here ps).2.2=(match ps.find? (fun r=>has3 r p) with | some r=>r.2.2 | none=>none)
 |[],here,_=>rfl
 | r :: t, here, o => by
   have pw:=bL.mp o.pw;obtain⟨lo,bh,w⟩:=r;rw[lookF];simp only
   by_cases h1:befo p lo=true
   . rw [if_pos h1];cases lo with
     |none=>simp[befo] at h1
     | some a =>
       have hp:p<a:=by simpa[befo] using h1
       have:((some a,bh,w)::t).find? (fun r=>has3 r p)=none:=by
        rw[hJ];intro z hz hh;rw[qO] at hh;rcases aH.mp hz with rfl | hz
        . have := hh.1 a rfl;omega
        . obtain⟨x, y, hx, hy, hxy⟩ := pw.1 z hz;have:=hh.1 y hy;have:=o.ok _ aF a x rfl hx;omega
       rw[this]
   . rw [if_neg h1]
     have hlo:∀a,lo=some a->a<=p:=fun a e=>by
      subst e;have : ¬p<a:=by simpa[befo] using h1
      omega
     by_cases h2:inso p bh=true
     . rw [if_pos h2]
       have:has3 (lo,bh,w) p=true:=by
        rw[qO];refine⟨hlo,fun b e=>?_⟩;simp only at e;subst e;simpa[inso] using h2
       rw[iI (by exact this)]
     . rw [if_neg h2]
       have:has3 (lo,bh,w) p=false:=by
        rw[mE];intro z;rw[qO] at z;cases bh with
        |none=>simp[inso] at h2
        | some b =>
          have:=z.2 b rfl;have : ¬p<b:=by simpa[inso] using h2
          omega
       rw[iJ (by simpa using this)];exact FG p t bh ⟨fun z hz=>o.ok z (aI _ hz),pw.2⟩
theorem yQ(ps:List Rw):(zV ps).length<=2*ps.length+1:=by
 unfold zV;rw[vW];have:=vK ps none
 split<;>simp<;>omega
open Builtin.Int (intBits)
noncomputable def Til:Option Int->List Rw->Prop
 |_,[]=>False
 |here,r::rs=>r.1=here/\(∀h x,here=some h->r.2.1=some x->h<x)/\(r.2.1=none->rs=[])/\∀x,r.2.1=some x->Til (some x) rs
theorem DW:∀(ps:List Rw) (here:Option Int) (b:Bool),Ord ps->(∀r,ps.head?=some r->(r.1=none->here=none)/\∀h l,here=some h->r.1=some l->h<=l)->(here≠none\/b=true)->Til here (runsR here b ps)
 | [], here, b, _, _, hb => by
   unfold runsR;rw[if_pos hb];exact⟨rfl,(fun _ _ _ e=>nomatch e),fun _=>rfl,(fun _ e=>nomatch e)⟩
 | r :: t, here, b, o, hh, hb => by
   obtain⟨hn,hs⟩:=hh r rfl;have pw:=bL.mp o.pw;have o':Ord t:=⟨fun z hz=>o.ok z (aI _ hz),pw.2⟩
   have ok:=o.ok r aF
   have core:Til r.1 (r::runsR r.2.1 false t):=by
    refine⟨rfl,fun h x e1 e2=>ok h x e1 e2,fun e=>?_,fun x e=>?_⟩
    . cases t with
      |nil=>rw[e];simp[runsR]
      | cons r' t' =>
        obtain⟨x,y,h1,_⟩:=pw.1 r' aF;rw[e] at h1;cases h1
    . rw[e];refine DW t (some x) false o' (fun r' hr'=>?_) (.inl (by simp));obtain⟨x',y,h1,h2,h3⟩:=pw.1 r' (HM hr');rw[e] at h1;cases h1;rw[h2];exact⟨(fun z=>nomatch z),fun h l e1 e2=>by cases e1;cases e2;exact h3⟩
   unfold runsR
   by_cases he:r.1=here
   . simp only[ne_eq, he, not_true_eq_false, if_false, dF];rw[<- he];exact core
   . simp only [ne_eq, he, not_false_eq_true, if_true, gM, dF];refine ⟨rfl,fun h x e1 e2=>?_,fun e=>?_,fun x e=>?_⟩
     . have := hs h x e1 e2;have:x≠h:=fun z=>he (by rw[show r.1=some x from e2,e1,z]);omega
     . have e' : r.1=none := e;exact(he (by rw[e',hn e'])).elim
     . have e' : r.1=some x := e;rw[e'] at core;exact core
theorem qX{ps:List Rw}(o:Ord ps):Til none (zV ps):=DW ps none true o (fun r _=>⟨fun _=>rfl,(fun h l e1=>nomatch e1)⟩) (.inr rfl)
noncomputable def befB(p:Int)(r:Rw):Bool:=match r.2.1 with | none=>true | some x=>decide (p<x)
theorem kH(p:Int):∀(rs:List Rw) (here:Option Int),Til here rs->(∀h,here=some h->h<=p)->rs.find? (fun r=>has3 r p)=rs.find? (befB p)
 |[],_,h,_=>h.elim
 | r :: rs, here, h, hp => by
   obtain⟨h1,h2,h3,h4⟩:=h
   have e:has3 r p=befB p r:=by
    unfold has3 hasS befB;rw[h1];cases hr:here with
    |none=>cases r.2.1<;>simp
    |some x=>have:=hp x hr;cases r.2.1<;>simp[this]
   rw[cR,cR,e];cases hb:befB p r with
   |true=>rfl
   | false =>
     simp only;cases hx:r.2.1 with
     |none=>unfold befB at hb;rw[hx] at hb;cases hb
     | some x =>
       unfold befB at hb;rw[hx] at hb;simp at hb;exact kH p rs (some x) (h4 x hx) fun h e=>by cases e;exact hb
noncomputable def atB(p:Int)(rs:List Rw):Option Int:=match rs.find? (befB p) with | some r=>r.2.2 | none=>none
theorem xA{ps:List Rw}(o:Ord ps)(p:Int):atB p (zV ps)=valL ps p:=by
 unfold atB;rw[<- kH p _ none (qX o) (fun h e=>nomatch e),VY o p];simp only;rw[FG p ps none o,xD o]
theorem DB{p:Int}{r:Rw}{rs:List Rw}(h:befB p r=true):atB p (r::rs)=r.2.2:=by
 unfold atB;rw[cR,h]
theorem atB_tl{p:Int}{r:Rw}{rs:List Rw}(h:befB p r=false):atB p (r::rs)=atB p rs:=by
 unfold atB;rw[cR,h]
abbrev R4:=Option Int×Option Int×Option Int×Option Int
noncomputable def r4D(r:R4):D:=.tup [oi r.1,oi r.2.1,oi r.2.2.1,oi r.2.2.2]
noncomputable def Rem:Option Int->List Rw->Prop
 |_,[]=>False
 |here,r::rs=>(∀h x,here=some h->r.2.1=some x->h<x)/\(r.2.1=none->rs=[])/\∀x,r.2.1=some x->Rem (some x) rs
theorem Til.rem:∀{rs:List Rw} {here:Option Int},Til here rs->Rem here rs
 |[],_,h=>h.elim
 |r::rs,_,⟨_,h2,h3,h4⟩=>⟨h2,h3,fun x e=>(h4 x e).rem⟩
noncomputable def stp(e:Option Int):List Rw->List Rw
 |[]=>[]
 |a::as=>if a.2.1=e then as else a::as
theorem jB(e:Option Int)(a:Rw)(as:List Rw):stp e (a::as)=if a.2.1=e then as else a::as:=rfl
noncomputable def qY:Nat->Option Int->List Rw->List Rw->List R4
 |0,_,_,_=>[]
 |n+1,here,a::as,b::bs=>(here,qQ a.2.1 b.2.1,a.2.2,b.2.2)::qY n (qQ a.2.1 b.2.1) (stp (qQ a.2.1 b.2.1) (a::as)) (stp (qQ a.2.1 b.2.1) (b::bs))
 |_+1,_,_,_=>[]
def Both(here:Option Int)(as bs:List Rw):Prop:=(as=[]/\bs=[])\/(Rem here as/\Rem here bs)
theorem xC{here:Option Int}{a:Rw}{as:List Rw}(h:Rem here (a::as)){x:Int}(hx:∀y,a.2.1=some y->x<=y):a.2.1=none/\stp (some x) (a::as)=a::as/\Rem (some x) (stp (some x) (a::as))\/a.2.1≠none/\Rem (some x) (stp (some x) (a::as)):=by
 obtain⟨h1,h2,h3⟩:=h;cases ha:a.2.1 with
 | none =>
   left;have:stp (some x) (a::as)=a::as:=by rw[jB,ha,if_neg (by simp)]
   rw[this];exact⟨rfl,rfl,(fun h y _ e=>by rw[ha] at e;cases e),h2,h3⟩
 | some y =>
   right;refine⟨by simp,?_⟩;rw[jB,ha]
   by_cases hxy:y=x
   . subst hxy;rw[if_pos rfl];exact h3 y ha
   . rw[if_neg (by simpa using hxy)];refine⟨fun h z e1 e2=>?_,h2,h3⟩;cases e1;rw[ha] at e2;cases e2;have:=hx y ha;omega
theorem kB{here:Option Int}{a b:Rw}{as bs:List Rw}(ha:Rem here (a::as))(hb:Rem here (b::bs)) :
  Both (qQ a.2.1 b.2.1) (stp (qQ a.2.1 b.2.1) (a::as)) (stp (qQ a.2.1 b.2.1) (b::bs)):=by
 cases h1:a.2.1 with
 | none =>
   cases h2:b.2.1 with
   | none =>
     left;constructor
     . simp[qQ,stp,h1,ha.2.1 h1]
     . simp[qQ,stp,h2,hb.2.1 h2]
   | some y =>
     right;have e:qQ none (some y)=some y:=rfl;rw[e];constructor
     . rcases xC ha (x := y) (by rw [h1]; exact fun _ e => nomatch e) with h | h
       . exact h.2.2
       . exact h.2
     . rcases xC hb (x := y) (by rw [h2]; intro z e; cases e; omega) with h | h
       . exact h.2.2
       . exact h.2
 | some x =>
   right;cases h2:b.2.1 with
   | none =>
     have e:qQ (some x) none=some x:=rfl;rw[e];constructor
     . rcases xC ha (x := x) (by rw [h1]; intro z e; cases e; omega) with h | h
       . exact h.2.2
       . exact h.2
     . rcases xC hb (x := x) (by rw [h2]; exact fun _ e => nomatch e) with h | h
       . exact h.2.2
       . exact h.2
   | some y =>
     have e:qQ (some x) (some y)=some (min x y):=rfl;rw[e];constructor
     . rcases xC ha (x := min x y) (by rw [h1]; intro z e; cases e; omega) with h | h
       . exact h.2.2
       . exact h.2
     . rcases xC hb (x := min x y) (by rw [h2]; intro z e; cases e; omega) with h | h
       . exact h.2.2
       . exact h.2
theorem vF{here:Option Int}{a b:Rw}{as bs:List Rw}(ha:Rem here (a::as))(hb:Rem here (b::bs))(h:qQ a.2.1 b.2.1=none):stp none (a::as)=[]/\stp none (b::bs)=[]:=by
 cases h1:a.2.1 with
 |some x=>rw[h1] at h;cases h2:b.2.1<;>rw[h2] at h<;>cases h
 | none =>
   cases h2:b.2.1 with
   |some y=>rw[h1,h2] at h;cases h
   |none=>exact⟨by rw[jB,h1,if_pos rfl];exact ha.2.1 h1,by rw[jB,h2,if_pos rfl];exact hb.2.1 h2⟩
theorem xK(n:Nat)(here:Option Int)(bs:List Rw):qY n here [] bs=[]:=by cases n<;>rfl
theorem EW:∀(n:Nat) (here:Option Int) (as bs:List Rw) (r:R4),Both here as bs->r∈qY n here as bs->here≠none->r.1=none->False
 |0,_,_,_,r,_,hr,_,_=>by unfold qY at hr;cases hr
 |n+1,here,[],bs,r,_,hr,_,_=>by rw[xK] at hr;cases hr
 | n + 1, here, a :: as, [], r, hB, hr, _, _ => by
   rcases hB with⟨h,_⟩ | ⟨_,h⟩
   . cases h
   . exact h
 | n + 1, here, a :: as, b :: bs, r, hB, hr, hh, h1 => by
   rcases hB with⟨h,_⟩ | ⟨ha,hb⟩
   . cases h
   . rw [qY] at hr;rcases aH.mp hr with rfl | hr
     . exact hh h1
     . by_cases he : qQ a.2.1 b.2.1 = none
       . rw[he, (vF ha hb he).1, xK] at hr;cases hr
       . exact EW n _ _ _ r (kB ha hb) hr he h1
theorem II{e:Option Int}{a:Rw}{as:List Rw}{p:Int}(h:∀x,e=some x->x<=p)(hn:e=none->False):atB p (stp e (a::as))=atB p (a::as):=by
 rw[jB]
 by_cases he:a.2.1=e
 . rw [if_pos he];symm;apply atB_tl;unfold befB;rw [he];cases e with
   |none=>exact(hn rfl).elim
   |some x=>have:=h x rfl;simp;omega
 . rw[if_neg he]
theorem LC(e:Option Int)(a:Rw)(as:List Rw):(stp e (a::as)).length<=as.length+1:=by
 rw[jB]
 split<;>simp
theorem BS(a b:Rw)(as bs:List Rw):(stp (qQ a.2.1 b.2.1) (a::as)).length+(stp (qQ a.2.1 b.2.1) (b::bs)).length<(as.length+1)+(bs.length+1):=by
 have:qQ a.2.1 b.2.1=a.2.1\/qQ a.2.1 b.2.1=b.2.1:=by
  cases a.2.1 with
  |none=>right;cases b.2.1<;>rfl
  | some x =>
    cases b.2.1 with
    |none=>left;rfl
    | some y =>
      rcases(by omega:min x y=x\/min x y=y) with h | h
      . left;simp[qQ,h]
      . right;simp[qQ,h]
 have l1:=LC (qQ a.2.1 b.2.1) a as;have l2:=LC (qQ a.2.1 b.2.1) b bs;rcases this with h | h
 . have : (stp (qQ a.2.1 b.2.1) (a :: as)).length = as.length := by rw [jB, if_pos h.symm]
   omega
 . have : (stp (qQ a.2.1 b.2.1) (b :: bs)).length = bs.length := by rw [jB, if_pos h.symm]
   omega
theorem xR:∀(n:Nat) (here:Option Int) (as bs:List Rw),as.length+bs.length<=n->Both here as bs →
  (∀r∈qY n here as bs,okS (r.1,r.2.1)/\(∀h x,here=some h->r.1=some x->h<=x)/\∀p,hasS (r.1,r.2.1) p=true->(∀h,here=some h->h<=p)->atB p as=r.2.2.1/\atB p bs=r.2.2.2) ∧
  ∀p,as≠[]->(∀h,here=some h->h<=p)->∃r∈qY n here as bs,atB p as=r.2.2.1/\atB p bs=r.2.2.2
 | 0, here, as, bs, hn, _ => by
   have:as=[]:=List.eq_nil_of_length_eq_zero (by omega);exact⟨fun r hr=>(by unfold qY at hr;cases hr),fun p h=>(h this).elim⟩
 | n + 1, here, as, bs, hn, hB => by
   rcases hB with⟨rfl,rfl⟩ | ⟨ha,hb⟩
   . exact⟨fun r hr=>(by unfold qY at hr;cases hr),fun p h=>(h rfl).elim⟩
   . cases as with
     |nil=>exact ha.elim
     | cons a as =>
       cases bs with
       |nil=>exact hb.elim
       | cons b bs =>
         have two:=BS a b as bs;have bs':=kB ha hb;simp only[aN] at hn;generalize he:qQ a.2.1 b.2.1=e at *;have ih:=xR n e (stp e (a::as)) (stp e (b::bs)) (by omega) bs'
         have beyond:∀h x,here=some h->e=some x->h<x:=by
          intro h x e1 e2;rw[<- he] at e2;cases h1:a.2.1 with
          | none =>
            rw[h1] at e2;cases h2:b.2.1 with
            |none=>rw[h2] at e2;cases e2
            |some y=>rw[h2] at e2;cases e2;exact hb.1 h _ e1 h2
          | some z =>
            rw[h1] at e2;have g1:=ha.1 h z e1 h1;cases h2:b.2.1 with
            |none=>rw[h2] at e2;cases e2;exact g1
            | some y =>
              rw[h2] at e2;cases e2;have g2:=hb.1 h y e1 h2;omega
         have inA:∀p,(∀x,e=some x->p<x)->befB p a=true/\befB p b=true:=by
          intro p hp;rw[<- he] at hp;unfold befB;cases h1:a.2.1 with
          | none =>
            cases h2:b.2.1 with
            |none=>exact⟨rfl,rfl⟩
            |some y=>rw[h1,h2] at hp;have:=hp y rfl;exact⟨rfl,by simpa using this⟩
          | some z =>
            cases h2:b.2.1 with
            |none=>rw[h1,h2] at hp;have:=hp z rfl;exact⟨by simpa using this,rfl⟩
            | some y =>
              rw[h1,h2] at hp;have:=hp _ rfl;exact⟨by simp;omega,by simp;omega⟩
         have pf:qY (n+1) here (a::as) (b::bs)=(here,e,a.2.2,b.2.2)::qY n e (stp e (a::as)) (stp e (b::bs)):=by rw[qY,he]
         rw[pf];refine⟨fun r hr=>?_,fun p _ hp=>?_⟩
         . rcases aH.mp hr with rfl | hr
           . refine ⟨fun x y e1 e2 => beyond x y e1 e2, fun h x e1 e2 => ?_, fun p hp _ => ?_⟩
             . have e2 : here=some x := e2;rw[e1] at e2;cases e2;omega
             . obtain⟨q1,q2⟩:=inA p fun x hx=>by
                unfold hasS at hp;simp only[hx,cL,decide_eq_true_eq] at hp;exact hp.2
               exact⟨DB q1,DB q2⟩
           . obtain ⟨g1, g2, g3⟩ := ih.1 r hr
             have en:e≠none:=by
              intro hz;rw[hz,(vF ha hb (by rw[he,hz])).1,xK] at hr;cases hr
             obtain⟨x,hx⟩:∃x,e=some x:=by cases e with | none=>exact(en rfl).elim | some x=>exact⟨x,rfl⟩
             have lowR:∀p,hasS (r.1,r.2.1) p=true->x<=p:=by
              intro p hp;cases hr1:r.1 with
              | some y =>
                have:=g2 x y hx hr1;unfold hasS at hp;simp only[hr1,cL,decide_eq_true_eq] at hp;omega
              | none =>
                exact(EW n e _ _ r bs' hr (by rw[hx];simp) hr1).elim
             refine⟨g1,fun h y e1 e2=>?_,fun p hp hh=>?_⟩
             . have := beyond h x e1 hx;have:=g2 x y hx e2;omega
             . have hxp := lowR p hp;obtain ⟨q1,q2⟩:=g3 p hp fun h e1=>by rw [hx] at e1; cases e1; exact hxp
               rw[II (fun y e1=>by rw[hx] at e1;cases e1;exact hxp) (fun z=>en z)] at q1 q2;exact⟨q1,q2⟩
         . by_cases hx : ∀ x, e = some x -> p < x
           . obtain⟨q1, q2⟩ := inA p hx;exact⟨_,aF,DB q1,DB q2⟩
           . obtain ⟨x, hx⟩ := Classical.not_forall.mp hx;obtain ⟨hx,hpx⟩:=Classical.not_imp.mp hx;have en:e=none->False:=fun z=>by rw [z] at hx; cases hx
             have hle:∀y,e=some y->y<=p:=fun y e1=>by rw[hx] at e1;cases e1;omega
             have ne:stp e (a::as)≠[]:=by
              rcases bs' with⟨h1,h2⟩ | ⟨h1,h2⟩
              . exfalso;have k1:=II (a:=a) (as:=as) hle en;rw [h1] at k1;rw [jB] at h1 h2
                split at h1
                . rename_i ha1
                  split at h2
                  . have := ha.2.2 x (by rw[ha1, hx]);rw[h1] at this;exact this
                  . cases h2
                . cases h1
              . intro z;rw[z] at h1;exact h1
             obtain⟨r,hr,q1,q2⟩:=ih.2 p ne hle;rw[II hle en] at q1 q2;exact⟨r,aI _ hr,q1,q2⟩
@[simp] theorem r4D_tupG(h:List D->List Sl->Option (List Sl))(r:R4)(ds:List Sl):tupG 4 h (r4D r) ds=h [oi r.1,oi r.2.1,oi r.2.2.1,oi r.2.2.2] ds:=by simp[r4D]
theorem WS(l:List R4):flats (l.map r4D)=true:=by
 induction l with
 |nil=>simp
 |cons a r ih=>simp[ih,r4D]
theorem oX{α : Type}{A as:List α}{i:Nat}{a : α}(h:A.drop i=a::as):A[i]?=some a/\A.drop (i+1)=as/\i<A.length:=by
 have hi:i<A.length:=by
  rcases Nat.lt_or_ge i A.length with h1 | h1
  . exact h1
  . rw[List.drop_eq_nil_of_le h1] at h;cases h
 rw[cE hi] at h;cases h;exact⟨aK hi,rfl,hi⟩
theorem BA{A:List Rw}{i:Nat}{a:Rw}(h:A[i]?=some a):ixD (.lst (A.map rwD)) (.int (i:Int))=some (rwD a):=by
 have hi:=(aV.mp h).1;rw[yJ _ (by omega) (by simp;omega),rO,bT,h];rfl
theorem rQ(R0 R1:Sl)(A B:List Rw):∀(m i j:Nat) (here:Option Int) (acc:List R4) (x8 x9 x10:Sl),(A.drop i).length+(B.drop j).length<=m->Both here (A.drop i) (B.drop j)->acc.length+m<16777216->∀n,m<n →
  ∃y5 y6 y7 y8 y9 y10,gU (zL (zD ltD (zG 6) (callB lenD (zB (zG 2) zW)))) kS n [R0,R1,.v (.lst (A.map rwD)),.v (.lst (B.map rwD)),.own (acc.map r4D),.v (oi here),.v (.int (i:Int)),.v (.int (j:Int)),x8,x9,x10] =
   some (.nx [R0,R1,.v (.lst (A.map rwD)),.v (.lst (B.map rwD)),.own ((acc++qY m here (A.drop i) (B.drop j)).map r4D),y5,y6,y7,y8,y9,y10])
 |m,i,j,here,acc,x8,x9,x10,hm,hB,hz,0,hn=>by omega
 | m, i, j, here, acc, x8, x9, x10, hm, hB, hz, n + 1, hn => by
   cases hA:A.drop i with
   | nil =>
     have hi:A.length<=i:=List.drop_eq_nil_iff.mp hA;have hi' : ¬(i:Int)<(A.length:Int):=by omega
     refine⟨.v (oi here),.v (.int (i:Int)),.v (.int (j:Int)),x8,x9,x10,?_⟩;have tt:(zL (zD ltD (zG 6) (callB lenD (zB (zG 2) zW)))) [R0,R1,.v (.lst (A.map rwD)),.v (.lst (B.map rwD)),.own (acc.map r4D),.v (oi here),.v (.int (i:Int)),.v (.int (j:Int)),x8,x9,x10]=some false:=by simp[hi]
     rw[xK,gU,tt];simp
   | cons a as =>
     rw[hA] at hB hm;rcases hB with⟨h,_⟩ | ⟨ha,hb⟩
     . cases h
     . cases hBd : B.drop j with
       |nil=>rw[hBd] at hb;exact hb.elim
       | cons b bs =>
         rw[hBd] at hb hm;cases m with
         |zero=>simp at hm
         | succ m =>
           obtain⟨ga,da,hi⟩:=oX hA;obtain⟨gb,db,hj⟩:=oX hBd;have i1:=BA ga;have i2:=BA gb;have two:=BS a b as bs;have bst:=kB ha hb;have ee:=XJ a.2.1 b.2.1;simp only[aN] at hm;have pf:qY (m+1) here (a::as) (b::bs)=(here,qQ a.2.1 b.2.1,a.2.2,b.2.2)::qY m (qQ a.2.1 b.2.1) (stp (qQ a.2.1 b.2.1) (a::as)) (stp (qQ a.2.1 b.2.1) (b::bs)):=by rw[qY]
           rw[pf];generalize qQ a.2.1 b.2.1=e at *;have z:acc.length<16777216:=by omega
           have e0:D.tup [oi here,oi e,oi a.2.2,oi b.2.2]=r4D (here,e,a.2.2,b.2.2):=rfl
           obtain⟨i',hi',ei⟩:∃i':Nat,A.drop i'=stp e (a::as)/\∀(P Q:List Sl) (x:Sl),P.length=6->(ifG (zL (zD eqD (zD ixD (zG 8) (zA (.int 1))) (zG 10))) (augA 6 (zA (.int 1))) qL) (P++[.v (.int (i:Int)),x,.v (rwD a),.v (rwD b),.v (oi e)])=some (.nx (P++[.v (.int (i':Int)),x,.v (rwD a),.v (rwD b),.v (oi e)])):=by
            by_cases h:a.2.1=e
            . refine ⟨i + 1, by rw [jB, if_pos h, da], fun P Q x hP => ?_⟩
              match P,hP with
              |[p0,p1,p2,p3,p4,p5],_=>simp[h,augA]
            . refine ⟨i, by rw [jB, if_neg h, hA], fun P Q x hP => ?_⟩
              match P,hP with
              |[p0,p1,p2,p3,p4,p5],_=>simp[h]
           obtain⟨j',hj',ej⟩:∃j':Nat,B.drop j'=stp e (b::bs)/\∀(P Q:List Sl),P.length=7->(ifG (zL (zD eqD (zD ixD (zG 9) (zA (.int 1))) (zG 10))) (augA 7 (zA (.int 1))) qL) (P++[.v (.int (j:Int)),.v (rwD a),.v (rwD b),.v (oi e)])=some (.nx (P++[.v (.int (j':Int)),.v (rwD a),.v (rwD b),.v (oi e)])):=by
            by_cases h:b.2.1=e
            . refine ⟨j + 1, by rw [jB, if_pos h, db], fun P Q hP => ?_⟩
              match P,hP with
              |[p0,p1,p2,p3,p4,p5,p6],_=>simp[h,augA]
            . refine ⟨j, by rw [jB, if_neg h, hBd], fun P Q hP => ?_⟩
              match P,hP with
              |[p0,p1,p2,p3,p4,p5,p6],_=>simp[h]
           have ei':=ei [R0,R1,.v (.lst (A.map rwD)),.v (.lst (B.map rwD)),.own ((acc++[(here,e,a.2.2,b.2.2)]).map r4D),.v (oi here)] [] (.v (.int (j:Int))) rfl;have ej':=ej [R0,R1,.v (.lst (A.map rwD)),.v (.lst (B.map rwD)),.own ((acc++[(here,e,a.2.2,b.2.2)]).map r4D),.v (oi here),.v (.int (i':Int))] [] rfl;simp only[gM,dF] at ei' ej'
           have turn:kS [R0,R1,.v (.lst (A.map rwD)),.v (.lst (B.map rwD)),.own (acc.map r4D),.v (oi here),.v (.int (i:Int)),.v (.int (j:Int)),x8,x9,x10]=some (.nx [R0,R1,.v (.lst (A.map rwD)),.v (.lst (B.map rwD)),.own ((acc++[(here,e,a.2.2,b.2.2)]).map r4D),.v (oi e),.v (.int (i':Int)),.v (.int (j':Int)),.v (rwD a),.v (rwD b),.v (oi e)]):=by
            unfold kS
            rw[zN (ds':=[R0,R1,.v (.lst (A.map rwD)),.v (.lst (B.map rwD)),.own (acc.map r4D),.v (oi here),.v (.int (i:Int)),.v (.int (j:Int)),.v (rwD a),x9,x10]) (by simp[i1]),
             zN (ds':=[R0,R1,.v (.lst (A.map rwD)),.v (.lst (B.map rwD)),.own (acc.map r4D),.v (oi here),.v (.int (i:Int)),.v (.int (j:Int)),.v (rwD a),.v (rwD b),x10]) (by simp[i2]),
             zN (ds':=[R0,R1,.v (.lst (A.map rwD)),.v (.lst (B.map rwD)),.own (acc.map r4D),.v (oi here),.v (.int (i:Int)),.v (.int (j:Int)),.v (rwD a),.v (rwD b),.v (oi e)]) (by simp[ee]),
             zN (ds':=[R0,R1,.v (.lst (A.map rwD)),.v (.lst (B.map rwD)),.own ((acc++[(here,e,a.2.2,b.2.2)]).map r4D),.v (oi here),.v (.int (i:Int)),.v (.int (j:Int)),.v (rwD a),.v (rwD b),.v (oi e)]) (by simp[z,e0]),zN ei',zN ej']
            simp
           obtain⟨y5,y6,y7,y8,y9,y10,ih⟩:=rQ R0 R1 A B m i' j' e (acc++[(here,e,a.2.2,b.2.2)]) (.v (rwD a)) (.v (rwD b)) (.v (oi e)) (by rw[hi',hj'];omega) (by rw[hi',hj'];exact bst) (by simp;omega) n (by omega);refine⟨y5,y6,y7,y8,y9,y10,?_⟩;rw[hi',hj',bH] at ih;have hlt:(i:Int)<(A.length:Int):=by omega
           have tt:(zL (zD ltD (zG 6) (callB lenD (zB (zG 2) zW)))) [R0,R1,.v (.lst (A.map rwD)),.v (.lst (B.map rwD)),.own (acc.map r4D),.v (oi here),.v (.int (i:Int)),.v (.int (j:Int)),x8,x9,x10]=some true:=by simp[hi]
           rw[gU,tt];simp only[bF,if_true,turn];exact ih
theorem wU{ps qs:List Rw}(o1:Ord ps)(o2:Ord qs)(h1:ps.length<=10000)(h2:qs.length<=10000):eN [.lst (ps.map rwD),.lst (qs.map rwD)]=some (.fresh ((qY ((zV ps).length+(zV qs).length) none (zV ps) (zV qs)).map r4D)):=by
 have l1:=yQ ps;have l2:=yQ qs;obtain⟨y5,y6,y7,y8,y9,y10,e⟩:=rQ (.v (.lst (ps.map rwD))) (.v (.lst (qs.map rwD))) (zV ps) (zV qs) ((zV ps).length+(zV qs).length) 0 0 none [] .no .no .no (by simp) (.inr ⟨(qX o1).rem,(qX o2).rem⟩) (by simp;omega) 100000 (by omega);have r1:=LJ ps (by omega);have r2:=LJ qs (by omega);simp only[oH,dI,dF,CH,show(((0:Nat):Int))=0 from rfl] at e;have fl:=WS (qY ((zV ps).length+(zV qs).length) none (zV ps) (zV qs));generalize qY ((zV ps).length+(zV qs).length) none (zV ps) (zV qs)=L at *;generalize zV ps=A at *;generalize zV qs=B at *;refine vR ?_;unfold nE
 rw[zN (ds':=[.v (.lst (ps.map rwD)),.v (.lst (qs.map rwD)),.v (.lst (A.map rwD)),.no,.no,.no,.no,.no,.no,.no,.no]) (by simp[args,r1]),
  zN (ds':=[.v (.lst (ps.map rwD)),.v (.lst (qs.map rwD)),.v (.lst (A.map rwD)),.v (.lst (B.map rwD)),.no,.no,.no,.no,.no,.no,.no]) (by simp[r2]),
  zN (ds':=[.v (.lst (ps.map rwD)),.v (.lst (qs.map rwD)),.v (.lst (A.map rwD)),.v (.lst (B.map rwD)),.own [],.no,.no,.no,.no,.no,.no]) (by simp),
  zN (ds':=[.v (.lst (ps.map rwD)),.v (.lst (qs.map rwD)),.v (.lst (A.map rwD)),.v (.lst (B.map rwD)),.own [],.v .non,.no,.no,.no,.no,.no]) (by simp),
  zN (ds':=[.v (.lst (ps.map rwD)),.v (.lst (qs.map rwD)),.v (.lst (A.map rwD)),.v (.lst (B.map rwD)),.own [],.v .non,.v (.int 0),.no,.no,.no,.no]) (by simp),
  zN (ds':=[.v (.lst (ps.map rwD)),.v (.lst (qs.map rwD)),.v (.lst (A.map rwD)),.v (.lst (B.map rwD)),.own [],.v .non,.v (.int 0),.v (.int 0),.no,.no,.no]) (by simp),zN e]
 simp[fl]
theorem yV(s:Spn)(h:okS s):∃p,hasS s p=true/\dA [spD s]=some (.val (.int p)):=by
 obtain⟨a,b⟩:=s;unfold dA runG kM;cases a with
 | some x =>
   refine⟨x,?_,by simp[args]⟩;cases b with
   |none=>simp[hasS]
   |some y=>have:=h x y rfl rfl;simp[hasS,this]
 | none =>
   cases b with
   |some y=>exact⟨y-1,by simp[hasS];omega,by simp[args]⟩
   |none=>exact⟨0,by simp[hasS],by simp[args]⟩
theorem wG{r:Rw}{t:List Rw}(m:MapF (r::t)):MapF t :=
 ⟨⟨fun z hz=>m.ord.ok z (aI _ hz),(bL.mp m.ord.pw).2⟩,fun z hz=>m.val z (aI _ hz),fun i a b h1 h2=>m.adj (i+1) a b (by simpa using h1) (by simpa using h2)⟩
theorem BE(r:Rw)(h:ok3 r):∃p,has3 r p=true:=by
 obtain⟨p,hp,_⟩:=yV (r.1,r.2.1) h;exact⟨p,hp⟩
theorem later{r z:Rw}{t:List Rw}(o:Ord (r::t))(hz:z∈t){p:Int}(hp:has3 z p=true):∃x y,r.2.1=some x/\z.1=some y/\x<=y/\y<=p:=by
 obtain⟨x,y,h1,h2,h3⟩:=(bL.mp o.pw).1 z hz;refine⟨x,y,h1,h2,h3,?_⟩;unfold has3 hasS at hp;simp only[h2,cL,decide_eq_true_eq] at hp;exact hp.1
theorem qS(r:Rw)(p:Int):has3 r p=true↔(∀x,r.1=some x->x<=p)/\∀y,r.2.1=some y->p<y:=by
 obtain⟨a,b,v⟩:=r;unfold has3 hasS;cases a<;>cases b<;>simp
theorem VX{r s:Rw}{t u:List Rw}(m:MapF (r::t))(k:MapF (s::u))(h:∀p v,Tel (r::t) p v->Tel (s::u) p v):∀b,s.1=some b->∃a,r.1=some a/\b<=a:=by
 intro b hb
 obtain⟨v,hv⟩:∃v,r.2.2=some v:=by
  cases hv:r.2.2 with
  |none=>exact(m.val r aF hv).elim
  |some v=>exact⟨v,rfl⟩
 have ge:∀p,has3 r p=true->b<=p:=by
  intro p hp;obtain⟨z,hz,hzp,_⟩:=h p v ⟨r,aF,hp,hv⟩;rcases aH.mp hz with rfl | hz
  . exact((qS _ p).mp hzp).1 b hb
  . obtain⟨x, y, h1, h2, h3, h4⟩ := later k.ord hz hzp;have:=k.ord.ok s aF b x hb h1;omega
 cases ha:r.1 with
 | some a =>
   refine⟨a,rfl,ge a ((qS r a).mpr ⟨fun x e=>by rw[ha] at e;cases e;omega,fun y e=>m.ord.ok r aF a y ha e⟩)⟩
 | none =>
   exfalso;cases hy:r.2.1 with
   | none =>
     have:=ge (b-1) ((qS r _).mpr ⟨(fun x e=>by rw[ha] at e;cases e),fun y e=>by rw[hy] at e;cases e⟩);omega
   | some y =>
     have:=ge (min (b-1) (y-1)) ((qS r _).mpr ⟨(fun x e=>by rw[ha] at e;cases e),fun y' e=>by rw[hy] at e;cases e;omega⟩);omega
theorem XV{r s:Rw}{t u:List Rw}(m:MapF (r::t))(k:MapF (s::u))(h:∀p v,Tel (s::u) p v->Tel (r::t) p v)(hl:r.1=s.1)(hv:r.2.2=s.2.2):∀x,r.2.1=some x->∃y,s.2.1=some y/\y<=x:=by
 intro x hx
 obtain⟨v,hv'⟩:∃v,r.2.2=some v:=by
  cases hv:r.2.2 with
  |none=>exact(m.val r aF hv).elim
  |some v=>exact⟨v,rfl⟩
 have key:has3 s x=true->False:=by
  intro hs;obtain⟨z,hz,hzp,hzv⟩:=h x v ⟨s,aF,hs,by rw[<- hv];exact hv'⟩;rcases aH.mp hz with rfl | hz
  . have := ((qS _ x).mp hzp).2 x hx;omega
  . cases t with
    |nil=>cases hz
    | cons r' t' =>
      obtain⟨x',y,h1,h2,h3,h4⟩:=later m.ord hz hzp;rw[hx] at h1;cases h1
      have hz':z=r':=by
       rcases aH.mp hz with rfl | hz
       . rfl
       . exfalso;obtain⟨x2,y2,k1,k2,k3,k4⟩:=later (wG m).ord hz hzp;obtain⟨x3,y3,j1,j2,j3⟩:=(bL.mp m.ord.pw).1 r' aF;rw[hx] at j1;cases j1;have:=(wG m).ord.ok r' aF y3 x2 j2 k1;omega
      subst hz';have:y=x:=by omega
      subst this;exact m.adj 0 r z rfl rfl ⟨by rw[hx,h2],by rw[hv',hzv]⟩
 have lowx:∀a,s.1=some a->a<=x:=by
  intro a ha;have:=m.ord.ok r aF a x (by show r.1=some a;rw[hl,ha]) hx;omega
 cases hy:s.2.1 with
 |none=>exact(key ((qS s x).mpr ⟨lowx,fun y e=>by rw[hy] at e;cases e⟩)).elim
 | some y =>
   refine⟨y,rfl,?_⟩;rcases Int.lt_or_le x y with hlt | hle
   . exact(key ((qS s x).mpr ⟨lowx,fun y' e=>by rw[hy] at e;cases e;exact hlt⟩)).elim
   . exact hle
theorem ML:∀{ps qs:List Rw},MapF ps->MapF qs->(∀p v,Tel ps p v↔Tel qs p v)->ps=qs
 |[],[],_,_,_=>rfl
 | [], s :: u, _, k, h => by
   obtain⟨p,hp⟩:=BE s (k.ord.ok s aF);cases hv:s.2.2 with
   |none=>exact(k.val s aF hv).elim
   | some v =>
     obtain⟨z,hz,_⟩:=(h p v).mpr ⟨s,aF,hp,hv⟩;cases hz
 | s :: u, [], k, _, h => by
   obtain⟨p,hp⟩:=BE s (k.ord.ok s aF);cases hv:s.2.2 with
   |none=>exact(k.val s aF hv).elim
   | some v =>
     obtain⟨z,hz,_⟩:=(h p v).mp ⟨s,aF,hp,hv⟩;cases hz
 | r :: t, s :: u, m, k, h => by
   have l1:=VX m k fun p v=>(h p v).mp;have l2:=VX k m fun p v=>(h p v).mpr
   have hl:r.1=s.1:=by
    cases h1:r.1 with
    | none =>
      cases h2:s.1 with
      |none=>rfl
      |some b=>obtain⟨a,ha,_⟩:=l1 b h2;rw[h1] at ha;cases ha
    | some a =>
      obtain⟨b,hb,hab⟩:=l2 a h1;obtain⟨a',ha',hba⟩:=l1 b hb;rw[h1] at ha';cases ha';rw[hb];congr 1;omega
   have hv:r.2.2=s.2.2:=by
    obtain⟨p,hp1,hp2⟩:∃p,has3 r p=true/\has3 s p=true:=by
     have okr:=m.ord.ok r aF;have oks:=k.ord.ok s aF;cases h1:r.1 with
     | some a =>
       have h2:s.1=some a:=by rw[<- hl,h1]
       exact⟨a,(qS r a).mpr ⟨fun x e=>by rw[h1] at e;cases e;omega,fun y e=>okr a y h1 e⟩,(qS s a).mpr ⟨fun x e=>by rw[h2] at e;cases e;omega,fun y e=>oks a y h2 e⟩⟩
     | none =>
       have h2:s.1=none:=by rw[<- hl,h1]
       have lowp:∃p:Int,(∀y,r.2.1=some y->p<y)/\∀y,s.2.1=some y->p<y:=by
        cases r.2.1 with
        | none =>
          cases s.2.1 with
          |none=>exact⟨0,(fun _ e=>nomatch e),(fun _ e=>nomatch e)⟩
          |some y=>exact⟨y-1,(fun _ e=>nomatch e),fun z e=>by cases e;omega⟩
        | some x =>
          cases s.2.1 with
          |none=>exact⟨x-1,fun z e=>by cases e;omega,(fun _ e=>nomatch e)⟩
          |some y=>exact⟨min x y-1,fun z e=>by cases e;omega,fun z e=>by cases e;omega⟩
       obtain⟨p,q1,q2⟩:=lowp;exact⟨p,(qS r p).mpr ⟨(fun x e=>by rw[h1] at e;cases e),q1⟩,(qS s p).mpr ⟨(fun x e=>by rw[h2] at e;cases e),q2⟩⟩
    cases hv:r.2.2 with
    |none=>exact(m.val r aF hv).elim
    | some v =>
      obtain⟨z,hz,hzp,hzv⟩:=(h p v).mp ⟨r,aF,hp1,hv⟩;rcases aH.mp hz with rfl | hz
      . exact hzv.symm
      . exfalso;obtain⟨x,y,e1,e2,e3,e4⟩:=later k.ord hz hzp;have:=((qS s p).mp hp2).2 x e1;omega
   have b1:=XV m k (fun p v=>(h p v).mpr) hl hv;have b2:=XV k m (fun p v=>(h p v).mp) hl.symm hv.symm
   have hb:r.2.1=s.2.1:=by
    cases h1:r.2.1 with
    | none =>
      cases h2:s.2.1 with
      |none=>rfl
      |some y=>obtain⟨x,hx,_⟩:=b2 y h2;rw[h1] at hx;cases hx
    | some x =>
      obtain⟨y,hy,hyx⟩:=b1 x h1;obtain⟨x',hx',hxy⟩:=b2 y hy;rw[h1] at hx';cases hx';rw[hy];congr 1;omega
   have hrs:r=s:=by
    obtain⟨a,b,c⟩:=r;obtain⟨a',b',c'⟩:=s;simp only at hl hb hv;rw[hl,hb,hv]
   subst hrs
   have tl:∀{t':List Rw},MapF (r::t')->∀p v,Tel t' p v↔Tel (r::t') p v/\¬has3 r p=true:=by
    intro t' m' p v;constructor
    . rintro⟨z, hz, hzp, hzv⟩;refine⟨⟨z,aI _ hz,hzp,hzv⟩,fun hr=>?_⟩;obtain⟨x,y,e1,e2,e3,e4⟩:=later m'.ord hz hzp;have:=((qS r p).mp hr).2 x e1;omega
    . rintro ⟨⟨z, hz, hzp, hzv⟩, hr⟩;rcases aH.mp hz with rfl | hz
      . exact(hr hzp).elim
      . exact⟨z,hz,hzp,hzv⟩
   rw[ML (wG m) (wG k) fun p v=>by rw[tl m,tl k,h]]
open Builtin.Int (intBits)
structure DrawM(rows:List Rw)(s:Int):Prop where
 map:MapF rows
 fin:∀r∈rows,∃lo bh,r.1=some lo/\r.2.1=some bh/\bh<=s
 last:∀r,rows.getLast?=some r->r.2.1=some s
theorem DrawM.nil(s:Int):DrawM [] s:=⟨MapF.nil,(fun _ h=>nomatch h),fun r h=>by simp at h⟩
theorem DrawM.snoc{rows:List Rw}{s lo bh v:Int}(h:DrawM rows s)(h1:s<=lo)(h2:lo<bh)(h3:∀r,rows.getLast?=some r->lo=s->r.2.2≠some v):DrawM (rows++[(some lo,some bh,some v)]) bh:=by
 have d:pD rows s:=⟨h.map.ord,h.fin⟩
 have d2:=d.snoc (v:=some v) h1 h2;refine⟨⟨d2.ord,fun r hr=>?_,fun i a b e1 e2=>?_⟩,d2.fin,fun r hr=>?_⟩
 . rcases bI.mp hr with hr | hr
   . exact h.map.val r hr
   . have : r = (some lo, some bh, some v) := by simpa using hr
     subst this;simp
 . by_cases hi : i + 1 < rows.length
   . rw[bK (by omega)] at e1;rw[bK hi] at e2;exact h.map.adj i a b e1 e2
   . have l2 := (aV.mp e2).1;simp only [cV,aN,gY] at l2;have hi2:i+1=rows.length:=by omega
     rw[bK (by omega)] at e1;rw[cJ (by omega),hi2] at e2;simp at e2;subst e2
     have hl:rows.getLast?=some a:=by
      rw[List.getLast?_eq_getElem?,<- e1];congr 1;omega
     have:=h.last a hl;rintro⟨q1,q2⟩;rw[this] at q1;simp at q1;exact h3 a hl q1.symm q2
 . simp at hr;subst hr;rfl
theorem last_rw{rows:List Rw}{r:Rw}(h:rows.getLast?=some r):ixD (.lst (rows.map rwD)) (.int (-1))=some (rwD r):=by
 obtain⟨l,rfl⟩:∃l,rows=l++[r]:=by
  have hne:rows≠[]:=by intro z;subst z;simp at h
  refine⟨rows.dropLast,?_⟩;rw[List.getLast?_eq_some_getLast hne] at h;cases h;exact(List.dropLast_concat_getLast hne).symm
 rw[kY,bO,dI];exact tL _ _
theorem PN{r:Rw}{t:List Rw}(m:MapF (r::t)):MapF ((none,r.2)::t):=by
 refine⟨AU m.ord,fun z hz=>?_,fun i a b e1 e2=>?_⟩
 . rcases aH.mp hz with rfl | hz
   . exact m.val r aF
   . exact m.val z (aI _ hz)
 . cases i with
   | zero =>
     simp at e1;subst e1;exact m.adj 0 r b rfl (by simpa using e2)
   |succ i=>exact m.adj (i+1) a b (by simpa using e1) (by simpa using e2)
theorem VU{r:Rw}{t:List Rw}(m:MapF (t++[r])):MapF (t++[(r.1,none,r.2.2)]):=by
 refine⟨EX m.ord,fun z hz=>?_,fun i a b e1 e2=>?_⟩
 . rcases bI.mp hz with hz | hz
   . exact m.val z (bZ _ hz)
   . have : z = (r.1, none, r.2.2) := by simpa using hz
     subst this;exact m.val r (by simp)
 . have l2 := (aV.mp e2).1;simp only [cV,aN,gY] at l2;rw [bK (by omega)] at e1
   by_cases hi:i+1<t.length
   . rw[bK hi] at e2;exact m.adj i a b (by rw[bK (by omega)];exact e1) (by rw[bK hi];exact e2)
   . have hi2 : i + 1 = t.length := by omega
     rw[cJ (by omega),hi2] at e2;simp at e2;subst e2;exact m.adj i a r (by rw[bK (by omega)];exact e1) (by rw[cJ (by omega),hi2];simp)
@[simp] theorem notD_rw(r:Rw):notD (rwD r) .non=some (.bl true):=rfl
end FL
section
open FL
noncomputable def AP.pcB(c1 c2 c3 m1:Int):FS:=(qC (jQ 5 (zD ixD (zG 0) (zG 4)))
 (qC (jQ 6 (zD jI (zD xH (zD xH (zD yX (zG 5) (zA (.int c1))) (zD yX (zD yX (zG 4) (zG 4)) (zA (.int c2)))) (zA (.int c3))) (zA (.int m1))))
 (qC (jQ 6 (zD jI (zD yX (zG 6) (zG 6)) (zA (.int 2147483563))))
 (qC (jQ 2 (zD xH (zG 2) (zD ixD (mkL (zZ (zB (zA (.int 0)) (zB (zA (.int 0)) (zB (zA (.int 0)) (zB (zA (.int 1)) (zB (zD xH (zA (.int 2)) (zD jI (zD qU (zG 6) (zA (.int 6))) (zA (.int 5)))) (zB (zD xH (zA (.int 1)) (zD jI (zG 5) (zD powD (zA (.int 10)) (zA (.int 40))))) zW)))))))) (zD jI (zG 6) (zA (.int 6))))))
 (qC (jQ 7 (qR 2))
 (qC (jQ 2 (zD xH (zD xH (zG 2) (zA (.int 1))) (zD ixD (mkL (zZ (zB (zD jI (zD qU (zG 6) (zA (.int 30))) (zA (.int 4))) (zB (zD jI (zD yX (zG 5) (zA (.int 69621))) (zD powD (zA (.int 10)) (zA (.int 40)))) zW)))) (zD qU (zD jI (zD qU (zG 6) (zA (.int 120))) (zA (.int 3))) (zA (.int 2))))))
 (qC (jQ 8 (zD subD (zD jI (zD qU (zG 6) (zA (.int 360))) (zA (.int 5))) (zA (.int 2))))
 (qC (ifG (zL (zD eqD (zD jI (zD qU (zG 6) (zA (.int 1800))) (zA (.int 4))) (zA (.int 3)))) (jQ 8 (zD ixD (mkL (zZ (zB (zD subD (zD jI (zG 5) (zD xH (zD yX (zA (.int 2)) (zD powD (zA (.int 10)) (zA (.int 60)))) (zA (.int 1)))) (zD powD (zA (.int 10)) (zA (.int 60)))) (zB (qI 1 fG (zB (zG 5) zW)) zW)))) (zD jI (zD qU (zG 6) (zA (.int 7200))) (zA (.int 2))))) qL)
 (qC (ifG (andT (zL (zD neD (zG 3) (mkL (zZ zW)))) (andT (zL (zD eqD (zD ixD (zD ixD (zG 3) (un1 negD (zA (.int 1)))) (zA (.int 1))) (zG 7))) (zL (zD eqD (zD ixD (zD ixD (zG 3) (un1 negD (zA (.int 1)))) (zA (.int 2))) (zG 8))))) (jQ 8 (zD xH (zG 8) (zA (.int 1)))) qL)
 (appG 3 (mkT (zZ (zB (qR 7) (zB (qR 2) (zB (qR 8) zW)))))))))))))))
noncomputable def AP.pcG(c1 c2 c3 m1:Int):FS:=(qC (jQ 2 (zD ixD (mkL (zZ (zB (zD subD (zD jI (zD qU (zG 1) (zA (.int 12))) (zA (.int 41))) (zA (.int 20))) (zB (zD subD (zD jI (zD qU (zG 1) (zA (.int 12))) (zD xH (zD yX (zA (.int 2)) (zD powD (zA (.int 10)) (zA (.int 60)))) (zA (.int 1)))) (zD powD (zA (.int 10)) (zA (.int 60)))) (zB (qI 1 fG (zB (zD qU (zG 1) (zA (.int 12))) zW)) zW))))) (zD jI (zD qU (zG 1) (zA (.int 4))) (zA (.int 3)))))
 (qC (setOG 3 (zZ zW))
 (qC (forG (rng1 (callB lenD (zB (zG 0) zW))) (zQ 4) (AP.pcB c1 c2 c3 m1))
 (qC (ifG (andT (zL (zD neD (zG 3) (mkL (zZ zW)))) (zL (zD eqD (zD jI (zG 1) (zA (.int 2))) (zA (.int 1))))) (putG 3 (zA (.int 0)) (mkT (zZ (zB (zA .non) (zB (zD ixD (zD ixD (zG 3) (zA (.int 0))) (zA (.int 1))) (zB (zD ixD (zD ixD (zG 3) (zA (.int 0))) (zA (.int 2))) zW)))))) qL)
 (qC (ifG (andT (zL (zD neD (zG 3) (mkL (zZ zW)))) (zL (zD eqD (zD jI (zD qU (zG 1) (zA (.int 2))) (zA (.int 2))) (zA (.int 1))))) (putG 3 (un1 negD (zA (.int 1))) (mkT (zZ (zB (zD ixD (zD ixD (zG 3) (un1 negD (zA (.int 1)))) (zA (.int 0))) (zB (zA .non) (zB (zD ixD (zD ixD (zG 3) (un1 negD (zA (.int 1)))) (zA (.int 2))) zW)))))) qL)
 (retXG 3))))))
noncomputable def AP.pcF(c1 c2 c3 m1:Int):List D->Option Ret:=runG (AP.pcG c1 c2 c3 m1) 9
end
namespace FL
open Builtin.Int (intBits)
structure PcOk(c1 c2 c3 m1:Int):Prop where
 m0:0<m1
 m:m1<2 ^ 40
 c1:c1.natAbs<2 ^ 40
 c2:c2.natAbs<2 ^ 40
theorem FW(c:Int):∃v,fG [.int c]=some (.val (.int v)):=by
 have p1:powD (.int 10) (.int 60)=some (.int (10 ^ 60)):=pow10 (by decide) (by decide);have p2:=LU;have m1:yX (.int 2) (.int ((10 ^ 60) ^ 8))=some (.int (2*(10 ^ 60) ^ 8)):=yE (.of_left (jC (by decide)));have r1:jI (.int c) (.int (2*(10 ^ 60) ^ 8+1))=some (.int (c%(2*(10 ^ 60) ^ 8+1))):=jN c (by decide);unfold fG runG oZ;refine⟨c%(2*(10 ^ 60) ^ 8+1)-(10 ^ 60) ^ 8,?_⟩;simp[-Int.reducePow,-Nat.reducePow,args,p1,p2,m1,r1]
theorem six_ex{a b q:Int}(ha:0<=a)(hb:0<=b)(hq:0<=q):∃g:Int,0<=g/\ixD (.lst [.int 0,.int 0,.int 0,.int 1,.int a,.int b]) (.int (q%6))=some (.int g):=by
 have h:=lD q (show(6:Int)≠0 by decide);have h2:=pZ q (show(0:Int)<6 by decide);generalize q%6=r at *;rw[yJ _ h (by simp;omega)];rcases(by omega:r=0\/r=1\/r=2\/r=3\/r=4\/r=5) with e | e | e | e | e | e<;>subst e
 . exact⟨0,by decide,rfl⟩
 . exact⟨0,by decide,rfl⟩
 . exact⟨0,by decide,rfl⟩
 . exact⟨1,by decide,rfl⟩
 . exact⟨a,ha,rfl⟩
 . exact⟨b,hb,rfl⟩
theorem TF(a b:Int){r:Int}(h0:0<=r)(h1:r<=1):∃g:Int,(g=a\/g=b)/\ixD (.lst [.int a,.int b]) (.int r)=some (.int g):=by
 rcases(by omega:r=0\/r=1) with e | e<;>subst e
 . exact⟨a,.inl rfl,by simp⟩
 . exact⟨b,.inr rfl,by simp⟩
theorem pc_turn{c1 c2 c3 m1:Int}(P:PcOk c1 c2 c3 m1)(cs:List Int)(Hd:Sl)(k:Nat)(hk:k<cs.length)(hk2:cs.length<=1000)(hc:∀c∈cs,intBits c<=1048576)(rows:List Rw)(s:Int)(hz:rows.length<16777216)(d:DrawM rows s)(x5 x6 x7 x8:Sl) :
  ∃(lo bh v:Int) (y5 y6:Sl),DrawM (rows++[(some lo,some bh,some v)]) bh ∧
  AP.pcB c1 c2 c3 m1 [.v (.lst (cs.map D.int)),Hd,.v (.int s),.own (rows.map rwD),.v (.int (k:Int)),x5,x6,x7,x8] =
   some (.nx [.v (.lst (cs.map D.int)),Hd,.v (.int bh),.own ((rows++[(some lo,some bh,some v)]).map rwD),.v (.int (k:Int)),y5,y6,.v (.int lo),.v (.int v)]):=by
 have i1:=MP cs (k:=(k:Int)) (by omega) (by omega)
 have hcm:cel cs (k:Int).toNat∈cs:=by
  have:(k:Int).toNat=k:=by omega
  rw[this];unfold cel;rw[gI,aK hk];exact iU hk
 have hcb:=hc _ hcm;generalize cel cs (k:Int).toNat=c at *;have p1:powD (.int 10) (.int 60)=some (.int (10 ^ 60)):=pow10 (by decide) (by decide);have p2:powD (.int 10) (.int 40)=some (.int (10 ^ 40)):=pow10 (by decide) (by decide)
 have kb:intBits (k:Int)<=40:=by
  have h:(2:Nat) ^ 40=1099511627776:=by decide
  refine jC ?_;rw[h];omega
 have k2:((k:Int)*(k:Int)).natAbs<2 ^ 40:=by
  rw[Int.natAbs_mul,Int.natAbs_natCast];have h:(2:Nat) ^ 40=1099511627776:=by decide
  rw[h];exact Nat.lt_of_le_of_lt (Nat.mul_le_mul (show k<=1000 by omega) (show k<=1000 by omega)) (by decide)
 have a1:yX (.int c) (.int c1)=some (.int (c*c1)):=yE (mY hcb (jC P.c1) (by decide));have a2:yX (.int (k:Int)) (.int (k:Int))=some (.int ((k:Int)*(k:Int))):=yE (mY kb kb (by decide));have a3:yX (.int ((k:Int)*(k:Int))) (.int c2)=some (.int ((k:Int)*(k:Int)*c2)):=yE (mY (jC k2) (jC P.c2) (by decide));have a4:yX (.int c) (.int 69621)=some (.int (c*69621)):=yE (mY hcb (jC (m:=40) (by decide)) (by decide));have a5:yX (.int 2) (.int (10 ^ 60))=some (.int (2*10 ^ 60)):=yE (.of_left (jC (by decide)));generalize hX:c*c1+(k:Int)*(k:Int)*c2+c3=X;have q0a:=lD X (show m1≠0 by have:=P.m0;omega);have q0b:=pZ X P.m0;have r0:jI (.int X) (.int m1)=some (.int (X%m1)):=jN X P.m0;generalize X%m1=q0 at *
 have q0n:q0.natAbs<2 ^ 40:=by
  have h:(2:Int) ^ 40=1099511627776:=by decide
  have h':(2:Nat) ^ 40=1099511627776:=by decide
  have:=P.m;rw[h] at this;rw[h'];omega
 have a6:yX (.int q0) (.int q0)=some (.int (q0*q0)):=yE (mY (jC q0n) (jC q0n) (by decide));have r1:jI (.int (q0*q0)) (.int 2147483563)=some (.int (q0*q0%2147483563)):=jN _ (by decide);have qa:=lD (q0*q0) (show(2147483563:Int)≠0 by decide);generalize q0*q0%2147483563=q at *;have r2:∀x,jI (.int x) (.int (10 ^ 40))=some (.int (x%10 ^ 40)):=fun x=>jN x (by decide);have r3:∀x,jI (.int x) (.int (2*10 ^ 60+1))=some (.int (x%(2*10 ^ 60+1))):=fun x=>jN x (by decide);have n40:∀x:Int,0<=x%10 ^ 40:=fun x=>lD x (by decide);obtain⟨g,hg,eg⟩:=six_ex (a:=2+q/6%5) (b:=1+c%10 ^ 40) (q:=q) (by omega) (by have:=n40 c;omega) qa;obtain⟨w,hw0,ew⟩:=TF (q/30%4) (c*69621%10 ^ 40) (r:=q/120%3/2) (by omega) (by omega)
 have hw:0<=w:=by
  have:=n40 (c*69621);rcases hw0 with e | e<;>omega
 obtain⟨gr,hgr⟩:=FW c;obtain⟨v2,_,ev⟩:=TF (c%(2*10 ^ 60+1)-10 ^ 60) gr (r:=q/7200%2) (by omega) (by omega);obtain⟨v,hv⟩:∃v:Int,v=if q/1800%4=3 then v2 else q/360%5-2:=⟨_,rfl⟩
 unfold AP.pcB;cases hr:rows.getLast? with
 | none =>
   have hz:rows=[]:=List.getLast?_eq_none_iff.mp hr;subst hz;have ne0:neD (.lst []) (.lst [])=some (.bl false):=yM [];refine⟨s+g,s+g+1+w,v,.v (.int c),.v (.int q),d.snoc (by omega) (by omega) (fun r h=>by simp at h),?_⟩
   by_cases h3:q/1800%4=3
   . rw[if_pos h3] at hv;subst hv;simp[-Int.reducePow,-Nat.reducePow,i1,p1,p2,a1,a2,a3,a4,a5,a6,hX,r0,r1,r2,r3,eg,ew,hgr,ev,h3,ne0,rwD]
   . rw[if_neg h3] at hv;subst hv;simp[-Int.reducePow,-Nat.reducePow,i1,p1,p2,a1,a2,a3,a4,a5,a6,hX,r0,r1,r2,r3,eg,ew,hgr,ev,h3,ne0,rwD]
 | some r =>
   have hne:rows.isEmpty=false:=by
    cases rows with
    |nil=>simp at hr
    |cons _ _=>rfl
   have ne0:=yM rows;rw[hne] at ne0;have lr:=last_rw hr;have hls:=d.last r hr
   obtain⟨u,hu⟩:∃u,r.2.2=some u:=by
    cases hv:r.2.2 with
    |none=>exact(d.map.val r (List.mem_of_getLast? hr) hv).elim
    |some u=>exact⟨u,rfl⟩
   obtain⟨ra,rb,rc⟩:=r;simp only at hu hls;subst hu hls;have app:∀x:Int,rows.map rwD++[D.tup [.int (s+g),.int (s+g+1+w),.int x]]=(rows++[(some (s+g),some (s+g+1+w),some x)]).map rwD:=fun x=>by simp[rwD]
   have step:∀(v0:Int) (x:Sl),(qC (ifG (andT (zL (zD neD (zG 3) (mkL (zZ zW)))) (andT (zL (zD eqD (zD ixD (zD ixD (zG 3) (un1 negD (zA (.int 1)))) (zA (.int 1))) (zG 7))) (zL (zD eqD (zD ixD (zD ixD (zG 3) (un1 negD (zA (.int 1)))) (zA (.int 2))) (zG 8))))) (jQ 8 (zD xH (zG 8) (zA (.int 1)))) qL)
     (appG 3 (mkT (zZ (zB (qR 7) (zB (qR 2) (zB (qR 8) zW))))))) [.v (.lst (cs.map D.int)),Hd,.v (.int (s+g+1+w)),.own (rows.map rwD),.v (.int (k:Int)),.v (.int c),.v (.int q),.v (.int (s+g)),.v (.int v0)] =
     some (.nx [.v (.lst (cs.map D.int)),Hd,.v (.int (s+g+1+w)),.own ((rows++[(some (s+g),some (s+g+1+w),some (if s=s+g/\u=v0 then v0+1 else v0))]).map rwD),.v (.int (k:Int)),.v (.int c),.v (.int q),.v (.int (s+g)),.v (.int (if s=s+g/\u=v0 then v0+1 else v0))]):=by
    intro v0 x;rw[<- app];generalize hG:rows.map rwD=R at *;have hl:R.length<16777216:=by rw[<- hG];simpa using hz
    by_cases h1:s=s+g
    . by_cases h2 : u = v0
      . rw[if_pos ⟨h1, h2⟩];simp[ne0,lr,<- h1,h2,hl]
      . rw[if_neg (fun z => h2 z.2)];simp[ne0,lr,<- h1,h2,hl]
    . rw[if_neg (fun z => h1 z.1)];simp[ne0,lr,h1,hl]
   have dm:DrawM (rows++[(some (s+g),some (s+g+1+w),some (if s=s+g/\u=v then v+1 else v))]) (s+g+1+w):=by
    refine d.snoc (by omega) (by omega) fun r' h' he=>?_;rw[hr] at h';cases h'
    by_cases h2:u=v
    . rw[if_pos ⟨by omega, h2⟩];simp;omega
    . rw[if_neg (fun z => h2 z.2)];simpa using h2
   refine⟨s+g,s+g+1+w,_,.v (.int c),.v (.int q),dm,?_⟩
   by_cases h3:q/1800%4=3
   . rw[if_pos h3] at hv;subst hv;rw[<- step v .no];simp only[LH,LG,WN,MR,MS,DY,NI,FH,VR,EF,GJ,MC,GR,iA,fE,bF,cX,dE,dD,aN,gY,szl,i1,p1,p2,a1,a2,a3,a4,a5,a6,GX,EB,hX,r0,r1,r2,r3,rV,jN,eg,ew,hgr,EJ,ev,h3,NB,WK,decide_true,if_true,Int.reduceLT,Nat.reduceAdd,Nat.reduceLeDiff]
   . rw[if_neg h3] at hv;subst hv;rw[<- step (q/360%5-2) .no];simp only[LH,LG,WN,MR,MS,DY,NI,FH,VR,EF,GJ,MC,GR,iA,fE,bF,cX,dE,dD,aN,gY,szl,i1,p1,p2,a1,a2,a3,a4,a5,a6,GX,EB,hX,r0,r1,r2,r3,rV,jN,eg,ew,hgr,EJ,ev,h3,NB,WK,decide_false,bD,if_false,if_true,VG,Int.reduceLT,Nat.reduceAdd,Nat.reduceLeDiff]
theorem LZ{c1 c2 c3 m1:Int}(P:PcOk c1 c2 c3 m1)(cs:List Int)(Hd:Sl)(hk2:cs.length<=1000)(hc:∀c∈cs,intBits c<=1048576):∀(n k:Nat) (rows:List Rw) (s:Int) (x4 x5 x6 x7 x8:Sl),k+n=cs.length->rows.length=k->DrawM rows s →
  ∃(rows':List Rw) (s':Int) (y4 y5 y6 y7 y8:Sl),DrawM rows' s'/\rows'.length=cs.length ∧
  qW (zQ 4) (AP.pcB c1 c2 c3 m1) ((List.range' k n).map fun(i:Nat)=>D.int (i:Int)) [.v (.lst (cs.map D.int)),Hd,.v (.int s),.own (rows.map rwD),x4,x5,x6,x7,x8]=some (.nx [.v (.lst (cs.map D.int)),Hd,.v (.int s'),.own (rows'.map rwD),y4,y5,y6,y7,y8])
 |0,k,rows,s,x4,x5,x6,x7,x8,h,hl,d=>⟨rows,s,x4,x5,x6,x7,x8,d,by omega,rfl⟩
 | n + 1, k, rows, s, x4, x5, x6, x7, x8, h, hl, d => by
   obtain⟨lo,bh,v,y5,y6,d',turn⟩:=pc_turn P cs Hd k (by omega) hk2 hc rows s (by omega) d x5 x6 x7 x8;obtain⟨rows',s',z4,z5,z6,z7,z8,d2,l2,e⟩:=LZ P cs Hd hk2 hc n (k+1) (rows++[(some lo,some bh,some v)]) bh (.v (.int (k:Int))) y5 y6 (.v (.int lo)) (.v (.int v)) (by omega) (by simp;omega) d';refine⟨rows',s',z4,z5,z6,z7,z8,d2,l2,?_⟩;rw[SE];simp only[bO,qW,zQ,bF,dE,dD,turn];exact e
theorem sZ(n:Nat):iC 0 n=(List.range' 0 n).map fun(i:Nat)=>D.int (i:Int):=by
 unfold iC;simp[List.range_eq_range']
theorem pc_ex{c1 c2 c3 m1:Int}(P:PcOk c1 c2 c3 m1)(cs:List Int)(h:Int)(hl:cs.length<=1000)(hc:∀c∈cs,intBits c<=1048576) :
  ∃ps:List Rw,MapF ps/\ps.length=cs.length/\AP.pcF c1 c2 c3 m1 [.lst (cs.map D.int),.int h]=some (.fresh (ps.map rwD)):=by
 obtain⟨gr,hgr⟩:=FW (h/12);have p1:powD (.int 10) (.int 60)=some (.int (10 ^ 60)):=pow10 (by decide) (by decide);have a5:yX (.int 2) (.int (10 ^ 60))=some (.int (2*10 ^ 60)):=yE (.of_left (jC (by decide)));have r3:∀x,jI (.int x) (.int (2*10 ^ 60+1))=some (.int (x%(2*10 ^ 60+1))):=fun x=>jN x (by decide)
 obtain⟨s,es⟩:∃s:Int,ixD (.lst [.int (h/12%41-20),.int (h/12%(2*10 ^ 60+1)-10 ^ 60),.int gr]) (.int (h/4%3))=some (.int s):=by
  rcases(by omega:h/4%3=0\/h/4%3=1\/h/4%3=2) with e | e | e<;>rw[e]
  . exact⟨_,by simp;rfl⟩
  . exact⟨_,by simp;rfl⟩
  . exact⟨_,by rw[yJ _ (by decide) (by simp)];rfl⟩
 obtain⟨rows,s',y4,y5,y6,y7,y8,d,l,e⟩:=LZ P cs (.v (.int h)) hl hc cs.length 0 [] s .no .no .no .no .no (by omega) rfl (DrawM.nil s);rw[<- sZ] at e;obtain⟨rows1,o1,l1,c1',e1⟩:=open_lo 3 (zL (zD eqD (zD jI (zG 1) (zA (.int 2))) (zA (.int 1)))) [.v (.lst (cs.map D.int)),.v (.int h),.v (.int s'),.own (rows.map rwD),y4,y5,y6,y7,y8] rows (decide (h%2=1)) d.map.ord rfl (by simp)
 have m1':MapF rows1:=by
  rcases c1' with rfl | ⟨r,t,rfl,rfl⟩
  . exact d.map
  . exact PN d.map
 obtain⟨rows2,o2,l2,c2',e2⟩:=open_hi 3 (zL (zD eqD (zD jI (zD qU (zG 1) (zA (.int 2))) (zA (.int 2))) (zA (.int 1)))) [.v (.lst (cs.map D.int)),.v (.int h),.v (.int s'),.own (rows1.map rwD),y4,y5,y6,y7,y8] rows1 (decide (h/2%2=1)) o1 rfl (by simp)
 have m2':MapF rows2:=by
  rcases c2' with rfl | ⟨r,t,rfl,rfl⟩
  . exact m1'
  . exact VU m1'
 refine⟨rows2,m2',by omega,?_⟩;simp only[dE,dD] at e1 e2;have ok:okR (cs.length:Int):=wS (by omega) (by omega);unfold AP.pcF runG AP.pcG
 have st1:jQ 2 (zD ixD (mkL (zZ (zB (zD subD (zD jI (zD qU (zG 1) (zA (.int 12))) (zA (.int 41))) (zA (.int 20))) (zB (zD subD (zD jI (zD qU (zG 1) (zA (.int 12))) (zD xH (zD yX (zA (.int 2)) (zD powD (zA (.int 10)) (zA (.int 60)))) (zA (.int 1)))) (zD powD (zA (.int 10)) (zA (.int 60)))) (zB (qI 1 fG (zB (zD qU (zG 1) (zA (.int 12))) zW)) zW))))) (zD jI (zD qU (zG 1) (zA (.int 4))) (zA (.int 3)))) (args 9 [.lst (cs.map D.int),.int h])=some (.nx [.v (.lst (cs.map D.int)),.v (.int h),.v (.int s),.no,.no,.no,.no,.no,.no]):=by
  simp[-Int.reducePow,-Nat.reducePow,args,p1,a5,r3,hgr,es]
 rw[zN st1,zN (ds':=[.v (.lst (cs.map D.int)),.v (.int h),.v (.int s),.own [],.no,.no,.no,.no,.no]) (by simp),
  zN (ds':=[.v (.lst (cs.map D.int)),.v (.int h),.v (.int s'),.own (rows.map rwD),y4,y5,y6,y7,y8]) (by simp only[dI] at e;simp[ok,e]),zN e1,zN e2]
 have fl:=jY rows2;simp[fl]
theorem DQ(o:Option Int):dP [oi o]=some (.val (.bl o.isSome)):=by
 cases o with
 |some i=>exact vE i
 | none =>
   unfold dP runG mM;simp[args]
@[simp] theorem sltW_eq(f:FE)(lo hi:List Sl->Option (Option Int))(ds:List Sl):sltW f lo hi ds=(f ds).bind fun d=>(lo ds).bind fun a=>(hi ds).bind fun b=>match d with
 | .tup l=>some (.tup (cutD l a b))
 |_=>none:=rfl
theorem cut13(a b c:D):cutD [a,b,c] (some 1) none=[b,c]:=QQ [a,b,c] 1
theorem FM(ps:List Rw)(h:MapF ps)(k:Nat)(hk:k<ps.length)(b c d e:Sl):∃b' c' d' e',kX [.v (.lst (ps.map rwD)),.v (.int (k:Int)),b,c,d,e]=some (.nx [.v (.lst (ps.map rwD)),.v (.int (k:Int)),b',c',d',e']):=by
 have hkm:k-1<ps.length:=by omega
 have i1:ixD (.lst (ps.map rwD)) (.int (k:Int))=some (rwD ps[k]):=BA (aK hk)
 obtain⟨v,hv⟩:∃v,ps[k].2.2=some v:=by
  cases hv:ps[k].2.2 with
  |none=>exact(h.val _ (iU hk) hv).elim
  |some v=>exact⟨v,rfl⟩
 have ok:=h.ord.ok _ (iU hk)
 have hbh:ps[k].2.1=none->¬((k:Int)<(ps.length:Int)-1):=by
  intro hn
  by_cases e:k+1<ps.length
  . obtain⟨x, y, h1, _⟩ := bU.mp h.ord.pw k (k + 1) hk e (by omega);rw[hn] at h1;cases h1
  . omega
 have hlo:ps[k].1=none->k=0:=by
  intro hn
  by_cases e:0<k
  . obtain⟨x, y, _, h1, _⟩ := bU.mp h.ord.pw 0 k (by omega) hk e;rw[hn] at h1;cases h1
  . omega
 have hj:(max ((k:Int)-1) 0)=((k-1:Nat):Int):=by omega
 have i2:ixD (.lst (ps.map rwD)) (.int ((k-1:Nat):Int))=some (rwD (ps[k-1]'hkm)):=BA (aK hkm)
 have adj:0<k->∃x y,(ps[k-1]'hkm).2.1=some x/\ps[k].1=some y/\x<=y/\¬(x=y/\(ps[k-1]'hkm).2.2=ps[k].2.2):=by
  intro hk0;obtain⟨x,y,h1,h2,h3⟩:=bU.mp h.ord.pw (k-1) k hkm hk (by omega);refine⟨x,y,h1,h2,h3,fun z=>?_⟩;exact h.adj (k-1) _ ps[k] (aK hkm) (by rw[show k-1+1=k by omega];exact aK hk) ⟨by rw[h1,h2,z.1],z.2⟩
 generalize hR:ps[k]=r at *;generalize hA:(ps[k-1]'hkm)=a at *;obtain⟨lo,bh,w⟩:=r;obtain⟨alo,abh,aw⟩:=a;simp only at hv hbh hlo adj;subst hv;refine⟨.v (oi lo),.v (oi bh),.v (.int v),.v (rwD (alo,abh,aw)),?_⟩;unfold kX
 have f1:(ifG (orT (notT (testT (isiG "tuple" (zD ixD (zG 0) (zG 1))))) (orT (zL (zD neD (callB lenD (zB (zD ixD (zG 0) (zG 1)) zW)) (zA (.int 3)))) (notT (testT (qI 1 dP (zB (zD ixD (zD ixD (zG 0) (zG 1)) (zA (.int 2))) zW)))))) (retG (zA (.bl false))) qL) [.v (.lst (ps.map rwD)),.v (.int (k:Int)),b,c,d,e]=some (.nx [.v (.lst (ps.map rwD)),.v (.int (k:Int)),b,c,d,e]):=by
  simp[i1,vE]
 have f2:(ifG (andT (notT (testT (qI 1 dP (zB (zG 2) zW)))) (orT (zL (zD notD (zG 2) (zA .non))) (zL (zD gtD (zG 1) (zA (.int 0)))))) (retG (zA (.bl false))) qL) [.v (.lst (ps.map rwD)),.v (.int (k:Int)),.v (oi lo),.v (oi bh),.v (.int v),e]=some (.nx [.v (.lst (ps.map rwD)),.v (.int (k:Int)),.v (oi lo),.v (oi bh),.v (.int v),e]):=by
  have wl:=DQ lo;cases lo with
  | none =>
    have:=hlo rfl;subst this;simp at wl;simp[wl]
  |some x=>simp at wl;simp[wl]
 have f3:(ifG (andT (notT (testT (qI 1 dP (zB (zG 3) zW)))) (orT (zL (zD notD (zG 3) (zA .non))) (zL (zD ltD (zG 1) (zD subD (callB lenD (zB (zG 0) zW)) (zA (.int 1))))))) (retG (zA (.bl false))) qL) [.v (.lst (ps.map rwD)),.v (.int (k:Int)),.v (oi lo),.v (oi bh),.v (.int v),e]=some (.nx [.v (.lst (ps.map rwD)),.v (.int (k:Int)),.v (oi lo),.v (oi bh),.v (.int v),e]):=by
  have wl:=DQ bh;cases bh with
  | none =>
    have:=hbh rfl;simp at wl;simp[wl,this]
  |some x=>simp at wl;simp[wl]
 have f4:(ifG (andT (zL (zD notD (zG 2) (zA .non))) (andT (zL (zD notD (zG 3) (zA .non))) (zL (zD geD (zG 2) (zG 3))))) (retG (zA (.bl false))) qL) [.v (.lst (ps.map rwD)),.v (.int (k:Int)),.v (oi lo),.v (oi bh),.v (.int v),e]=some (.nx [.v (.lst (ps.map rwD)),.v (.int (k:Int)),.v (oi lo),.v (oi bh),.v (.int v),e]):=by
  cases lo with
  |none=>simp
  | some x =>
    cases bh with
    |none=>simp
    | some y =>
      have : ¬y<=x:=by have:=ok x y rfl rfl;omega
      simp[this]
 have f5:(ifG (andT (zL (zD gtD (zG 1) (zA (.int 0)))) (orT (zL (zD gtD (zD ixD (zG 5) (zA (.int 1))) (zG 2))) (zL (zD eqD (sltW (zG 5) (soP (zA (.int 1))) noP) (mkT (zZ (zB (qR 2) (zB (qR 4) zW)))))))) (retG (zA (.bl false))) qL) [.v (.lst (ps.map rwD)),.v (.int (k:Int)),.v (oi lo),.v (oi bh),.v (.int v),.v (rwD (alo,abh,aw))]=some (.nx [.v (.lst (ps.map rwD)),.v (.int (k:Int)),.v (oi lo),.v (oi bh),.v (.int v),.v (rwD (alo,abh,aw))]):=by
  by_cases hk0:0<k
  . obtain ⟨x, y, h1, h2, h3, h4⟩ := adj hk0;subst h1 h2;have g1 : ¬ y < x:=by omega
    have eq:eqD (.tup [.int x,oi aw]) (.tup [.int y,.int v])=some (.bl (decide (x=y/\aw=some v))):=by
     rw[tU (by simp) (by simp)];cases aw<;>simp
    have g2:decide (x=y/\aw=some v)=false:=by simpa using h4
    rw[g2] at eq;simp only[rwD,oi_some];simp[hk0,g1,cut13,eq]
  . simp[hk0]
 rw[zN f1,zN (ds':=[.v (.lst (ps.map rwD)),.v (.int (k:Int)),.v (oi lo),.v (oi bh),.v (.int v),e]) (by simp[i1]),zN f2,zN f3,zN f4,
  zN (ds':=[.v (.lst (ps.map rwD)),.v (.int (k:Int)),.v (oi lo),.v (oi bh),.v (.int v),.v (rwD (alo,abh,aw))]) (by simp[hj,i2]),f5]
theorem QC(ps:List Rw)(h:MapF ps)(hl:ps.length<=10000):iT [.lst (ps.map rwD)]=some (.val (.bl true)):=by
 obtain⟨ds',e1,a',b',c',d',e',rfl⟩:=FD (ga:=zQ 1) (body:=kX) (fun ds=>∃a b c d e,ds=[.v (.lst (ps.map rwD)),a,b,c,d,e]) (iC 0 ps.length) [.v (.lst (ps.map rwD)),.no,.no,.no,.no,.no] ⟨_,_,_,_,_,rfl⟩ (by
  rintro _ hd _ ⟨a,b,c,d,e,rfl⟩;obtain⟨k,hk,rfl⟩:=JE hd;obtain⟨b',c',d',e',ee⟩:=FM ps h k hk b c d e;rw[show(0+(k:Int))=(k:Int) by omega]
  exact⟨_,_,rfl,.inl ee,_,_,_,_,_,rfl⟩)
 have ok:okR (ps.length:Int):=wS (by omega) (by omega);unfold iT runG nK;simp[args,ok,e1]
noncomputable def pcD(p:Spn×List D):D:=.tup (oi p.1.1::oi p.1.2::p.2)
noncomputable def endI:Option Int->List Int
 |none=>[]
 |some e=>[e-1,e]
noncomputable def plS(ss:List Spn):List Int:=ss.flatMap fun s=>endI s.1++endI s.2
theorem cut02(a b:D)(r:List D):cutD (a::b::r) none (some 2)=[a,b]:=by
 unfold cutD HT.sIx;simp
theorem ET(R:Sl)(L:Sl)(acc:List Int)(p:Spn×List D)(hz:acc.length+4<16777216)(x:Sl):∃y,kW [R,.own (acc.map D.int),L,.v (pcD p),x]=some (.nx [R,.own ((acc++(endI p.1.1++endI p.1.2)).map D.int),L,.v (pcD p),y]):=by
 have e1:viaA (sltW (zG 3) noP (soP (zA (.int 2)))) asLT [R,.own (acc.map D.int),L,.v (pcD p),x]=some [oi p.1.1,oi p.1.2]:=by
  simp[pcD,cut02]
 have one:∀(o:Option Int) (acc:List Int) (x:Sl),acc.length+2<16777216->mO [R,.own (acc.map D.int),L,.v (pcD p),.v (oi o)]=some (.nx [R,.own ((acc++endI o).map D.int),L,.v (pcD p),.v (oi o)]):=by
  intro o acc x hz;unfold mO;cases o with
  |none=>simp[endI]
  | some e =>
    have h1:acc.length<16777216:=by omega
    have h2:acc.length+1<16777216:=by omega
    simp[endI,h1,h2]
 unfold kW;refine⟨.v (oi p.1.2),?_⟩;rw[kF,e1,bF];have l1:(endI p.1.1).length<=2:=by cases p.1.1<;>simp[endI]
 have t1:=one p.1.1 acc x (by omega);have t2:=one p.1.2 (acc++endI p.1.1) x (by simp;omega);simp only[qW,zQ,bF,dE,dD];rw[t1];simp only[bF,dE,dD];rw[t2];simp[bH]
theorem pQ(R L:Sl):∀(P:List (Spn×List D)) (acc:List Int) (x y:Sl),acc.length+4*P.length<16777216->∃x' y',qW (zQ 3) kW (P.map pcD) [R,.own (acc.map D.int),L,x,y]=some (.nx [R,.own ((acc++plS (P.map (·.1))).map D.int),L,x',y'])
 |[],acc,x,y,_=>⟨x,y,by simp[qW,plS]⟩
 | p :: P, acc, x, y, h => by
   simp only[aN] at h;have l1:(endI p.1.1).length<=2:=by cases p.1.1<;>simp[endI]
   have l2:(endI p.1.2).length<=2:=by cases p.1.2<;>simp[endI]
   obtain⟨y1,t1⟩:=ET R L acc p (by omega) y;obtain⟨x',y',e⟩:=pQ R L P (acc++(endI p.1.1++endI p.1.2)) (.v (pcD p)) y1 (by simp;omega);refine⟨x',y',?_⟩;simp only[bO,qW,zQ,bF,dE,dD,t1];rw[e];simp[plS,bH]
theorem CD(ss:List Spn):(plS ss).length<=4*ss.length:=by
 induction ss with
 |nil=>simp[plS]
 | cons s ss ih =>
   have l1:(endI s.1).length<=2:=by cases s.1<;>simp[endI]
   have l2:(endI s.2).length<=2:=by cases s.2<;>simp[endI]
   have e:plS (s::ss)=(endI s.1++endI s.2)++plS ss:=by simp[plS]
   rw[e];simp only[cV,aN];omega
theorem pP(R:Sl):∀(Ls:List (List (Spn×List D))) (acc:List Int) (u x y:Sl),acc.length+4*Ls.flatten.length<16777216->∃u' x' y',qW (zQ 2) kU (Ls.map fun L=>.lst (L.map pcD)) [R,.own (acc.map D.int),u,x,y]=some (.nx [R,.own ((acc++plS (Ls.flatten.map (·.1))).map D.int),u',x',y'])
 |[],acc,u,x,y,_=>⟨u,x,y,by simp[qW,plS]⟩
 | L :: Ls, acc, u, x, y, h => by
   simp only[List.flatten_cons,cV] at h;have hl:=CD (L.map (·.1));simp only[cH] at hl;obtain⟨x1,y1,t1⟩:=pQ R (.v (.lst (L.map pcD))) L acc x y (by omega);obtain⟨u',x',y',e⟩:=pP R Ls (acc++plS (L.map (·.1))) (.v (.lst (L.map pcD))) x1 y1 (by simp only[cV];omega);refine⟨u',x',y',?_⟩
   have t2:kU [R,.own (acc.map D.int),.v (.lst (L.map pcD)),x,y]=some (.nx [R,.own ((acc++plS (L.map (·.1))).map D.int),.v (.lst (L.map pcD)),x1,y1]):=by
    unfold kU;rw[kF];simp[t1]
   simp only[bO,qW,zQ,bF,dE,dD,t2];rw[e];simp[plS,bH]
theorem AR(Ls:List (List (Spn×List D)))(h:Ls.flatten.length<=1000):gC [.lst (Ls.map fun L=>.lst (L.map pcD))]=some (.fresh ((srtU (0::plS (Ls.flatten.map (·.1)))).map D.int)):=by
 obtain⟨u',x',y',e⟩:=pP (.v (.lst (Ls.map fun L=>.lst (L.map pcD)))) Ls [0] .no .no .no (by simp only[aN,gY];omega);have hl:=CD (Ls.flatten.map (·.1));have hi:=BD (0::plS (Ls.flatten.map (·.1)));have fl:=JV (srtU (0::plS (Ls.flatten.map (·.1))));simp only[cH] at hl;refine vR ?_;unfold nJ;generalize hG:(Ls.map fun L=>D.lst (L.map pcD))=G at *
 rw[zN (ds':=[.v (.lst G),.own [.int 0],.no,.no,.no]) (by simp[args]),zN (ds':=[.v (.lst G),.own ((0::plS (Ls.flatten.map (·.1))).map D.int),u',x',y']) (by
  rw[kF];simp only[bO,dI] at e
  simp[e])]
 have hz:(0::plS (Ls.flatten.map (·.1))).length+1<4096:=by simp only[aN];omega
 generalize 0::plS (Ls.flatten.map (·.1))=Z at *;simp[srtSA,hi,hz,fl]
noncomputable def valC:FT:=andT (zL (zD ltD (zG 3) (callB lenD (zB (zG 0) zW)))) (andT (zL (zD notD (zD ixD (zD ixD (zG 0) (zG 3)) (zA (.int 1))) (zA .non))) (zL (zD leD (zD ixD (zD ixD (zG 0) (zG 3)) (zA (.int 1))) (zG 4))))
theorem YY(ps:List Rw)(q:Int)(k:Nat)(R O:Sl):valC [.v (.lst (ps.map rwD)),R,O,.v (.int (k:Int)),.v (.int q)]=some (match ps[k]? with | some r=>(match r.2.1 with | some b=>decide (b<=q) | none=>false) | none=>false):=by
 unfold valC
 by_cases hk:k<ps.length
 . have i1 : ixD (.lst (ps.map rwD)) (.int (k : Int)) = some (rwD ps[k]) := BA (aK hk);have hk':(k:Int) < (ps.length:Int):=by omega
   rw[aK hk];generalize ps[k]=r at *;obtain⟨a,b,c⟩:=r;cases b<;>simp[i1,hk]
 . rw[aW (by omega)];simp[hk]
theorem AG(ps:List Rw)(q:Int)(R O:Sl):∀(n k m:Nat),ps.length-k<=n->k<=ps.length->n<m->∃k',k<=k'/\k'<=ps.length/\(∀i r,k<=i->i<k'->ps[i]?=some r->∃b,r.2.1=some b/\b<=q)/\(∀r b,ps[k']?=some r->r.2.1=some b->q<b) ∧
  gU valC iB m [.v (.lst (ps.map rwD)),R,O,.v (.int (k:Int)),.v (.int q)]=some (.nx [.v (.lst (ps.map rwD)),R,O,.v (.int (k':Int)),.v (.int q)])
 |n,k,0,h1,h2,h3=>by omega
 | n, k, m + 1, h1, h2, h3 => by
   have hc:=YY ps q k R O
   by_cases hk:∃r b,ps[k]?=some r/\r.2.1=some b/\b<=q
   . obtain ⟨r, b, e1, e2, e3⟩ := hk;rw [e1] at hc;simp only [e2,e3,decide_true] at hc;have hlt:k < ps.length:=(aV.mp e1).1
     have hb:iB [.v (.lst (ps.map rwD)),R,O,.v (.int (k:Int)),.v (.int q)]=some (.nx [.v (.lst (ps.map rwD)),R,O,.v (.int ((k+1:Nat):Int)),.v (.int q)]):=by
      unfold iB;simp
     obtain⟨k',g1,g2,g3,g4,g5⟩:=AG ps q R O (n-1) (k+1) m (by omega) (by omega) (by omega);refine⟨k',by omega,g2,fun i r' i1 i2 e=>?_,g4,?_⟩
     . by_cases hi : i = k
       . subst hi;rw[e1] at e;cases e;exact⟨b,e2,e3⟩
       . exact g3 i r' (by omega) i2 e
     . rw[gU, hc];simp only[bF,if_true,hb];exact g5
   . refine ⟨k, aO _, h2, fun i r i1 i2 => by omega, fun r b e1 e2 => ?_, ?_⟩
     . have : ¬b<=q := fun z => hk ⟨r, b, e1, e2, z⟩;omega
     . have:(match ps[k]? with | some r=>(match r.2.1 with | some b=>decide (b<=q) | none=>false) | none=>false)=false:=by
        cases e1:ps[k]? with
        |none=>rfl
        | some r =>
          cases e2:r.2.1 with
          |none=>simp[e2]
          | some b =>
            have : ¬b<=q:=fun z=>hk ⟨r,b,e1,e2,z⟩;simp[e2,this]
       rw[gU,hc,this];simp
theorem val_at{ps:List Rw}(o:Ord ps){q:Int}{k:Nat}(h1:∀i r,i<k->ps[i]?=some r->∃b,r.2.1=some b/\b<=q)(h2:∀r b,ps[k]?=some r->r.2.1=some b->q<b) :
  valL ps q=match ps[k]? with | some r=>(match r.1 with | some a=>if a<=q then r.2.2 else none | none=>r.2.2) | none=>none:=by
 rw[xD o]
 have no1:∀i r,i<k->ps[i]?=some r->has3 r q=false:=fun i r hi e=>by
  obtain⟨b,e1,e2⟩:=h1 i r hi e;cases hh:has3 r q with
  |false=>rfl
  |true=>have:=((qO r q).mp hh).2 b e1;omega
 have take:∀r,r∈ps.take k->has3 r q=false:=fun r hr=>by
  obtain⟨i,hi,e⟩:=eM hr;have hik:i<k:=by rw[dS] at hi;omega
  refine no1 i r hik ?_;rw[<- eY hik,aK hi,e]
 have split:ps.find? (fun r=>has3 r q)=(ps.drop k).find? (fun r=>has3 r q):=by
  conv=>lhs;rw[<- eP k ps]
  rw[RF];have:(ps.take k).find? (fun r=>has3 r q)=none:=hJ.mpr fun r hr=>by rw[take r hr];simp
  rw[this];rfl
 rw[split]
 by_cases hk:k<ps.length
 . rw [cE hk, aK hk]
   by_cases hh:has3 ps[k] q=true
   . rw [iI (p := fun r => has3 r q) hh];have:=((qO ps[k] q).mp hh).1;cases ha:ps[k].1 with
     |none=>simp[ha]
     |some a=>have:=this a ha;simp[ha,this]
   . rw [iJ (p := fun r => has3 r q) hh]
     have rest:(ps.drop (k+1)).find? (fun r=>has3 r q)=none:=by
      refine hJ.mpr fun r hr=>?_;obtain⟨i,hi,e⟩:=eM hr;rw[gL] at hi;have e':ps[k+1+i]'(by omega)=r:=by rw[<- e,List.getElem_drop]
      obtain⟨x,y,g1,g2,g3⟩:=bU.mp o.pw k (k+1+i) hk (by omega) (by omega);rw[e'] at g2;have hxq:=h2 ps[k] x (aK hk) g1;intro z;have:=((qO r q).mp z).1 y g2;omega
     rw[rest];cases ha:ps[k].1 with
     | none =>
       exfalso;refine hh ((qO _ q).mpr ⟨(fun a e=>by rw[ha] at e;cases e),(fun b e=>h2 ps[k] b (aK hk) e)⟩)
     | some a =>
       have : ¬a<=q:=fun z=>hh ((qO _ q).mpr ⟨(fun a' e=>by rw[ha] at e;cases e;exact z),(fun b e=>h2 ps[k] b (aK hk) e)⟩);simp[ha,this]
 . rw[DM (by omega), aW (by omega)];rfl
theorem SW{ps:List Rw}(o:Ord ps)(hl:ps.length<=10000)(R:Sl)(acc:List D)(k:Nat)(q:Int)(hz:acc.length<16777216)(hk:k<=ps.length)(h1:∀i r,i<k->ps[i]?=some r->∃b,r.2.1=some b/\b<=q) :
  ∃k',k'<=ps.length/\(∀i r,i<k'->ps[i]?=some r->∃b,r.2.1=some b/\b<=q) ∧
   kT [.v (.lst (ps.map rwD)),R,.own acc,.v (.int (k:Int)),.v (.int q)]=some (.nx [.v (.lst (ps.map rwD)),R,.own (acc++[oi (valL ps q)]),.v (.int (k':Int)),.v (.int q)]):=by
 obtain⟨k',g1,g2,g3,g4,g5⟩:=AG ps q R (.own acc) ps.length k 100000 (by omega) hk (by omega)
 have h1':∀i r,i<k'->ps[i]?=some r->∃b,r.2.1=some b/\b<=q:=fun i r hi e=>by
  by_cases hik:i<k
  . exact h1 i r hik e
  . exact g3 i r (by omega) hi e
 refine⟨k',g2,h1',?_⟩;have hv:=val_at o h1' g4;unfold kT;have g5':gU (andT (zL (zD ltD (zG 3) (callB lenD (zB (zG 0) zW)))) (andT (zL (zD notD (zD ixD (zD ixD (zG 0) (zG 3)) (zA (.int 1))) (zA .non))) (zL (zD leD (zD ixD (zD ixD (zG 0) (zG 3)) (zA (.int 1))) (zG 4))))) iB 100000 [.v (.lst (ps.map rwD)),R,.own acc,.v (.int (k:Int)),.v (.int q)]=some (.nx [.v (.lst (ps.map rwD)),R,.own acc,.v (.int (k':Int)),.v (.int q)]):=g5;rw[zN g5',hv]
 by_cases hk':k'<ps.length
 . have i1 : ixD (.lst (ps.map rwD)) (.int (k' : Int)) = some (rwD ps[k']) := BA (aK hk');rw [aK hk'];generalize ps[k']=r at *;obtain ⟨a,b,c⟩:=r;cases a with
   |none=>simp[i1,hk',hz]
   | some a =>
     by_cases ha:a<=q
     . simp[i1,hk',ha,hz]
     . simp[i1,hk',ha,hz]
 . rw[aW (by omega)];simp[hk',hz]
theorem DS{ps:List Rw}(o:Ord ps)(hl:ps.length<=10000)(R:Sl):∀(qs:List Int) (acc:List D) (k:Nat) (x:Sl),qs.Pairwise (· < ·)->acc.length+qs.length<16777216->k<=ps.length->(∀q∈qs,∀i r,i<k->ps[i]?=some r->∃b,r.2.1=some b/\b<=q) →
  ∃k' x',qW (zQ 4) kT (qs.map D.int) [.v (.lst (ps.map rwD)),R,.own acc,.v (.int (k:Int)),x]=some (.nx [.v (.lst (ps.map rwD)),R,.own (acc++qs.map fun q=>oi (valL ps q)),.v (.int (k':Nat)),x'])
 |[],acc,k,x,_,_,_,_=>⟨k,x,by simp[qW]⟩
 | q :: qs, acc, k, x, hp, hz, hk, h => by
   obtain⟨p1,p2⟩:=bL.mp hp;simp only[aN] at hz;obtain⟨k1,g1,g2,g3⟩:=SW o hl R acc k q (by omega) hk (h q (.head _))
   obtain⟨k',x',e⟩:=DS o hl R qs (acc++[oi (valL ps q)]) k1 (.v (.int q)) p2 (by simp;omega) g1 fun q' hq' i r hi e=>by
    obtain⟨b,e1,e2⟩:=g2 i r hi e;exact⟨b,e1,by have:=p1 q' hq';omega⟩
   refine⟨k',x',?_⟩;simp only[bO,qW,zQ,bF,dE,dD,g3];rw[e];simp
theorem WT(l:List (Option Int)):flats (l.map oi)=true:=by
 induction l with
 |nil=>simp
 |cons a l ih=>simp[ih]
theorem jU{ps:List Rw}(o:Ord ps)(hl:ps.length<=10000)(qs:List Int)(hq:qs.Pairwise (· < ·))(hz:qs.length<=10000):dJ [.lst (ps.map rwD),.lst (qs.map D.int)]=some (.fresh ((qs.map (valL ps)).map oi)):=by
 obtain⟨k',x',e⟩:=DS o hl (.v (.lst (qs.map D.int))) qs [] 0 .no hq (by simp;omega) (bW _) (fun q _ i r hi=>by omega);have fl:=WT (qs.map (valL ps));have em:(qs.map fun q=>oi (valL ps q))=(qs.map (valL ps)).map oi:=by simp
 rw[dF,em] at e;refine vR ?_;unfold nI;generalize (qs.map (valL ps)).map oi=Z at *;generalize ps.map rwD=P at *;generalize qs.map D.int=Q at *;rw[zN (ds':=[.v (.lst P),.v (.lst Q),.own [],.no,.no]) (by simp[args]),zN (ds':=[.v (.lst P),.v (.lst Q),.own [],.v (.int 0),.no]) (by simp),zN (ds':=[.v (.lst P),.v (.lst Q),.own Z,.v (.int (k':Int)),x']) (by rw[kF];simpa using e)];simp[fl]
theorem FU(k:Int):∀l:List Int,(insU k l).length<=l.length+1
 |[]=>by simp[insU]
 | a :: l => by
   have:=FU k l;unfold insU
   split
   . simp
   . split
     . simp
     . simp only[aN];omega
theorem ED:∀ns:List Int,(srtU ns).length<=ns.length
 |[]=>by simp[srtU]
 | k :: ns => by
   have h1:=FU k (srtU ns);have h2:=ED ns;show(insU k (srtU ns)).length<=_;simp only[aN];omega
theorem QS(ns:List Int)(hb:∀c∈ns,intBits c<=1048576)(a b:Nat):∃cs:List Int,cs.length<=ns.length/\cs.length<=b-a/\(∀c∈cs,intBits c<=1048576)/\cutD (ns.map D.int) (some (a:Int)) (some (b:Int))=cs.map D.int:=by
 refine⟨(ns.drop (min a ns.length)).take (min b ns.length-min a ns.length),by simp;omega,by simp;omega,fun c hc=>hb c (oG (oF hc)),?_⟩;have e1:HT.sIx (ns.map D.int).length 0 (some (a:Int))=min a ns.length:=by simp[HT.sIx];omega
 have e2:HT.sIx (ns.map D.int).length (ns.map D.int).length (some (b:Int))=min b ns.length:=by simp[HT.sIx];omega
 unfold cutD;rw[e1,e2,List.map_take,List.map_drop]
theorem MU:∀l m:List (Option Int),eqvs (l.map oi) (m.map oi)=decide (l=m)
 |[],[]=>by simp
 |[],_::_=>by simp
 |_::_,[]=>by simp
 | a :: l, b :: m => by
   rw[bO,bO,BG,MU l m,eqvD_oi,lA];simp
theorem EG(n:Nat)(l:List (Option Int)):shals (n+1) (l.map oi)=true:=AJ fun d hd=>by obtain⟨i,_,rfl⟩:=fL.mp hd;simp
theorem MJ(l m:List (Option Int)):neD (.lst (l.map oi)) (.lst (m.map oi))=some (.bl (!decide (l=m))):=by
 rw[CJ (by simpa using EG 39 l) (by simpa using EG 39 m),xF,MU]
theorem pc_rw(ps:List Rw):(ps.map fun r=>(((r.1,r.2.1):Spn),[oi r.2.2])).map pcD=ps.map rwD:=by
 rw[lM];rfl
noncomputable def plZ(ss:List Spn):List Int:=srtU (0::plS ss)
theorem UQ(ss:List Spn):(plZ ss).Pairwise (· < ·):=srtU_lt _
theorem LV(ss:List Spn):(plZ ss).length<=4*ss.length+1:=by
 have h1:=ED (0::plS ss);have h2:=CD ss;unfold plZ;simp only[aN] at h1;omega
noncomputable def spO(ps:List Rw):List Spn:=ps.map fun r=>(r.1,r.2.1)
theorem DX:∀{rs:List Rw} {x:Int},Til (some x) rs->∀r∈rs,∃y,r.1=some y/\x<=y
 |[],_,h,_,_=>h.elim
 | r0 :: rs, x, ⟨h1, h2, h3, h4⟩, r, hr => by
   rcases aH.mp hr with rfl | hr
   . exact⟨x,h1,cQ _⟩
   . cases e : r0.2.1 with
     |none=>rw[h3 e] at hr;cases hr
     | some z =>
       obtain⟨y,e1,e2⟩:=DX (h4 z e) r hr;have:=h2 x z rfl e;exact⟨y,e1,by omega⟩
theorem vA:∀{rs:List Rw} {here:Option Int},Til here rs->Ord rs
 |[],_,h=>h.elim
 | r :: rs, here, ⟨h1, h2, h3, h4⟩ => by
   have ok:ok3 r:=fun a b e1 e2=>h2 a b (h1.symm.trans e1) e2;cases e:r.2.1 with
   | none =>
     rw[h3 e];exact⟨fun z hz=>by rw[cD.mp hz];exact ok,dR _ _⟩
   | some x =>
     have o:=vA (h4 x e);refine⟨fun z hz=>(aH.mp hz).elim (fun e=>e▸ok) (o.ok z),bL.mpr ⟨fun z hz=>?_,o.pw⟩⟩;obtain⟨y,e1,e2⟩:=DX (h4 x e) z hz;exact⟨x,y,e,e1,e2⟩
theorem TK(p:Int):∀{rs:List Rw} {here:Option Int},Til here rs->∃r,rs.find? (befB p)=some r
 |[],_,h=>h.elim
 | r :: rs, here, ⟨h1, h2, h3, h4⟩ => by
   rw[cR];cases hb:befB p r with
   |true=>exact⟨r,rfl⟩
   | false =>
     cases e:r.2.1 with
     |none=>unfold befB at hb;rw[e] at hb;cases hb
     |some x=>exact TK p (h4 x e)
theorem map_ext{ps qs:List Rw}(m:MapF ps)(n:MapF qs)(h:∀p,valL ps p=valL qs p):ps=qs:=ML m n fun p v=>by rw[<- jX m.ord,<- jX n.ord,h p]
open Builtin.Int (intBits)
noncomputable def joinR(W:Option Int->Option Int->Option Int)(L:List R4):List Rw:=L.map fun r=>(r.1,r.2.1,W r.2.2.1 r.2.2.2)
theorem EV(W:Option Int->Option Int->Option Int):∀(n:Nat) (here:Option Int) (as bs:List Rw),as.length+bs.length<=n->Rem here as->Rem here bs->Til here (joinR W (qY n here as bs))
 |_,_,[],_,_,h,_=>h.elim
 |_,_,_::_,[],_,_,h=>h.elim
 |0,_,_::_,_::_,h,_,_=>by simp at h
 | n + 1, here, a :: as, b :: bs, hn, ha, hb => by
   have two:=BS a b as bs;simp only[aN] at hn;show Til here ((here,qQ a.2.1 b.2.1,W a.2.2 b.2.2)::joinR W (qY n (qQ a.2.1 b.2.1) (stp (qQ a.2.1 b.2.1) (a::as)) (stp (qQ a.2.1 b.2.1) (b::bs))));refine⟨rfl,fun h x e1 e2=>?_,fun e=>?_,fun x e=>?_⟩
   . have e2 : qQ a.2.1 b.2.1 = some x := e2;cases h1:a.2.1 with
     | none =>
       rw[h1] at e2;cases h2:b.2.1 with
       |none=>rw[h2] at e2;cases e2
       |some y=>rw[h2] at e2;cases e2;exact hb.1 h _ e1 h2
     | some y =>
       rw[h1] at e2;cases h2:b.2.1 with
       |none=>rw[h2] at e2;cases e2;exact ha.1 h _ e1 h1
       | some z =>
         rw[h2] at e2;have e3:min y z=x:=Option.some.inj e2;have:=ha.1 h _ e1 h1;have:=hb.1 h _ e1 h2;omega
   . have e : qQ a.2.1 b.2.1=none := e;rw[e,(vF ha hb e).1,xK];rfl
   . have e : qQ a.2.1 b.2.1 = some x := e;rw [e] at two ⊢
     have xa:∀y,a.2.1=some y->x<=y:=fun y h1=>by
      rw[h1] at e;cases h2:b.2.1 with
      |none=>rw[h2] at e;cases e;exact cQ _
      |some z=>rw[h2] at e;have e3:min y z=x:=Option.some.inj e;omega
     have xb:∀y,b.2.1=some y->x<=y:=fun y h2=>by
      rw[h2] at e;cases h1:a.2.1 with
      |none=>rw[h1] at e;cases e;exact cQ _
      |some z=>rw[h1] at e;have e3:min z y=x:=Option.some.inj e;omega
     refine EV W n (some x) _ _ (by omega) ?_ ?_
     . rcases xC ha xa with h | h
       . exact h.2.2
       . exact h.2
     . rcases xC hb xb with h | h
       . exact h.2.2
       . exact h.2
theorem vX:∀(n:Nat) (here:Option Int) (as bs:List Rw),(qY n here as bs).length<=n
 |0,_,_,_=>by simp[qY]
 |n+1,_,[],_=>by simp[qY]
 |n+1,_,_::_,[]=>by simp[qY]
 | n + 1, here, a :: as, b :: bs => by
   have:=vX n (qQ a.2.1 b.2.1) (stp (qQ a.2.1 b.2.1) (a::as)) (stp (qQ a.2.1 b.2.1) (b::bs));rw[qY,aN];omega
noncomputable abbrev pairR(ps qs:List Rw):List R4:=qY ((zV ps).length+(zV qs).length) none (zV ps) (zV qs)
noncomputable def xI(W:Option Int->Option Int->Option Int)(ps qs:List Rw):List Rw:=knitF (joinR W (pairR ps qs))
section
variable(W:Option Int->Option Int->Option Int){ps qs:List Rw}
theorem FJ(o1:Ord ps)(o2:Ord qs):Til none (joinR W (pairR ps qs)):=EV W _ none _ _ (aO _) (qX o1).rem (qX o2).rem
theorem xT(o1:Ord ps)(o2:Ord qs):MapF (xI W ps qs):=PX (vA (FJ W o1 o2))
theorem CL(o1:Ord ps)(o2:Ord qs)(p:Int):valL (xI W ps qs) p=W (valL ps p) (valL qs p):=by
 have t:=FJ W o1 o2;rw[show valL (xI W ps qs) p=valL (joinR W (pairR ps qs)) p from OD (xT W o1 o2).ord (vA t) fun v=>PU (vA t) p v,xD (vA t)];obtain⟨r,hr⟩:=TK p t;rw[<- kH p _ none t (fun _ e=>nomatch e)] at hr;rw[hr];have h3:has3 r p=true:=by simpa using kZ hr
 obtain⟨r4,h4,rfl⟩:=fL.mp (eS hr);have sp:=(xR _ none _ _ (aO _) (.inr ⟨(qX o1).rem,(qX o2).rem⟩)).1 r4 h4;obtain⟨e1,e2⟩:=sp.2.2 p h3 (fun _ e=>nomatch e);rw[xA o1] at e1;rw[xA o2] at e2;simp only[e1,e2]
end
theorem WF(W:Option Int->Option Int->Option Int)(ps qs:List Rw):(xI W ps qs).length<=2*ps.length+2*qs.length+2:=by
 have h1:=yQ ps;have h2:=yQ qs;have h3:=vX ((zV ps).length+(zV qs).length) none (zV ps) (zV qs);have h4:=PY (joinR W (pairR ps qs));have h5:(joinR W (pairR ps qs)).length=(qY ((zV ps).length+(zV qs).length) none (zV ps) (zV qs)).length:=cH _;unfold xI;omega
theorem rS{Φ : Fun2}{c:D}{W:Option Int->Option Int->Option Int}(hW:∀u v,Φ c [oi u,oi v]=some (.val (oi (W u v))))(s0:List Sl)(x y z t:Sl)(hs:s0=[x,y,z,t,.v c]):∀L:List R4,
  compL (tupG 4 (zM (zQ 0) (zM (zQ 1) (zM (zQ 2) (zM (zQ 3) tgNil))))) (fun _=>some true) (mkT (zZ (zB (qR 0) (zB (qR 1) (zB (callW Φ 4 (zB (zG 2) (zB (zG 3) zW))) zW))))) s0 (L.map r4D)=some ((joinR W L).map rwD)
 |[]=>by simp[compL,joinR]
 | r :: L => by
   have ih:=rS hW s0 x y z t hs L;subst hs;have hw:=hW r.2.2.1 r.2.2.2;rw[bO,compL]
   have e1:tupG 4 (zM (zQ 0) (zM (zQ 1) (zM (zQ 2) (zM (zQ 3) tgNil)))) (r4D r) [x,y,z,t,.v c]=some [.v (oi r.1),.v (oi r.2.1),.v (oi r.2.2.1),.v (oi r.2.2.2),.v c]:=by
    simp[r4D]
   have e2:mkT (zZ (zB (qR 0) (zB (qR 1) (zB (callW Φ 4 (zB (zG 2) (zB (zG 3) zW))) zW)))) [.v (oi r.1),.v (oi r.2.1),.v (oi r.2.2.1),.v (oi r.2.2.2),.v c]=some (rwD (r.1,r.2.1,W r.2.2.1 r.2.2.2)):=by
    simp[callW,hw,rwD,retV]
   rw[e1];simp only[bF,if_true,e2,ih,cX];rfl
theorem PZ{Φ : Fun2}{c:D}{W:Option Int->Option Int->Option Int}(hW:∀u v,Φ c [oi u,oi v]=some (.val (oi (W u v)))){ps qs:List Rw}(o1:Ord ps)(o2:Ord qs)(h1:ps.length<=10000)(h2:qs.length<=10000) :
  gA Φ [.lst (ps.map rwD),.lst (qs.map rwD),c]=some (.fresh ((xI W ps qs).map rwD)):=by
 have pe:=wU o1 o2 h1 h2;have l1:=yQ ps;have l2:=yQ qs;have l3:=vX ((zV ps).length+(zV qs).length) none (zV ps) (zV qs);have h5:(joinR W (pairR ps qs)).length=(qY ((zV ps).length+(zV qs).length) none (zV ps) (zV qs)).length:=cH _;have l6:(pairR ps qs).length<=(zV ps).length+(zV qs).length:=l3;have kn:=knit_eq (joinR W (pairR ps qs)) (by omega);have fl:=jY (xI W ps qs)
 have comp:∀(a b:Sl),compG (viaA (qR 3) asLT) [none,none,none,none,some 2] (tupG 4 (zM (zQ 0) (zM (zQ 1) (zM (zQ 2) (zM (zQ 3) tgNil))))) (fun _=>some true) (mkT (zZ (zB (qR 0) (zB (qR 1) (zB (callW Φ 4 (zB (zG 2) (zB (zG 3) zW))) zW))))) [a,b,.v c,.v (.lst ((pairR ps qs).map r4D))]=some ((joinR W (pairR ps qs)).map rwD):=fun a b=>by
  refine GK (items:=(pairR ps qs).map r4D) (by simp) (by simp;omega) ?_;exact rS hW _ .no .no .no .no rfl _
 unfold xI at fl ⊢;unfold pairR at *;generalize knitF (joinR W (qY ((zV ps).length+(zV qs).length) none (zV ps) (zV qs)))=T at *;generalize (joinR W (qY ((zV ps).length+(zV qs).length) none (zV ps) (zV qs))).map rwD=M at *;generalize (qY ((zV ps).length+(zV qs).length) none (zV ps) (zV qs)).map r4D=N at *;unfold gA runG nG;simp[args,pe,comp,kn,fl]
abbrev Ch:=Int×Option Int
def Per(g:Int->Option Int)(T:Int):Prop:=∀p,g (p+T)=g p
theorem Per.nat{g:Int->Option Int}{T:Int}(h:Per g T)(p:Int):∀j:Nat,g (p+(j:Int)*T)=g p
 |0=>by simp
 | j + 1 => by
   have e:p+((j+1:Nat):Int)*T=(p+(j:Int)*T)+T:=by rw[Int.natCast_add,Int.add_mul];simp;omega
   rw[e,h,h.nat p j]
theorem Per.int{g:Int->Option Int}{T:Int}(h:Per g T)(p j:Int):g (p+j*T)=g p:=by
 by_cases hj:0<=j
 . obtain⟨n, rfl⟩ := DN hj;exact h.nat p n
 . obtain⟨n, hn⟩ := DN (show 0<=-j by omega);have e:=h.nat (p+j*T) n;rw[<- hn,Int.neg_mul] at e;rw[<- e];congr 1;omega
def Rise(u:Nat->Int):Prop:=∀k,u k<u (k+1)
theorem Rise.lt{u:Nat->Int}(h:Rise u):∀{k l:Nat},k<l->u k<u l:=by
 intro k l hl
 induction l with
 |zero=>omega
 | succ l ih =>
   by_cases e:k=l
   . subst e;exact h k
   . exact Int.lt_trans (ih (by omega)) (h l)
section
variable{g:Int->Option Int}{T:Int}{C:List Ch}
end
section
variable{T:Int}
end
open Builtin.Int (intBits)
open Builtin.Int (intBits)
noncomputable def cntP(f:Int->Bool)(a:Int):Nat->Int
 |0=>0
 |n+1=>cntP f a n+(if f (a+n)=true then 1 else 0)
noncomputable def freeC(ps:List Rw)(a b:Int):Int:=cntP (fun p=>decide (valL ps p=none)) a (b-a).toNat
noncomputable def eitW(u v:Option Int):Option Int:=match u with | none=>v | some x=>some x
theorem FC{Φ : Fun2}(R0 R1:Sl):∀(L:List R4) (a b c d:Sl),(∀r∈L,r.2.2.1=none\/r.2.2.2=none\/r.2.2.1=r.2.2.2) →
  ∃a' b' c' d',qW (tupG 4 (zM (zQ 2) (zM (zQ 3) (zM (zQ 4) (zM (zQ 5) tgNil))))) (eR Φ) (L.map r4D) [R0,R1,a,b,c,d]=some (.nx [R0,R1,a',b',c',d'])
 |[],a,b,c,d,_=>⟨a,b,c,d,rfl⟩
 | r :: L, a, b, c, d, h => by
   obtain⟨a',b',c',d',e⟩:=FC (Φ:=Φ) R0 R1 L (.v (oi r.1)) (.v (oi r.2.1)) (.v (oi r.2.2.1)) (.v (oi r.2.2.2)) fun z hz=>h z (aI _ hz)
   have turn:eR Φ [R0,R1,.v (oi r.1),.v (oi r.2.1),.v (oi r.2.2.1),.v (oi r.2.2.2)]=some (.nx [R0,R1,.v (oi r.1),.v (oi r.2.1),.v (oi r.2.2.1),.v (oi r.2.2.2)]):=by
    unfold eR;rcases h r aF with h | h | h
    . rw[h];simp
    . rw[h];cases r.2.2.1<;>simp
    . rw[h];cases r.2.2.2<;>simp
   exact⟨a',b',c',d',by simp[qW,turn,e]⟩
theorem AV{Φ : Fun2}(hW:∀u v,Φ (.clo 1000 0 []) [oi u,oi v]=some (.val (oi (eitW u v)))){ps qs:List Rw}(o1:Ord ps)(o2:Ord qs)(h1:ps.length<=10000)(h2:qs.length<=10000)(H:∀p,valL ps p=none\/valL qs p=none\/valL ps p=valL qs p):fZ Φ [.lst (ps.map rwD),.lst (qs.map rwD)]=some (.fresh ((xI eitW ps qs).map rwD)):=by
 have pe:=wU o1 o2 h1 h2;have je:=PZ hW o1 o2 h1 h2;have sp:=(xR ((zV ps).length+(zV qs).length) none (zV ps) (zV qs) (aO _) (.inr ⟨(qX o1).rem,(qX o2).rem⟩)).1
 have hL:∀r∈qY ((zV ps).length+(zV qs).length) none (zV ps) (zV qs),r.2.2.1=none\/r.2.2.2=none\/r.2.2.1=r.2.2.2:=fun r hr=>by
  obtain⟨p,hp,_⟩:=yV (r.1,r.2.1) (sp r hr).1;obtain⟨q1,q2⟩:=(sp r hr).2.2 p hp (fun h e=>nomatch e);rw[xA o1] at q1;rw[xA o2] at q2;rw[<- q1,<- q2];exact H p
 obtain⟨a,b,c,d,e⟩:=FC (Φ:=Φ) (.v (.lst (ps.map rwD))) (.v (.lst (qs.map rwD))) _ .no .no .no .no hL;have fl:=jY (xI eitW ps qs);generalize xI eitW ps qs=T at *;generalize (qY ((zV ps).length+(zV qs).length) none (zV ps) (zV qs)).map r4D=N at *;refine vR ?_;unfold nF;rw[zN (ds':=[.v (.lst (ps.map rwD)),.v (.lst (qs.map rwD)),a,b,c,d]) (by simp[args,pe,e])];simp[je,fl]
end FL
section
open FL
noncomputable def eJ:Fun2:=phiOf [((1000,0),fnF 2 gB)]
noncomputable def lE:FF:=(forF (viaA (qI 2 eN (zB (zG 0) (zB (zG 1) zW))) asLT) (tupG 4 (zM (zQ 2) (zM (zQ 3) (zM (zQ 4) (zM (zQ 5) tgNil))))) (eR eJ) (ifF (andT (zL (zD notD (zG 4) (zA .non))) (andT (zL (zD notD (zG 5) (zA .non))) (zL (zD neD (zG 4) (zG 5))))) (raiF "place" "one" "other" (zB (qI 1 dA (zB (mkT (zZ (zB (qR 2) (zB (qR 3) zW)))) zW)) (zB (zG 4) (zB (zG 5) zW)))) pF))
noncomputable def fW:List D->Option Fls:=fun ds=>lE (args 6 ds)
noncomputable def rY:FS:=(qC (jQ 5 (zD ixD (zG 0) (zG 4)))
 (qC (jQ 6 (zD jI (zD xH (zD xH (zD yX (zG 5) (zA (.int 50021))) (zD yX (zD yX (zG 4) (zG 4)) (zA (.int 16807)))) (zA (.int 32452843))) (zA (.int 2147483587))))
 (qC (jQ 6 (zD jI (zD yX (zG 6) (zG 6)) (zA (.int 2147483563))))
 (qC (jQ 2 (zD xH (zG 2) (zD ixD (mkL (zZ (zB (zA (.int 0)) (zB (zA (.int 0)) (zB (zA (.int 0)) (zB (zA (.int 1)) (zB (zD xH (zA (.int 2)) (zD jI (zD qU (zG 6) (zA (.int 6))) (zA (.int 5)))) (zB (zD xH (zA (.int 1)) (zD jI (zG 5) (zD powD (zA (.int 10)) (zA (.int 40))))) zW)))))))) (zD jI (zG 6) (zA (.int 6))))))
 (qC (jQ 7 (qR 2))
 (qC (jQ 2 (zD xH (zD xH (zG 2) (zA (.int 1))) (zD ixD (mkL (zZ (zB (zD jI (zD qU (zG 6) (zA (.int 30))) (zA (.int 4))) (zB (zD jI (zD yX (zG 5) (zA (.int 69621))) (zD powD (zA (.int 10)) (zA (.int 40)))) zW)))) (zD qU (zD jI (zD qU (zG 6) (zA (.int 120))) (zA (.int 3))) (zA (.int 2))))))
 (qC (jQ 8 (zD subD (zD jI (zD qU (zG 6) (zA (.int 360))) (zA (.int 5))) (zA (.int 2))))
 (qC (ifG (zL (zD eqD (zD jI (zD qU (zG 6) (zA (.int 1800))) (zA (.int 4))) (zA (.int 3)))) (jQ 8 (zD ixD (mkL (zZ (zB (zD subD (zD jI (zG 5) (zD xH (zD yX (zA (.int 2)) (zD powD (zA (.int 10)) (zA (.int 60)))) (zA (.int 1)))) (zD powD (zA (.int 10)) (zA (.int 60)))) (zB (qI 1 fG (zB (zG 5) zW)) zW)))) (zD jI (zD qU (zG 6) (zA (.int 7200))) (zA (.int 2))))) qL)
 (qC (ifG (andT (zL (zD neD (zG 3) (mkL (zZ zW)))) (andT (zL (zD eqD (zD ixD (zD ixD (zG 3) (un1 negD (zA (.int 1)))) (zA (.int 1))) (zG 7))) (zL (zD eqD (zD ixD (zD ixD (zG 3) (un1 negD (zA (.int 1)))) (zA (.int 2))) (zG 8))))) (jQ 8 (zD xH (zG 8) (zA (.int 1)))) qL)
 (appG 3 (mkT (zZ (zB (qR 7) (zB (qR 2) (zB (qR 8) zW)))))))))))))))
noncomputable def nD:FS:=(qC (jQ 2 (zD ixD (mkL (zZ (zB (zD subD (zD jI (zD qU (zG 1) (zA (.int 12))) (zA (.int 41))) (zA (.int 20))) (zB (zD subD (zD jI (zD qU (zG 1) (zA (.int 12))) (zD xH (zD yX (zA (.int 2)) (zD powD (zA (.int 10)) (zA (.int 60)))) (zA (.int 1)))) (zD powD (zA (.int 10)) (zA (.int 60)))) (zB (qI 1 fG (zB (zD qU (zG 1) (zA (.int 12))) zW)) zW))))) (zD jI (zD qU (zG 1) (zA (.int 4))) (zA (.int 3)))))
 (qC (setOG 3 (zZ zW))
 (qC (forG (rng1 (callB lenD (zB (zG 0) zW))) (zQ 4) rY)
 (qC (ifG (andT (zL (zD neD (zG 3) (mkL (zZ zW)))) (zL (zD eqD (zD jI (zG 1) (zA (.int 2))) (zA (.int 1))))) (putG 3 (zA (.int 0)) (mkT (zZ (zB (zA .non) (zB (zD ixD (zD ixD (zG 3) (zA (.int 0))) (zA (.int 1))) (zB (zD ixD (zD ixD (zG 3) (zA (.int 0))) (zA (.int 2))) zW)))))) qL)
 (qC (ifG (andT (zL (zD neD (zG 3) (mkL (zZ zW)))) (zL (zD eqD (zD jI (zD qU (zG 1) (zA (.int 2))) (zA (.int 2))) (zA (.int 1))))) (putG 3 (un1 negD (zA (.int 1))) (mkT (zZ (zB (zD ixD (zD ixD (zG 3) (un1 negD (zA (.int 1)))) (zA (.int 0))) (zB (zA .non) (zB (zD ixD (zD ixD (zG 3) (un1 negD (zA (.int 1)))) (zA (.int 2))) zW)))))) qL)
 (retXG 3))))))
noncomputable def fA:List D->Option Ret:=runG nD 9
noncomputable def fY:FS:=(ifG (zL (zD neD (zD jI (zD jI (zD jI (zD xH (zD yX (zD ixD (zG 1) (zG 4)) (zA (.int 48271))) (zD yX (zG 4) (zA (.int 7919)))) (zA (.int 2147483629))) (zA (.int 7))) (zA (.int 3))) (zG 2))) (appG 3 (zD ixD (zG 0) (zG 4))) qL)
noncomputable def lZ:FS:=(qC (setOG 3 (zZ zW))
 (qC (forG (rng1 (callB lenD (zB (zG 0) zW))) (zQ 4) fY)
 (retXG 3)))
noncomputable def eV:List D->Option Ret:=runG lZ 5
noncomputable def lG:FS:=(qC (setOG 3 (vS 3 eV (zB (zG 0) (zB (zG 1) (zB (zA (.int 1)) zW)))))
 (qC (ifG (andT (zL (zD eqD (zD jI (zG 2) (zA (.int 3))) (zA (.int 1)))) (zL (zD neD (zG 3) (mkL (zZ zW))))) (qC (jQ 4 (zD jI (zD qU (zG 2) (zA (.int 3))) (callB lenD (zB (zG 3) zW))))
 (putG 3 (qR 4) (mkT (zZ (zB (zD ixD (zD ixD (zG 3) (zG 4)) (zA (.int 0))) (zB (zD ixD (zD ixD (zG 3) (zG 4)) (zA (.int 1))) (zB (zD xH (zD yX (zD powD (zD powD (zA (.int 10)) (zA (.int 60))) (zA (.int 8))) (zA (.int 10))) (zD jI (zD qU (zG 2) (zA (.int 3))) (zD powD (zA (.int 10)) (zA (.int 60))))) zW))))))) qL)
 (qC (ifG (zL (zD eqD (zD jI (zG 2) (zA (.int 3))) (zA (.int 2)))) (retOG (vS 2 fA (zB (mkL (revA (qR 1))) (zB (zD qU (zG 2) (zA (.int 3))) zW)))) qL)
 (retXG 3))))
noncomputable def fX:List D->Option Ret:=runG lG 5
noncomputable def lF:FS:=(retG (andV (zD notD (zG 0) (zA .non)) (andV (zD notD (zG 1) (zA .non)) (zD neD (zG 0) (zG 1)))))
noncomputable def dM:List D->Option Ret:=runG lF 2
noncomputable def mB:FS:=(qC (jQ 2 (mkL (zZ zW)))
 (qC (tryF 3 3 (dropG (qI 2 (fZ eJ) (zB (zG 0) (zB (zG 1) zW)))) (calXF 2 fW (zB (zG 0) (zB (zG 1) zW)))
 (qC (jQ 4 (fun ds=>(isxG 3 [(3,false)]) (relE 3 ds)))
 (ifG (andT (testT (fun ds=>(isxG 3 [(3,true)]) (relE 3 ds))) (andT (testT (fun ds=>(isxG 3 [(3,true)]) (relE 3 ds))) (notT (testT (zG 4))))) (jQ 2 (mkL (zZ (zB (xfldG 3 3 "place") (zB (xfldG 3 3 "one") (zB (xfldG 3 3 "other") zW)))))) qL)))
 (qC (ifG (orT (zL (zD neD (callB lenD (zB (zG 2) zW)) (zA (.int 3)))) (notT (testT (callB allD (zB (mkL (compG (viaA (qR 2) asLT) [none] (zQ 0) (fun _=>some true) (qI 1 dP (zB (zG 0) zW)))) zW))))) (retG (zA (.bl false))) qL)
 (qC (jQ 5 (mkL (zZ (zB (zD ixD (qI 2 dJ (zB (zG 0) (zB (mkL (sliA (zG 2) noP (soP (zA (.int 1))))) zW))) (zA (.int 0))) (zB (zD ixD (qI 2 dJ (zB (zG 1) (zB (mkL (sliA (zG 2) noP (soP (zA (.int 1))))) zW))) (zA (.int 0))) zW)))))
 (retG (andV (zD eqD (zG 5) (mkL (sliA (zG 2) (soP (zA (.int 1))) noP))) (qI 2 dM (zB (zD ixD (zG 2) (zA (.int 1))) (zB (zD ixD (zG 2) (zA (.int 2))) zW)))))))))
noncomputable def gO:List D->Option Ret:=runG mB 6
noncomputable def mK:FS:=(qC (jQ 7 (orV (qR 7) (qI 2 dM (zB (zG 8) (zB (zG 9) zW)))))
 (appG 6 (zD ixD (mkL (zZ (zB (qR 8) (zB (qR 9) zW)))) (callB int1D (zB (zD isD (zG 8) (zA .non)) zW)))))
noncomputable def rA:FS:=(qC (jQ 1 (mkL (sliA (zG 0) (soP (zA (.int 3))) (soP (zA (.int 77))))))
 (qC (jQ 2 (qI 2 fA (zB (zG 1) (zB (qI 2 eL (zB (zG 0) (zB (zA (.int 0)) zW))) zW))))
 (qC (jQ 3 (qI 3 eV (zB (zG 2) (zB (zG 1) (zB (zA (.int 0)) zW)))))
 (qC (jQ 4 (qI 3 fX (zB (zG 2) (zB (zG 1) (zB (qI 2 eL (zB (zG 0) (zB (zA (.int 1)) zW))) zW)))))
 (qC (jQ 5 (qI 1 gC (zB (mkL (zZ (zB (qR 3) (zB (qR 4) zW)))) zW)))
 (qC (setOG 6 (zZ zW))
 (qC (jQ 7 (zA (.bl false)))
 (qC (forG (zipA (qI 2 dJ (zB (zG 3) (zB (zG 5) zW))) (qI 2 dJ (zB (zG 4) (zB (zG 5) zW)))) (tupG 2 (zM (zQ 8) (zM (zQ 9) tgNil))) mK)
 (qC (jQ 10 (mkL (zZ (zB (mkL (lisA (zG 3))) (zB (mkL (lisA (zG 4))) zW)))))
 (qC (ifG (testT (zG 7)) (qC (jQ 11 (andV (qI 2 gO (zB (zD ixD (zG 10) (zA (.int 0))) (zB (zD ixD (zG 10) (zA (.int 1))) zW))) (qI 2 gO (zB (zD ixD (zG 10) (zA (.int 1))) (zB (zD ixD (zG 10) (zA (.int 0))) zW)))))
 (retG (andV (qR 11) (zD eqD (zG 10) (mkL (zZ (zB (qR 3) (zB (qR 4) zW)))))))) qL)
 (qC (setOG 11 (vS 2 (fZ eJ) (zB (zD ixD (zG 10) (zA (.int 0))) (zB (zD ixD (zG 10) (zA (.int 1))) zW))))
 (qC (ifG (orT (notT (testT (qI 1 iT (zB (zG 11) zW)))) (zL (zD neD (qI 2 dJ (zB (zG 11) (zB (zG 5) zW))) (zG 6)))) (retG (zA (.bl false))) qL)
 (qC (jQ 5 (qI 1 gC (zB (mkL (zZ (zB (zG 11) zW))) zW)))
 (qC (setOG 6 (compG (zipA (qI 2 dJ (zB (zG 3) (zB (zG 5) zW))) (qI 2 dJ (zB (zG 4) (zB (zG 5) zW)))) [none,none] (tupG 2 (zM (zQ 0) (zM (zQ 1) tgNil))) (fun _=>some true) (zD ixD (mkL (zZ (zB (qR 0) (zB (qR 1) zW)))) (callB int1D (zB (zD isD (zG 0) (zA .non)) zW)))))
 (qC (ifG (orT (zL (zD neD (qI 2 dJ (zB (zG 11) (zB (zG 5) zW))) (zG 6))) (zL (zD neD (qI 2 (fZ eJ) (zB (mkL (lisA (zG 4))) (zB (mkL (lisA (zG 3))) zW))) (zG 11)))) (retG (zA (.bl false))) qL)
 (qC (clrG 11)
 (retG (zD eqD (zG 10) (mkL (zZ (zB (qR 3) (zB (qR 4) zW))))))))))))))))))))))
noncomputable def nT:List D->Option Ret:=runG rA 12
end
namespace K36
open FL
noncomputable def top(i:Nat):Stmt:=PySem.Challenge.pw_spanmap_k36_merged.main.body.getD i (.Pass ⟨0,0,0,0⟩)
structure Glb(K:Frag)(mg:Str->Option Value):Prop where
 b_ValueError:mg "ValueError" = none
 b_all:mg "all" = none
 b_bool:mg "bool" = none
 b_int:mg "int" = none
 b_isinstance:mg "isinstance" = none
 b_len:mg "len" = none
 b_list:mg "list" = none
 b_max:mg "max" = none
 b_min:mg "min" = none
 b_range:mg "range" = none
 b_reversed:mg "reversed" = none
 b_set:mg "set" = none
 b_sorted:mg "sorted" = none
 b_tuple:mg "tuple" = none
 b_zip:mg "zip" = none
 isx_Clash_3:∃D,mg "Clash" = some (.ref D)/\IsxOk K (.ref D) [(3,true)]
 isxB_ValueError_3:IsxOk K (.type "ValueError") [(3,true)]
 isxT_0:∃D1 D4 D8 D2 D7 D6 D12 D9 D5 D11 D10:aB,mg "Empty" = some (.ref D1)/\mg "NoCount" = some (.ref D4)/\mg "NoDeed" = some (.ref D8)/\mg "NoEnd" = some (.ref D2)/\mg "NoMark" = some (.ref D7)/\mg "NoName" = some (.ref D6)/\mg "NoRow" = some (.ref D12)/\mg "NoRule" = some (.ref D9)/\mg "NoShare" = some (.ref D5)/\mg "NoText" = some (.ref D11)/\mg "TooMuch" = some (.ref D10)/\KL K [.ref D1,.ref D4,.ref D8,.ref D2,.ref D7,.ref D6,.ref D12,.ref D9,.ref D5,.ref D11,.ref D10] [(3,false)]
 fv_0:FnV K mg 0
theorem pwI{i:Int}{k:Nat}{p:Pos}: PVw X (.Constant (.int i) k p) (zA (.int i)):=PV.w jD
theorem pnI{i:Int}{k:Nat}{p:Pos}: PVn X (.Constant (.int i) k p) (zA (.int i)):=PV.n jD
theorem pnV(i:Nat){x:Str}{pos:Pos}(hN:X.N[i]?=some x:=by rfl)(hv:Vis X.env.scope x:=by first | exact Or.inl rfl | exact Or.inr (Or.inl rfl) | exact Or.inr (Or.inr rfl))(hd:(x==("__debug__" : Str))=false:=by decide)(hcd:(x==("__classdict__" : Str))=false:=by decide):PVn X (.Name x pos) (zG i):=(zE i hN hv hd hcd).n
section
variable{P:aY}{w:bS}{K:Frag}{mg:Str->Option Value}{base:Heap}
theorem oQ:FnScope ["one"] ["one"] (zK (top 15)):={}
theorem tP{f:aB}{fd:bQ}(Fn:Fun K "some_place" "some_place" (top 15) f fd)(T:Glb K mg): FnOk P w K mg base CX0 1 f fd ["one"] (spF K 1 dA):=by
 have nd:=oQ.nd;refine jL (k:=0) (g:=kM) Fn oQ (fun cdv A outer s H E hr=>?_) (fun ds r hl e=>qD e)
 exact(zC (qH (qT (PV.n (qA (zE 0) pwI)) (PV.n qJ)) (zI (qG (PV.w (qA (zE 0) pwI)))) zR)
  (zC (qH (qT (PV.n (qA (zE 0) pwI)) (PV.n qJ)) (zI (qG (PV.w (yU (PV.w (qA (zE 0) pwI)) pwI)))) zR)
  (zI (qG pwI))))
theorem lX:FnScope ["one","other"] ["one","other"] (zK (top 16)):={}
theorem pI{f:aB}{fd:bQ}(Fn:Fun K "earlier_behind" "earlier_behind" (top 16) f fd)(T:Glb K mg): FnOk P w K mg base CX0 1 f fd ["one","other"] (spF K 2 eI):=by
 have nd:=lX.nd;refine jL (k:=0) (g:=gJ) Fn lX (fun cdv A outer s H E hr=>?_) (fun ds r hl e=>qD e)
 exact(zC (qH (EN (pnV 0) (PV.n qJ)) (zI (qG (zE 1))) zR)
  (zC (qH (EN (pnV 1) (PV.n qJ)) (zI (qG (zE 0))) zR)
  (zI (qG (PV.w (ZM rfl T.b_min (qN (zE 0) (qN (zE 1) jG))))))))
theorem LI:FnScope ["rows","pieces","low","behind","value"] ["rows"] (zK (top 18)):={}
theorem WQ{f:aB}{fd:bQ}(Fn:Fun K "knit" "knit" (top 18) f fd)(T:Glb K mg): FnOk P w K mg base CX0 1 f fd ["rows"] (spF K 1 mF):=by
 have nd:=LI.nd;refine jL (k:=0) (g:=rB) Fn LI (fun cdv A outer s H E hr=>?_) (fun ds r hl e=>qD e)
 exact(zC (jT (i:=1) nd (qE zU))
  (zC (yI nW.never rfl (yH (zY 0)) (yY (n:=3) rfl (zX (zS (i:=2) nd) (zX (zS (i:=3) nd) (zX (zS (i:=4) nd) yG)))) (zC (qH (EN (pnV 4) (PV.n qJ)) (zI CB) zR)
  (zI (qH (PWv.t (qM (PVn.t (pnV 1)) (qM (wF hr (PV.n (qA (PV.w (qA (zE 1) (PV.w (xN jD)))) pwI)) (pnV 2)) (qV (wF hr (PV.n (qA (PV.w (qA (zE 1) (PV.w (xN jD)))) pwI)) (pnV 4)))))) (zI (sS (i:=1) (yP (zH (qA (PV.w (qA (zE 1) (PV.w (xN jD)))) pwI) (zH (zY 3) (zH (zY 4) zU)))) (xN jD))) (zI (jW (i:=1) (yP (zH (zY 2) (zH (zY 3) (zH (zY 4) zU))))))))))
  (zI (yS 1))))
theorem sY:FnScope ["pieces","runs","here","low","behind","value"] ["pieces"] (zK (top 19)):={}
theorem FZ{f:aB}{fd:bQ}(Fn:Fun K "runs_of" "runs_of" (top 19) f fd)(T:Glb K mg): FnOk P w K mg base CX0 1 f fd ["pieces"] (spF K 1 gF):=by
 have nd:=sY.nd;refine jL (k:=0) (g:=mL) Fn sY (fun cdv A outer s H E hr=>?_) (fun ds r hl e=>qD e)
 exact(zC (jT (i:=1) nd (qE zU))
  (zC (zT (i:=2) nd qJ)
  (zC (yI nW.never rfl (yH (zY 0)) (yY (n:=3) rfl (zX (zS (i:=3) nd) (zX (zS (i:=4) nd) (zX (zS (i:=5) nd) yG)))) (zC (qH (xL hr (pnV 3) (pnV 2)) (zI (jW (i:=1) (yP (zH (zY 2) (zH (zY 3) (zH qJ zU)))))) zR)
  (zC (jW (i:=1) (yP (zH (zY 3) (zH (zY 4) (zH (zY 5) zU)))))
  (zI (zT (i:=2) nd (zY 4))))))
  (zC (qH (PWv.t (xG (qT (pnV 2) (PV.n qJ)) (yT (yR (PVn.t (pnV 0)))))) (zI (jW (i:=1) (yP (zH (zY 2) (zH qJ (zH qJ zU)))))) zR)
  (zI (yS 1))))))
theorem AK:FnScope ["one","other","runs","other_runs","rows","here","at","other_at","run","other_run","behind"] ["one","other"] (zK (top 20)):={}
theorem JR{f:aB}{fd:bQ}(Fn:Fun K "paired" "paired" (top 20) f fd)(T:Glb K mg)(C_runs_of:Cal P w K mg base "runs_of" 1 1 gF)(C_earlier_behind:Cal P w K mg base "earlier_behind" 1 2 eI):FnOk P w K mg base CX0 2 f fd ["one","other"] (spF K 2 eN):=by
 have nd:=AK.nd;refine jL (k:=1) (g:=nE) Fn AK (fun cdv A outer s H E hr=>?_) (fun ds r hl e=>qD e)
 exact(zC (zT (i:=2) nd (zP C_runs_of hr (zF (pnV 0) zO)))
  (zC (zT (i:=3) nd (zP C_runs_of hr (zF (pnV 1) zO)))
  (zC (jT (i:=4) nd (qE zU))
  (zC (zT (i:=5) nd qJ)
  (zC (zT (i:=6) nd jD)
  (zC (zT (i:=7) nd jD)
  (zC (AO 100000 nW.never (EM (zE 6) (PV.w (yZ T.b_len (qN (zE 2) jG)))) (zC (zT (i:=8) nd (qA (zE 2) (zE 6)))
  (zC (zT (i:=9) nd (qA (zE 3) (zE 7)))
  (zC (zT (i:=10) nd (zP C_earlier_behind hr (zF (PV.n (qA (zE 8) pwI)) (zF (PV.n (qA (zE 9) pwI)) zO))))
  (zC (jW (i:=4) (yP (zH (zY 5) (zH (zY 10) (zH (qA (zE 8) pwI) (zH (qA (zE 9) pwI) zU))))))
  (zC (qH (wF hr (PV.n (qA (zE 8) pwI)) (pnV 10)) (zI (EO (i:=6) nd jD)) zR)
  (zC (qH (wF hr (PV.n (qA (zE 9) pwI)) (pnV 10)) (zI (EO (i:=7) nd jD)) zR)
  (zI (zT (i:=5) nd (zY 10))))))))))
  (zI (yS 4)))))))))
theorem AM:FnScope ["value","other_value"] ["value","other_value"] (zK (top 22)):={}
theorem JU{f:aB}{fd:bQ}(Fn:Fun K "either" "either" (top 22) f fd)(T:Glb K mg): FnOk P w K mg base CX0 1 f fd ["value","other_value"] (spF K 2 gB):=by
 have nd:=AM.nd;refine jL (k:=0) (g:=nH) Fn AM (fun cdv A outer s H E hr=>?_) (fun ds r hl e=>qD e);exact(zI (qG (PV.w (pv_if (EN (pnV 0) (PV.n qJ)) (zY 1) (zY 0)))))
theorem clo_ok(T:Glb K mg)  (V_either:CalV P w K mg base 0 1 2 gB):CloOk P w K mg base 1 eJ:=by
 refine clo_of (fun p hp=>?_) fun p hp hm=>?_
 . rcases aH.mp hp with rfl | hp
   . exact(nZ.mono (k:=1) (fn_good V_either) (by decide))
   cases hp
 . rcases aH.mp hp with rfl | hp
   . exact V_either.fin
   cases hp
theorem AL:FnScope ["one","other","way","rows"] ["one","other","way"] (zK (top 24)):={}
theorem JT{f:aB}{fd:bQ}(Fn:Fun K "joined" "joined" (top 24) f fd)(T:Glb K mg)(C_paired:Cal P w K mg base "paired" 2 2 eN)(C_knit:Cal P w K mg base "knit" 1 1 mF)(CO:CloOk P w K mg base 1 eJ):FnOk P w K mg base CX0 3 f fd ["one","other","way"] (spF K 3 (gA eJ)):=by
 have nd:=AL.nd;have nI0:(["low","behind","value","other_value","way"]:List Str).Nodup:=by decide +kernel
 refine jL (k:=2) (g:=(nG eJ)) Fn AL (fun cdv A outer s H E hr=>?_) (fun ds r hl e=>qD e)
 exact(zC (zT (i:=3) nd (zP C_paired hr (zF (pnV 0) (zF (pnV 1) zO))))
  (zI (xO (yO C_knit hr (zF (PV.n (PVf.s (EK (NY:=["low","behind","value","other_value","way"]) (mp:=[none,none,none,none,some 2]) (wA (by kernel_rfl)) rfl (yH (zY 3)) (fun c=>(yY (n:=4) rfl (zX (zS (i:=0) nI0) (zX (zS (i:=1) nI0) (zX (zS (i:=2) nI0) (zX (zS (i:=3) nI0) yG)))))) (fun c=>CF) (fun c=>(yP (zH (zY 0) (zH (zY 1) (zH (UE (i:=4) CO hr (zF (pnV 2) (zF (pnV 3) zO))) zU)))))))) zO)))))
theorem nY:FnScope ["one","other","low","behind","value","other_value"] ["one","other"] (zK (top 25)):={}
theorem JS{f:aB}{fd:bQ}(Fn:Fun K "merged" "merged" (top 25) f fd)(T:Glb K mg)(C_paired:Cal P w K mg base "paired" 2 2 eN)(C_joined:Cal P w K mg base "joined" 3 3 (gA eJ))(C_some_place:Cal P w K mg base "some_place" 1 1 dA):FnOk P w K mg base CX0 4 f fd ["one","other"] (spF K 2 (fZ eJ)):=by
 have nd:=nY.nd;refine jL (k:=3) (g:=(nF eJ)) Fn nY (fun cdv A outer s H E hr=>?_) (fun ds r hl e=>qD e)
 exact(zC (yI nW.never rfl (yH (zP C_paired hr (zF (pnV 0) (zF (pnV 1) zO)))) (yY (n:=4) rfl (zX (zS (i:=2) nd) (zX (zS (i:=3) nd) (zX (zS (i:=4) nd) (zX (zS (i:=5) nd) yG))))) (zI (qH (PWv.t (qM (qT (pnV 4) (PV.n qJ)) (qM (qT (pnV 5) (PV.n qJ)) (qV (xL hr (pnV 4) (pnV 5)))))) (zI AQ) zR)))
  (zI (xO (yO C_joined hr (zF (pnV 0) (zF (pnV 1) (zF (PV.n (pv_fn T.fv_0)) zO)))))))
theorem CZ{f XC:aB}(T:Glb K mg)(C_paired:Cal P w K mg base "paired" 2 2 eN)(C_joined:Cal P w K mg base "joined" 3 3 (gA eJ))(C_some_place:Cal P w K mg base "some_place" 1 1 dA)(R:XRI P w K mg base 3 XC)(cdv:Value)(A:bR)(outer:List Env)(s:aC)(H:Hp)(E:XK)(hr:Room 3 (A.deeper (iX "merged" (zK (top 25)) s.heap.objs.size f cdv))) :
  PSsF (cxOf (CXM P w) P w K mg base ["one","other","low","behind","value","other_value"] "merged" (zK (top 25)) f cdv A outer s H E) XC (jH (top 25)) lE:=by
 have nd:(["one","other","low","behind","value","other_value"]:List Str).Nodup:=nY.nd
 exact(xW (ZV OX (yH (zP C_paired hr (zF (pnV 0) (zF (pnV 1) zO)))) (yY (n:=4) rfl (zX (zS (i:=2) nd) (zX (zS (i:=3) nd) (zX (zS (i:=4) nd) (zX (zS (i:=5) nd) yG))))) (zI (qH (PWv.t (qM (qT (pnV 4) (PV.n qJ)) (qM (qT (pnV 5) (PV.n qJ)) (qV (xL hr (pnV 4) (pnV 5)))))) (zI AQ) zR)) (xW (psF_if (PWv.t (qM (qT (pnV 4) (PV.n qJ)) (qM (qT (pnV 5) (PV.n qJ)) (qV (xL hr (pnV 4) (pnV 5)))))) (xW (ZU R hr (zF (PV.n (zP C_some_place hr (zF (PV.n (yP (zH (zY 2) (zH (zY 3) zU)))) zO))) (zF (pnV 4) (zF (pnV 5) zO)))) zR) (EQ zR))
  zR))
  (zI (xO (yO C_joined hr (zF (pnV 0) (zF (pnV 1) (zF (PV.n (pv_fn T.fv_0)) zO)))))))
theorem FY{f XC:aB}{fd:bQ}(Fn:Fun K "merged" "merged" (top 25) f fd)(T:Glb K mg)(C_paired:Cal P w K mg base "paired" 2 2 eN)(C_joined:Cal P w K mg base "joined" 3 3 (gA eJ))(C_some_place:Cal P w K mg base "some_place" 1 1 dA)(R:XRI P w K mg base 3 XC):FnOk P w K mg base (CXM P w) 4 f fd ["one","other"] (spXF K 2 fW XC):=
 fun_okF (k:=3) (g:=lE) Fn nY (fun cdv A outer s H E hr=>CZ T C_paired C_joined C_some_place R cdv A outer s H E hr) (fun ds fs hl e=>e)
theorem mU:FnScope ["_law_script","_law_k"] ["_law_script","_law_k"] (zK (top 27)):={}
theorem rE{f:aB}{fd:bQ}(Fn:Fun K "_law_cell_at" "_law_cell_at" (top 27) f fd)(T:Glb K mg): FnOk P w K mg base CX0 1 f fd ["_law_script","_law_k"] (spF K 2 eL):=by
 have nd:=mU.nd;refine jL (k:=0) (g:=mP) Fn mU (fun cdv A outer s H E hr=>?_) (fun ds r hl e=>qD e)
 exact(zC (qH (EM (zE 1) (PV.w (yZ T.b_len (qN (zE 0) jG)))) (zI (qG (PV.w (qA (zE 0) (zE 1))))) zR)
  (zI (qG pwI)))
theorem oR:FnScope ["_law_found"] ["_law_found"] (zK (top 28)):={}
theorem tQ{f:aB}{fd:bQ}(Fn:Fun K "_law_whole" "_law_whole" (top 28) f fd)(T:Glb K mg): FnOk P w K mg base CX0 1 f fd ["_law_found"] (spF K 1 dP):=by
 have nd:=oR.nd;refine jL (k:=0) (g:=mM) Fn oR (fun cdv A outer s H E hr=>?_) (fun ds r hl e=>qD e);exact(zI (qG (PV.w (vQ (CA T.b_isinstance T.b_int (by decide +kernel) (zE 0)) (vP (pv_not (CA T.b_isinstance T.b_bool (by decide +kernel) (zE 0))))))))
theorem oU:FnScope ["_law_cell","_law_great_here"] ["_law_cell"] (zK (top 29)):={}
theorem tR{f:aB}{fd:bQ}(Fn:Fun K "_law_great" "_law_great" (top 29) f fd)(T:Glb K mg): FnOk P w K mg base CX0 1 f fd ["_law_cell"] (spF K 1 fG):=by
 have nd:=oU.nd;refine jL (k:=0) (g:=oZ) Fn oU (fun cdv A outer s H E hr=>?_) (fun ds r hl e=>qD e)
 exact(zC (zT (i:=1) nd (yB (PV.w (yB pwI pwI)) pwI))
  (zI (qG (PV.w (yU (PV.w (qF (zE 0) (PV.w (jO (PV.w (yF pwI (zE 1))) pwI)))) (zE 1))))))
theorem nR:FnScope ["_law_cells","_law_head","_law_at","_law_pieces_here","_law_k","_law_cell","_law_mixed","_law_low","_law_value"] ["_law_cells","_law_head"] (zK (top 30)):={}
theorem sG{f:aB}{fd:bQ}(Fn:Fun K "_law_pieces" "_law_pieces" (top 30) f fd)(T:Glb K mg)(C__law_great:Cal P w K mg base "_law_great" 1 1 fG):FnOk P w K mg base CX0 2 f fd ["_law_cells","_law_head"] (spF K 2 fA):=by
 have nd:=nR.nd;refine jL (k:=1) (g:=nD) Fn nR (fun cdv A outer s H E hr=>?_) (fun ds r hl e=>qD e)
 exact(zC (zT (i:=2) nd (qA (PV.w (PVf.s (qE (zH (yU (PV.w (qF (PV.w (jK (zE 1) pwI)) pwI)) pwI) (zH (yU (PV.w (qF (PV.w (jK (zE 1) pwI)) (PV.w (jO (PV.w (yF pwI (PV.w (yB pwI pwI)))) pwI)))) (PV.w (yB pwI pwI))) (zH (zP C__law_great hr (zF (PV.n (jK (zE 1) pwI)) zO)) zU)))))) (PV.w (qF (PV.w (jK (zE 1) pwI)) pwI))))
  (zC (jT (i:=3) nd (qE zU))
  (zC (yI nW.never rfl (wB T.b_range (yZ T.b_len (qN (zE 0) jG))) (zS (i:=4) nd) (zC (zT (i:=5) nd (qA (zE 0) (zE 4)))
  (zC (zT (i:=6) nd (qF (PV.w (jO (PV.w (jO (PV.w (yF (zE 5) pwI)) (PV.w (yF (PV.w (yF (zE 4) (zE 4))) pwI)))) pwI)) pwI))
  (zC (zT (i:=6) nd (qF (PV.w (yF (zE 6) (zE 6))) pwI))
  (zC (zT (i:=2) nd (jO (zE 2) (PV.w (qA (PV.w (PVf.s (qE (zH jD (zH jD (zH jD (zH jD (zH (jO pwI (PV.w (qF (PV.w (jK (zE 6) pwI)) pwI))) (zH (jO pwI (PV.w (qF (zE 5) (PV.w (yB pwI pwI))))) zU))))))))) (PV.w (qF (zE 6) pwI))))))
  (zC (zT (i:=7) nd (zY 2))
  (zC (zT (i:=2) nd (jO (PV.w (jO (zE 2) pwI)) (PV.w (qA (PV.w (PVf.s (qE (zH (qF (PV.w (jK (zE 6) pwI)) pwI) (zH (qF (PV.w (yF (zE 5) pwI)) (PV.w (yB pwI pwI))) zU))))) (PV.w (jK (PV.w (qF (PV.w (jK (zE 6) pwI)) pwI)) pwI))))))
  (zC (zT (i:=8) nd (yU (PV.w (qF (PV.w (jK (zE 6) pwI)) pwI)) pwI))
  (zC (qH (wF hr (PV.n (qF (PV.w (jK (zE 6) pwI)) pwI)) pnI) (zI (zT (i:=8) nd (qA (PV.w (PVf.s (qE (zH (yU (PV.w (qF (zE 5) (PV.w (jO (PV.w (yF pwI (PV.w (yB pwI pwI)))) pwI)))) (PV.w (yB pwI pwI))) (zH (zP C__law_great hr (zF (pnV 5) zO)) zU))))) (PV.w (qF (PV.w (jK (zE 6) pwI)) pwI))))) zR)
  (zC (qH (PWv.t (qM (xL hr (pnV 3) (PV.n (PVf.s (qE zU)))) (qM (wF hr (PV.n (qA (PV.w (qA (zE 3) (PV.w (xN jD)))) pwI)) (pnV 7)) (qV (wF hr (PV.n (qA (PV.w (qA (zE 3) (PV.w (xN jD)))) pwI)) (pnV 8)))))) (zI (zT (i:=8) nd (jO (zE 8) pwI))) zR)
  (zI (jW (i:=3) (yP (zH (zY 7) (zH (zY 2) (zH (zY 8) zU))))))))))))))))
  (zC (qH (PWv.t (qM (xL hr (pnV 3) (PV.n (PVf.s (qE zU)))) (qV (wF hr (PV.n (qF (zE 1) pwI)) pnI)))) (zI (sS (i:=3) (yP (zH qJ (zH (qA (PV.w (qA (zE 3) pwI)) pwI) (zH (qA (PV.w (qA (zE 3) pwI)) pwI) zU)))) jD)) zR)
  (zC (qH (PWv.t (qM (xL hr (pnV 3) (PV.n (PVf.s (qE zU)))) (qV (wF hr (PV.n (qF (PV.w (jK (zE 1) pwI)) pwI)) pnI)))) (zI (sS (i:=3) (yP (zH (qA (PV.w (qA (zE 3) (PV.w (xN jD)))) pwI) (zH qJ (zH (qA (PV.w (qA (zE 3) (PV.w (xN jD)))) pwI) zU)))) (xN jD))) zR)
  (zI (yS 3)))))))
theorem oV:FnScope ["_law_pieces_here","_law_cells","_law_side","_law_found","_law_k"] ["_law_pieces_here","_law_cells","_law_side"] (zK (top 31)):={}
theorem tS{f:aB}{fd:bQ}(Fn:Fun K "_law_dealt" "_law_dealt" (top 31) f fd)(T:Glb K mg): FnOk P w K mg base CX0 1 f fd ["_law_pieces_here","_law_cells","_law_side"] (spF K 3 eV):=by
 have nd:=oV.nd;refine jL (k:=0) (g:=lZ) Fn oV (fun cdv A outer s H E hr=>?_) (fun ds r hl e=>qD e)
 exact(zC (jT (i:=3) nd (qE zU))
  (zC (yI nW.never rfl (wB T.b_range (yZ T.b_len (qN (zE 0) jG))) (zS (i:=4) nd) (zI (qH (xL hr (PV.n (qF (PV.w (qF (PV.w (qF (PV.w (jO (PV.w (yF (PV.w (qA (zE 1) (zE 4))) pwI)) (PV.w (yF (zE 4) pwI)))) pwI)) pwI)) pwI)) (pnV 2)) (zI (jW (i:=3) (qA (zE 0) (zE 4)))) zR)))
  (zI (yS 3))))
theorem nP:FnScope ["_law_pieces_here","_law_cells","_law_way","_law_others","_law_at"] ["_law_pieces_here","_law_cells","_law_way"] (zK (top 32)):={}
theorem sE{f:aB}{fd:bQ}(Fn:Fun K "_law_second" "_law_second" (top 32) f fd)(T:Glb K mg)(C__law_dealt:Cal P w K mg base "_law_dealt" 1 3 eV)(C__law_pieces:Cal P w K mg base "_law_pieces" 2 2 fA):FnOk P w K mg base CX0 3 f fd ["_law_pieces_here","_law_cells","_law_way"] (spF K 3 fX):=by
 have nd:=nP.nd;refine jL (k:=2) (g:=lG) Fn nP (fun cdv A outer s H E hr=>?_) (fun ds r hl e=>qD e)
 exact(zC (jT (i:=3) nd (yO C__law_dealt hr (zF (pnV 0) (zF (pnV 1) (zF pnI zO)))))
  (zC (qH (PWv.t (qM (wF hr (PV.n (qF (zE 2) pwI)) pnI) (qV (xL hr (pnV 3) (PV.n (PVf.s (qE zU))))))) (zC (zT (i:=4) nd (qF (PV.w (jK (zE 2) pwI)) (PV.w (yZ T.b_len (qN (zE 3) jG)))))
  (zI (sS (i:=3) (yP (zH (qA (PV.w (qA (zE 3) (zE 4))) pwI) (zH (qA (PV.w (qA (zE 3) (zE 4))) pwI) (zH (jO (PV.w (yF (PV.w (yB (PV.w (yB pwI pwI)) pwI)) pwI)) (PV.w (qF (PV.w (jK (zE 2) pwI)) (PV.w (yB pwI pwI))))) zU)))) (zY 4)))) zR)
  (zC (qH (wF hr (PV.n (qF (zE 2) pwI)) pnI) (zI (xO (yO C__law_pieces hr (zF (PV.n (PVf.s (UC rfl T.b_list T.b_reversed (zY 1)))) (zF (PV.n (jK (zE 2) pwI)) zO))))) zR)
  (zI (yS 3)))))
theorem nS:FnScope ["_law_found","_law_k","_law_low","_law_behind","_law_value","_law_ahead"] ["_law_found"] (zK (top 33)):={}
theorem sH{f:aB}{fd:bQ}(Fn:Fun K "_law_is_map" "_law_is_map" (top 33) f fd)(T:Glb K mg)(C__law_whole:Cal P w K mg base "_law_whole" 1 1 dP):FnOk P w K mg base CX0 2 f fd ["_law_found"] (spF K 1 iT):=by
 have nd:=nS.nd;refine jL (k:=1) (g:=nK) Fn nS (fun cdv A outer s H E hr=>?_) (fun ds r hl e=>qD e)
 exact(zC (qH (yR (PVn.t (PV.n (CA T.b_isinstance T.b_list (by decide +kernel) (zE 0))))) (zI (qG (PV.w wT))) zR)
  (zC (yI nW.never rfl (wB T.b_range (yZ T.b_len (qN (zE 0) jG))) (zS (i:=1) nd) (zC (qH (PWv.t (xG (yR (PVn.t (PV.n (CA T.b_isinstance T.b_tuple (by decide +kernel) (PV.w (qA (zE 0) (zE 1))))))) (xG (xL hr (PV.n (yZ T.b_len (qN (PV.w (qA (zE 0) (zE 1))) jG))) pnI) (yT (yR (PVn.t (PV.n (zP C__law_whole hr (zF (PV.n (qA (PV.w (qA (zE 0) (zE 1))) pwI)) zO))))))))) (zI (qG (PV.w wT))) zR)
  (zC (ZR (qA (zE 0) (zE 1)) (yY (n:=3) rfl (zX (zS (i:=2) nd) (zX (zS (i:=3) nd) (zX (zS (i:=4) nd) yG)))))
  (zC (qH (PWv.t (qM (yR (PVn.t (PV.n (zP C__law_whole hr (zF (pnV 2) zO))))) (qV (PWv.t (xG (qT (pnV 2) (PV.n qJ)) (yT (UI (zE 1) pwI))))))) (zI (qG (PV.w wT))) zR)
  (zC (qH (PWv.t (qM (yR (PVn.t (PV.n (zP C__law_whole hr (zF (pnV 3) zO))))) (qV (PWv.t (xG (qT (pnV 3) (PV.n qJ)) (yT (EM (zE 1) (PV.w (yU (PV.w (yZ T.b_len (qN (zE 0) jG))) pwI))))))))) (zI (qG (PV.w wT))) zR)
  (zC (qH (PWv.t (qM (qT (pnV 2) (PV.n qJ)) (qM (qT (pnV 3) (PV.n qJ)) (qV (pt_ge (zE 2) (zE 3)))))) (zI (qG (PV.w wT))) zR)
  (zC (zT (i:=5) nd (qA (zE 0) (PV.w (ZN rfl T.b_max (qN (PV.w (yU (zE 1) pwI)) (qN pwI jG))))))
  (zI (qH (PWv.t (qM (UI (zE 1) pwI) (qV (PWv.t (xG (UI (PV.w (qA (zE 5) pwI)) (zE 2)) (yT (wF hr (PV.n (LO (zE 5) (wW pwI) tD)) (PV.n (yP (zH (zY 2) (zH (zY 4) zU))))))))))) (zI (qG (PV.w wT))) zR)))))))))
  (zI (qG (PV.w wT)))))
theorem nQ:FnScope ["_law_lists","_law_found","_law_pieces_here","_law_piece","_law_end"] ["_law_lists"] (zK (top 34)):={}
theorem sF{f:aB}{fd:bQ}(Fn:Fun K "_law_places" "_law_places" (top 34) f fd)(T:Glb K mg): FnOk P w K mg base CX0 1 f fd ["_law_lists"] (spF K 1 gC):=by
 have nd:=nQ.nd;refine jL (k:=0) (g:=nJ) Fn nQ (fun cdv A outer s H E hr=>?_) (fun ds r hl e=>qD e)
 exact(zC (jT (i:=1) nd (qE (zH jD zU)))
  (zC (yI nW.never rfl (yH (zY 0)) (zS (i:=2) nd) (zI (yI nW.never rfl (yH (zY 2)) (zS (i:=3) nd) (zI (yI nW.never rfl (yH (LO (zE 3) tD (wW pwI))) (zS (i:=4) nd) (zI (qH (qT (pnV 4) (PV.n qJ)) (zC (jW (i:=1) (yU (zE 4) pwI))
  (zI (jW (i:=1) (zY 4)))) zR)))))))
  (zI (xO (uP rfl T.b_sorted T.b_set (zE 1))))))
theorem nN:FnScope ["_law_pieces_here","_law_places_here","_law_found","_law_k","_law_place"] ["_law_pieces_here","_law_places_here"] (zK (top 35)):={}
theorem sC{f:aB}{fd:bQ}(Fn:Fun K "_law_values" "_law_values" (top 35) f fd)(T:Glb K mg): FnOk P w K mg base CX0 1 f fd ["_law_pieces_here","_law_places_here"] (spF K 2 dJ):=by
 have nd:=nN.nd;refine jL (k:=0) (g:=nI) Fn nN (fun cdv A outer s H E hr=>?_) (fun ds r hl e=>qD e)
 exact(zC (jT (i:=2) nd (qE zU))
  (zC (zT (i:=3) nd jD)
  (zC (yI nW.never rfl (yH (zY 1)) (zS (i:=4) nd) (zC (AO 100000 nW.never (PWv.t (qM (EM (zE 3) (PV.w (yZ T.b_len (qN (zE 0) jG)))) (qM (qT (PV.n (qA (PV.w (qA (zE 0) (zE 3))) pwI)) (PV.n qJ)) (qV (pt_le (PV.w (qA (PV.w (qA (zE 0) (zE 3))) pwI)) (zE 4)))))) (zI (zT (i:=3) nd (jO (zE 3) pwI))))
  (zI (qH (PWv.t (qM (EM (zE 3) (PV.w (yZ T.b_len (qN (zE 0) jG)))) (qV (PWv.t (xG (EN (PV.n (qA (PV.w (qA (zE 0) (zE 3))) pwI)) (PV.n qJ)) (yT (pt_le (PV.w (qA (PV.w (qA (zE 0) (zE 3))) pwI)) (zE 4)))))))) (zI (jW (i:=2) (qA (PV.w (qA (zE 0) (zE 3))) pwI))) (zI (jW (i:=2) qJ))))))
  (zI (yS 2)))))
theorem nO:FnScope ["_law_one","_law_other"] ["_law_one","_law_other"] (zK (top 36)):={}
theorem sD{f:aB}{fd:bQ}(Fn:Fun K "_law_unlike" "_law_unlike" (top 36) f fd)(T:Glb K mg): FnOk P w K mg base CX0 1 f fd ["_law_one","_law_other"] (spF K 2 dM):=by
 have nd:=nO.nd;refine jL (k:=0) (g:=lF) Fn nO (fun cdv A outer s H E hr=>?_) (fun ds r hl e=>qD e);exact(zI (qG (PV.w (vQ (EL (pnV 0) (PV.n qJ)) (vQ (EL (pnV 1) (PV.n qJ)) (vP (pv_ne hr (pnV 0) (pnV 1))))))))
theorem oW:FnScope ["_law_ones","_law_others","_law_found","e","_law_other","_law_there"] ["_law_ones","_law_others"] (zK (top 37)):={}
theorem tT{f:aB}{fd:bQ}(Fn:Fun K "_law_clash" "_law_clash" (top 37) f fd)(T:Glb K mg)(C_merged:Cal P w K mg base "merged" 4 2 (fZ eJ))(C__law_unlike:Cal P w K mg base "_law_unlike" 1 2 dM)(C__law_values:Cal P w K mg base "_law_values" 1 2 dJ)(C__law_whole:Cal P w K mg base "_law_whole" 1 1 dP){XS0:aB}{XC3:aB}(XT_3:XT K mg 3 "SpanError" XC3 XS0)(CX_merged:CalF P w K mg base "merged" 4 2 fW XC3)(XF_3:XTF K 3 XC3):FnOk P w K mg base CX0 5 f fd ["_law_ones","_law_others"] (spF K 2 gO):=by
 have nd:=oW.nd;have nI0:(["_law_number"]:List Str).Nodup:=by decide +kernel
 obtain⟨D0_1,D0_4,D0_8,D0_2,D0_7,D0_6,D0_12,D0_9,D0_5,D0_11,D0_10,m0_1,m0_4,m0_8,m0_2,m0_7,m0_6,m0_12,m0_9,m0_5,m0_11,m0_10,it0⟩:=T.isxT_0;refine jL (k:=4) (g:=mB) Fn oW (fun cdv A outer s H E hr=>?_) (fun ds r hl e=>qD e)
 exact(zC (zT (i:=2) nd (PVf.s (qE zU)))
  (zC (UJ (i:=3) (t:=3) nd XT_3.gl XT_3.cat XT_3.nm (fun W=>(UL (zP C_merged hr (zF (pnV 0) (zF (pnV 1) zO)))))
  (fun W=>OG CX_merged hr (zF (pnV 0) (zF (pnV 1) zO)))
  (fun ea oe xe hH=>(zC (zT (i:=4) nd (BZ 3 (ZO (i:=3) T.b_isinstance (jP m0_1 (jP m0_4 (jP m0_8 (jP m0_2 (jP m0_7 (jP m0_6 (jP m0_12 (jP m0_9 (jP m0_5 (jP m0_11 (jP m0_10 pac_nil))))))))))) it0)))
  (zI (qH (PWv.t (qM (PVn.t (PV.n (BZ 3 (pv_isx (i:=3) T.b_isinstance T.isx_Clash_3)))) (qM (PVn.t (PV.n (BZ 3 (ZP (i:=3) T.b_isinstance T.b_ValueError T.isxB_ValueError_3)))) (qV (yR (PVn.t (pnV 4))))))) (zI (zT (i:=2) nd (PVf.s (qE (zH (BY (i:=3) XF_3.nm XF_3.xin XF_3.hd XF_3.f1) (zH (BY (i:=3) XF_3.nm XF_3.xin XF_3.hd XF_3.f2) (zH (BY (i:=3) XF_3.nm XF_3.xin XF_3.hd XF_3.f3) zU))))))) zR)))))
  (zC (qH (PWv.t (xG (xL hr (PV.n (yZ T.b_len (qN (zE 2) jG))) pnI) (yT (yR (PVn.t (PV.n (pv_all rfl T.b_all (qN (PV.w (PVf.s (EK (NY:=["_law_number"]) (mp:=[none]) (wA (by kernel_rfl)) rfl (yH (zY 2)) (fun c=>(zS (i:=0) nI0)) (fun c=>CF) (fun c=>(zP C__law_whole hr (zF (pnV 0) zO)))))) jG)))))))) (zI (qG (PV.w wT))) zR)
  (zC (zT (i:=5) nd (PVf.s (qE (zH (qA (PV.w (zP C__law_values hr (zF (pnV 0) (zF (PV.n (PVf.s (xS (zE 2) tD (wW pwI)))) zO)))) pwI) (zH (qA (PV.w (zP C__law_values hr (zF (pnV 1) (zF (PV.n (PVf.s (xS (zE 2) tD (wW pwI)))) zO)))) pwI) zU)))))
  (zI (qG (PV.w (vQ (UD hr (pnV 5) (PV.n (PVf.s (xS (zE 2) (wW pwI) tD)))) (vP (zP C__law_unlike hr (zF (PV.n (qA (zE 2) pwI)) (zF (PV.n (qA (zE 2) pwI)) zO))))))))))))
theorem TY:FnScope ["_law_script","_law_cells","_law_pieces_here","_law_ones","_law_others","_law_places_here","_law_due","_law_clash_here","_law_one","_law_other","_law_handed","_law_told"] ["_law_script"] (zK (top 38)):={}
theorem fok_law{f:aB}{fd:bQ}(Fn:Fun K "law" "law" (top 38) f fd)(T:Glb K mg)(C__law_pieces:Cal P w K mg base "_law_pieces" 2 2 fA)(C__law_dealt:Cal P w K mg base "_law_dealt" 1 3 eV)(C__law_second:Cal P w K mg base "_law_second" 3 3 fX)(C__law_places:Cal P w K mg base "_law_places" 1 1 gC)(C_merged:Cal P w K mg base "merged" 4 2 (fZ eJ))(C__law_cell_at:Cal P w K mg base "_law_cell_at" 1 2 eL)(C__law_values:Cal P w K mg base "_law_values" 1 2 dJ)(C__law_unlike:Cal P w K mg base "_law_unlike" 1 2 dM)(C__law_clash:Cal P w K mg base "_law_clash" 5 2 gO)(C__law_is_map:Cal P w K mg base "_law_is_map" 2 1 iT):FnOk P w K mg base CX0 6 f fd ["_law_script"] (spF K 1 nT):=by
 have nd:=TY.nd;have nI0:(["_law_one","_law_other"]:List Str).Nodup:=by decide +kernel
 refine jL (k:=5) (g:=rA) Fn TY (fun cdv A outer s H E hr=>?_) (fun ds r hl e=>qD e)
 exact(zC (zT (i:=1) nd (PVf.s (xS (zE 0) (wW pwI) (wW pwI))))
  (zC (zT (i:=2) nd (zP C__law_pieces hr (zF (pnV 1) (zF (PV.n (zP C__law_cell_at hr (zF (pnV 0) (zF pnI zO)))) zO))))
  (zC (zT (i:=3) nd (zP C__law_dealt hr (zF (pnV 2) (zF (pnV 1) (zF pnI zO)))))
  (zC (zT (i:=4) nd (zP C__law_second hr (zF (pnV 2) (zF (pnV 1) (zF (PV.n (zP C__law_cell_at hr (zF (pnV 0) (zF pnI zO)))) zO)))))
  (zC (zT (i:=5) nd (zP C__law_places hr (zF (PV.n (PVf.s (qE (zH (zY 3) (zH (zY 4) zU))))) zO)))
  (zC (jT (i:=6) nd (qE zU))
  (zC (zT (i:=7) nd wT)
  (zC (UK nW.never rfl (ZZ T.b_zip (zP C__law_values hr (zF (pnV 3) (zF (pnV 5) zO))) (zP C__law_values hr (zF (pnV 4) (zF (pnV 5) zO)))) (yY (n:=2) rfl (zX (zS (i:=8) nd) (zX (zS (i:=9) nd) yG))) (zC (zT (i:=7) nd (pv_or (zY 7) (vP (zP C__law_unlike hr (zF (pnV 8) (zF (pnV 9) zO))))))
  (zI (jW (i:=6) (qA (PV.w (PVf.s (qE (zH (zY 8) (zH (zY 9) zU))))) (PV.w (LP T.b_int (qN (PV.w (pv_is (pnV 8) (PV.n qJ))) jG))))))))
  (zC (zT (i:=10) nd (PVf.s (qE (zH (PVf.s (wI T.b_list (zE 3))) (zH (PVf.s (wI T.b_list (zE 4))) zU)))))
  (zC (qH (PVn.t (pnV 7)) (zC (zT (i:=11) nd (vQ (zP C__law_clash hr (zF (PV.n (qA (zE 10) pwI)) (zF (PV.n (qA (zE 10) pwI)) zO))) (vP (zP C__law_clash hr (zF (PV.n (qA (zE 10) pwI)) (zF (PV.n (qA (zE 10) pwI)) zO))))))
  (zI (qG (PV.w (vQ (zY 11) (vP (UD hr (pnV 10) (PV.n (PVf.s (qE (zH (zY 3) (zH (zY 4) zU)))))))))))) zR)
  (zC (jT (i:=11) nd (yO C_merged hr (zF (PV.n (qA (zE 10) pwI)) (zF (PV.n (qA (zE 10) pwI)) zO))))
  (zC (qH (PWv.t (xG (yR (PVn.t (PV.n (zP C__law_is_map hr (zF (pnV 11) zO))))) (yT (xL hr (PV.n (zP C__law_values hr (zF (pnV 11) (zF (pnV 5) zO)))) (pnV 6))))) (zI (qG (PV.w wT))) zR)
  (zC (zT (i:=5) nd (zP C__law_places hr (zF (ZL (zF (pnV 11) zO)) zO)))
  (zC (ON (i:=6) nd (NY:=["_law_one","_law_other"]) (mp:=[none,none]) (wA (by kernel_rfl)) rfl (pic_zip T.b_zip (zP C__law_values hr (zF (pnV 3) (zF (pnV 5) zO))) (zP C__law_values hr (zF (pnV 4) (zF (pnV 5) zO)))) (fun c=>(yY (n:=2) rfl (zX (zS (i:=0) nI0) (zX (zS (i:=1) nI0) yG)))) (fun c=>CF) (fun c=>(qA (PV.w (PVf.s (qE (zH (zY 0) (zH (zY 1) zU))))) (PV.w (LP T.b_int (qN (PV.w (pv_is (pnV 0) (PV.n qJ))) jG))))))
  (zC (qH (PWv.t (xG (xL hr (PV.n (zP C__law_values hr (zF (pnV 11) (zF (pnV 5) zO)))) (pnV 6)) (yT (xL hr (PV.n (zP C_merged hr (zF (PV.n (PVf.s (wI T.b_list (zE 4)))) (zF (PV.n (PVf.s (wI T.b_list (zE 3)))) zO)))) (pnV 11))))) (zI (qG (PV.w wT))) zR)
  (zC (ZQ (i:=11))
  (zI (qG (PV.w (UD hr (pnV 10) (PV.n (PVf.s (qE (zH (zY 3) (zH (zY 4) zU)))))))))))))))))))))))))
end
open FL
open Builtin.Int (intBits)
theorem VT(p:Int):∀E:List Int,(∃e∈E,e<=p)->∃m∈E,m<=p/\∀e∈E,e<=p->e<=m
 |[],h=>by obtain⟨_,h,_⟩:=h;cases h
 | a :: E, h => by
   by_cases h1:∃e∈E,e<=p
   . obtain ⟨m, hm, mp, mm⟩ := VT p E h1
     by_cases ha:a<=p/\m<=a
     . refine ⟨a, aF, ha.1, fun e he le => ?_⟩;rcases aH.mp he with rfl | he
       . exact cQ _
       . exact dX (mm e he le) ha.2
     . refine ⟨m, aI _ hm, mp, fun e he le => ?_⟩;rcases aH.mp he with rfl | he
       . omega
       . exact mm e he le
   . obtain ⟨e, he, le⟩ := h;rcases aH.mp he with rfl | he
     . refine ⟨e, aF, le, fun e' he' le' => ?_⟩;rcases aH.mp he' with rfl | he'
       . exact cQ _
       . exact(h1 ⟨e',he',le'⟩).elim
     . exact(h1 ⟨e,he,le⟩).elim
theorem VS:∀E:List Int,E≠[]->∃m∈E,∀e∈E,m<=e
 |[],h=>(h rfl).elim
 |[a],_=>⟨a,aF,fun e he=>by rw[cD.mp he];exact cQ _⟩
 | a :: b :: E, _ => by
   obtain⟨m,hm,mm⟩:=VS (b::E) (by simp)
   by_cases ha:a<=m
   . refine ⟨a, aF, fun e he => ?_⟩;rcases aH.mp he with rfl | he
     . exact cQ _
     . exact dX ha (mm e he)
   . refine ⟨m, aI _ hm, fun e he => ?_⟩;rcases aH.mp he with rfl | he
     . omega
     . exact mm e he
theorem hit_ex(p:Int)(E:List Int):∃z,(z=0\/∃e∈E,z=e\/z=e-1)/\∀e∈E,(e<=p↔e<=z):=by
 by_cases h:∃e∈E,e<=p
 . obtain⟨m, hm, mp, mm⟩ := VT p E h;exact⟨m,.inr ⟨m,hm,.inl rfl⟩,fun e he=>⟨mm e he,fun q=>dX q mp⟩⟩
 . by_cases h0 : E = []
   . exact⟨0,.inl rfl,fun e he=>by rw[h0] at he;cases he⟩
   . obtain⟨m, hm, mm⟩ := VS E h0;refine⟨m-1,.inr ⟨m,hm,.inr rfl⟩,fun e he=>⟨fun q=>(h ⟨e,he,q⟩).elim,fun q=>?_⟩⟩;have:=mm e he;omega
theorem AH{ps:List Rw}(o:Ord ps){p z:Int}(h:∀r∈ps,∀e,(r.1=some e\/r.2.1=some e)->(e<=p↔e<=z)):valL ps p=valL ps z:=by
 rw[xD o,xD o]
 have:∀r∈ps,has3 r p=has3 r z:=fun r hr=>by
  have h1:=h r hr;obtain⟨lo,bh,v⟩:=r;have e1:∀e,lo=some e->(e<=p↔e<=z):=fun e q=>h1 e (.inl q);have e2:∀e,bh=some e->(e<=p↔e<=z):=fun e q=>h1 e (.inr q);rw[lA];cases lo with
  | none =>
    cases bh with
    |none=>simp[has3,hasS]
    |some b=>have:=e2 b rfl;simp[has3,hasS];omega
  | some a =>
    have:=e1 a rfl;cases bh with
    |none=>simp[has3,hasS];omega
    |some b=>have:=e2 b rfl;simp[has3,hasS];omega
 have fe:ps.find? (fun r=>has3 r p)=ps.find? (fun r=>has3 r z):=by
  clear o h
  induction ps with
  |nil=>rfl
  | cons r t ih =>
    rw[cR,cR,this r aF,ih fun r hr=>this r (aI _ hr)]
 rw[fe]
noncomputable def endsO(ps:List Rw):List Int:=ps.flatMap fun r=>r.1.toList++r.2.1.toList
theorem tJ{ps:List Rw}{e:Int}: e∈endsO ps↔∃r∈ps,r.1=some e\/r.2.1=some e:=by
 unfold endsO;simp only[SG,bI,Option.mem_toList,Option.mem_def]
theorem GA{o:Option Int}{e z:Int}(h:o=some e)(hz:z=e\/z=e-1):z∈endI o:=by
 subst h;unfold endI;rcases hz with rfl | rfl<;>simp
theorem ZY{ps qs:List Rw}(o1:Ord ps)(o2:Ord qs)(p:Int):∃z∈plZ (spO ps++spO qs),valL ps z=valL ps p/\valL qs z=valL qs p:=by
 obtain⟨z,hz,h⟩:=hit_ex p (endsO ps++endsO qs);refine⟨z,?_,(AH o1 fun r hr e he=>h e (bI.mpr (.inl (tJ.mpr ⟨r,hr,he⟩)))).symm,(AH o2 fun r hr e he=>h e (bI.mpr (.inr (tJ.mpr ⟨r,hr,he⟩)))).symm⟩;unfold plZ;rw[mem_srtU];rcases hz with rfl | ⟨e,he,hz⟩
 . exact aF
 . refine aI _ ?_;unfold plS;rw [SG]
   have key:∀l:List Rw,e∈endsO l->∃s∈spO l,z∈endI s.1++endI s.2:=fun l hl=>by
    obtain⟨r,hr,hre⟩:=tJ.mp hl;refine⟨(r.1,r.2.1),fL.mpr ⟨r,hr,rfl⟩,?_⟩;rcases hre with hre | hre
    . exact bI.mpr (.inl (GA hre hz))
    . exact bI.mpr (.inr (GA hre hz))
   rcases bI.mp he with he | he
   . obtain⟨s, hs, q⟩ := key ps he;exact⟨s,bI.mpr (.inl hs),q⟩
   . obtain⟨s, hs, q⟩ := key qs he;exact⟨s,bI.mpr (.inr hs),q⟩
theorem ord_sub{ps qs:List Rw}(h:qs.Sublist ps)(o:Ord ps):Ord qs:=⟨fun r hr=>o.ok r (h.subset hr),o.pw.sublist h⟩
theorem UA(ps:List Rw){k:Nat}{r:Rw}(h:ps[k]?=some r):ixD (.lst (ps.map rwD)) (.int (k:Int))=some (rwD r):=by
 have hk:k<ps.length:=(aV.mp h).1;rw[yJ _ (by omega) (by simp;omega)];simp[h]
theorem tX(ps:List Rw)(cs:List Int)(sd:Int)(hl:ps.length=cs.length)(hk:cs.length<=1000):∀(n k:Nat) (acc:List Rw) (x:Sl),k+n=ps.length->acc.Sublist (ps.take k) →
  ∃(qs:List Rw) (y:Sl),qs.Sublist ps/\qW (zQ 4) fY ((List.range' k n).map fun(i:Nat)=>D.int (i:Int)) [.v (.lst (ps.map rwD)),.v (.lst (cs.map D.int)),.v (.int sd),.own (acc.map rwD),x] =
   some (.nx [.v (.lst (ps.map rwD)),.v (.lst (cs.map D.int)),.v (.int sd),.own (qs.map rwD),y])
 |0,k,acc,x,h,s=>⟨acc,x,by rw[show k=ps.length by omega,List.take_length] at s;exact s,rfl⟩
 | n + 1, k, acc, x, h, s => by
   have kl:k<ps.length:=by omega
   have hr:ps[k]?=some ps[k]:=aK kl;have i1:=MP cs (k:=(k:Int)) (by omega) (by omega);have i2:=UA ps hr;have la:acc.length<16777216:=by have:=s.length_le;rw[dS] at this;omega
   generalize cel cs (k:Int).toNat=q at *;have m1:yX (.int q) (.int 48271)=some (.int (q*48271)):=yE (.of_right (jC (by decide)));have m2:yX (.int (k:Int)) (.int 7919)=some (.int ((k:Int)*7919)):=yE (.of_right (jC (by decide)));have r1:∀y,jI (.int y) (.int 2147483629)=some (.int (y%2147483629)):=fun y=>jN y (by decide)
   obtain⟨acc',s',turn⟩:∃acc':List Rw,acc'.Sublist (ps.take (k+1))/\fY [.v (.lst (ps.map rwD)),.v (.lst (cs.map D.int)),.v (.int sd),.own (acc.map rwD),.v (.int (k:Int))] =
     some (.nx [.v (.lst (ps.map rwD)),.v (.lst (cs.map D.int)),.v (.int sd),.own (acc'.map rwD),.v (.int (k:Int))]):=by
    by_cases c:(q*48271+(k:Int)*7919)%2147483629%7%3=sd
    . refine⟨acc, s.trans (List.take_sublist_take_left (kQ k)), ?_⟩;simp[fY,i1,m1,m2,r1,c]
    . refine ⟨acc ++ [ps[k]], ?_, ?_⟩
      . rw[List.take_succ, hr];exact s.append (AB _)
      . simp[fY,i1,i2,m1,m2,r1,c,la]
   obtain⟨qs,y,hq,e⟩:=tX ps cs sd hl hk n (k+1) acc' (.v (.int (k:Int))) (by omega) s';refine⟨qs,y,hq,?_⟩;rw[SE];simp only[bO,qW,zQ,bF,dE,dD,turn];exact e
theorem GF(ps:List Rw)(cs:List Int)(sd:Int)(o:Ord ps)(hl:ps.length=cs.length)(hk:cs.length<=1000):∃qs:List Rw,Ord qs/\qs.length<=ps.length/\eV [.lst (ps.map rwD),.lst (cs.map D.int),.int sd]=some (.fresh (qs.map rwD)):=by
 obtain⟨qs,y,hq,e⟩:=tX ps cs sd hl hk ps.length 0 [] .no (by omega) (List.nil_sublist _);rw[<- sZ] at e;refine⟨qs,ord_sub hq o,hq.length_le,?_⟩;have ok:okR (ps.length:Int):=wS (by omega) (by omega);have fl:=jY qs;unfold eV runG lZ
 rw[zN (ds':=[.v (.lst (ps.map rwD)),.v (.lst (cs.map D.int)),.v (.int sd),.own [],.no]) (by simp[args]),
  zN (ds':=[.v (.lst (ps.map rwD)),.v (.lst (cs.map D.int)),.v (.int sd),.own (qs.map rwD),y]) (by simp only[dI] at e;simp[ok,e])]
 simp[fl]
theorem OY{ps qs:List Rw}(h:spO qs=spO ps)(o:Ord ps):Ord qs:=by
 refine⟨fun r hr=>?_,?_⟩
 . have : (r.1, r.2.1) ∈ spO ps := by rw [<- h]; exact fL.mpr ⟨r, hr, rfl⟩
   obtain⟨r',hr',e⟩:=fL.mp this;have:=o.ok r' hr';unfold ok3 at this ⊢;rw[<- e];exact this
 . have key:∀l:List Rw,l.Pairwise ahead↔(spO l).Pairwise fun a b=>∃x y,a.2=some x/\b.1=some y/\x<=y:=fun l=>by
    unfold spO;rw[List.pairwise_map];rfl
   rw[key,h,<- key];exact o.pw
theorem AS(cs:List Int)(h:Int)(hl:cs.length<=1000)(hc:∀c∈cs,intBits c<=1048576):∃ps:List Rw,MapF ps/\ps.length=cs.length/\fA [.lst (cs.map D.int),.int h]=some (.fresh (ps.map rwD)):=
 pc_ex (c1:=50021) (c2:=16807) (c3:=32452843) (m1:=2147483587) ⟨by decide,by decide,by decide,by decide⟩ cs h hl hc
theorem OI(ps:List Rw)(cs:List Int)(w:Int)(o:Ord ps)(hl:ps.length=cs.length)(hk:cs.length<=1000)(hc:∀c∈cs,intBits c<=1048576) :
  ∃qs:List Rw,Ord qs/\qs.length<=cs.length/\fX [.lst (ps.map rwD),.lst (cs.map D.int),.int w]=some (.fresh (qs.map rwD)):=by
 obtain⟨os,oo,lo,e1⟩:=GF ps cs 1 o hl hk;have ne:=yM os;unfold fX runG lG;rw[zN (ds':=[.v (.lst (ps.map rwD)),.v (.lst (cs.map D.int)),.v (.int w),.own (os.map rwD),.no]) (by simp[args,e1,retF])]
 by_cases h1:w%3=1/\os≠[]
 . obtain ⟨h1, h0⟩ := h1;have lp:0 < os.length:=List.length_pos_iff.mpr h0;have r1:jI (.int (w / 3)) (.int (os.length:Int))=some (.int (w / 3 % (os.length:Int))):=jN _ (by omega);have q0:=lD (w / 3) (show (os.length:Int)≠0 by omega);have q1:=pZ (w / 3) (show (0:Int) < (os.length:Int) by omega);obtain ⟨k,hk'⟩:∃ k:Nat,w / 3 % (os.length:Int)=(k:Int):=⟨(w / 3 % (os.length:Int)).toNat,by omega⟩
   rw[hk'] at r1 q0 q1;have kl:k<os.length:=by omega
   have hr:os[k]?=some os[k]:=aK kl;have i2:=UA os hr;have p1:powD (.int 10) (.int 60)=some (.int (10 ^ 60)):=pow10 (by decide) (by decide);have p2:=LU;have m1:yX (.int ((10 ^ 60) ^ 8)) (.int 10)=some (.int ((10 ^ 60) ^ 8*10)):=yE (.of_right (jC (by decide)));have r2:jI (.int (w/3)) (.int (10 ^ 60))=some (.int (w/3%10 ^ 60)):=jN _ (by decide);have nb:(!os.isEmpty)=true:=by cases os with | nil=>exact(h0 rfl).elim | cons=>rfl
   rw[nb] at ne;have ix:ixN os.length (k:Int)=some k:=by unfold ixN;rw[if_pos (by omega),if_pos (by omega)];simp
   generalize hV:((10:Int) ^ 60) ^ 8*10+w/3%10 ^ 60=V at *;generalize hR:os[k]=r at *;have e0:D.tup [oi r.1,oi r.2.1,.int V]=rwD (r.1,r.2.1,some V):=rfl;have es:(os.map rwD).set k (rwD (r.1,r.2.1,some V))=(os.set k (r.1,r.2.1,some V)).map rwD:=(List.map_set ..).symm;refine⟨os.set k (r.1,r.2.1,some V),OY ?_ oo,by simp;omega,?_⟩
   . unfold spO;rw [List.map_set];refine iK fun i=>?_;rw [List.getElem?_set]
     split
     . rename_i q;subst q;rw[if_pos (by simp;omega),bT,hr];rfl
     . rfl
   . have fl := jY (os.set k (r.1, r.2.1, some V));have x0:ixD (rwD r) (.int 0)=some (oi r.1):=by simp [rwD]
     have x1:ixD (rwD r) (.int 1)=some (oi r.2.1):=by simp[rwD]
     rw[zN (ds':=[.v (.lst (ps.map rwD)),.v (.lst (cs.map D.int)),.v (.int w),.own ((os.set k (r.1,r.2.1,some V)).map rwD),.v (.int (k:Int))]) (by
       generalize hQ:os.map rwD=Q at *;have lq:Q.length=os.length:=by rw[<- hQ];simp
       simp[-Int.reducePow,-Nat.reducePow,h1,ne,r1,r2,i2,x0,x1,p1,p2,m1,hV,lq,ix,e0,es]),
      zN (ds':=[.v (.lst (ps.map rwD)),.v (.lst (cs.map D.int)),.v (.int w),.own ((os.set k (r.1,r.2.1,some V)).map rwD),.v (.int (k:Int))]) (by simp[h1])]
     generalize (os.set k (r.1,r.2.1,some V)).map rwD=Q2 at fl ⊢;simp[fl]
 . have s1:(ifG (andT (zL (zD eqD (zD jI (zG 2) (zA (.int 3))) (zA (.int 1)))) (zL (zD neD (zG 3) (mkL (zZ zW))))) (qC (jQ 4 (zD jI (zD qU (zG 2) (zA (.int 3))) (callB lenD (zB (zG 3) zW))))
    (putG 3 (qR 4) (mkT (zZ (zB (zD ixD (zD ixD (zG 3) (zG 4)) (zA (.int 0))) (zB (zD ixD (zD ixD (zG 3) (zG 4)) (zA (.int 1))) (zB (zD xH (zD yX (zD powD (zD powD (zA (.int 10)) (zA (.int 60))) (zA (.int 8))) (zA (.int 10))) (zD jI (zD qU (zG 2) (zA (.int 3))) (zD powD (zA (.int 10)) (zA (.int 60))))) zW))))))) qL)
    [.v (.lst (ps.map rwD)),.v (.lst (cs.map D.int)),.v (.int w),.own (os.map rwD),.no]=some (.nx [.v (.lst (ps.map rwD)),.v (.lst (cs.map D.int)),.v (.int w),.own (os.map rwD),.no]):=by
    by_cases h2:w%3=1
    . have h0 : os=[]:= Classical.not_not.mp fun z => h1 ⟨h2, z⟩;subst h0;simp at ne;simp[h2,ne]
    . simp[h2]
   rw[zN s1]
   by_cases h2:w%3=2
   . obtain ⟨qs, m, lq, e2⟩ := AS cs.reverse (w / 3) (by simpa using hk) fun c h => hc c (cS.mp h);refine ⟨qs,m.ord,by simp at lq; omega,?_⟩;rw [SH] at e2;have fl:=jY qs;have er:revA (qR 1) [.v (.lst (ps.map rwD)),.v (.lst (cs.map D.int)),.v (.int w),.own (os.map rwD),.no]=some (cs.map D.int).reverse:=by simp [revA]
     rw[TV (by simp[h2,e2,fl,er,retF];rfl)]
   . have fl := jY os;refine⟨os,oo,by omega,?_⟩;rw[zN (ds':=[.v (.lst (ps.map rwD)),.v (.lst (cs.map D.int)),.v (.int w),.own (os.map rwD),.no]) (by simp[h2])];simp[fl]
noncomputable def unlB(u v:Option Int):Bool:=match u,v with | some x,some y=>!decide (x=y) | _,_=>false
theorem xV(u v:Option Int):dM [oi u,oi v]=some (.val (.bl (unlB u v))):=by
 unfold dM runG lF;cases u<;>cases v<;>simp[args,unlB]
theorem BH(u v:Option Int):eJ (.clo 1000 0 []) [oi u,oi v]=some (.val (oi (eitW u v))):=by
 have e:eJ (.clo 1000 0 []) [oi u,oi v]=fnF 2 gB [] [oi u,oi v]:=rfl
 have h:gB [oi u,oi v]=some (.val (oi (eitW u v))):=by
  unfold gB runG nH;cases u<;>cases v<;>simp[args,eitW]
 have fl:flat (oi (eitW u v))=true:=by cases eitW u v<;>rfl
 rw[e];simp[fnF,h,fl,retV]
theorem pick2(u v:Option Int):(ixD (.lst [oi u,oi v]) (.int (if u=none then 1 else 0)))=some (oi (eitW u v)):=by
 cases u<;>simp[eitW]
theorem GB(a b c d e f h i:Sl):∀(l:List (Option Int×Option Int)) (acc:List D) (t:Bool) (x y:Sl),acc.length+l.length<16777216 →
  ∃x' y',qW (tupG 2 (zM (zQ 8) (zM (zQ 9) tgNil))) mK (l.map fun p=>.tup [oi p.1,oi p.2]) [a,b,c,d,e,f,.own acc,.v (.bl t),x,y,h,i] =
   some (.nx [a,b,c,d,e,f,.own (acc++l.map fun p=>oi (eitW p.1 p.2)),.v (.bl (t||l.any fun p=>unlB p.1 p.2)),x',y',h,i])
 |[],acc,t,x,y,_=>⟨x,y,by simp[qW]⟩
 | p :: l, acc, t, x, y, hz => by
   simp only[aN] at hz;obtain⟨x',y',ih⟩:=GB a b c d e f h i l (acc++[oi (eitW p.1 p.2)]) (t||unlB p.1 p.2) (.v (oi p.1)) (.v (oi p.2)) (by simp;omega);refine⟨x',y',?_⟩;have hu:=xV p.1 p.2;have z:acc.length<16777216:=by omega
   have turn:mK [a,b,c,d,e,f,.own acc,.v (.bl t),.v (oi p.1),.v (oi p.2),h,i]=some (.nx [a,b,c,d,e,f,.own (acc++[oi (eitW p.1 p.2)]),.v (.bl (t||unlB p.1 p.2)),.v (oi p.1),.v (oi p.2),h,i]):=by
    obtain⟨u,v⟩:=p;unfold mK;have u1:dM [.non,oi v]=some (.val (.bl (unlB none v))):=xV none v;have u2:∀x,dM [.int x,oi v]=some (.val (.bl (unlB (some x) v))):=fun x=>xV (some x) v;cases t<;>cases u<;>simp[u1,u2,retV,z,eitW,int1D]
   rw[bO,qW];have e1:tupG 2 (zM (zQ 8) (zM (zQ 9) tgNil)) (.tup [oi p.1,oi p.2]) [a,b,c,d,e,f,.own acc,.v (.bl t),x,y,h,i]=some [a,b,c,d,e,f,.own acc,.v (.bl t),.v (oi p.1),.v (oi p.2),h,i]:=by simp
   rw[e1];simp only[bF,turn,ih,bH,bO,gM,dF,BQ,Bool.or_assoc]
theorem SJ(l m:List (Option Int)):zipD (l.map oi) (m.map oi)=(l.zip m).map fun p=>.tup [oi p.1,oi p.2]:=by
 unfold zipD;rw[List.zip_map,lM];rfl
theorem pl_two(ps qs:List Rw)(h:ps.length+qs.length<=1000):gC [.lst [.lst (ps.map rwD),.lst (qs.map rwD)]]=some (.fresh ((plZ (spO ps++spO qs)).map D.int)):=by
 have pl:=AR [ps.map fun r=>((r.1,r.2.1),[oi r.2.2]),qs.map fun r=>((r.1,r.2.1),[oi r.2.2])] (by simpa using h);simp only[bO,dI,pc_rw] at pl;rw[pl];unfold plZ spO;simp[List.flatten,Function.comp_def]
theorem pl_one(ps:List Rw)(h:ps.length<=1000):gC [.lst [.lst (ps.map rwD)]]=some (.fresh ((plZ (spO ps)).map D.int)):=by
 have pl:=AR [ps.map fun r=>((r.1,r.2.1),[oi r.2.2])] (by simpa using h);simp only[bO,dI,pc_rw] at pl;rw[pl];unfold plZ spO;simp[List.flatten,Function.comp_def]
theorem GC(s0:List Sl)(x y:Sl)(hs:s0=[x,y]):∀l:List (Option Int×Option Int),
  compL (tupG 2 (zM (zQ 0) (zM (zQ 1) tgNil))) (fun _=>some true) (zD ixD (mkL (zZ (zB (qR 0) (zB (qR 1) zW)))) (callB int1D (zB (zD isD (zG 0) (zA .non)) zW))) s0 (l.map fun p=>.tup [oi p.1,oi p.2])=some (l.map fun p=>oi (eitW p.1 p.2))
 |[]=>by simp[compL]
 | p :: l => by
   have ih:=GC s0 x y hs l;subst hs;obtain⟨u,v⟩:=p;rw[bO,compL];have e1:tupG 2 (zM (zQ 0) (zM (zQ 1) tgNil)) (.tup [oi u,oi v]) [x,y]=some [.v (oi u),.v (oi v)]:=by simp
   have e2:zD ixD (mkL (zZ (zB (qR 0) (zB (qR 1) zW)))) (callB int1D (zB (zD isD (zG 0) (zA .non)) zW)) [.v (oi u),.v (oi v)]=some (oi (eitW u v)):=by cases u<;>simp[eitW,int1D]
   rw[e1];simp only[bF,if_true,e2,ih,cX,bO]
theorem SY{ps qs:List Rw}{p:Int}(h:unlB (valL ps p) (valL qs p)=false):valL ps p=none\/valL qs p=none\/valL ps p=valL qs p:=by
 cases h1:valL ps p with
 |none=>exact .inl rfl
 | some x =>
   cases h2:valL qs p with
   |none=>exact .inr (.inl rfl)
   | some y =>
     rw[h1,h2] at h;simp[unlB] at h;exact .inr (.inr (by rw[h]))
theorem TC(u v:Option Int):unlB u v=unlB v u:=by
 cases u<;>cases v<;>simp[unlB,eq_comm]
theorem XH{u v:Option Int}(h:u=none\/v=none\/u=v):eitW u v=eitW v u:=by
 rcases h with rfl | rfl | rfl
 . cases v<;>rfl
 . cases u<;>rfl
 . rfl
theorem hand_eq(ps qs:List Rw):eqD (.lst [.lst (ps.map rwD),.lst (qs.map rwD)]) (.lst [.lst (ps.map rwD),.lst (qs.map rwD)])=some (.bl true):=by
 have sh:shal 40 (.lst [.lst (ps.map rwD),.lst (qs.map rwD)])=true:=by
  have h1:=wK 37 ps;have h2:=wK 37 qs;simp[shal,shals,h1,h2]
 have ev:eqvD (.lst [.lst (ps.map rwD),.lst (qs.map rwD)]) (.lst [.lst (ps.map rwD),.lst (qs.map rwD)])=true:=by
  have h1:=kK ps ps;have h2:=kK qs qs;simp only[decide_true] at h1 h2;rw[xF];simp only[eqvs,toPys,PyData.eqvAll,cL,Bool.and_true];exact⟨by rw[<- h1,<- xF];rfl,by rw[<- h2,<- xF];rfl⟩
 rw[tU sh sh,ev]
def NL:Prop:=∀ps qs:List Rw,FL.Ord ps->FL.Ord qs->ps.length<=100->qs.length<=100->(∃p,unlB (valL ps p) (valL qs p)=true)->gO [.lst (ps.map rwD),.lst (qs.map rwD)]=some (.val (.bl true))
theorem run_of(hC:NL)(ns:List Int)(hl:ns.length<=63)(hb:∀c∈ns,intBits c<=1048576):nT [.lst (ns.map D.int)]=some (.val (.bl true)):=by
 have c0:eL [.lst (ns.map D.int),.int 0]=some (.val (.int (cel ns 0))):=NG ns 0;have c1:eL [.lst (ns.map D.int),.int 1]=some (.val (.int (cel ns 1))):=NG ns 1;obtain⟨cs,l1,l2,b3,ecs⟩:=QS ns hb 3 77;have ecs:cutD (ns.map D.int) (some 3) (some 77)=cs.map D.int:=ecs;generalize cel ns 0=h0 at *;generalize cel ns 1=h1 at *;obtain⟨rs,mr,lr,e1⟩:=AS cs h0 (by omega) b3;obtain⟨ps,o1,lp,e2⟩:=GF rs cs 0 mr.ord lr (by omega);obtain⟨qs,o2,lq,e3⟩:=OI rs cs h1 mr.ord lr (by omega) b3;have pl:=pl_two ps qs (by omega);have hz:=LV (spO ps++spO qs);have hlt:=UQ (spO ps++spO qs);have hit:=ZY o1 o2;have hle:(spO ps++spO qs).length<=200:=by unfold spO;simp;omega
 generalize plZ (spO ps++spO qs)=Z at *;have v1:=jU o1 (by omega) Z hlt (by omega);have v2:=jU o2 (by omega) Z hlt (by omega);obtain⟨x',y',lpp⟩:=GB (.v (.lst (ns.map D.int))) (.v (.lst (cs.map D.int))) (.v (.lst (rs.map rwD))) (.v (.lst (ps.map rwD))) (.v (.lst (qs.map rwD))) (.v (.lst (Z.map D.int))) .no .no ((Z.map (valL ps)).zip (Z.map (valL qs))) [] false .no .no (by simp;omega);rw[<- SJ] at lpp;have he:=hand_eq ps qs;refine vR ?_;unfold rA
 have hdue:((Z.map (valL ps)).zip (Z.map (valL qs))).map (fun p=>oi (eitW p.1 p.2))=(Z.map fun p=>eitW (valL ps p) (valL qs p)).map oi:=by
  rw[BP,lM,lM];rfl
 have hany:(((Z.map (valL ps)).zip (Z.map (valL qs))).any fun p=>unlB p.1 p.2)=Z.any fun p=>unlB (valL ps p) (valL qs p):=by
  rw[BP,List.any_map];rfl
 rw[hdue,hany] at lpp;simp only[dF,Bool.false_or] at lpp
 by_cases hc:(Z.any fun p=>unlB (valL ps p) (valL qs p))=true
 . obtain ⟨p, _, hp⟩ := List.any_eq_true.mp hc;have k1:=hC ps qs o1 o2 (by omega) (by omega) ⟨p,hp⟩;have k2:=hC qs ps o2 o1 (by omega) (by omega) ⟨p,by rw [TC]; exact hp⟩;rw [hc] at lpp;generalize (Z.map fun p=>eitW (valL ps p) (valL qs p)).map oi=V at *;generalize (Z.map (valL ps)).map oi=V1 at *;generalize (Z.map (valL qs)).map oi=V2 at *;generalize hP:ps.map rwD=P at *;generalize hQ:qs.map rwD=Q at *;generalize hR:rs.map rwD=R at *;generalize hN:ns.map D.int=N at *;generalize hX:cs.map D.int=X at *;generalize hY:Z.map D.int=Y at *
   rw[zN (ds':=[.v (.lst N),.v (.lst X),.no,.no,.no,.no,.no,.no,.no,.no,.no,.no]) (by simp[args,ecs]),
    zN (ds':=[.v (.lst N),.v (.lst X),.v (.lst R),.no,.no,.no,.no,.no,.no,.no,.no,.no]) (by simp[c0,e1,retV]),
    zN (ds':=[.v (.lst N),.v (.lst X),.v (.lst R),.v (.lst P),.no,.no,.no,.no,.no,.no,.no,.no]) (by simp[e2,retV]),
    zN (ds':=[.v (.lst N),.v (.lst X),.v (.lst R),.v (.lst P),.v (.lst Q),.no,.no,.no,.no,.no,.no,.no]) (by simp[c1,e3,retV]),
    zN (ds':=[.v (.lst N),.v (.lst X),.v (.lst R),.v (.lst P),.v (.lst Q),.v (.lst Y),.no,.no,.no,.no,.no,.no]) (by simp[pl,retV]),
    zN (ds':=[.v (.lst N),.v (.lst X),.v (.lst R),.v (.lst P),.v (.lst Q),.v (.lst Y),.own [],.no,.no,.no,.no,.no]) (by simp),
    zN (ds':=[.v (.lst N),.v (.lst X),.v (.lst R),.v (.lst P),.v (.lst Q),.v (.lst Y),.own [],.v (.bl false),.no,.no,.no,.no]) (by simp),
    zN (ds':=[.v (.lst N),.v (.lst X),.v (.lst R),.v (.lst P),.v (.lst Q),.v (.lst Y),.own V,.v (.bl true),x',y',.no,.no]) (by simp[zipA,v1,v2,retV,lpp]),
    zN (ds':=[.v (.lst N),.v (.lst X),.v (.lst R),.v (.lst P),.v (.lst Q),.v (.lst Y),.own V,.v (.bl true),x',y',.v (.lst [.lst P,.lst Q]),.no]) (by simp)]
   refine TV ?_;simp[ixD,atI,ixN,k1,k2,retV,he]
 . have hc : (Z.any fun p => unlB (valL ps p) (valL qs p)) = false := by simpa using hc
   rw[hc] at lpp
   have H:∀p,valL ps p=none\/valL qs p=none\/valL ps p=valL qs p:=fun p=>by
    obtain⟨z,hz1,a1,a2⟩:=hit p;rw[<- a1,<- a2];exact SY (by simpa using RG.mp hc z hz1)
   have H':∀p,valL qs p=none\/valL ps p=none\/valL qs p=valL ps p:=fun p=>by
    rcases H p with h | h | h
    . exact .inr (.inl h)
    . exact .inl h
    . exact .inr (.inr h.symm)
   have t1:=AV BH o1 o2 (by omega) (by omega) H;have t2:=AV BH o2 o1 (by omega) (by omega) H'
   have je:xI eitW qs ps=xI eitW ps qs:=map_ext (xT eitW o2 o1) (xT eitW o1 o2) fun p=>by
    rw[CL eitW o2 o1,CL eitW o1 o2];exact XH (H' p)
   rw[je] at t2;have ta:∀p,valL (xI eitW ps qs) p=eitW (valL ps p) (valL qs p):=CL eitW o1 o2;have mt:=xT eitW o1 o2;have lt:=WF eitW ps qs;generalize xI eitW ps qs=ts at *;have im:=QC ts mt (by omega);have v3:=jU mt.ord (by omega) Z hlt (by omega);have hv3:Z.map (valL ts)=Z.map fun p=>eitW (valL ps p) (valL qs p):=KQ fun q _=>ta q;rw[hv3] at v3;have n1:=MJ (Z.map fun p=>eitW (valL ps p) (valL qs p)) (Z.map fun p=>eitW (valL ps p) (valL qs p));have pl2:=pl_one ts (by omega);have hz2:=LV (spO ts);have hlt2:=UQ (spO ts);have hle2:(spO ts).length<=500:=by unfold spO;simp;omega
   generalize plZ (spO ts)=Z2 at *;have w1:=jU o1 (by omega) Z2 hlt2 (by omega);have w2:=jU o2 (by omega) Z2 hlt2 (by omega);have w3:=jU mt.ord (by omega) Z2 hlt2 (by omega);have hw3:Z2.map (valL ts)=Z2.map fun p=>eitW (valL ps p) (valL qs p):=KQ fun q _=>ta q;rw[hw3] at w3;have n2:=MJ (Z2.map fun p=>eitW (valL ps p) (valL qs p)) (Z2.map fun p=>eitW (valL ps p) (valL qs p));have n3:=VP ts ts;simp only[decide_true,iZ] at n1 n2 n3
   have dc:∀a b c d e f g h:Sl,compG (zipA (qI 2 dJ (zB (zG 3) (zB (zG 5) zW))) (qI 2 dJ (zB (zG 4) (zB (zG 5) zW)))) [none,none] (tupG 2 (zM (zQ 0) (zM (zQ 1) tgNil))) (fun _=>some true) (zD ixD (mkL (zZ (zB (qR 0) (zB (qR 1) zW)))) (callB int1D (zB (zD isD (zG 0) (zA .non)) zW)))
     [a,b,c,.v (.lst (ps.map rwD)),.v (.lst (qs.map rwD)),.v (.lst (Z2.map D.int)),d,e,f,g,h,.own (ts.map rwD)]=some ((Z2.map fun p=>eitW (valL ps p) (valL qs p)).map oi):=fun a b c d e f g h=>by
    refine GK (items:=((Z2.map (valL ps)).zip (Z2.map (valL qs))).map fun p=>.tup [oi p.1,oi p.2]) ?_ (by simp;omega) ?_
    . rw[<- SJ];simp[zipA,w1,w2,retV]
    . refine(GC _ .no .no rfl _).trans ?_;rw[BP,lM,lM];rfl
   generalize (Z.map fun p=>eitW (valL ps p) (valL qs p)).map oi=V at *;generalize (Z2.map fun p=>eitW (valL ps p) (valL qs p)).map oi=V2 at *;generalize (Z.map (valL ps)).map oi=U1 at *;generalize (Z.map (valL qs)).map oi=U2 at *;generalize hP:ps.map rwD=P at *;generalize hQ:qs.map rwD=Q at *;generalize hR:rs.map rwD=R at *;generalize hT:ts.map rwD=T at *;generalize hN:ns.map D.int=N at *;generalize hX:cs.map D.int=X at *;generalize hY:Z.map D.int=Y at *;generalize hY2:Z2.map D.int=Y2 at *
   rw[zN (ds':=[.v (.lst N),.v (.lst X),.no,.no,.no,.no,.no,.no,.no,.no,.no,.no]) (by simp[args,ecs]),
    zN (ds':=[.v (.lst N),.v (.lst X),.v (.lst R),.no,.no,.no,.no,.no,.no,.no,.no,.no]) (by simp[c0,e1,retV]),
    zN (ds':=[.v (.lst N),.v (.lst X),.v (.lst R),.v (.lst P),.no,.no,.no,.no,.no,.no,.no,.no]) (by simp[e2,retV]),
    zN (ds':=[.v (.lst N),.v (.lst X),.v (.lst R),.v (.lst P),.v (.lst Q),.no,.no,.no,.no,.no,.no,.no]) (by simp[c1,e3,retV]),
    zN (ds':=[.v (.lst N),.v (.lst X),.v (.lst R),.v (.lst P),.v (.lst Q),.v (.lst Y),.no,.no,.no,.no,.no,.no]) (by simp[pl,retV]),
    zN (ds':=[.v (.lst N),.v (.lst X),.v (.lst R),.v (.lst P),.v (.lst Q),.v (.lst Y),.own [],.no,.no,.no,.no,.no]) (by simp),
    zN (ds':=[.v (.lst N),.v (.lst X),.v (.lst R),.v (.lst P),.v (.lst Q),.v (.lst Y),.own [],.v (.bl false),.no,.no,.no,.no]) (by simp),
    zN (ds':=[.v (.lst N),.v (.lst X),.v (.lst R),.v (.lst P),.v (.lst Q),.v (.lst Y),.own V,.v (.bl false),x',y',.no,.no]) (by simp[zipA,v1,v2,retV,lpp]),
    zN (ds':=[.v (.lst N),.v (.lst X),.v (.lst R),.v (.lst P),.v (.lst Q),.v (.lst Y),.own V,.v (.bl false),x',y',.v (.lst [.lst P,.lst Q]),.no]) (by simp),
    zN (ds':=[.v (.lst N),.v (.lst X),.v (.lst R),.v (.lst P),.v (.lst Q),.v (.lst Y),.own V,.v (.bl false),x',y',.v (.lst [.lst P,.lst Q]),.no]) (by simp),
    zN (ds':=[.v (.lst N),.v (.lst X),.v (.lst R),.v (.lst P),.v (.lst Q),.v (.lst Y),.own V,.v (.bl false),x',y',.v (.lst [.lst P,.lst Q]),.own T]) (by simp[ixD,atI,ixN,t1,retF]),
    zN (ds':=[.v (.lst N),.v (.lst X),.v (.lst R),.v (.lst P),.v (.lst Q),.v (.lst Y),.own V,.v (.bl false),x',y',.v (.lst [.lst P,.lst Q]),.own T]) (by simp[im,v3,retV,n1]),
    zN (ds':=[.v (.lst N),.v (.lst X),.v (.lst R),.v (.lst P),.v (.lst Q),.v (.lst Y2),.own V,.v (.bl false),x',y',.v (.lst [.lst P,.lst Q]),.own T]) (by simp[pl2,retV]),
    zN (ds':=[.v (.lst N),.v (.lst X),.v (.lst R),.v (.lst P),.v (.lst Q),.v (.lst Y2),.own V2,.v (.bl false),x',y',.v (.lst [.lst P,.lst Q]),.own T]) (by simp[dc]),
    zN (ds':=[.v (.lst N),.v (.lst X),.v (.lst R),.v (.lst P),.v (.lst Q),.v (.lst Y2),.own V2,.v (.bl false),x',y',.v (.lst [.lst P,.lst Q]),.own T]) (by simp[w3,retV,n2,t2,n3]),
    zN (ds':=[.v (.lst N),.v (.lst X),.v (.lst R),.v (.lst P),.v (.lst Q),.v (.lst Y2),.own V2,.v (.bl false),x',y',.v (.lst [.lst P,.lst Q]),.own []]) (by simp)]
   simp[he]
noncomputable def cF(p x y:Int):Fls:=[(("place" : Str),p),("one",x),("other",y)]
noncomputable def xB:FF:=ifF (andT (zL (zD notD (zG 4) (zA .non))) (andT (zL (zD notD (zG 5) (zA .non))) (zL (zD neD (zG 4) (zG 5))))) (raiF "place" "one" "other" (zB (qI 1 dA (zB (mkT (zZ (zB (qR 2) (zB (qR 3) zW)))) zW)) (zB (zG 4) (zB (zG 5) zW)))) pF
theorem xB_no(R0 R1:Sl)(a b u v:Option Int)(h:unlB u v=false):xB [R0,R1,.v (oi a),.v (oi b),.v (oi u),.v (oi v)]=none:=by
 unfold xB ifF;cases u with
 |none=>simp[oi,andT,pF]
 | some x =>
   cases v with
   |none=>simp[oi,andT,pF]
   | some y =>
     have:x=y:=by simpa[unlB] using h
     subst this;simp[oi,andT,pF]
theorem xB_yes(R0 R1:Sl)(a b:Option Int)(x y p:Int)(h:x≠y)(hp:dA [spD (a,b)]=some (.val (.int p))):xB [R0,R1,.v (oi a),.v (oi b),.v (oi (some x)),.v (oi (some y))]=some (cF p x y):=by
 have hp:dA [.tup [oi a,oi b]]=some (.val (.int p)):=hp;generalize oi a=a' at *;generalize oi b=b' at *;unfold xB ifF raiF;simp[oi,andT,h,hp,cF]
theorem MK(R0 R1:Sl):∀(L:List R4) (a b c d:Sl),(∀r∈L,okS (r.1,r.2.1))->(∃r∈L,unlB r.2.2.1 r.2.2.2=true) →
  ∃r∈L,∃p x y,hasS (r.1,r.2.1) p=true/\r.2.2.1=some x/\r.2.2.2=some y/\x≠y ∧
   loopF (tupG 4 (zM (zQ 2) (zM (zQ 3) (zM (zQ 4) (zM (zQ 5) tgNil))))) (eR eJ) xB (L.map r4D) [R0,R1,a,b,c,d]=some (cF p x y)
 |[],a,b,c,d,_,h=>by obtain⟨r,hr,_⟩:=h;cases hr
 | r :: L, a, b, c, d, ho, h => by
   have st:tupG 4 (zM (zQ 2) (zM (zQ 3) (zM (zQ 4) (zM (zQ 5) tgNil)))) (r4D r) [R0,R1,a,b,c,d]=some [R0,R1,.v (oi r.1),.v (oi r.2.1),.v (oi r.2.2.1),.v (oi r.2.2.2)]:=by simp[r4D]
   cases hu:unlB r.2.2.1 r.2.2.2 with
   | true =>
     obtain⟨x,y,hx,hy,hne⟩:∃x y,r.2.2.1=some x/\r.2.2.2=some y/\x≠y:=by
      cases h1:r.2.2.1 with
      |none=>rw[h1] at hu;cases hu
      | some x =>
        cases h2:r.2.2.2 with
        |none=>rw[h1,h2] at hu;cases hu
        |some y=>rw[h1,h2] at hu;exact⟨x,y,rfl,rfl,by simpa[unlB] using hu⟩
     obtain⟨p,hp,ep⟩:=yV (r.1,r.2.1) (ho r aF);refine⟨r,aF,p,x,y,hp,hx,hy,hne,?_⟩;rw[bO,loopF,st];simp only;rw[hx,hy,xB_yes _ _ _ _ _ _ _ hne ep]
   | false =>
     obtain⟨r',hr',hu'⟩:=h;rcases aH.mp hr' with z | hr'
     . rw[z,hu] at hu';cases hu'
     obtain⟨r2,m2,p,x,y,q1,q2,q3,q4,q5⟩:=MK R0 R1 L (.v (oi r.1)) (.v (oi r.2.1)) (.v (oi r.2.2.1)) (.v (oi r.2.2.2)) (fun z hz=>ho z (aI _ hz)) ⟨r',hr',hu'⟩;refine⟨r2,aI _ m2,p,x,y,q1,q2,q3,q4,?_⟩
     have turn:eR eJ [R0,R1,.v (oi r.1),.v (oi r.2.1),.v (oi r.2.2.1),.v (oi r.2.2.2)]=some (.nx [R0,R1,.v (oi r.1),.v (oi r.2.1),.v (oi r.2.2.1),.v (oi r.2.2.2)]):=by
      unfold eR;cases h1:r.2.2.1 with
      |none=>simp
      | some x =>
        cases h2:r.2.2.2 with
        |none=>simp
        | some y =>
          rw[h1,h2] at hu;have:x=y:=by simpa[unlB] using hu
          subst this;simp
     rw[bO,loopF,st];simp only;rw[xB_no _ _ _ _ _ _ hu,turn];exact q5
theorem clash_x(ps qs:List Rw)(o1:FL.Ord ps)(o2:FL.Ord qs)(h1:ps.length<=100)(h2:qs.length<=100)(hu:∃p,unlB (valL ps p) (valL qs p)=true) :
  ∃p x y,valL ps p=some x/\valL qs p=some y/\x≠y/\fW [.lst (ps.map rwD),.lst (qs.map rwD)]=some (cF p x y):=by
 have pe:=wU o1 o2 (by omega) (by omega);obtain⟨s1,s2⟩:=xR ((zV ps).length+(zV qs).length) none (zV ps) (zV qs) (aO _) (.inr ⟨(qX o1).rem,(qX o2).rem⟩);obtain⟨p0,hu⟩:=hu;obtain⟨r0,m0,z1,z2⟩:=s2 p0 (by intro e;have:=qX o1;rw[e] at this;exact this) (fun h e=>nomatch e);rw[xA o1] at z1;rw[xA o2] at z2;obtain⟨r,m,p,x,y,q1,q2,q3,q4,q5⟩:=MK (.v (.lst (ps.map rwD))) (.v (.lst (qs.map rwD))) _ .no .no .no .no (fun r hr=>(s1 r hr).1) ⟨r0,m0,by rw[<- z1,<- z2];exact hu⟩;obtain⟨w1,w2⟩:=(s1 r m).2.2 p q1 (fun h e=>nomatch e);rw[xA o1,q2] at w1;rw[xA o2,q3] at w2;refine⟨p,x,y,w1,w2,q4,?_⟩;generalize (qY ((zV ps).length+(zV qs).length) none (zV ps) (zV qs)).map r4D=N at *;show forF _ _ _ xB _=_;unfold forF;rw[show viaA (qI 2 eN (zB (zG 0) (zB (zG 1) zW))) asLT (args 6 [.lst (ps.map rwD),.lst (qs.map rwD)])=some N from by simp[args,pe]];exact q5
theorem XQ:NL:=by
 intro ps qs o1 o2 h1 h2 hu;obtain⟨p,x,y,e1,e2,ne,ex⟩:=clash_x ps qs o1 o2 h1 h2 hu;have v1:=jU o1 (by omega) [p] (by simp) (by simp);have v2:=jU o2 (by omega) [p] (by simp) (by simp);simp only[bO,dI,e1,e2] at v1 v2;have un:=xV (some x) (some y);have k1:(cF p x y).lookup ("place" : Str)=some p:=rfl;have k2:(cF p x y).lookup ("one" : Str)=some x:=rfl;have k3:(cF p x y).lookup ("other" : Str)=some y:=rfl;generalize cF p x y=fs at *;have c1:FL.cutD [D.int p,D.int x,D.int y] none (some 1)=[.int p]:=rfl;have c2:FL.cutD [D.int p,D.int x,D.int y] (some 1) none=[.int x,.int y]:=rfl;have wh:∀n:Int,dP [.int n]=some (.val (.bl true)):=vE;generalize ps.map rwD=A at *;generalize qs.map rwD=B at *;refine vR ?_;unfold mB
 rw[zN (ds':=[.v (.lst A),.v (.lst B),.v (.lst []),.no,.no,.no]) (by simp[args]),
  zN (ds':=[.v (.lst A),.v (.lst B),.v (.lst [.int p,.int x,.int y]),.no,.v (.bl false),.no]) (by simp[tryF,calXF,ex,isxG,relE,xfldG,k1,k2,k3,goneO,notT,andT]),
  zN (ds':=[.v (.lst A),.v (.lst B),.v (.lst [.int p,.int x,.int y]),.no,.v (.bl false),.no]) (by simp[orT,compG,compL,wh,notT,show ∀ds,jV [none] ds=[.no] from fun _=>rfl,allD,truD,blsD]),
  zN (ds':=[.v (.lst A),.v (.lst B),.v (.lst [.int p,.int x,.int y]),.no,.v (.bl false),.v (.lst [.int x,.int y])]) (by simp[v1,v2,c1,oi])]
 have un:dM [.int x,.int y]=some (.val (.bl true)):=by rw[show(D.int x)=oi (some x) from rfl,show(D.int y)=oi (some y) from rfl,un];simp[unlB,ne]
 have he:eqD (D.lst [D.int x,D.int y]) (D.lst [D.int x,D.int y])=some (.bl true):=by rw[tU (by simp[shal,shals]) (by simp[shal,shals]),xF];simp
 simp[un,c2,he,andK]
theorem run_law(ns:List Int)(hl:ns.length<=63)(hb:∀c∈ns,intBits c<=1048576):nT [.lst (ns.map D.int)]=some (.val (.bl true)):=run_of XQ ns hl hb
open FL
set_option maxHeartbeats 0 in
theorem all_mk{l:NT}{w:bS}{K:aR}{h:Heap}{mg:Str->Option Value}{fa:aB}(X:K.In h)(G:h.Ns aP mg)(hfa:mg "law" = some (.ref fa)){f0 f1 f2 f3 f4 f6 f7 f8 f9 f10 f11 f12 f13 f14 f15 f16 f17 f18 E0 E1 E2 E3 E4 E5 E6 E7 E8 E9 E10 E11 E12 fx3:aB}{f5 f19:aB}{od5 an5 od19 an19:Option aB}{sl5 sl19:Array (Option Value)}{oc5 kV5 dc5 pm5 cd5 ct5 oc19 kV19 dc19 pm19 cd19 ct19:Value}(d0:DefM K "some_place" (top 15) f0)(d1:DefM K "earlier_behind" (top 16) f1)(d2:DefM K "knit" (top 18) f2)(d3:DefM K "runs_of" (top 19) f3)(d4:DefM K "paired" (top 20) f4)(a5:aQ K aP "either" = some (some (.ref f5)))(l5:LkF K f5 oc5 od5 "either" "either" (top 22) .none kV5 dc5 pm5 an5 cd5 ct5 sl5)(c5:eZ K cd5 "either" = true)(k5:cP K (.ref f5)=true)(d6:DefM K "joined" (top 24) f6)(d7:DefM K "merged" (top 25) f7)(d8:DefM K "_law_cell_at" (top 27) f8)(d9:DefM K "_law_whole" (top 28) f9)(d10:DefM K "_law_great" (top 29) f10)(d11:DefM K "_law_pieces" (top 30) f11)(d12:DefM K "_law_dealt" (top 31) f12)(d13:DefM K "_law_second" (top 32) f13)(d14:DefM K "_law_is_map" (top 33) f14)(d15:DefM K "_law_places" (top 34) f15)(d16:DefM K "_law_values" (top 35) f16)(d17:DefM K "_law_unlike" (top 36) f17)(d18:DefM K "_law_clash" (top 37) f18)(a19:aQ K aP "law" = some (some (.ref f19)))(l19:LkF K f19 oc19 od19 "law" "law" (top 38) .none kV19 dc19 pm19 an19 cd19 ct19 sl19)(c19:eZ K cd19 "law" = true)(k19:cP K (.ref f19)=true)(xn0:aQ K aP "SpanError" = some (some (.ref E0)))(xn1:aQ K aP "Empty" = some (some (.ref E1)))(xn2:aQ K aP "NoEnd" = some (some (.ref E2)))(y3:XI K "Clash" E3)(xn4:aQ K aP "NoCount" = some (some (.ref E4)))(xn5:aQ K aP "NoShare" = some (some (.ref E5)))(xn6:aQ K aP "NoName" = some (some (.ref E6)))(xn7:aQ K aP "NoMark" = some (some (.ref E7)))(xn8:aQ K aP "NoDeed" = some (some (.ref E8)))(xn9:aQ K aP "NoRule" = some (some (.ref E9)))(xn10:aQ K aP "TooMuch" = some (some (.ref E10)))(xn11:aQ K aP "NoText" = some (some (.ref E11)))(xn12:aQ K aP "NoRow" = some (some (.ref E12)))(xe3:xinIn K E3 fx3=true)(xd3:DefC K E3 "__init__" "Clash.__init__" (inClass (top 4) 0) fx3)(xk3:pN K E3=true)(xj3:cZ K (.ref E3) "__setattr__" = some (some (.builtin "object.__setattr__")))(xl3_0:cZ K (.ref E3) "place" = some none)(xl3_1:cZ K (.ref E3) "one" = some none)(xl3_2:cZ K (.ref E3) "other" = some none)(xb0:oA K E0 (.type "BaseException")=some true)(xu0:mQ K E0=true)(xy0:nA K (.ref E0)=some (.type "type"))(xs3_0:iQ K (.ref E3) (.ref E0)=some true)(x3_1:XN K E3 E1)(x3_2:XN K E3 E2)(x3_4:XN K E3 E4)(x3_5:XN K E3 E5)(x3_6:XN K E3 E6)(x3_7:XN K E3 E7)(x3_8:XN K E3 E8)(x3_9:XN K E3 E9)(x3_10:XN K E3 E10)(x3_11:XN K E3 E11)(x3_12:XN K E3 E12)(xs3_ValueError:iQ K (.ref E3) (.type "ValueError")=some true)(z0:aQ K aP "ValueError" = some none)(z1:aQ K aP "all" = some none)(z2:aQ K aP "bool" = some none)(z3:aQ K aP "int" = some none)(z4:aQ K aP "isinstance" = some none)(z5:aQ K aP "len" = some none)(z6:aQ K aP "list" = some none)(z7:aQ K aP "max" = some none)(z8:aQ K aP "min" = some none)(z9:aQ K aP "range" = some none)(z10:aQ K aP "reversed" = some none)(z11:aQ K aP "set" = some none)(z12:aQ K aP "sorted" = some none)(z13:aQ K aP "tuple" = some none)(z14:aQ K aP "zip" = some none) :
  ∃fd:bQ,(∀(s:aC) (v:Value),RK s fd ⟨[v],[]⟩ [("_law_script",v)])/\∀base:Heap,K.In base->base.Ns aP mg->FnOk l.prog w K mg base CX0 6 fa fd ["_law_script"] (IJ K 63):=by
 have e:=hfa.symm.trans (cA X G a19);cases e;have y3:XI K (xName 3) E3:=y3;have T:Glb K mg:=⟨bX X G z0,bX X G z1,bX X G z2,bX X G z3,bX X G z4,bX X G z5,bX X G z6,bX X G z7,bX X G z8,bX X G z9,bX X G z10,bX X G z11,bX X G z12,bX X G z13,bX X G z14,⟨E3,cA X G y3.1,(isx_c y3 (WD E3) MO)⟩,(isx_c y3 (WE (by decide +kernel) xs3_ValueError) MO),⟨E1,E4,E8,E2,E7,E6,E12,E9,E5,E11,E10,cA X G xn1,cA X G xn4,cA X G xn8,cA X G xn2,cA X G xn7,cA X G xn6,cA X G xn12,cA X G xn9,cA X G xn5,cA X G xn11,cA X G xn10,(WH (t:=3) (by exact y3.1) y3.i (qZ x3_1.k (qZ x3_4.k (qZ x3_8.k (qZ x3_2.k (qZ x3_7.k (qZ x3_6.k (qZ x3_12.k (qZ x3_9.k (qZ x3_5.k (qZ x3_11.k (qZ x3_10.k JL))))))))))) )⟩,⟨f5,by exact a5,by exact cA X G a5⟩⟩
 have XF_3:XTF K 3 E3:=⟨by exact y3.1,y3.i,xk3,xl3_0,xl3_1,xl3_2⟩
 have XR_3:=fun base=>xri_mk (P:=l.prog) (w:=w) (mg:=mg) (base:=base) xd3 XF_3 xe3 xj3 (cA X G y3.1) ⟨rfl,rfl,rfl,by decide +kernel,rfl,by decide +kernel,by decide +kernel⟩ rfl (by intro _ _ _ _ _ _;exact len4 fun _ _ _ _=>rfl);have XT_3:XT K mg 3 "SpanError" E3 E0:=⟨by exact y3.1,cA X G xn0,⟨JK xu0 xy0 xs3_0,xb0⟩⟩
 have F5:=CS (st:=(top 22)) l5 c5 k5;have b5:=F5.binds (ps:=["value","other_value"]) fun _ _ _ _ _ _=>len2 fun _ _=>rfl;obtain⟨_,F7,a7,k7⟩:=d7.get;have b7:=F7.binds (ps:=["one","other"]) fun _ _ _ _ _ _=>len2 fun _ _=>rfl;have F19:=CS (st:=(top 38)) l19 c19 k19;refine⟨eC "law" "law" (yK (top 38)) (jH (top 38)) (zK (top 38)) .none kV19 dc19 pm19 an19 cd19 ct19,fun s v=>.of_eq rfl,fun base _ _=>?_⟩;have S:SysAt l.prog w base K mg:=⟨h,X,G⟩
 have C_some_place:=d0.cal S fun F=>tP F T;have C_earlier_behind:=d1.cal S fun F=>pI F T;have C_knit:=d2.cal S fun F=>WQ F T;have C_runs_of:=d3.cal S fun F=>FZ F T;have C_paired:=d4.cal S fun F=>JR F T C_runs_of C_earlier_behind;have G5:=JU (P:=l.prog) (w:=w) (base:=base) F5 T;have V_either:CalV l.prog w K mg base 0 1 2 gB:=⟨f5,_,_,_,_,_,G5,b5,by exact a5,l5⟩
 have C_either:=KD G5 b5 k5 (cA X G a5);have CO:=clo_ok (P:=l.prog) (w:=w) (base:=base) T  V_either;have C_joined:=d6.cal S fun F=>JT F T C_paired C_knit CO;have GX7:=FY (P:=l.prog) (w:=w) (base:=base) F7 T C_paired C_joined C_some_place (XR_3 base);have CX_merged:CalF l.prog w K mg base "merged" 4 2 fW E3:=⟨f7,_,_,GX7,b7,k7,cA X G a7⟩
 have G7:=JS F7 T C_paired C_joined C_some_place;have C_merged:=KD G7 b7 k7 (cA X G a7);have C__law_cell_at:=d8.cal S fun F=>rE F T;have C__law_whole:=d9.cal S fun F=>tQ F T;have C__law_great:=d10.cal S fun F=>tR F T;have C__law_pieces:=d11.cal S fun F=>sG F T C__law_great;have C__law_dealt:=d12.cal S fun F=>tS F T;have C__law_second:=d13.cal S fun F=>sE F T C__law_dealt C__law_pieces;have C__law_is_map:=d14.cal S fun F=>sH F T C__law_whole;have C__law_places:=d15.cal S fun F=>sF F T;have C__law_values:=d16.cal S fun F=>sC F T;have C__law_unlike:=d17.cal S fun F=>sD F T;have C__law_clash:=d18.cal S fun F=>tT F T C_merged C__law_unlike C__law_values C__law_whole XT_3 CX_merged XF_3;exact law_ofB (F:=nT) (fok_law F19 T C__law_pieces C__law_dealt C__law_second C__law_places C_merged C__law_cell_at C__law_values C__law_unlike C__law_clash C__law_is_map) run_law
end K36
namespace PySem.W.Fast
def tw1879891749410168536:=0
def tw15627676118488367478:=0
def tw11114817231926841770:=0
def tw4371644308029124565:=0
def tw13714295107536796911:=0
def tw5088860026305406756:=0
def tw14059692111646131782:=0
def tw14713951478015562310:=0
def tw1970279549284710237:=0
def tw10709448697559723336:=0
def tw4725044113867679956:=0
def tw2713056508605324197:=0
def tw1566015947433340644:=0
def tw15995502433687914352:=0
def tw980328447502899852:=0
def tw9194714761828362718:=0
def tw3997407586821380157:=0
def tw18168153002910497632:=0
def tw11352995810991570666:=0
def tw6576487746125900518:=0
def tw14735986383697740634:=0
def tw5769006183930587797:=0
def tw471934624697020886:=0
def tw12743624453198609838:=0
def tw4636426511264037645:=0
def tw13122662494291101908:=0
def tw10869277508262545401:=0
def tw9225733013011065311:=0
def tw6712014239190138146:=0
def tw10636635221049715149:=0
def tw13028707822603993883:=0
def tw14133221770161262489:=0
def tw12453736292199103060:=0
def tw15584797632645668461:=0
def tw8581981051273336276:=0
def tw12584960050212934469:=0
def tw5340575111686690680:=0
def tw3510779871809510838:=0
def tw8520506782014176119:=0
def tw202557801657727113:=0
def tw5151342811844481309:=0
def tw13331543820159942718:=0
def tw15639880562929450518:=0
def tw6062587967638845287:=0
def tw12198456418936350859:=0
def tw17718044745863715457:=0
def tw3169470076143000931:=0
def tw5358224459794336135:=0
def tw3364419391449165069:=0
def tw8059523197737209284:=0
def tw452189342666143813:=0
def tw4654719616638067885:=0
def tw5100024580713502127:=0
def tw13594713211822740753:=0
def tw13725478920829838061:=0
def tw2219928252543065675:=0
def tw2043076886598795440:=0
def tw5682432940630589526:=0
def tw7945576233329729053:=0
def tw12024899160843999307:=0
def tw2566486509132474765:=0
def tw13238854868098090173:=0
def tw9858352290291876930:=0
def tw16841386425481373568:=0
def tw1530159120325474036:=0
def tw8115132838244713941:=0
def tw15457504205658850197:=0
def tw7868890518198607578:=0
def tw3165414661452716437:=0
def tw1893297008304120689:=0
def tw1562062606881449104:=0
def tw7867511142051326663:=0
def tw5067462700305547643:=0
def tw10871198741676940005:=0
def tw13643826785947848388:=0
def tw14555059233257175194:=0
def tw3893743073141781152:=0
def tw8079979809060656778:=0
def tw2804408039820975985:=0
def tw14701444428316045279:=0
def tw17429938350664087923:=0
def tw10358740622871752035:=0
def tw17502232390283357390:=0
def tw11267086502133220410:=0
def tw11814405523630064566:=0
def tw3877781904025659888:=0
def tw3534284044057552209:=0
def tw893528184852446804:=0
def tw16804172979874924921:=0
def tw3529363470194610562:=0
def tw17869727644635705477:=0
def tw14943277195554645055:=0
def tw16756571247778940383:=0
def tw440670214873647196:=0
def tw14198332152368611558:=0
def tw17709830696665243671:=0
def tw1950564928505594754:=0
def tw12082736424019232410:=0
def tw14726440627698389324:=0
def tw6792100087465334147:=0
def tw12373818706834311014:=0
def tw5948657499274349348:=0
def tw7384998824426326723:=0
def tw2249662007089921924:=0
def tw6123065213815138793:=0
def tw15062241541123674638:=0
def tw5889818579369309408:=0
def tw5360934465034367066:=0
def tw1178541529979010226:=0
def tw4567512941043224886:=0
def tw12823686676418810386:=0
def tw13704034080169953754:=0
def tw11860831231814318612:=0
def tw9306075043086231217:=0
def tw12629284387569563206:=0
def tw5323677029030057181:=0
def tw6814540079493712028:=0
def tw8115454366299168800:=0
def tw2939308635616128903:=0
def tw14426114227595511648:=0
def tw1306593958131435225:=0
def tw16671609332163044661:=0
def tw5712325488453981528:=0
def tw15347829358718091584:=0
def tw2196774041962933810:=0
def tw13404273727636317570:=0
def tw9581175350102815340:=0
def tw7252613958698814075:=0
def tw10494770032700386068:=0
def tw2506240878515358389:=0
def tw6606971703229707706:=0
def tw7620405062866148758:=0
def tw5234989005454785778:=0
def tw9224100592274070978:=0
def tw15818988810475294981:=0
def tw7022497742498344738:=0
def tw18176724417882102769:=0
def tw11281148312011715456:=0
def tw177990939832072837:=0
def tw2865918555622823540:=0
def tw13241689516510179859:=0
def tw9498424738859831934:=0
def tw2813562563094573529:=0
def tw12720746937939332938:=0
def tw7110770467769860201:=0
def tw13887858010735046006:=0
def tw11081525075602739743:=0
def tw113420750229100516:=0
def tw6363688553681230786:=0
def tw13027748972409672431:=0
def tw12699978733997121308:=0
def tw344343878967937224:=0
def tw17368463156283270108:=0
def tw6537345378606596856:=0
def tw7033208308685954606:=0
def tw16636781436822495815:=0
def tw13817952386579332158:=0
def tw3155728679000122009:=0
end PySem.W.Fast
def PySem.W.Fast.tw440441190175962335:Unit:=()
def PySem.W.Fast.tw18424888146382108825:Unit:=()
def PySem.W.Fast.tw5081888434791658322:Unit:=()
def PySem.W.Fast.tw9445022434395373555:Unit:=()
def PySem.W.Fast.tw15303404161391401642:Unit:=()
def PySem.W.Fast.tw18113388959696877633:Unit:=()
def PySem.W.Fast.tw17643239920052416624:Unit:=()
def PySem.W.Fast.tw77548361343457914:Unit:=()
def PySem.W.Fast.tw11192066191521535945:Unit:=()
def PySem.W.Fast.tw9607164230143949889:Unit:=()
def PySem.W.Fast.tw8570596248025884120:Unit:=()
def PySem.W.Fast.tw5160051805991965351:Unit:=()
def PySem.W.Fast.tw18341262866685391710:Unit:=()
def PySem.W.Fast.tw1189636402029178633:Unit:=()
def PySem.W.Fast.tw8360294148168204688:Unit:=()
def PySem.W.Fast.tw3624034378913040504:Unit:=()
def PySem.W.Fast.tw600345699122505908:Unit:=()
def PySem.W.Fast.tw18196371570344185427:Unit:=()
def PySem.W.Fast.tw555229546072700512:Unit:=()
def PySem.W.Fast.tw13565545482367237445:Unit:=()
def PySem.W.Fast.tw1569483334858591661:Unit:=()
def PySem.W.Fast.tw7561422689724355372:Unit:=()
open PySem.W
set_option maxRecDepth 100000 in
set_option maxHeartbeats 0 in
theorem PySem.Challenge.cw_spanmap_k36_merged_holds : PySem.Challenge.rw_spanmap_k36_merged.Holds := by
 w_on; o_law; k_head; (case hw=>w_witness2)
 k_fill
 refine' FL.walkB (l:=PySem.Challenge.rw_spanmap_k36_merged) (k:=6) rfl rfl ⟨rfl,by decide,by decide⟩ (fun w h Y=>PySem.W.kIn_of Y) (fun w=>by kernel_rfl) ?T ?F
 case T =>
  intro w;dsimp only [L2.makers]
  repeat (first
   | exact FL.TabL.nil
   | (apply FL.tabL_no; k_is)
   | (apply FL.tabL_yes; k_is; k_is; exact rfl; k_is; exact rfl; kernel_rfl))
  all_goals decide
 case F =>
  intro w mg fa h KX G hmg;refine' K36.all_mk KX G hmg ..
  all_goals first | ((first | unfold FL.DefM | unfold FL.DefC); iterate 9 (apply Exists.intro); repeat' (first | (unfold FL.LkF; k_is) | k_is | apply And.intro)) | ((first | unfold FL.CN | unfold FL.XN | unfold FL.XI); repeat' (first | k_is | apply And.intro | decide)) | (unfold L2.NoAttr; k_is) | (unfold FL.LkF; k_is) | k_is | k_exc | decide | exact rfl | kernel_rfl | skip
#print axioms PySem.Challenge.cw_spanmap_k36_merged_holds
