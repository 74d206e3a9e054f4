import PyProof.Rows.All
import Wide.All
import OpenK.AllK
import Wide.FinOn
import Lean
import PyProof.EqAt
import PyProof.DictItems
import PyProof.DictWalks
import PyProof.Rows.SortStr
import PyProof.Rows.SortShellK
import PyProof.Rows.SortWalk
import KE.KRevIter
import KE.KDictList
import PyProof.CollectIter
import PyProof.DictValues
import KE.KDictSum
import PyProof.EqKinds
import PyProof.TupleCall
import PyProof.ListRange
import PyProof.P3In
import PyProof.NeData
import PyProof.NsDelKeeps
import PyProof.SliceList
import KE.KLam
import KE.KIntText
import PySem.Challenge.RW_spanmap_k75_crowd
set_option hygiene false
local macro_rules
 | `((1:))=>`((aT X.prog X.w))
 | `((2:))=>`((x==("__debug__":Str)))
 | `((3:))=>`((by decide +kernel))
 | `((4:))=>`((aT prog w))
 | `((5:))=>`((jB X.env scope.names []))
 | `((6:))=>`([x0,.v$ .int c,.v$ .str$ Str.ofString "abcdefghijklmnopqrstuvwxyz",.v$ .int (sz:Int),x4,x5,.v$ .int J,.own$ ((List.range j).map λj:Nat=>ltrB$ An c j+stepN 26 J (((j:Int)+c/8)%(sz:Int))).map λq=>.str$ txS [q],Y,U])
set_option compiler.extract_closed false
set_option bootstrap.genMatcherCode false
set_option Elab.async false
set_option linter.all false
set_option maxRecDepth 100000
open List renaming mem_cons→aA,getElem?_set_ne→aB,mem_append_right→aI,mem_cons_of_mem→aJ,length_cons→aK,mem_cons_self→aP,map_cons→aQ,getElem?_eq_getElem→aR,mem_singleton→aS,getElem?_set_self→aU,getElem?_eq_none→aX,mem_append_left→aY,getElem?_map→bB,getElem?_eq_some_iff→bC,mem_append→bE,size_toArray→bF,pairwise_cons→bI,nodup_cons→bK,append_assoc→bL,getElem?_append_left→bO,mem_map→bQ,length_map→bS,pairwise_iff_getElem→bX,length_append→cD,getElem?_append_right→cE,nodup_append→cH,lookup_cons→cJ,foldl_cons→cK,mem_reverse→cR,find?_cons→cY,append_nil→cZ,getElem?_cons_zero→dA,nil_append→dB,map_append→dC,mem_of_getElem?→dI,take_of_length_le→dM,map_nil→dO,cons_append→dP,drop_eq_getElem_cons→dR,pairwise_singleton→eA,getElem?_replicate→eB,map_map→eI,set_cons_zero→eQ,getElem?_cons_succ→fC,mem_filter→fD,getElem_of_mem→fJ,set_cons_succ→fP,getD_eq_getElem?_getD→fQ,mem_of_find?_eq_some→fW,take_sublist→gB,filterMap_cons→gK,length_take→gL,take_append_drop→hU,drop_sublist→iD,getElem_mem→iQ,all_eq_true→iR,reverse_append→iT,map_congr_left→iU,getElem?_take_of_lt→kN,any_cons→kO,find?_cons_of_neg→lI,ext_getElem?→lJ,perm_append_comm→mG,drop_length→mJ,sum_cons→mM,reverse_reverse→mS,mem_iff_getElem→mT,find?_some→nB,length_reverse→nI,getElem?_range→nJ,mem_range→nZ,mem_filterMap→oA,getElem?_drop→oB,find?_cons_of_pos→pQ,range_succ→pV,of_mem_zip→pW,length_nil→pX,pairwise_reverse→rF,length_singleton→rG,length_replicate→rH,pairwise_append→rX,nodup_nil→rY,mem_of_mem_take→rZ,mem_of_mem_drop→sA,drop_zero→sB,drop_drop→sC,all_cons→tH,find?_eq_none→tL,any_eq_false→uF,length_drop→AT,length_eraseIdx_of_lt→FI,length_filterMap_le→IZ,length_eq_zero_iff→KY,mem_of_mem_head?→OW,getElem?_toArray→OX,mem_map_of_mem→TC,append_of_mem→WZ,reverse_cons→aBg,pairwise_map→aBh,length_range→aBi,flatMap_cons→aBj,not_mem_nil→aCa,map_reverse→aCb
open PySem renaming wpAny_bind→aC,Addr→aF,starEach→aG,wpAny_pure→aO,model→aT,Shared→aW,wpAny→bG,FuncData→bR,Program→bW,eval→cA,World→cT,mem_of_lookup→cU,wpAny_mono→dD,Around→dF,backTo→dJ,behindInMarks→dZ,swapsWith→eF,wpAny_truthy_bool→eN,compareOp→eP,wpAny_Call_Name_kw→eW,wpAny_holding→eZ,bootBuiltins→fA,attributeBase→fB,IntMulOk→fE,foldedSetIterable→fM,codeAny_mono→fR,wpAny_setField→fX,codeAny→gA,assignEach→gM,keywordEach→hJ,rawInt→hX,holding→iA,wpAny_passesOwn→iH,codeAny_builtin→iI,wpAny_setState_of→iO,wpAny_newObj_type→iP,NameKind→iZ,wpAny_call_entry→kR,scanBound→kS,wpAny_execs_nil→lH,wpAny_rule→lK,sysModules→lL,sizeLine_eq→lX,wpAny_pyIter_list→mK,binaryOp→mL,builtinLookup_eq_fast→nA,sliceBounds→nT,codeAny_call_builtin→nU,backToKw→nV,standAt→oN,wpAny_call→oU,fits_of_scanBound→pP,Keyword→pR,getMethod→rO,bindArgs→rQ,wpAny_specialOf→sX,typeLookup_type→sY,setField→tU,noteFrame→uC,hashInt→uD,codeAmong→uE,plainId_quiet→AS,tupleKind_room_in1→BA,builtinsNs→BC,assign→BD,relayAll→ES,intKind→ET,callerA→EV,SetTable→EX,wpAny_execs_cons→GA,wpAny_askSetting→GB,tupleKind→GC,pyIter→GD,isTrue→GF,checkBuiltinCall→GG,Paired→GK,wpAny_field→IU,subscripted→IV,letOwnedTupleGo→KS,codeAny_of_tree→KU,valueAt→LA,setNext→LB,getItem→LC,wpAny_runValue→ON,isSubtype_type→OP,callWith→OQ,GenState→OY,wpAny_standAt→SQ,wpAny_newList→SR,swapsWithSole→SU,swappedStores→SV,putSet_of→WP,bindL→WR,bindC→WS,atKey→WT,PassesOwn→WX,seqIndex_neg→aBa,argsOk→aBd,OsState→aBf,BindsTo→aBk
open PySem.Heap renaming get?_push_of_some→aD,get?_push_size→aN,lt_size→bA,get?_update_other→bN,get?_update_self→dE,size_push→FJ
open PySem.W renaming nsIn→aH,Frag→aM,mg_of→bZ,mg_none_of→cB,keepIn→cC,findIn→cG,kia_one→cN,kitOne→cV,fnOf→dL,emptyDict→eU,codeIn→fN,instObj→fS,kitAny→iB,callWith_K→iY,plainGet→lM,subIn→lZ,isFn→mU,typeIn→nE,tabObj→nF,kitCls→nG,hasDictIn→nY,isClsIn→pF,lookIn→pS,plainGet_of→rR,tabIn→rS,mroIn→rV,clsIn→rW,kitx_tuple→sJ,plainOver→tF,kitx_list→tG,codeHdIn→tV,takerIn→uW,makesIn→uX,noTabs→BE,cellsFrom_some→GI,methodCall_KW→IW,kitx_dict→PD,handedIn→SX,kitMeta→WU,OpenLaw→WV,CodeHd→aBe
open Nat renaming le_refl→aL,ne_of_lt→bJ,lt_of_lt_of_le→bM,zero_le→cI,lt_irrefl→cM,le_trans→cS,lt_succ_of_lt→gD,lt_succ_self→gO,lt_of_le_of_lt→kX,le_succ→mV,succ_le_succ→pL,ne_of_gt→pU,lt_trichotomy→uY,lt_trans→uZ,le_of_lt→AA,le_of_eq→AB,zero_add→OU,sub_zero→OV,le_succ_of_le→aBz
open PyProof.Rows renaming wpS_bind→aV,wpS_pure→bD,pendingOf→bT,arrOf→bU,wpS_forRange→dH,mulOk_of_bits→dY,IntsAre→eR,setArr→gE,callWith_type1→gN,wpS_mono→gX,envOfC→iM,oneType'→iX,callWith_builtin1→kU,seqObj→kW,elem'→lY,AllBare→mP,wpS_modify→nD,reverseSlice'→nN,setPending→oV,gallopOf→rP,wpS_get→sH,size_push'→sI,wpS_lift→tT,failedOf→EU,StrsAre→EW,mergeAt'→OO,listUpdate_at→SW,ltAt'→WQ,pairsOf_size→aBb,pairsOf→aBc
open Option renaming bind_some→aZ,map_some→cW,getD_some→iL,isSome_iff_exists→FH,map_eq_some_iff→IY,isSome_map→SY,getD_none→WY
open Array renaming length_toList→bH,getElem?_toList→cL,toList_append→cX,getD_eq_getD_getElem?→eC,toList_push→eG,toList_extract→eS,size_extract→gR,toList_reverse→mO,perm_iff_toList_perm→nW,getElem?_eq_some_iff→nX,getElem?_setIfInBounds_ne→uH,getElem?_extract→KZ
open Bool renaming false_eq_true→bV,and_eq_true→bY,false_ne_true→dX,and_eq_true_iff→gC,eq_false_iff→oP,false_or→tJ,not_eq_true'→uG,eq_iff_iff→BW
open List.Pairwise renaming sublist→cF,imp_of_mem→tW
open Int renaming le_refl→dS,le_of_lt→eJ,emod_nonneg→fF,le_trans→fO,emod_lt_of_pos→kY,not_lt→pY,toNat_of_nonneg→tI,mul_le_mul→GN,toNat_natCast→aCc
open List.Perm renaming append_left→gQ,refl→gZ,append_right→kT,of_eq→PH
open Option renaming some→aa,none→ac
open Bool renaming true→ae,false→ag
open PySem.F renaming slot_NoneType_hash→iC,called_set→nH,plainAttrs_list→oO,sub_list_frozenset→BF,type_list_append→EY,slot_list_append→EZ,slot_dict_values→FC,entry_type_call→FG,entry_set_init→GJ,sub_list_set→KW
open Array.Perm renaming refl→mB
open PySem.Heap.SameBut renaming update→FD
open PySem.W.KF renaming slot_gs→IX
namespace HT
noncomputable def sIx(n d:Nat):Option Int->Nat
 |none=>d
 |some v=>if v<0 then (v+(n:Int)).toNat else min v.toNat n
end HT
namespace L2
open PySem
abbrev Key:=Sum (Option Int) Str
noncomputable def ixN(n:Nat)(i:Int):Option Nat:=if 0<=i then (if i<n then aa i.toNat else ac)else if -(n:Int)<=i then aa (i+n).toNat else ac
noncomputable def atI{α:Type}(xs:List α)(i:Int):Option α:=(ixN xs.length i).bind λj=>xs[j]?
end L2
namespace FL
open PySem PySem.Spec PyProof.Rows L2
def bnd{J z:Type}{o:Option J}{f:J->Option z}{b:z}(h:o.bind f=aa b):∃a,o=aa a/\f a=aa b:=Option.bind_eq_some_iff.mp h
def mpd{J z:Type}{o:Option J}{f:J->z}{b:z}(h:o.map f=aa b):∃a,o=aa a/\f a=b:=IY.mp h
noncomputable def eL:Nat->Str
 |0=>"Put" | 1=>"Widen" | 2=>"Narrow" | 3=>"Move" | 4=>"Stretch" | 5=>"Mirror" | 6=>"Deed" | 7=>"Shut" | 8=>"Open" | 9=>"Endless" | 10=>"End" | 11=>"Line" | 12=>"Bundle" | 13=>"Desk"
 |20=>"Line" | 21=>"Line" | 22=>"Line" | 23=>"Line" | 24=>"Bundle" | 25=>"Desk" | _=>""
noncomputable def eX:Nat->List Str
 |0=>["span","fill"]|1=>["fill","at","many"]|2=>["fill","at","many"]|3=>["fill","far"]|4=>["fill","top","bottom"]|5=>["fill"]|6=>["fill"]|7=>["place"]|8=>["place"]|11=>["pieces","places","earlier","later"]|12=>["lying"]|13=>["lines"]
 |21=>["pieces"]|22=>["pieces","places"]|23=>["pieces","places","earlier"]|_=>[]
noncomputable def uR:Nat->Str
 |0=>"either" | 1=>"if_both" | 2=>"if_alone" | 3=>"summed" | 4=>"_law_first" | 5=>"_law_both" | 6=>"_law_left" | 7=>"_law_sum" | 8=>"_law_none" | _=>""
inductive D where
 |non|bl (b:Bool)|int (i:Int)|str (x:Str)|tup (ds:List D)|lst (ds:List D)
 |dct (ks:List Key) (ds:List D)|ins (t:Nat) (ds:List D)|clo (m n:Nat) (ds:List D)
 |dcf (ks:List Key) (ds:List D)
mutual
noncomputable def flat:D->Bool
 |.non|.bl _|.int _|.str _=>ae
 |.tup ds=>flats ds
 |_=>ag
noncomputable def flats:List D->Bool
 |[]=>ae
 |d::r=>flat d&&flats r
end
noncomputable def xName:Nat->Str
 |0=>"SpanError" | 1=>"Empty" | 2=>"NoEnd" | 3=>"Clash" | 4=>"NoCount" | 5=>"NoShare" | 6=>"NoName" | 7=>"NoMark" | 8=>"NoDeed" | 9=>"NoRule" | 10=>"TooMuch" | 11=>"NoText" | _=>"NoRow"
inductive OT where
 |val (d:D)|lst (l:List OT)|tup (l:List OT)|dct (ks:List Key) (l:List OT)|ins (t:Nat) (l:List OT)
mutual
noncomputable def otD:OT->D
 |.val d=>d
 |.lst l=>.lst$ otDs l
 |.tup l=>.tup$ otDs l
 |.dct ks l=>.dct ks$ otDs l
 |.ins t l=>.ins t$ otDs l
noncomputable def otDs:List OT->List D
 |[]=>[]
 |t::r=>otD t::otDs r
end
inductive Sl where
 |no|v (d:D)|own (l:List D)|exc (t:Nat)|exf (t:Nat) (fs:List (Str×Int))|fr (l:List D)|ob (r:Option Nat) (t:OT)
abbrev FE:=List Sl->Option D
abbrev FT:=List Sl->Option Bool
abbrev FA:=List Sl->Option (List D)
noncomputable def mkL(f:FA):FE:=λds=>(f ds).map D.lst
noncomputable def qB(i:Nat):FE:=λds=>match ds[i]? with|some (.v d)=>aa d|_=>ac
noncomputable def zG(i:Nat):FE:=λds=>match ds[i]? with|some (.v d)=>aa d|some (.own l)=>aa (.lst l)|_=>ac
noncomputable def zA(d:D):FE:=λ_=>aa d
noncomputable def zH(op:D->D->Option D)(fa fb:FE):FE:=λds=>(fa ds).bind λx=>(fb ds).bind λy=>op x y
noncomputable def isB:D->Option Bool
 |.bl b=>aa b
 |_=>ac
noncomputable def zN(f:FE):FT:=λds=>(f ds).bind isB
noncomputable def xM:D->D->Option D
 |.int i,.int j=>aa$ .int$ i+j
 |.str x,.str y=>if x.length+y.length<=sizeLine then aa (.str$ x++y)else ac
 |_,_=>ac
noncomputable def subD:D->D->Option D
 |.int i,.int j=>aa$ .int$ i-j
 |_,_=>ac
def divOk(j:Int):Prop:=0<j/\j.natAbs.log2<9000
noncomputable instance divOkD(j:Int):Decidable (divOk j):=Classical.propDecidable _
noncomputable def jL:D->D->Option D
 |.int i,.int j=>if divOk j then aa (.int$ i/j)else ac
 |_,_=>ac
noncomputable def jK:D->D->Option D
 |.int i,.int j=>if 0<j then aa (.int$ i%j)else ac
 |_,_=>ac
noncomputable def cmpI(p:Int->Int->Bool):D->D->Option D
 |.int i,.int j=>aa$ .bl$ p i j
 |_,_=>ac
noncomputable def andT(c d:FT):FT:=λds=>(c ds).bind λb=>if b=ae then d ds else aa ag
noncomputable def orT(c d:FT):FT:=λds=>(c ds).bind λb=>if b=ae then aa ae else d ds
noncomputable def notT(c:FT):FT:=λds=>(c ds).map not
noncomputable def andV(f g:FE):FE:=λds=>(f ds).bind λd=>match d with|.bl ae=>g ds|.bl ag=>aa (.bl ag)|_=>ac
noncomputable def orV(f g:FE):FE:=λds=>(f ds).bind λd=>match d with|.bl ae=>aa (.bl ae)|.bl ag=>g ds|_=>ac
noncomputable def notV(f:FE):FE:=λds=>(f ds).bind λd=>match d with|.bl b=>aa (.bl$ !b)|_=>ac
noncomputable def ifV(c:FT)(f g:FE):FE:=λds=>(c ds).bind λb=>if b=ae then f ds else g ds
noncomputable def chain(op op':D->D->Option D)(fa fb fc:FE):FE:=λds=>(fa ds).bind λx=>(fb ds).bind λy=>(op x y).bind λz=>match z with
 |.bl ae=>(fc ds).bind λw=>op' y w
 |.bl ag=>aa$ .bl ag
 |_=>ac
noncomputable def zB(f:FE)(g:FA):FA:=λds=>(f ds).bind λx=>(g ds).map λr=>x::r
noncomputable def zT:FA:=λ_=>aa []
noncomputable def qM(f:FA):FA:=λds=>(f ds).bind λl=>if l.length<=sizeLine then aa l else ac
noncomputable def mkT(f:FA):FE:=λds=>(f ds).map D.tup
noncomputable def ixD:D->D->Option D
 |.lst l,.int i=>atI l i
 |.tup l,.int i=>atI l i
 |.str x,.int i=>if x.length<=sizeLine then (atI x.cps.toList i).map λc=>.str ⟨#[c]⟩else ac
 |_,_=>ac
inductive Ret where
 |val (d:D)|fresh (l:List D)|any (d:D)|obj (t:OT)
noncomputable def retV:Ret->Option D
 |.val d=>aa d
 |.fresh l=>aa$ .lst l
 |.any _=>ac
 |.obj t=>aa$ otD t
noncomputable def retF:Ret->Option (List D)
 |.fresh l=>aa l
 |_=>ac
noncomputable def qT(n:Nat)(F:List D->Option Ret)(g:FA):FE:=λds=>(g ds).bind λl=>if l.length=n then (F l).bind retV else ac
noncomputable def wP(n:Nat)(F:List D->Option Ret)(g:FA):FA:=λds=>(g ds).bind λl=>if l.length=n then (F l).bind retF else ac
noncomputable def callB(F:List D->Option D)(g:FA):FE:=λds=>(g ds).bind F
noncomputable def lenD:List D->Option D
 |[.lst l]=>aa$ .int l.length
 |[.tup l]=>aa$ .int l.length
 |[.str x]=>if x.length<=sizeLine then aa (.int x.length)else ac
 |_=>ac
inductive Out where
 |nx (ds:List Sl)|rt (r:Ret)|bk (ds:List Sl)|ct (ds:List Sl)
abbrev FS:=List Sl->Option Out
noncomputable def qH:FS:=λds=>aa$ .nx ds
noncomputable def qP(f g:FS):FS:=λds=>(f ds).bind λo=>match o with|.nx ds'=>g ds'|o=>aa o
noncomputable def ifG(c:FT)(f g:FS):FS:=λds=>(c ds).bind λb=>if b=ae then f ds else g ds
noncomputable def jW(i:Nat)(f:FE):FS:=λds=>(f ds).map λd=>.nx$ ds.set i$ .v d
noncomputable def setOG(i:Nat)(f:FA):FS:=λds=>(f ds).map λl=>.nx$ ds.set i$ .own l
noncomputable def flatR(d:D):Option Out:=if flat d=ae then aa (.rt$ .val d)else ac
noncomputable def retG(f:FE):FS:=λds=>(f ds).bind flatR
noncomputable def flatF(l:List D):Option Out:=if flats l=ae then aa (.rt$ .fresh l)else ac
noncomputable def retOG(f:FA):FS:=λds=>(f ds).bind flatF
noncomputable def retXG(i:Nat):FS:=λds=>match ds[i]? with|some (.own l)=>flatF l|_=>ac
noncomputable def putG(i:Nat)(fk fe:FE):FS:=λds=>match ds[i]? with
 |some (.own l)=>(fe ds).bind λd=>(fk ds).bind λk=>match k with
   |.int n=>(ixN l.length n).map λj=>.nx$ ds.set i$ .own$ l.set j d
   |_=>ac
 |_=>ac
noncomputable def appG(i:Nat)(fe:FE):FS:=λds=>match ds[i]? with
 |some (.own l)=>(fe ds).bind λd=>if l.length<sizeLine then aa (.nx$ ds.set i$ .own$ l++[d])else ac
 |_=>ac
noncomputable def args(n:Nat)(ds:List D):List Sl:=ds.map Sl.v++List.replicate (n-ds.length) Sl.no
noncomputable def sgns(x:Str):List D:=x.cps.toList.map λc=>D.str ⟨#[c]⟩
noncomputable def asS:D->Option (List D)
 |.str x=>aa$ sgns x
 |_=>ac
noncomputable def viaA(f:FE)(k:D->Option (List D)):FA:=λds=>(f ds).bind k
noncomputable def lG(lo:Int)(n:Nat):List D:=(List.range n).map λ(k:Nat)=>D.int$ lo+(k:Int)
def okR(j:Int):Prop:=-(2^62)<=j/\j<2^62
noncomputable instance okRD(j:Int):Decidable (okR j):=Classical.propDecidable _
noncomputable def rng1(f:FE):FA:=λds=>(f ds).bind λd=>match d with|.int j=>if okR j then aa (lG 0 j.toNat)else ac|_=>ac
noncomputable def zM(i:Nat):D->List Sl->Option (List Sl):=λd ds=>aa$ ds.set i$ .v d
noncomputable def tgNil:List D->List Sl->Option (List Sl)
 |[],ds=>aa ds
 |_,_=>ac
noncomputable def zR(g:D->List Sl->Option (List Sl))(h:List D->List Sl->Option (List Sl)):List D->List Sl->Option (List Sl)
 |d::r,ds=>(g d ds).bind λds'=>h r ds'
 |_,_=>ac
noncomputable def tupG(n:Nat)(h:List D->List Sl->Option (List Sl)):D->List Sl->Option (List Sl)
 |.tup l,ds=>if l.length=n then h l ds else ac
 |_,_=>ac
noncomputable def jM(ga:D->List Sl->Option (List Sl))(body:FS):List D->List Sl->Option Out
 |[],ds=>aa$ .nx ds
 |d::r,ds=>(ga d ds).bind λds1=>(body ds1).bind λo=>match o with
   |.nx ds2=>jM ga body r ds2
   |.ct ds2=>jM ga body r ds2
   |.bk ds2=>aa$ .nx ds2
   |.rt r=>aa$ .rt r
noncomputable def forG(fi:FA)(ga:D->List Sl->Option (List Sl))(body:FS):FS:=λds=>(fi ds).bind λitems=>jM ga body items ds
noncomputable def compL(ga:D->List Sl->Option (List Sl))(tt:FT)(fe:FE)(s0:List Sl):List D->Option (List D)
 |[]=>aa []
 |d::r=>(ga d s0).bind λds1=>(tt ds1).bind λb=>if b=ae then (fe ds1).bind λy=>(compL ga tt fe s0 r).map λys=>y::ys else compL ga tt fe s0 r
noncomputable def jN(mp:List (Option Nat))(ds:List Sl):List Sl:=mp.map λo=>match o with
 |some j=>(match ds[j]? with|some (.v d)=>.v d|_=>.no)
 |none=>.no
noncomputable def compG(fi:FA)(mp:List (Option Nat))(ga:D->List Sl->Option (List Sl))(tt:FT)(fe:FE):FA:=λds=>(fi ds).bind λitems=>if items.length<=sizeLine then compL ga tt fe (jN mp ds) items else ac
noncomputable def tyD:D->Option String
 |.non=>aa "NoneType"
 |.bl _=>aa "bool"
 |.int _=>aa "int"
 |.str _=>aa "str"
 |.tup _=>aa "tuple"
 |.lst _=>aa "list"
 |.dct _ _=>aa "dict"
 |.ins _ _=>ac
 |.clo _ _ _=>ac
 |.dcf _ _=>ac
noncomputable def kitN:List String:=["NoneType","bool","int","str","tuple","list","dict"]
noncomputable def kitT:List String:=["bool","int","str","tuple","list","dict"]
noncomputable def kitF(t T:String):Option Bool:=if t∈kitN/\T∈kitT then aa (t==T||(t=="bool"&&T=="int"))else ac
noncomputable def isiD(T:String)(d:D):Option D:=(tyD d).bind λt=>(kitF t T).map D.bl
noncomputable def isiG(T:String)(f:FE):FE:=λds=>(f ds).bind$ isiD T
noncomputable def blsD:List D->Option (List Bool)
 |[]=>aa []
 |.bl b::r=>(blsD r).map λbs=>b::bs
 |_=>ac
noncomputable def allD:List D->Option D
 |[.lst l]=>(blsD l).map λbs=>.bl$ bs.all id
 |_=>ac
noncomputable def strsD:List D->Option (List Str)
 |[]=>aa []
 |.str b::r=>(strsD r).map λbs=>b::bs
 |_=>ac
noncomputable def joinD:D->D->Option D
 |.str z,.lst l=>(strsD l).bind λts=>if z.length<=16/\(ts.map (·.length)).sum+ts.length<=1048576 then aa (.str$ Txt.join z ts)else ac
 |_,_=>ac
noncomputable def negD:D->Option D
 |.int i=>aa$ .int$ -i
 |_=>ac
noncomputable def un1(op:D->Option D)(f:FE):FE:=λds=>(f ds).bind op
noncomputable def inS:D->D->Option D
 |.str i,.str j=>aa$ .bl$ !(Builtin.Str.occurrences j i 0 j.length 1).isEmpty
 |_,_=>ac
noncomputable def retDG(f:FE):FS:=λds=>(f ds).map λd=>.rt$ .val d
noncomputable def runG(g:FS)(n:Nat):List D->Option Ret:=λds=>match g (args n ds)with
 |some (.rt r)=>aa r
 |some (.nx _)=>aa$ .val .non
 |_=>ac
def CPowB(i j:Int):Prop:=0<=j/\(Builtin.Int.intBits i:Int)*j<=2^27
mutual
noncomputable def toPy:D->PyData
 |.non=>.none
 |.bl b=>.bool b
 |.int i=>.int i
 |.str x=>.str x
 |.tup ds=>.tuple$ toPys ds
 |.lst ds=>.list$ toPys ds
 |.dct _ _=>.none
 |.ins _ _=>.none
 |.clo _ _ _=>.none
 |.dcf _ _=>.none
noncomputable def toPys:List D->List PyData
 |[]=>[]
 |d::r=>toPy d::toPys r
end
mutual
noncomputable def shal:Nat->D->Bool
 |_,.non=>ae
 |_,.bl _=>ae
 |_,.int _=>ae
 |_,.str x=>PyData.strOk x
 |n,.tup ds=>shals n ds
 |n,.lst ds=>shals n ds
 |_,.dct _ _=>ag
 |_,.ins _ _=>ag
 |_,.clo _ _ _=>ag
 |_,.dcf _ _=>ag
noncomputable def shals:Nat->List D->Bool
 |_,[]=>ae
 |0,_::_=>ag
 |n+1,d::r=>shal n d&&shals (n+1) r
end
noncomputable def eqvD(x y:D):Bool:=PyData.eqv (toPy x)$ toPy y
noncomputable def eqvs(x y:List D):Bool:=PyData.eqvAll (toPys x)$ toPys y
noncomputable def eqD(x y:D):Option D:=if shal 40 x=ae/\shal 40 y=ae then aa (.bl$ eqvD x y)else ac
noncomputable def neD(x y:D):Option D:=if shal 40 x=ae/\shal 40 y=ae then aa (.bl$ !eqvD x y)else ac
noncomputable def isD:D->D->Option D
 |.non,.non=>aa$ .bl ae
 |_,.non=>aa$ .bl ag
 |_,_=>ac
noncomputable def notD:D->D->Option D
 |.non,.non=>aa$ .bl ag
 |_,.non=>aa$ .bl ae
 |_,_=>ac
noncomputable def sclD:D->Bool
 |.non|.bl _|.int _|.str _=>ae
 |_=>ag
noncomputable def asLT:D->Option (List D)
 |.lst l=>aa l
 |.tup l=>aa l
 |_=>ac
noncomputable def inD(neg:Bool)(x y:D):Option D:=(asLT y).bind λl=>if sclD x=ae/\l.all sclD=ae then aa (.bl$ if neg then !l.any (λz=>eqvD z x)else l.any λz=>eqvD z x)else ac
noncomputable instance mulOkD(i j:Int):Decidable (fE i j):=Classical.propDecidable _
noncomputable instance powOkD(i j:Int):Decidable (CPowB i j):=Classical.propDecidable _
noncomputable def wA:D->D->Option D
 |.int i,.int j=>if fE i j then aa (.int$ i*j)else ac
 |_,_=>ac
noncomputable def powD:D->D->Option D
 |.int i,.int j=>if CPowB i j then aa (.int$ i^j.toNat)else ac
 |_,_=>ac
noncomputable def catA(fa fb:FE):FA:=λds=>(fa ds).bind λx=>(fb ds).bind λy=>match x,y with
 |.lst a,.lst b=>if a.length+b.length<=sizeLine then aa (a++b)else ac
 |_,_=>ac
noncomputable def noP:List Sl->Option (Option Int):=λ_=>aa ac
noncomputable def soP(f:FE):List Sl->Option (Option Int):=λds=>(f ds).bind λd=>match d with|.int i=>aa (aa i)|_=>ac
noncomputable def cutD(l:List D)(lo hi:Option Int):List D:=(l.drop$ HT.sIx l.length 0 lo).take$ HT.sIx l.length l.length hi-HT.sIx l.length 0 lo
noncomputable def sliA(f:FE)(lo hi:List Sl->Option (Option Int)):FA:=λds=>(f ds).bind λd=>(lo ds).bind λa=>(hi ds).bind λb=>match d with
 |.lst l=>aa$ cutD l a b
 |_=>ac
noncomputable def lisA(f:FE):FA:=λds=>(f ds).bind asLT
noncomputable def mxD:List D->Option D
 |[.int i,.int j]=>aa$ .int$ if j>i then j else i
 |_=>ac
noncomputable def mnD:List D->Option D
 |[.int i,.int j]=>aa$ .int$ if j<i then j else i
 |_=>ac
noncomputable def absD:List D->Option D
 |[.int i]=>aa$ .int$ if i<0 then -i else i
 |_=>ac
noncomputable def truD:D->Option Bool
 |.non=>aa ag
 |.bl b=>aa b
 |.int i=>aa$ i != 0
 |.str x=>if x.length<=sizeLine then aa ((x.length:Int) != 0)else ac
 |.tup l=>aa$ !l.isEmpty
 |.lst l=>aa$ !l.isEmpty
 |_=>ac
noncomputable def testT(f:FE):FT:=λds=>(f ds).bind truD
noncomputable def relS(i:Nat)(ds:List Sl):List Sl:=match ds[i]? with|some (.own l)=>ds.set i (.v$ .lst l)|_=>ds
noncomputable def oM(c:FT)(b:FS):Nat->FS
 |0,_=>ac
 |n+1,ds=>(c ds).bind λk=>if k=ae then (b ds).bind λo=>match o with
   |.nx ds2=>oM c b n ds2
   |.ct ds2=>oM c b n ds2
   |.bk ds2=>aa$ .nx ds2
   |.rt r=>aa (.rt r)else aa (.nx ds)
noncomputable def asgG(ga:D->List Sl->Option (List Sl))(f:FE):FS:=λds=>(f ds).bind λd=>(ga d ds).map .nx
noncomputable def extG(i:Nat)(fe:FA):FS:=λds=>match ds[i]? with
 |some (.own l)=>(fe ds).bind λd=>if l.length+d.length<=sizeLine then aa (.nx$ ds.set i$ .own$ l++d)else ac
 |_=>ac
noncomputable def clrG(i:Nat):FS:=λds=>match ds[i]? with
 |some (.own l)=>aa$ .nx$ ds.set i$ .own []
 |_=>ac
noncomputable def anyD:List D->Option D
 |[.lst l]=>(blsD l).map λbs=>.bl$ bs.any id
 |_=>ac
noncomputable def ltD:D->D->Option D:=cmpI λi j=>decide (i<j)
noncomputable def leD:D->D->Option D:=cmpI λi j=>decide (i<=j)
noncomputable def gtD:D->D->Option D:=cmpI λi j=>decide (j<i)
noncomputable def geD:D->D->Option D:=cmpI λi j=>decide (j<=i)
noncomputable def rng2(fa fb:FE):FA:=λds=>(fa ds).bind λx=>(fb ds).bind λy=>match x,y with
 |.int i,.int j=>if okR i/\okR j then aa (lG i (j-i).toNat)else ac
 |_,_=>ac
noncomputable def UE(lo c:Int)(n:Nat):List D:=(List.range n).map λ(k:Nat)=>D.int$ lo+(k:Int)*c
noncomputable def aCu(i j c:Int):Nat:=if i<j then ((j-i-1)/c+1).toNat else 0
def okR3(i j c:Int):Prop:=-(2^61)<=i/\i<2^61/\-(2^61)<=j/\j<2^61/\0<c/\c<1000000
noncomputable instance okR3D(i j c:Int):Decidable (okR3 i j c):=Classical.propDecidable _
noncomputable def rng3(fa fb fc:FE):FA:=λds=>(fa ds).bind λx=>(fb ds).bind λy=>(fc ds).bind λz=>match x,y,z with
 |.int i,.int j,.int c=>if okR3 i j c then aa (UE i c$ aCu i j c)else ac
 |_,_,_=>ac
noncomputable def revA(f:FE):FA:=λds=>(f ds).bind λd=>match d with
 |.lst l=>aa l.reverse
 |_=>ac
noncomputable def augA(i:Nat)(f:FE):FS:=λds=>(qB i ds).bind λx=>(f ds).bind λy=>match x,y with
 |.int a,.int b=>aa$ .nx$ ds.set i$ .v$ .int$ a+b
 |_,_=>ac
noncomputable def parG(i j:Nat)(f:FA):FS:=λds=>(f ds).bind λl=>match l with
 |[a,b]=>aa$ .nx$ (ds.set i$ .v a).set j$ .v b
 |_=>ac
noncomputable def int1D:List D->Option D
 |[.int i]=>aa$ .int i
 |[.bl b]=>aa$ .int$ if b then 1 else 0
 |_=>ac
noncomputable def intsD:List D->Option (List Int)
 |[]=>aa []
 |.int b::r=>(intsD r).map λbs=>b::bs
 |_=>ac
abbrev Fun2:=D->List D->Option Ret
mutual
noncomputable def noclo:D->Bool
 |.tup ds=>nR ds
 |.lst ds=>nR ds
 |.dct _ ds=>nR ds
 |.ins _ ds=>nR ds
 |.clo _ _ _=>ag
 |.dcf _ _=>ag
 |_=>ae
noncomputable def nR:List D->Bool
 |[]=>ae
 |d::r=>noclo d&&nR r
end
noncomputable def capsA:List Nat->FA
 |[]=>λ_=>aa []
 |i::r=>λds=>(qB i ds).bind λd=>(capsA r ds).map λl=>d::l
noncomputable def lamA(m n:Nat)(is:List Nat)(g:FA):FA:=λds=>(g ds).bind λl=>(capsA is ds).map λcs=>l++[.clo m n cs]
noncomputable def callW(Φ:Fun2)(i:Nat)(g:FA):FE:=λds=>(qB i ds).bind λf=>(g ds).bind λl=>(Φ f l).bind retV
noncomputable def lamR(g:FE)(caps as:List D):Option Ret:=(g$ (as++caps).map Sl.v).bind λd=>if flat d=ae then aa (.val d)else ac
noncomputable def ncR:Ret->Bool
 |.val d=>noclo d
 |.fresh l=>nR l
 |.any d=>noclo d
 |.obj _=>ag
noncomputable def ncF(F:List D->Option Ret):List D->Option Ret:=λl=>(F l).bind λr=>if ncR r=ae then aa r else ac
open PySem PyProof.Rows L2
noncomputable def sumD:List D->Option D
 |[.lst l]=>(intsD l).map λns=>.int ns.sum
 |_=>ac
noncomputable def fldD(ix:List (Nat×Nat)):D->Option D
 |.ins t ds=>(ix.lookup t).bind λi=>ds[i]?
 |_=>ac
noncomputable def fldG(ix:List (Nat×Nat))(f:FE):FE:=λds=>(f ds).bind$ fldD ix
noncomputable def methR(n:Nat)(cs:List Nat)(F:Nat->List D->Option Ret)(o:D)(l:List D):Option Ret:=match o with
 |.ins t es=>if t∈cs/\l.length=n then F t (.ins t es::l)else ac
 |_=>ac
noncomputable def methV(n:Nat)(cs:List Nat)(F:Nat->List D->Option Ret)(fo:FE)(g:FA):FE:=λds=>(fo ds).bind λo=>(g ds).bind λl=>(methR n cs F o l).bind retV
noncomputable def methF(n:Nat)(cs:List Nat)(F:Nat->List D->Option Ret)(fo:FE)(g:FA):FA:=λds=>(fo ds).bind λo=>(g ds).bind λl=>(methR n cs F o l).bind retF
noncomputable def makeG(t n:Nat)(G:List D->Option (List D))(g:FA):FE:=λds=>(g ds).bind λl=>if l.length=n/\flats l=ae then (G l).map (D.ins t)else ac
open PySem
noncomputable def ifX(c:FT)(a b:List Sl->Bool):List Sl->Bool:=λds=>match c ds with
 |some ae=>a ds
 |some ag=>b ds
 |none=>ag
noncomputable def aFb:List Sl->Bool:=λ_=>ag
noncomputable def WN:List Sl->Bool:=λ_=>ae
noncomputable def runX(x:List Sl->Bool)(n:Nat):List D->Bool:=λds=>x$ args n ds
noncomputable def dropG(f:FE):FS:=λds=>(f ds).map λ_=>.nx ds
noncomputable def goneO(i:Nat):Out->Out
 |.nx ds=>.nx$ ds.set i .no
 |.bk ds=>.bk$ ds.set i .no
 |.ct ds=>.ct$ ds.set i .no
 |.rt r=>.rt r
noncomputable def tryG(i t:Nat)(g:FS)(x:List Sl->Bool)(h:FS):FS:=λds=>if x ds=ae then (h$ ds.set i$ .exc t).map (goneO i)else g ds
noncomputable def isxG(i:Nat)(tb:List (Nat×Bool)):FE:=λds=>match ds[i]? with
 |some (.exc t)=>(tb.lookup t).map D.bl
 |_=>ac
def okRB(i j:Int):Prop:=-(2^61)<=i/\i<2^61/\-(2^61)<=j/\j<2^61
noncomputable instance okRBD(i j:Int):Decidable (okRB i j):=Classical.propDecidable _
noncomputable def insU(k:Int):List Int->List Int
 |[]=>[k]
 |a::l=>if k<a then k::a::l else if k=a then a::l else a::insU k l
noncomputable def srtU(ns:List Int):List Int:=ns.foldr insU []
noncomputable def srtSA(f:FE):FA:=λds=>(f ds).bind λd=>match d with
 |.lst l=>(intsD l).bind λns=>if ns.length+1<4096 then aa ((srtU ns).map D.int)else ac
 |_=>ac
noncomputable def sltW(f:FE)(lo hi:List Sl->Option (Option Int)):FE:=λds=>(f ds).bind λd=>(lo ds).bind λa=>(hi ds).bind λb=>match d with
 |.tup l=>aa$ .tup$ cutD l a b
 |_=>ac
theorem DE k a:∀l,a∈insU k l↔a=k\/a∈l
 |[]=>by simp[insU]
 |b::l=>by
   unfold insU;split
   . simp
   . split
     . rename_i e;rw[e];simp
     . rw [aA,DE k a l,aA];constructor
       . rintro (h|h|h)
         . exact .inr$ .inl h
         . exact .inl h
         . exact .inr$ .inr h
       . rintro (h|h|h)
         . exact .inr$ .inl h
         . exact .inl h
         . exact .inr$ .inr h
theorem mem_srtU a:∀ns,a∈srtU ns↔a∈ns
 |[]=>Iff.rfl
 |k::ns=>by show a∈insU k (srtU ns)↔_;rw[DE,mem_srtU a ns,aA]
theorem VQ k:∀l,l.Pairwise (· < ·)->(insU k l).Pairwise (· < ·)
 |[],_=>eA _ _
 |a::l,h=>by
   obtain⟨f,g⟩:=bI.mp h;unfold insU;split
   . rename_i d;refine bI.mpr ⟨λb c=>?_,h⟩;rcases aA.mp c with e|c
     . rw[e];exact d
     . exact Int.lt_trans d$ f b c
   . split
     . exact h
     . rename_i j i;refine bI.mpr ⟨λb c=>?_,VQ k l g⟩;rcases (DE k b l).mp c with e|c
       . rw[e];omega
       . exact f b c
theorem srtU_lt:∀ns,(srtU ns).Pairwise (· < ·)
 |[]=>List.Pairwise.nil
 |k::ns=>VQ k _$ srtU_lt ns
theorem lt_unique:∀(l m:List Int),(∀a,a∈l↔a∈m)->l.Pairwise (· < ·)->m.Pairwise (· < ·)->l=m
 |[],[],_,_,_=>rfl
 |[],b::m,h,_,_=>absurd ((h b).mpr$ .head _) (by simp)
 |a::l,[],h,_,_=>absurd ((h a).mp$ .head _) (by simp)
 |a::l,b::m,h,h1,h2=>by
   obtain⟨g,j⟩:=bI.mp h1;obtain⟨f,i⟩:=bI.mp h2;have n:a<=b:=by
    rcases aA.mp ((h b).mpr$ .head _)with e|e
    . rw[e];exact dS _
    . exact eJ$ g b e
   have k:b<=a:=by
    rcases aA.mp ((h a).mp$ .head _)with e|e
    . rw[e];exact dS _
    . exact eJ$ f a e
   have e:a=b:=Int.le_antisymm n k;subst e;rw[lt_unique l m (λc=>?_) j i];constructor
   . intro d;rcases aA.mp ((h c).mp (.tail _ d))with e|e
     . exact absurd (g c d) (by rw[e];exact Int.lt_irrefl _)
     . exact e
   . intro d;rcases aA.mp ((h c).mpr (.tail _ d))with e|e
     . exact absurd (f c d) (by rw[e];exact Int.lt_irrefl _)
     . exact e
open PySem PyProof.Rows L2
noncomputable def lamF(n:Nat)(g:FE)(caps as:List D):Option Ret:=if as.length=n then lamR g caps as else ac
noncomputable def fnF(n:Nat)(F:List D->Option Ret)(_ as:List D):Option Ret:=if as.length=n then F as else ac
noncomputable def phiOf(l:List ((Nat×Nat)×(List D->List D->Option Ret))):Fun2:=λf as=>match f with
 |.clo m n caps=>(l.lookup (m,n)).bind λF=>F caps as
 |_=>ac
noncomputable def rngL(fa fb:FE):FA:=λds=>(fa ds).bind λx=>(fb ds).bind λy=>match x,y with
 |.int i,.int j=>aa$ lG i (j-i).toNat
 |_,_=>ac
@[simp] theorem rngL_eq(J z:FE)(ds:List Sl):rngL J z ds=(J ds).bind λx=>(z ds).bind λy=>match x,y with
 |.int i,.int j=>aa$ lG i (j-i).toNat
 |_,_=>ac:=rfl
noncomputable instance mulOkSD(x:Str)(n:Int):Decidable (MulOk x n):=Classical.propDecidable _
abbrev FO:=List Sl->Option OT
abbrev FOs:=List Sl->Option (List OT)
noncomputable def getN(i:Nat):FE:=λds=>match ds[i]? with
 |some (.v d)=>aa d
 |some (.own l)=>aa$ .lst l
 |some (.ob _ t)=>aa$ otD t
 |_=>ac
noncomputable def vO(f:FE):FO:=λds=>(f ds).map OT.val
noncomputable def lO(f:FA):FO:=λds=>(f ds).map λl=>.lst$ l.map OT.val
noncomputable def nilO:FOs:=λ_=>aa []
noncomputable def consO(f:FO)(g:FOs):FOs:=λds=>(f ds).bind λx=>(g ds).map λr=>x::r
noncomputable def tO(f:FOs):FO:=λds=>(f ds).bind λl=>if l.length<=sizeLine then aa (.tup l)else ac
noncomputable def sO(f:FOs):FO:=λds=>(f ds).bind λl=>if l.length<=sizeLine then aa (.lst l)else ac
noncomputable def setB(i:Nat)(f:FO):FS:=λds=>(f ds).map λt=>.nx$ ds.set i$ .ob ac t
mutual
noncomputable def flatO:OT->Bool
 |.val d=>flat d
 |.lst l=>pH l
 |.tup l=>pH l
 |.dct _ l=>pH l
 |.ins _ l=>pH l
noncomputable def pH:List OT->Bool
 |[]=>ae
 |t::r=>flatO t&&pH r
end
noncomputable def subO:List Nat->OT->Option OT
 |[],t=>aa t
 |k::p,.tup l=>(l[k]?).bind$ subO p
 |k::p,.lst l=>(l[k]?).bind$ subO p
 |k::p,.dct _ l=>(l[k]?).bind$ subO p
 |k::p,.ins _ l=>(l[k]?).bind$ subO p
 |_::_,.val _=>ac
noncomputable def putO(u:OT):List Nat->OT->OT
 |[],_=>u
 |k::p,.tup l=>.tup$ l.modify k$ putO u p
 |k::p,.lst l=>.lst$ l.modify k$ putO u p
 |k::p,.dct ks l=>.dct ks$ l.modify k$ putO u p
 |k::p,.ins t l=>.ins t$ l.modify k$ putO u p
 |_::_,.val d=>.val d
abbrev FP:=List Sl->Option (Nat×List Nat×OT)
noncomputable def varP(i:Nat):FP:=λds=>match ds[i]? with
 |some (.ob _ t)=>aa (i,[],t)
 |_=>ac
noncomputable def atP(ix:List (Nat×Nat))(f:FP):FP:=λds=>(f ds).bind λq=>match q.2.2 with
 |.ins t l=>(ix.lookup t).bind λk=>(l[k]?).map λu=>(q.1,q.2.1++[k],u)
 |_=>ac
noncomputable def putP(q:Nat×List Nat×OT)(u:OT)(ds:List Sl):List Sl:=match ds[q.1]? with
 |some (.ob r t)=>ds.set q.1$ .ob r$ putO u q.2.1 t
 |_=>ds
@[simp] theorem getN_eq(i:Nat)(ds:List Sl):getN i ds=match ds[i]? with
 |some (.v d)=>aa d
 |some (.own l)=>aa$ .lst l
 |some (.ob _ t)=>aa$ otD t
 |_=>ac:=rfl
@[simp] theorem vO_eq f ds:vO f ds=(f ds).map OT.val:=rfl
@[simp] theorem lO_eq f ds:lO f ds=(f ds).map λl=>.lst (l.map OT.val):=rfl
@[simp] theorem nilO_eq ds:nilO ds=aa []:=rfl
@[simp] theorem consO_eq f g ds:consO f g ds=(f ds).bind λx=>(g ds).map λr=>x::r:=rfl
@[simp] theorem tO_eq f ds:tO f ds=(f ds).bind λl=>if l.length<=sizeLine then aa (.tup l)else ac:=rfl
@[simp] theorem setB_eq i f ds:setB i f ds=(f ds).map λt=>.nx (ds.set i$ .ob ac t):=rfl
theorem kH:∀l,otDs (l.map OT.val)=l
 |[]=>by simp[otDs]
 |d::r=>by simp[otDs,otD,kH r]
theorem AO:∀l,pH (l.map OT.val)=flats l
 |[]=>by simp[pH,flats]
 |d::r=>by simp[pH,flatO,flats,AO r]
noncomputable def appP(f:FP)(g:FE):FS:=λds=>(f ds).bind λq=>(g ds).bind λd=>match q.2.2 with
 |.lst l=>if l.length<sizeLine then aa (.nx$ putP q (.lst$ l++[.val d]) ds)else ac
 |_=>ac
noncomputable def keyD:D->Option Key
 |.int i=>aa$ .inl$ aa i
 |.non=>aa$ .inl ac
 |.str x=>aa$ .inr x
 |_=>ac
noncomputable def putTs(k:Key)(T:OT):List Key->List OT->List OT
 |k'::ks,t::ts=>(if k'=k then T else t)::putTs k T ks ts
 |_,ts=>ts
noncomputable def hasK(k:Key)(ks:List Key):Bool:=ks.any λk'=>decide (k'=k)
noncomputable def putKT(k:Key)(T:OT)(ks:List Key)(ts:List OT):OT:=if hasK k ks=ae then .dct ks (putTs k T ks ts)else .dct (ks++[k]) (ts++[T])
noncomputable def getKD(k:Key):List Key->List D->Option D
 |k'::ks,d::ds=>if k'=k then aa d else getKD k ks ds
 |_,_=>ac
noncomputable def kdD:D->Option (List Key×List D)
 |.dct ks l=>aa (ks,l)
 |.dcf ks l=>aa (ks,l)
 |_=>ac
noncomputable def dO0:FO:=λ_=>aa$ .dct [] []
noncomputable def dputG(f:FP)(fk fv:FE):FS:=λds=>(fv ds).bind λd=>(f ds).bind λq=>(fk ds).bind λy=>(keyD y).bind λk=>match q.2.2 with
 |.dct ks ts=>if ks.length<sizeLine then aa (.nx$ putP q (putKT k (.val d) ks ts) ds)else ac
 |_=>ac
noncomputable def dgetG(fd fk:FE):FE:=λds=>(fd ds).bind λx=>(fk ds).bind λy=>(keyD y).bind λk=>(kdD x).bind λp=>getKD k p.1 p.2
noncomputable def dinG(fk fd:FE):FT:=λds=>(fk ds).bind λy=>(keyD y).bind λk=>(fd ds).bind λx=>(kdD x).map λp=>hasK k p.1
noncomputable def dnotG(fk fd:FE):FT:=λds=>(dinG fk fd ds).map λb=>!b
noncomputable def valsO:List OT->Option (List D)
 |[]=>aa []
 |.val d::r=>(valsO r).map λl=>d::l
 |_::_=>ac
noncomputable def frzDG(i:Nat)(g:FS):FS:=λds=>match ds[i]? with
 |some (.ob _$ .dct ks ts)=>(valsO ts).bind λl=>g$ ds.set i$ .v$ .dcf ks l
 |_=>ac
noncomputable def keyDD:Key->D
 |.inl (aa i)=>.int i
 |.inl ac=>.non
 |.inr x=>.str x
noncomputable def argsL(n:Nat)(T:OT)(l:List D):List Sl:=.ob (aa 0) T::args (n-1) l
noncomputable def ob0:Option Sl->Option OT
 |some (.ob (aa 0) T)=>aa T
 |_=>ac
noncomputable def lentF(g:FS)(n:Nat)(T:OT)(l:List D):Option OT:=match g (argsL n T l)with
 |some (.nx ds)=>ob0 ds[0]?
 |_=>ac
noncomputable def lentG(n:Nat)(cs:List Nat)(F:Nat->OT->List D->Option OT)(f:FP)(g:FA):FS:=λds=>(f ds).bind λq=>(g ds).bind λl=>match q.2.2 with
 |.ins t ts=>if t∈cs/\l.length=n then (F t (.ins t ts) l).map λT'=>.nx (putP q T' ds)else ac
 |_=>ac
noncomputable def setNw(t t':Nat)(f:FP)(g:FO):FS:=λds=>(g ds).bind λT=>(f ds).bind λq=>match q.2.2 with
 |.ins c l=>if c=t/\l.length<900 then aa (.nx$ putP q (.ins t'$ l++[T]) ds)else ac
 |_=>ac
noncomputable def makeO(t n m:Nat)(F:OT->List D->Option OT)(g:FA):FO:=λds=>(g ds).bind λl=>if l.length+m=n then F (.ins t []) (l++List.replicate m .non)else ac
abbrev FX:=List Sl->Option (D×List Sl)
def leT(a b:Str):Prop:=¬b.cps.toList<a.cps.toList
def HZ(h1:leT a b)(h2:leT b c):leT a c:=λh=>by
 rcases strKind.negTrans c.cps.toList b.cps.toList a.cps.toList (decide_eq_true h)with q|q
 . exact h2$ of_decide_eq_true q
 . exact h1$ of_decide_eq_true q
def ZI(h:a.cps.toList<b.cps.toList):leT a b:=λq=>List.lt_irrefl _$ List.lt_trans h q
def JS(h1:leT a b)(h2:leT b a):a=b:=by have:=List.le_antisymm (List.not_lt.mp h1)$ List.not_lt.mp h2;cases a;cases b;simp[Str.mk.injEq];exact Array.toList_inj.mp this
noncomputable def insT(k:Str):List Str->List Str
 |[]=>[k]
 |a::l=>if a.cps.toList<k.cps.toList then a::insT k l else k::a::l
noncomputable def srtT(ns:List Str):List Str:=ns.foldr insT []
theorem kJ k:∀l,(insT k l).Perm$ k::l
 |[]=>gZ _
 |a::l=>by
   unfold insT;split
   . exact(List.Perm.cons a$ kJ k l).trans (List.Perm.swap _ _ _)
   . exact gZ _
theorem srtT_perm:∀ns,(srtT ns).Perm ns
 |[]=>gZ _
 |k::ns=>(kJ k _).trans$ List.Perm.cons k$ srtT_perm ns
theorem VR k:∀l,l.Pairwise leT->(insT k l).Pairwise leT
 |[],_=>eA _ _
 |a::l,h=>by
   obtain⟨f,g⟩:=bI.mp h;unfold insT;split
   . rename_i d;refine bI.mpr ⟨λb c=>?_,VR k l g⟩;rcases aA.mp ((kJ k l).mem_iff.mp c)with e|c
     . rw[e];exact ZI d
     . exact f b c
   . rename_i d;refine bI.mpr ⟨λb c=>?_,h⟩;rcases aA.mp c with e|c
     . rw[e];exact d
     . exact HZ d$ f b c
theorem srtT_le:∀ns,(srtT ns).Pairwise leT
 |[]=>List.Pairwise.nil
 |k::ns=>VR k _$ srtT_le ns
theorem leT_unique:∀(l m:List Str),l.Perm m->l.Pairwise leT->m.Pairwise leT->l=m
 |[],m,z,_,_=>(List.Perm.nil_eq z)
 |a::l,[],z,_,_=>by have:=z.length_eq;simp at this
 |a::l,b::m,z,h1,h2=>by
   obtain⟨i,h⟩:=bI.mp h1;obtain⟨g,f⟩:=bI.mp h2;have e:a=b:=by
    have d:a∈b::m:=z.mem_iff.mp$ .head _;have c:b∈a::l:=z.mem_iff.mpr$ .head _;rcases aA.mp d with e|d
    . exact e
    . rcases aA.mp c with e|c
      . exact e.symm
      . exact JS (i b c)$ g a d
   subst e;rw[leT_unique l m z.cons_inv h f]
theorem HF:∀l p,risingS p l=ae->(p::l).Pairwise leT
 |[],p,_=>eA _ _
 |x::r,p,h=>by
   simp only[risingS,bY,uG,ltCps_eq,decide_eq_false_iff_not]at h;have c:=HF r x h.2;obtain⟨d,f⟩:=bI.mp c;refine bI.mpr ⟨λb a=>?_,c⟩;rcases aA.mp a with e|a
   . rw[e];exact h.1
   . exact HZ h.1$ d b a
theorem sortedS_le:∀{l:List Str},sortedS l=ae->l.Pairwise leT
 |[],_=>List.Pairwise.nil
 |p::l,h=>HF l p h
noncomputable def relO(i:Nat)(ds:List Sl):List Sl:=match ds[i]? with|some (.ob _ T)=>ds.set i (.v$ otD T)|_=>ds
noncomputable def flV'(d:D):Option D:=if flat d=ae then aa d else ac
noncomputable def relVO(i:Nat)(f:FE):FE:=λds=>(f$ relO i ds).bind flV'
noncomputable def relTO(i:Nat)(c:FT):FT:=λds=>c$ relO i ds
noncomputable def seeO(f:FO):FE:=λds=>(f ds).map otD
noncomputable def refO:OT->Bool
 |.lst _=>ae
 |.dct _ _=>ae
 |.ins _ _=>ae
 |_=>ag
noncomputable def seqR(g:FS)(f:FX):FX:=λds=>(g ds).bind λo=>match o with
 |.nx ds'=>f ds'
 |_=>ac
noncomputable def vR(f:FE):FX:=λds=>(f ds).map λd=>(d,ds)
noncomputable def obAt(p:Nat):Option Sl->Option OT
 |some (.ob (aa q) T)=>if q=p then aa T else ac
 |_=>ac
noncomputable def lentR(g:FX)(n p:Nat)(T:OT)(l:List D):Option (D×OT):=(g$ (args n l).set p$ .ob (aa p) T).bind λq=>(obAt p$ q.2[p]?).map λT'=>(q.1,T')
noncomputable def hereA(g:FA):FA:=λds=>(g ds).map λl=>D.non::l
noncomputable def callR(n i:Nat)(F:OT->List D->Option (D×OT))(g:FA):FX:=λds=>(g ds).bind λl=>match ds[i]? with
 |some (.ob r T)=>if refO T=ae/\l.length=n then (F T l).map λq=>(q.1,ds.set i$ .ob r q.2)else ac
 |_=>ac
noncomputable def setR(j:Nat)(f:FX):FS:=λds=>(f ds).map λq=>.nx$ q.2.set j$ .v q.1
noncomputable def isT(t:Nat):D->Bool
 |.ins c _=>decide (c=t)
 |_=>ag
noncomputable def methX(t n:Nat)(R:List D->Bool)(fo:FE)(g:FA):List Sl->Bool:=λds=>match fo ds with
 |some d=>match g ds with
   |some l=>isT t d&&(decide (l.length=n)&&R (d::l))
   |none=>ag
 |none=>ag
noncomputable def relGO(i:Nat)(f:FO):FO:=λds=>(f$ relO i ds).bind λT=>if flatO T=ae then aa T else ac
noncomputable def ofO(f:FO):FE:=λds=>(f ds).map otD
open PySem
open PySem L2
noncomputable def keysA(f:FE):FA:=λds=>(f ds).bind λx=>match x with
 |.dcf ks _=>aa$ ks.map keyDD
 |_=>ac
noncomputable def cntT:List Str->Nat
 |[]=>0
 |x::r=>if x∈r then cntT r else cntT r+1
noncomputable def lsetE(f:FE):FE:=λds=>(f ds).bind λx=>match x with
 |.lst l=>(strsD l).bind λts=>if ts.length<1000 then aa (.int (cntT ts.reverse:Nat))else ac
 |_=>ac
noncomputable def srtTA(f:FE):FA:=λds=>(f ds).bind λx=>match x with
 |.lst l=>(strsD l).bind λts=>if ts.length<64 then aa ((srtT ts).map D.str)else ac
 |_=>ac
theorem cntT_le:∀l,cntT l<=l.length
 |[]=>aL _
 |x::r=>by have:=cntT_le r;unfold cntT;split<;>simp<;>omega
theorem EH:∀l,l.Nodup->cntT l=l.length
 |[],_=>rfl
 |x::r,h=>by rw[bK]at h;unfold cntT;rw[if_neg h.1,EH r h.2];rfl
noncomputable def dputN(f:FP)(fk:FE)(g:FO):FS:=λds=>(g ds).bind λT=>(f ds).bind λq=>(fk ds).bind λy=>(keyD y).bind λk=>match q.2.2 with
 |.dct ks ts=>if ks.length<sizeLine/\hasK k ks=ag then aa (.nx$ putP q (.dct (ks++[k])$ ts++[T]) ds)else ac
 |_=>ac
noncomputable def insV(s:Option Sl):Option D:=match s with
 |some (.ob _$ .ins t [.dct ks ts])=>aa$ .ins t [.dcf ks$ otDs ts]
 |_=>ac
noncomputable def relTV(i:Nat)(c:FT):FT:=λds=>(insV ds[i]?).bind λd=>c$ ds.set i$ .v d
open PySem PyProof.Rows L2
abbrev Fls:=List$ Str×Int
abbrev FF:=List Sl->Option Fls
noncomputable def lvalA(f:FE):FA:=λds=>(f ds).bind λd=>(kdD d).map λp=>p.2
open PySem L2
end FL
namespace L2
open PySem PySem.Spec PyProof.Rows
noncomputable def isN0:Value->Bool
 |.none=>ae
 |_=>ag
noncomputable def keyIs:Key->Value->Bool:=λk v=>match k with
 |.inl (aa n)=>Value.isInt n v
 |.inl ac=>isN0 v
 |.inr x=>Value.isStrOf x v
noncomputable def keyH(w:cT):Key->Int:=λk=>match k with
 |.inl (aa n)=>uD n
 |.inl ac=>4238894112
 |.inr x=>hashStr w x
def jP(h:keyIs k v=ae):(∃i t,k=Sum.inl (aa i)/\v=Value.int i t)\/(∃x t,k=Sum.inr x/\v=Value.str x t)\/(k=Sum.inl ac/\v=Value.none):=by
 rcases k with(_|i)|x
 . refine .inr$ .inr ⟨rfl,?_⟩;cases v<;>first|rfl|cases h
 . obtain⟨t,e⟩:=Value.isInt_shape h;exact .inl ⟨i,t,rfl,e⟩
 . obtain⟨t,e⟩:=Value.isStrOf_shape h;exact .inr$ .inl ⟨x,t,rfl,e⟩
def ZW(h:Q 4238894112 {s with toks:=s.toks+1}):bG (4:) A (PySem.pyHash .none) Q E s:=by
 have a:s.TypeIs .none "NoneType":=rfl;have b:[Value.none].any Value.onHeap=ag:=rfl;refine aC ?_;refine aO ?_;refine aC$ sX a iC.lookup ?_;refine aC$ sX a iC.lookup ?_
 refine aC (wpAny_callSpecialIfBoundUnlessNone?_slot a iC
  (kR iC a PySem.F.entry_NoneType_hash
    (wpAny_ret_mkInt ?_) (PySem.F.args_NoneType_hash_1 _)))
 exact aO h
noncomputable def gF(prog:bW)(w:cT):PySem.KeyKind prog w Key where
 is:=keyIs
 hash:=keyH w
 inj:=λv a b ha hb=>by rcases jP ha with⟨i,t,rfl,rfl⟩|⟨x,t,rfl,rfl⟩|⟨rfl,rfl⟩<;>rcases jP hb with⟨j,u,rfl,e⟩|⟨y,u,rfl,e⟩|⟨rfl,e⟩<;>cases e<;>rfl
 byValue:=λk v h=>by rcases jP h with⟨i,t,rfl,rfl⟩|⟨x,t,rfl,rfl⟩|⟨rfl,rfl⟩<;>rfl
 pyHash:=λhv h=>by
  rcases jP hv with⟨i,t,rfl,rfl⟩|⟨x,t,rfl,rfl⟩|⟨rfl,rfl⟩
  . exact wpAny_pyHash_int h
  . exact wpAny_pyHash_str h
  . exact ZW h
 eqBool:=λhu hv h=>by
  rcases jP hu with⟨i,t,rfl,rfl⟩|⟨x,t,rfl,rfl⟩|⟨rfl,rfl⟩<;>rcases jP hv with⟨j,u,rfl,rfl⟩|⟨y,u,rfl,rfl⟩|⟨rfl,rfl⟩
  . exact wpAny_eqBool_int (by simp only[Sum.inl.injEq,Option.some.injEq]at h;exact h)
  . exact SeqAt.EqAt.int_str i t y u _ _ _ _ (by simpa using h)
  . exact SeqAt.EqAt.int_none i t _ _ _ _ (by simpa using h)
  . exact SeqAt.EqAt.str_int x t j u _ _ _ _ (by simpa using h)
  . exact wpAny_eqBool_str (by simpa using h)
  . exact SeqAt.EqAt.str_none x t _ _ _ _ (by simpa using h)
  . exact SeqAt.EqAt.none_int j u _ _ _ _ (by simpa using h)
  . exact SeqAt.EqAt.none_str y u _ _ _ _ (by simpa using h)
  . exact SeqAt.EqAt.same .none _ _ _ _ (by simpa using h)
 «strs»:=λk x t v h=>by
  rcases jP h with⟨i,u,rfl,e⟩|⟨y,u,rfl,e⟩|⟨rfl,e⟩<;>cases e
  cases v<;>rfl
inductive V where
 |non|bl (b:Bool)|int (i:Int)|str (x:Str)|byt (b:Array UInt8)|flt (b:UInt64)|ref (a:aF)|ty (n:String)
 deriving DecidableEq
noncomputable def RelV:V->Value->Prop
 |.non,u=>u=Value.none
 |.bl b,u=>u=Value.bool b
 |.int i,u=>∃t,u=Value.int i t
 |.str x,u=>∃t,u=Value.str x t
 |.byt b,u=>∃t,u=Value.bytes b t
 |.flt b,u=>∃t,u=Value.float b t
 |.ref a,u=>u=Value.ref a
 |.ty n,u=>u=Value.type n
abbrev Vals:List V->List Value->Prop:=GK RelV
theorem Vals.length(r:Vals xs z):xs.length=z.length:=GK.length r
theorem Vals.get:∀{xs:List V}{z:List Value}{i:Nat}{x:V},Vals xs z->xs[i]?=aa x->∃u,z[i]?=aa u/\RelV x u
 |_,_,_,_,.nil,e=>by simp at e
 |_,_,0,_,.cons r _,e=>by simp at e;subst e;exact⟨_,rfl,r⟩
 |_,_,i+1,x,.cons _ t,e=>by obtain⟨u,b,a⟩:=Vals.get (i:=i) (x:=x) t (by simpa using e);exact⟨u,by simpa using b,a⟩
theorem Vals.set(r:RelV x u):∀{xs:List V}{z:List Value} (i:Nat),Vals xs z->Vals (xs.set i x) (z.set i u)
 |_,_,_,.nil=>.nil
 |_,_,0,.cons _ t=>.cons r t
 |_,_,i+1,.cons q t=>.cons q$ Vals.set r i t
def Vals.append{xs ys:List V}{z J:List Value}(h:Vals xs z)(s:Vals ys J):Vals (xs++ys) (z++J):=h.rec (motive:=λxs z _=>Vals (xs++ys)$ z++J) s λr _=>.cons r
theorem Vals.take:∀{xs:List V}{z:List Value} (n:Nat),Vals xs z->Vals (xs.take n) (z.take n)
 |_,_,0,_=>.nil
 |_,_,_+1,.nil=>.nil
 |_,_,n+1,.cons r t=>.cons r$ Vals.take n t
theorem Vals.drop:∀{xs:List V}{z:List Value} (n:Nat),Vals xs z->Vals (xs.drop n) (z.drop n)
 |_,_,0,r=>r
 |_,_,_+1,.nil=>.nil
 |_,_,n+1,.cons _ t=>Vals.drop n t
noncomputable def RelO:Option V->Option Value->Prop
 |some v,aa u=>RelV v u
 |none,ac=>True
 |_,_=>False
def KV{κ:Type}: List (κ×V)->List (κ×Value)->Prop:=GK λ(p:κ×V) (q:κ×Value)=>p.1=q.1/\RelV p.2 q.2
noncomputable def kV:Key->V:=λk=>match k with
 |.inl (aa n)=>.int n
 |.inl ac=>.non
 |.inr x=>.str x
inductive HO where
 |lst (xs:List V)
 |tup (xs:List V)
 |dK (kvs:List (Key×V))|dT (kvs:List (List Key×V))
 |set (S:Int->Bool) (n:Nat)
 |ins (C dx:aF) (fs:List (Str×V))
 |own (x:aF)
 |xd (fs:List (Str×V))
 |met (f x:aF)
 |rng (lo hi:Int)
 |frz (o:Obj) (u:HO)
 |tbl (q:Nat->Nat->Str)
 |ext (φ:Heap->Prop)
abbrev Hp:=aF->Option HO
noncomputable def upd(H:Hp)(a:aF)(o:HO):Hp:=λb=>if b=a then aa o else H b
def bP:upd H a o a=aa o:=by unfold upd;rw[if_pos rfl]
def upd_ne(h:b≠a):upd H a o b=H b:=by unfold upd;rw[if_neg h]
def ne_of{H:Hp}(h:H a=aa o)(h':H b=aa u)(d:o≠u):a≠b:=by intro e;subst e;rw[h]at h';exact d$ Option.some.inj h'
def qW{H:Hp}(h:H a=aa o)(h':H b=ac):a≠b:=by intro e;subst e;rw[h]at h';cases h'
def TblOk(H:Hp)(q:Nat->Nat->Str)(ps:Array Value):Prop:=TriplesOk ps.toList/\∀a v,uE a ps.toList=aa v->∃c o u b t,v=.ref c/\H c=aa (.frz o u)/\o.data=.fields b/\b[1]?=aa (.str (q a.line a.col) t)
noncomputable def Fixed:HO->Prop
 |.tup _=>True
 |.frz o _=>∃vs,o.data=.fields vs
 |_=>False
noncomputable def Fx:={u:HO // Fixed u}
section
variable(P:bW)(w:cT)
noncomputable def ObjOk(H:Hp)(h:Heap)(a:aF):HO->Prop
 |.lst xs=>xs.length<=sizeLine/\∃(its:List Value) (n:Nat),Vals xs its/\h.get? a=aa {cls:=.type "list",data:=.seq its.toArray n}
 |.tup xs=>xs.length<=sizeLine/\∃its:List Value,Vals xs its/\IsTup h a its.toArray
 |.dK kvs=>kvs.length<=sizeLine/\(a==lL)=ag/\∃vs,KV kvs vs/\h.DictOf (gF P w) a vs
 |.dT kvs=>kvs.length<=sizeLine/\(a==lL)=ag/\∃xs:List (List Key×aF×Value),
    GK (λ(p:List Key×V) (q:List Key×aF×Value)=>p.1=q.1/\H q.2.1=aa (.tup$ p.1.map kV)/\RelV p.2 q.2.2) kvs xs ∧
    ∃o es ep,h.get? a=aa o/\o.ExactDict/\o.data=.dict es ep/\es.toList=xs.map (entryOfKey$ GC$ gF P w)/\(xs.map (·.1)).Nodup
 |.set S n=>h.SetOf (ET P w) a S n
 |.ins C dx fs=>H dx=aa (.own a)/\fs.length<=1000/\dx≠a/\h.get? a=aa (fS C dx) ∧
    ∃mA,h.Ns1 dx mA/\(∀f,RelO (fs.lookup f)$ mA f)/\PySem.Within mA (fs.map (·.1))
 |.own _=>∃o,h.get? a=aa o
 |.xd fs=>∃mA,h.Ns1 a mA/\∀f,RelO (fs.lookup f)$ mA f
 |.rng lo hi=>∃t u v,h.get? a=aa {cls:=.type "range",data:=.fields #[.int lo t,.int hi u,.int 1 v]}
 |.frz o u=>h.get? a=aa o/\ObjOk H h a u
 |.tbl q=>∃ps,h.get? a=aa (nF ps)/\TblOk H q ps
 |.met f x=>h.get? a=aa (PySem.W.methodObj (.ref f)$ .ref x)
 |.ext φ=>φ h/\(∃o,h.get? a=aa o)/\∀h1 h2:Heap,φ h1->(∀o,h1.get? a=aa o->h2.get? a=aa o)->φ h2
def HOk(H:Hp)(h:Heap):Prop:=∀a o,H a=aa o->ObjOk P w H h a o
end
theorem ObjOk.lt(x:ObjOk P w H h a o):a<h.objs.size:=by
 cases o with
 |lst xs=>obtain⟨_,_,_,_,e⟩:=x;exact bA e
 |tup xs=>obtain⟨_,_,_,p⟩:=x;exact p.lt
 |dK b=>obtain⟨_,_,_,_,o,_,_,e,_⟩:=x;exact bA e
 |dT b=>obtain⟨_,_,_,_,o,_,_,e,_⟩:=x;exact bA e
 |set S n=>obtain⟨o,_,_,_,e,_⟩:=x;exact bA e
 |ins C d fs=>obtain⟨_,_,_,e,_⟩:=x;exact bA e
 |own y=>obtain⟨_,e⟩:=x;exact bA e
 |xd fs=>obtain⟨_,⟨_,_,_,e,_⟩,_⟩:=x;exact bA e
 |rng lo hi=>obtain⟨_,_,_,e⟩:=x;exact bA e
 |frz ob u=>obtain⟨e,_⟩:=x;exact bA e
 |tbl q=>obtain⟨_,e,_⟩:=x;exact bA e
 |met f y=>exact bA$ show h.get? a=aa _ from x
 |ext c=>obtain⟨_,⟨_,e⟩,_⟩:=x;exact bA e
def GK.mapP{z:List U}{l₂:List J}(h:GK F z l₂)(f:∀a b,F a b->G a b):GK G z l₂:=h.rec .nil λr _=>.cons$ f _ _ r
def ObjOk.stay(x:ObjOk P w H h a o)(k:∀b u,(b=a\/H b=aa (.own a))->h.get? b=aa u->h'.get? b=aa u)(U:∀b,H b=aa (.own a)->H' b=aa (.own a))(J:∀b (xs:Fx),H b=aa xs.1->H' b=aa xs.1):ObjOk P w H' h' a o:=by
 induction o with
 |lst xs=>obtain⟨z,j,n,r,e⟩:=x;exact⟨z,j,n,r,k _ _ (.inl rfl) e⟩
 |tup xs=>obtain⟨z,j,r,ob,e,c⟩:=x;exact⟨z,j,r,ob,k _ _ (.inl rfl) e,c⟩
 |dK B=>obtain⟨z,y,l,r,ob,g,i,e,c⟩:=x;exact⟨z,y,l,r,ob,g,i,k _ _ (.inl rfl) e,c⟩
 |dT B=>obtain⟨z,y,xs,r,ob,g,i,e,c⟩:=x;exact⟨z,y,xs,GK.mapP r λp q z=>⟨z.1,J _ ⟨.tup _,trivial⟩ z.2.1,z.2.2⟩,ob,g,i,k _ _ (.inl rfl) e,c⟩
 |set S n=>obtain⟨ob,g,i,t,e,c⟩:=x;exact⟨ob,g,i,t,k _ _ (.inl rfl) e,c⟩
 |ins C Q fs=>obtain⟨d,z,ne,e,A,⟨s,g,i,N,c⟩,r⟩:=x;exact⟨U _ d,z,ne,k _ _ (.inl rfl) e,A,⟨s,g,i,k _ _ (.inr d) N,c⟩,r⟩
 |own y=>obtain⟨ob,e⟩:=x;exact⟨ob,k _ _ (.inl rfl) e⟩
 |xd fs=>obtain⟨A,⟨s,g,i,e,c⟩,r⟩:=x;exact⟨A,⟨s,g,i,k _ _ (.inl rfl) e,c⟩,r⟩
 |rng lo hi=>obtain⟨t,u,v,e⟩:=x;exact⟨t,u,v,k _ _ (.inl rfl) e⟩
 |frz ob u I=>obtain⟨e,q⟩:=x;exact⟨k _ _ (.inl rfl) e,I q⟩
 |tbl q=>obtain⟨G,e,F,E⟩:=x;refine⟨G,k a _ (.inl rfl) e,F,λm v z=>?_⟩;obtain⟨c,o,u,l,t,M,L,D,K⟩:=E m v z;exact⟨c,o,u,l,t,M,J c ⟨.frz o u,l,D⟩ L,D,K⟩
 |met f y=>have e:=x;exact k a _ (.inl rfl) e
 |ext O=>obtain⟨p,⟨o,e⟩,st⟩:=x;exact⟨st _ _ p λo q=>k _ _ (.inl rfl) q,⟨o,k _ _ (.inl rfl) e⟩,st⟩
theorem HOk.lt(x:HOk P w H h)(e:H a=aa o):a<h.objs.size:=(x a o e).lt
def HOk.fresh(x:HOk P w H h)(e:h.objs.size<=a):H a=ac:=by
 cases q:H a with
 |none=>rfl
 |some u=>exact absurd (bM (x.lt q) e)$ cM _
def HOk.kept(x:HOk P w H h)(k:∀b u,h.get? b=aa u->h'.get? b=aa u):HOk P w H h':=λa o e=>(x a o e).stay (λb u _ q=>k b u q) (λ_ q=>q) λ_ _ q=>q
def HOk.laid(x:HOk P w H h)(k:∀b u,h.get? b=aa u->h'.get? b=aa u)(z:h.objs.size<=a)(new:ObjOk P w (upd H a o) h' a o):HOk P w (upd H a o) h':=λb u e=>by
 have d:=x.fresh z;by_cases f:b=a
 . subst f;rw[bP]at e;cases e;exact new
 . rw[upd_ne f]at e;exact(x b u e).stay (λc v _ q=>k c v q) (λc q=>by rw[upd_ne$ qW q d];exact q) λc xs q=>by rw[upd_ne$ qW q d];exact q
def Rd(H:Hp)(a:aF)(u:HO):Prop:=H a=aa u\/∃o,H a=aa (.frz o u)
def Rd.of(h:H a=aa u):Rd H a u:=.inl h
def Rd.ok(r:Rd H a u)(x:HOk P w H h):ObjOk P w H h a u:=by
 rcases r with r|⟨o,r⟩
 . exact x a u r
 . obtain⟨_,q⟩:=x a _ r;exact q
noncomputable def Mut:Option HO->Prop
 |some (.lst _)=>True
 |some (.dK _)=>True
 |some (.dT _)=>True
 |some (.set _ _)=>True
 |some (.ins _ _ _)=>True
 |some (.ext _)=>True
 |_=>False
def HOk.write(ok:HOk P w H h)(J:Mut (H x))(he:e=x\/H e=aa (.own x))(k:∀b u,b≠e->h.get? b=aa u->h'.get? b=aa u)(U:∃u,h'.get? e=aa u)(new:ObjOk P w (upd H x Y) h' x Y):HOk P w (upd H x Y) h':=λb u q=>by
 have d:∀c y,H c=aa (.own y)->c≠x:=λc y r z=>by subst z;rw[r]at J;exact J
 have f:∀c (xs:Fx),H c=aa xs.1->c≠x:=λc xs r z=>by subst z;rw[r]at J;obtain⟨u,m⟩:=xs;cases u<;>first|exact False.elim J|exact False.elim m
 by_cases i:b=x
 . subst i;rw[bP]at q;cases q;exact new
 . rw [upd_ne i]at q;by_cases a:b=e
   . have j:H b=aa (.own x):=by
      rcases he with z|z
      . exact absurd (a.trans z) i
      . rw[a];exact z
     rw[q]at j;cases j;obtain⟨v,l⟩:=U;exact⟨v,by rw[a];exact l⟩
   . refine (ok b u q).stay (λc v g r=>k c v ?_ r) (λc r=>by rw [upd_ne (d c b r)];exact r) λc xs r=>by rw [upd_ne (f c xs r)];exact r
     rcases g with rfl|g
     . exact a
     . rintro rfl;rcases he with z|z
       . exact d c b g z
       . rw[g]at z;cases z;exact i rfl
structure Un(fs ex:List aF)(H H':Hp)(h h':Heap):Prop where
 keep:∀b o,h.get? b=some o->H b=none->b∉fs->b∉ex->h'.get? b=some o
 slot:∀b o,h.get? b=some o->H b=none->b∈fs->b∉ex->∃sl,h'.get? b=some {o with slots:=sl}
 free:∀b o,h.get? b=some o->H b=none->b∉ex->H' b=none
 there:∀b o,h.get? b=some o->b∉ex->∃o',h'.get? b=some o'
 tups:∀b xs,H b=some (.tup xs)->H' b=some (.tup xs)
 frzs:∀b o u,H b=some (.frz o u)->H' b=some (.frz o u)
 tbls:∀b ps,H b=some (.tbl ps)->H' b=some (.tbl ps)
section
variable{fs fs' ex ex':List aF}{H H1 H2:Hp}{h h1 h2 h':Heap}{a x e:aF}{o:HO}
def Un.any(u:Un fs ex H H1 h h1)(q:h.get? b=aa ob)(n:H b=ac)(z:b∉ex):∃sl,h1.get? b=aa {ob with slots:=sl}:=by
 by_cases a:b∈fs
 . exact u.slot b ob q n a z
 . exact⟨ob.slots,u.keep b ob q n a z⟩
def Un.trans(a:Un fs ex H H1 h h1)(b:Un fs ex H1 H2 h1 h2):Un fs ex H H2 h h2 where
 keep:=λc ob q n e d=>b.keep c ob (a.keep c ob q n e d) (a.free c ob q n d) e d
 slot:=λc ob q n e d=>by obtain⟨sl,f⟩:=a.slot c ob q n e d;obtain⟨g,k⟩:=b.slot c _ f (a.free c ob q n d) e d;exact⟨g,k⟩
 free:=λc ob q n d=>by obtain⟨i,f⟩:=a.there c ob q d;exact b.free c i f (a.free c ob q n d) d
 there:=λc ob q d=>by obtain⟨i,f⟩:=a.there c ob q d;exact b.there c i f d
 tups:=λc xs q=>b.tups c xs (a.tups c xs q)
 frzs:=λc ob xs q=>b.frzs c ob xs (a.frzs c ob xs q)
 tbls:=λc j q=>b.tbls c j$ a.tbls c j q
def Un.kept(k:∀b u,h.get? b=aa u->h'.get? b=aa u):Un fs ex H H h h':=
 ⟨λb ob q _ _ _=>k b ob q,λb ob q _ _ _=>⟨ob.slots,k b ob q⟩,λ_ _ _ n _=>n,λb ob q _=>⟨ob,k b ob q⟩,λ_ _ q=>q,λ_ _ _ q=>q,λ_ _ q=>q⟩
def Un.refl:Un fs ex H H h h:=Un.kept λ_ _ q=>q
def Un.laid(k:∀b u,h.get? b=aa u->h'.get? b=aa u)(J:h.objs.size<=a)(z:H a=ac):Un fs ex H (upd H a o) h h' where
 keep:=λb u q _ _ _=>k b u q
 slot:=λb u q _ _ _=>⟨u.slots,k b u q⟩
 free:=λb u q n _=>by rw[upd_ne$ bJ$ bM (bA q) J];exact n
 there:=λb u q _=>⟨u,k b u q⟩
 tups:=λb xs q=>by rw[upd_ne$ qW q z];exact q
 frzs:=λb u xs q=>by rw[upd_ne$ qW q z];exact q
 tbls:=λb c q=>by rw[upd_ne$ qW q z];exact q
def Un.write(J:Mut (H x))(Y:e=x\/H e=aa (.own x))(k:∀b u,b≠e->h.get? b=aa u->h'.get? b=aa u)(U:∃u,h'.get? e=aa u):Un fs ex H (upd H x o) h h':=by
 have d:∀b,H b=ac->b≠x:=λb n z=>by subst z;rw[n]at J;exact J
 have f:∀b,H b=ac->b≠e:=λb n z=>by
  subst z;rcases Y with r|r
  . exact d b n r
  . rw[n]at r;cases r
 have c:∀b u,H b=aa u->¬Mut (aa u)->b≠x:=λb u q nm z=>by subst z;rw[q]at J;exact nm J
 refine⟨λb u q n _ _=>k b u (f b n) q,λb u q n _ _=>⟨u.slots,k b u (f b n) q⟩,λb u q n _=>by rw[upd_ne$ d b n];exact n,λb u q _=>?_,
  λb xs q=>by rw[upd_ne$ c b _ q λz=>z];exact q,λb u xs q=>by rw[upd_ne$ c b _ q λz=>z];exact q,λb g q=>by rw[upd_ne$ c b _ q λz=>z];exact q⟩
 by_cases a:b=e
 . subst a;exact U
 . exact⟨u,k b u a q⟩
def Un.mono(u:Un fs ex H H1 h h1)(U:∀b∈fs,b∈fs')(J:∀b∈ex,b∈ex'):Un fs' ex' H H1 h h1:=
 ⟨λb ob q n c a=>u.keep b ob q n (λz=>c$ U b z) λz=>a$ J b z,λ_ _ q n _ a=>u.any q n λz=>a$ J _ z,λb ob q n a=>u.free b ob q n λz=>a$ J b z,λb ob q a=>u.there b ob q λz=>a$ J b z,u.tups,u.frzs,u.tbls⟩
end
noncomputable def trk(h:Heap)(H:Hp):List aF:=(List.range h.objs.size).filter λa=>(H a).isSome
noncomputable def hidT(h:Heap)(H:Hp):Heap:=PySem.W.hideAll h$ trk h H
def ZV h H:(hidT h H).objs.size=h.objs.size:=PySem.W.hideAll_size _ _
def NN(e:h.get? b=aa o)(n:H b=ac):(hidT h H).get? b=aa o:=
 PySem.W.hideAll_get _ e λa=>by have q:=(fD.mp a).2;rw[n]at q;simp at q
def of_hidT(e:(hidT h H).get? b=aa o):h.get? b=aa o/\H b=ac:=by
 have a:=PySem.W.of_hideAll (trk h H) e;refine⟨a,?_⟩;cases q:H b with
 |none=>rfl
 |some x=>have c:b∈trk h H:=fD.mpr ⟨nZ.mpr$ bA a,by simp[q]⟩;have z:(hidT h H).get? b=ac:=PySem.W.hideAll_none (trk h H) c;rw[z]at e;cases e
noncomputable def allNews(g h:Heap)(L:aF):List (aF×Obj):=(List.range h.objs.size).filterMap λa=>if a=L\/(g.get? a).isSome=ae then ac else (h.get? a).map λo=>(a,o)
noncomputable def rest(g h:Heap)(L d:aF):List (aF×Obj):=(allNews g h L).filter λp=>decide (p.1≠d)
structure Mod(K:aM)(mg:Str->Option Value)(base:Heap):Prop where
 kin:K.In base
 glob:base.Ns mainGlobals mg
 blt:∃mb,base.Ns BC mb/\∀x:Str,x≠"__name__"->mb x=fA x
 nolimit:base.NoLimit
structure Cx where
 prog:bW
 w:cT
 K:aM
 mg:Str->Option Value
 base:Heap
 A:dF
 N:List Str
 s₀:aW
 H₀:Hp
 env:Env
 outer:List Env
 stack:List Env
 ex:List aF
 fn:Str->Bool
 calm:Bool
 pn:List (aF×Obj)
 xe:Value->aW->Prop
noncomputable def frs(l:List Env):List aF:=l.filterMap (·.frame)
noncomputable abbrev Cx.fs(X:Cx):List aF:=frs X.outer
def Vis(z:Scope)(x:Str):Prop:=z.names.lookup x=aa .local\/z.names.lookup x=aa .cell\/z.names.lookup x=aa .free
def Loc(z:Scope)(x:Str):Prop:=z.names.lookup x=aa .local\/z.names.lookup x=aa .cell
def Look(env:Env)(h:Heap)(m:Str->Option Value)(x:Str)(u:Value):Prop:=
 (env.kindOf x=aa .local/\m x=aa u)\/((env.kindOf x=aa .cell\/env.kindOf x=aa .free)/\∃c,env.cells.lookup x=aa c/\h.IsCell c (aa u))
noncomputable def makers:List Str:=["law","_law_with_itself","_law_ways","_law_way","holding","_law_any_test","_law_test","_law_turned","_law_right","wheel_run","answer_run","Bundle.crowd"]
noncomputable def DO:List Stmt->Nat->Nat->Str
 |[],_,_=>"<lambda>"
 |.FunctionDef n _ _ _ _ _ _ _ _ pos::r,l,c=>if pos.line=l/\pos.col=c then n else DO r l c
 |_::r,l,c=>DO r l c
noncomputable def meths:List (Str×Str×Str):=[("Bundle.crowd","Bundle","crowd")]
noncomputable def fnAt(K:aM)(x:Str):Option (Option Value):=match meths.lookup x with
 |none=>aH K mainGlobals x
 |some (C,m)=>(match aH K mainGlobals C with
   |some (aa v)=>cG K v m
   |some ac=>aa ac
   |none=>ac)
noncomputable def tabM(K:aM)(x:Str):Option (aF×aF):=match fnAt K x with
 | some (aa (.ref f)) => (match K.lookup f with
   |some ⟨_,_,.func fd,_⟩=>(match fd.code with
     |.ref c=>(match K.lookup c with
       |some ⟨_,_,.fields vs,_⟩=>(match (vs[11]?:Option Value)with
         |some (.ref P)=>aa (c,P)
         |_=>ac)
       |_=>ac)
     |_=>ac)
   |_=>ac)
 |_=>ac
def JC{K:aM}{x:Str}(h:meths.lookup x=ac):tabM K x=rS K x:=by unfold tabM fnAt rS;rw[h];rfl
noncomputable def nS(K:aM)(x:Str)(l c:Nat):Str:=match fnAt K x with
 |some (aa$ .ref f)=>(match K.lookup f with
   |some ⟨_,_,.func fd,_⟩=>(match fd.body with
     |.stmts b=>x++".<locals>."++DO b l c
     |_=>x)
   |_=>x)
 |_=>x
structure TabsK(K:aM)(mg:Str->Option Value)(base:Heap)(H:Hp):Prop where
 bm:∃bm ob,mg "__builtins__"=some (.ref bm)/\bm≠BC/\base.get? bm=some ob/\ob.cls=.type "module"/\ob.dict=some BC/\ob.data=.plain
 tab:∀x c P,x∈makers->tabM K x=some (c,P)->aBe base c P/\H P=some (.tbl (nS K x))
def Bsz(K:aM)(mg:Str->Option Value)(base h:Heap)(H:Hp):Prop:=base.objs.size<=h.objs.size/\TabsK K mg base H
def FreeC(X:Cx)(H:Hp)(x:Str)(c:aF):Prop:=H c=ac\/(X.fn x=ag/\∃o u,H c=aa (.frz o u))
def FreeC.now(h:FreeC X H x c)(J:X.fn x=ae):H c=ac:=h.elim id λz=>by rw[J]at z;cases z.1
structure Cx.Ok(X:Cx):Prop where
 mod:Mod X.K X.mg X.base
 kind:X.env.scope.kind=.function
 glob:X.env.globals=mainGlobals
 blt:X.env.builtins=BC
 above:X.s₀.heap.objs.size<=X.env.locals
 inj:∀x y c,X.env.cells.lookup x=some c->X.env.cells.lookup y=some c->x=y
 has:∀x,(X.env.kindOf x=some .cell\/X.env.kindOf x=some .free)->∃c,X.env.cells.lookup x=some c
 cab:∀x c,X.fn x=true->X.env.cells.lookup x=some c->X.s₀.heap.objs.size<=c
 hd:X.calm=true->X.A.handled=none
 frames:X.A.frames=some X.stack
 stk:X.stack=X.outer\/(X.stack=X.env::X.outer/\X.env.frame=some X.env.locals)
 exf:∀b∈X.ex,b≠X.env.locals/\∀x c,X.env.cells.lookup x=some c->c≠b
 bs:∀b o,X.base.get? b=some o->X.s₀.heap.get? b=some o/\X.H₀ b=none
 bsz:Bsz X.K X.mg X.base X.s₀.heap X.H₀
 noex:∀b o,X.base.get? b=some o->b∉X.ex
 exfs:∀b∈X.ex,b∉X.fs
 funs:X.s₀.heap.FunFrames X.base X.outer
 frf:∀b∈X.fs,X.H₀ b=none
structure Inv(X:Cx)(aE:List (aF×Obj))(σ:List (Option V))(H:Hp)(s:aW):Prop where
 ok:X.Ok
 os:s.os=X.s₀.os
 bare:mP s.gens
 base:Un X.fs X.ex X.H₀ H X.s₀.heap s.heap
 loc:∃m,s.heap.Ns X.env.locals m/\∀(i:Nat) (x:Str) (v:V),X.N[i]?=some x->σ[i]?=some (some v)->Vis X.env.scope x->∃u,RelV v u/\Look X.env s.heap m x u
 cell:∀x c,X.env.cells.lookup x=some c->∃v,s.heap.IsCell c v
 free:H X.env.locals=none
 freeC:∀x c,X.env.cells.lookup x=some c->FreeC X H x c
 pin:∀p∈X.pn++aE,s.heap.get? p.1=some p.2/\H p.1=none/\p.1≠X.env.locals/\p.1∉X.fs/\∀v,p.2.data≠.cell v
 hok:HOk X.prog X.w H s.heap
 len:σ.length=X.N.length
section
variable{X:Cx}
def Cx.Ok.nofr(ok:X.Ok)(e:X.base.get? b=aa o):b∉X.fs:=λa=>by have:=(ok.funs.mem a).1;rw[e]at this;cases this
theorem Inv.bs(I:Inv X aE σ H s):∀b o,X.base.get? b=aa o->s.heap.get? b=aa o/\H b=ac:=λb o e=>⟨I.base.keep b o (I.ok.bs b o e).1 (I.ok.bs b o e).2 (I.ok.nofr e)$ I.ok.noex b o e,I.base.free b o (I.ok.bs b o e).1 (I.ok.bs b o e).2$ I.ok.noex b o e⟩
def Inv.bk(I:Inv X aE σ H s):∀b o,X.base.get? b=aa o->s.heap.get? b=aa o:=λb o e=>(I.bs b o e).1
theorem Inv.mod(I:Inv X aE σ H s):Mod X.K X.mg X.base:=I.ok.mod
def Inv.kIn(I:Inv X aE σ H s):X.K.In s.heap:=I.ok.mod.kin.keeps I.bk
theorem Inv.lt(I:Inv X aE σ H s):X.env.locals<s.heap.objs.size:=let ⟨_,a,_⟩:=I.loc;a.lt
def Inv.sz(I:Inv X aE σ H s):X.s₀.heap.objs.size<=s.heap.objs.size:=cS I.ok.above$ AA I.lt
def Inv.nofs(I:Inv X aE σ H s)(h:s.heap.objs.size<=a):a∉X.fs:=λc=>by obtain⟨_,o,b,_⟩:=I.ok.funs.mem c;exact absurd (bM (bA b)$ cS I.sz h)$ cM _
def Inv.cne(I:Inv X aE σ H s):∀x c,X.env.cells.lookup x=aa c->c≠X.env.locals:=λx c e z=>by obtain⟨v,o,d,hd⟩:=I.cell x c e;obtain⟨m,⟨f,g,h,a,b,_⟩,_⟩:=I.loc;rw[z,a]at d;cases d;rw[b]at hd;cases hd
theorem Inv.funs(I:Inv X aE σ H s):s.heap.FunFrames X.base X.outer:=by
 have all:∀(l:List Env),(∀b∈frs l,b∈X.fs)->X.s₀.heap.FunFrames X.base l->s.heap.FunFrames X.base l:=by
  intro l;induction l with
  |nil=>intro _ _;trivial
  |cons env r g=>intro f k;obtain⟨m,⟨L,o,a,j,i,hd⟩,h⟩:=k;have d:L∈X.fs:=f L (by unfold frs;rw[gK,a];exact aP);obtain⟨sl,e⟩:=I.base.slot L o i (I.ok.frf L d) d λz=>I.ok.exfs L z d;exact⟨m,⟨L,_,a,j,e,hd⟩,g (λb c=>f b$ by unfold frs;rw[gK,a];exact aJ _ c) h⟩
 exact all X.outer (λ_ c=>c) I.ok.funs
theorem Inv.stack(I:Inv X aE σ H s):s.heap.FunFrames X.base X.stack:=by
 rcases I.ok.stk with e|⟨e,b⟩
 . rw[e];exact I.funs
 . rw[e];obtain⟨m,a,_⟩:=I.loc;refine .cons (by rw[I.ok.kind];decide) b a ?_ I.funs;exact Heap.get?_none_of_le$ cS I.ok.bsz.1 I.ok.above
def Inv.stkSub(I:Inv X aE σ H s):∀b∈frs X.stack,b∈X.env.locals::X.fs:=λb a=>by
 rcases I.ok.stk with e|⟨e,c⟩
 . rw[e]at a;exact aJ _ a
 . rw[e]at a;unfold frs at a;rw[gK,c]at a;exact a
def Inv.stkFree(I:Inv X aE σ H s):∀b∈frs X.stack,H b=ac:=λb a=>by
 rcases aA.mp (I.stkSub b a)with e|a
 . rw[e];exact I.free
 . obtain⟨_,o,c,_⟩:=I.ok.funs.mem a;exact I.base.free b o c (I.ok.frf b a) λz=>I.ok.exfs b z a
def Inv.step{ch:List aF}(I:Inv X aE σ H s)(J:∀b∈ch,(b∈X.ex\/X.s₀.heap.objs.size<=b)/\b≠X.env.locals/\(∀x c,X.env.cells.lookup x=aa c->c≠b)/\∀p∈X.pn++aE,p.1≠b)(keep:∀b o,b≠X.env.locals->b∉X.fs->b∉ch->s.heap.get? b=aa o->H b=ac->h'.get? b=aa o)(slot:∀b o,b≠X.env.locals->b∈X.fs->b∉ch->s.heap.get? b=aa o->H b=ac->∃sl,h'.get? b=aa {o with slots:=sl})(free:∀b o,b∉ch->s.heap.get? b=aa o->H b=ac->H' b=ac)(there:∀b o,b∉ch->s.heap.get? b=aa o->∃U,h'.get? b=aa U)(tups:∀b xs,H b=aa (.tup xs)->H' b=aa (.tup xs))(frzs:∀b o u,H b=aa (.frz o u)->H' b=aa (.frz o u))(tbls:∀b ps,H b=aa (.tbl ps)->H' b=aa (.tbl ps))(ns:∀m,s.heap.Ns X.env.locals m->h'.Ns X.env.locals m)(hok:HOk X.prog X.w H' h')(Y:mP g'):Inv X aE σ H' {s with heap:=h',gens:=g',drawn:=d',toks:=t'}:=by
 have y:∀b o,X.s₀.heap.get? b=aa o->b≠X.env.locals:=λb o e=>bJ$ bM (bA e) I.ok.above;have j:∀b o,X.s₀.heap.get? b=aa o->b∉X.ex->b∉ch:=λb o e a w=>by
  rcases(J b w).1 with z|z
  . exact a z
  . exact absurd (bM (bA e) z)$ cM _
 have g:∀x c,X.env.cells.lookup x=aa c->∀v,s.heap.IsCell c v->h'.IsCell c v:=λx c e v ⟨o,t,hd⟩=>by
  have f:=λz=>(J c z).2.2.1 x c e rfl;rcases I.freeC x c e with fr|⟨_,of,B,fr⟩
  . by_cases E:c∈X.fs
    . obtain⟨sl,q⟩:=slot c o (I.cne x c e) E f t fr;exact⟨_,q,hd⟩
    . exact⟨o,keep c o (I.cne x c e) E f t fr,hd⟩
  . obtain⟨h,_⟩:=I.hok c _ fr;obtain⟨A,_⟩:=hok c _$ frzs c of B fr;rw[t]at h;cases h;exact⟨o,A,hd⟩
 refine⟨I.ok,I.os,Y,⟨λb o e n w a=>?_,λb o e n w a=>?_,λb o e n a=>?_,λb o e a=>?_,λb xs e=>tups b xs$ I.base.tups b xs e,λb o xs e=>frzs b o xs$ I.base.frzs b o xs e,λb ps e=>?_⟩,?_,λx c e=>?_,?_,λx c e=>?_,λp D=>?_,hok,I.len⟩
 . exact keep b o (y b o e) w (j b o e a) (I.base.keep b o e n w a)$ I.base.free b o e n a
 . obtain⟨sl,h⟩:=I.base.slot b o e n w a;obtain⟨C,A⟩:=slot b _ (y b o e) w (j b o e a) h$ I.base.free b o e n a;exact⟨C,A⟩
 . obtain⟨U,h⟩:=I.base.there b o e a;exact free b U (j b o e a) h$ I.base.free b o e n a
 . obtain⟨U,h⟩:=I.base.there b o e a;exact there b U (j b o e a) h
 . exact tbls b ps$ I.base.tbls b ps e
 . obtain ⟨m,F,G⟩:=I.loc;refine ⟨m,ns m F,λi x v h A L=>?_⟩;obtain ⟨u,r,l⟩:=G i x v h A L;refine ⟨u,r,?_⟩;rcases l with l|⟨k,c,e,z⟩
   . exact .inl l
   . exact .inr ⟨k,c,e,g x c e _ z⟩
 . obtain⟨v,z⟩:=I.cell x c e;exact⟨v,g x c e v z⟩
 . obtain⟨m,⟨o,_,_,t,_⟩,_⟩:=I.loc;exact free _ o (λz=>(J _ z).2.1 rfl) t I.free
 . obtain⟨v,o,t,hd⟩:=I.cell x c e;exact(I.freeC x c e).elim (λfr=>.inl$ free c o (λz=>(J c z).2.2.1 x c e rfl) t fr) λ⟨K,of,B,fr⟩=>.inr ⟨K,of,B,frzs c of B fr⟩
 . obtain⟨e,n,ne,nf,d⟩:=I.pin p D;have f:=λz=>(J p.1 z).2.2.2 p D rfl;exact⟨keep p.1 p.2 ne nf f e n,free p.1 p.2 f e n,ne,nf,d⟩
def Inv.un(I:Inv X aE σ H s)(u:Un X.fs [] H H' s.heap h')(hok:HOk X.prog X.w H' h'):Inv X aE σ H' {s with heap:=h',toks:=t'}:=by
 obtain⟨m,⟨o,p,q,g,r⟩,_⟩:=id I.loc;obtain⟨sl,j⟩:=u.any g I.free (by simp);exact I.step (ch:=[]) (λ_ z=>nomatch z) (λb o _ c _ e n=>u.keep b o e n c$ by simp) (λb o _ c _ e n=>u.slot b o e n c$ by simp) (λb o _ e n=>u.free b o e n$ by simp) (λb o _ e=>u.there b o e$ by simp) u.tups u.frzs u.tbls (λl i=>by
  obtain⟨k,d,f,a,h⟩:=i;rw[g]at a;cases a
  exact⟨_,d,f,j,h⟩) hok I.bare
def Inv.call(I:Inv X aE σ H s)(u:Un (frs X.stack) ch H H' s.heap h')(hok:HOk X.prog X.w H' h')(U:mP g')(J:∀b∈ch,(b∈X.ex\/X.s₀.heap.objs.size<=b)/\b≠X.env.locals/\(∀x c,X.env.cells.lookup x=aa c->c≠b)/\∀p∈X.pn++aE,p.1≠b):Inv X aE σ H' {s with heap:=h',gens:=g',drawn:=d',toks:=t'}:=by
 obtain⟨m,⟨o,v,w,i,r⟩,_⟩:=id I.loc;obtain⟨sl,f⟩:=u.any i I.free λz=>(J _ z).2.1 rfl;exact I.step J (λb o f l a e n=>u.keep b o e n (λz=>(aA.mp$ I.stkSub b z).elim f l) a) (λb o _ _ a e n=>u.any e n a) (λb o a e n=>u.free b o e n a) (λb o a e=>u.there b o e a) u.tups u.frzs u.tbls (λt k=>by
  obtain⟨q,g,h,d,j⟩:=k;rw[i]at d;cases d
  exact⟨_,g,h,f,j⟩) hok U
def Inv.turned(I:Inv X aE σ H s)(k:∀b o,b≠it->s.heap.get? b=aa o->h'.get? b=aa o)(U:H it=ac)(J:it≠X.env.locals)(h1:it∈X.ex\/X.s₀.heap.objs.size<=it)(h2:∀x c,X.env.cells.lookup x=aa c->c≠it)(Y:∀p∈X.pn++aE,p.1≠it):Inv X aE σ H {s with heap:=h',toks:=t'}:=by
 have d:∀b u,H b=aa u->b≠it:=λb u e z=>by rw[z,U]at e;cases e
 refine I.step (ch:=[it]) (λb h=>?_) (λb o _ _ a e _=>k b o (λz=>a$ by simp[z]) e) (λb o _ _ a e _=>⟨o.slots,k b o (λz=>a$ by simp[z]) e⟩) (λ_ _ _ _ n=>n)
  (λb o a e=>⟨o,k b o (λz=>a$ by simp[z]) e⟩) (λ_ _ e=>e) (λ_ _ _ e=>e) (λ_ _ e=>e) (λm g=>?_) (λb u e=>?_) I.bare
 . have e:b=it:=by simpa using h
   subst e;exact⟨h1,J,h2,Y⟩
 . obtain⟨o,i,j,f,r⟩:=g;exact⟨o,i,j,k _ o (Ne.symm J) f,r⟩
 . refine (I.hok b u e).stay (λc v a q=>k c v ?_ q) (λ_ q=>q) λ_ _ q=>q;rcases a with z|z
   . rw[z];exact d b u e
   . exact d c _ z
def Inv.tok(I:Inv X aE σ H s) t:Inv X aE σ H {s with toks:=t}:=I.un (h':=s.heap) (t':=t) Un.refl I.hok
theorem Inv.kept(I:Inv X aE σ H s)(k:∀b u,s.heap.get? b=aa u->h'.get? b=aa u):Inv X aE σ H {s with heap:=h',toks:=t'}:=I.un (Un.kept k)$ I.hok.kept k
theorem Inv.laid(I:Inv X aE σ H s)(k:∀b u,s.heap.get? b=aa u->h'.get? b=aa u)(z:s.heap.objs.size<=a)(new:ObjOk X.prog X.w (upd H a o) h' a o):Inv X aE σ (upd H a o) {s with heap:=h',toks:=t'}:=I.un (Un.laid k z$ I.hok.fresh z)$ I.hok.laid k z new
theorem Inv.write(I:Inv X aE σ H s)(J:Mut (H x))(U:e=x\/H e=aa (.own x))(k:∀b u,b≠e->s.heap.get? b=aa u->h'.get? b=aa u)(z:∃u,h'.get? e=aa u)(new:ObjOk X.prog X.w (upd H x o) h' x o):Inv X aE σ (upd H x o) {s with heap:=h',toks:=t'}:=I.un (Un.write J U k z)$ I.hok.write J U k z new
def Inv.pins_of(I:Inv X aE σ H s)(h:∀p∈pins',s.heap.get? p.1=aa p.2/\H p.1=ac/\p.1≠X.env.locals/\p.1∉X.fs/\∀v,p.2.data≠.cell v):Inv X pins' σ H s:=
 ⟨I.ok,I.os,I.bare,I.base,I.loc,I.cell,I.free,I.freeC,λp a=>(bE.mp a).elim (λz=>I.pin p$ aY _ z)$ h p,I.hok,I.len⟩
def DA{N:List Str}(z:N.Nodup){i j:Nat}(a:N[i]?=aa x)(b:N[j]?=aa x):i=j:=by obtain⟨f,d⟩:=bC.mp a;obtain⟨e,c⟩:=bC.mp b;exact(List.getElem_inj z).mp (d.trans c.symm)
def GY(I:Inv X aE σ H s)(hN:X.N.Nodup)(hi:X.N[i]?=aa x)(J:Loc X.env.scope x)(r:RelV v u)(h:∀s',Inv X aE (σ.set i$ aa v) H s'->(∃a,Heap.SameBut a s.heap s'.heap/\(a=X.env.locals\/X.env.cells.lookup x=aa a))->Q () s')(hf:X.fn x=ae\/X.env.scope.names.lookup x=aa .local:=by first|exact .inl rfl|exact .inr rfl|assumption):bG M A (storeName X.env x u) Q E s:=by
 obtain⟨m,hn,hl⟩:=id I.loc;have O:(X.env.scope.kind==.class||(X.env.scope.kind==.module&&X.env.locals != X.env.globals))=ag:=by rw[I.ok.kind];rfl
 have F:i<σ.length:=by rw[I.len];exact(bC.mp hi).1
 have cne:=I.cne;have g:∀{a:aF}{h':Heap},(∃o,s.heap.get? a=aa o/\H a=ac)->Heap.SameBut a s.heap h'->HOk X.prog X.w H h':=λ{a h'} ha f b ob e=>by
  obtain⟨_,_,w⟩:=ha;refine(I.hok b ob e).stay (λc S t q=>(f.2 c ?_).trans q) (λ_ q=>q) λ_ _ q=>q;rintro rfl;rcases t with rfl|t
  . rw[w]at e;cases e
  . rw[w]at t;cases t
 rcases J with D|D
 . refine wpAny_storeName_local D hn (λh' hn' f=>?_) O;obtain ⟨oL,_,_,hoL,_⟩:=id hn;refine h _ ⟨I.ok,I.os,I.bare,⟨λb o e n K J=>?_,λb o e n K J=>?_,I.base.free,λb o e J=>?_,I.base.tups,I.base.frzs,I.base.tbls⟩,⟨_,hn',λj y V l C e3=>?_⟩,λy c e=>?_,I.free,I.freeC,λp Y=>?_,g ⟨oL,hoL,I.free⟩ f,by simpa using I.len⟩ ⟨_,f,.inl rfl⟩
   . exact(f.2 b$ bJ$ bM (bA e) I.ok.above).trans (I.base.keep b o e n K J)
   . obtain⟨sl,l⟩:=I.base.slot b o e n K J;exact⟨sl,(f.2 b$ bJ$ bM (bA e) I.ok.above).trans l⟩
   . obtain⟨U,l⟩:=I.base.there b o e J;exact⟨U,(f.2 b$ bJ$ bM (bA e) I.ok.above).trans l⟩
   . by_cases G:j=i
     . subst G;rw[hi]at l;cases l;rw[aU F]at C;cases C;exact⟨u,r,.inl ⟨D,by simp⟩⟩
     . rw [aB (Ne.symm G)]at C;obtain ⟨W,Z,q⟩:=hl j y V l C e3;refine ⟨W,Z,?_⟩;rcases q with ⟨k,e⟩|⟨k,c,e,z⟩
       . refine .inl ⟨k,?_⟩;have:y≠x:=λe=>G$ DA hN l$ e▸hi;simp[this,e]
       . exact .inr ⟨k,c,e,z.sameBut f$ cne y c e⟩
   . obtain⟨S,z⟩:=I.cell y c e;exact⟨S,z.sameBut f$ cne y c e⟩
   . obtain⟨e,n,ne,nf,d⟩:=I.pin p Y;exact⟨(f.2 p.1 ne).trans e,n,ne,nf,d⟩
 . have B:X.fn x=ae:=by
    rcases hf with z|z
    . exact z
    . rw[z]at D;cases D
   obtain⟨c,t⟩:=I.ok.has x$ .inl D;obtain⟨S,z⟩:=I.cell x c t;refine wpAny_storeName_cell I.ok.kind D t z λh' R f=>?_;obtain⟨oc,N,L⟩:=id z;refine h {s with heap:=h'} ⟨I.ok,I.os,I.bare,⟨λb o e n K J=>?_,λb o e n K J=>?_,I.base.free,λb o e J=>?_,I.base.tups,I.base.frzs,I.base.tbls⟩,⟨m,hn.sameBut f$ Ne.symm$ cne x c t,λj y V l C e3=>?_⟩,λy T e=>?_,I.free,I.freeC,λp Y=>?_,g ⟨oc,N,(I.freeC x c t).now B⟩ f,by simpa using I.len⟩ ⟨c,f,.inr t⟩
   . exact(f.2 b$ bJ$ bM (bA e)$ I.ok.cab x c B t).trans (I.base.keep b o e n K J)
   . obtain⟨sl,l⟩:=I.base.slot b o e n K J;exact⟨sl,(f.2 b$ bJ$ bM (bA e)$ I.ok.cab x c B t).trans l⟩
   . obtain⟨U,l⟩:=I.base.there b o e J;exact⟨U,(f.2 b$ bJ$ bM (bA e)$ I.ok.cab x c B t).trans l⟩
   . by_cases G:j=i
     . subst G;rw[hi]at l;cases l;rw[aU F]at C;cases C;exact⟨u,r,.inr ⟨.inl D,c,t,R⟩⟩
     . rw [aB (Ne.symm G)]at C;obtain ⟨W,Z,q⟩:=hl j y V l C e3;refine ⟨W,Z,?_⟩;rcases q with q|⟨k,T,e,z'⟩
       . exact .inl q
       . refine .inr ⟨k,T,e,z'.sameBut f ?_⟩;rintro rfl;exact G$ DA hN l$ I.ok.inj _ _ _ e t▸hi
   . by_cases P:T=c
     . subst P;exact⟨_,R⟩
     . obtain⟨w2,z2⟩:=I.cell y T e;exact⟨w2,z2.sameBut f P⟩
   . obtain⟨e,n,ne,nf,d⟩:=I.pin p Y;refine⟨(f.2 p.1 ?_).trans e,n,ne,nf,d⟩;intro q;rw[q,N]at e;have q':=Option.some.inj e;exact d S (by rw[<-q'];exact L)
def vE(I:Inv X aE σ H s)(U:X.N.Nodup)(hi:X.N[i]?=aa x)(z:Loc X.env.scope x)(r:RelV v u)(h:∀s',Inv X aE (σ.set i$ aa v) H s'->Q () s')(J:X.fn x=ae\/X.env.scope.names.lookup x=aa .local:=by first|exact .inl rfl|exact .inr rfl|assumption):bG M A (storeName X.env x u) Q E s:=
 GY I U hi z r (λs' a _=>h s' a) J
def Inv.call'(I:Inv X aE σ H s)(J:s'.os=s.os)(u:Un (frs X.stack) ch H H' s.heap s'.heap)(hok:HOk X.prog X.w H' s'.heap)(U:mP s'.gens)(z:∀b∈ch,(b∈X.ex\/X.s₀.heap.objs.size<=b)/\b≠X.env.locals/\(∀x c,X.env.cells.lookup x=aa c->c≠b)/\∀p∈X.pn++aE,p.1≠b):Inv X aE σ H' s':=by obtain⟨f,g,h,a,d⟩:=s';have e:=J;subst e;exact I.call u hok U z
end
abbrev XK:=Value->Option aF->Hp->Prop
abbrev St:=List$ Option V
abbrev VK:=V->Hp->Prop
abbrev TE:=St->Hp->VK->Prop
abbrev TT:=St->Hp->(Bool->Hp->Prop)->Prop
abbrev TA:=St->Hp->(List V->Hp->Prop)->Prop
structure Ends where
 nx:St->Hp->Prop
 rt:VK
 bk:St->Hp->Prop:=λ_ _=>False
 ct:St->Hp->Prop:=λ_ _=>False
abbrev TS:=Ends->St->Hp->Prop
def EP(X:Cx)(aE:List (aF×Obj))(σ:St)(Q:VK)(u:Value)(s':aW):Prop:=∃v a,Inv X aE σ a s'/\RelV v u/\Q v a
def TP(X:Cx)(aE:List (aF×Obj))(σ:St)(Q:Bool->Hp->Prop)(b:Bool)(s':aW):Prop:=∃a,Inv X aE σ a s'/\Q b a
def AP(X:Cx)(aE:List (aF×Obj))(σ:St)(Q:List V->Hp->Prop)(z:List Value)(s':aW):Prop:=∃a b,Inv X aE σ b s'/\Vals a z/\Q a b
def SP(X:Cx)(aE:List (aF×Obj))(D:Ends)(f:Flow)(s':aW):Prop:=
 match f with
 |.next=>∃a b,Inv X aE a b s'/\D.nx a b
 |.brk=>∃a b,Inv X aE a b s'/\D.bk a b
 |.cont=>∃a b,Inv X aE a b s'/\D.ct a b
 |.ret u=>∃v a b,Inv X aE a b s'/\RelV v u/\D.rt v b
def PE(X:Cx)(e:Expr)(t:TE):Prop:=
 ∀(aE:List (aF×Obj)) (s:aW) (σ:St) (H:Hp) (Q:VK),Inv X aE σ H s->t σ H Q->bG (1:) X.A (cA e X.env) (EP X aE σ Q) X.xe s
def PT(X:Cx)(e:Expr)(t:TT):Prop:=
 ∀(aE:List (aF×Obj)) (s:aW) (σ:St) (H:Hp) (Q:Bool->Hp->Prop),Inv X aE σ H s->t σ H Q->bG (1:) X.A (GF e X.env$ cA e X.env) (TP X aE σ Q) X.xe s
def PW(X:Cx)(e:Expr)(t:TT):Prop:=
 ∀(z:Sem Value) (aE:List (aF×Obj)) (s:aW) (σ:St) (H:Hp) (Q:Bool->Hp->Prop),Inv X aE σ H s->t σ H Q->bG (1:) X.A (GF e X.env z) (TP X aE σ Q) X.xe s
def PW.pt(h:PW X e t):PT X e t:=h _
def PA(X:Cx)(es:List Expr)(t:TA):Prop:=
 ∀(pos:Pos) (aE:List (aF×Obj)) (s:aW) (σ:St) (H:Hp) (Q:List V->Hp->Prop),Inv X aE σ H s->t σ H Q->bG (1:) X.A (spliced$ dJ pos$ aG es X.env) (AP X aE σ Q) X.xe s
def PS(X:Cx)(st:Stmt)(t:TS):Prop:=
 ∀(aE:List (aF×Obj)) (s:aW) (σ:St) (H:Hp) (D:Ends),Inv X aE σ H s->t D σ H->bG (1:) X.A (exec st X.env) (SP X aE D) X.xe s
def PSs(X:Cx)(st:List Stmt)(t:TS):Prop:=
 ∀(aE:List (aF×Obj)) (s:aW) (σ:St) (H:Hp) (D:Ends),Inv X aE σ H s->t D σ H->bG (1:) X.A (execs st X.env) (SP X aE D) X.xe s
def thn(h:bG M A t Q E s)(z:∀a s,Q a s->J a s):bG M A t J E s:=dD h z λ_ _ x=>x
section
variable{X:Cx}
def tVar(i:Nat):TE:=λa H Q=>∃v,a[i]?=aa (aa v)/\Q v H
def tC(v:V):TE:=λ_ H Q=>Q v H
def xD(U:X.N[i]?=aa x)(J:Vis X.env.scope x)(hd:(2:)=ag:=by decide)(z:(x==("__classdict__":Str))=ag:=by decide):PE X (.Name x pos) (tVar i):=by
 intro n s f H Q I h;obtain⟨v,e,h⟩:=h;obtain⟨m,g,k⟩:=I.loc;obtain⟨u,r,l⟩:=k i x v U e J;have fin:EP X n f Q u s:=⟨v,H,I,r,h⟩
 rcases l with⟨b,j⟩|⟨b,c,d,a⟩
 . exact wpAny_Name (wpAny_loadName_local I.ok.kind b g j fin) hd
 . rcases b with b|b
   . exact wpAny_Name (wpAny_loadName_cell I.ok.kind b d a fin) hd
   . exact wpAny_Name (wpAny_loadName_free I.ok.kind b d a fin z) hd
def pe_int{i j pos}: PE X (.Constant (.int i) j pos) (tC$ .int i):=λ_ _ _ H _ I h=>wpAny_Constant_int ⟨.int i,H,I.tok _,⟨_,rfl⟩,h⟩
def pe_bl{b j pos}: PE X (.Constant (.bool b) j pos) (tC$ .bl b):=λ_ _ _ H _ I h=>Constant_bool ⟨.bl b,H,I,rfl,h⟩
def pe_non{j pos}: PE X (.Constant .none j pos) (tC .non):=λ_ _ _ H _ I h=>Constant_none ⟨.non,H,I,rfl,h⟩
def pe_str{x j pos}: PE X (.Constant (.str x) j pos) (tC$ .str x):=λ_ _ _ H _ I h=>Calls.Constant_str ⟨.str x,H,I.tok _,⟨_,rfl⟩,h⟩
def Gl(X:Cx)(x:Str):Prop:=X.env.kindOf x=aa .globalImplicit
def wN(I:Inv X aE σ H s)(z:Gl X x)(hm:X.mg x=aa u)(h:Q u s)(hd:(2:)=ag:=by decide):bG (1:) X.A (cA (.Name x pos) X.env) Q E s:=
 Calls.Name_function_global I.ok.kind z (Calls.loadGlobal_global (by rw[I.ok.glob];exact I.mod.glob.keeps I.bk) hm h) hd
def wV(I:Inv X aE σ H s)(U:Gl X x)(hm:X.mg x=ac)(z:fA x=aa u)(h:Q u s)(J:x≠"__name__":=by decide)(hd:(2:)=ag:=by decide):bG (1:) X.A (cA (.Name x pos) X.env) Q E s:=by obtain⟨c,b,a⟩:=I.mod.blt;exact Calls.Name_function_global I.ok.kind U (Calls.loadGlobal_builtin (by rw[I.ok.glob];exact I.mod.glob.keeps I.bk) hm (by rw[I.ok.blt];exact b.keeps I.bk) ((a x J).trans z) h) hd
def BM(z:Gl X x)(hm:X.mg x=aa u)(r:RelV v u)(hd:(2:)=ag:=by decide):PE X (.Name x pos) (tC v):=
 λ_ _ _ H _ I h=>wN I z hm ⟨v,H,I,r,h⟩ hd
def UX(U:Gl X x)(hm:X.mg x=ac)(z:fA x=aa u)(r:RelV v u)(J:x≠"__name__":=by decide)(hd:(2:)=ag:=by decide):PE X (.Name x pos) (tC v):=
 λ_ _ _ H _ I h=>wV I U hm z ⟨v,H,I,r,h⟩ J hd
variable{a b:Expr}{ta tb:TE}
def PC(X:Cx)(z:CmpOp)(a b:Expr)(t:TE):Prop:=
 ∀(aE:List (aF×Obj)) (s:aW) (σ:St) (H:Hp) (Q:VK),Inv X aE σ H s->t σ H Q →
  bG (1:) X.A (cA a X.env) (λv d=>bG (1:) X.A (cA b X.env) (λu c=>bG (1:) X.A (eP z v u) (EP X aE σ Q) X.xe c) X.xe d) X.xe s
def aFa b(h:z≠.In)(h2:z≠.NotIn):dZ z b=ag:=by
 have c:(z==CmpOp.In)=ag:=by cases z<;>first|rfl|exact absurd rfl h
 have a:(z==CmpOp.NotIn)=ag:=by cases z<;>first|rfl|exact absurd rfl h2
 cases b<;>simp[dZ,c,a]
def tB(t:TE):TT:=λa H Q=>t a H λx b=>∃c,x=.bl c/\Q c b
def pt_cmp(h:PC X z a b t)(h1:dZ z b=ag:=by first|exact aFa _ (by decide) (by decide)|rfl):PT X (.Compare a [z] [b] pos) (tB t):=by intro l s e H Q I j;refine wpAny_isTrue_Compare1 (thn (h l s e H _ I j) λv r h1=>thn h1 λu p k=>thn k λc o f=>?_) h1;obtain⟨x,n,m,g,i⟩:=f;obtain⟨d,rfl,q⟩:=i;cases g;exact eN ⟨n,m,q⟩
def pt_val(h:PE X e t)(J:∀z,GF e X.env z=(do let v <- z;oN e.pos;iA [v] (truthy v)):=by intro _;rfl):PT X e (tB t):=by intro i s a H Q I g;refine isTrue_plain (thn (h i s a H _ I g) λv l b=>?_)$ J _;obtain⟨x,k,j,c,f⟩:=b;obtain⟨d,rfl,q⟩:=f;cases c;exact eN ⟨k,j,q⟩
variable{rest:List Expr}
def tAnd(t u:TT):TT:=λa H Q=>t a H λc b=>if c=ae then u a b Q else Q ag b
def tOr(t u:TT):TT:=λa H Q=>t a H λc b=>if c=ae then Q ae b else u a b Q
def tNot(t:TT):TT:=λa H Q=>t a H λc b=>Q (!c) b
def pw_and1(z:PT X a tA):PW X (.BoolOp .And [a] pos) tA:=by
 intro f d s b H Q I h;refine isTrue_and$ thn (z d s b H Q I h) λc g e=>?_;cases c with
 |true=>exact isTrue_and_nil e
 |false=>exact e
def pw_or1(z:PT X a tA):PW X (.BoolOp .Or [a] pos) tA:=by
 intro f d s b H Q I h;refine isTrue_or$ thn (z d s b H Q I h) λc g e=>?_;cases c with
 |false=>exact isTrue_or_nil e
 |true=>exact e
def pw_and(U:PT X a z)(J:PW X (.BoolOp .And (b::rest) pos) tB'):PW X (.BoolOp .And (a::b::rest) pos) (tAnd z tB'):=by
 intro k f s d H Q I h;refine isTrue_and$ thn (U f s d H _ I h) λc l j=>?_;obtain⟨i,g,e⟩:=j;cases c with
 |true=>exact J k f l d i Q g e
 |false=>exact⟨i,g,e⟩
def pw_or(U:PT X a z)(J:PW X (.BoolOp .Or (b::rest) pos) tB'):PW X (.BoolOp .Or (a::b::rest) pos) (tOr z tB'):=by
 intro k f s d H Q I h;refine isTrue_or$ thn (U f s d H _ I h) λc l j=>?_;obtain⟨i,g,e⟩:=j;cases c with
 |true=>exact⟨i,g,e⟩
 |false=>exact J k f l d i Q g e
def pt_not(J:PT X a z):PT X (.UnaryOp .Not a pos) (tNot z):=by intro d s b H Q I h;exact isTrue_not$ J d s b H (λc e=>Q (!c) e) I h
def tAndV(ta tb:TE):TE:=λa H Q=>ta a H λx b=>∃c,x=.bl c/\if c=ae then tb a b Q else Q (.bl ag) b
def tOrV(ta tb:TE):TE:=λa H Q=>ta a H λx b=>∃c,x=.bl c/\if c=ae then Q (.bl ae) b else tb a b Q
def tNotV(ta:TE):TE:=λa H Q=>ta a H λx b=>∃c,x=.bl c/\Q (.bl$ !c) b
def pe_one{z}(h:PE X a t):PE X (.BoolOp z [a] pos) t:=λd s b H Q I c=>BoolOp_one$ h d s b H Q I c
def pe_and(J:PE X a ta)(z:PE X (.BoolOp .And (b::rest) pos) tb):PE X (.BoolOp .And (a::b::rest) pos) (tAndV ta tb):=by
 intro f s e H Q I h;refine BoolOp_and$ thn (J f s e H _ I h) λv k j=>?_;obtain⟨x,i,g,l,d⟩:=j;obtain⟨c,rfl,d⟩:=d;cases l;refine eN ?_;cases c with
 |true=>exact z f k e i Q g d
 |false=>exact⟨.bl ag,i,g,rfl,d⟩
def pe_or(J:PE X a ta)(z:PE X (.BoolOp .Or (b::rest) pos) tb):PE X (.BoolOp .Or (a::b::rest) pos) (tOrV ta tb):=by
 intro f s e H Q I h;refine BoolOp_or$ thn (J f s e H _ I h) λv k j=>?_;obtain⟨x,i,g,l,d⟩:=j;obtain⟨c,rfl,d⟩:=d;cases l;refine eN ?_;cases c with
 |false=>exact z f k e i Q g d
 |true=>exact⟨.bl ae,i,g,rfl,d⟩
def pe_not(z:PE X a ta):PE X (.UnaryOp .Not a pos) (tNotV ta):=by intro g s d H Q I h;refine UnaryOp_$ thn (z g s d H _ I h) λv k e=>?_;obtain⟨x,j,i,f,b⟩:=e;obtain⟨c,rfl,b⟩:=b;cases f;exact not_of$ eN ⟨.bl$ !c,j,i,rfl,b⟩
def tIf(t:TT)(ta tb:TE):TE:=λa H Q=>t a H λc b=>if c=ae then ta a b Q else tb a b Q
def aEj(J:PT X c z)(Y:PE X a ta)(U:PE X b tb):PE X (.IfExp c a b pos) (tIf z ta tb):=by
 intro f s e H Q I h;refine wpAny_IfExp$ thn (J f s e H _ I h) λd g l=>?_;obtain⟨k,j,i⟩:=l;cases d with
 |true=>exact Y f g e k Q j i
 |false=>exact U f g e k Q j i
end
def SqL(K:aM)(H:Hp)(a:aF)(xs:List V):Prop:=
 Rd H a (.lst xs) ∨
  ∃(o:Obj) (z:Array Value) (n:Nat),K.lookup a=aa o/\o.cls=.type "list"/\o.dict=ac/\o.data=.seq z n/\z.size<=sizeLine/\Vals xs z.toList
def SqT(K:aM)(H:Hp)(a:aF)(xs:List V):Prop:=
 Rd H a (.tup xs) ∨
  ∃(o:Obj) (z:Array Value) (n:Nat),K.lookup a=aa o/\o.cls=.type "tuple"/\o.data=.seq z n/\z.size<=sizeLine/\Vals xs z.toList
noncomputable def absV:Value->Option V
 |.none=>aa .non
 |.bool b=>aa$ .bl b
 |.int i _=>aa$ .int i
 |.str x _=>aa$ .str x
 |.bytes b _=>aa$ .byt b
 |.float b _=>aa$ .flt b
 |.ref a=>aa$ .ref a
 |.type n=>aa$ .ty n
 |_=>ac
def RelV.abs(r:RelV x u):absV u=aa x:=by
 cases x with
 |non=>cases r;rfl
 |bl _=>cases r;rfl
 |int _=>obtain⟨t,rfl⟩:=r;rfl
 |str _=>obtain⟨t,rfl⟩:=r;rfl
 |byt _=>obtain⟨t,rfl⟩:=r;rfl
 |flt _=>obtain⟨t,rfl⟩:=r;rfl
 |ref _=>cases r;rfl
 |ty _=>cases r;rfl
theorem RelV.inj(r:RelV x u)(q:RelV y u):x=y:=Option.some.inj$ r.abs.symm.trans q.abs
theorem Vals.inj{xs ys:List V}{z:List Value}(h:Vals xs z):Vals ys z->xs=ys:=
 h.rec (motive:=λxs z _=>∀ys,Vals ys z->xs=ys) (λ_ q=>by cases q;rfl) (λr _ i _ q=>by cases q with|cons b a=>rw[r.inj b,i _ a]) ys
def SqL.of{K:aM}(h:H a=aa (.lst xs)):SqL K H a xs:=.inl$ .inl h
def SqT.of{K:aM}(h:H a=aa (.tup xs)):SqT K H a xs:=.inl$ .inl h
def Inv.list(I:Inv X aE σ H s)(h:SqL X.K H a xs):∃J:List Value,Vals xs J/\PlainL s.heap a J.toArray/\xs.length<=sizeLine:=by
 rcases h with h|⟨o,J,n,c,d,hd,b,f,r⟩
 . obtain⟨z,J,n,r,e⟩:=h.ok I.hok;exact⟨J,r,⟨_,n,e,rfl,rfl,rfl⟩,z⟩
 . refine ⟨J.toList,r,⟨o,n,I.kIn a o c,d,hd,by simpa using b⟩,?_⟩;have e:=r.length;simp [bH]at e
   lia
def Inv.tuple(I:Inv X aE σ H s)(h:SqT X.K H a xs):∃J,Vals xs J/\IsTup s.heap a J.toArray/\xs.length<=sizeLine:=by
 rcases h with h|⟨o,J,n,c,d,b,f,r⟩
 . obtain⟨z,J,r,p⟩:=h.ok I.hok;exact⟨J,r,p,z⟩
 . refine ⟨J.toList,r,⟨o,I.kIn a o c,d,n,by simpa using b⟩,?_⟩;have e:=r.length;simp [bH]at e
   lia
def Inv.list_inj(I:Inv X aE σ H s)(h:SqL X.K H a xs)(h':SqL X.K H a ys):xs=ys:=by
 obtain⟨b,r,⟨o,n,e,_,_,d⟩,_⟩:=I.list h;obtain⟨its',g,⟨j,k,c,_,_,f⟩,_⟩:=I.list h';rw[e]at c;cases c;rw[d]at f;injection f with i _
 have:b=its':=by simpa using congrArg Array.toList i
 subst this;exact r.inj g
def Inv.tuple_inj(I:Inv X aE σ H s)(h:SqT X.K H a xs)(h':SqT X.K H a ys):xs=ys:=by
 obtain⟨b,r,⟨o,e,_,n,d⟩,_⟩:=I.tuple h;obtain⟨its',g,⟨j,c,_,k,f⟩,_⟩:=I.tuple h';rw[e]at c;cases c;rw[d]at f;injection f with i _
 have:b=its':=by simpa using congrArg Array.toList i
 subst this;exact r.inj g
noncomputable abbrev Cx.wish(X:Cx)(E:Value->aW->Prop):Cx:={X with xe:=E}
noncomputable abbrev Cx.nox(X:Cx):Cx:=X.wish λ_ _=>False
theorem Cx.Ok.wish{X:Cx}(ok:X.Ok) E:(X.wish E).Ok:=
 ⟨ok.mod,ok.kind,ok.glob,ok.blt,ok.above,ok.inj,ok.has,ok.cab,ok.hd,ok.frames,ok.stk,ok.exf,ok.bs,ok.bsz,ok.noex,ok.exfs,ok.funs,ok.frf⟩
def Cx.Ok.unwish{X:Cx}(ok:(X.wish E).Ok):X.Ok:=
 ⟨ok.mod,ok.kind,ok.glob,ok.blt,ok.above,ok.inj,ok.has,ok.cab,ok.hd,ok.frames,ok.stk,ok.exf,ok.bs,ok.bsz,ok.noex,ok.exfs,ok.funs,ok.frf⟩
theorem Inv.wish(I:Inv X aE σ H s) E:Inv (X.wish E) aE σ H s:=⟨I.ok.wish E,I.os,I.bare,I.base,I.loc,I.cell,I.free,I.freeC,I.pin,I.hok,I.len⟩
theorem Inv.unwish(I:Inv (X.wish E) aE σ H s):Inv X aE σ H s:=⟨I.ok.unwish,I.os,I.bare,I.base,I.loc,I.cell,I.free,I.freeC,I.pin,I.hok,I.len⟩
theorem SP.unwish(h:SP (X.wish E) aE D f s'):SP X aE D f s':=by
 cases f with
 |next=>obtain⟨a,b,I,q⟩:=h;exact⟨a,b,I.unwish,q⟩
 |brk=>obtain⟨a,b,I,q⟩:=h;exact⟨a,b,I.unwish,q⟩
 |cont=>obtain⟨a,b,I,q⟩:=h;exact⟨a,b,I.unwish,q⟩
 |ret u=>obtain⟨v,a,b,I,r,q⟩:=h;exact⟨v,a,b,I.unwish,r,q⟩
theorem PSs.nox{st:List Stmt}(h:PSs X.nox st t):PSs X st t:=λc s a H D I b=>dD (h c s a H D (I.wish _) b) (λ_ _ q=>q.unwish) λ_ _ z=>False.elim z
section
variable{st:Stmt}{rest:List Stmt}{t u:TS}{te:TE}
def tNext:TS:=λD a H=>D.nx a H
def tSeq(t u:TS):TS:=λD a H=>t {D with nx:=u D} a H
def pss_nil:PSs X [] tNext:=λ_ _ a H _ I h=>lH ⟨a,H,I,h⟩
def CU(h1:PS X st t)(h2:PSs X rest u):PSs X (st::rest) (tSeq t u):=by
 intro b s c H D I h;refine GA$ thn (h1 b s c H {D with nx:=u D} I h) λf d q=>?_;cases f with
 |next=>obtain⟨a,g,e,q⟩:=q;exact h2 b d a g D e q
 |ret v=>exact q
 |brk=>exact q
 |cont=>exact q
def UQ(h1:PS X st t):PSs X [st] t:=by
 intro b s a H D I h;refine GA$ thn (h1 b s a H D I h) λf c q=>?_;cases f with
 |next=>exact lH q
 |ret v=>exact q
 |brk=>exact q
 |cont=>exact q
def tCont:TS:=λD a H=>D.ct a H
def MM:PS X (.Continue pos) tCont:=λ_ _ a H _ I h=>wpAny_Continue ⟨a,H,I,h⟩
def Inv.quiet(I:Inv X aE σ H s):interactive X.env=ag:=by simp[interactive,I.ok.kind]
def tDrop(te:TE):TS:=λD a H=>te a H λ_ b=>D.nx a b
def kI(U:PE X e te)(J:eF e ac pos.line X.env=pure ag:=by rfl):PS X (.Expr e pos) (tDrop te):=by intro b s a H D I h;exact wpAny_Expr_any (thn (U b s a H _ I h) λv c ⟨x,H1,Y,r1,z⟩=>⟨a,H1,Y,z⟩) I.quiet J
def tRet(te:TE):TS:=λD a H=>te a H D.rt
def JO(U:PE X e te):PS X (.Return (aa e) pos) (tRet te):=by intro b s a H D I h;exact wpAny_Return_some$ thn (U b s a H _ I h) λv c ⟨x,H1,Y,z,J⟩=>⟨x,a,H1,Y,z,J⟩
def tIfS(c:TT)(t u:TS):TS:=λD a H=>c a H λb d=>if b=ae then t D a d else u D a d
def ps_if(z:PT X c tc)(U:PSs X a t)(J:PSs X b u):PS X (.If c a b pos) (tIfS tc t u):=by
 intro f s e H D I h;refine wpAny_If$ thn (z f s e H _ I h) λd g l=>?_;obtain⟨k,j,i⟩:=l;cases d with
 |true=>exact U f g e k D j i
 |false=>exact J f g e k D j i
def tNever:TS:=λ_ _ _=>False
def aDz:PS X st tNever:=λ_ _ _ _ _ _ h=>h.elim
end
abbrev TG:=V->St->Hp->(St->Hp->Prop)->Prop
abbrev TGs:=List V->St->Hp->(St->Hp->Prop)->Prop
def PG(X:Cx)(z:Expr)(t:TG):Prop:=
 ∀(aE:List (aF×Obj)) (s:aW) (σ:St) (H:Hp) (v:V) (u:Value) (Q:St->Hp->Prop),Inv X aE σ H s->RelV v u->t v σ H Q →
  bG (1:) X.A (BD z X.env u) (λ_ c=>∃a b,Inv X aE a b c/\Q a b) X.xe s
def PGs(X:Cx)(ts:List Expr)(t:TGs):Prop:=
 ∀(aE:List (aF×Obj)) (s:aW) (σ:St) (H:Hp) (vs:List V) (z:List Value) (Q:St->Hp->Prop),Inv X aE σ H s->Vals vs z->t vs σ H Q →
  bG (1:) X.A (assignInOrder ((gM ts X.env).map (·.2)) z) (λ_ c=>∃a b,Inv X aE a b c/\Q a b) X.xe s
abbrev TSet:=V->V->V->Hp->(Hp->Prop)->Prop
def PSet(X:Cx)(t:TSet):Prop:=
 ∀(aE:List (aF×Obj)) (s:aW) (σ:St) (H:Hp) (o i v:V) (z J u:Value) (Q:Hp->Prop),Inv X aE σ H s->RelV o z->RelV i J->RelV v u->t o i v H Q →
  bG (1:) X.A (setItem z J u) (λ_ b=>∃a,Inv X aE σ a b/\Q a) X.xe s
abbrev TIp:=V->V->Hp->VK->Prop
def PIp(X:Cx)(z:Operator)(t:TIp):Prop:=
 ∀(aE:List (aF×Obj)) (s:aW) (σ:St) (H:Hp) (x y:V) (v u:Value) (Q:VK),Inv X aE σ H s->RelV x v->RelV y u->t x y H Q →
  bG (1:) X.A (inplaceOp z v u) (EP X aE σ Q) X.xe s
section
variable{X:Cx}
def gName(i:Nat):TG:=λv a H Q=>Q (a.set i$ aa v) H
def pg_name(U:X.N.Nodup)(hi:X.N[i]?=aa x)(z:Loc X.env.scope x)(J:X.fn x=ae\/X.env.scope.names.lookup x=aa .local:=by first|exact .inl rfl|exact .inr rfl|assumption):PG X (.Name x pos) (gName i):=by intro d s b H v u Q I r h;exact wpAny_assign_Name$ vE I U hi z r (λc a=>⟨_,H,a,h⟩) J
def gNil:TGs:=λb a H Q=>b=[]/\Q a H
def gCons(t:TG)(u:TGs):TGs:=λc b H Q=>∃v r,c=v::r/\t v b H λa d=>u r a d Q
def pgs_nil:PGs X [] gNil:=by intro d s a H b c Q I r h;obtain⟨e,h⟩:=h;subst e;exact assignInOrder_nil ⟨a,H,I,h⟩
def aEf(h1:PG X e t)(h2:PGs X es u)(z:(gM (e::es) X.env).map (·.2)=BD e X.env::(gM es X.env).map (·.2):=by rfl):PGs X (e::es) (gCons t u):=by
 intro b s c H m o Q I r h;obtain⟨v,n,j,h⟩:=h;subst j;cases r with
 |cons r g=>rw[z];refine assignInOrder_cons$ thn (h1 b s c H _ _ _ I r h) λ_ f d=>?_;obtain⟨a,l,k,i⟩:=d;exact h2 b f a l _ _ Q k g i
def gTup(K:aM)(n:Nat)(t:TGs):TG:=λv b H Q=>∃a xs,v=.ref a/\SqT K H a xs/\xs.length=n/\t xs b H Q
def pg_tup(U:X.calm=ae)(h:PGs X es t)(J:(gM es X.env).length=n:=by rfl)(z:(gM es X.env).findIdx? (·.1)=ac:=by rfl):PG X (.Tuple es k pos) (gTup X.K n t):=by intro q s f H v u Q I r c;obtain⟨a,xs,p,l,m,c⟩:=c;subst p;cases r;obtain⟨g,d,j,x⟩:=I.tuple l;refine assign_Tuple_tuple (I.ok.hd U) j (by simp[J,<-m,d.length]) z λy i=>?_;have w:=I.kept (t':=s.toks) λb o e=>i b o (bJ$ bA e) e;exact h q _ f H xs _ Q w (by simpa using d) c
def gSub(to z:TE)(t:TSet):TG:=λv a H Q=>to a H λo d=>z a d λi c=>t o i v c λb=>Q a b
def pg_sub(ho:PE X o to)(hi:PE X i U)(Y:PSet X t)(ha:∀v,BD (.Subscript o i pos) X.env v=(do
    let z <- iA [v] (cA o X.env)
    let J <- iA [v,z] (cA i X.env)
    oN pos
    iA [v,z,J] (setItem z J v)
    release [v,z,J] []):=by intro _;rfl):PG X (.Subscript o i pos) (gSub to U t):=by
 intro c s b H v u Q I r h;refine aC$ eZ$ thn (ho c s b H _ I h) λz e a=>?_;obtain⟨x,A,p,g,l⟩:=a;refine aC$ eZ$ thn (hi c e b A _ p l) λJ d a=>?_;obtain⟨y,w,n,f,k⟩:=a;refine aC$ SQ$ aC$ eZ$ thn (Y c d b w x y v z J u _ n g f r k) λ_ B a=>?_;obtain⟨q,m,j⟩:=a;exact wpAny_release ⟨b,q,m,j⟩
def tAsg(te:TE)(g:TG):TS:=λD a H=>te a H λx b=>g x a b D.nx
def aEa(Y:PE X e te)(U:PG X tg g)(J:SU [tg] e pos.line X.env=pure ag:=by rfl)(z:SV [tg] e X.env=pure ac:=by rfl)(h1:(gM [tg] X.env).map (·.2)=[BD tg X.env]:=by rfl):PS X (.Assign [tg] e pos) (tAsg te g):=by intro b s a H D I h;refine wpAny_Assign_stores (thn (Y b s a H _ I h) λv d c=>?_) J z;obtain⟨x,k,j,f,i⟩:=c;rw[h1];exact thn (U b d a k x v _ j f i) λ_ l q=>q
def JN(hN:X.N.Nodup)(hi:X.N[i]?=aa x)(z:Loc X.env.scope x)(Y:PE X e te)(J:eF e (aa$ .Name x pos') pos.line X.env=pure ag:=by rfl)(U:X.fn x=ae\/X.env.scope.names.lookup x=aa .local:=by first|exact .inl rfl|exact .inr rfl|assumption):PS X (.Assign [.Name x pos'] e pos) (tAsg te$ gName i):=by
 intro f s a H D I h;refine wpAny_Assign_Name (thn (Y f s a H _ I h) λv m b=>?_) J;obtain⟨y,k,j,c,d⟩:=b;exact vE j hN hi z c (λl g=>⟨_,k,g,d⟩) U
def tAug(i:Nat)(te:TE)(J:TIp):TS:=λD a H=>∃x,a[i]?=aa (aa x)/\te a H λy c=>J x y c λz b=>D.nx (a.set i$ aa z) b
def ps_aug(hN:X.N.Nodup)(hi:X.N[i]?=aa x)(J:Loc X.env.scope x)(he:PE X e te)(ho:PIp X U Y)(hf:X.fn x=ae\/X.env.scope.names.lookup x=aa .local:=by first|exact .inl rfl|exact .inr rfl|assumption):PS X (.AugAssign (.Name x pos') U e pos) (tAug i te Y):=by
 intro n s o H D I h;obtain⟨v,K,h⟩:=h;obtain⟨m,C,F⟩:=I.loc;have j:Vis X.env.scope x:=by rcases J with k|k;exact .inl k;exact .inr$ .inl k
 obtain⟨u,r,l⟩:=F i x v hi K j;refine wpAny_AugAssign_Name ?_;have go:bG (1:) X.A (cA e X.env) (λw f=>bG (1:) X.A (inplaceOp U u w) (λr d=>bG (1:) X.A (storeName X.env x r) (λ_=>SP X n D .next) X.xe d) X.xe f) X.xe s:=by refine thn (he n s o H _ I h) λw p g=>?_;obtain⟨y,P,N,t,B⟩:=g;refine thn (ho n p o P v y u w _ N r t B) λz S g=>?_;obtain⟨Q,O,M,q,A⟩:=g;exact vE M hN hi J q (λR L=>⟨_,O,L,A⟩) hf
 rcases l with⟨a,E⟩|⟨a,c,G,b⟩
 . exact wpAny_loadName_local I.ok.kind a C E go
 . rcases a with a|a
   . exact wpAny_loadName_cell I.ok.kind a G b go
   . rcases J with k|k
     . have:X.env.scope.names.lookup x=aa .free:=a;rw[k]at this;cases this
     . have:X.env.scope.names.lookup x=aa .free:=a;rw[k]at this;cases this
def ipI(f:Int->Int->Int):TIp:=λx y H Q=>∃i j,x=.int i/\y=.int j/\Q (.int$ f i j) H
def ip_add:PIp X .Add (ipI λi j=>i+j):=by intro g s e H x y v u Q I b a h;obtain⟨i,j,d,c,q⟩:=h;subst d;subst c;obtain⟨t,rfl⟩:=b;obtain⟨f,rfl⟩:=a;exact iadd_int ⟨.int _,H,I.tok _,⟨_,rfl⟩,q⟩
end
def tWhile(c:TT)(tb:TS):TS:=λD a H=>∃W:Nat->St->Hp->Prop,(∃m,W m a H)/\∀m a H,W m a H →
 c a H λb f=>if b=ae then ∃N:St->Hp->Prop,(∀d g,N d g->∃e,e<m/\W e d g)/\tb {D with nx:=N,ct:=N,bk:=D.nx} a f else D.nx a f
def aDx(z:WX (1:) X.A X.env X.xe)(J:PT X c tc)(U:PSs X body tb):PS X (.While c body [] pos) (tWhile tc tb):=by
 intro q s A H D I h;obtain⟨W,⟨L,E⟩,g⟩:=h;refine wpAny_While$ codeAny_whileLoop (λn K=>∃e y,Inv X q e y K/\W n e y) ?_ L ⟨A,H,I,E⟩;rintro n G ⟨d,x,M,C⟩;refine iH z$ thn (J q G d x _ M$ g n d x C) λb F B=>?_;obtain⟨w,u,k⟩:=B;cases b with
 |true=>
   obtain⟨N,t,k⟩:=k;refine iH z$ thn (U q F d w _ u k) λf O j=>?_;cases f with
   |next=>obtain⟨a,i,r,m⟩:=j;obtain⟨o,p,l⟩:=t a i m;exact⟨o,p,a,i,r,l⟩
   |cont=>obtain⟨a,i,r,m⟩:=j;obtain⟨o,p,l⟩:=t a i m;exact⟨o,p,a,i,r,l⟩
   |brk=>exact j
   |ret v=>exact j
 |false=>exact lH ⟨d,w,u,k⟩
structure It where
 go:Nat->Hp->Prop
 yld:Nat->Hp->V->Hp->Prop
 stop:Nat->Hp->Prop
def FpOk(X:Cx)(aE:List (aF×Obj))(H:Hp)(b:aF):Prop:=
 H b=ac/\b≠X.env.locals/\b∉X.fs/\(b∈X.ex\/X.s₀.heap.objs.size<=b)/\(∀x c,X.env.cells.lookup x=aa c->c≠b)/\∀p∈X.pn++aE,p.1≠b
def Inv.fpOk(I:Inv X aE σ H s)(J:s.heap.objs.size<=b)(U:H' b=ac):FpOk X aE H' b:=by
 refine⟨U,pU$ bM I.lt J,I.nofs J,.inr$ cS I.sz J,λx c e z=>?_,λp a z=>?_⟩
 . obtain⟨v,q⟩:=I.cell x c e;exact absurd (bM q.lt$ by rw[z];exact J)$ cM _
 . exact absurd (bM (bA (I.pin p a).1)$ by rw[z];exact J)$ cM _
structure Turn(P:bW)(w:cT)(K:aM)(tg:Expr)(J:It)(fp:List aF)(it:aF)(tn:Nat->Heap->Prop)(cm:Cx->Prop:=λX=>X.calm=true):Prop where
 mem:it∈fp
 obj:∀i h,tn i h->∀b∈fp,∃o,h.get? b=some o/\∀v,o.data≠.cell v
 keep:∀i h h',tn i h->(∀b∈fp,∀o,h.get? b=some o->h'.get? b=some o)->tn i h'
 item:∀(X:Cx),X.prog=P->X.w=w->X.K=K->cm X->∀(i:Nat) (aE:List (aF×Obj)) (s:aW) (σ:St) (H:Hp) (E:Value->aW->Prop),Inv X aE σ H s->(∀b∈fp,FpOk X aE H b)->tn i s.heap->J.go i H →
  bG (aT P w) X.A (pyNext (.ref it)) (λr s1=>∃u,r=some u ∧
   bG (aT P w) X.A (KS tg (.ref it) u) (λ_ s2=>∃x H',Inv X aE σ H' s2/\RelV x u/\J.yld i H x H'/\tn (i+1) s2.heap/\∀b∈fp,H' b=none) E s1) E s
 done:∀(X:Cx),X.prog=P->X.w=w->X.K=K->cm X->∀(i:Nat) (aE:List (aF×Obj)) (s:aW) (σ:St) (H:Hp) (E:Value->aW->Prop),Inv X aE σ H s->(∀b∈fp,FpOk X aE H b)->tn i s.heap->J.stop i H →
  bG (aT P w) X.A (pyNext (.ref it)) (λr s1=>r=none/\Inv X aE σ H s1) E s
 self:∀(A:dF) (i:Nat) (s:aW) (Q:Value->aW->Prop) (E:Value->aW->Prop),tn i s.heap->Q (.ref it) s->bG (aT P w) A (GD (.ref it)) Q E s
abbrev TI:=St->Hp->(It->Hp->Prop)->Prop
def PIE(X:Cx)(aE:List (aF×Obj))(σ:St)(tg:Expr)(R:It->Hp->Prop)(cm:Cx->Prop:=λX=>X.calm=ae)(z:Value)(Y:aW):Prop:=
 ∃(it:aF) (fp:List aF) (U:Nat->Heap->Prop) (J:It) (H':Hp),z=.ref it/\Inv X aE σ H' Y/\Turn X.prog X.w X.K tg J fp it U cm/\U 0 Y.heap/\(∀b∈fp,FpOk X aE H' b)/\R J H'
def PI(X:Cx)(tg iter:Expr)(z:TI)(J:Cx->Prop:=λX=>X.calm=ae):Prop:=
 ∀(aE:List (aF×Obj)) (s:aW) (σ:St) (H:Hp) (R:It->Hp->Prop),Inv X aE σ H s->z σ H R →
  bG (1:) X.A (cA iter X.env) (λv a=>bG (1:) X.A (GD v) (PIE X aE σ tg R J) X.xe a) X.xe s
def NP(J:s.heap.get? it=aa o)(Y:o.cls=.type n)(hd:o.data=.fields vs)(U:["enumerate","zip","dict_itemiterator","dict_reverseitemiterator","odict_iterator","itertools.zip_longest","itertools.pairwise"].contains n=ag)(z:Q () s):bG M A (KS tg (.ref it) u) Q E s:=by
 cases tg<;>first
  |exact aO z
  |(cases u<;>first
      |exact aO z
      | (refine aC (wpAny_load J ?_)
         rw[Y,hd];show bG M A (if (["enumerate","zip","dict_itemiterator","dict_reverseitemiterator","odict_iterator","itertools.zip_longest","itertools.pairwise"].contains n&&vs[0]?==aa (hX _))=ae then _ else _) Q E s;rw[if_neg$ by intro h;rw[U,Bool.false_and]at h;cases h]
         exact aO z))
noncomputable def Itl(K:aM)(a:aF):It:=
 ⟨λi H=>∃xs x,SqL K H a xs/\xs[i]?=aa x,λi H x H'=>H'=H/\∀xs,SqL K H a xs->xs[i]?=aa x,λi H=>∃xs,SqL K H a xs/\xs.length<=i⟩
noncomputable def Itt(K:aM)(a:aF):It:=
 ⟨λi H=>∃xs x,SqT K H a xs/\xs[i]?=aa x,λi H x H'=>H'=H/\∀xs,SqT K H a xs->xs[i]?=aa x,λi H=>∃xs,SqT K H a xs/\xs.length<=i⟩
noncomputable def Itr(lo:Int)(n:Nat):It:=⟨λi _=>i<n,λi H x H'=>H'=H/\x=.int (lo+i),λi _=>n<=i⟩
def XQ{P:bW}{w:cT}{K:aM}{tg:Expr}(a it:aF):Turn P w K tg (Itl K a) [it] it (λi h=>h.IsListIter it a i) where
 mem:=by simp
 obj:=λi h st b f=>by
  have e:b=it:=by simpa using f
  subst e;obtain⟨o,e,c,d⟩:=st;exact⟨o,e,λv z=>by rw[d]at z;cases z⟩
 keep:=λi h M st k=>st.at λo e=>k it (by simp) o e
 item:=by intro X y r A L i W s N H E I l st t;subst y r A;obtain⟨xs,x,j,q⟩:=t;obtain⟨n,m,p,Q⟩:=I.list j;obtain⟨u,S,O⟩:=m.get q;obtain⟨G,F,T,D,C,B⟩:=l it (by simp);refine wpAny_pyNext_list_item st p.isList (by simpa using S) λM g sb=>?_;have Z:=I.turned (t':=s.toks) (λb o f e=>(sb.2 b f).trans e) G F D C B;obtain⟨o,e,c,d⟩:=id g;exact⟨u,rfl,NP e c d (by decide) ⟨x,H,Z,O,⟨rfl,λys R=>by rw[I.list_inj R j];exact q⟩,g,λb f=>(l b f).1⟩⟩
 done:=by intro X y r A L i W s N H E I l st t;subst y r A;obtain⟨xs,j,q⟩:=t;obtain⟨n,m,p,Q⟩:=I.list j;obtain⟨G,F,T,D,C,B⟩:=l it (by simp);have J:=m.length;exact wpAny_pyNext_list_end (I.ok.hd L) st p.isList (by simp;lia) λM V=>⟨rfl,I.turned (λb o f e=>V b o f e) G F D C B⟩
 self:=λ_ _ _ _ _ st h=>wpAny_pyIter_listiter st h
def PU{P:bW}{w:cT}{K:aM}{tg:Expr}(a it:aF):Turn P w K tg (Itt K a) [it] it (λi h=>h.IsTupleIter it a i) where
 mem:=by simp
 obj:=λi h st b f=>by
  have e:b=it:=by simpa using f
  subst e;obtain⟨o,e,c,d⟩:=st;exact⟨o,e,λv z=>by rw[d]at z;cases z⟩
 keep:=λi h M st k=>st.at λo e=>k it (by simp) o e
 item:=by intro X y r A L i W s N H E I l st t;subst y r A;obtain⟨xs,x,j,q⟩:=t;obtain⟨n,m,p,Q⟩:=I.tuple j;obtain⟨u,S,O⟩:=m.get q;obtain⟨G,F,T,D,C,B⟩:=l it (by simp);refine wpAny_pyNext_tuple_item st (p) (by simpa using S) λM g sb=>?_;have Z:=I.turned (t':=s.toks) (λb o f e=>(sb.2 b f).trans e) G F D C B;obtain⟨o,e,c,d⟩:=id g;exact⟨u,rfl,NP e c d (by decide) ⟨x,H,Z,O,⟨rfl,λys R=>by rw[I.tuple_inj R j];exact q⟩,g,λb f=>(l b f).1⟩⟩
 done:=by intro X y r A L i W s N H E I l st t;subst y r A;obtain⟨xs,j,q⟩:=t;obtain⟨n,m,p,Q⟩:=I.tuple j;obtain⟨G,F,T,D,C,B⟩:=l it (by simp);have J:=m.length;exact wpAny_pyNext_tuple_end (I.ok.hd L) st (p) (by simp;lia) λM V=>⟨rfl,I.turned (λb o f e=>V b o f e) G F D C B⟩
 self:=λ_ _ _ _ _ st h=>wpAny_pyIter_tupleiter st h
def PX{P:bW}{w:cT}{K:aM}{tg:Expr}(it:aF)(lo:Int)(n:Nat):Turn P w K tg (Itr lo n) [it] it (λi h=>IsRangeIter h it (lo+(i:Nat)*1) ((n:Int)-(i:Nat)) 1) where
 mem:=by simp
 obj:=λi h st b a=>by
  have e:b=it:=by simpa using a
  subst e;exact⟨_,st,λv z=>by
   have C:=z
   cases C⟩
 keep:=λi h j st k=>k it (by simp) _ st
 item:=by intro X y x A g i B s u H E I d st f;subst y x A;obtain⟨r,q,L,p,m,l⟩:=d it (by simp);have W:=Walks.range (prog:=X.prog) (w:=X.w) (I.ok.hd g) it lo 1 n;refine W.item i s _ _ f st λv j D G c F=>?_;obtain⟨t,rfl⟩:=G;have N:Inv X B u H {s with heap:=j,toks:=D}:=I.turned (λb o a e=>F b o (by simpa using a) e) r q p m l;refine⟨_,rfl,NP c rfl rfl (by decide) ⟨.int$ lo+i,H,N,⟨t,?_⟩,⟨rfl,rfl⟩,c,λb a=>(d b a).1⟩⟩;rw[Int.mul_one]
 done:=by intro X y x A g i B s u H E I d st f;obtain⟨r,q,L,p,m,l⟩:=d it (by simp);exact wpAny_pyNext_range_end (I.ok.hd g) st (by have:n<=i:=f;lia) λj M=>⟨rfl,I.turned (λb o a e=>M b o a e) r q p m l⟩
 self:=λ_ _ _ _ _ st h=>wpAny_pyIter_rangeiter st h
def iList(K:aM)(tl:TE):TI:=λc H R=>tl c H λx b=>∃a,x=.ref a/\(∃xs,SqL K b a xs)/\R (Itl K a) b
def iTup(K:aM)(tl:TE):TI:=λc H R=>tl c H λx b=>∃a,x=.ref a/\(∃xs,SqT K b a xs)/\R (Itt K a) b
def pi_list(z:PE X l tl):PI X tg l (iList X.K tl):=by
 intro r s f H R I h;refine thn (z r s f H _ I h) λv d g=>?_;obtain⟨x,t,c,i,j⟩:=g;obtain⟨a,e,⟨xs,m⟩,q⟩:=j;subst e;cases i;obtain⟨k,u,p,w⟩:=c.list m;refine mK p.isList ?_;refine⟨d.heap.objs.size,[d.heap.objs.size],_,_,t,rfl,c.kept λb o e=>aD _ e,XQ a _,⟨_,aN _ rfl,rfl,rfl⟩,λb n=>?_,q⟩;have e:b=d.heap.objs.size:=by simpa using n
 subst e;exact c.fpOk (aL _)$ c.hok.fresh$ aL _
def pi_tup(z:PE X l tl):PI X tg l (iTup X.K tl):=by
 intro r s f H R I h;refine thn (z r s f H _ I h) λv d g=>?_;obtain⟨x,t,c,i,j⟩:=g;obtain⟨a,e,⟨xs,m⟩,q⟩:=j;subst e;cases i;obtain⟨k,u,p,w⟩:=c.tuple m;refine wpAny_pyIter_tuple (p) ?_;refine⟨d.heap.objs.size,[d.heap.objs.size],_,_,t,rfl,c.kept λb o e=>aD _ e,PU a _,⟨_,aN _ rfl,rfl,rfl⟩,λb n=>?_,q⟩;have e:b=d.heap.objs.size:=by simpa using n
 subst e;exact c.fpOk (aL _)$ c.hok.fresh$ aL _
def aDf{lo hi:Int}(I:Inv X aE σ H s)(h1 : -(2^62)<=lo)(h2:lo<2^62)(J : -(2^62)<=hi)(z:hi<2^62)(q:R (Itr lo (hi-lo).toNat) H):bG (1:) X.A (GD$ .ref s.heap.objs.size) (PIE X aE σ tg R) E {s with heap:=s.heap.push {cls:=.type "range",data:=.fields #[.int lo t,.int hi u,.int 1 v]},toks:=tk}:=by
 refine wpAny_pyIter_range (IsRange.new ..) (small_one h1 h2 J z) ?_;have a:Inv X aE σ H {s with heap:=s.heap.push {cls:=.type "range",data:=.fields #[.int lo t,.int hi u,.int 1 v]},toks:=tk}:=I.kept λb o e=>aD _ e
 refine⟨(s.heap.push {cls:=.type "range",data:=.fields #[.int lo t,.int hi u,.int 1 v]}).objs.size,[(s.heap.push {cls:=.type "range",data:=.fields #[.int lo t,.int hi u,.int 1 v]}).objs.size],_,_,H,rfl,
  a.kept λb o e=>aD _ e,PX _ lo (hi-lo).toNat,?_,λb c=>?_,q⟩
 . have f:lo+((0:Nat):Int)*1=lo:=by simp
   have d:(((hi-lo).toNat:Nat):Int)-((0:Nat):Int)=Builtin.Range.rangeSize lo hi 1:=by rw[rangeSize_one];split<;>lia
   rw[f,d];exact aN _ rfl
 . have e:b=(s.heap.push {cls:=.type "range",data:=.fields #[.int lo t,.int hi u,.int 1 v]}).objs.size:=by simpa using c
   subst e;exact a.fpOk (aL _)$ a.hok.fresh$ aL _
def iRng1(ta:TA):TI:=λa H R=>ta a H λb c=>∃j:Int,b=[.int j]/\-(2^62)<=j/\j<2^62/\R (Itr 0 j.toNat) c
def YM(J:Gl X "range")(hm:X.mg "range"=ac)(U:PA X [a] ta)(z:aG [a] X.env=[(ag,cA a X.env)]:=by rfl):PI X tg (.Call (.Name "range" p) [a] [] pos) (iRng1 ta):=by
 intro k s c H R I h;refine Call_$ wV I J hm boot_range$ gN (thn (U pos k s c H _ I h) λn o d=>?_) z rfl;obtain⟨m,u,l,g,b⟩:=d;obtain⟨j,e,b,i,q⟩:=b;subst e;cases g with
 |cons r f=>cases f;obtain⟨t,rfl⟩:=r;exact call_range_1 (aDf l (by lia) (by lia) b i$ by simpa using q)
def tFor(z:TI)(g:TG)(tb:TS):TS:=λD a H=>z a H λJ h=>∃W:Nat->Nat->St->Hp->Prop,(∃m,W 0 m a h)/\∀i m a H,W i m a H →
 (J.stop i H/\D.nx a H)\/(J.go i H/\∃N:St->Hp->Prop,(∀b c,N b c->∃e,e<m/\W (i+1) e b c)/\∀x c,J.yld i H x c->g x a c λd f=>tb {D with nx:=N,ct:=N,bk:=D.nx} d f)
noncomputable def CV(fp:List aF)(h:Heap):List (aF×Obj):=fp.filterMap λb=>(h.get? b).map λo=>(b,o)
def xX(z:b∈fp)(e:h.get? b=aa o):(b,o)∈CV fp h:=oA.mpr ⟨b,z,by rw[e];rfl⟩
def YV(z:p∈CV fp h):p.1∈fp/\h.get? p.1=aa p.2:=by
 obtain⟨b,a,e⟩:=oA.mp z;cases q:h.get? b with
 |none=>rw[q]at e;cases e
 |some o=>rw[q]at e;have c:=Option.some.inj e;subst c;exact⟨a,q⟩
def Inv.pinned(I:Inv X aE σ H s)(U:∀b∈fp,FpOk X aE H b)(J:∀b∈fp,∃o,s.heap.get? b=aa o/\∀v,o.data≠.cell v):Inv X (aE++CV fp s.heap) σ H s:=
 I.pins_of λp f=>(bE.mp f).elim (λz=>I.pin p$ aI _ z) λz=>by obtain⟨a,e⟩:=YV z;obtain⟨i,h,g,_⟩:=U p.1 a;obtain⟨o,c,d⟩:=J p.1 a;rw[e]at c;cases c;exact⟨e,i,h,g,d⟩
def Inv.unpinned(I:Inv X (aE++z) σ H s):Inv X aE σ H s:=I.pins_of λp a=>I.pin p$ aI _$ aY _ a
def ps_for{iter:Expr}(U:WX (1:) X.A X.env X.xe)(Y:X.calm=ae)(hi:PI X tg iter wi)(hg:PG X tg g)(z:PSs X body tb)(hs:∀x,fM iter X.env x=pure x:=by intro _;rfl):PS X (.For tg iter body [] pos) (tFor wi g tb):=by
 intro y s Q H D I h;refine wpAny_For (thn (hi y s Q H _ I h) λv s1 h1=>thn h1 λitv s2 h2=>?_) hs;obtain⟨it,fp,R,J,H2,e,I2,T,K,f2,W,⟨m0,w0⟩,A⟩:=h2;subst e;have k:∀{H':Hp},(∀b∈fp,H' b=ac)->∀b∈fp,FpOk X y H' b:=λhn b z=>⟨hn b z,(f2 b z).2⟩
 refine codeAny_forLoop_any (λn Z=>∃i j H',Inv X y j H' Z/\R i Z.heap/\(∀b∈fp,H' b=ac)/\W i n j H') ?_ m0 ⟨0,Q,H2,I2,K,λb z=>(f2 b z).1,w0⟩;rintro n V ⟨i,c,F,I3,B,E,w3⟩;rcases A i n c F w3 with⟨stop,qn⟩|⟨go,N,hN,step⟩
 . refine iH U$ thn (T.done X rfl rfl rfl Y i y V c F X.xe I3 (k E) B stop) λr s4 t=>?_;obtain⟨M,I4⟩:=t;subst M;exact lH ⟨c,F,I4,qn⟩
 . refine iH U (thn (T.item X rfl rfl rfl Y i y V c F X.xe I3 (k E) B go) λr s4 t=>?_);obtain ⟨u,M,h4⟩:=t;subst M;refine iH U (thn h4 λ_ S t=>?_);obtain ⟨x,H5,I5,r5,y5,w,O⟩:=t;have P:=I5.pinned (k O) (T.obj _ _ w);refine iH U (thn (hg _ S c H5 x u _ P r5 (step x H5 y5)) λ_ s6 t=>?_);obtain ⟨G,H6,I6,q6⟩:=t;refine iH U (thn (z _ s6 G H6 _ I6 q6) λf L q=>?_);have again:∀{a:St}{p:Hp},Inv X (y++CV fp S.heap) a p L->N a p->∃m,m<n/\∃i j H',Inv X y j H' L/\R i L.heap/\(∀b∈fp,H' b=ac)/\W i m j H':=λ{a p} l C=>by obtain⟨m',hm,w7⟩:=hN a p C;refine⟨m',hm,i+1,a,p,l.unpinned,T.keep _ _ _ w λb z o e=>(l.pin (b,o) (aI _ (aI _ (xX z e)))).1,λb z=>?_,w7⟩;obtain⟨o,e,d⟩:=T.obj _ _ w b z;exact(l.pin (b,o) (aI _ (aI _ (xX z e)))).2.1
   cases f with
   |next=>obtain⟨a,p,l,C⟩:=q;exact again l C
   |cont=>obtain⟨a,p,l,C⟩:=q;exact again l C
   |brk=>obtain⟨a,p,l,q⟩:=q;exact⟨a,p,l.unpinned,q⟩
   |ret v=>obtain⟨x7,a,p,l,r7,q⟩:=q;exact⟨x7,a,p,l.unpinned,r7,q⟩
abbrev R2:=V->V->Hp->VK->Prop
def OpR(X:Cx)(f:Value->Value->Sem Value)(r:R2):Prop:=
 ∀(aE:List (aF×Obj)) (s:aW) (σ:St) (H:Hp) (x y:V) (v u:Value) (Q:VK),Inv X aE σ H s->RelV x v->RelV y u->r x y H Q →
  bG (1:) X.A (f v u) (EP X aE σ Q) X.xe s
def UnR(X:Cx)(f:Value->Sem Value)(r:V->Hp->VK->Prop):Prop:=
 ∀(aE:List (aF×Obj)) (s:aW) (σ:St) (H:Hp) (x:V) (v:Value) (Q:VK),Inv X aE σ H s->RelV x v->r x H Q →
  bG (1:) X.A (f v) (EP X aE σ Q) X.xe s
def CallR(X:Cx)(f:Value)(r:List V->Hp->VK->Prop):Prop:=
 ∀(aE:List (aF×Obj)) (s:aW) (σ:St) (H:Hp) (xs:List V) (z:List Value) (Q:VK),Inv X aE σ H s->Vals xs z->r xs H Q →
  bG (1:) X.A (call f z) (EP X aE σ Q) X.xe s
def TruR(X:Cx)(r:V->Hp->(Bool->Hp->Prop)->Prop):Prop:=
 ∀(aE:List (aF×Obj)) (s:aW) (σ:St) (H:Hp) (x:V) (v:Value) (Q:Bool->Hp->Prop),Inv X aE σ H s->RelV x v->r x H Q →
  bG (1:) X.A (truthy v) (TP X aE σ Q) X.xe s
def tOp(r:R2)(ta tb:TE):TE:=λa H Q=>ta a H λx c=>tb a c λy b=>r x y b Q
def tUn(r:V->Hp->VK->Prop)(ta:TE):TE:=λa H Q=>ta a H λx b=>r x b Q
noncomputable def rI(C:Int->Int->Prop)(g:Int->Int->V):R2:=λx y H Q=>∃i j,x=.int i/\y=.int j/\C i j/\Q (g i j) H
noncomputable def rI0(g:Int->Int->V):R2:=λx y H Q=>∃i j,x=.int i/\y=.int j/\Q (g i j) H
def rU(g:Int->V):V->Hp->VK->Prop:=λx H Q=>∃i,x=.int i/\Q (g i) H
def binT(ha:PE X a ta)(hb:PE X b tb){R:V->V->Hp->Prop}(I:Inv X aE σ H s)(h:ta σ H λx H1=>tb σ H1 λy H2=>R x y H2){f:Value->Value->Sem Value}(Y:∀v u U x y H2,Inv X aE σ H2 U->RelV x v->RelV y u->R x y H2->bG (1:) X.A (f v u) Q X.xe U):bG (1:) X.A (cA a X.env) (λv J=>bG (1:) X.A (cA b X.env) (λu z=>bG (1:) X.A (f v u) Q X.xe z) X.xe J) X.xe s:=by
 refine thn (ha aE s σ H _ I h) λv d c=>?_;obtain⟨x,H1,l,g,j⟩:=c;refine thn (hb aE d σ H1 _ l j) λu U c=>?_;obtain⟨y,H2,k,e,i⟩:=c;exact Y v u U x y H2 k g e i
def pe_op(J:OpR X (mL z) r)(Y:PE X a ta)(U:PE X b tb):PE X (.BinOp a z b pos) (tOp r ta tb):=by intro g s c H Q I h;exact wpAny_BinOp$ binT Y U I h λv u d x y j i f e q=>J g d c j x y v u Q i f e q
def pe_un(Y:UnR X (unaryOp U) r)(ha:PE X a ta):PE X (.UnaryOp U a pos) (tUn r ta):=by intro c s b H Q I h;exact UnaryOp_$ thn (ha c s b H _ I h) λv d ⟨x,H1,I1,z,J⟩=>Y c d b H1 x v Q I1 z J
def opI{g:Int->Int->Int}(rule:∀i j t u s Q E,C i j->Q (.int (g i j) s.toks) {s with toks:=s.toks+1}->bG (1:) X.A (f (.int i t)$ .int j u) Q E s):OpR X f (rI C λi j=>.int$ g i j):=by
 intro k s e H x y v u Q I c b h;obtain⟨i,j,rfl,rfl,d,q⟩:=h;obtain⟨t,rfl⟩:=c;obtain⟨a,rfl⟩:=b;exact rule i j t a s _ _ d ⟨.int$ g i j,H,I.tok _,⟨_,rfl⟩,q⟩
def opI0{g:Int->Int->Int}(rule:∀i j t u s Q E,Q (.int (g i j) s.toks) {s with toks:=s.toks+1}->bG (1:) X.A (f (.int i t)$ .int j u) Q E s):OpR X f (rI0 λi j=>.int$ g i j):=by
 intro e s d H x y v u Q I c b h;obtain⟨i,j,rfl,rfl,q⟩:=h;obtain⟨t,rfl⟩:=c;obtain⟨a,rfl⟩:=b;exact rule i j t a s _ _ ⟨.int$ g i j,H,I.tok _,⟨_,rfl⟩,q⟩
def opB0{g:Int->Int->Bool}(rule:∀i j t u s Q E,Q (.bool$ g i j) s->bG (1:) X.A (f (.int i t)$ .int j u) Q E s):OpR X f (rI0 λi j=>.bl$ g i j):=by
 intro e s d H x y v u Q I c b h;obtain⟨i,j,rfl,rfl,q⟩:=h;obtain⟨t,rfl⟩:=c;obtain⟨a,rfl⟩:=b;exact rule i j t a s _ _ ⟨.bl$ g i j,H,I,rfl,q⟩
def CMul(i j:Int):Prop:=(-(2^64)<i/\i<2^64)\/(-(2^64)<j/\j<2^64)
def CMul.ok(h:CMul i j):fE i j:=by
 rcases h with⟨b,a⟩|⟨b,a⟩
 . exact .of_left$ intBits_le_64 b a
 . exact .of_right$ intBits_le_64 b a
def op_add:OpR X (mL .Add) (rI0 λi j=>.int$ i+j):=opI0 λ_ _ _ _ _ _ _ q=>add_int q
def op_sub:OpR X (mL .Sub) (rI0 λi j=>.int$ i-j):=opI0 λ_ _ _ _ _ _ _ q=>sub_int q
def op_mod:OpR X (mL .Mod) (rI (λ_ j=>0<j) λi j=>.int$ i%j):=opI λi j _ _ _ _ _ a q=>by exact mod_int' (by lia) (by rw[Int.fmod_eq_emod_of_nonneg i$ by lia];exact q)
def unI{g:Int->Int}(rule:∀i t s Q E,Q (.int (g i) s.toks) {s with toks:=s.toks+1}->bG (1:) X.A (f$ .int i t) Q E s):UnR X f (rU λi=>.int$ g i):=by
 intro c s b H x v Q I a h;obtain⟨i,rfl,q⟩:=h;obtain⟨t,rfl⟩:=a;exact rule i t s _ _ ⟨.int$ g i,H,I.tok _,⟨_,rfl⟩,q⟩
def un_neg:UnR X (unaryOp .USub) (rU λi=>.int$ -i):=unI λ_ _ _ _ _ q=>neg_int q
section
variable{a b c:Expr}{ta tb tc:TE}
def SA(I:Inv X aE σ H s)(q:Q (.bl k) H)(e:k=k'):EP X aE σ Q (.bool k') s:=by subst e;exact⟨.bl k,H,I,rfl,q⟩
def op_lt:OpR X (eP .Lt) (rI0 λi j=>.bl$ decide (i<j)):=opB0 λ_ _ _ _ _ _ _ q=>lt_int q
def op_le:OpR X (eP .LtE) (rI0 λi j=>.bl$ decide (i<=j)):=opB0 λ_ _ _ _ _ _ _ q=>le_int q
def op_gt:OpR X (eP .Gt) (rI0 λi j=>.bl$ decide (j<i)):=opB0 λ_ _ _ _ _ _ _ q=>gt_int q
def op_ge:OpR X (eP .GtE) (rI0 λi j=>.bl$ decide (j<=i)):=opB0 λ_ _ _ _ _ _ _ q=>ge_int q
def YS:OpR X (eP .In) (λx y H Q=>∃i j,x=.str i/\y=.str j/\Q (.bl$ !(Builtin.Str.occurrences j i 0 j.length 1).isEmpty) H):=by intro e s c H x y v u Q I b a h;obtain⟨i,j,rfl,rfl,q⟩:=h;obtain⟨t,rfl⟩:=b;obtain⟨d,rfl⟩:=a;exact in_str$ SA I q rfl
def aEu:OpR X (eP .Is) (λx y H Q=>y=.non/\Q (.bl$ decide (x=.non)) H):=by
 intro d s c H x y v u Q I a b h;obtain⟨rfl,q⟩:=h;cases b;refine is_none_gen$ SA I q ?_
 cases x<;>first
  |(cases a;rfl)
  |(obtain⟨t,rfl⟩:=a;rfl)
def UZ:OpR X (eP .IsNot) (λx y H Q=>y=.non/\Q (.bl$ !decide (x=.non)) H):=by
 intro d s c H x y v u Q I a b h;obtain⟨rfl,q⟩:=h;cases b;refine isnot_none_gen$ SA I q ?_
 cases x<;>first
  |(cases a;rfl)
  |(obtain⟨t,rfl⟩:=a;rfl)
def OpR.or(h:OpR X f r)(h':OpR X f z):OpR X f (λx y H Q=>r x y H Q\/z x y H Q):=by
 intro d s a H x y v u Q I c b q;rcases q with q|q
 . exact h d s a H x y v u Q I c b q
 . exact h' d s a H x y v u Q I c b q
def mD b(h:z≠.In:=by decide)(h2:z≠.NotIn:=by decide):dZ z b=ag:=by
 have c:(z==CmpOp.In)=ag:=by cases z<;>first|rfl|exact absurd rfl h
 have a:(z==CmpOp.NotIn)=ag:=by cases z<;>first|rfl|exact absurd rfl h2
 cases b<;>simp[dZ,c,a]
def UV(J:OpR X (eP z) r)(Y:PE X a ta)(U:PE X b tb)(hm:dZ z b=ag):PE X (.Compare a [z] [b] pos) (tOp r ta tb):=by intro g s c H Q I h;exact wpAny_Compare1 (binT Y U I h λv u d x y j i f e q=>J g d c j x y v u Q i f e q) hm
def tTest(t:TE):TT:=λa H Q=>t a H λx b=>∃k,x=.bl k/\Q k b
def UO(ho:OpR X (eP J) r)(ha:PE X a ta)(hb:PE X b tb)(hm:dZ J b=ag):PT X (.Compare a [J] [b] pos) (tTest$ tOp r ta tb):=by intro f s d H Q I h;refine wpAny_isTrue_Compare1 (thn (ha f s d H _ I h) λv i ⟨x,H1,I1,r1,q1⟩=>thn (hb f i d H1 _ I1 q1) λu g ⟨y,H2,I2,Y,q2⟩=>thn (ho f g d H2 x y v u _ I2 r1 Y q2) λc j ⟨z,H3,I3,U,k,e,q3⟩=>?_) hm;subst e;cases U;exact eN ⟨H3,I3,q3⟩
def TruV(K:aM)(x:V)(H:Hp)(k:Bool):Prop:=
 match x with
 |.non=>k=ag
 |.bl b=>k=b
 |.int i=>k=(i != 0)
 |.str y=>y.length<=sizeLine/\k=((y.length:Int) != 0)
 |.byt y=>y.size<=sizeLine/\k=((y.size:Int) != 0)
 |.ref p=>(∃xs,SqL K H p xs/\k=!xs.isEmpty)\/(∃xs,SqT K H p xs/\k=!xs.isEmpty)\/∃a,H p=aa (.dK a)/\k=!a.isEmpty
 |_=>False
def RN(r:KV kvs vs):(!vs.isEmpty)=!kvs.isEmpty:=by cases r<;>rfl
def DK(r:Vals xs z):(!z.toArray.isEmpty)=!xs.isEmpty:=by cases r<;>simp
def tD:(sizeLine:Nat)<2^63:=by rw[lX];decide
def tru_ok:TruR X (λx H Q=>∃k,TruV X.K x H k/\Q k H):=by
 intro C s w H x v Q I d h;obtain⟨k,e,q⟩:=h;have B:=lX;cases x with
 |non=>cases d;have a:=e;subst a;exact truthy_none ⟨H,I,q⟩
 |bl b=>cases d;have a:=e;subst a;exact eN ⟨H,I,q⟩
 |int i=>obtain⟨t,rfl⟩:=d;have a:=e;subst a;exact PySem.P.truthy_int ⟨H,I,q⟩
 |str y=>obtain⟨t,rfl⟩:=d;obtain⟨o,a⟩:=e;subst a;exact PySem.P.truthy_str (by lia) ⟨H,I.tok _,q⟩
 |byt y=>obtain⟨t,rfl⟩:=d;obtain⟨o,a⟩:=e;subst a;exact PySem.W.truthy_bytes (by lia) ⟨H,I.tok _,q⟩
 |ref p=>
   cases d;have a:=e;rcases a with⟨xs,f,a⟩|⟨xs,f,a⟩|⟨n,f,a⟩
   . subst a;obtain⟨j,r,g,l⟩:=I.list f;have c:=r.length;exact wpAny_truthy_list g.isList (by simp[bF];lia) ⟨H,I.tok _,by rw[DK r];exact q⟩
   . subst a;obtain⟨j,r,g,l⟩:=I.tuple f;have c:=r.length;exact truthy_tuple g (by simp[bF];lia) ⟨H,I.tok _,by rw[DK r];exact q⟩
   . subst a;obtain⟨l,u,A,r,m⟩:=I.hok p _ f;have c:=GK.length r;exact wpAny_truthy_dict u m (by lia) ⟨H,I.tok _,by rw[RN r];exact q⟩
 |_=>exact(e).elim
def aDt(ha:PE X a ta)(Y:∀z,GF a X.env z=(do let v <- z;oN a.pos;iA [v] (truthy v))):PT X a (λσ H Q=>ta σ H λx H'=>∃k,TruV X.K x H' k/\Q k H'):=by
 intro b s σ H Q I h;exact isTrue_plain (thn (ha b s σ H _ I h) λv c ⟨x,H1,I1,J,U⟩=>tru_ok b c σ H1 x v Q I1 J U)$ Y _
def QS:OpR X (mL .Add) (λx y H Q=>∃i j,x=.str i/\y=.str j/\i.length+j.length<=sizeLine/\Q (.str$ i++j) H):=by intro g s e H x y v u Q I c b h;obtain⟨i,j,rfl,rfl,d,q⟩:=h;obtain⟨t,rfl⟩:=c;obtain⟨a,rfl⟩:=b;exact add_str (λa f=>⟨.str$ i++j,H,I.tok _,⟨_,rfl⟩,q⟩) d
def vals1(r:Vals [x] z):∃u,z=[u]/\RelV x u:=by
 cases r with
 |cons b a=>cases a;exact⟨_,rfl,b⟩
def vals2(r:Vals [x,y] z):∃u w',z=[u,w']/\RelV x u/\RelV y w':=by
 cases r with
 |cons d c=>
   cases c with
   |cons b a=>cases a;exact⟨_,_,rfl,d,b⟩
def aAr(z:X.calm=ae):CallR X (.builtin "max") (λxs H Q=>∃i j,xs=[.int i,.int j]/\Q (.int$ if j>i then j else i) H):=by
 intro l s b H xs d Q I r h;obtain⟨i,j,rfl,q⟩:=h;obtain⟨u,c,rfl,⟨t,rfl⟩,⟨f,rfl⟩⟩:=vals2 r;refine max_two_ints (I.ok.hd z) λg e k=>⟨_,H,I.kept k,?_,q⟩
 by_cases a:j>i
 . rw[if_pos a,if_pos a];exact⟨_,rfl⟩
 . rw[if_neg a,if_neg a];exact⟨_,rfl⟩
def aAq(z:X.calm=ae):CallR X (.builtin "min") (λxs H Q=>∃i j,xs=[.int i,.int j]/\Q (.int$ if j<i then j else i) H):=by
 intro l s b H xs d Q I r h;obtain⟨i,j,rfl,q⟩:=h;obtain⟨u,c,rfl,⟨t,rfl⟩,⟨f,rfl⟩⟩:=vals2 r;refine min_two_ints (I.ok.hd z) λg e k=>⟨_,H,I.kept k,?_,q⟩
 by_cases a:j<i
 . rw[if_pos a,if_pos a];exact⟨_,rfl⟩
 . rw[if_neg a,if_neg a];exact⟨_,rfl⟩
def aAv:CallR X (.type "int") (λxs H Q=>(∃i,xs=[.int i]/\Q (.int i) H)\/∃k,xs=[.bl k]/\Q (.int$ if k then 1 else 0) H):=by
 intro d s b H xs c Q I r h;rcases h with⟨i,rfl,q⟩|⟨k,rfl,q⟩
 . obtain⟨u,rfl,t,rfl⟩:=vals1 r;exact call_int_int ⟨.int i,H,I,⟨_,rfl⟩,q⟩
 . obtain⟨u,rfl,a⟩:=vals1 r;cases a;exact call_int_bool ⟨.int$ if k then 1 else 0,H,I.tok _,⟨_,rfl⟩,q⟩
end
structure ObjM(h:Heap)(x dx C:aF)(mA:Str->Option Value):Prop where
 obj:h.get? x=some (fS C dx)
 ns:h.Ns1 dx mA
 ne:dx≠x
def ZG{h:Heap}(n:h.Ns1 dx mA):∃od,h.get? dx=aa od/\∀name,pS name od=aa (mA name):=by
 obtain⟨o,c,k,f,hd,i,_,g⟩:=n;refine⟨o,f,λname=>?_⟩;have e:=g name;unfold nsFind findBy at e;rw[<-Array.find?_toList]at e;unfold pS;rw[hd];dsimp only;split
 . rename_i y q;rw[q]at e;exact congrArg aa e
 . rename_i q;rw [q]at e;have a:c.toList.any (·.refKey)=ag:=by rw[uF];intro y d;obtain⟨z,t,b⟩:=i y (Array.mem_toList_iff.mp d);simp[DictEntry.refKey,b]
   have j:¬c.toList.any (·.refKey)=ae:=by rw[a];exact dX
   rw[if_neg j];exact congrArg aa e
def ObjM.look(I:ObjM h x dx C mA):∃od,PySem.W.InstAt h x (fS C dx) C (aa od)/\∀name,pS name od=aa (mA name):=
 let ⟨od,a,b⟩:=ZG I.ns
 ⟨od,⟨I.obj,rfl,rfl,a⟩,b⟩
section
variable{K:aM}
def get_map(X:K.In s.heap)(I:ObjM s.heap x dx C mA)(hg:lM K C name=ae)(hh:nY K C=ae)(ha:cG K (.ref C) name=aa ac)(Y:mA name=aa v)(z:SX v=ae)(h:Q v {s with toks:=s.toks+1}):bG (4:) A (getAttr (.ref x) name U) Q E s:=by
 obtain⟨b,J,a⟩:=I.look;exact PySem.W.get_value X J (rR hg).1 (PySem.W.findObj_own hh ha rfl$ by rw[a,Y]) z h
def aGn(X:K.In s.heap)(I:ObjM s.heap x dx C mA)(z:lM K C name=ae)(hf:cG K (.ref C) name=aa (aa$ .ref f))(Y:mU K (.ref f)=ae)(U:mA name=ac)(h:Q (.ref f,[.ref x]) s):bG (4:) A (rO (.ref x) name pl) Q E s:=by
 obtain⟨a,J,b⟩:=I.look;exact PySem.W.method_fn X J (rR z).1 (rR z).2 hf (beq_iff_eq.mp Y) (by show(pS name a).map (·.isSome)=aa ag;rw[b,U];rfl) h
def set_map(X:K.In s.heap)(I:ObjM s.heap x dx C mA)(Y:cG K (.ref C) "__setattr__"=aa (aa$ .builtin "object.__setattr__"))(hp:tF K C=ae)(U:uW K C name=aa ac)(hh:nY K C=ae)(z:PySem.Within mA ns)(hsz:ns.length<=sizeLine)(h:∀h',ObjM h' x dx C (λy=>if y=name then aa v else mA y)->Heap.SameBut dx s.heap h'->Q () {s with heap:=h',toks:=s.toks+2}):bG (4:) A (setAttr (.ref x) name v) Q E s:=by
 obtain⟨m,J,o⟩:=I.look;refine PySem.W.set_plain X J Y$ PySem.W.osa_open X J hp U λb=>?_;obtain⟨cd,j,f⟩:=PySem.W.any_some hh;have i:=I.obj;refine aC$ aO$ aC$ aC$ wpAny_loadPart i$ aC$ PySem.W.Looks.here (PySem.W.looks_clsIn X j) ?_;rw[f];refine aO$ aC$ aO$ aC ?_;refine wpAny_nsSet1 I.ns λh' c a=>?_;obtain⟨n,k,l,d,e,g⟩:=c.count$ PySem.Within.cons name v z;refine aC (wpAny_lookBehind d (by rw[e];exact pastItsLine_dict$ cS g$ by rw[aK];lia) ?_);exact aO$ h _ ⟨(a.2 _$ Ne.symm I.ne).trans I.obj,c,I.ne⟩ a
def aFl(X:K.In s.heap)(hm:uX K C=ae)(hi:cG K (.ref C) "__init__"=aa (aa$ .ref f))(z:nE K (.ref f)=aa (.type "function"))(h:gA (4:) (A.under$ .builtin "type.__call__" ⟨.ref C::vs,kw⟩) (.call (.ref f) ⟨.ref (s.heap.objs.size+1)::vs,kw⟩) (PySem.W.InitBack (s.heap.objs.size+1) R)
    {s with heap:=(s.heap.push eU).push$ fS C s.heap.objs.size}):gA (4:) A (.call (.ref C) ⟨vs,kw⟩) R s:=by
 exact PySem.W.make_core (PySem.W.makes_of X hm) (PySem.W.looks_findIn X hi) (λself=>PySem.W.bind_fn X self z) (.inl rfl) h
end
noncomputable def putF(f:Str)(v:V):List (Str×V)->List (Str×V)
 |[]=>[(f,v)]
 |(g,x)::r=>if g=f then (g,v)::r else (g,x)::putF f v r
theorem AJ f g v:∀fs,(putF f v fs).lookup g=if g=f then aa v else fs.lookup g
 |[]=>by
   show List.lookup g [(f,v)]=_;by_cases h:g=f
   . have a:(g==f)=ae:=beq_iff_eq.mpr h;simp only[List.lookup,a,if_pos h]
   . have a:(g==f)=ag:=beq_eq_false_iff_ne.mpr h;simp only[List.lookup,a,if_neg h]
 |(k,x)::r=>by
   have c:=AJ f g v r;rw[show putF f v ((k,x)::r)=(if k=f then (k,v)::r else (k,x)::putF f v r) from rfl];by_cases b:k=f
   . rw [if_pos b];by_cases h:g=k
     . have a:(g==k)=ae:=beq_iff_eq.mpr h;simp only[List.lookup,a,if_pos$ h.trans b]
     . have a:(g==k)=ag:=beq_eq_false_iff_ne.mpr h;simp only[List.lookup,a,if_neg λe:g=f=>h$ e.trans b.symm]
   . rw [if_neg b];by_cases h:g=k
     . have a:(g==k)=ae:=beq_iff_eq.mpr h;simp only[List.lookup,a,if_neg λe:g=f=>b$ h.symm.trans e]
     . have a:(g==k)=ag:=beq_eq_false_iff_ne.mpr h;simp only[List.lookup,a];exact c
theorem kF f v:∀fs,f∈(putF f v fs).map (·.1)/\∀g,g∈fs.map (·.1)->g∈(putF f v fs).map (·.1)
 |[]=>⟨by simp[putF],λg h=>by simp at h⟩
 |(k,x)::r=>by
   obtain⟨c,b⟩:=kF f v r;rw[show putF f v ((k,x)::r)=(if k=f then (k,v)::r else (k,x)::putF f v r) from rfl];by_cases a:k=f
   . rw[if_pos a];subst a;exact⟨by simp,λg h=>by simpa using h⟩
   . rw [if_neg a];refine ⟨?_,λg h=>?_⟩
     . rw[aQ];exact aJ _ c
     . rw [aQ]at h ⊢;rcases aA.mp h with e|e
       . exact aA.mpr$ .inl e
       . exact aJ _$ b g e
theorem AL f v:∀fs,(putF f v fs).length<=fs.length+1
 |[]=>by simp[putF]
 |(k,x)::r=>by
   have b:=AL f v r;rw[show putF f v ((k,x)::r)=(if k=f then (k,v)::r else (k,x)::putF f v r) from rfl];by_cases a:k=f
   . rw[if_pos a,aK,aK];omega
   . rw[if_neg a,aK,aK];omega
def RelO.some_of(r:RelO (aa v) o):∃u,o=aa u/\RelV v u:=by
 cases o with
 |none=>exact(r).elim
 |some u=>exact⟨u,rfl,r⟩
def RelO.none_of(r:RelO ac o):o=ac:=by
 cases o with
 |none=>rfl
 |some u=>exact(r).elim
def aAa(r:RelV v u):SX u=ae:=by
 cases v with
 |non=>cases(r);rfl
 |bl b=>cases(r);rfl
 |int i=>obtain⟨t,e⟩:=(r);cases e;rfl
 |str x=>obtain⟨t,e⟩:=(r);cases e;rfl
 |byt b=>obtain⟨t,e⟩:=(r);cases e;rfl
 |flt b=>obtain⟨t,e⟩:=(r);cases e;rfl
 |ref a=>cases(r);rfl
 |ty n=>cases(r);rfl
def BQ(hok:HOk P w H h)(e:H a=aa (.ins C dx fs)):∃mA,ObjM h a dx C mA/\(∀f,RelO (fs.lookup f)$ mA f)/\PySem.Within mA (fs.map (·.1))/\fs.length<=1000/\H dx=aa (.own a):=by
 obtain⟨d,z,ne,ob,mA,n,r,q⟩:=(hok a _ e)
 exact⟨mA,⟨ob,n,ne⟩,r,q,z,d⟩
structure Cls(K:aM)(C:aF):Prop where
 pg:lM K C Str.empty=true
 hd:nY K C=true
 po:tF K C=true
 sa:cG K (.ref C) "__setattr__"=some (some (.builtin "object.__setattr__"))
def Cls.get{K:aM}(c:Cls K C) f:lM K C f=ae:=c.pg
def NoAttr(K:aM)(C:aF)(f:Str):Prop:=cG K (.ref C) f=aa ac
def NoAttr.taker{K:aM}(n:NoAttr K C f):uW K C f=aa ac:=by unfold uW;rw[show cG K (.ref C) f=aa ac from n];rfl
structure Meth(K:aM)(C:aF)(m:Str)(f:aF):Prop where
 at_:cG K (.ref C) m=some (some (.ref f))
 fn:mU K (.ref f)=true
 kp:cC K (.ref f)=true
def RQ(I:Inv X aE σ H s)(e:H a=aa (.ins C dx fs))(c:Cls X.K C)(n:NoAttr X.K C f)(l:fs.lookup f=aa v)(h:∀u s',Inv X aE σ H s'->RelV v u->Q u s'):bG (1:) A (getAttr (.ref a) f b) Q E s:=by obtain⟨i,O,r,_,_,_⟩:=BQ I.hok e;obtain⟨u,g,d⟩:=RelO.some_of (by rw[<-l];exact r f);exact get_map I.kIn O (c.get f) c.hd n g (aAa d)$ h u _ (I.tok _) d
def DP(I:Inv X aE σ H s)(e:H a=aa (.ins C dx fs))(c:Cls X.K C)(k:Meth X.K C m g)(l:fs.lookup m=ac)(h:Q (.ref g,[.ref a]) s):bG (1:) A (rO (.ref a) m z) Q E s:=by obtain⟨d,O,r,_,_,_⟩:=BQ I.hok e;have b:=RelO.none_of (by rw[<-l];exact r m);exact aGn I.kIn O (c.get m) k.at_ k.fn b h
def QH(I:Inv X aE σ H s)(e:H a=aa (.ins C dx fs))(c:Cls X.K C)(n:NoAttr X.K C f)(U:fs.length<1000)(J:RelV y u)(h:∀s',Inv X aE σ (upd H a$ .ins C dx$ putF f y fs) s'->Q () s'):bG (1:) A (setAttr (.ref a) f u) Q E s:=by
 obtain⟨j,O,r,i,_,k⟩:=BQ I.hok e;have l:(fs.map (·.1)).length<=sizeLine:=by rw[bS,lX];lia
 refine set_map I.kIn O c.sa c.po n.taker c.hd i l λt d sb=>h _ ?_;have hd:∃o,t.get? dx=aa o:=let ⟨o,_,_,v,_⟩:=d.ns;⟨o,v⟩;refine I.write (by rw[e];exact True.intro) (.inr k) (λb q p z=>(sb.2 b p).trans z) hd ?_;refine⟨by rw[upd_ne O.ne];exact k,?_,O.ne,d.obj,_,d.ns,λg=>?_,λg m=>?_⟩
 . have:=AL f y fs;lia
 . show RelO ((putF f y fs).lookup g) (if g=f then aa u else j g);rw [AJ];by_cases q:g=f
   . rw[if_pos q,if_pos q];exact J
   . rw[if_neg q,if_neg q];exact r g
 . by_cases q:g=f
   . rw[q];exact(kF f y fs).1
   . refine(kF f y fs).2 g (i g λz=>m ?_);show(if g=f then aa u else j g)=ac;rw[if_neg q];exact z
def Inv.made(I:Inv X aE σ H s):Inv X aE σ (upd (upd H s.heap.objs.size$ .own$ s.heap.objs.size+1) (s.heap.objs.size+1)$ .ins C s.heap.objs.size [])
  {s with heap:=(s.heap.push eU).push$ fS C s.heap.objs.size}:=by
 have a:(s.heap.push eU).get? s.heap.objs.size=aa eU:=aN s.heap rfl;have g:((s.heap.push eU).push$ fS C s.heap.objs.size).get? (s.heap.objs.size+1)=aa (fS C s.heap.objs.size):=by have:=aN (s.heap.push eU) (o:=fS C s.heap.objs.size) rfl;rwa [FJ]at this
 have f:(s.heap.push eU).Ns s.heap.objs.size (λ_=>ac):=⟨eU,#[],_,a,rfl,(λe d=>absurd d$ by simp),λ_=>rfl⟩
 have h:=I.laid (o:=.own$ s.heap.objs.size+1) (t':=s.toks) (λb u q=>aD _ q) (aL _) ⟨_,a⟩;refine h.laid (λb u q=>aD _ q) (AB$ FJ _ _) ?_;have ne:s.heap.objs.size≠s.heap.objs.size+1:=bJ$ gO _;refine⟨by rw[upd_ne ne,bP],cI _,ne,g,λ_=>ac,(Heap.Ns1.of_empty f).at λo q=>aD _ q,λ_=>True.intro,λy c=>absurd rfl c⟩
def attr_of(J:fB e f env (cA e env)=cA e env)(h:bG (4:) A (cA e env) (λo z=>bG (4:) A (getAttr o f ae) Q E z) E s):bG (4:) A (cA (.Attribute e f pos) env) Q E s:=
 Attribute_any_ h (by rw[arm_eval_Attribute,J])
def tFld(K:aM)(ta:TE)(f:Str):TE:=λc H Q=>ta c H λx b=>∃a C d fs v,x=.ref a/\b a=aa (.ins C d fs)/\Cls K C/\NoAttr K C f/\fs.lookup f=aa v/\Q v b
def sFld(K:aM)(ta tv:TE)(f:Str):TS:=λD b H=>tv b H λy e=>ta b e λx d=>∃a C c fs,x=.ref a/\d a=aa (.ins C c fs)/\Cls K C/\NoAttr K C f/\fs.length<1000 ∧
 D.nx b (upd d a$ .ins C c$ putF f y fs)
def aEk(z:PE X e ta)(J:fB e f X.env (cA e X.env)=cA e X.env):PE X (.Attribute e f pos) (tFld X.K ta f):=by intro k s b H Q I h;refine attr_of J$ thn (z k s b H _ I h) λu w d=>?_;obtain⟨x,p,o,g,a,C,y,fs,v,ex,j,c,n,l,q⟩:=d;subst ex;obtain rfl:u=Value.ref a:=g;exact RQ o j c n l λr t m i=>⟨v,p,m,i,q⟩
def ps_fld(Y:PE X o ta)(J:PE X value tv)(U:eF value (aa$ .Attribute o f pos') pos.line X.env=pure ag):PS X (.Assign [.Attribute o f pos'] value pos) (sFld X.K ta tv f):=by intro d s b H D I h;refine plainObj_wpAny_Assign_Attribute (thn (J d s b H _ I h) λu g ⟨y,H1,I1,z,q⟩=>thn (Y d g b H1 _ I1 q) λk v e=>?_) U;obtain⟨x,A,r,i,a,C,w,fs,ex,m,c,n,l,j⟩:=e;subst ex;obtain rfl:k=Value.ref a:=i;exact QH r m c n l z λt p=>⟨b,_,p,j⟩
section
variable{H:Hp}
inductive TyOf(K:aM)(H:Hp):V->Value->Prop where
 |non:TyOf K H .non (.type "NoneType")
 |bl (x:Bool):TyOf K H (.bl x) (.type "bool")
 |int (i:Int):TyOf K H (.int i) (.type "int")
 |str (x:Str):TyOf K H (.str x) (.type "str")
 |flt (x:UInt64):TyOf K H (.flt x) (.type "float")
 |lst {a:aF}{xs:List V} (e:H a=some (.lst xs)):TyOf K H (.ref a) (.type "list")
 |frz {a:aF}{o:Obj}{xs:List V} (e:H a=some (.frz o (.lst xs))):TyOf K H (.ref a) (.type "list")
 |tup {a:aF}{xs:List V} (e:H a=some (.tup xs)):TyOf K H (.ref a) (.type "tuple")
 |dK {a:aF}{kvs:List (Key×V)} (e:H a=some (.dK kvs)):TyOf K H (.ref a) (.type "dict")
 |dT {a:aF}{kvs:List (List Key×V)} (e:H a=some (.dT kvs)):TyOf K H (.ref a) (.type "dict")
 |ins {a C dx:aF}{fs:List (Str×V)} (e:H a=some (.ins C dx fs)) (cl:Cls K C) (ha:cG K (.ref C) "__class__"=some (some (.builtin "object.__class__")))
    (hn:PySem.W.specialIn K (.builtin "object.__class__") "__get__"=some (some (.builtin "getset_descriptor.__get__"))) (htk:PySem.W.takesIn K (.builtin "object.__class__")=some true)
    (hm:rV K C (.type "object")=some true):TyOf K H (.ref a) (.ref C)
def ZQ(I:Inv X aE σ H s)(U:RelV x u)(ty:TyOf X.K H x t)(e:cV X.K t c=aa b)(h:∀tk,Q (.bool b) {s with toks:=tk}):bG (1:) A (call (.builtin "isinstance") [u,c]) Q E s:=by
 cases ty with
 |non=>cases(U);exact cN PySem.W.kitx_none I.kIn True.intro e (λz=>nomatch z) h
 |bl y=>cases(U);exact cN PySem.W.kitx_bool I.kIn True.intro e (λz=>nomatch z) h
 |int i=>obtain⟨t,q⟩:=(U);cases q;exact cN PySem.W.kitx_int I.kIn True.intro e (λz=>nomatch z) h
 |str y=>obtain⟨t,q⟩:=(U);cases q;exact cN PySem.W.kitx_str I.kIn True.intro e (λz=>nomatch z) h
 |flt y=>obtain⟨t,q⟩:=(U);cases q;exact cN PySem.W.kitx_float I.kIn True.intro e (λz=>nomatch z) h
 |@lst a xs d=>
   cases(U);obtain⟨_,_,n,_,f⟩:=(I.hok a _ d)
   exact cN tG I.kIn ⟨_,f,rfl⟩ e (λz=>nomatch z) h
 |@frz a ob xs d=>
   cases(U);obtain⟨_,_,_,n,_,f⟩:=(I.hok a _ d)
   exact cN tG I.kIn ⟨_,f,rfl⟩ e (λz=>nomatch z) h
 |@tup a xs d=>
   cases(U);obtain⟨_,_,_,p⟩:=(I.hok a _ d)
   obtain⟨o,f,g,_⟩:=p;exact cN sJ I.kIn ⟨o,f,g⟩ e (λz=>nomatch z) h
 |@dK a j d=>
   cases(U);obtain⟨_,_,B,_,p⟩:=(I.hok a _ d)
   obtain⟨o,v,w,f,g,_⟩:=p;exact cN PD I.kIn ⟨o,f,g.1⟩ e (λz=>nomatch z) h
 |@dT a j d=>
   cases(U);obtain⟨_,_,xs,_,o,v,w,f,g,_⟩:=(I.hok a _ d)
   exact cN PD I.kIn ⟨o,f,g.1⟩ e (λz=>nomatch z) h
 |@ins a C G fs d cl r l k m=>cases(U);obtain⟨F,O,_⟩:=BQ I.hok d;obtain⟨D,J,_⟩:=O.look;exact cN (PySem.W.kitx_own (cl.get _) cl.hd r l k m) I.kIn J e (λz=>nomatch z) h
end
structure Room(k:Nat)(A:dF):Prop where
 hd:A.handled=none
 dp:A.depth+3*k+5<recursionLimit
 un:A.units+16*k+200<cLine
def Room.mono(r:Room k A)(h:j<=k):Room j A:=⟨r.hd,by have:=r.dp;lia,by have:=r.un;lia⟩
theorem Room.deeper(r:Room (k+1) A) env:Room k (A.deeper env):=
 ⟨r.hd,by have:=r.dp;show A.depth+1+3*k+5<_;omega,by have:=r.un;show A.units+3+16*k+200<_;omega⟩
def RF{A:dF}:(A.under$ .builtin "type.__call__" ⟨.ref C::z,kw⟩).depth=A.depth+1:=by first|rfl|simp[dF.under,Code.weight,Code.isCreation,Code.isGuard,Code.isCaller,Code.frames,Code.isFrame,guardIds]
def RE{A:dF}:(A.under$ .builtin "type.__call__" ⟨.ref C::z,kw⟩).units=A.units+1:=by first|rfl|simp[dF.under,Code.cUnits,Code.frames,Code.isFrame]
def Room.make(r:Room (k+1) A) C z kw:Room k (A.under$ .builtin "type.__call__" ⟨.ref C::z,kw⟩):=
 ⟨r.hd,by have:=r.dp;rw[RF];lia,by have:=r.un;rw[RE];lia⟩
theorem Room.depth(r:Room k A):A.depth<recursionLimit:=by have:=r.dp;lia
theorem Room.units(r:Room k A):A.units+64<cLine:=by have:=r.un;lia
def tNil:TA:=λ_ H Q=>Q [] H
def tCons(ta:TE)(tr:TA):TA:=λa H Q=>ta a H λx c=>tr a c λxs b=>Q (x::xs) b
section
variable{t:TA}
def jV:PA X [] tNil:=λ_ _ _ _ H Q I h=>Calls.spliced_nil ⟨[],H,I,.nil,h⟩
def qL(ha:PE X e te)(Y:PA X es t)(U:aG (e::es) X.env=(ag,cA e X.env)::aG es X.env:=by rfl):PA X (e::es) (tCons te t):=by intro a c s b H Q I h;rw[U];refine Calls.spliced_cons$ thn (ha c s b H _ I h) λu f d=>?_;obtain⟨x,k,j,g,i⟩:=d;exact thn (Y a c f b k _ j i) λl m ⟨xs,H2,I2,z,J⟩=>⟨x::xs,H2,I2,.cons g z,J⟩
def tTup(t:TA):TE:=λb H Q=>t b H λxs a=>xs.length<=sizeLine/\∀p,a p=ac->Q (.ref p) (upd a p$ .tup xs)
def tLst(t:TA):TE:=λb H Q=>t b H λxs a=>xs.length<=sizeLine/\∀p,a p=ac->Q (.ref p) (upd a p$ .lst xs)
def aEg{x1}(h:PA X es t):PE X (.Tuple es x1 pos) (tTup t):=by intro i s c H Q I f;refine wpAny_Tuple_spliced (thn (h pos i s c H _ I f) λd a ⟨xs,H1,J,r,z,q⟩=>⟨by rw[<-r.length];exact z,?_⟩);have g:=J.hok.fresh$ aL _;refine⟨.ref a.heap.objs.size,upd H1 a.heap.objs.size$ .tup xs,J.laid (λb u e=>aD _ e) (aL _) ?_,rfl,q _ g⟩;exact⟨z,d,r,⟨_,aN _ rfl,rfl,_,rfl⟩⟩
def aEi(h:PA X es t):PE X (.List es pos) (tLst t):=by intro i s c H Q I f;refine wpAny_List_spliced (thn (h pos i s c H _ I f) λd a ⟨xs,H1,J,r,z,q⟩=>⟨by rw[<-r.length];exact z,?_⟩);have g:=J.hok.fresh$ aL _;refine⟨.ref a.heap.objs.size,upd H1 a.heap.objs.size$ .lst xs,J.laid (λb u e=>aD _ e) (aL _) ?_,rfl,q _ g⟩;exact⟨z,d,0,r,aN _ rfl⟩
end
abbrev Sp:=List V->Hp->VK->XK->Prop
abbrev CXT:=List Env->Hp->aW->XK->Value->aW->Prop
structure Env0(P:bW)(w:cT)(K:aM)(mg:Str->Option Value)(base:Heap)(A:dF)(outer:List Env)(s:aW)(H:Hp):Prop where
 frames:A.frames=some outer
 mod:Mod K mg base
 bs:∀b o,base.get? b=some o->s.heap.get? b=some o/\H b=none
 bsz:Bsz K mg base s.heap H
 funs:s.heap.FunFrames base outer
 frf:∀b∈frs outer,H b=none
 hok:HOk P w H s.heap
 bare:mP s.gens
def CE(outer:List Env)(P:bW)(w:cT)(H:Hp)(s:aW)(Q:VK)(u:Value)(s':aW):Prop:=
 ∃v a,s'.os=s.os/\mP s'.gens/\Un (frs outer) [] H a s.heap s'.heap/\HOk P w a s'.heap/\RelV v u/\Q v a
def CR(z:CXT)(outer:List Env)(P:bW)(w:cT)(H:Hp)(s:aW)(Q:VK)(E:XK)(r:Result)(s':aW):Prop:=
 match r with
 |.ok (.ret u)=>CE outer P w H s Q u s'
 |.ok _=>False
 |.error e=>z outer H s E e s'
structure FnOk(P:bW)(w:cT)(K:aM)(mg:Str->Option Value)(base:Heap)(CX:CXT)(k:Nat)(f:aF)(fd:bR)(ps:List Str)(sp:Sp):Prop where
 len:∀vs H Q E,sp vs H Q E->vs.length=ps.length
 run:∀(A:dF) (outer:List Env) (s:aW) (H:Hp) (args:Args) (us:List Value) (vs:List V) (Q:VK) (E:XK),Room k A->Env0 P w K mg base A outer s H->aBk s fd args (ps.zip us)->Vals vs us->sp vs H Q E →
  gA (aT P w) A (.call (.ref f) args) (CR CX outer P w H s Q E) s
theorem FnOk.mono{K:aM}(F:FnOk P w K mg base z j f fd ps sp)(h:j<=k):FnOk P w K mg base z k f fd ps sp:=⟨F.len,λA outer s H args b a Q E c=>F.run A outer s H args b a Q E$ c.mono h⟩
def FnOk.imp{K:aM}(F:FnOk P w K mg base z k f fd ps sp)(h:∀vs H Q E,sp' vs H Q E->sp vs H Q E):FnOk P w K mg base z k f fd ps sp':=
 ⟨λvs H Q E q=>F.len vs H Q E$ h _ _ _ _ q,λA outer s H args a vs Q E d e g b c=>F.run A outer s H args a vs Q E d e g b$ h _ _ _ _ c⟩
def Env0.make{K:aM}(e:Env0 P w K mg base A outer s H) C z kw :
  Env0 P w K mg base (A.under$ .builtin "type.__call__" ⟨.ref C::z,kw⟩) outer s H:=⟨by first|exact e.frames|(simpa[dF.under,Code.envs,Code.isFrame,pushEnvs]using e.frames),e.mod,e.bs,e.bsz,e.funs,e.frf,e.hok,e.bare⟩
def Inv.tabsH(I:Inv X aE σ H s):TabsK X.K X.mg X.base H:=⟨I.ok.bsz.2.bm,λx c P a b=>⟨(I.ok.bsz.2.tab x c P a b).1,I.base.tbls _ _ (I.ok.bsz.2.tab x c P a b).2⟩⟩
def Inv.env0(I:Inv X aE σ H s):Env0 X.prog X.w X.K X.mg X.base X.A X.stack s H:=
 ⟨I.ok.frames,I.ok.mod,I.bs,⟨cS I.ok.bsz.1 I.sz,I.tabsH⟩,I.stack,I.stkFree,I.hok,I.bare⟩
def Inv.after(I:Inv X aE σ H s)(h:CE X.stack X.prog X.w H s Q u s'):EP X aE σ Q u s':=by obtain⟨v,c,os,bare,un,hok,r,q⟩:=h;obtain⟨e,g,d,t,a⟩:=s';obtain rfl:a=s.os:=os;exact⟨v,c,I.call un hok bare λb z=>absurd z$ by simp,r,q⟩
def tCall(sp:Sp)(z:List V)(E:XK)(t:TA):TE:=λa H Q=>t a H λb c=>sp (b++z) c Q E
def tMake(C:aF)(sp:Sp)(z:List V)(E:XK)(t:TA):TE:=λc H Q=>t c H λd b=>∀x a,b x=ac->b a=ac->a≠x →
 sp (.ref x::(d++z)) (upd (upd b a$ .own x) x$ .ins C a []) (λv e=>v=.non/\Q (.ref x) e) E
def Binds(K:aM)(fd:bR)(ps:List Str)(ds:List Value):Prop:=
 ∀(s:aW) (z:List Value),K.In s.heap->(z++ds).length=ps.length->aBk s fd ⟨z,[]⟩ (ps.zip$ z++ds)
def Binds.all{K:aM}(h:∀z,z.length=ps.length->rQ fd ⟨z,[]⟩=pure (ps.zip z)):Binds K fd ps []:=λs z _ a=>by rw[cZ]at a ⊢;exact .of_eq$ h z a
def ER(z:CXT)(X:Cx)(E:XK):Prop:=∀(aE:List (aF×Obj)) (σ:St) (H:Hp) (s:aW) (e:Value) (s':aW),Inv X aE σ H s->z X.stack H s E e s'->X.xe e s'
section
variable{f C:aF}
def aDc(F:FnOk X.prog X.w X.K X.mg X.base CX k f fd ps sp)(Y:Room k X.A)(hb:Binds X.K fd ps ds)(hd:Vals J ds)(U:ER CX X E)(I:Inv X aE σ H s)(r:Vals vs z)(h:sp (vs++J) H Q E):bG (1:) X.A (call (.ref f) z) (EP X aE σ Q) X.xe s:=by
 have b:=r.append hd;have d:(z++ds).length=ps.length:=by rw[<-b.length];exact F.len _ _ _ _ h
 refine oU$ fR (F.run X.A X.stack s H ⟨z,[]⟩ (z++ds) (vs++J) Q E Y I.env0 (hb s z I.kIn d) b h) λr c a=>?_;cases r with
 |error e=>exact U aE σ H s e c I a
 |ok g=>
   cases g with
   |ret u=>exact I.after a
   |next=>exact False.elim a
   |brk=>exact False.elim a
   |cont=>exact False.elim a
def JP(F:FnOk X.prog X.w X.K X.mg X.base CX k f fd ps sp)(hr:Room k X.A)(hg:Gl X x)(hm:X.mg x=aa (.ref f))(hk:cC X.K (.ref f)=ae)(hb:Binds X.K fd ps ds)(hd:Vals U ds)(hx:ER CX X E)(ha:PA X (e::es) t)(J:(2:)=ag:=by decide)(he:aG (e::es) X.env=(ag,cA e X.env)::aG es X.env:=by rfl)(z:(dJ pos$ aG es X.env).any (·.1)=ag:=by rfl):PE X (.Call (.Name x p) (e::es) [] pos) (tCall sp U E t):=by
 intro b s a H Q I h;refine eW$ wN I hg hm ?_ J;refine iY I.ok.mod.kin hk (thn (ha pos b s a H _ I h) λd g ⟨c,H1,Y,r,q⟩=>⟨Y.kIn,?_⟩) he z;exact aDc F hr hb hd hx Y r q
structure Mk(K:aM)(C f:aF):Prop where
 makes:uX K C=true
 init:cG K (.ref C) "__init__"=some (some (.ref f))
 fn:mU K (.ref f)=true
 kp:cC K (.ref C)=true
def aDb(M:Mk X.K C f)(F:FnOk X.prog X.w X.K X.mg X.base CX k f fd ps sp)(Y:Room (k+1) X.A)(hb:Binds X.K fd ps ds)(hd:Vals J ds)(U:ER CX X E)(I:Inv X aE σ H s)(r:Vals vs z)(h:∀x dx,H x=ac->H dx=ac->dx≠x->sp (.ref x::(vs++J)) (upd (upd H dx$ .own x) x$ .ins C dx []) (λv H2=>v=.non/\Q (.ref x) H2) E):bG (1:) X.A (call (.ref C) z) (EP X aE σ Q) X.xe s:=by
 have d:=h (s.heap.objs.size+1) s.heap.objs.size (I.hok.fresh$ mV _) (I.hok.fresh$ aL _)$ bJ$ gO _;have b:=Inv.made (C:=C) I;have c:Vals (V.ref (s.heap.objs.size+1)::(vs++J)) (Value.ref (s.heap.objs.size+1)::(z++ds)):=.cons rfl$ r.append hd;have l:(Value.ref (s.heap.objs.size+1)::z++ds).length=ps.length:=by have e:=c.length;rw[F.len _ _ _ _ d]at e;exact e.symm
 refine oU (aFl I.kIn M.makes M.init (beq_iff_eq.mp M.fn) (fR (F.run _ X.stack _ _ ⟨Value.ref (s.heap.objs.size+1)::z,[]⟩ (Value.ref (s.heap.objs.size+1)::(z++ds)) _ _ E (Y.make C z [])
  (b.env0.make C z []) (hb _ (Value.ref (s.heap.objs.size+1)::z) b.kIn l) c d) λr g a=>?_))
 cases r with
 |error e=>exact U aE σ _ _ e g b a
 |ok m=>
   cases m with
   |ret u=>obtain⟨v,p,o,i,n,j⟩:=b.after a;subst n;exact⟨i,⟨V.ref$ s.heap.objs.size+1,p,o,rfl,j⟩⟩
   |next=>exact False.elim a
   |brk=>exact False.elim a
   |cont=>exact False.elim a
def pe_make(M:Mk X.K C f)(F:FnOk X.prog X.w X.K X.mg X.base CX k f fd ps sp)(hr:Room (k+1) X.A)(hg:Gl X x)(hm:X.mg x=aa (.ref C))(hb:Binds X.K fd ps ds)(hd:Vals U ds)(hx:ER CX X E)(ha:PA X (e::es) t)(J:(2:)=ag:=by decide)(he:aG (e::es) X.env=(ag,cA e X.env)::aG es X.env:=by rfl)(z:(dJ pos$ aG es X.env).any (·.1)=ag:=by rfl):PE X (.Call (.Name x p) (e::es) [] pos) (tMake C sp U E t):=by
 intro b s a H Q I h;refine eW$ wN I hg hm ?_ J;refine iY I.ok.mod.kin M.kp (thn (ha pos b s a H _ I h) λd g ⟨c,H1,Y,r,q⟩=>⟨Y.kIn,?_⟩) he z;exact aDb M F hr hb hd hx Y r q
end
structure FnScope(N P:List Str)(sc:Scope):Prop where
 kind:sc.kind=.function:=by rfl
 co:sc.isCoroutine=false:=by rfl
 gen:sc.isGenerator=false:=by rfl
 nd:N.Nodup:=by decide +kernel
 pre:N.take P.length=P:=by rfl
 par:∀x∈P,sc.names.lookup x=some .local\/sc.names.lookup x=some .cell:=by decide +kernel
 nofree:∀y∈sc.names,y.2≠.free:=by decide +kernel
theorem IM{kindOf:Str->Option iZ}:∀{binds:List (Str×Value)}{m:Str->Option Value},(∀v,(x,v)∉binds)->WR kindOf binds m x=m x
 |[],_,_=>rfl
 |(n,v)::r,m,h=>by
   unfold WR;rw[IM λw a=>h w$ aJ _ a];split
   . have:x≠n:=by rintro rfl;exact h v aP
     simp[this]
   . rfl
theorem IP{kindOf:Str->Option iZ}:∀{binds:List (Str×Value)}{m:Str->Option Value},(∀v,(x,v)∉binds)->WS kindOf binds m x=m x
 |[],_,_=>rfl
 |(n,v)::r,m,h=>by
   unfold WS;rw[IP λw a=>h w$ aJ _ a];split
   . rfl
   . have:x≠n:=by rintro rfl;exact h v aP
     simp[this]
theorem IN{kindOf:Str->Option iZ}:∀{P:List Str}{vs:List Value}{i:Nat}{m:Str->Option Value},P.Nodup->P[i]?=aa x->vs[i]?=aa v->kindOf x=aa .local →
  WR kindOf (P.zip vs) m x=aa v
 |[],_,_,_,_,h,_,_=>by simp at h
 |_::_,[],_,_,_,_,h,_=>by simp at h
 |p::P,w::vs,0,m,nd,h1,h2,z=>by simp at h1 h2;subst h1;subst h2;show WR kindOf ((p,w)::P.zip vs) m p=_;unfold WR;rw[IM λv a=>(bK.mp nd).1 (pW a).1,if_pos z];simp
 |p::P,w::vs,i+1,m,nd,h1,h2,z=>by show WR kindOf ((p,w)::P.zip vs) m x=_;unfold WR;exact IN (i:=i) (bK.mp nd).2 (by simpa using h1) (by simpa using h2) z
theorem IQ{kindOf:Str->Option iZ}:∀{P:List Str}{vs:List Value}{i:Nat}{m:Str->Option Value},P.Nodup->P[i]?=aa x->vs[i]?=aa v->kindOf x≠aa .local →
  WS kindOf (P.zip vs) m x=aa v
 |[],_,_,_,_,h,_,_=>by simp at h
 |_::_,[],_,_,_,_,h,_=>by simp at h
 |p::P,w::vs,0,m,nd,h1,h2,z=>by simp at h1 h2;subst h1;subst h2;show WS kindOf ((p,w)::P.zip vs) m p=_;unfold WS;rw[IP λv a=>(bK.mp nd).1 (pW a).1,if_neg z];simp
 |p::P,w::vs,i+1,m,nd,h1,h2,z=>by show WS kindOf ((p,w)::P.zip vs) m x=_;unfold WS;exact IQ (i:=i) (bK.mp nd).2 (by simpa using h1) (by simpa using h2) z
noncomputable def start(N:List Str)(vs:List V):St:=vs.map aa++List.replicate (N.length-vs.length) ac
noncomputable def cxOf(CX:CXT)(P:bW)(w:cT)(K:aM)(mg:Str->Option Value)(base:Heap)(N:List Str)(qual:Str)(scope:Scope)(f:aF)(cd:Value)(A:dF)(outer:List Env)(s:aW)(H:Hp)(E:XK):Cx where
 prog:=P
 w:=w
 K:=K
 mg:=mg
 base:=base
 A:=A.deeper (iM qual scope s.heap.objs.size f cd)
 N:=N
 s₀:=s
 H₀:=H
 env:=iM qual scope s.heap.objs.size f cd
 outer:=outer
 stack:=iM qual scope s.heap.objs.size f cd::outer
 ex:=[]
 calm:=ae
 fn:=λ_=>ae
 pn:=[]
 xe:=λe s'=>bG (aT P w) (A.deeper$ iM qual scope s.heap.objs.size f cd) (leaving (iM qual scope s.heap.objs.size f cd) e) (λ_ s''=>CX outer H s E e s'') (λe' s''=>CX outer H s E e' s'') s'
def OG{z:Scope}(h:z.names.lookup x=aa .cell):∃c,(cellsFrom n z.names []).lookup x=aa c:=by have q:=GI z.names n []$ .inl h;exact FH.mp q
def ZT{K:aM}(S:FnScope N ps scope)(hd:A.handled=ac)(J:Env0 P w K mg base A outer s H)(hl:vs.length=ps.length)(r:Vals vs U)(x:InCallC s s.heap.objs.size (WR (iM qual scope s.heap.objs.size f cd).kindOf (ps.zip U) λ_=>ac) (cellsFrom (s.heap.objs.size+1) scope.names []) (WS (iM qual scope s.heap.objs.size f cd).kindOf (ps.zip U) λ_=>ac) s1):Inv (cxOf Y P w K mg base N qual scope f cd A outer s H E) [] (start N vs) H s1:=by
 have C:ps.length<=N.length:=by have:=congrArg List.length S.pre;rw[gL]at this;lia
 obtain⟨n,F,rfl,t⟩:=x.done;have g:∀b:aF,b∉(cxOf Y P w K mg base N qual scope f cd A outer s H E).ex:=λb z=>absurd (show b∈([]:List aF) from z) (by simp)
 refine⟨⟨J.mod,S.kind,rfl,rfl,aL _,λy z c n d=>?_,λy j=>?_,λy c _ h=>?_,λ_=>hd,dF.frames_deeper J.frames,.inr ⟨rfl,rfl⟩,λb z=>absurd z$ g b,J.bs,J.bsz,λb _ _=>g b,λb z=>absurd z$ g b,J.funs,J.frf⟩,
  rfl,J.bare,Un.kept t,⟨_,x.toInCall.ns,λi y v n d G=>?_⟩,λy c h=>⟨_,x.cell y c h⟩,J.hok.fresh$ aL _,λy c h=>?_,λp m=>absurd (show p∈([]:List (aF×Obj)) from m)$ by simp,J.hok.kept t,?_⟩
 . exact name_of_addr x.apart (cU n)$ cU d
 . have j:scope.names.lookup y=aa .cell\/scope.names.lookup y=aa .free:=j;rcases j with j|j
   . exact OG j
   . exact absurd rfl$ S.nofree _$ cU j
 . exact AA$ x.above y c$ cU h
 . have hi:i<vs.length:=by
    unfold start at d;by_cases hi:i<vs.length
    . exact hi
    . rw [cE$ by simpa using hi]at d;rw [eB]at d;split at d<;>cases d
   have D:vs[i]?=aa v:=by
    unfold start at d;rw[bO$ by simpa using hi,bB]at d;cases e:vs[i]? with
    |none=>rw[e]at d;cases d
    |some a=>rw[e]at d;cases d;rfl
   obtain⟨u,o,B⟩:=r.get D;have m:ps[i]?=aa y:=by rw[<-S.pre,kN$ by lia];exact n
   have l:ps.Nodup:=by rw[<-S.pre];exact S.nd.sublist$ gB _ _
   refine⟨u,B,?_⟩;rcases S.par y (dI m)with k|k
   . exact .inl ⟨k,IN l m o k⟩
   . obtain⟨c,e⟩:=OG k;refine .inr ⟨.inl k,c,e,?_⟩;have q:=x.cell y c e;rw[IQ l m o$ by show scope.names.lookup y≠_;rw[k];decide]at q;exact q
 . exact .inl$ J.hok.fresh$ AA$ x.above y c$ cU h
 . unfold start;show _=N.length;rw [cD,bS,rH]
   lia
def aGs{K:aM}{dV kV doc pm z ct oc:Value}(lk:K.lookup f=aa ⟨oc,od,.func$ dL name qual params body scope dV kV doc pm an z ct,osl⟩)(Y:fN K z qual=ae)(S:FnScope N ps scope)(len:∀vs H Q E,sp vs H Q E->vs.length=ps.length)(U:∀A outer s H vs Q E,Room k (A.deeper$ iM qual scope s.heap.objs.size f z)->sp vs H Q E →
    ∃t,PSs (cxOf CX P w K mg base N qual scope f z A outer s H E) body t/\t {nx:=λ_ H'=>Q .non H',rt:=Q} (start N vs) H):FnOk P w K mg base CX (k+1) f (dL name qual params body scope dV kV doc pm an z ct) ps sp:=by
 refine⟨len,λA outer s H args p vs Q E l h G r g=>?_⟩;have D:=len _ _ _ _ g;have m:=h.mod.kin.keeps λb o e=>(h.bs b o e).1;have j:=h.mod.nolimit.keeps λb o e=>(h.bs b o e).1;have c:∀y∈ps.zip p,scope.names.lookup y.1=aa .local\/(scope.names.lookup y.1=aa .cell/\((cellsFrom (s.heap.objs.size+1) scope.names []).lookup y.1).isSome=ae):=λ⟨n,v⟩ hy=>by
  rcases S.par n (pW hy).1 with q|q
  . exact .inl q
  . exact .inr ⟨q,GI _ _ _$ .inl q⟩
 refine codeAny_call_function l.depth (m _ _ lk) rfl S.co S.gen rfl (PySem.W.codeRec_of m Y) (G _ _ _ _ ?_);refine wpAny_newFunctionEnv_cells S.kind c λenv F s1 x=>?_;subst F;refine⟨j.keeps x.toInCall.keep,codeAny_func ?_⟩;obtain⟨t,B,C⟩:=U A outer s H vs Q E (l.deeper _) g;have I:Inv (cxOf CX P w K mg base N qual scope f z A outer s H E) [] (start N vs) H s1:=ZT S l.hd h D r x;refine dD (B [] s1 (start N vs) H _ I C) (λL s' d=>?_) λe s' d=>d
 have fin:∀{a:St}{H':Hp}{v:V}{u:Value},Inv (cxOf CX P w K mg base N qual scope f z A outer s H E) [] a H' s'->RelV v u->Q v H'->CE outer P w H s Q u s':=
  λ{a H' v u} J i q=>⟨v,H',J.os,J.bare,J.base,J.hok,i,q⟩
 cases L with
 |ret u=>obtain⟨v,a,H',J,i,q⟩:=d;exact fin J i q
 |next=>obtain⟨a,H',J,q⟩:=d;exact fin (v:=V.non) J rfl q
 |brk=>obtain⟨_,_,_,q⟩:=d;exact False.elim q
 |cont=>obtain⟨_,_,_,q⟩:=d;exact False.elim q
section
variable{t:TA}{id T:String}{r:List V->Hp->VK->Prop}
def tCB(r:List V->Hp->VK->Prop)(t:TA):TE:=λa H Q=>t a H λb c=>r b c Q
def xK(hc:CallR X (.builtin id) r)(hg:Gl X x)(hm:X.mg x=ac)(hv:fA x=aa (.builtin id))(ha:PA X (e::es) t)(hn:x≠"__name__":=by decide)(J:(2:)=ag:=by decide)(he:aG (e::es) X.env=(ag,cA e X.env)::aG es X.env:=by rfl)(z:(dJ pos$ aG es X.env).any (·.1)=ag:=by rfl):PE X (.Call (.Name x p) (e::es) [] pos) (tCB r t):=by intro b s a H Q I h;refine eW$ wV I hg hm hv ?_ hn J;exact kU (thn (ha pos b s a H _ I h) λd f ⟨c,H1,I1,U,Y⟩=>hc b f a H1 c d Q I1 U Y) he z
def kE(hc:CallR X (.type T) r)(hg:Gl X x)(hm:X.mg x=ac)(hv:fA x=aa (.type T))(ha:PA X (e::es) t)(hn:x≠"__name__":=by decide)(J:(2:)=ag:=by decide)(he:aG (e::es) X.env=(ag,cA e X.env)::aG es X.env:=by rfl)(z:(dJ pos$ aG es X.env).any (·.1)=ag:=by rfl):PE X (.Call (.Name x p) (e::es) [] pos) (tCB r t):=by intro b s a H Q I h;refine eW$ wV I hg hm hv ?_ hn J;exact gN (thn (ha pos b s a H _ I h) λd f ⟨c,H1,I1,U,Y⟩=>hc b f a H1 c d Q I1 U Y) he z
end
end L2
namespace HT
open PySem PyProof.Rows
end HT
namespace L2
open PySem PySem.Spec PyProof.Rows
abbrev TO:=St->Hp->(Option Int->Hp->Prop)->Prop
def PO(X:Cx)(e:Option Expr)(t:TO):Prop:=
 ∀(aE:List (aF×Obj)) (s:aW) (σ:St) (H:Hp) (Q:Option Int->Hp->Prop),Inv X aE σ H s->t σ H Q →
  bG (1:) X.A (evalPart e X.env) (λu b=>∃o a,Inv X aE σ a b/\IsPart u o/\Q o a) X.xe s
def tPart(t:TE):TO:=λa H Q=>t a H λx b=>∃i,x=.int i/\Q (aa i) b
def DN:∀{z:List Value},Vals (ns.map V.int) z->eR z ns:=by
 induction ns with
 |nil=>intro z r;rw[dO]at r;cases r;exact .nil
 |cons n ns c=>
   intro z r;cases r with
   |cons b a=>obtain⟨t,e⟩:=b;subst e;exact .cons n t$ c a
section
variable{X:Cx}{te:TE}{lo hi:Option Expr}{tl th:TO}
def po_some(h:PE X e te):PO X (aa e) (tPart te):=by intro g s a H Q I f;refine thn (h g s a H _ I f) λu l b=>?_;obtain⟨x,k,j,c,d⟩:=b;obtain⟨i,rfl,q⟩:=d;obtain⟨t,rfl⟩:=c;exact⟨aa i,k,j,.int i t,q⟩
def SlR(X:Cx)(r:V->Option Int->Option Int->Hp->VK->Prop):Prop:=
 ∀(aE:List (aF×Obj)) (s:aW) (σ:St) (H:Hp) (x:V) (v J z:Value) (lo hi:Option Int) (sl:aF) (Q:VK),Inv X aE σ H s->RelV x v->s.heap.IsSliceOf sl J z .none->IsPart J lo->IsPart z hi->r x lo hi H Q →
  ∃T id,typeLookup (.type T) "__getitem__"=pure (aa$ .builtin id)/\s.TypeIs v T/\bG (1:) X.A (LC v$ .ref sl) (EP X aE σ Q) X.xe s
def tSl(r:V->Option Int->Option Int->Hp->VK->Prop)(te:TE)(tl th:TO):TE:=λa H Q=>te a H λx d=>tl a d λl c=>th a c λu b=>r x l u b Q
def aEh(Y:SlR X r)(he:PE X e te)(hl:PO X lo tl)(U:PO X hi th):PE X (.Subscript e (.Slice lo hi ac p2) pos) (tSl r te tl th):=by intro d s a H Q I h;refine Subscript_$ thn (he d s a H _ I h) λv m f=>?_;obtain⟨x,E,D,n,p⟩:=f;refine wpAny_Slice$ thn (hl d m a E _ D p) λi k ⟨l,H2,I2,J,z⟩=>thn (U d k a H2 _ I2 z) λg c f=>?_;obtain⟨u,j,C,t,o⟩:=f;refine aO ?_;have B:Inv X d a j {c with heap:=c.heap.push {cls:=.type "slice",data:=.fields #[i,g,.none]} }:=C.kept λb ob q=>aD _ q;obtain⟨T,id,A,w,y⟩:=Y d {c with heap:=c.heap.push {cls:=.type "slice",data:=.fields #[i,g,.none]} } a j x v i g l u c.heap.objs.size Q B n (Heap.IsSliceOf.new ..) J t o;exact tail_any w A y (by with_unfolding_all rfl)
noncomputable def cutV(xs:List V)(lo hi:Option Int):List V:=(xs.drop$ HT.sIx xs.length 0 lo).take$ HT.sIx xs.length xs.length hi-HT.sIx xs.length 0 lo
def OB xs lo hi:(cutV xs lo hi).length<=xs.length:=by
 unfold cutV;rw[gL,AT]
 lia
end
def VO(h:ixN n i=aa j):seqIndex? i n=aa j/\j<n/\-(n:Int)<=i/\i<n:=by
 unfold ixN at h;by_cases b:0<=i
 . rw [if_pos b]at h;by_cases a:i<n
   . rw[if_pos a]at h;have e:=Option.some.inj h;exact⟨by rw[seqIndex_of b a,e],by lia,by lia,a⟩
   . rw[if_neg a]at h;cases h
 . rw [if_neg b]at h;by_cases a : -(n:Int)<=i
   . rw[if_pos a]at h;have e:=Option.some.inj h;exact⟨by rw[aBa (by lia) a,e],by lia,a,by lia⟩
   . rw[if_neg a]at h;cases h
def KO(h:atI xs i=aa v):∃j,seqIndex? i xs.length=aa j/\xs[j]?=aa v/\j<xs.length/\-(xs.length:Int)<=i/\i<xs.length:=by
 unfold atI at h;cases e:ixN xs.length i with
 |none=>rw[e]at h;cases h
 |some j=>rw[e]at h;obtain⟨d,c,b,a⟩:=VO e;exact⟨j,d,h,c,b,a⟩
def WO(b:Expr):Prop:=∀o i,IV b ag o i=operate [o,i] (LC o i)
def IxR(X:Cx)(r:R2):Prop:=
 ∀(value z:Expr) (aE:List (aF×Obj)) (s:aW) (σ:St) (H:Hp) (x y:V) (v u:Value) (Q:VK),Inv X aE σ H s->RelV x v->RelV y u->r x y H Q →
  IV z ag v u=operate [v,u] (LC v u)->bG (1:) X.A (subscriptTail value z v u) (EP X aE σ Q) X.xe s
def MtR(X:Cx)(id:String)(r:V->List V->Hp->VK->Prop):Prop:=
 ∀(aE:List (aF×Obj)) (s:aW) (σ:St) (H:Hp) (x:V) (xs:List V) (v:Value) (z:List Value) (Q:VK),Inv X aE σ H s->RelV x v->Vals xs z->r x xs H Q →
  bG (1:) X.A (call (.builtin id)$ v::z) (EP X aE σ Q) X.xe s
section
variable{a b:Expr}
def IxR.or(h:IxR X r)(h':IxR X z):IxR X (λx y H Q=>r x y H Q\/z x y H Q):=by
 intro a b g s c H x y v u Q I e d q f;rcases q with q|q
 . exact h a b g s c H x y v u Q I e d q f
 . exact h' a b g s c H x y v u Q I e d q f
def pe_ix(J:IxR X r)(Y:PE X a ta)(U:PE X b tb)(z:WO b):PE X (.Subscript a b pos) (tOp r ta tb):=by intro g s c H Q I h;exact Subscript_$ binT Y U I h λv u d x y j i f e q=>J a b g d c j x y v u Q i f e q$ z _ _
noncomputable def rIxL(K:aM):R2:=λx y H Q=>∃p xs i v,x=.ref p/\y=.int i/\SqL K H p xs/\atI xs i=aa v/\Q v H
noncomputable def rIxT(K:aM):R2:=λx y H Q=>∃p xs i v,x=.ref p/\y=.int i/\SqT K H p xs/\atI xs i=aa v/\Q v H
noncomputable def rIxS:R2:=λx y H Q=>∃z i c,x=.str z/\y=.int i/\z.length<=sizeLine/\atI z.cps.toList i=aa c/\Q (.str ⟨#[c]⟩) H
def ix_list:IxR X (rIxL X.K):=by
 intro b c K s n H x y v u Q I A o h k;obtain⟨p,xs,i,z,rfl,rfl,B,D,q⟩:=h;cases A;obtain⟨t,rfl⟩:=o;obtain⟨f,r,e,L⟩:=I.list B;obtain⟨j,a,G,N,F,E⟩:=KO D;obtain⟨w,m,d⟩:=r.get G;have C:=r.length;have M:=tD;have fin:EP X K n Q w s:=⟨z,H,I,d,q⟩
 by_cases l:0<=i
 . have g:i.toNat=j:=by
    rw[seqIndex_of l E]at a;exact Option.some.inj a
   exact item_listR e.isList l (by lia) (by rw[g];simpa using m) fin k
 . have g:(i+(f.toArray.size:Int)).toNat=j:=by
    rw[aBa (by lia) F]at a;rw[bF,<-C];exact Option.some.inj a
   exact subscriptTail_builtinR e.isList.typeIs slot_list_getitem.lookup
    (wpAny_getItem_list_neg e.isList (by lia) (by rw[bF]<;>lia) (by lia) (by rw[g];simpa using m) ⟨rfl,fin⟩) k
def ix_tup:IxR X (rIxT X.K):=by
 intro a b D s e H x y v u Q I g f h l;obtain⟨p,xs,i,z,rfl,rfl,m,o,q⟩:=h;cases g;obtain⟨t,rfl⟩:=f;obtain⟨k,r,d,E⟩:=I.tuple m;obtain⟨j,B,A,L,K,G⟩:=KO o;obtain⟨w,C,c⟩:=r.get A;have n:=r.length;have F:=tD;have fin:EP X D e Q w s:=⟨z,H,I,c,q⟩
 exact subscriptTail_builtinR d.typeIs slot_tuple_getitem.lookup
  (getItem_tuple d (by lia) (by lia) (by rw[bF,<-n];exact B) (by simpa using C) ⟨rfl,fin⟩) l
def ix_str:IxR X rIxS:=by
 intro a b E s w H x y v u Q I f e h g;obtain⟨z,i,c,rfl,rfl,B,l,q⟩:=h;obtain⟨t,rfl⟩:=f;obtain⟨A,rfl⟩:=e;obtain⟨j,d,o,D,n,m⟩:=KO l;have k:z.cps.toList.length=z.length:=by simp[Str.length]
 rw[k]at d n m;have C:=tD;exact tail_any (typeIs_str s z t) slot_str_getitem.lookup (getItem_str (by
  have r:decide (i < -(2^63:Int))=ag:=decide_eq_false (by lia);have p:decide (i≥2^63)=ag:=decide_eq_false (by lia)
  rw[r,p,Bool.or_false]) (by rw[d];simpa using o) ⟨.str ⟨#[c]⟩,H,I.tok _,⟨_,rfl⟩,q⟩) g
noncomputable def rIx(K:aM):R2:=λx y H Q=>rIxL K x y H Q\/rIxT K x y H Q\/rIxS x y H Q
def ix_seq:IxR X (rIx X.K):=ix_list.or$ ix_tup.or ix_str
def RC(z:List Value) n j u:Obj.mapSeq (·.setIfInBounds j u) {cls:=.type "list",data:=.seq z.toArray n}={cls:=.type "list",data:=.seq (z.set j u).toArray n}:=by simp[Obj.mapSeq]
theorem Inv.lst{aE:List (aF×Obj)}{σ:St}{H:Hp}{s:aW}{p:aF}{xs:List V}(I:Inv X aE σ H s)(h:H p=aa (.lst xs)):∃(J:List Value) (n:Nat),Vals xs J/\s.heap.get? p=aa {cls:=.type "list",data:=.seq J.toArray n}/\xs.length<=sizeLine:=by
 obtain⟨z,J,n,r,e⟩:=I.hok p _ h;exact⟨J,n,r,e,z⟩
def Inv.lstUpd{J z:List Value}(I:Inv X aE σ H s)(h:H p=aa (.lst xs))(ho:s.heap.get? p=aa {cls:=.type "list",data:=.seq J.toArray n})(Y:f {cls:=.type "list",data:=.seq J.toArray n}={cls:=.type "list",data:=.seq z.toArray U})(r:Vals ys z)(hz:ys.length<=sizeLine) t :
  Inv X aE σ (upd H p$ .lst ys) {s with heap:=s.heap.update p f,toks:=t}:=by
 have e:(s.heap.update p f).get? p=aa {cls:=.type "list",data:=.seq z.toArray U}:=by rw[dE f ho$ by rw[Y]<;>rfl,Y]
 refine I.write (x:=p) (e:=p) (by rw[h];trivial) (.inl rfl) (λb u a q=>(bN _ _$ Ne.symm a).trans q) ⟨_,e⟩ ?_;exact⟨hz,z,U,r,e⟩
def rSetL:V->V->V->Hp->(Hp->Prop)->Prop:=λo i v H Q=>∃p xs k j,o=.ref p/\i=.int k/\H p=aa (.lst xs)/\ixN xs.length k=aa j/\Q (upd H p$ .lst$ xs.set j v)
def aCw:PSet X rSetL:=by
 intro E s x H o i v F G u Q I A B y h;obtain⟨p,xs,k,j,rfl,rfl,f,D,q⟩:=h;cases A;obtain⟨t,rfl⟩:=B;obtain⟨a,n,r,c,C⟩:=I.lst f;obtain⟨b,L,l,g⟩:=VO D;have d:=r.length;have K:=tD
 have w:Inv X E x (upd H p$ .lst$ xs.set j v) {s with heap:=s.heap.update p (Obj.mapSeq (·.setIfInBounds j u))}:=
  I.lstUpd f c (RC a n j u) (r.set y j) (by rw[List.length_set];exact C) s.toks
 by_cases m:0<=k
 . have e:k.toNat=j:=by
    rw[seqIndex_of m g]at b;exact Option.some.inj b
   exact PySem.W.ki_setAt c m (by lia) (by rw[bF,<-d];exact g) (by rw[e];exact⟨_,w,q⟩)
 . have e:(k+(a.toArray.size:Int)).toNat=j:=by
    rw[aBa (by lia) l]at b;rw[bF,<-d];exact Option.some.inj b
   exact PySem.W.ki_setBack c (by lia) (by rw[bF,<-d];exact l) (by lia) (by rw[e];exact⟨_,w,q⟩)
def JE lo hi n:(nT lo hi ac n).1=((HT.sIx n 0 lo:Nat):Int)/\(nT lo hi ac n).2.1=((HT.sIx n n hi:Nat):Int)/\(nT lo hi ac n).2.2=1:=by
 refine⟨?_,?_,rfl⟩
 . cases lo with
   |none=>simp[nT,HT.sIx]
   |some i=>
     simp only[nT,HT.sIx,WY,show(1:Int)>0 by decide,if_true];by_cases h:i<0
     . simp only[h,if_true]<;>lia
     . simp only[h,if_false]<;>lia
 . cases hi with
   |none=>simp[nT,HT.sIx]
   |some i=>
     simp only[nT,HT.sIx,WY,show(1:Int)>0 by decide,if_true];by_cases h:i<0
     . simp only[h,if_true]<;>lia
     . simp only[h,if_false]<;>lia
def FN(z:List Value) lo hi:slicePick z.toArray lo hi ac=((z.drop$ HT.sIx z.length 0 lo).take$ HT.sIx z.length z.length hi-HT.sIx z.length 0 lo).toArray:=by obtain⟨c,b,a⟩:=JE lo hi z.toArray.size;unfold slicePick;rw[c,b,a];simp only[sliceRange_one,pick_run,bF]<;>rfl
def rSlL(K:aM):V->Option Int->Option Int->Hp->VK->Prop:=λx lo hi H Q=>∃a xs,x=.ref a/\SqL K H a xs/\∀p,H p=ac->Q (.ref p) (upd H p$ .lst$ cutV xs lo hi)
def sl_list:SlR X (rSlL X.K):=by intro p s m H x v o n lo hi sl Q I e l g f h;obtain⟨a,xs,rfl,k,q⟩:=h;cases e;obtain⟨i,r,d,j⟩:=I.list k;have c:=r.length;refine⟨"list",_,slot_list_getitem.lookup,d.isList.typeIs,?_⟩;refine wpAny_getItem_list_slice d.isList l g f .none (by simp) ?_ (by rw[bF]<;>lia);rw[FN,<-c];refine⟨.ref s.heap.objs.size,_,I.laid (λb ob q=>aD _ q) (aL _) ?_,rfl,q _$ I.hok.fresh$ aL _⟩;exact⟨cS (OB xs lo hi) j,_,0,(r.drop$ HT.sIx xs.length 0 lo).take$ HT.sIx xs.length xs.length hi-HT.sIx xs.length 0 lo,aN _ rfl⟩
noncomputable def flatV:V->Bool
 |.non=>ae
 |.bl _=>ae
 |.int _=>ae
 |.str _=>ae
 |_=>ag
noncomputable def eqV:V->V->Bool
 |.non,.non=>ae
 |.bl a,.bl b=>a==b
 |.bl a,.int b=>(if a then 1 else 0)==b
 |.int a,.bl b=>a==(if b then 1 else 0)
 |.int a,.int b=>a==b
 |.str a,.str b=>a==b
 |_,_=>ag
def eqAt_V(J:RelV y u)(z:RelV x v)(Y:flatV y=ae)(U:flatV x=ae):SeqAt.EqAt A s u v (eqV y x):=by
 cases y with
 |non=>
   cases J;cases x with
   |non=>cases z;exact SeqAt.EqAt.same _
   |bl b=>cases z;exact SeqAt.EqAt.none_bool b
   |int b=>obtain⟨t,rfl⟩:=z;exact SeqAt.EqAt.none_int b t
   |str b=>obtain⟨t,rfl⟩:=z;exact SeqAt.EqAt.none_str b t
   |_=>exact absurd (U) dX
 |bl a=>
   cases J;cases x with
   |non=>cases z;exact SeqAt.EqAt.bool_none a
   |bl b=>cases z;exact SeqAt.EqAt.bool_bool a b
   |int b=>obtain⟨t,rfl⟩:=z;exact SeqAt.EqAt.bool_int a b t
   |str b=>obtain⟨t,rfl⟩:=z;exact SeqAt.EqAt.bool_str a b t
   |_=>exact absurd (U) dX
 |int a=>
   obtain⟨c,rfl⟩:=J;cases x with
   |non=>cases z;exact SeqAt.EqAt.int_none a c
   |bl b=>cases z;exact SeqAt.EqAt.int_bool a c b
   |int b=>obtain⟨t,rfl⟩:=z;exact SeqAt.EqAt.int_int a c b t
   |str b=>obtain⟨t,rfl⟩:=z;exact SeqAt.EqAt.int_str a c b t
   |_=>exact absurd (U) dX
 |str a=>
   obtain⟨c,rfl⟩:=J;cases x with
   |non=>cases z;exact SeqAt.EqAt.str_none a c
   |bl b=>cases z;exact SeqAt.EqAt.str_bool a c b
   |int b=>obtain⟨t,rfl⟩:=z;exact SeqAt.EqAt.str_int a c b t
   |str b=>obtain⟨t,rfl⟩:=z;exact SeqAt.EqAt.str_str a c b t
   |_=>exact absurd (U) dX
 |_=>exact absurd (Y) dX
noncomputable def eqU(x:V)(u:Value):Bool:=match u with
 |.none=>eqV .non x
 |.bool b=>eqV (.bl b) x
 |.int i _=>eqV (.int i) x
 |.str z _=>eqV (.str z) x
 |_=>ag
def aGy(r:RelV y u)(f:flatV y=ae):eqU x u=eqV y x:=by
 cases y with
 |non=>cases r;rfl
 |bl b=>cases r;rfl
 |int i=>obtain⟨t,rfl⟩:=r;rfl
 |str z=>obtain⟨t,rfl⟩:=r;rfl
 |_=>exact absurd (f) dX
def WM{xs:List V}{z:List Value}(h:Vals xs z):xs.all flatV=ae->z.any (eqU x)=xs.any λy=>eqV y x:=
 h.rec (motive:=λxs z _=>xs.all flatV=ae->z.any (eqU x)=xs.any λy=>eqV y x) (λ_=>rfl) λr _ i f=>by rw[tH,bY]at f;rw[kO,kO,aGy r f.1,i f.2]
theorem DF(J:RelV x v)(U:flatV x=ae):∀{xs:List V}{z:List Value},Vals xs z->xs.all flatV=ae->∀u∈z,SeqAt.EqAt A s u v$ eqU x u
 |_,_,.nil,_=>λu a=>by cases a
 |y::xs,u::z,.cons r t,f=>λb a=>by
   rw[tH,bY]at f;rcases aA.mp a with rfl|a
   . rw[aGy r f.1];exact eqAt_V r J f.1 U
   . exact DF J U t f.2 b a
noncomputable def inV(x:V)(xs:List V):Bool:=xs.any λy=>eqV y x
noncomputable def rIn(K:aM)(neg:Bool):R2:=λx y H Q=>∃p xs,y=.ref p/\(SqL K H p xs\/SqT K H p xs)/\flatV x=ae/\xs.all flatV=ae/\Q (.bl$ if neg then !inV x xs else inV x xs) H
def YT:OpR X (eP .In) (rIn X.K ag):=by
 intro k s j H x y v u Q I e g h;obtain⟨p,xs,rfl,b,f,fs,q⟩:=h;cases g;rcases b with b|b
 . obtain⟨a,r,c,i⟩:=I.list b;refine SeqAt.in_listAt (eqU x) c.isList (λw d=>DF e f r fs w$ by simpa using d) ⟨.bl _,H,I,rfl,?_⟩;rw[show a.toArray.any (eqU x)=a.any (eqU x) by simp,WM r fs];exact q
 . obtain⟨a,r,c,i⟩:=I.tuple b;refine SeqAt.in_tupleAt (eqU x) c (λw d=>DF e f r fs w$ by simpa using d) ⟨.bl _,H,I,rfl,?_⟩;rw[show a.toArray.any (eqU x)=a.any (eqU x) by simp,WM r fs];exact q
def KL:CallR X (.builtin "len") (λxs H Q=>∃p ys,xs=[.ref p]/\(SqL X.K H p ys\/SqT X.K H p ys)/\Q (.int ys.length) H):=by
 intro l s i H xs j Q I r h;obtain⟨p,ys,rfl,b,q⟩:=h;obtain⟨u,rfl,f⟩:=vals1 r;cases f;have k:=tD;rcases b with b|b
 . obtain⟨e,c,d,g⟩:=I.list b;have a:=c.length;exact Calls.call_len_list d.isList (by simp[bF]<;>lia) ⟨.int ys.length,H,I.tok _,⟨s.toks+1,by rw[bF,a]⟩,q⟩
 . obtain⟨e,c,d,g⟩:=I.tuple b;have a:=c.length;exact len_tuple d (by simp[bF]<;>lia) ⟨.int ys.length,H,I.tok _,⟨s.toks+1,by rw[bF,a]⟩,q⟩
def KJ:CallR X (.builtin "len") (λxs H Q=>∃z,xs=[.str z]/\z.length<=sizeLine/\Q (.int z.length) H):=by intro e s a H xs b Q I r h;obtain⟨z,rfl,c,q⟩:=h;obtain⟨u,rfl,t,rfl⟩:=vals1 r;have d:=tD;exact len_str (by lia) ⟨.int z.length,H,I.tok _,⟨_,rfl⟩,q⟩
def CallR.or(h:CallR X f r)(h':CallR X f z):CallR X f (λxs H Q=>r xs H Q\/z xs H Q):=by
 intro d s a H xs b Q I c q;rcases q with q|q
 . exact h d s a H xs b Q I c q
 . exact h' d s a H xs b Q I c q
def KH:CallR X (.type "list") (λxs H Q=>∃p ys,xs=[.ref p]/\(SqL X.K H p ys\/SqT X.K H p ys)/\∀l,H l=ac->Q (.ref l) (upd H l$ .lst ys)):=by
 intro y s w H xs A Q I r h;obtain⟨p,ys,rfl,i,q⟩:=h;obtain⟨u,rfl,x⟩:=vals1 r;cases x
 have fin:∀(a:List Value),Vals ys a->ys.length<=sizeLine->∀(c:Heap) (f:Nat),(∀b v,s.heap.get? b=aa v->c.get? b=aa v) →
   c.get? s.heap.objs.size=aa {cls:=.type "list",dict:=ac,data:=.seq a.toArray f,slots:=#[]}->EP X y w Q (.ref s.heap.objs.size) {s with heap:=c}:=λa d g c f kp e =>
  ⟨.ref s.heap.objs.size,_,I.laid kp (aL _)$ show ObjOk X.prog X.w _ c _ (.lst ys) from ⟨g,a,f,d,e⟩,rfl,q _$ I.hok.fresh$ aL _⟩
 rcases i with i|i
 . obtain⟨a,d,k,g⟩:=I.list i;have j:=d.length;obtain⟨o,m,t,n,hd⟩:=k.isList;exact call_list_seq p (.inl rfl) m t hd (λc f kp e=>fin a d g c f kp e) (by simp[bF]<;>lia)
 . obtain⟨a,d,k,g⟩:=I.tuple i;have j:=d.length;obtain⟨o,m,t,n,hd⟩:=k;exact call_list_seq p (.inr rfl) m t hd (λc f kp e=>fin a d g c f kp e) (by simp[bF]<;>lia)
def tyV(K:aM)(T:String)(x:V)(H:Hp):Prop:=match x with
 |.str _=>T = "str"
 |.int _=>T = "int"
 |.ref p=>(T = "list"/\∃xs,SqL K H p xs)\/(T = "tuple"/\∃o,K.lookup p=aa o/\o.cls=.type "tuple"/\o.dict=ac) ∨
    (T = "dict"/\((∃a,H p=aa (.dK a))\/∃a,H p=aa (.dT a)))\/(T = "set"/\∃S n,H p=aa (.set S n))
 |_=>False
def tyV_is(I:Inv X aE σ H s)(r:RelV x v)(ty:tyV X.K T x H):s.TypeIs v T/\∀a,v=.ref a->∃ob,s.heap.get? a=aa ob/\ob.dict=ac:=by
 cases x with
 |str z=>obtain⟨t,rfl⟩:=r;cases(ty);exact⟨typeIs_str s z t,λ_ e=>nomatch e⟩
 |int i=>obtain⟨t,rfl⟩:=r;cases(ty);exact⟨typeIs_int s i t,λ_ e=>nomatch e⟩
 |ref p=>
   cases r;rcases ty with⟨rfl,xs,j⟩|⟨rfl,o,b,k,hd⟩|⟨rfl,b⟩|⟨rfl,S,n,b⟩
   . obtain⟨h,_,g,_⟩:=I.list j;refine⟨g.isList.typeIs,λa e=>?_⟩;cases e;obtain⟨o,n,e,c,hd,_⟩:=g;exact⟨o,e,hd⟩
   . refine⟨⟨o,I.kIn p o b,k⟩,λa e=>?_⟩;cases e;exact⟨o,I.kIn _ o b,hd⟩
   . have z:∃o,s.heap.get? p=aa o/\o.ExactDict:=by
      rcases b with⟨d,b⟩|⟨d,b⟩
      . obtain⟨_,_,_,_,o,_,_,e,ex,_⟩:=I.hok p _ b;exact⟨o,e,ex⟩
      . obtain⟨_,_,_,_,o,_,_,e,ex,_⟩:=I.hok p _ b;exact⟨o,e,ex⟩
     obtain⟨o,e,ex⟩:=z;refine⟨⟨o,e,ex.1⟩,λa f=>?_⟩;cases f;exact⟨o,e,ex.2.1⟩
   . obtain⟨o,_,_,_,e,ex,_⟩:=I.hok p _ b;refine⟨⟨o,e,ex.1⟩,λa f=>?_⟩;cases f;exact⟨o,e,ex.2.1⟩
 |_=>exact False.elim ty
def tBM(K:aM)(T:String)(r:V->List V->Hp->VK->Prop)(to:TE)(t:TA):TE:=λa H Q=>to a H λx b=>tyV K T x b/\t a b λxs c=>r x xs c Q
variable{T id:String}
def UW(pa:PlainAttrs T)(slot:Slot T name id)(hty:typeOf (.builtin id)=pure (.type "method_descriptor"))(hm:MtR X id r)(ho:PE X o to)(ha:PA X (e::es) t)(Y:fB o name X.env (cA o X.env)=cA o X.env:=by rfl)(hfew:((dJ z$ aG (e::es) X.env).all (λx=>!x.1)&&(nV z$ hJ [] X.env).all (λx=>x.1.isSome)
    && decide ((e::es).length+([]:List pR).length+(if ([]:List pR).isEmpty then 0 else 1)<30))=ae:=by rfl)(U:(apos.endLine==z.line)=ae:=by rfl)(hs:aG (e::es) X.env=(ag,cA e X.env)::aG es X.env:=by rfl)(J:(dJ z$ aG es X.env).any (·.1)=ag:=by rfl):PE X (.Call (.Attribute o name apos) (e::es) [] z) (tBM X.K T r to t):=by
 intro c s b H Q I h;refine wpAny_Call_method_late Y hfew U rfl$ thn (ho c s b H _ I h) λv m i=>?_;obtain⟨x,u,g,d,ty,n⟩:=i;obtain⟨q,p⟩:=tyV_is g d ty;refine⟨T,id,pa,slot,hty,q,p,?_⟩;have f:=ha z c m b u _ g n;rw[hs]at f ⊢;refine Calls.callWith_builtin (by show(ag||(dJ z$ aG es X.env).any (·.1))=ag;rw[J]<;>rfl)$ Calls.evalArgs_plain ?_;exact thn f λk l ⟨j,H2,I2,r2,q2⟩=>hm c l b H2 x j v k Q I2 d r2 q2
/- xs.append(e),list.index on a module's tuple .. are MtR facts of 06m -/
end
def MtM(X:Cx)(id:String)(r:V->List V->Hp->VK->Prop):Prop:=
 ∀(aE:List (aF×Obj)) (s:aW) (σ:St) (H:Hp) (x:V) (xs:List V) (v:Value) (z:List Value) (Q:VK),Inv X aE σ H s->RelV x v->Vals xs z->r x xs H Q →
  bG (1:) X.A (call (.builtin id)$ v::z) (EP X aE σ Q) X.xe s
def Vals.one{x:V}{z:List Value}(h:Vals [x] z):∃u,z=[u]/\RelV x u:=by cases h with|cons r t=>cases t;exact⟨_,rfl,r⟩
theorem Vals.reverse(h:Vals xs z):Vals xs.reverse z.reverse:=by
 induction h with
 |nil=>exact .nil
 |cons r t a=>rw[aBg,aBg];exact Vals.append a$ .cons r .nil
def Inv.lset{J z:List Value}(I:Inv X aE σ H s)(hH:H l=aa (.lst xs))(e:s.heap.get? l=aa {cls:=.type "list",data:=.seq J.toArray n})(hf:f J.toArray=z.toArray)(Y:Vals ys z)(U:ys.length<=sizeLine):Inv X aE σ (upd H l$ .lst ys) {s with heap:=s.heap.update l$ Obj.mapSeq f,toks:=t'}:=by
 have q:=PySem.IsL.update e f;rw[hf]at q;refine I.write (by rw[hH];exact trivial) (.inl rfl) (λc u b a=>(bN s.heap (Obj.mapSeq f)$ Ne.symm b).trans a) ⟨_,q⟩ ?_;exact⟨U,z,_,Y,q⟩
def Inv.lnew(I:Inv X aE σ H s)(U:Vals ys z)(J:ys.length<=sizeLine):Inv X aE σ (upd H s.heap.objs.size$ .lst ys) {s with heap:=s.heap.push {cls:=.type "list",data:=.seq z.toArray},toks:=t'}:=
 I.laid (λ_ _ q=>aD _ q) (aL _) ⟨J,z,0,U,aN _ rfl⟩
theorem Inv.fresh(I:Inv X aE σ H s):H s.heap.objs.size=ac:=I.hok.fresh$ aL _
def Inv.lstM(I:Inv X aE σ H s)(U:H l=aa (.lst xs)):xs.length<=sizeLine/\∃J n,Vals xs J/\xs.length=J.length/\s.heap.get? l=aa {cls:=.type "list",data:=.seq J.toArray n}:=by obtain⟨z,J,n,r,e⟩:=I.hok l _ U;exact⟨z,J,n,r,r.length,e⟩
def aEy(h:n<=sizeLine):Builtin.List.listTooLong n=ag:=by exact decide_eq_false (by lia)
def rAppend:V->List V->Hp->VK->Prop:=λx a H Q=>∃l xs y,x=.ref l/\a=[y]/\H l=aa (.lst xs)/\xs.length<sizeLine/\Q .non (upd H l$ .lst$ xs++[y])
def HV:MtM X "list.append" rAppend:=by
 intro o s g H x i v j Q I c d h;obtain⟨l,xs,y,rfl,rfl,b,k,q⟩:=h;cases c;obtain⟨u,rfl,f⟩:=d.one;obtain⟨z,a,n,r,m,e⟩:=I.lstM b;refine call_meets F.slot_list_append ⟨_,e,rfl⟩ F.entry_list_append (F.args_list_append_2 _ _) (PySem.list_append l a.toArray n u$ by rw[bF];lia) ⟨e,?_⟩;refine⟨.non,_,I.lset b e (by simp) (r.append$ .cons f .nil) ?_,rfl,q⟩;rw[cD,rG]
 lia
def rExtend:V->List V->Hp->VK->Prop:=λx c H Q=>∃l b xs a,x=.ref l/\c=[.ref b]/\H l=aa (.lst xs)/\H b=aa (.lst a)/\xs.length+a.length<=sizeLine/\Q .non (upd H l$ .lst$ xs++a)
def ZE:MtM X "list.extend" rExtend:=by
 intro K s y H x C v D Q I i j h;obtain⟨l,b,xs,A,rfl,rfl,g,t,E,q⟩:=h;cases i;obtain⟨u,rfl,k⟩:=j.one;cases k;obtain⟨z,c,n,r,G,e⟩:=I.lstM g;obtain⟨B,a,o,m,p,w⟩:=I.lstM t;have f:c.toArray.size+a.toArray.size<=sizeLine:=by rw[bF,bF];lia
 have d:¬(!c.toArray.isEmpty&&Builtin.List.listTooLong (c.toArray.size+a.toArray.size))=ae:=by rw[aEy f,Bool.and_false];exact dX
 refine call_meets F.slot_list_extend ⟨_,e,rfl⟩ F.entry_list_extend (F.args_list_extend_2 _ _)
  (AutoSeq1.list_extend_list_list_0 l c.toArray n b a.toArray o d (by rw[bF];lia)$ by lia) ⟨e,w,?_⟩
 refine⟨.non,_,I.lset g e (by simp) (r.append m) ?_,rfl,q⟩;rw[cD]
 lia
section
variable{κ:Type}[DecidableEq κ]
noncomputable def valV(kvs:List (κ×V))(k:κ):Option V:=(kvs.find? λkv=>decide (kv.1=k)).map (·.2)
noncomputable def putK(kvs:List (κ×V))(k:κ)(v:V):List (κ×V):=
 if (kvs.any λkv=>decide (kv.1=k))=ae then kvs.map (λkv=>if kv.1=k then (kv.1,v)else kv)else kvs++[(k,v)]
def vC{k:κ}(e:p.1=k):valV (p::r) k=aa p.2:=by simp[valV,cY,e]
def BZ{k:κ}(e:¬p.1=k):valV (p::r) k=valV r k:=by simp[valV,cY,e]
theorem CA(k:κ):∀kvs,(kvs.any λz=>decide (z.1=k))=(valV kvs k).isSome
 |[]=>rfl
 |p::r=>by
   rw[kO];by_cases e:p.1=k
   . simp only[vC e,decide_eq_true e,Bool.true_or,Option.isSome_some]
   . rw[BZ e,decide_eq_false e,tJ];exact CA k r
def AK kvs(k:κ) v:(putK kvs k v).length<=kvs.length+1:=by
 unfold putK;split
 . rw[bS];lia
 . rw[cD,aK,pX];lia
def wZ{k:κ} v(h:valV kvs k=ac):putK kvs k v=kvs++[(k,v)]:=by unfold putK;rw[CA,h];exact if_neg (by decide)
def RelO.isSome_eq(r:RelO o u):o.isSome=u.isSome:=by
 cases o with
 |none=>cases u with
   |none=>rfl
   |some _=>exact(r).elim
 |some _=>cases u with
   |none=>exact(r).elim
   |some _=>rfl
theorem RelO.getD(r:RelO o u)(rd:RelV d d'):RelV (o.getD d) (u.getD d'):=by
 cases o with
 |none=>cases u with
   |none=>exact rd
   |some _=>exact(r).elim
 |some _=>cases u with
   |none=>exact(r).elim
   |some _=>exact r
def KV.val(r:KV kvs vs)(k:κ):RelO (valV kvs k) (LA vs k):=by
 induction r with
 |nil=>exact True.intro
 |@cons p q i a h t f=>
   obtain⟨d,g⟩:=h;by_cases e:p.1=k
   . have c:q.1=k:=d.symm.trans e;have b:LA (q::a) k=aa q.2:=by simp [LA,cY,c]
     rw[vC e,b];exact g
   . have c:¬ q.1=k:=λz=>e (d.trans z);have b:LA (q::a) k=LA a k:=by simp [LA,cY,c]
     rw[BZ e,b];exact f
theorem KV.any(r:KV kvs vs)(k:κ):(kvs.any λz=>decide (z.1=k))=vs.any λz=>decide (z.1=k):=by
 induction r with
 |nil=>rfl
 |cons h t a=>rw[kO,kO,a,h.1]
def KV.repl(r:KV kvs vs)(k:κ)(U:RelV y u):KV (kvs.map λJ=>if J.1=k then (J.1,y)else J) (vs.map λJ=>if J.1=k then (J.1,u)else J):=by
 induction r with
 |nil=>exact .nil
 |@cons p q f d h t b=>
   rw[aQ,aQ];refine .cons ?_ b;obtain⟨a,c⟩:=h;by_cases e:p.1=k
   . rw[if_pos e,if_pos$ a.symm.trans e];exact⟨a,U⟩
   . rw[if_neg e,if_neg λz=>e$ a.trans z];exact⟨a,c⟩
def KV.put(r:KV kvs vs)(k:κ)(z:RelV y u):KV (putK kvs k y) (stored vs k u):=by
 unfold putK stored;rw[r.any k];by_cases e:(vs.any λa=>decide (a.1=k))=ae
 . rw[if_pos e,if_pos e];exact r.repl k z
 . rw[if_neg e,if_neg e];exact GK.snoc r ⟨rfl,z⟩
theorem KV.length{kvs:List (κ×V)}(r:KV kvs vs):kvs.length=vs.length:=GK.length r
end
def VL(r:RelV (kV k) u):(gF P w).is k u=ae:=by
 rcases k with(_|i)|x
 . cases(r);rfl
 . obtain⟨t,rfl⟩:=(r);simp[gF,keyIs,Value.isInt]
 . obtain⟨t,rfl⟩:=(r);simp[gF,keyIs,Value.isStrOf]
theorem ID:∀{ks:List Key}{z:List Value},Vals (ks.map kV) z->ItemsAre (gF P w) ks z
 |[],_,r=>by rw[dO]at r;cases r;exact .nil
 |k::ks,_,r=>by
   rw[aQ]at r;cases r with
   |cons h t=>exact .cons (VL h)$ ID t
abbrev KT(H:Hp):List (List Key×V)->List (List Key×aF×Value)->Prop:=GK λp q=>p.1=q.1/\H q.2.1=aa (.tup$ p.1.map kV)/\RelV p.2 q.2.2
def KT.val(r:KT H kvs xs) k:RelO (valV kvs k) ((WT xs k).map (·.2)):=by
 induction r with
 |nil=>exact True.intro
 |@cons p q i a h t f=>
   obtain⟨d,_,g⟩:=h;by_cases e:p.1=k
   . have c:q.1=k:=d.symm.trans e;have b:WT (q::a) k=aa q.2:=by simp [WT,cY,c]
     rw[vC e,b];exact g
   . have c:¬ q.1=k:=λz=>e (d.trans z);have b:WT (q::a) k=WT a k:=by simp [WT,cY,c]
     rw[BZ e,b];exact f
def KT.repl(r:KT H kvs xs) k(U:RelV y u):KT H (kvs.map λJ=>if J.1=k then (J.1,y)else J) (xs.map$ putAt k u):=by
 induction r with
 |nil=>exact .nil
 |@cons p q g f h t c=>
   rw[aQ,aQ];refine .cons ?_ c;obtain⟨a,b,d⟩:=h;unfold putAt;by_cases e:p.1=k
   . rw[if_pos e,if_pos$ a.symm.trans e];exact⟨a,b,U⟩
   . rw[if_neg e,if_neg λz=>e$ a.trans z];exact⟨a,b,d⟩
def KT.put(r:KT H kvs xs) k(J:H b=aa (.tup$ k.map kV))(z:RelV y u):KT H (putK kvs k y) (storedH xs k b u):=by
 have e:(kvs.any λa=>decide (a.1=k))=(WT xs k).isSome:=by rw[CA,(r.val k).isSome_eq,SY]
 unfold putK storedH;rw[e];by_cases q:(WT xs k).isSome=ae
 . rw[if_pos q,if_pos q];exact r.repl k z
 . rw[if_neg q,if_neg q];exact GK.snoc r ⟨rfl,J,z⟩
def KT.keeps(r:KT H kvs xs)(J:∀b ys,H b=aa (.tup ys)->H' b=aa (.tup ys)):KT H' kvs xs:=
 GK.mapP r λ_ _ z=>⟨z.1,J _ _ z.2.1,z.2.2⟩
def rd_of(ok:HOk P w H h)(e:Rd H a u):ObjOk P w H h a u:=e.ok ok
def EB(ok:HOk P w H h)(e:Rd H a (.dK kvs)):kvs.length<=sizeLine/\(a==lL)=ag/\∃vs,KV kvs vs/\h.DictOf (gF P w) a vs:=
 show ObjOk P w H h a (.dK kvs) from rd_of ok e
def dk_of(ok:HOk P w H h)(e:H a=aa (.dK kvs)):kvs.length<=sizeLine/\(a==lL)=ag/\∃vs,KV kvs vs/\h.DictOf (gF P w) a vs:=EB ok$ .inl e
def JU(ok:HOk P w H h)(e:H a=aa (.tup$ ks.map kV)):(GC$ gF P w).is h ks a:=by
 obtain⟨_,b,r,o,f,d,n,c⟩:=(ok a _ e)
 exact⟨o,b.toArray,n,f,d,c,by simpa using ID r⟩
def WE(ok:HOk P w H h)(e:Rd H a (.dT kvs)):kvs.length<=sizeLine/\(a==lL)=ag ∧
  ∃xs,KT H kvs xs/\h.DictOfH (GC$ gF P w) a xs:=by
 obtain⟨z,y,xs,r,o,n,s,k,j,i,g,f⟩:=(rd_of ok e)
 refine⟨z,y,xs,r,o,n,s,k,j,i,g,λx b=>?_,f⟩;have all:∀{l:List (List Key×V)}{m:List (List Key×aF×Value)},KT H l m->∀x∈m,(GC$ gF P w).is h x.1 x.2.1:=by
  intro l m q;induction q with
  |nil=>intro x b;exact nomatch b
  |@cons p q v u c t d=>
    intro x b;rcases aA.mp b with e|b
    . subst e;exact JU ok (by rw[<-c.1];exact c.2.1)
    . exact d x b
 exact all r x b
def dt_of(ok:HOk P w H h)(e:H a=aa (.dT kvs)):kvs.length<=sizeLine/\(a==lL)=ag ∧
  ∃xs,KT H kvs xs/\h.DictOfH (GC$ gF P w) a xs:=WE ok$ .inl e
def DGet(H:Hp)(a:aF)(y:V)(r:Option V):Prop:=
 (∃c k,Rd H a (.dK c)/\y=kV k/\r=valV c k)\/∃c k b,Rd H a (.dT c)/\y=.ref b/\H b=aa (.tup$ k.map kV)/\r=valV c k
def DPut(H:Hp)(a:aF)(y v:V)(H':Hp):Prop:=
 (∃c k,H a=aa (.dK c)/\y=kV k/\c.length<sizeLine/\H'=upd H a (.dK$ putK c k v)) ∨
 ∃c k b,H a=aa (.dT c)/\y=.ref b/\H b=aa (.tup$ k.map kV)/\c.length<sizeLine/\H'=upd H a (.dT$ putK c k v)
theorem DGet.k{k:Key}(e:H a=aa (.dK kvs)):DGet H a (kV k) (valV kvs k):=.inl ⟨kvs,k,.inl e,rfl,rfl⟩
def DGet.t{k:List Key}(e:H a=aa (.dT kvs))(z:H b=aa (.tup$ k.map kV)):DGet H a (.ref b) (valV kvs k):=.inr ⟨kvs,k,b,.inl e,rfl,z,rfl⟩
theorem DPut.k{k:Key}(e:H a=aa (.dK kvs))(z:kvs.length<sizeLine):DPut H a (kV k) v (upd H a$ .dK$ putK kvs k v):=.inl ⟨kvs,k,e,rfl,z,rfl⟩
def DPut.t{k:List Key}(e:H a=aa (.dT kvs))(J:H b=aa (.tup$ k.map kV))(z:kvs.length<sizeLine):DPut H a (.ref b) v (upd H a$ .dT$ putK kvs k v):=.inr ⟨kvs,k,b,e,rfl,J,z,rfl⟩
def Inv.big(I:Inv X aE σ H s):lL<s.heap.objs.size:=by have h:=(I.mod.glob.keeps I.bk).lt;exact uZ (by decide) h
def aAl(Y:A.units+1<cLine)(I:Inv X aE σ H s)(g:DGet H a y (aa v))(U:RelV y u)(h:∀J s',Inv X aE σ H s'->RelV v J->Q J s'):bG (1:) A (LC (.ref a) u) Q E s:=by
 rcases g with⟨f,k,e,m,l⟩|⟨f,k,b,e,m,q,l⟩
 . subst m;obtain⟨z,hd,r,d,n⟩:=EB I.hok e;obtain⟨J,i,c⟩:=RelO.some_of (by rw[l];exact d.val k);exact wpAny_getItem_of (VL U) n.mapOf i$ h J _ (I.tok _) c
 . subst m;cases(U);obtain⟨z,hd,xs,d,n⟩:=WE I.hok e;obtain⟨J,i,c⟩:=RelO.some_of (by rw[l];exact d.val k);obtain⟨p,o,j⟩:=IY.mp i;refine wpAny_getItem_heap (BA Y) (JU I.hok q) n o ?_;rw[j];exact h J _ (I.tok _) c
def d_notIn(U:A.units+1<cLine)(I:Inv X aE σ H s)(g:DGet H a y o)(J:RelV y u)(h:∀s',Inv X aE σ H s'->Q (.bool$ !o.isSome) s'):bG (1:) A (eP .NotIn u$ .ref a) Q E s:=by
 rcases g with⟨d,k,e,f,l⟩|⟨d,k,b,e,f,j,l⟩
 . subst f;obtain⟨z,hd,m,c,i⟩:=EB I.hok e;refine wpAny_notIn_of (VL J) hd i.mapOf ?_;rw[<-(c.val k).isSome_eq,<-l];exact h _$ I.tok _
 . subst f;cases(J);obtain⟨z,hd,xs,c,i⟩:=WE I.hok e;refine wpAny_notIn_heap (BA U) (JU I.hok j) hd i ?_;have q:=(c.val k).isSome_eq;rw[SY]at q;rw[<-q,<-l];exact h _$ I.tok _
def KC(I:Inv X aE σ H s)(J:Mut (H a))(U:Heap.SameBut a s.heap h')(Y:∃q,h'.get? a=aa q)(new:ObjOk X.prog X.w (upd H a ob) h' a ob):Inv X aE σ (upd H a ob) {s with heap:=h',toks:=t'}:=
 I.write J (.inl rfl) (λb q c z=>(U.2 b c).trans z) Y new
def dk_new(z:kvs.length<=sizeLine)(hd:(a==lL)=ag)(J:KV kvs vs)(dd:h'.DictOf (gF P w) a vs):ObjOk P w H' h' a (.dK kvs):=⟨z,hd,vs,J,dd⟩
def aAk(Y:A.units+1<cLine)(I:Inv X aE σ H s)(g:DPut H a y v H')(J:RelV y u)(U:RelV v r)(h:∀s',Inv X aE σ H' s'->Q () s'):bG (1:) A (setItem (.ref a) u r) Q E s:=by
 rcases g with⟨f,k,e,o,l,eH⟩|⟨f,k,b,e,o,x,l,eH⟩
 . subst o eH;obtain ⟨z,hd,B,d,p⟩:=dk_of I.hok e;have C:B.length<=sizeLine:=by rw [<-d.length];exact z
   have n:(putK f k v).length<=sizeLine:=by have:=AK f k v;lia
   refine wpAny_setItem_pairs (VL J) p λt i m=>h _ ?_;have D:∃q,t.get? a=aa q:=let ⟨q,_,_,j,_⟩:=i;⟨q,j⟩;exact KC I (by rw[e];exact True.intro) m D$ dk_new n hd (d.put k U) i
 . subst o eH;cases (J);obtain ⟨z,hd,xs,d,p⟩:=dt_of I.hok e;have C:xs.length<=sizeLine:=by rw [<-GK.length d];exact z
   have n:(putK f k v).length<=sizeLine:=by have:=AK f k v;lia
   refine wpAny_setItem_heap (BA Y) (JU I.hok x) p λt i m=>h _ ?_;obtain⟨q,M,N,j,L,K,G,_,F⟩:=i;refine KC I (by rw[e];exact True.intro) m ⟨q,j⟩ ⟨n,hd,_,(d.put k x U).keeps λc ys w=>?_,q,M,N,j,L,K,G,F⟩;rw[upd_ne$ ne_of w e λz=>nomatch z];exact w
def NoSl(i:Expr):Prop:=∀a b,IV i ag a b=operate [a,b] (LC a b)
def subD_of{T id:String}(Y:typeLookup (.type T) "__getitem__"=pure (aa$ .builtin id))(U:NoSl z)(h:bG (4:) A (cA value env) (λo J=>bG (4:) A (cA z env) (λi s₂=>s₂.TypeIs o T/\bG (4:) A (LC o i) Q E s₂) E J) E s):bG (4:) A (cA (.Subscript value z pos) env) Q E s:=by
 refine Subscript_$ dD h (λo J d=>dD d (λi s₂ a=>?_) λ_ _ x=>x) λ_ _ x=>x;obtain⟨e,a⟩:=a;refine aC ?_;refine aC$ sX e Y ?_;have fin:bG (4:) A (IV z ag o i) (λr b=>bG (4:) A (letTemporaryGo value o r >>= λ_=>pure r) Q E b) E s₂:=by rw[U o i];exact wpAny_operating$ dD a (λr b c=>aC$ wpAny_letTemporaryGo$ aO c) λ_ _ x=>x
 first
  |exact aO (aC fin)
  |exact aC (aO$ aC fin)
  |exact aC fin
def OA(I:Inv X aE σ H s)(g:DGet H a y o):s.TypeIs (.ref a) "dict":=by
 rcases g with⟨c,k,e,_,_⟩|⟨c,k,b,e,_,_,_⟩
 . obtain⟨_,_,f,_,d⟩:=EB I.hok e;exact d.typeIs
 . obtain⟨_,_,xs,_,d⟩:=WE I.hok e;exact d.typeIs
def tDGet(z ty:TE):TE:=λb H Q=>z b H λx d=>ty b d λy c=>∃a v,x=.ref a/\DGet c a y (aa v)/\Q v c
def tDNotIn(ty z:TE):TE:=λb H Q=>ty b H λy d=>z b d λx c=>∃a o,x=.ref a/\DGet c a y o/\Q (.bl$ !o.isSome) c
def sDPut(z ty tv:TE):TS:=λD b H=>tv b H λv f=>z b f λx e=>ty b e λy d=>∃a c,x=.ref a/\DPut d a y v c/\D.nx b c
def pe_dget(Y:X.A.units+1<cLine)(ho:PE X o z)(hi:PE X i ty)(hs:NoSl i):PE X (.Subscript o i pos) (tDGet z ty):=by intro d s c H Q I h;refine subD_of PySem.F.slot_dict_getitem.lookup hs$ thn (ho d s c H _ I h) λu j ⟨x,H1,I1,J,U⟩=>thn (hi d j c H1 _ I1 U) λt r f=>?_;obtain⟨y,n,e,k,a,v,ex,g,l⟩:=f;subst ex;obtain rfl:u=Value.ref a:=J;exact⟨OA e g,aAl Y e g k λp q m b=>⟨v,n,m,b,l⟩⟩
def YN(Y:X.A.units+1<cLine)(hi:PE X i ty)(ho:PE X o z):PC X .NotIn i o (tDNotIn ty z):=by intro c s b H Q I h;refine thn (hi c s b H _ I h) λr e ⟨y,H1,I1,J,U⟩=>thn (ho c e b H1 _ I1 U) λu q d=>?_;obtain⟨x,n,m,f,a,k,ex,g,j⟩:=d;subst ex;obtain rfl:u=Value.ref a:=f;exact d_notIn Y m g J λp l=>⟨.bl$ !k.isSome,n,l,rfl,j⟩
def UR(hu:X.A.units+1<cLine)(ho:PE X o z)(hi:PE X i ty)(hv:PE X value tv)(hs:eF value (aa$ .Subscript o i pos') pos.line X.env=pure ag):PS X (.Assign [.Subscript o i pos'] value pos) (sDPut z ty tv):=by
 intro c s b H D I h;refine wpAny_Assign_Subscript (thn (hv c s b H _ I h) λr f ⟨v,H1,I1,U,q1⟩=>thn (ho c f b H1 _ I1 q1) λu e ⟨x,H2,I2,J,Y⟩=>thn (hi c e b H2 _ I2 Y) λt q d=>?_) hs;obtain⟨y,w,m,j,a,n,ex,g,k⟩:=d;subst ex;obtain rfl:u=Value.ref a:=J;exact aAk hu m g j U λp l=>⟨b,n,l,k⟩
def aHh(h:Heap)(z:lL<h.objs.size):ObjOk P w H (h.push {cls:=.type "dict",data:=.dict #[]}) h.objs.size (.dK []):=
 ⟨cI _,beq_eq_false_iff_ne.mpr$ Ne.symm$ bJ z,[],.nil,Heap.DictOf.new h⟩
def tDNewK:TE:=λ_ H Q=>∀p,H p=ac->Q (.ref p) (upd H p$ .dK [])
def aEl:PE X (.Dict [] [] pos) tDNewK:=λb s a H Q I h=>wpAny_Dict_empty ⟨.ref s.heap.objs.size,_,I.laid (λ_ _ q=>aD _ q) (aL _)$ aHh s.heap I.big,rfl,h _$ I.hok.fresh$ aL _⟩
end L2
namespace Att
open PySem PySem.W PySem.Calls PyProof.Rows
def AU:∀ns vs,WellAll P h vs (ns.map WData.int)->eR vs ns:=by
 intro ns;induction ns with
 |nil=>intro vs w;cases w;exact .nil
 |cons n ns c=>
   intro vs w;cases w with
   |cons a b=>cases a;exact .cons _ _$ c _ b
def XW{l:OpenLaw}(Y:l.most=aa n)(z:l.row.toRowW.claim.pre args=ae)(U:WellAll P h J args):∃a vs ns,J=[Value.ref a]/\args=[WData.list$ ns.map WData.int]/\h.get? a=aa {cls:=.type "list",data:=.seq vs.toArray}/\eR vs ns/\ns.length<=n:=by
 have f:=(pre_splitW z).1;have m:l.pre.holds [] {args:=args}=ae:=(pre_splitW z).2;obtain⟨d,r,rfl,s,p⟩:=hasAllW_cons f;obtain rfl:=hasAllW_nil p;obtain⟨xs,rfl,o⟩:=hasW_list s;obtain⟨ns,rfl⟩:=items_int o;have b:ns.length<=n:=by
  have e:(WTm.not$ .lt (.lit$ .int (n:Int))$ .len$ .arg 0).holds [] {args:=[.list$ ns.map .int]}=ae:=by have e:=(holds_andW m).1;rw[Y]at e;exact e
  have g:=condW_of e$ w_not$ w_lt w_lit$ w_len_list$ w_arg rfl;refine Nat.le_of_not_lt λq=>?_
  first
   |(rw[decide_eq_true q']at g;exact absurd g$ by decide)
   |(simp at g;lia)
 cases U with
 |cons j i=>
   cases i;cases j with
   |list k c=>exact⟨_,_,ns,rfl,rfl,k,AU ns _ c,b⟩
def YK(l:OpenLaw) args:l.row.toRowW.claim.post args (.bool ae) args=ae:=
 postW_of (r:=l.row.toRowW) (X:=(ae==ae))
  (show WShape.has [] (.bool ae) .bool=ae by first|rfl|decide|simp[WShape.has,WShape.arms,WShape.armsAll])
  (show(WTm.eq .res$ .lit$ .bool ae).value [] {args:=args,res:=aa$ .bool ae,after:=args}=aa (.bool$ ae==ae) from w_eq_bool (w_res rfl) w_lit) rfl
end Att
namespace L2
open PySem PySem.Spec PyProof.Rows
def GQ{vs:List Value}{ns:List Int}(h:eR vs ns):Vals (ns.map V.int) vs:=h.rec .nil λ_ t _ _ _=>.cons ⟨t,rfl⟩
noncomputable def dG(s:Stmt)(j:Nat):Stmt:=match s with
 |.ClassDef _ _ _ body _ _ _ _ _ _ _=>body.getD j$ .Pass ⟨0,0,0,0⟩
 |_=>.Pass ⟨0,0,0,0⟩
noncomputable def yD(s:Stmt):Arguments:=match s with
 |.FunctionDef _ a _ _ _ _ _ _ _ _=>a
 |_=>{posonlyargs:=[],args:=[],vararg:=ac,kwonlyargs:=[],kw_defaults:=[],kwarg:=ac,defaults:=[]}
noncomputable def qJ(s:Stmt):List Stmt:=match s with
 |.FunctionDef _ _ b _ _ _ _ _ _ _=>b
 |_=>[]
noncomputable def zJ(s:Stmt):Scope:=match s with
 |.FunctionDef _ _ _ _ _ _ sc _ _ _=>sc
 |_=>{kind:=.function,names:=[],isGenerator:=ag,isCoroutine:=ag}
abbrev CX0:CXT:=λ_ _ _ _ _ _=>False
abbrev E0:XK:=λ_ _ _=>False
def pass0:ER CX0 X E0:=λ_ _ _ _ _ _ _ h=>h.elim
structure Fun(K:aM)(x qual:Str)(st:Stmt)(f:aF)(fd:bR):Prop where
 ex:∃(oc:Value) (od:Option aF) (kV doc pm:Value) (an:Option aF) (cdv ct:Value) (osl:Array (Option Value)),
  fd=dL x qual (yD st) (qJ st) (zJ st) .none kV doc pm an cdv ct/\K.lookup f=some ⟨oc,od,.func fd,osl⟩/\fN K cdv qual=true
 kp:cC K (.ref f)=true
section
variable{K:aM}
def Fun.ok{st:Stmt}(F:Fun K x qual st f fd)(S:FnScope N ps (zJ st))(len:∀vs H Q E,sp vs H Q E->vs.length=ps.length)(J:∀z A outer s H vs Q E,Room k (A.deeper$ iM qual (zJ st) s.heap.objs.size f z)->sp vs H Q E →
    ∃t,PSs (cxOf CX0 P w K mg base N qual (zJ st) f z A outer s H E).nox (qJ st) t/\t {nx:=λ_ H'=>Q .non H',rt:=Q} (start N vs) H):FnOk P w K mg base CX0 (k+1) f fd ps sp:=by
 obtain⟨g,e,kV,doc,pm,i,z,ct,c,rfl,lk,b⟩:=F.ex;refine aGs lk b S len λA outer s H vs Q E d a=>?_;obtain⟨t,h,q⟩:=J z A outer s H vs Q E d a;exact⟨t,h.nox,q⟩
def Fun.binds{st:Stmt}(F:Fun K x qual st f fd)(h:∀kV doc pm U z ct J,J.length=ps.length->rQ (dL x qual (yD st) (qJ st) (zJ st) .none kV doc pm U z ct) ⟨J,[]⟩=pure (ps.zip J)):Binds K fd ps []:=by obtain⟨d,c,kV,doc,pm,U,z,ct,a,rfl,lk,b⟩:=F.ex;exact .all$ h kV doc pm U z ct
def DQ{st:Stmt}{kV doc pm z ct:Value}(l:K.lookup f=aa ⟨Y,od,.func$ dL x qual (yD st) (qJ st) (zJ st) .none kV doc pm U z ct,J⟩)(c:fN K z qual=ae)(k:cC K (.ref f)=ae):Fun K x qual st f (dL x qual (yD st) (qJ st) (zJ st) .none kV doc pm U z ct):=⟨⟨Y,od,kV,doc,pm,U,z,ct,J,rfl,l,c⟩,k⟩
end
def iteF{A B:Prop}(h:B):if ag=ae then A else B:=by exact h
def iteT{A B:Prop}(h:A):if ae=ae then A else B:=by exact h
def Same(H H':Hp):Prop:=∀b o,H b=aa o->H' b=aa o
def Same.refl H:Same H H:=λ_ _ h=>h
def Same.trans(a:Same H H1)(b:Same H1 H2):Same H H2:=λc o h=>b c o$ a c o h
def Same.free(e:Same H H')(h:H' l=Option.none):H l=Option.none:=by
 cases q:H l with
 |none=>rfl
 |some o=>rw[e l o q]at h;cases h
def Same.seq{K:aM}(e:Same H H')(h:SqL K H a xs):SqL K H' a xs:=by
 rcases h with(h|⟨o,h⟩)|h
 . exact .inl$ .inl$ e _ _ h
 . exact .inl$ .inr ⟨o,e _ _ h⟩
 . exact .inr h
noncomputable def jB(env:Env):List (Str×iZ)->List (Str×aF)->List (Str×aF)
 |[],cs=>cs
 |(n,k)::r,cs=>jB env r$ if k==iZ.free then (match env.cells.lookup n with|some c=>(n,c)::cs|none=>cs)else cs
def xG(h:∀y∈scope.names,y.2=iZ.free->∃c,env.cells.lookup y.1=aa c):closureFor scope env=pure (jB env scope.names []):=by
 simp only[closureFor];generalize ([]:List (Str×aF))=f;revert h f;generalize scope.names=l;intro h;induction l with
 |nil=>intro f;rfl
 |cons y r g=>
   intro f;obtain⟨n,k⟩:=y;have a:=g λz i=>h z$ aJ _ i;simp only[List.forIn_cons,jB];by_cases e:k=iZ.free
   . obtain ⟨c,j⟩:=h (n,k) aP e;have d:=j;have b:cellOf env n=pure c:=by unfold cellOf;rw [d]
     subst e;simp[b,d,beq_self_eq_true,if_true,pure_bind,bind_pure_comp,map_pure,bind_assoc]
     first
      |exact a _
      |simpa using a _
   . have m:(k == iZ.free)=ag:=by simpa using e
     simp[m,bV,if_false,pure_bind]
     first
      |exact a _
      |simpa using a _
theorem EJ:∀l cs,(∀x c,cs.lookup x=aa c->env.cells.lookup x=aa c)->∀x c,(jB env l cs).lookup x=aa c->env.cells.lookup x=aa c
 |[],_,h=>h
 |(n,k)::r,cs,h=>by
   unfold jB;refine EJ r _ λx c e=>?_;split at e
   . cases z:env.cells.lookup n with
     |none=>rw[z]at e;exact h x c e
     |some d=>
       rw[z]at e;simp only[cJ]at e;by_cases a:x==n
       . rw[a]at e;cases e;rw[beq_iff_eq]at a;rw[a];exact z
       . have b:(x == n)=ag:=by simpa using a
         rw[b]at e;exact h x c e
   . exact h x c e
theorem EI:∀l cs x,(∃c,cs.lookup x=aa c)->∃c,(jB env l cs).lookup x=aa c
 |[],_,_,h=>h
 |(n,k)::r,cs,x,h=>by
   unfold jB;refine EI r _ x ?_;split
   . cases z:env.cells.lookup n with
     |none=>exact h
     |some d=>
       simp only[cJ];by_cases b:x==n
       . rw[b];exact⟨_,rfl⟩
       . have a:(x == n)=ag:=by simpa using b
         rw[a];exact h
   . exact h
theorem vX:∀l cs x c,(x,iZ.free)∈l->env.cells.lookup x=aa c->∃c,(jB env l cs).lookup x=aa c
 |[],_,_,_,h,_=>nomatch h
 |(n,k)::r,cs,x,c,h,z=>by
   unfold jB;rcases aA.mp h with e|e
   . cases e;refine EI r _ _ ?_;simp only[beq_self_eq_true,if_true,z,cJ];exact⟨_,rfl⟩
   . exact vX r _ x c e z
theorem mW{env:Env}:∀{names:List (Str×iZ)}{x:Str},names.lookup x=aa iZ.free →
  (names.map λ(n,k)=>if (k==iZ.free&&env.scope.kind==.function&&env.kindOf n==aa .cell)then (n,iZ.cell)else (n,k)).lookup x=aa iZ.cell ∨
  (names.map λ(n,k)=>if (k==iZ.free&&env.scope.kind==.function&&env.kindOf n==aa .cell)then (n,iZ.cell)else (n,k)).lookup x=aa iZ.free
 |[],_,h=>by simp at h
 |(n,k)::r,x,h=>by
   have b:=@mW env r x;simp only[aQ];cases z:x==n with
   |true=>
     simp only[cJ,z]at h;cases h
     by_cases a:(iZ.free==iZ.free&&env.scope.kind==.function&&env.kindOf n==aa .cell)=ae
     . rw[if_pos a];left;simp only[cJ,z]
     . rw[if_neg a];right;simp only[cJ,z]
   |false=>
     simp only[cJ,z]at h;by_cases a:(k==iZ.free&&env.scope.kind==.function&&env.kindOf n==aa .cell)=ae
     . rw[if_pos a];simp only[cJ,z];exact b h
     . rw[if_neg a];simp only[cJ,z];exact b h
theorem wK{env:Env}:∀{names:List (Str×iZ)}{x:Str}{k':iZ},(∀y∈names,y.2≠iZ.cell) →
  (names.map λ(n,k)=>if (k==iZ.free&&env.scope.kind==.function&&env.kindOf n==aa .cell)then (n,iZ.cell)else (n,k)).lookup x=aa k'->(k'=iZ.cell\/k'=iZ.free)->(x,iZ.free)∈names
 |[],_,_,_,h,_=>by simp at h
 |(n,k)::r,x,k',J,h,a=>by
   have c:=@wK env r x k' λy d=>J y$ aJ _ d;simp only[aQ]at h;cases z:x==n with
   |true=>
     have ex:x=n:=by simpa using z
     by_cases b:(k==iZ.free&&env.scope.kind==.function&&env.kindOf n==aa .cell)=ae
     . have:k=iZ.free:=by
        simp only[bY,beq_iff_eq]at b;exact b.1.1
       subst this;subst ex;exact aP
     . rw [if_neg b]at h;simp only [cJ,z]at h;cases h;rcases a with a|a
       . exact absurd a$ J (n,k) aP
       . subst a;subst ex;exact aP
   |false=>
     by_cases b:(k==iZ.free&&env.scope.kind==.function&&env.kindOf n==aa .cell)=ae
     . rw[if_pos b]at h;simp only[cJ,z]at h;exact aJ _$ c h a
     . rw[if_neg b]at h;simp only[cJ,z]at h;exact aJ _$ c h a
section
variable{X:Cx}
structure CI where
 C:aF
 s:aW
 H:Hp
 ex:List aF
noncomputable def qZ(X:Cx)(scope:Scope)(NY:List Str)(c:CI):Cx where
 prog:=X.prog
 w:=X.w
 K:=X.K
 mg:=X.mg
 base:=X.base
 A:=X.A
 N:=NY
 s₀:=c.s
 H₀:=c.H
 env:=compEnvC scope (5:) c.C X.env
 outer:=X.stack
 stack:=X.stack
 ex:=c.ex
 fn:=λ_=>ag
 calm:=X.calm
 pn:=[]
 xe:=λ_ _=>False
def Inv.adopt(I:Inv X aE σ H s)(Y:H a=ac)(J:X.s₀.heap.objs.size<=a)(hL:a≠X.env.locals)(hc:∀x c,X.env.cells.lookup x=aa c->c≠a)(U:∀p∈X.pn++aE,p.1≠a)(new:ObjOk X.prog X.w (upd H a o) s.heap a o):Inv X aE σ (upd H a o) s:=by
 have ne:∀{b:aF}{u:HO},H b=aa u->b≠a:=λe z=>by rw[z,Y]at e;cases e
 refine⟨I.ok,I.os,I.bare,⟨I.base.keep,I.base.slot,λb ob q n h=>?_,I.base.there,λb xs q=>?_,λb ob u q=>?_,λb g q=>?_⟩,I.loc,I.cell,?_,λx c e=>?_,λp d=>?_,λb u e=>?_,I.len⟩
 . rw[upd_ne$ bJ$ bM (bA q) J];exact I.base.free b ob q n h
 . have:=I.base.tups b xs q;rw[upd_ne$ ne this];exact this
 . have:=I.base.frzs b ob u q;rw[upd_ne$ ne this];exact this
 . have:=I.base.tbls b g q;rw[upd_ne$ ne this];exact this
 . rw[upd_ne$ Ne.symm hL];exact I.free
 . have:=I.freeC x c e;unfold FreeC at this ⊢;rw[upd_ne$ hc x c e];exact this
 . obtain⟨k,j,i⟩:=I.pin p d;exact⟨k,by rw[upd_ne$ U p d];exact j,i⟩
 . by_cases f:b=a
   . subst f;rw[bP]at e;cases e;exact new
   . rw[upd_ne f]at e;exact(I.hok b u e).stay (λc v _ q=>q) (λc q=>by rw[upd_ne$ ne q];exact q) λc xs q=>by rw[upd_ne$ ne q];exact q
def PF(X:Cx)(ifs:List Expr)(t:TT):Prop:=
 ∀(aE:List (aF×Obj)) (s:aW) (σ:St) (H:Hp) (Q:Bool->Hp->Prop),Inv X aE σ H s->t σ H Q →
  bG (1:) X.A (forIn ifs ae λc r=>if r=ae then do let ok <- GF c X.env (cA c X.env);pure (ForInStep.yield ok) else pure (ForInStep.yield r)) (TP X aE σ Q) X.xe s
def tNoIf:TT:=λ_ H Q=>Q ae H
def pf_nil:PF X [] tNoIf:=λ_ _ _ H _ I h=>wpAny_tests_nil ⟨H,I,h⟩
def pf_one(h:PT X c t):PF X [c] t:=λb s a H Q I q=>wpAny_tests_one$ h b s a H Q I q
noncomputable def mC(mp:List (Option Nat))(σ:St):St:=mp.map λo=>o.bind λj=>σ[j]?.join
def aCs(J:It)(mp:List (Option Nat))(g:CI->TG)(tt:CI->TT)(te:CI->TE)(σ:St)(H1:Hp)(R:List V->Hp->Prop):Prop:=
 ∀c:CI,∃W:Nat->Nat->List V->Hp->Prop,(∃m,W 0 m [] H1)/\∀i m ys H,W i m ys H →
  (J.stop i H/\R ys H) ∨
  (J.go i H/\ys.length<sizeLine/\∀x f,J.yld i H x f->g c x (mC mp σ) f λa j=>tt c a j λb e=>if b=ae then te c a e λy h=>∃d,d<m/\W (i+1) d (ys++[y]) h else ∃d,d<m/\W (i+1) d ys e)
def tComp(z:TI)(mp:List (Option Nat))(g:CI->TG)(tt:CI->TT)(te:CI->TE):TE:=λa H Q=>z a H λJ c =>
 aCs J mp g tt te a c λys b=>ys.length<=sizeLine/\∀p,b p=ac->Q (.ref p) (upd b p$ .lst ys)
structure CompScope(X:Cx)(scope:Scope)(NY:List Str)(mp:List (Option Nat)):Prop where
 kind:scope.kind=.function
 nocell:∀y∈scope.names,y.2≠.cell
 names:∀y∈scope.names,y.2=.local->scope.names.lookup y.1=some .local
 free:∀y∈scope.names,y.2=.free->(X.env.kindOf y.1=some .cell\/X.env.kindOf y.1=some .free)
 len:mp.length=NY.length
 map:∀(i:Nat) (x:Str) (j:Nat),NY[i]?=some x->mp[i]?=some (some j)->X.N[j]?=some x/\scope.names.lookup x=some .free
theorem KD(hZ:∀e s,Z e s->notedBy (4:) A env (λx s'=>R (.error x) s') e s)(I:Nat->aW->Prop)(turn:∀n s,I n s->bG (4:) A (pyNext it) (λr Y=>match r with
    |none=>R (.ok .next) Y
    |some v=>bG (4:) A (KS z it v) (λ_ U=>bG (4:) A (BD z env v) (λ_ s₂ =>
       bG (4:) A (forIn ifs ae λc r=>if r=ae then do let ok <- GF c env (cA c env);pure (ForInStep.yield ok) else pure (ForInStep.yield r)) (λok J =>
        if ok=ae then bG (4:) A (cA elt env) (λx s₄=>bG (4:) A (call (.builtin "list.append") [acc,x]) (λ_ s₅=>∃m,m<n/\I m s₅) (λ_ _=>False) s₄) Z J
        else ∃m,m<n/\I m J) (λ_ _=>False) s₂) (λ_ _=>False) U) (λ_ _=>False) Y) (λ_ _=>False) s)
  n (h:I n s):gA (4:) A (.compLoop (.ListComp elt [⟨z,iter,ifs,0⟩] scope pos) 0 it acc env) R s:=by
 refine codeAny_loop rfl I (λn s k=>?_) n h;show bG _ A ((compTurn (.ListComp elt [⟨z,iter,ifs,0⟩] scope pos) 0 it acc env).onRaise λx=>do uC x env;theTreesLotGoes x) _ _ s;refine wpAny_noted ?_;rw[compTurn_list];refine aC$ SQ$ aC$ dD (turn n s k) (λr Y d=>?_) λ_ _ a=>a.elim;cases r with
 |none=>exact aO d
 |some v=>
   refine aC$ dD d (λ_ U f=>?_) λ_ _ a=>a.elim;refine aC$ dD f (λ_ s₂ j=>aC$ dD j (λok J b=>?_) λ_ _ a=>a.elim) λ_ _ a=>a.elim;cases ok with
   |false=>exact aO ⟨rfl,b⟩
   |true=>exact aC$ aC$ dD b (λx s₄ i=>aC$ dD i (λ_ s₅ g=>aO$ aO ⟨rfl,g⟩) λ_ _ a=>a.elim) λe s' a=>hZ e s' a
def ED{iter:Expr}{RR:Value->aF->Result->aW->Prop}{WW:CI->Value->aW->Prop}(S:CompScope X scope NY mp)(hc:∀c,c.H=H->cm (qZ X scope NY c))(I:Inv X aE σ H s₂)(T:Turn X.prog X.w X.K tg J fp it tn cm)(st:tn 0 s₂.heap)(hf:∀b∈fp,FpOk X aE H b)(hg:∀c,PG (qZ X scope NY c) tg$ g c)(ht:∀c,PF (qZ X scope NY c) ifs$ tt c)(he:∀c,PE ((qZ X scope NY c).wish$ WW c) elt$ te c)(err:∀c,X.s₀.heap.objs.size<=c.C->c.C∉frs X.stack->(∀pl σ' H' s1,Inv (qZ X scope NY c) pl σ' H' s1->Inv X aE σ H' s1)->∀e s',WW c e s'->notedBy (1:) X.A (qZ X scope NY c).env (λx s''=>RR (.ref s₂.heap.objs.size) c.C (.error x) s'') e s')(h:aCs J mp g tt te σ H R)(fin:∀s' C m ys H',R ys H'->H' s₂.heap.objs.size=ac->H' C=ac->C≠s₂.heap.objs.size->s'.heap.Ns C m →
    (ys.length<=sizeLine->Inv X aE σ (upd H' s₂.heap.objs.size$ .lst ys) s') →
    (C≠X.env.locals/\X.s₀.heap.objs.size<=C/\(∀x c,X.env.cells.lookup x=aa c->c≠C)/\∀p∈X.pn++aE,p.1≠C)->RR (.ref s₂.heap.objs.size) C (.ok .next) s'):bG (1:) X.A (newList []) (λacc s₃=>bG (1:) X.A (newFunctionEnv scope X.env.globals (5:) [] X.env.qual ac .none$ aa X.env) (λcenv s₄ =>
   gA (1:) X.A (.compStart (.ListComp elt [⟨tg,iter,ifs,0⟩] scope pos) 0 (.ref it) acc {cenv with scope:=relabel scope X.env}) (RR acc cenv.locals) s₄) E s₃) E s₂:=by
 refine iP (wpAny_newFunctionEnv S.nocell (by intro y hy;simp at hy) (λO G F=>?_) S.kind);generalize hH2:s₂.heap.push {cls:=.type "list",dict:=ac,data:=.seq ([]:List Value).toArray}=H2 at G F ⊢;have hC:(H2.objs.size:Nat)=s₂.heap.objs.size+1:=by rw[<-hH2,FJ]
 generalize hDd:s₂.heap.objs.size=D at fin err hC ⊢;generalize hCC:H2.objs.size=C at G F hC ⊢;have hDC:D≠C:=λz=>absurd (z.trans hC)$ bJ$ gO _;have ltC:∀{b:aF},b<D->b≠C:=λ{b} h=>bJ$ Nat.lt_of_lt_of_eq (gD h) hC.symm;have ltD:∀{b:aF},b<D->b≠D:=λ{b} h=>bJ h;have Q:∀{b:aF}{o:Obj},s₂.heap.get? b=aa o->(b:Nat)<D:=λe=>hDd▸bA e;have U:∀b o,s₂.heap.get? b=aa o->H2.get? b=aa o:=λb o e=>hH2▸aD _ e;have k1:∀b o,H2.get? b=aa o->O.get? b=aa o:=λb o e=>by have f:=hCC▸bA e;exact F.extBut b o (bJ f)$ aD _ e
 have fr:∀a,D<=a->H a=ac:=λa ha=>I.hok.fresh$ hDd▸ha;have accP:O.PlainList D #[]:=⟨_,k1 _ _$ by rw[<-hH2,<-hDd];exact aN _ rfl⟩
 have fpo:=λb f=>let ⟨o,e,_⟩:=T.obj 0 _ st b f;Q e;have K:∀x c,(5:).lookup x=aa c->X.env.cells.lookup x=aa c:=EJ _ _ λx c e=>nomatch e;have s:∀x c,X.env.cells.lookup x=aa c->(c:Nat)<D:=λx c e=>by obtain⟨v,o,ho,_⟩:=I.cell x c e;exact Q ho
 have locLt:=hDd▸I.lt;have M:∀b∈frs X.stack,(b:Nat)<D:=λb f=>by obtain⟨_,o,ho,_⟩:=I.stack.mem f;exact Q ho
 have fpStk:∀b∈fp,b∉frs X.stack:=λb f z=>by
  obtain⟨_,f1,f2,_⟩:=hf b f;rcases aA.mp (I.stkSub b z)with q|q
  . exact f1 q
  . exact f2 q
 have pinLt:=λp L=>Q (I.pin p L).1
 let Y:Cx:=qZ X scope NY ⟨C,{s₂ with heap:=H2},H,D::fp⟩
 obtain⟨W,⟨m0,w0⟩,turn⟩:=h ⟨C,{s₂ with heap:=H2},H,D::fp⟩;have okY:Y.Ok:=by
  refine⟨I.ok.mod,S.kind,I.ok.glob,I.ok.blt,AB hCC,λx y c h1 h2=>I.ok.inj x y c (K _ _ h1)$ K _ _ h2,λx N=>?_,λx c hfn=>absurd hfn (by intro z;cases z),I.ok.hd,I.ok.frames,.inl rfl,λb f=>?_,λb o e=>?_,?_,λb o e=>?_,λb f=>?_,?_,I.stkFree⟩
  . have hx':(x,iZ.free)∈scope.names:=by
     rcases N with N|N
     . exact wK S.nocell N$ .inl rfl
     . exact wK S.nocell N$ .inr rfl
    obtain⟨c,e⟩:=I.ok.has x$ S.free _ hx' rfl;exact vX _ _ x c hx' e
  . rcases aA.mp f with z|z
    . subst z;exact⟨hDC,λx c e q=>absurd (s x c$ K x c e)$ by rw[q];exact cM _⟩
    . have:=fpo b z;exact⟨ltC this,λx c e q=>(hf b z).2.2.2.2.1 x c (K x c e) q⟩
  . have:=I.bs b o e;exact⟨U b o this.1,this.2⟩
  . refine ⟨?_,I.tabsH⟩;show (X.base.objs.size:Nat)<=H2.objs.size;have h1:=cS I.ok.bsz.1 I.sz
    lia
  . have f:=I.bs b o e;have hb':=Q f.1;intro z;rcases aA.mp z with z|z
    . rw[z]at hb';exact cM _ hb'
    . rcases (hf b z).2.2.2.1 with q|q
      . exact I.ok.noex b o e q
      . exact absurd (bM (bA (I.ok.bs b o e).1) q)$ cM _
  . rcases aA.mp f with z|z
    . subst z;exact λq=>absurd (M _ q)$ cM _
    . exact fpStk b z
  . exact I.stack.of_keeps λb o e _=>⟨o,U b o e,rfl⟩
 have capt:∀(i:Nat) (x:Str) (v:V),NY[i]?=aa x->(mC mp σ)[i]?=aa (aa v)->∃u c,RelV v u/\(Y.env.kindOf x=aa .cell\/Y.env.kindOf x=aa .free)/\Y.env.cells.lookup x=aa c/\H2.IsCell c (aa u)/\(H c=ac\/∃o u,H c=aa (.frz o u))/\c∉D::fp:=by
  intro i x v e1 e2;have t:(mp[i]?.map λo=>o.bind λj=>σ[j]?.join)=aa (aa v):=by unfold mC at e2;rwa [bB]at e2
  cases hm:mp[i]? with
  |none=>rw[hm]at t;cases t
  |some o=>
    rw[hm]at t;cases o with
    |none=>simp at t
    |some j=>
      simp only[cW,aZ,Option.some.injEq]at t;have e4:σ[j]?=aa (aa v):=by
       cases hs:σ[j]? with
       |none=>rw[hs]at t;cases t
       |some q=>rw[hs]at t;simp at t;rw[t]
      obtain⟨hXj,hfr⟩:=S.map i x j e1 hm;have hmem:=cU hfr;have hk:=S.free _ hmem rfl;obtain⟨m,hn,hl⟩:=I.loc;obtain⟨u,ru,l⟩:=hl j x v hXj e4$ hk.elim (λz=>.inr$ .inl z) λz=>.inr$ .inr z;have hlook:∃c,X.env.cells.lookup x=aa c/\s₂.heap.IsCell c (aa u):=by
       rcases l with⟨kl,_⟩|⟨_,c,ec,hcell⟩
       . rcases hk with q|q
         . exact absurd (kl.symm.trans q) (by intro z;cases z)
         . exact absurd (kl.symm.trans q) (by intro z;cases z)
       . exact⟨c,ec,hcell⟩
      obtain⟨c,ec,oc,P,w⟩:=hlook;obtain⟨c',ec'⟩:=vX (env:=X.env) scope.names [] x c hmem ec;have:=Option.some.inj$ (K x c' ec').symm.trans ec;subst this;refine⟨u,c',ru,mW hfr,ec',⟨oc,U _ _ P,w⟩,(I.freeC x c' ec).imp id And.right,λz=>?_⟩;rcases aA.mp z with z|z
      . have:=s x c' ec;rw[z]at this;exact cM _ this
      . exact(hf c' z).2.2.2.2.1 x c' ec rfl
 have lenY:(mC mp σ).length=NY.length:=by unfold mC;rw[bS];exact S.len
 have I0:∀tk,Inv Y [] (mC mp σ) H {s₂ with heap:=O,toks:=tk}:=by
  intro tk;refine⟨okY,rfl,I.bare,Un.kept k1,⟨_,G,λi x v e1 e2 e3=>?_⟩,λx c e=>?_,fr C$ by show(D:Nat)<=C;lia,λx c e=>(I.freeC x c$ K x c e).imp id λz=>⟨rfl,z.2⟩,λp L=>absurd (show p∈([]:List (aF×Obj)) from L)$ by simp,I.hok.kept λb o e=>k1 b o$ U b o e,lenY⟩
  . obtain⟨u,c,ru,hk,ec,⟨oc,P,w⟩,_⟩:=capt i x v e1 e2;exact⟨u,ru,.inr ⟨hk,c,ec,oc,k1 _ _ P,w⟩⟩
  . obtain⟨v,o,ho,hd⟩:=I.cell x c$ K x c e;exact⟨v,o,k1 _ _$ U _ _ ho,hd⟩
 have stat:∀{H':Hp}{pl:List (aF×Obj)},(∀p∈pl,p.1∉fp)->(∀b∈fp,H' b=ac)->∀b∈fp,FpOk Y pl H' b:=λhpl hn b f=>by have hbD:=fpo b f;refine⟨hn b f,ltC hbD,fpStk b f,.inl$ aJ _ f,λx c e=>(hf b f).2.2.2.2.1 x c$ K x c e,λp L z=>hpl p (show p∈_ from L)$ z▸f⟩
 have dN:D∉Y.fs:=λq=>absurd (M _ q)$ cM _;have dFp:D∉fp:=λq=>absurd (fpo _ q)$ cM _;have plD:∀(o:Obj),∀p∈[(D,o)],p.1∉fp:=λo p L=>by
  have e:p=(D,o):=by simpa using L
  rw[e];exact dFp
 have toX:∀pl σ' H3 s4,Inv Y pl σ' H3 s4->Inv X aE σ H3 s4:=λpl σ' H3 s4 I4=>by
  have u:Un (frs X.stack) fp H H3 s₂.heap s4.heap:=by
   have B:=I4.base;have nx:∀{b:aF}{o:Obj},s₂.heap.get? b=aa o->b∉fp->b∉D::fp:=λe f z=>by
    rcases aA.mp z with z|z
    . have:=Q e;rw[z]at this;exact cM _ this
    . exact f z
   exact⟨λb o q n f N=>B.keep b o (U b o q) n f$ nx q N,λb o q n f N=>B.slot b o (U b o q) n f$ nx q N,λb o q n N=>B.free b o (U b o q) n$ nx q N,λb o q N=>B.there b o (U b o q)$ nx q N,B.tups,B.frzs,B.tbls⟩
  exact I.call' I4.os u I4.hok I4.bare λb f=>⟨(hf b f).2.2.2.1,(hf b f).2.1,(hf b f).2.2.2.2.1,(hf b f).2.2.2.2.2⟩
 have keyC:∀(tk:Nat) (it':Value),it'=.ref it->gA (1:) X.A (.compLoop (.ListComp elt [⟨tg,iter,ifs,0⟩] scope pos) 0 it' (.ref D) Y.env) (RR (.ref D) C) {s₂ with heap:=O,toks:=tk}:=by
  rintro tk _ rfl
  refine KD (Z:=WW ⟨C,{s₂ with heap:=H2},H,D::fp⟩) (λe s' z=>err ⟨C,{s₂ with heap:=H2},H,D::fp⟩ (by have:(X.s₀.heap.objs.size:Nat)<=D:=hDd▸I.sz;show(X.s₀.heap.objs.size:Nat)<=C;lia) (λq=>absurd (M _ q)$ by show ¬(C:Nat)<D;lia) toX e s' z) (λn s'=>∃i ys H' k,Inv Y [] (mC mp σ) H' s'/\tn i s'.heap/\(∀b∈fp,H' b=ac)/\H' D=ac/\s'.heap.PlainList D k/\Vals ys k.toList/\W i n ys H') ?_ m0
   ⟨0,[],H,#[],I0 tk,T.keep 0 _ _ st λb _ o e=>k1 b o$ U b o e,λb f=>(hf b f).1,fr D$ aL _,accP,.nil,w0⟩
  rintro n s3 ⟨i,ys,H3,k,I3,st3,fr3,d3,⟨kk,pl3⟩,rv3,w3⟩;have I3':Inv Y [(D,{cls:=.type "list",data:=.seq k kk})] (mC mp σ) H3 s3:=I3.pins_of λp L=>by
   have e:p=(D,{cls:=.type "list",data:=.seq k kk}):=by simpa using L
   subst e;exact⟨pl3,d3,hDC,dN,λv z=>nomatch (show Data.seq k kk=Data.cell v from z)⟩
  rcases turn i n ys H3 w3 with⟨stop,qn⟩|⟨go,hsz,step⟩
  . refine thn (T.done Y rfl rfl rfl (hc ⟨C,{s₂ with heap:=H2},H,D::fp⟩ rfl) i _ s3 _ H3 _ I3' (stat (plD _) fr3) st3 stop) λr s4 zq=>?_;obtain ⟨hr,I4⟩:=zq;subst hr;have hD4:s4.heap.get? D=aa {cls:=.type "list",data:=.seq k kk}:=(I4.pin (D,_) (by simp)).1;have J4:Inv X aE σ H3 s4:=toX _ _ _ _ I4;obtain ⟨m4,hn4,_⟩:=I4.loc;refine fin s4 C m4 ys H3 qn d3 I4.free (Ne.symm hDC) hn4 (λhz=>?_) ⟨(ltC locLt).symm,?_,λx c e=>?_,λp L=>?_⟩
    . refine J4.adopt d3 ?_ (ltD locLt).symm (λx c e=>?_) (λp L=>?_) ⟨hz,k.toList,kk,rv3,hD4⟩
      . exact hDd▸I.sz
      . exact ltD$ s x c e
      . exact ltD$ pinLt p L
    . have:(X.s₀.heap.objs.size:Nat)<=D:=hDd ▸ I.sz;show (X.s₀.heap.objs.size:Nat)<=C
      lia
    . exact ltC$ s x c e
    . exact ltC$ pinLt p L
  . refine thn (T.item Y rfl rfl rfl (hc ⟨C,{s₂ with heap:=H2},H,D::fp⟩ rfl) i _ s3 _ H3 _ I3' (stat (plD _) fr3) st3 go) λr s4 zq=>?_;obtain ⟨u,hr,h4⟩:=zq;subst hr;refine thn h4 λ_ s5 zq=>?_;obtain ⟨x,H5,I5,r5,y5,st5,fr5⟩:=zq;have I5':=I5.pinned (stat (plD _) fr5) (T.obj _ _ st5);refine thn (hg _ _ s5 _ H5 x u _ I5' r5 (step x H5 y5)) λ_ s6 zq=>?_;obtain ⟨σ6,H6,I6,q6⟩:=zq;refine thn (ht _ _ s6 σ6 H6 _ I6 q6) λok s7 zq=>?_;obtain ⟨H7,I7,q7⟩:=zq
    have back:∀{s8:aW}{σ8:St}{H8:Hp},Inv Y ([(D,{cls:=.type "list",data:=.seq k kk})]++CV fp s5.heap) σ8 H8 s8 →
      tn (i+1) s8.heap/\(∀b∈fp,H8 b=ac)/\H8 D=ac/\s8.heap.get? D=aa {cls:=.type "list",data:=.seq k kk}:=λ{s8 σ8 H8} A=>by
     refine⟨T.keep _ _ _ st5 λb f o e=>(A.pin (b,o)$ aI _$ aI _$ xX f e).1,λb f=>?_,?_,?_⟩
     . obtain⟨o,e,d⟩:=T.obj _ _ st5 b f;exact(A.pin (b,o)$ aI _$ aI _$ xX f e).2.1
     . exact(A.pin (D,_)$ aI _$ aY _$ aS.mpr rfl).2.1
     . exact(A.pin (D,_)$ aI _$ aY _$ aS.mpr rfl).1
    have drop:∀{s8:aW}{σ8:St}{H8:Hp}{pl:List (aF×Obj)},Inv Y pl σ8 H8 s8->Inv Y [] (mC mp σ) H8 s8:=λ{s8 σ8 H8 pl} A=>by
     obtain⟨m8,hn8,_⟩:=A.loc;refine⟨A.ok,A.os,A.bare,A.base,⟨m8,hn8,λi x v e1 e2 e3=>?_⟩,A.cell,A.free,A.freeC,λp L=>absurd (show p∈([]:List (aF×Obj)) from L)$ by simp,A.hok,lenY⟩;obtain⟨u,c,ru,hk,ec,⟨oc,P,w⟩,hn,N⟩:=capt i x v e1 e2;rcases hn with hn|⟨ob,ub,hn⟩
     . obtain⟨sl,e⟩:=A.base.any P hn N;exact⟨u,ru,.inr ⟨hk,c,ec,_,e,w⟩⟩
     . obtain⟨e1,_⟩:=I.hok c _ hn;obtain⟨e2,_⟩:=A.hok c _$ A.base.frzs c ob ub hn;have e3:=U _ _ e1;rw[P]at e3;cases e3;exact⟨u,ru,.inr ⟨hk,c,ec,oc,e2,w⟩⟩
    cases ok with
    |false=>obtain⟨m',hm',w'⟩:=q7;obtain⟨b1,b2,b3,b4⟩:=back I7;exact⟨m',hm',i+1,ys,H7,k,drop I7,b1,b2,b3,⟨kk,b4⟩,rv3,w'⟩
    |true=>
      refine thn (he _ _ s7 σ6 H7 _ (I7.wish _) q7) λy s8 zq=>?_;obtain⟨yv,H8,I8w,r8,q8⟩:=zq;have A:=I8w.unwish;obtain⟨b1,b2,b3,b4⟩:=back A;have hl:ys.length=k.size:=by simpa using rv3.length
      refine wpAny_list_append_plain (items:=k) ⟨kk,b4⟩ (λh' pl' sb=>?_) (by lia);obtain⟨m',hm',w'⟩:=q8;have I9:Inv Y [] (mC mp σ) H8 {s8 with heap:=h'}:=(drop A).turned (it:=D) (t':=s8.toks) (λb o f e=>(sb.2 b f).trans e) b3 hDC (.inl aP) (λx c e=>ltD$ s x c$ K x c e) λp L=>absurd (show p∈([]:List (aF×Obj)) from L) (by simp);refine⟨m',hm',i+1,ys++[yv],H8,k.push y,I9,?_,b2,b3,pl',?_,w'⟩
      . exact T.keep _ _ _ b1 λb f o e=>(sb.2 b λz=>dFp$ z▸f).trans e
      . rw[eG];exact rv3.append$ .cons r8 .nil
 exact codeAny_compStart_list (keyC _ _ rfl)$ T.self _ 0 _ _ _ (T.keep 0 _ _ st λb _ o e=>k1 b o$ U b o e)$ keyC _ _ rfl
def aEm{iter:Expr}(S:CompScope X scope NY mp)(hc:∀aE σ H s,Inv X aE σ H s->∀c,c.H=H->cm (qZ X scope NY c))(hi:PI X tg iter U cm)(hg:∀c,PG (qZ X scope NY c) tg$ g c)(Y:∀c,PF (qZ X scope NY c) ifs$ tt c)(he:∀c,PE (qZ X scope NY c) elt$ te c)(hs:∀x,fM iter X.env x=pure x:=by intro _;rfl):PE X (.ListComp elt [⟨tg,iter,ifs,0⟩] scope pos) (tComp U mp g tt te):=by intro aE s σ H Q I h;refine wpAny_comprehension_free rfl hs (xG λy n f=>I.ok.has y.1$ S.free y n f) S.kind S.names (thn (hi aE s σ H _ I h) λv G B=>thn B λl k A=>?_);obtain⟨it,fp,F,J,M,e,j,T,d,D,f⟩:=A;subst e;refine ED S (hc _ _ _ _ j) j T d D hg Y he (λ_ _ _ _ _ _ z=>z.elim) f ?_;intro K C m ys N q u w i p t a;refine⟨m,p,λL sb=>?_⟩;have E:=t q.1;refine⟨.ref k.heap.objs.size,_,E.turned (λb o r e=>(sb.2 b r).trans e) (by rw[upd_ne i];exact w) a.1 (.inr a.2.1) a.2.2.1 a.2.2.2,rfl,q.2 _ u⟩
def UU{iter:Expr}(S:CompScope X scope NY mp)(hc:X.calm=ae)(hi:PI X tg iter z)(Y:∀c,PG (qZ X scope NY c) tg$ g c)(J:∀c,PF (qZ X scope NY c) ifs$ tt c)(he:∀c,PE (qZ X scope NY c) elt$ te c)(U:∀x,fM iter X.env x=pure x:=by intro _;rfl):PE X (.ListComp elt [⟨tg,iter,ifs,0⟩] scope pos) (tComp z mp g tt te):=aEm S (λ_ _ _ _ _ _ _=>hc) hi Y J he U
def tCompS(z:TI)(mp:List (Option Nat))(g:CI->TG)(tt:CI->TT)(te:CI->TE)(i:Nat):TS:=λD a H=>tComp z mp g tt te a H λv b=>D.nx (a.set i$ aa v) b
def ps_comp{iter:Expr}(hN:X.N.Nodup)(U:X.N[i]?=aa y)(hl:X.env.scope.names.lookup y=aa .local)(Y:eF (.ListComp elt [⟨tg,iter,ifs,0⟩] scope pos) (aa$ .Name y py) spos.line X.env=pure ae)(S:CompScope X scope NY mp)(hc:X.calm=ae)(hi:PI X tg iter wi)(hg:∀c,PG (qZ X scope NY c) tg$ g c)(ht:∀c,PF (qZ X scope NY c) ifs$ tt c)(he:∀c,PE (qZ X scope NY c) elt$ te c)(hs:∀x,fM iter X.env x=pure x:=by intro _;rfl):PS X (.Assign [.Name y py] (.ListComp elt [⟨tg,iter,ifs,0⟩] scope pos) spos) (tCompS wi mp g tt te i):=by
 intro R s u H D I h;rw[exec_Assign_Name_used _ _ _ _ Y];refine aC$ SQ$ aC ?_
 refine aC (dD (wpAny_comprehension_free rfl hs (xG λy U l=>I.ok.has y.1$ S.free y U l) S.kind S.names
  (thn (hi R s u H _ I h) λv s1 P=>thn P λE w O=>?_)) (λ_ B F=>aO$ aO F) λ_ _ e=>e)
 obtain⟨it,fp,Z,J,H2,e,W,T,f,Q,l⟩:=O;subst e;refine ED S (λ_ _=>hc) W T f Q hg ht he (λ_ _ _ _ _ _ z=>z.elim) l ?_;intro B C m ys H' q M N r G L d;have V:=L q.1;refine wpAny_assign_Name$ GY V hN U (.inl hl) (v:=.ref w.heap.objs.size) rfl (λA t sb=>?_) (.inr hl);obtain⟨a,j,p⟩:=sb;have n:C≠a:=by
  rcases p with rfl|p
  . exact d.1
  . exact λz=>d.2.2.1 _ _ p z.symm
 refine⟨m,G.sameBut j n,λh' k=>?_⟩;exact⟨_,_,t.turned (λb o K e=>(k.2 b K).trans e) (by rw[upd_ne r];exact N) d.1 (.inr d.2.1) d.2.2.1 d.2.2.2,q.2 _ M⟩
end
end L2
namespace TS
open PySem PyProof.Rows
noncomputable def ky(p:Keyed):Int:=numOf p.1
def IsI(p:Keyed):Prop:=∃n t,p.1=.int n t
structure TB(a₀:Array Keyed)(st:SortSt):Prop where
 pm:(bU st).Perm a₀
 kd:kindOf st=iX
 nf:EU st=none
def Seg(xs:Array Keyed)(i j:Nat):Prop:=∀p q,i<=p->p<=q->q<j->K xs p<=K xs q
def Dsc(xs:Array Keyed)(i j:Nat):Prop:=∀p q,i<=p->p<=q->q<j->K xs q<=K xs p
def Ch(xs ys:Array Keyed)(i j:Nat):Prop:=xs.Perm ys/\∀k,(k<i\/j<=k)->K xs k=K ys k
def Ch.rfl':Ch xs xs i j:=⟨mB _,λ_ _=>rfl⟩
def Ch.tr(a:Ch xs ys i j)(b:Ch ys z i j):Ch xs z i j:=
 ⟨a.1.trans b.1,λk c=>(a.2 k c).trans$ b.2 k c⟩
def Ch.wide(a:Ch xs ys i j)(h1:z<=i)(h2:j<=j'):Ch xs ys z j':=
 ⟨a.1,λk b=>a.2 k$ by lia⟩
def TB.arr{st:SortSt}(h:TB a₀ st)(z:xs.Perm (bU st)):TB a₀ (gE st xs):=⟨z.trans h.pm,h.kd,h.nf⟩
def TB.sz{st:SortSt}(h:TB a₀ st):(bU st).size=a₀.size:=h.pm.size_eq
def aIa{a₀ xs:Array Keyed}(z:xs.Perm a₀)(J:IntKeys a₀)(hi:i<a₀.size):∃t q,xs[i]?=aa (.int (K xs i) t,q):=by
 have a:i<xs.size:=by rw[z.size_eq];exact hi
 obtain⟨n,t,b⟩:=J _ ((nW.mp z).mem_iff.mp$ show xs[i]∈xs.toList by simp);have e:xs[i]?=aa xs[i]:=getElem?_pos _ i a;refine⟨t,xs[i].2,?_⟩;unfold K;rw[e];simp only[b,numOf];exact congrArg aa$ Prod.ext b rfl
section
variable{a₀:Array Keyed}
def aFo{st:SortSt}(z:TB a₀ st)(J:IntKeys a₀)(hi:i<a₀.size)(U:j<a₀.size)(told:Q (aa$ decide (K (bU st) i<K (bU st) j)) st):wpS (4:) A E s (WQ i j) Q st:=by obtain⟨t,p,b⟩:=aIa z.pm J hi;obtain⟨u,q,a⟩:=aIa z.pm J U;exact wpS_ltAt z.kd b a told
def aFn{st:SortSt}(J:TB a₀ (gE st xs))(U:IntKeys a₀)(hi:i<a₀.size)(z:j<a₀.size)(h:Q (aa$ decide (K xs i<K xs j)) (gE st xs)):wpS (4:) A E s (WQ i j) Q (gE st xs):=aFo J U hi z h
def VW{st:SortSt}(z:j<=(bU st).size)(h:∀xs,Ch xs (bU st) i j->(∀k,i<=k->k<j->K xs k=K (bU st) (i+j-1-k))->Q () (gE st xs)):wpS (4:) A E s (nN i j) Q st:=by
 rw[reverseSlice'_eq];refine nD$ h _ ⟨mirror_perm _ _ _ _,λk c=>?_⟩ λk b a=>?_
 . rw[K_mirror z,if_neg$ by lia]
 . rw[K_mirror z,if_pos ⟨b,a⟩]
def vT{st:SortSt}(J:j<=(bU st).size)(z:∀k,i<=k->k<j->K (bU st) k=K (bU st) (j-1))(h:∀xs,xs.Perm (bU st)->(∀k,K xs k=K (bU st) k)->Q () (gE st xs)):wpS (4:) A E s (nN i j) Q st:=by
 refine VW J λxs c b=>h xs c.1 λk=>?_;by_cases a:i<=k/\k<j
 . rw[b k a.1 a.2,z _ (by lia)$ by lia,z k a.1 a.2]
 . exact c.2 k (by lia)
noncomputable def dTail(lo m0 nrem:Nat):StateT SortSt Sem (Option Nat):=do
 let mut m:=m0
 nN lo (lo+m)
 for _ in [m:nrem] do
  let aa less <- WQ (lo+m) (lo+m-1) | return ac
  if less then break
  m:=m+1
 return aa m
noncomputable def dPart(lo m0 nrem:Nat):StateT SortSt Sem (Option Nat):=do
 let mut m:=m0
 rule "list.sort.descending-run"
 m:=m+1
 let mut q:=0
 for _ in [m:nrem] do
  let aa less <- WQ (lo+m) (lo+m-1) | return ac
  if less then
   if q>0 then nN (lo+m-(q+1)) (lo+m)
   q:=0
  else
   let aa more <- WQ (lo+m-1) (lo+m) | return ac
   if more then break
   q:=q+1
  m:=m+1
 if q>0 then nN (lo+m-(q+1)) (lo+m)
 dTail lo m nrem
noncomputable def cRun(lo nrem:Nat):StateT SortSt Sem (Option Nat):=do
 let mut m:=1
 for _ in [1:nrem] do
  let aa less <- WQ (lo+m) (lo+m-1) | return ac
  if less then break
  m:=m+1
 if m==nrem then return aa m
 if m>1 then
  let aa more <- WQ lo (lo+m-1) | return ac
  if more then return aa m
  nN lo (lo+m)
 dPart lo m nrem
def OC lo nrem:countRun' lo nrem=cRun lo nrem:=by rw[countRun'_eq];rfl
def aCx(z:Seg xs i j)(h:i<j->K xs (j-1)<=K xs j):Seg xs i (j+1):=by
 intro p q a d e;by_cases b:q<j
 . exact z p q a d b
 . have:q=j:=by lia
   subst this;by_cases c:p=q
   . subst c;exact dS _
   . exact fO (z p (q-1) a (by lia)$ by lia) (h$ by lia)
def vH(z:Dsc xs i j)(h:i<j->K xs j<=K xs (j-1)):Dsc xs i (j+1):=by
 intro p q a d e;by_cases b:q<j
 . exact z p q a d b
 . have:q=j:=by lia
   subst this;by_cases c:p=q
   . subst c;exact dS _
   . exact fO (h$ by lia) (z p (q-1) a (by lia)$ by lia)
def DZ(z:Dsc xs i j)(h:∀k,K ys k=K xs k):Dsc ys i j:=by intro p q c b a;rw[h,h];exact z p q c b a
def OL{lo:Nat}{st:SortSt}(h0:IntKeys a₀)(hn:lo+J<=a₀.size)(ha:1<=a)(U:a<=J)(hB:TB a₀ st)(Y:Seg (bU st) lo (lo+a))(h:∀n,a<=n->n<=J->Seg (bU st) lo (lo+n)->(n=J\/K (bU st) (lo+n)<K (bU st) (lo+n-1))->R (ac,n) st):wpS (4:) A E s (forIn [a:J] ((ac,a):Option (Option Nat)×Nat) λ_ c=>do
        let x <- WQ (lo+c.snd) (lo+c.snd-1)
        match x with
         |some less=>if less=ae then pure (ForInStep.done (ac,c.snd))else pure (ForInStep.yield (ac,c.snd+1))
         |_=>pure$ ForInStep.done (aa ac,c.snd)) R st:=by
 refine dH (I:=λx c z=>z=st/\c=(ac,x)/\Seg (bU st) lo (lo+x)) ?_ ?_ ⟨rfl,rfl,Y⟩
 . rintro x c z e f ⟨rfl,rfl,b⟩;refine aV (aFo hB h0 (by lia) (by grind) ?_);by_cases d:K (bU z) (lo+x)<K (bU z) (lo+x-1)
   . simp[d,decide_true,if_true];exact bD (h x e (by lia) b$ .inr d)
   . simp[d,decide_false,bV,if_false];exact bD ⟨rfl,rfl,aCx b λ_=>pY.mp d⟩
 . rintro c z ⟨rfl,rfl,b⟩;rw[show max a J=J by simp_all]at b ⊢;exact h J U (aL _) b$ .inl rfl
def wp_tail{lo:Nat}{st:SortSt}(h0:IntKeys a₀)(hn:lo+z<=a₀.size)(h1:1<=n)(J:n<=z)(U:TB a₀ st)(Y:Dsc (bU st) lo (lo+n))(h:∀m xs,Ch xs (bU st) lo (lo+z)->1<=m->m<=z->Seg xs lo (lo+m)->Q (aa m) (gE st xs)):wpS (4:) A E s (dTail lo n z) Q st:=by
 refine aV (VW (by rw[U.sz];lia) λxs c d=>?_);refine aV (OL h0 hn h1 J (U.arr c.1) ?_ λm e b a _=>bD$ h m xs (c.wide (aL _)$ by simp_all) (by lia) b a);intro p q g i f;rw[d p g$ by lia,d q (by lia) f];exact Y _ _ (by lia) (by omega) (by lia)
def TF{lo:Nat}{st:SortSt}(h0:IntKeys a₀)(hn:lo+J<=a₀.size)(Y:n+1<=J)(hB:TB a₀ st)(hs:Dsc (bU st) lo (lo+(n+1)))(h:∀m xs,Ch xs (bU st) lo (lo+J)->1<=m->m<=J->Seg xs lo (lo+m)->Q (aa m) (gE st xs)):wpS (4:) A E s (dPart lo n J) Q st:=by
 refine aV$ tT$ lK ⟨rfl,?_⟩
 refine aV (gX (dH
  (I:=λx c z=>∃q xs,c=(ac,x,q)/\z=gE st xs/\xs.Perm (bU st)/\(∀k,K xs k=K (bU st) k)/\Dsc xs lo (lo+x)/\q+1<=x/\∀i,lo+x-(q+1)<=i->i<lo+x->K xs i=K xs (lo+x-1))
  (Q:=λc z=>∃x q xs,n+1<=x/\x<=J/\c=(ac,x,q)/\z=gE st xs/\xs.Perm (bU st)/\(∀k,K xs k=K (bU st) k)/\Dsc xs lo (lo+x)/\q+1<=x/\∀i,lo+x-(q+1)<=i->i<lo+x->K xs i=K xs (lo+x-1))
  ?step ?fin ⟨0,bU st,rfl,rfl,mB _,λ_=>rfl,hs,by lia,λi _ _=>by congr 1;lia⟩) ?U)
 case fin=>rintro c z ⟨q,xs,D,R,P,O,C,B,y⟩;rw[show max (n+1) J=J by simp_all]at D C B y;exact⟨J,q,xs,Y,aL _,D,R,P,O,C,B,y⟩
 case step =>
  rintro x c z r M ⟨q,xs,rfl,rfl,d,g,hd,t,j⟩;have b:=hB.arr d;have f:lo+x<=(bU$ gE st xs).size:=by rw[b.sz];lia
  refine aV (aFn b h0 (by lia) (by lia) ?_);by_cases p:K xs (lo+x)<K xs (lo+x-1)
  . simp only [p,decide_true,if_true];have l:=vH hd λ_=>eJ p;by_cases a:q>0
    . rw[if_pos a];refine aV$ vT f j λys y1 e=>bD ?_;exact⟨0,ys,rfl,rfl,y1.trans d,λk=>(e k).trans$ g k,DZ l e,by lia,λi _ _=>by congr 1;lia⟩
    . rw[if_neg a];exact bD ⟨0,xs,rfl,rfl,d,g,l,by lia,λi _ _=>by congr 1;lia⟩
  . simp only [p,decide_false,bV,if_false];refine aV (aFn b h0 (by lia) (by lia) ?_);by_cases u:K xs (lo+x-1)<K xs (lo+x)
    . simp only[u,decide_true,if_true];exact bD ⟨x,q,xs,r,by lia,rfl,rfl,d,g,hd,t,j⟩
    . simp only [u,decide_false,bV,if_false];have v:K xs (lo+x)=K xs (lo+x - 1):=by lia
      refine bD ⟨q+1,xs,rfl,rfl,d,g,vH hd λ_=>Int.le_of_eq v,by simp_all,λi T S=>?_⟩;rw[show lo+(x+1)-1=lo+x by simp_all];by_cases hi:i=lo+x
      . rw[hi]
      . rw[v];exact j i (by lia) (by lia)
 case U =>
  rintro c z ⟨x,q,xs,N,o,rfl,rfl,d,g,hd,t,j⟩;have b:=hB.arr d;have f:lo+x<=(bU$ gE st xs).size:=by rw[b.sz];lia
  have fin:∀ys:Array Keyed,ys.Perm xs->(∀k,K ys k=K xs k)->wpS (4:) A E s (dTail lo x J) Q (gE st ys):=λys y1 e=>wp_tail h0 hn (by lia) o (hB.arr$ y1.trans d) (DZ hd e) λm F c L H G=>h m F (c.tr ⟨y1.trans d,λk _=>(e k).trans$ g k⟩) L H G;dsimp only;by_cases a:q>0
  . rw[if_pos a];exact aV$ vT f j λys y1 e=>fin ys y1 e
  . rw[if_neg a];exact fin xs (mB _) λ_=>rfl
def wp_run{lo:Nat}{st:SortSt}(U:IntKeys a₀)(Y:lo+z<=a₀.size)(h1:1<=z)(J:TB a₀ st)(h:∀m xs,Ch xs (bU st) lo (lo+z)->1<=m->m<=z->Seg xs lo (lo+m)->Q (aa m) (gE st xs)):wpS (4:) A E s (countRun' lo z) Q st:=by
 rw[OC];refine aV (OL U Y (aL 1) h1 J (λp q _ _ _=>by rw[show p=q by lia];exact dS _) λn u t g i=>?_);dsimp only;by_cases b:n=z
 . rw[if_pos$ by simpa using b];exact bD$ h n _ Ch.rfl' u t g
 rw[if_neg$ by simpa using b];have r:=i.resolve_left b;by_cases d:n>1
 . rw [if_pos d];refine aV (aFo J U (by lia) (by lia) ?_);by_cases o:K (bU st) lo<K (bU st) (lo+n-1)
   . simp[o,decide_true,if_true];exact bD$ h n _ Ch.rfl' u t g
   . simp [o,decide_false,bV,if_false];have a:∀k,lo<=k->k<lo+n->K (bU st) k=K (bU st) (lo+n-1):=λk f l=>by
      have F:=g lo k (aL _) f l;have D:=g k (lo+n-1) f (by lia) (by lia)
      lia
     refine aV (vT (by rw[J.sz];lia) a λys y1 j=>?_);refine TF U Y (by lia) (J.arr y1) ?_ λm v c B y x=>h m v (c.tr ⟨y1,λk _=>j k⟩) B y x;refine DZ ?_ j;refine vH (λp q f l C=>?_) λ_=>eJ r;rw[a p f$ by lia,a q (by lia) C];exact dS _
 . rw [if_neg d];have e:n=1:=by lia
   refine TF U Y (by lia) J ?_ h;exact vH (λp q _ _ _=>by rw[show p=q by lia];exact dS _) λ_=>eJ r
def wp_ins{lo:Nat}{st:SortSt}(h0:IntKeys a₀)(hn:lo+n<=a₀.size)(hok:ok<=n)(Y:TB a₀ st)(U:Seg (bU st) lo (lo+ok))(h:∀xs,Ch xs (bU st) lo (lo+n)->Seg xs lo (lo+n)->Q ae (gE st xs)):wpS (4:) A E s (binarySort' lo n ok) Q st:=by
 refine aV (gX (dH (I:=λk c z=>∃xs,c=(ac,())/\z=gE st xs/\Ch xs (bU st) lo (lo+n)/\Seg xs lo (lo+min k n))
  (Q:=λc z=>∃xs,c=(ac,())/\z=gE st xs/\Ch xs (bU st) lo (lo+n)/\Seg xs lo (lo+n)) ?step ?fin ?init) ?J)
 case J=>rintro c z ⟨xs,rfl,rfl,c,j⟩;exact bD$ h xs c j
 case init =>
  refine⟨bU st,rfl,rfl,Ch.rfl',λp q u F N=>?_⟩;by_cases g:ok=0
  . have e:p=q:=by lia
    rw[e];exact dS _
  . exact U p q u F (by lia)
 case fin=>rintro c z ⟨xs,V,T,S,R⟩;refine⟨xs,V,T,S,?_⟩;rwa [show min (max (max ok 1) n) n=n by lia]at R
 case step =>
  rintro k c z P O ⟨xs,rfl,rfl,c,j⟩;have o:=Y.arr c.1
  refine aV (gX (dH (I:=λx e y=>y=gE st xs/\∃l r,e=(ac,l,r)/\l<=r/\r<=k/\r-l<=k-x ∧
    (∀i,i<l->K xs (lo+i)<=K xs (lo+k))/\(∀i,r<=i->i<k->K xs (lo+k)<K xs (lo+i)))
   (Q:=λe y=>y=gE st xs/\∃l r,e=(ac,l,r)/\l<=k ∧
     (∀i,i<l->K xs (lo+i)<=K xs (lo+k))/\(∀i,l<=i->i<k->K xs (lo+k)<K xs (lo+i))) ?a ?b ?c) ?d)
  case c=>exact⟨rfl,0,k,rfl,by lia,by lia,by simp_all,λi hi=>by simp_all,λi _ _=>by grind⟩
  case b =>
   rintro e y ⟨rfl,l,r,rfl,M,t,L,C,B⟩;have e:l=r:=by grind
   subst e;exact⟨rfl,l,l,rfl,t,C,B⟩
  case a =>
   rintro x e y _ W ⟨rfl,l,r,rfl,M,t,L,C,B⟩;by_cases m:l≥r
   . rw [if_pos m];have e:l=r:=by lia
     subst e;exact bD ⟨rfl,l,l,rfl,t,C,B⟩
   . rw [if_neg m];refine aV (aFn o h0 (by lia) (by lia) ?_);by_cases v:K xs (lo+k)<K xs (lo+(l+r)/2)
     . simp[v,decide_true,if_true];exact bD ⟨rfl,l,(l+r)/2,rfl,by lia,by lia,by grind,C,λi u F=>Int.lt_of_lt_of_le v$ j _ _ (by simp_all) (by simp_all)$ by lia⟩
     . simp[v,decide_false,bV,if_false];exact bD ⟨rfl,(l+r)/2+1,r,rfl,by lia,by omega,by grind,λi u=>fO (j (lo+i) (lo+(l+r)/2) (by simp_all) (by lia)$ by lia)$ pY.mp v,B⟩
  case d =>
   rintro e y ⟨rfl,l,r,rfl,M,t,L⟩;show wpS _ _ _ _ (do moveDown' (lo+k) (lo+l);pure (ForInStep.yield (ac,()))) _ _;rw[moveDown'_eq];have G:lo+k<xs.size:=by have:=o.sz;change xs.size=_ at this;lia
   have f:∀i,K (bubble xs (lo+k)$ lo+k-(lo+l)) i=if i=lo+l then K xs (lo+k)else if lo+l<i/\i<=lo+k then K xs (i-1)else K xs i:=λi=>by rw[K_bubble G$ by simp_all,show lo+k-(lo+k-(lo+l))=lo+l by lia]
   refine aV$ nD$ bD ⟨_,rfl,rfl,⟨(bubble_perm _ _ _).trans c.1,λi hi=>?_⟩,?_⟩
   . show K (bubble xs (lo+k)$ lo+k-(lo+l)) i=_;rw[f,if_neg$ by lia,if_neg$ by lia];exact c.2 i hi
   . rw [show min (k+1) n=k+1 by lia];intro p q u F N;rw [f,f];have D:∀ i,lo<=i->i < lo+l->K xs i<=K xs (lo+k):=λi a b=>by have:=t (i - lo) (by grind);rwa [show lo+(i - lo)=i by simp_all]at this
     have H:∀i,lo+l<=i->i<lo+k->K xs (lo+k)<=K xs i:=λi a b=>by have:=L (i-lo) (by lia) (by lia);rw[show lo+(i-lo)=i by lia]at this;exact eJ this
     repeat' split
     all_goals first
      |(exfalso;lia)
      |exact dS _
      |exact D _ (by lia) (by lia)
      |exact H _ (by lia) (by lia)
      |exact j _ _ (by lia) (by grind) (by grind)
end
noncomputable def oF:Bool->Keyed->Array Keyed->Nat->Nat->Nat->StateT SortSt Sem (Option Nat):=sortPriv% PySem.Builtin.gallop
noncomputable def galB(ask:Nat->StateT SortSt Sem (Option Bool))(n l₀ h₀:Nat):StateT SortSt Sem (Option Nat):=do
 let mut lo:=l₀
 let mut hi:=h₀
 for _ in [0:n] do
  if lo≥hi then break
  let mid:=lo+(hi-lo)/2
  let aa yes <- ask mid | return ac
  if yes then lo:=mid+1 else hi:=mid
 return aa hi
noncomputable def gal(ask:Nat->StateT SortSt Sem (Option Bool))(n hint:Nat):StateT SortSt Sem (Option Nat):=do
 let mut last:=0
 let mut off:=1
 let mut lo:=0
 let mut hi:=0
 let aa right <- ask hint | return ac
 if right then
  let top:=n-hint
  for _ in [0:n] do
   if off≥top then break
   let aa yes <- ask (hint+off) | return ac
   if !yes then break
   last:=off
   off:=2*off+1
  lo:=hint+last+1
  hi:=hint+min off top
 else
  let top:=hint+1
  for _ in [0:n] do
   if off≥top then break
   let aa yes <- ask (hint-off) | return ac
   if yes then break
   last:=off
   off:=2*off+1
  lo:=hint+1-min off top
  hi:=hint-last
 galB ask n lo hi
def aAb left z arr base n hint:oF left z arr base n hint=gal (λi=>do
  let x <- lY arr (base+i)
  if left then lt' x z else return (<-lt' z x).map (!·)) n hint:=rfl
section
variable{prog:bW}{w:cT}{A:dF}{E:Value->aW->Prop}{s:aW}
def Cut(g:Nat->Bool)(n r:Nat):Prop:=r<=n/\(∀i,i<r->g i=ae)/\∀i,r<=i->i<n->g i=ag
variable{st:SortSt}{ask:Nat->StateT SortSt Sem (Option Bool)}{g:Nat->Bool}{n:Nat}(hask:∀(i:Nat) (R:Option Bool->SortSt->Prop),i<n->R (aa (g i)) st->wpS (4:) A E s (ask i) R st)(mono:∀i j,i<=j->j<n->g j=ae->g i=ae)
include hask mono
def TK{J h₀:Nat}{Q:Option Nat->SortSt->Prop}(Y:J<=h₀)(hh:h₀<=n)(hl:∀i,i<J->g i=ae)(hg:∀i,h₀<=i->i<n->g i=ag)(h:∀r,Cut g n r->Q (aa r) st):wpS (4:) A E s (galB ask n J h₀) Q st:=by
 refine aV (gX (dH
  (I:=λx c z=>z=st/\∃l r,c=(ac,l,r)/\l<=r/\r<=n/\r-l<=n-x/\(∀i,i<l->g i=ae)/\(∀i,r<=i->i<n->g i=ag))
  (Q:=λc z=>z=st/\∃l,∃r,c=(ac,l,r)/\Cut g n r) ?a ?b ⟨rfl,J,h₀,rfl,Y,hh,by lia,hl,hg⟩) ?c)
 case c=>rintro c z ⟨rfl,l,r,rfl,m⟩;exact bD$ h r m
 case b =>
  rintro c z ⟨rfl,l,r,rfl,t,k,q,j,f⟩;have e:l=r:=by grind
  subst e;exact⟨rfl,l,l,rfl,k,j,f⟩
 case a =>
  rintro x c z _ u ⟨rfl,l,r,rfl,t,k,q,j,f⟩;by_cases d:l≥r
  . rw [if_pos d];have e:l=r:=by lia
    subst e;exact bD ⟨rfl,l,l,rfl,k,j,f⟩
  . rw [if_neg d];refine aV (hask _ _ (by lia) ?_);cases U:g (l+(r - l) / 2)with
    |true=>exact bD ⟨rfl,l+(r-l)/2+1,r,rfl,by grind,k,by grind,λi hi=>mono i _ (by lia) (by lia) U,f⟩
    |false=>
      refine bD ⟨rfl,l,l+(r-l)/2,rfl,by simp_all,by grind,by grind,j,λi p o=>?_⟩;cases hi:g i with
      |false=>rfl
      |true=>rw[mono _ i p o hi]at U;cases U
def wp_gal{J:Nat}{Q:Option Nat->SortSt->Prop}(U:J<n)(h:∀r,Cut g n r->Q (aa r) st):wpS (4:) A E s (gal ask n J) Q st:=by
 refine aV$ hask _ _ U ?_;cases hr:g J with
 |true=>
   refine aV (gX (dH
    (I:=λx c z=>z=st/\∃l o,c=(ac,l,o)/\l<o/\x+1<=o/\J+l<n/\g (J+l)=ae)
    (Q:=λc z=>z=st/\∃l o,c=(ac,l,o)/\l<o/\J+l<n/\g (J+l)=ae/\(n-J<=o\/(J+o<n/\g (J+o)=ag))) ?a ?b ⟨rfl,0,1,rfl,by lia,by lia,U,hr⟩) ?c)
   case c =>
    rintro c z ⟨rfl,l,o,rfl,j,k,f,d⟩;refine TK hask mono (by lia) (by lia) (λi hi=>mono i _ (by lia) k f) (λi q p=>?_) h;rcases d with d|⟨d,m⟩
    . lia
    . cases hi:g i with
      |false=>rfl
      |true=>rw[mono _ i (by lia) p hi]at m;cases m
   case b=>rintro c z ⟨rfl,l,o,rfl,j,k,f,d⟩;exact⟨rfl,l,o,rfl,j,f,d,.inl$ by lia⟩
   case a =>
    rintro x c z _ t ⟨rfl,l,o,rfl,j,k,f,d⟩;by_cases e:o≥n-J
    . rw[if_pos e];exact bD ⟨rfl,l,o,rfl,j,f,d,.inl e⟩
    . rw [if_neg e];refine aV (hask _ _ (by lia) ?_);cases Y:g (J+o)with
      |true=>exact bD ⟨rfl,o,2*o+1,rfl,by lia,by lia,by lia,Y⟩
      |false=>exact bD ⟨rfl,l,o,rfl,j,f,d,.inr ⟨by lia,Y⟩⟩
 |false=>
   refine aV (gX (dH
    (I:=λx c z=>z=st/\∃l o,c=(ac,l,o)/\l<o/\x+1<=o/\l<=J/\g (J-l)=ag)
    (Q:=λc z=>z=st/\∃l o,c=(ac,l,o)/\l<o/\l<=J/\g (J-l)=ag/\(J+1<=o\/(o<=J/\g (J-o)=ae))) ?a ?b ⟨rfl,0,1,rfl,by lia,by lia,by lia,hr⟩) ?c)
   case c =>
    rintro c z ⟨rfl,l,o,rfl,j,k,f,d⟩;refine TK hask mono (by grind) (by grind) (λi hi=>?_) (λi q p=>?_) h
    . rcases d with d|⟨d,m⟩
      . simp_all
      . exact mono i _ (by grind) (by grind) m
    . cases hi:g i with
      |false=>rfl
      |true=>rw[mono _ i q p hi]at f;cases f
   case b=>rintro c z ⟨rfl,l,o,rfl,j,k,f,d⟩;exact⟨rfl,l,o,rfl,j,f,d,.inl$ by lia⟩
   case a =>
    rintro x c z _ t ⟨rfl,l,o,rfl,j,k,f,d⟩;by_cases e:o≥J+1
    . rw[if_pos e];exact bD ⟨rfl,l,o,rfl,j,f,d,.inl e⟩
    . rw [if_neg e];refine aV (hask _ _ (by grind) ?_);cases Y:g (J - o)with
      |true=>exact bD ⟨rfl,l,o,rfl,j,f,d,.inr ⟨by lia,Y⟩⟩
      |false=>exact bD ⟨rfl,o,2*o+1,rfl,by lia,by lia,by lia,Y⟩
end
section
variable{st:SortSt}
def TJ(U:kindOf st=iX)(J:IsI x)(z:IsI y)(h:Q (aa$ decide (ky x<ky y)) st):wpS (4:) A E s (lt' x y) Q st:=by
 obtain⟨x1,f⟩:=x;obtain⟨y1,e⟩:=y;obtain⟨a,t,d⟩:=J;obtain⟨b,u,c⟩:=z;subst d c;rw[lt'_eq];refine aV$ sH ?_;rw[U,keyLt'_oneType];refine aV$ tT$ wpAny_attempt$ oneLt_int ⟨rfl,?_⟩;exact bD h
def qU(z:arr[i]?=aa p)(h:Q p st):wpS (4:) A E s (lY arr i) Q st:=by rw[elem'_eq,z];exact bD h
def xB(hk:kindOf st=iX)(J:IsI z)(hI:∀p∈arr.toList,IsI p)(hb:base+n<=arr.size)(hs:Seg arr base (base+n))(U:Y<n)(h:∀r,r<=n->(∀i,base<=i->i<base+r->if left then K arr i<ky z else K arr i<=ky z)->(∀i,base+r<=i->i<base+n->if left then ky z<=K arr i else ky z<K arr i)->Q (aa r) st):wpS (4:) A E s (oF left z arr base n Y) Q st:=by
 rw[aAb];refine wp_gal (g:=λi=>if left then decide (K arr (base+i)<ky z)else decide (K arr (base+i)<=ky z)) ?_ ?_ U ?_
 . intro i R hi d;have b:base+i < arr.size:=by lia
   have e:=getElem?_pos arr (base+i) b;have c:IsI arr[base+i]:=hI _ (by simp);have f:K arr (base+i)=ky arr[base+i]:=K_eq b;refine aV$ qU e ?_;cases left with
   |true=>refine TJ hk c J ?_;rw[<-f];exact d
   |false=>
     refine aV$ TJ hk J c ?_;refine bD ?_;have:(Option.map (λx=>!x)$ aa$ decide (ky z<ky arr[base+i]))=aa (decide (K arr (base+i)<=ky z)):=by
      rw[f];by_cases a:ky z<ky arr[base+i]
      . simp[a,Int.not_le.mpr a]
      . simp[a,pY.mp a]
     rw[this];exact d
 . intro i j m v o;have:=hs (base+i) (base+j) (by simp_all) (by simp_all) (by simp_all);cases left<;>simp[bV,if_false,if_true,decide_eq_true_eq]at o ⊢<;>lia
 . rintro r ⟨u,t,q⟩;refine h r u (λi l k=>?_) λi l k=>?_
   . have:=t (i-base) (by lia);dsimp only at this;rw[show base+(i-base)=i by simp_all]at this;cases left<;>simpa using this
   . have:=q (i-base) (by lia) (by lia);dsimp only at this;rw[show base+(i-base)=i by lia]at this;cases left<;>simpa using this
end
def Sd(l:List Keyed):Prop:=l.Pairwise λp q=>ky p<=ky q
def Sd.app:Sd (l++r)↔Sd l/\Sd r/\∀p∈l,∀q∈r,ky p<=ky q:=by unfold Sd;rw[rX]
def uJ(h:Sd a.toList)(z:j<=a.size):Seg a i j:=by
 intro p q d c b;rw[K_eq$ show p<a.size by lia,K_eq$ show q<a.size by lia];by_cases e:p=q
 . subst e;exact dS _
 . have:=bX.mp h p q (by simp;grind) (by simp;lia) (by lia);simpa[ky]using this
def yV(h:a.toList[i]?=aa p):i<a.size/\K a i=ky p:=by
 obtain⟨d,c⟩:=bC.mp h;have b:i<a.size:=by simpa using d
 refine⟨b,?_⟩;rw[K_eq b,<-c];simp[ky]
def EA{l:List Keyed}(h:p∈l.drop x):∃i,x<=i/\l[i]?=aa p:=by obtain⟨i,hi,e⟩:=fJ h;refine⟨x+i,by simp_all,?_⟩;rw[<-oB,aR hi,e]
def jZ{l:List Keyed}(h:p∈(l.drop x).take k):∃i,x<=i/\i<x+k/\l[i]?=aa p:=by
 obtain⟨i,hi,e⟩:=fJ h;have a:i<k:=by rw[gL]at hi;grind
 refine⟨x+i,by simp_all,by simp_all,?_⟩;rw[<-oB,<-kN a,aR hi,e]
def vD{l:List Keyed}(h:p∈l.take k):∃i,i<k/\l[i]?=aa p:=by
 obtain⟨i,hi,e⟩:=fJ h;have a:i<k:=by rw[gL]at hi;grind
 exact⟨i,a,by rw[<-kN a,aR hi,e]⟩
def BI{a:Array Keyed}(h:Sd a.toList)(z:a.toList[x]?=aa p):∀q∈a.toList.drop x,ky p<=ky q:=by intro q b;obtain⟨i,d,c⟩:=EA b;obtain⟨j,g⟩:=yV z;obtain⟨f,e⟩:=yV c;rw[<-g,<-e];exact uJ h (aL _) x i (aL _) d f
def sd_take{a:Array Keyed}(h:Sd a.toList)(z:a.toList[x]?=aa p):∀q∈a.toList.take (x+1),ky q<=ky p:=by intro q b;obtain⟨i,g,c⟩:=vD b;obtain⟨f,e⟩:=yV z;obtain⟨j,d⟩:=yV c;rw[<-e,<-d];exact uJ h (aL _) i x (cI _) (by lia) f
structure Mg(a b:List Keyed)(o:List Keyed)(x y:Nat):Prop where
 xa:x<=a.length
 yb:y<=b.length
 pm:(o++(a.drop x++b.drop y)).Perm (a++b)
 sd:Sd o
 le:∀p∈o,∀q,(q∈a.drop x\/q∈b.drop y)->ky p<=ky q
def Mg.stepA(m:Mg a b o x y)(U:Sd a) t k(z:t=(a.drop x).take k)(J:x+k<=a.length)(h:∀p∈t,∀q∈b.drop y,ky p<=ky q):Mg a b (o++t) (x+k) y:=by
 have e:a.drop x=t++a.drop (x+k):=by rw[z,<-sC,hU]
 have i:Sd (t++a.drop (x+k)):=by rw[<-e];exact cF (iD ..) U
 obtain⟨g,j,f⟩:=Sd.app.mp i;refine⟨J,m.yb,?_,?_,?_⟩
 . have:=m.pm;rw[e]at this;rw[bL,<-bL t];exact this
 . exact Sd.app.mpr ⟨m.sd,g,λp d q c=>m.le p d q$ .inl$ by rw[e];exact aY _ c⟩
 . intro p d q c;rcases bE.mp d with d|d
   . refine m.le p d q ?_;rcases c with c|c
     . exact .inl (by rw[e];exact aI _ c)
     . exact .inr c
   . rcases c with c|c
     . exact f p d q c
     . exact h p d q c
def Mg.stepB(m:Mg a b o x y)(U:Sd b) t k(z:t=(b.drop y).take k)(J:y+k<=b.length)(h:∀p∈t,∀q∈a.drop x,ky p<=ky q):Mg a b (o++t) x (y+k):=by
 have e:b.drop y=t++b.drop (y+k):=by rw[z,<-sC,hU]
 have i:Sd (t++b.drop (y+k)):=by rw[<-e];exact cF (iD ..) U
 obtain⟨g,j,f⟩:=Sd.app.mp i;refine⟨m.xa,J,?_,?_,?_⟩
 . refine List.Perm.trans ?_ m.pm;rw[e,bL];refine gQ _ ?_;rw[<-bL,<-bL];exact kT _ mG
 . exact Sd.app.mpr ⟨m.sd,g,λp d q c=>m.le p d q$ .inr$ by rw[e];exact aY _ c⟩
 . intro p d q c;rcases bE.mp d with d|d
   . refine m.le p d q ?_;rcases c with c|c
     . exact .inl c
     . exact .inr (by rw[e];exact aI _ c)
   . rcases c with c|c
     . exact h p d q c
     . exact f p d q c
def Dn(a b:List Keyed)(r:List Keyed):Prop:=r.Perm (a++b)/\Sd r
def Mg.endF(m:Mg a b o x y)(J:Sd a)(z:Sd b)(h:x=a.length\/y=b.length):Dn a b (o++a.drop x++b.drop y):=by
 refine⟨by rw[bL];exact m.pm,?_⟩;rw[bL];refine Sd.app.mpr ⟨m.sd,?_,λp d q c=>m.le p d q$ bE.mp c⟩;rcases h with h|h
 . rw[h,mJ,dB];exact cF (iD ..) z
 . rw[h,mJ,cZ];exact cF (iD ..) J
def Mg.endA(m:Mg a b o x y)(J:Sd b)(h:x+1=a.length)(z:∀q∈b,∀p,a[a.length-1]?=aa p->ky q<=ky p):Dn a b (o++b.drop y++a.drop x):=by
 obtain⟨p,f⟩:=List.length_eq_one_iff.mp (show(a.drop x).length=1 by rw[AT];lia);have e:a[a.length-1]?=aa p:=by have:=oB (xs:=a) (i:=x) (j:=0);rw[f]at this;rw[show a.length-1=x+0 by lia,<-this];rfl
 refine⟨?_,?_⟩
 . refine List.Perm.trans ?_ m.pm;rw[bL];exact gQ _ mG
 . rw [bL];refine Sd.app.mpr ⟨m.sd,Sd.app.mpr ⟨cF (iD ..) J,?_,?_⟩,?_⟩
   . rw[f];exact eA _ _
   . intro q d r c;rw[f]at c;rw[aS.mp c];exact z q (sA d) p e
   . intro q d r c;rcases bE.mp c with c|c
     . exact m.le q d r$ .inr c
     . exact m.le q d r$ .inl c
noncomputable def DB:Array Keyed->Array Keyed->StateT SortSt Sem (Array Keyed):=sortPriv% PySem.Builtin.mergeLo
noncomputable def DC:Array Keyed->Array Keyed->StateT SortSt Sem (Array Keyed):=sortPriv% PySem.Builtin.mergeHi
noncomputable def setMG(g:Nat):StateT SortSt Sem Unit:=(sortPriv% PySem.Builtin.setMinGallop) g
abbrev gst(z:SortSt)(g:Nat):SortSt:=SortSt.mk' (kindOf z) (bU z) (bT z) g$ EU z
abbrev GS:=Option (Array Keyed)×Array Keyed×Nat×Nat×Nat×Nat×Nat
abbrev OS:=Option (Array Keyed)×Array Keyed×Nat×Nat×Nat×Nat
abbrev TSt:=Option (Array Keyed)×Array Keyed×Nat×Nat×Nat
noncomputable def fin(a b o:Array Keyed)(x y:Nat):Array Keyed:=o++a.extract x a.size++b.extract y b.size
noncomputable def finA(a b o:Array Keyed)(x y:Nat):Array Keyed:=o++b.extract y b.size++a.extract x a.size
noncomputable def lo3(a b o:Array Keyed)(x y mg ca cb:Nat):StateT SortSt Sem (ForInStep GS):=do
 let p <- lY a x
 if (x+1+1==a.size)=ae then pure (ForInStep.done (aa$ finA a b (o.push p) (x+1) y,o.push p,x+1,y,mg,ca,cb))
 else if (decide (ca<7)&&decide (cb<7))=ae then pure (ForInStep.done (ac,o.push p,x+1,y,mg,ca,cb))
 else pure (ForInStep.yield (ac,o.push p,x+1,y,mg,ca,cb))
noncomputable def lo2(a b o:Array Keyed)(x y mg ca cb:Nat):StateT SortSt Sem (ForInStep GS):=do
 let p <- lY b y
 if (y+1==b.size)=ae then pure (ForInStep.done (aa$ fin a b (o.push p) x$ y+1,o.push p,x,y+1,mg,ca,cb))
 else do
  let q <- lY a x
  let r <- oF ae q b (y+1) (b.size-(y+1)) 0
  match r with
   |some k=>
     if k>0 then
      if (y+1+k==b.size)=ae then pure (ForInStep.done (aa$ fin a b (o.push p++b.extract (y+1) (y+1+k)) x$ y+1+k,o.push p++b.extract (y+1) (y+1+k),x,y+1+k,mg,ca,k))
      else lo3 a b (o.push p++b.extract (y+1) (y+1+k)) x (y+1+k) mg ca k
     else lo3 a b (o.push p) x (y+1) mg ca k
   |_=>pure$ ForInStep.done (aa$ fin a b (o.push p) x$ y+1,o.push p,x,y+1,mg,ca,cb)
noncomputable def lo1(a b o:Array Keyed)(x y mg ca cb:Nat):StateT SortSt Sem (ForInStep GS):=do
 setMG mg
 let q <- lY b y
 let r <- oF ag q a x (a.size-x) 0
 match r with
  |some k=>
    if k>0 then
     if (x+k+1==a.size)=ae then pure (ForInStep.done (aa$ finA a b (o++a.extract x (x+k)) (x+k) y,o++a.extract x (x+k),x+k,y,mg,k,cb))
     else if (x+k==a.size)=ae then pure (ForInStep.done (aa$ fin a b (o++a.extract x (x+k)) (x+k) y,o++a.extract x (x+k),x+k,y,mg,k,cb))
     else lo2 a b (o++a.extract x (x+k)) (x+k) y mg k cb
    else lo2 a b o x y mg k cb
  |_=>pure$ ForInStep.done (aa$ fin a b o x y,o,x,y,mg,ca,cb)
noncomputable def loO(a b:Array Keyed)(mg:Nat)(c:OS):StateT SortSt Sem (ForInStep OS):=do
 let p <- lY b c.2.2.2.1
 let q <- lY a c.2.2.1
 let r <- lt' p q
 match r with
  |some bw=>
    if bw=ae then do
     let p <- lY b c.2.2.2.1
     if (c.2.2.2.1+1==b.size)=ae then pure (ForInStep.done (aa$ fin a b (c.2.1.push p) c.2.2.1$ c.2.2.2.1+1,c.2.1.push p,c.2.2.1,c.2.2.2.1+1,0,c.2.2.2.2.2+1))
     else if c.2.2.2.2.2+1≥mg then pure (ForInStep.done (ac,c.2.1.push p,c.2.2.1,c.2.2.2.1+1,0,c.2.2.2.2.2+1))
     else pure (ForInStep.yield (ac,c.2.1.push p,c.2.2.1,c.2.2.2.1+1,0,c.2.2.2.2.2+1))
    else do
     let p <- lY a c.2.2.1
     if (c.2.2.1+1+1==a.size)=ae then pure (ForInStep.done (aa$ finA a b (c.2.1.push p) (c.2.2.1+1) c.2.2.2.1,c.2.1.push p,c.2.2.1+1,c.2.2.2.1,c.2.2.2.2.1+1,0))
     else if c.2.2.2.2.1+1≥mg then pure (ForInStep.done (ac,c.2.1.push p,c.2.2.1+1,c.2.2.2.1,c.2.2.2.2.1+1,0))
     else pure (ForInStep.yield (ac,c.2.1.push p,c.2.2.1+1,c.2.2.2.1,c.2.2.2.2.1+1,0))
  |_=>pure$ ForInStep.done (aa$ fin a b c.2.1 c.2.2.1 c.2.2.2.1,c.2.1,c.2.2.1,c.2.2.2.1,c.2.2.2.2.1,c.2.2.2.2.2)
noncomputable def loT(a b:Array Keyed)(c:TSt):StateT SortSt Sem (ForInStep TSt):=do
 let d <- forIn [0:a.size+b.size] ((ac,c.2.1,c.2.2.1,c.2.2.2.1,0,0):OS) λ_ d=>loO a b c.2.2.2.2 d
 match d.1 with
  |some r=>pure$ ForInStep.done (aa r,d.2.1,d.2.2.1,d.2.2.2.1,c.2.2.2.2)
  |none=>do
    liftM (rule "list.sort.gallop")
    let e <- forIn [0:a.size+b.size] ((ac,d.2.1,d.2.2.1,d.2.2.2.1,c.2.2.2.2+1,d.2.2.2.2.1,d.2.2.2.2.2):GS) λ_ e =>if e.2.2.2.2.1>1 then lo1 a b e.2.1 e.2.2.1 e.2.2.2.1 (e.2.2.2.2.1-1) e.2.2.2.2.2.1 e.2.2.2.2.2.2 else lo1 a b e.2.1 e.2.2.1 e.2.2.2.1 e.2.2.2.2.1 e.2.2.2.2.2.1 e.2.2.2.2.2.2
    match e.1 with
     |some r=>pure$ ForInStep.done (aa r,e.2.1,e.2.2.1,e.2.2.2.1,e.2.2.2.2.1)
     |none=>do
       setMG (e.2.2.2.2.1+1)
       pure (ForInStep.yield (ac,e.2.1,e.2.2.1,e.2.2.2.1,e.2.2.2.2.1+1))
noncomputable def mLo(a b:Array Keyed):StateT SortSt Sem (Array Keyed):=do
 liftM (rule "list.sort.merge-lo")
 let p <- lY b 0
 if (1==b.size)=ae then pure (fin a b #[p] 0 1)
 else if (0+1==a.size)=ae then pure (finA a b #[p] 0 1)
 else do
  let z <- get
  let c <- forIn [0:a.size+b.size] ((ac,#[p],0,1,rP z):TSt) λ_ c=>loT a b c
  match c.1 with
   |some r=>pure r
   |none=>liftM (unsupported "internal:list.sort.merge-bound" : Sem (Array Keyed))
def QY a b:DB a b=mLo a b:=by kernel_rfl
structure Two(a b:Array Keyed):Prop where
 sa:Sd a.toList
 sb:Sd b.toList
 ia:∀p∈a.toList,IsI p
 ib:∀p∈b.toList,IsI p
 na:1<=a.size
 nb:1<=b.size
 fst:∀p∈a.toList,∀q,b.toList[0]?=some q->ky q<=ky p
 lst:∀q∈b.toList,∀p,a.toList[a.toList.length-1]?=some p->ky q<=ky p
def aGu a b o x y:(fin a b o x y).toList=o.toList++a.toList.drop x++b.toList.drop y:=by
 unfold fin;simp only[cX,eS,List.extract_eq_drop_take];congr 1
 . congr 1;rw[dM$ by simp]
 . rw[dM$ by simp]
def aAd a b o x y:(finA a b o x y).toList=o.toList++b.toList.drop y++a.toList.drop x:=by
 unfold finA;simp only[cX,eS,List.extract_eq_drop_take];congr 1
 . congr 1;rw[dM$ by simp]
 . rw[dM$ by simp]
def wY(a:Array Keyed) x k:(a.extract x$ x+k).toList=(a.toList.drop x).take k:=by simp only[eS,List.extract_eq_drop_take];congr 1;simp_all
def wW{l:List Keyed}(h:l[x]?=aa p):[p]=(l.drop x).take 1:=by obtain⟨b,a⟩:=bC.mp h;rw[dR b,a];rfl
def jU{a:Array Keyed}(h:x<a.size):∃p,a[x]?=aa p/\a.toList[x]?=aa p/\p∈a.toList:=
 ⟨a[x],getElem?_pos a x h,by rw[cL];exact getElem?_pos a x h,by simp⟩
section
variable{a b:Array Keyed}
structure In(a b o:Array Keyed)(x y:Nat):Prop where
 mg:Mg a.toList b.toList o.toList x y
 x1:x+1<a.size
 y1:y<b.size
def Told(a b:Array Keyed)(r:Array Keyed):Prop:=Dn a.toList b.toList r.toList
def Mg.pushA{o:Array Keyed}(T:Two a b)(m:Mg a.toList b.toList o.toList x y)(z:a.toList[x]?=aa p)(h:∀q∈b.toList.drop y,ky p<=ky q):Mg a.toList b.toList (o.push p).toList (x+1) y:=by
 rw[eG];refine m.stepA T.sa [p] 1 (wW z) ?_ λq c=>by rw[aS.mp c];exact h
 obtain⟨d,_⟩:=bC.mp z
 lia
def Mg.pushB{o:Array Keyed}(T:Two a b)(m:Mg a.toList b.toList o.toList x y)(z:b.toList[y]?=aa p)(h:∀q∈a.toList.drop x,ky p<=ky q):Mg a.toList b.toList (o.push p).toList x (y+1):=by
 rw[eG];refine m.stepB T.sb [p] 1 (wW z) ?_ λq c=>by rw[aS.mp c];exact h
 obtain⟨d,_⟩:=bC.mp z
 lia
def Mg.told(T:Two a b)(m:Mg a.toList b.toList o.toList x y)(h:x=a.size\/y=b.size):Told a b (fin a b o x y):=by unfold Told;rw[aGu];exact m.endF T.sa T.sb (by simpa using h)
def Mg.toldA(T:Two a b)(m:Mg a.toList b.toList o.toList x y)(h:x+1=a.size):Told a b (finA a b o x y):=by unfold Told;rw[aAd];exact m.endA T.sb (by simpa using h) T.lst
def GOk(a b:Array Keyed)(st:SortSt)(n:Nat)(c:GS)(z:SortSt):Prop:=
 (∃g,z=gst st g)/\((∃r o x y mg ca d,c=(aa r,o,x,y,mg,ca,d)/\Told a b r)\/∃o x y mg ca d,c=(ac,o,x,y,mg,ca,d)/\In a b o x y/\n<=x+y)
def OOk(a b:Array Keyed)(st:SortSt)(n:Nat)(c:OS)(z:SortSt):Prop:=
 (∃g,z=gst st g)/\((∃r o x y ca d,c=(aa r,o,x,y,ca,d)/\Told a b r)\/∃o x y ca d,c=(ac,o,x,y,ca,d)/\In a b o x y/\n<=x+y)
def aCe{st:SortSt}(T:Two a b)(m:In a b o x y)(Y:n<=x+y+1)(z:∀p,a.toList[x]?=aa p->∀q∈b.toList.drop y,ky p<=ky q)(hd:∀c,GOk a b st n c (gst st g)->Q (.done c) (gst st g))(U:∀o x y mg ca J,In a b o x y->n<=x+y->Q (.yield (ac,o,x,y,mg,ca,J)) (gst st g)):wpS (4:) A E s (lo3 a b o x y mg ca J) Q (gst st g):=by
 obtain⟨p,i,f,j⟩:=jU (a:=a) (x:=x) (by have:=m.x1;lia);have h:=m.mg.pushA T f$ z p f;refine aV$ qU i ?_;by_cases e:x+1+1=a.size
 . rw[if_pos$ by simpa using e];exact bD$ hd _ ⟨⟨g,rfl⟩,.inl ⟨_,_,_,_,_,_,_,rfl,h.toldA T e⟩⟩
 . rw [if_neg (by simpa using e)];have d:In a b (o.push p) (x+1) y:=⟨h,by have:=m.x1;lia,m.y1⟩
   split
   . exact bD (hd _ ⟨⟨g,rfl⟩,.inr ⟨_,_,_,_,_,_,rfl,d,by lia⟩⟩)
   . exact bD (U _ _ _ _ _ _ d$ by lia)
def aCf{st:SortSt}(Y:kindOf st=iX)(T:Two a b)(m:In a b o x y)(hn:n<=x+y+1)(z:∀p,b.toList[y]?=aa p->∀q∈a.toList.drop x,ky p<=ky q)(hd:∀c,GOk a b st n c (gst st g)->Q (.done c) (gst st g))(J:∀o x y mg ca U,In a b o x y->n<=x+y->Q (.yield (ac,o,x,y,mg,ca,U)) (gst st g)):wpS (4:) A E s (lo2 a b o x y mg ca U) Q (gst st g):=by
 obtain⟨p,O,H,V⟩:=jU m.y1;obtain⟨q,N,G,M⟩:=jU (a:=a) (x:=x) (by have:=m.x1;lia);have t:=m.mg.pushB T H$ z p H;refine aV$ qU O ?_;by_cases F:y+1=b.size
 . rw[if_pos$ by simpa using F];exact bD$ hd _ ⟨⟨g,rfl⟩,.inl ⟨_,_,_,_,_,_,_,rfl,t.told T$ .inr F⟩⟩
 . rw [if_neg (by simpa using F)];have D:y+1 < b.size:=by have:=m.y1;lia
   refine aV$ qU N ?_;refine aV (xB Y (T.ia q M) T.ib (by lia) (uJ T.sb$ by lia) (by lia) λk W R P=>?_);dsimp only;have d:∀j,j=y+1+k->∀r,a.toList[x]?=aa r->∀u∈b.toList.drop j,ky r<=ky u:=by rintro j rfl r e u h;rw[G]at e;cases e;obtain⟨i,C,B⟩:=EA h;obtain⟨L,K⟩:=yV B;rw[<-K];exact P i C (by lia)
   by_cases f:k>0
   . rw [if_pos f];have I:Mg a.toList b.toList (o.push p++b.extract (y+1) (y+1+k)).toList x (y+1+k):=by
      rw[cX];refine t.stepB T.sb _ k (wY b (y+1) k) (by rw[bH];grind) λu h v S=>?_;rw[wY]at h;obtain⟨i,C,B,L⟩:=jZ h;obtain⟨K,X⟩:=yV L;have:=R i C B;have l:=BI T.sa G v S
      lia
     by_cases l:y+1+k=b.size
     . rw[if_pos$ by simpa using l];exact bD$ hd _ ⟨⟨g,rfl⟩,.inl ⟨_,_,_,_,_,_,_,rfl,I.told T$ .inr l⟩⟩
     . rw[if_neg$ by simpa using l];exact aCe T ⟨I,m.x1,by grind⟩ (by lia) (d _ rfl) hd J
   . rw[if_neg f];exact aCe T ⟨t,m.x1,D⟩ (by lia) (d _$ by simp_all) hd J
def aCg{st:SortSt}(U:kindOf st=iX)(T:Two a b)(m:In a b o x y)(hn:n<=x+y+1)(hd:∀c z,GOk a b st n c z->Q (.done c) z)(Y:∀o x y mg ca J g,In a b o x y->n<=x+y->Q (.yield (ac,o,x,y,mg,ca,J)) (gst st g)):wpS (4:) A E s (lo1 a b o x y mg ca J) Q (gst st g):=by
 obtain⟨p,L,G,K⟩:=jU m.y1;have O:=m.x1;unfold lo1;refine aV$ nD ?_;refine aV$ qU L ?_;refine aV (xB U (T.ib p K) T.ia (by lia) (uJ T.sa$ by lia) (by lia) λk R N M=>?_);dsimp only;have d:∀j,j=x+k->∀t,b.toList[y]?=aa t->∀u∈a.toList.drop j,ky t<=ky u:=by rintro j rfl t f u q;rw[G]at f;cases f;obtain⟨i,D,C⟩:=EA q;obtain⟨I,H⟩:=yV C;rw[<-H];exact eJ (M i D$ by lia)
 by_cases l:k>0
 . rw [if_pos l];have B:Mg a.toList b.toList (o++a.extract x (x+k)).toList (x+k) y:=by
    rw[cX];refine m.mg.stepA T.sa _ k (wY a x k) (by rw[bH];lia) λu q v P=>?_;rw[wY]at q;obtain⟨i,D,C,I⟩:=jZ q;obtain⟨H,S⟩:=yV I;have:=N i D C;have r:=BI T.sb G v P
    lia
   by_cases F:x+k+1=a.size
   . rw[if_pos$ by simpa using F];exact bD$ hd _ _ ⟨⟨_,rfl⟩,.inl ⟨_,_,_,_,_,_,_,rfl,B.toldA T F⟩⟩
   rw[if_neg$ by simpa using F];by_cases r:x+k=a.size
   . rw[if_pos$ by simpa using r];exact bD$ hd _ _ ⟨⟨_,rfl⟩,.inl ⟨_,_,_,_,_,_,_,rfl,B.told T$ .inl r⟩⟩
   rw[if_neg$ by simpa using r];exact aCf U T ⟨B,by grind,m.y1⟩ (by lia) (d _ rfl) (λc h=>hd c _ h) λo x y e ca J=>Y o x y e ca J mg
 . rw[if_neg l];exact aCf U T m hn (d _$ by simp_all) (λc h=>hd c _ h) λo x y e ca J=>Y o x y e ca J mg
def wp_loO{st:SortSt}(U:kindOf st=iX)(T:Two a b)(m:In a b o x y)(Y:n<=x+y+1)(hd:∀c,OOk a b st n c (gst st g)->Q (.done c) (gst st g))(z:∀o x y ca J,In a b o x y->n<=x+y->Q (.yield (ac,o,x,y,ca,J)) (gst st g)):wpS (4:) A E s (loO a b mg (ac,o,x,y,ca,J)) Q (gst st g):=by
 obtain⟨p,v,t,C⟩:=jU m.y1;obtain⟨q,r,l,B⟩:=jU (a:=a) (x:=x) (by have:=m.x1;lia);have j:=m.x1;have i:=m.y1;unfold loO;refine aV$ qU v$ aV$ qU r ?_;refine aV$ TJ U (T.ib p C) (T.ia q B) ?_;dsimp only;by_cases h:ky p<ky q
 . rw [if_pos (by simpa using h)];have f:=m.mg.pushB T t λu k=>fO (eJ h) (BI T.sa l u k);refine aV (qU v ?_);by_cases e:y+1=b.size
   . rw[if_pos$ by simpa using e];exact bD$ hd _ ⟨⟨_,rfl⟩,.inl ⟨_,_,_,_,_,_,rfl,f.told T$ .inr e⟩⟩
   rw[if_neg$ by simpa using e];have d:In a b (o.push p) x (y+1):=⟨f,j,by lia⟩
   split
   . exact bD (hd _ ⟨⟨_,rfl⟩,.inr ⟨_,_,_,_,_,rfl,d,by lia⟩⟩)
   . exact bD (z _ _ _ _ _ d$ by lia)
 . rw [if_neg (by simpa using h)];have f:=m.mg.pushA T l λu k=>fO (pY.mp h) (BI T.sb t u k);refine aV (qU r ?_);by_cases e:x+1+1=a.size
   . rw[if_pos$ by simpa using e];exact bD$ hd _ ⟨⟨_,rfl⟩,.inl ⟨_,_,_,_,_,_,rfl,f.toldA T e⟩⟩
   rw[if_neg$ by simpa using e];have d:In a b (o.push q) (x+1) y:=⟨f,by lia,i⟩
   split
   . exact bD (hd _ ⟨⟨_,rfl⟩,.inr ⟨_,_,_,_,_,rfl,d,by lia⟩⟩)
   . exact bD (z _ _ _ _ _ d$ by lia)
def wp_loT{st:SortSt}(hk:kindOf st=iX)(T:Two a b)(m:In a b o x y)(hd:∀r o x y mg g,Told a b r->Q (.done (aa r,o,x,y,mg)) (gst st g))(hy:∀Y U J mg g,In a b Y U J->x+y+1<=U+J->Q (.yield (ac,Y,U,J,mg)) (gst st g)):wpS (4:) A E s (loT a b (ac,o,x,y,mg)) Q (gst st g):=by
 have B:=T.na;unfold loT
 refine aV (gX (dH (I:=λi c z=>∃Y U J ca d g,c=(ac,Y,U,J,ca,d)/\z=gst st g/\In a b Y U J/\x+y+i<=U+J)
  (Q:=λc z=>OOk a b st (x+y+1) c z) ?s1 ?s2 ⟨o,x,y,0,0,g,rfl,rfl,m,by simp_all⟩) ?s3)
 case s2=>rintro c z ⟨Y,U,J,ca,d,u,rfl,rfl,p,t⟩;exact⟨⟨_,rfl⟩,.inr ⟨_,_,_,_,_,rfl,p,by lia⟩⟩
 case s1 =>
  rintro i c z _ hi ⟨Y,U,J,ca,d,u,rfl,rfl,p,t⟩;refine wp_loO hk T p (by lia) (λc n=>?_) λk j h ca d l f=>⟨k,j,h,ca,d,u,rfl,rfl,l,f⟩
  obtain⟨C,f⟩:=n;refine⟨C,?_⟩;rcases f with f|⟨k,j,h,ca,d,e,l,f⟩
  . exact .inl f
  . exact .inr ⟨k,j,h,ca,d,e,l,by lia⟩
 case s3 =>
  rintro c z ⟨⟨u,rfl⟩,n⟩;rcases n with⟨r,k,j,h,ca,d,rfl,v⟩|⟨k,j,h,ca,d,rfl,l,f⟩
  . dsimp only;exact bD$ hd _ _ _ _ _ _ v
  . dsimp only;refine aV (tT (lK ⟨rfl,?_⟩))
    refine aV (gX (dH (I:=λi c z=>∃Y U J mg ca d g,c=(ac,Y,U,J,mg,ca,d)/\z=gst st g/\In a b Y U J/\x+y+1<=U+J)
     (Q:=λc z=>GOk a b st (x+y+1) c z) ?s4 ?s5 ⟨k,j,h,mg+1,ca,d,u,rfl,rfl,l,f⟩) ?s6)
    case s5=>rintro c z ⟨Y,U,J,q,ca,d,u,rfl,rfl,p,t⟩;exact⟨⟨_,rfl⟩,.inr ⟨_,_,_,_,_,_,rfl,p,by omega⟩⟩
    case s4 =>
     rintro i c z _ hi ⟨Y,U,J,q,ca,d,u,rfl,rfl,p,t⟩;split
     . exact aCg hk T p (by lia) (λc z n=>n) λk j h mg ca d g l f=>⟨k,j,h,mg,ca,d,g,rfl,rfl,l,f⟩
     . exact aCg hk T p (by lia) (λc z n=>n) λk j h mg ca d g l f=>⟨k,j,h,mg,ca,d,g,rfl,rfl,l,f⟩
    case s6 =>
     rintro c z ⟨⟨u,rfl⟩,n⟩;rcases n with⟨r,k,j,h,q,ca,d,rfl,v⟩|⟨k,j,h,q,ca,d,rfl,l,f⟩
     . dsimp only;exact bD$ hd _ _ _ _ _ _ v
     . dsimp only;exact aV$ nD$ bD$ hy _ _ _ _ _ l f
def PK{st:SortSt}(hk:kindOf st=iX)(T:Two a b)(h:∀r g,Told a b r->Q r (gst st g)):wpS (4:) A E s (DB a b) Q st:=by
 have C:=T.na;have B:=T.nb;obtain⟨p,l,k,D⟩:=jU (a:=b) (x:=0) (by lia);have t:Mg a.toList b.toList [] 0 0:=⟨cI _,cI _,by simp,List.Pairwise.nil,λp v=>absurd v$ by simp⟩
 have n:=t;have m:=n.pushB T k λq u=>T.fst q (sA u) p k;rw[QY];refine aV$ tT$ lK ⟨rfl,?_⟩;refine aV$ qU l ?_;by_cases j:1=b.size
 . rw[if_pos$ by simpa using j];exact bD$ h _ (rP st)$ m.told T$ .inr j
 rw[if_neg$ by simpa using j];by_cases f:0+1=a.size
 . rw[if_pos$ by simpa using f];exact bD$ h _ (rP st)$ m.toldA T f
 rw[if_neg$ by simpa using f];refine aV$ sH ?_
 refine aV (gX (dH (I:=λi c z=>∃o x y mg g,c=(ac,o,x,y,mg)/\z=gst st g/\In a b o x y/\i+1<=x+y)
  (Q:=λc z=>∃r o x y mg g,c=(aa r,o,x,y,mg)/\z=gst st g/\Told a b r) ?Y ?U ⟨#[p],0,1,_,rP st,rfl,rfl,⟨m,by lia,by lia⟩,by lia⟩) ?J)
 case U =>
  rintro c z ⟨o,x,y,mg,g,rfl,rfl,m,e⟩;have:=m.x1;have:=m.y1
  lia
 case Y=>rintro i c z _ hi ⟨o,x,y,mg,g,rfl,rfl,m,e⟩;exact wp_loT hk T m (λr o x y mg g d=>⟨r,o,x,y,mg,g,rfl,rfl,d⟩) λo x y mg g m h=>⟨o,x,y,mg,g,rfl,rfl,m,by lia⟩
 case J=>rintro c z ⟨r,o,x,y,mg,g,rfl,rfl,d⟩;exact bD$ h r g d
end
noncomputable def fiH(a b o:Array Keyed)(x y:Nat):Array Keyed:=a.extract 0 x++b.extract 0 y++o.reverse
noncomputable def fiB(a b o:Array Keyed)(x y:Nat):Array Keyed:=b.extract 0 y++a.extract 0 x++o.reverse
abbrev GH:=Option (Array Keyed)×Nat×Nat×Array Keyed×Nat×Nat×Nat
abbrev OH:=Option (Array Keyed)×Nat×Nat×Array Keyed×Nat×Nat
abbrev TH:=Option (Array Keyed)×Nat×Nat×Array Keyed×Nat
noncomputable def hi3(a b o:Array Keyed)(x y mg ca cb:Nat):StateT SortSt Sem (ForInStep GH):=do
 let p <- lY a (x-1)
 if (x-1==0)=ae then pure (ForInStep.done (aa$ fiH a b (o.push p) (x-1) y,x-1,y,o.push p,mg,ca,cb))
 else if (decide (ca<7)&&decide (cb<7))=ae then pure (ForInStep.done (ac,x-1,y,o.push p,mg,ca,cb))
 else pure (ForInStep.yield (ac,x-1,y,o.push p,mg,ca,cb))
noncomputable def hi2(a b o:Array Keyed)(x y mg ca cb:Nat):StateT SortSt Sem (ForInStep GH):=do
 let p <- lY b (y-1)
 if (y-1==1)=ae then pure (ForInStep.done (aa$ fiB a b (o.push p) x$ y-1,x,y-1,o.push p,mg,ca,cb))
 else do
  let q <- lY a (x-1)
  let r <- oF ae q b 0 (y-1) (y-1-1)
  match r with
   |some t=>
     if y-1-t>0 then
      if (t==1)=ae then pure (ForInStep.done (aa$ fiB a b (o.push p++(b.extract t$ y-1).reverse) x t,x,t,o.push p++(b.extract t$ y-1).reverse,mg,ca,y-1-t))
      else if (t==0)=ae then pure (ForInStep.done (aa$ fiH a b (o.push p++(b.extract t$ y-1).reverse) x t,x,t,o.push p++(b.extract t$ y-1).reverse,mg,ca,y-1-t))
      else hi3 a b (o.push p++(b.extract t$ y-1).reverse) x t mg ca (y-1-t)
     else hi3 a b (o.push p) x (y-1) mg ca (y-1-t)
   |_=>pure$ ForInStep.done (aa$ fiH a b (o.push p) x$ y-1,x,y-1,o.push p,mg,ca,cb)
noncomputable def hi1(a b o:Array Keyed)(x y mg ca cb:Nat):StateT SortSt Sem (ForInStep GH):=do
 setMG mg
 let q <- lY b (y-1)
 let r <- oF ag q a 0 x (x-1)
 match r with
  |some t=>
    if x-t>0 then
     if (t==0)=ae then pure (ForInStep.done (aa$ fiH a b (o++(a.extract t x).reverse) t y,t,y,o++(a.extract t x).reverse,mg,x-t,cb))
     else hi2 a b (o++(a.extract t x).reverse) t y mg (x-t) cb
    else hi2 a b o x y mg (x-t) cb
  |_=>pure$ ForInStep.done (aa$ fiH a b o x y,x,y,o,mg,ca,cb)
noncomputable def hiO(a b:Array Keyed)(mg:Nat)(c:OH):StateT SortSt Sem (ForInStep OH):=do
 let p <- lY b (c.2.2.1-1)
 let q <- lY a (c.2.1-1)
 let r <- lt' p q
 match r with
  |some aw=>
    if aw=ae then do
     let p <- lY a (c.2.1-1)
     if (c.2.1-1==0)=ae then pure (ForInStep.done (aa$ fiH a b (c.2.2.2.1.push p) (c.2.1-1) c.2.2.1,c.2.1-1,c.2.2.1,c.2.2.2.1.push p,c.2.2.2.2.1+1,0))
     else if c.2.2.2.2.1+1≥mg then pure (ForInStep.done (ac,c.2.1-1,c.2.2.1,c.2.2.2.1.push p,c.2.2.2.2.1+1,0))
     else pure (ForInStep.yield (ac,c.2.1-1,c.2.2.1,c.2.2.2.1.push p,c.2.2.2.2.1+1,0))
    else do
     let p <- lY b (c.2.2.1-1)
     if (c.2.2.1-1==1)=ae then pure (ForInStep.done (aa$ fiB a b (c.2.2.2.1.push p) c.2.1$ c.2.2.1-1,c.2.1,c.2.2.1-1,c.2.2.2.1.push p,0,c.2.2.2.2.2+1))
     else if c.2.2.2.2.2+1≥mg then pure (ForInStep.done (ac,c.2.1,c.2.2.1-1,c.2.2.2.1.push p,0,c.2.2.2.2.2+1))
     else pure (ForInStep.yield (ac,c.2.1,c.2.2.1-1,c.2.2.2.1.push p,0,c.2.2.2.2.2+1))
  |_=>pure$ ForInStep.done (aa$ fiH a b c.2.2.2.1 c.2.1 c.2.2.1,c.2.1,c.2.2.1,c.2.2.2.1,c.2.2.2.2.1,c.2.2.2.2.2)
noncomputable def hiT(a b:Array Keyed)(c:TH):StateT SortSt Sem (ForInStep TH):=do
 let d <- forIn [0:a.size+b.size] ((ac,c.2.1,c.2.2.1,c.2.2.2.1,0,0):OH) λ_ d=>hiO a b c.2.2.2.2 d
 match d.1 with
  |some r=>pure$ ForInStep.done (aa r,d.2.1,d.2.2.1,d.2.2.2.1,c.2.2.2.2)
  |none=>do
    liftM (rule "list.sort.gallop")
    let e <- forIn [0:a.size+b.size] ((ac,d.2.1,d.2.2.1,d.2.2.2.1,c.2.2.2.2+1,d.2.2.2.2.1,d.2.2.2.2.2):GH) λ_ e =>if e.2.2.2.2.1>1 then hi1 a b e.2.2.2.1 e.2.1 e.2.2.1 (e.2.2.2.2.1-1) e.2.2.2.2.2.1 e.2.2.2.2.2.2 else hi1 a b e.2.2.2.1 e.2.1 e.2.2.1 e.2.2.2.2.1 e.2.2.2.2.2.1 e.2.2.2.2.2.2
    match e.1 with
     |some r=>pure$ ForInStep.done (aa r,e.2.1,e.2.2.1,e.2.2.2.1,e.2.2.2.2.1)
     |none=>do
       setMG (e.2.2.2.2.1+1)
       pure (ForInStep.yield (ac,e.2.1,e.2.2.1,e.2.2.2.1,e.2.2.2.2.1+1))
noncomputable def mHi(a b:Array Keyed):StateT SortSt Sem (Array Keyed):=do
 liftM (rule "list.sort.merge-hi")
 let p <- lY a (a.size-1)
 if (a.size-1==0)=ae then pure (fiH a b #[p] (a.size-1) b.size)
 else if (b.size==1)=ae then pure (fiB a b #[p] (a.size-1) b.size)
 else do
  let z <- get
  let c <- forIn [0:a.size+b.size] ((ac,a.size-1,b.size,#[p],rP z):TH) λ_ c=>hiT a b c
  match c.1 with
   |some r=>pure r
   |none=>liftM (unsupported "internal:list.sort.merge-bound" : Sem (Array Keyed))
def QZ a b:DC a b=mHi a b:=by kernel_rfl
structure Mh(a b:List Keyed)(o:List Keyed)(x y:Nat):Prop where
 xa:x<=a.length
 yb:y<=b.length
 pm:((a.take x++b.take y)++o.reverse).Perm (a++b)
 sd:Sd o.reverse
 le:∀p∈o,∀q,(q∈a.take x\/q∈b.take y)->ky q<=ky p
def LO(l:List Keyed)(h:j<=x):l.take x=l.take j++(l.drop j).take (x-j):=by conv=>lhs;rw[show x=j+(x-j) by simp_all,List.take_add]
def Mh.stepA(m:Mh a b o x y)(U:Sd a) t j(J:t=(a.drop j).take (x-j))(z:j<=x)(h:∀p∈t,∀q∈b.take y,ky q<=ky p):Mh a b (o++t.reverse) j y:=by
 have e:a.take x=a.take j++t:=by rw[J];exact LO a z
 have i:Sd (a.take j++t):=by rw[<-e];exact cF (gB ..) U
 obtain⟨k,g,f⟩:=Sd.app.mp i;refine⟨cS z m.xa,m.yb,?_,?_,?_⟩
 . refine List.Perm.trans ?_ m.pm;rw[e,iT,mS,<-bL];refine kT _ ?_;rw[bL,bL];exact gQ _ mG
 . rw[iT,mS];exact Sd.app.mpr ⟨g,m.sd,λq c p d=>m.le p (cR.mp d) q$ .inl$ by rw[e];exact aI _ c⟩
 . intro p d q c;rcases bE.mp d with d|d
   . refine m.le p d q ?_;rcases c with c|c
     . exact .inl (by rw[e];exact aY _ c)
     . exact .inr c
   . rcases c with c|c
     . exact f q c p$ cR.mp d
     . exact h p (cR.mp d) q c
def Mh.stepB(m:Mh a b o x y)(U:Sd b) t j(J:t=(b.drop j).take (y-j))(z:j<=y)(h:∀p∈t,∀q∈a.take x,ky q<=ky p):Mh a b (o++t.reverse) x j:=by
 have e:b.take y=b.take j++t:=by rw[J];exact LO b z
 have i:Sd (b.take j++t):=by rw[<-e];exact cF (gB ..) U
 obtain⟨k,g,f⟩:=Sd.app.mp i;refine⟨m.xa,cS z m.yb,?_,?_,?_⟩
 . refine List.Perm.trans ?_ m.pm;rw[e,iT,mS,<-bL,<-bL]
 . rw[iT,mS];exact Sd.app.mpr ⟨g,m.sd,λq c p d=>m.le p (cR.mp d) q$ .inr$ by rw[e];exact aI _ c⟩
 . intro p d q c;rcases bE.mp d with d|d
   . refine m.le p d q ?_;rcases c with c|c
     . exact .inl c
     . exact .inr (by rw[e];exact aY _ c)
   . rcases c with c|c
     . exact h p (cR.mp d) q c
     . exact f q c p$ cR.mp d
def Mh.endF(m:Mh a b o x y)(J:Sd a)(z:Sd b)(h:x=0\/y=0):Dn a b (a.take x++b.take y++o.reverse):=by
 refine⟨m.pm,Sd.app.mpr ⟨?_,m.sd,λq c p d=>m.le p (cR.mp d) q$ bE.mp c⟩⟩;rcases h with h|h
 . rw[h,List.take_zero,dB];exact cF (gB ..) z
 . rw[h,List.take_zero,cZ];exact cF (gB ..) J
def Mh.endB(m:Mh a b o x y)(J:Sd a)(h:y=1)(z:∀p∈a,∀q,b[0]?=aa q->ky q<=ky p):Dn a b (b.take y++a.take x++o.reverse):=by
 subst h;refine⟨?_,Sd.app.mpr ⟨Sd.app.mpr ⟨?_,cF (gB ..) J,?_⟩,m.sd,?_⟩⟩
 . refine List.Perm.trans ?_ m.pm;exact kT _ mG
 . match b with
   |[]=>exact List.Pairwise.nil
   |q::r=>exact eA _ _
 . intro q c p d;obtain ⟨i,f,e⟩:=vD c;have:i=0:=by simp_all
   subst this;exact z p (rZ d) q e
 . intro q c p d;refine m.le p (cR.mp d) q ?_;rcases bE.mp c with h|h
   . exact .inr h
   . exact .inl h
def aGv a b o x y:(fiH a b o x y).toList=a.toList.take x++b.toList.take y++o.toList.reverse:=by unfold fiH;simp only[cX,eS,List.extract_eq_drop_take,mO,sB,OV]
def aGw a b o x y:(fiB a b o x y).toList=b.toList.take y++a.toList.take x++o.toList.reverse:=by unfold fiB;simp only[cX,eS,List.extract_eq_drop_take,mO,sB,OV]
def yW(a:Array Keyed) j x:(a.extract j x).toList=(a.toList.drop j).take (x-j):=by simp only[eS,List.extract_eq_drop_take]
section
variable{a b:Array Keyed}
structure InH(a b o:Array Keyed)(x y:Nat):Prop where
 mh:Mh a.toList b.toList o.toList x y
 x1:1<=x
 y1:2<=y
def Mh.pushA{o:Array Keyed}(T:Two a b)(m:Mh a.toList b.toList o.toList x y)(J:1<=x)(z:a.toList[x-1]?=aa p)(h:∀q∈b.toList.take y,ky q<=ky p):Mh a.toList b.toList (o.push p).toList (x-1) y:=by
 rw[eG];exact m.stepA T.sa [p] (x-1) (by rw[show x-(x-1)=1 by grind];exact wW z) (by simp_all) λq c=>by rw[aS.mp c];exact h
def Mh.pushB{o:Array Keyed}(T:Two a b)(m:Mh a.toList b.toList o.toList x y)(J:1<=y)(z:b.toList[y-1]?=aa p)(h:∀q∈a.toList.take x,ky q<=ky p):Mh a.toList b.toList (o.push p).toList x (y-1):=by
 rw[eG];exact m.stepB T.sb [p] (y-1) (by rw[show y-(y-1)=1 by grind];exact wW z) (by simp_all) λq c=>by rw[aS.mp c];exact h
def Mh.told(T:Two a b)(m:Mh a.toList b.toList o.toList x y)(h:x=0\/y=0):Told a b (fiH a b o x y):=by unfold Told;rw[aGv];exact m.endF T.sa T.sb h
def Mh.toldB(T:Two a b)(m:Mh a.toList b.toList o.toList x y)(h:y=1):Told a b (fiB a b o x y):=by unfold Told;rw[aGw];exact m.endB T.sa h T.fst
def GHok(a b:Array Keyed)(st:SortSt)(n:Nat)(c:GH)(z:SortSt):Prop:=
 (∃g,z=gst st g)/\((∃r x y o mg ca d,c=(aa r,x,y,o,mg,ca,d)/\Told a b r)\/∃x y o mg ca d,c=(ac,x,y,o,mg,ca,d)/\InH a b o x y/\x+y<=n)
def OHok(a b:Array Keyed)(st:SortSt)(n:Nat)(c:OH)(z:SortSt):Prop:=
 (∃g,z=gst st g)/\((∃r x y o ca d,c=(aa r,x,y,o,ca,d)/\Told a b r)\/∃x y o ca d,c=(ac,x,y,o,ca,d)/\InH a b o x y/\x+y<=n)
def InH.xs(m:InH a b o x y):x-1<a.size:=by have:=m.mh.xa;have:=m.x1;rw[bH]at *;lia
def InH.ys(m:InH a b o x y):y-1<b.size:=by have:=m.mh.yb;have:=m.y1;rw[bH]at *;lia
def JA{c:Array Keyed}(h:Sd c.toList)(J:1<=x)(z:c.toList[x-1]?=aa p):∀q∈c.toList.take x,ky q<=ky p:=by have:=sd_take h z;rwa [show x-1+1=x by simp_all]at this
def aCh{st:SortSt}(T:Two a b)(m:InH a b o x y)(Y:x+y<=n+1)(z:∀p,a.toList[x-1]?=aa p->∀q∈b.toList.take y,ky q<=ky p)(hd:∀c,GHok a b st n c (gst st g)->Q (.done c) (gst st g))(U:∀x y o mg ca J,InH a b o x y->x+y<=n->Q (.yield (ac,x,y,o,mg,ca,J)) (gst st g)):wpS (4:) A E s (hi3 a b o x y mg ca J) Q (gst st g):=by
 obtain⟨p,i,f,k⟩:=jU m.xs;have j:=m.x1;have h:=m.mh.pushA T j f$ z p f;refine aV$ qU i ?_;by_cases e:x-1=0
 . rw[if_pos$ by simpa using e];exact bD$ hd _ ⟨⟨g,rfl⟩,.inl ⟨_,_,_,_,_,_,_,rfl,h.told T$ .inl e⟩⟩
 . rw [if_neg (by simpa using e)];have d:InH a b (o.push p) (x - 1) y:=⟨h,by lia,m.y1⟩
   split
   . exact bD (hd _ ⟨⟨g,rfl⟩,.inr ⟨_,_,_,_,_,_,rfl,d,by lia⟩⟩)
   . exact bD (U _ _ _ _ _ _ d$ by lia)
def aCi{st:SortSt}(Y:kindOf st=iX)(T:Two a b)(m:InH a b o x y)(hn:x+y<=n+1)(z:∀p,b.toList[y-1]?=aa p->∀q∈a.toList.take x,ky q<=ky p)(hd:∀c,GHok a b st n c (gst st g)->Q (.done c) (gst st g))(J:∀x y o mg ca U,InH a b o x y->x+y<=n->Q (.yield (ac,x,y,o,mg,ca,U)) (gst st g)):wpS (4:) A E s (hi2 a b o x y mg ca U) Q (gst st g):=by
 obtain⟨p,R,H,Z⟩:=jU m.ys;obtain⟨q,P,G,O⟩:=jU m.xs;have C:=m.x1;have W:=m.y1;have V:=m.ys;have r:=m.mh.pushB T (by lia) H$ z p H;refine aV$ qU R ?_;by_cases F:y-1=1
 . rw[if_pos$ by simpa using F];exact bD$ hd _ ⟨⟨g,rfl⟩,.inl ⟨_,_,_,_,_,_,_,rfl,r.toldB T F⟩⟩
 . rw [if_neg (by simpa using F)];refine aV (qU P ?_);refine aV (xB Y (T.ia q O) T.ib (by lia) (uJ T.sb (by lia)) (by lia) λt S K I=>?_);simp only [if_true,OU]at K I;dsimp only;have d:∀j,j=t->∀p',a.toList[x-1]?=aa p'->∀u∈b.toList.take j,ky u<=ky p':=by rintro j rfl p' e u h;rw[G]at e;cases e;obtain⟨i,B,N⟩:=vD h;obtain⟨M,L⟩:=yV N;rw[<-L];exact eJ (K i (cI _) B)
   by_cases f:y-1-t>0
   . rw [if_pos f];have l:Mh a.toList b.toList (o.push p++(b.extract t (y-1)).reverse).toList x t:=by
      rw[cX,mO];refine r.stepB T.sb _ t (yW b t$ y-1) S λu h v X=>?_;rw[yW]at h;obtain⟨i,B,N,M⟩:=jZ h;obtain⟨L,i5⟩:=yV M;have:=I i B (by simp_all);have k:=JA T.sa C G v X
      lia
     by_cases k:t=1
     . rw[if_pos$ by simpa using k];exact bD$ hd _ ⟨⟨g,rfl⟩,.inl ⟨_,_,_,_,_,_,_,rfl,l.toldB T k⟩⟩
     rw[if_neg$ by simpa using k];by_cases D:t=0
     . rw[if_pos$ by simpa using D];exact bD$ hd _ ⟨⟨g,rfl⟩,.inl ⟨_,_,_,_,_,_,_,rfl,l.told T$ .inr D⟩⟩
     rw[if_neg$ by simpa using D];exact aCh T ⟨l,C,by lia⟩ (by lia) (d _ rfl) hd J
   . rw[if_neg f];exact aCh T ⟨r,C,by grind⟩ (by lia) (d _$ by grind) hd J
def aCj{st:SortSt}(U:kindOf st=iX)(T:Two a b)(m:InH a b o x y)(hn:x+y<=n+1)(hd:∀c z,GHok a b st n c z->Q (.done c) z)(Y:∀x y o mg ca J g,InH a b o x y->x+y<=n->Q (.yield (ac,x,y,o,mg,ca,J)) (gst st g)):wpS (4:) A E s (hi1 a b o x y mg ca J) Q (gst st g):=by
 obtain⟨p,M,C,L⟩:=jU m.ys;have S:=m.x1;have r:=m.y1;have O:=m.xs;unfold hi1;refine aV$ nD ?_;refine aV$ qU M ?_;refine aV (xB U (T.ib p L) T.ia (by lia) (uJ T.sa$ by lia) (by lia) λt N G F=>?_);simp only[bV,if_false,OU]at G F;dsimp only;have d:∀j,j=t->∀p',b.toList[y-1]?=aa p'->∀u∈a.toList.take j,ky u<=ky p':=by rintro j rfl p' f u l;rw[C]at f;cases f;obtain⟨i,q,K⟩:=vD l;obtain⟨I,H⟩:=yV K;rw[<-H];exact G i (cI _) q
 by_cases k:x-t>0
 . rw [if_pos k];have D:Mh a.toList b.toList (o++(a.extract t x).reverse).toList t y:=by
    rw[cX,mO];refine m.mh.stepA T.sa _ t (yW a t x) N λu l v P=>?_;rw[yW]at l;obtain⟨i,q,K,I⟩:=jZ l;obtain⟨H,R⟩:=yV I;have:=F i q (by simp_all);have V:=JA T.sb (by lia) C v P
    lia
   by_cases B:t=0
   . rw[if_pos$ by simpa using B];exact bD$ hd _ _ ⟨⟨_,rfl⟩,.inl ⟨_,_,_,_,_,_,_,rfl,D.told T$ .inl B⟩⟩
   rw[if_neg$ by simpa using B];exact aCi U T ⟨D,by lia,r⟩ (by lia) (d _ rfl) (λc h=>hd c _ h) λx y o e ca J=>Y x y o e ca J mg
 . rw[if_neg k];exact aCi U T m hn (d _$ by grind) (λc h=>hd c _ h) λx y o e ca J=>Y x y o e ca J mg
def wp_hiO{st:SortSt}(U:kindOf st=iX)(T:Two a b)(m:InH a b o x y)(Y:x+y<=n+1)(hd:∀c,OHok a b st n c (gst st g)->Q (.done c) (gst st g))(z:∀x y o ca J,InH a b o x y->x+y<=n->Q (.yield (ac,x,y,o,ca,J)) (gst st g)):wpS (4:) A E s (hiO a b mg (ac,x,y,o,ca,J)) Q (gst st g):=by
 obtain⟨p,v,t,C⟩:=jU m.ys;obtain⟨q,r,l,B⟩:=jU m.xs;have j:=m.x1;have i:=m.y1;unfold hiO;refine aV$ qU v$ aV$ qU r ?_;refine aV$ TJ U (T.ib p C) (T.ia q B) ?_;dsimp only;by_cases h:ky p<ky q
 . rw [if_pos (by simpa using h)];have f:=m.mh.pushA T j l λu k=>fO (JA T.sb (by lia) t u k) (eJ h);refine aV (qU r ?_);by_cases e:x-1=0
   . rw[if_pos$ by simpa using e];exact bD$ hd _ ⟨⟨_,rfl⟩,.inl ⟨_,_,_,_,_,_,rfl,f.told T$ .inl e⟩⟩
   rw[if_neg$ by simpa using e];have d:InH a b (o.push q) (x-1) y:=⟨f,by lia,i⟩
   split
   . exact bD (hd _ ⟨⟨_,rfl⟩,.inr ⟨_,_,_,_,_,rfl,d,by lia⟩⟩)
   . exact bD (z _ _ _ _ _ d$ by lia)
 . rw [if_neg (by simpa using h)];have f:=m.mh.pushB T (by lia) t λu k=>fO (JA T.sa j l u k) (pY.mp h);refine aV (qU v ?_);by_cases e:y-1=1
   . rw[if_pos$ by simpa using e];exact bD$ hd _ ⟨⟨_,rfl⟩,.inl ⟨_,_,_,_,_,_,rfl,f.toldB T e⟩⟩
   rw[if_neg$ by simpa using e];have d:InH a b (o.push p) x (y-1):=⟨f,j,by lia⟩
   split
   . exact bD (hd _ ⟨⟨_,rfl⟩,.inr ⟨_,_,_,_,_,rfl,d,by lia⟩⟩)
   . exact bD (z _ _ _ _ _ d$ by lia)
def wp_hiT{st:SortSt}(hk:kindOf st=iX)(T:Two a b)(m:InH a b o x y)(hd:∀r x y o mg g,Told a b r->Q (.done (aa r,x,y,o,mg)) (gst st g))(hy:∀U J Y mg g,InH a b Y U J->U+J+1<=x+y->Q (.yield (ac,U,J,Y,mg)) (gst st g)):wpS (4:) A E s (hiT a b (ac,x,y,o,mg)) Q (gst st g):=by
 have C:=T.na;have G:=m.x1;unfold hiT
 refine aV (gX (dH (I:=λi c z=>∃U J Y ca d g,c=(ac,U,J,Y,ca,d)/\z=gst st g/\InH a b Y U J/\U+J+i<=x+y)
  (Q:=λc z=>OHok a b st (x+y-1) c z) ?s1 ?s2 ⟨x,y,o,0,0,g,rfl,rfl,m,by simp_all⟩) ?s3)
 case s2=>rintro c z ⟨U,J,Y,ca,d,v,rfl,rfl,p,u⟩;exact⟨⟨_,rfl⟩,.inr ⟨_,_,_,_,_,rfl,p,by lia⟩⟩
 case s1 =>
  rintro i c z _ hi ⟨U,J,Y,ca,d,v,rfl,rfl,p,u⟩;have D:=p.x1;refine wp_hiO (n:=U+J-1) hk T p (by lia) (λc q=>?_) λh f j ca d l k=>⟨h,f,j,ca,d,v,rfl,rfl,l,by lia⟩
  obtain⟨F,k⟩:=q;refine⟨F,?_⟩;rcases k with k|⟨h,f,j,ca,d,e,l,k⟩
  . exact .inl k
  . exact .inr ⟨h,f,j,ca,d,e,l,by lia⟩
 case s3 =>
  rintro c z ⟨⟨v,rfl⟩,q⟩;rcases q with⟨r,h,f,j,ca,d,rfl,B⟩|⟨h,f,j,ca,d,rfl,l,k⟩
  . dsimp only;exact bD$ hd _ _ _ _ _ _ B
  . dsimp only;refine aV (tT (lK ⟨rfl,?_⟩))
    refine aV (gX (dH (I:=λi c z=>∃U J Y mg ca d g,c=(ac,U,J,Y,mg,ca,d)/\z=gst st g/\InH a b Y U J/\U+J<=x+y-1)
     (Q:=λc z=>GHok a b st (x+y-1) c z) ?s4 ?s5 ⟨h,f,j,mg+1,ca,d,v,rfl,rfl,l,k⟩) ?s6)
    case s5=>rintro c z ⟨U,J,Y,t,ca,d,v,rfl,rfl,p,u⟩;exact⟨⟨_,rfl⟩,.inr ⟨_,_,_,_,_,_,rfl,p,by omega⟩⟩
    case s4 =>
     rintro i c z _ hi ⟨U,J,Y,t,ca,d,v,rfl,rfl,p,u⟩;split
     . exact aCj hk T p (by lia) (λc z q=>q) λh f j mg ca d g l k=>⟨h,f,j,mg,ca,d,g,rfl,rfl,l,k⟩
     . exact aCj hk T p (by lia) (λc z q=>q) λh f j mg ca d g l k=>⟨h,f,j,mg,ca,d,g,rfl,rfl,l,k⟩
    case s6 =>
     rintro c z ⟨⟨v,rfl⟩,q⟩;rcases q with⟨r,h,f,j,t,ca,d,rfl,B⟩|⟨h,f,j,t,ca,d,rfl,l,k⟩
     . dsimp only;exact bD$ hd _ _ _ _ _ _ B
     . dsimp only;exact aV (nD$ bD$ hy _ _ _ _ _ l$ by lia)
def PL{st:SortSt}(hk:kindOf st=iX)(T:Two a b)(h:∀r g,Told a b r->Q r (gst st g)):wpS (4:) A E s (DC a b) Q st:=by
 have B:=T.na;have v:=T.nb;obtain⟨p,l,k,C⟩:=jU (a:=a) (x:=a.size-1) (by lia);have n:Mh a.toList b.toList (#[]:Array Keyed).toList a.size b.size:=by refine⟨by simp,by simp,?_,List.Pairwise.nil,λp u=>absurd u$ by simp⟩;rw[dM$ by simp,dM$ by simp];simp
 have m:=n.pushA T (by omega) k λq t=>T.lst q (rZ t) p (by rw[bH];exact k);rw[QZ];refine aV$ tT$ lK ⟨rfl,?_⟩;refine aV$ qU l ?_;by_cases j:a.size-1=0
 . rw[if_pos$ by simpa using j];exact bD$ h _ (rP st)$ m.told T$ .inl j
 rw[if_neg$ by simpa using j];by_cases f:b.size=1
 . rw[if_pos$ by simpa using f];exact bD$ h _ (rP st)$ m.toldB T f
 rw[if_neg$ by simpa using f];refine aV$ sH ?_
 refine aV (gX (dH (I:=λi c z=>∃x y o mg g,c=(ac,x,y,o,mg)/\z=gst st g/\InH a b o x y/\x+y+i+1<=a.size+b.size)
  (Q:=λc z=>∃r x y o mg g,c=(aa r,x,y,o,mg)/\z=gst st g/\Told a b r) ?Y ?U ⟨a.size-1,b.size,#[p],_,rP st,rfl,rfl,⟨m,by lia,by lia⟩,by lia⟩) ?J)
 case U =>
  rintro c z ⟨x,y,o,mg,g,rfl,rfl,m,e⟩
  lia
 case Y=>rintro i c z _ hi ⟨x,y,o,mg,g,rfl,rfl,m,e⟩;exact wp_hiT hk T m (λr x y o mg g d=>⟨r,x,y,o,mg,g,rfl,rfl,d⟩) λx y o mg g m h=>⟨x,y,o,mg,g,rfl,rfl,m,by lia⟩
 case J=>rintro c z ⟨r,x,y,o,mg,g,rfl,rfl,d⟩;exact bD$ h r g d
end
noncomputable def mAt(i:Nat):StateT SortSt Sem Bool:=do
 let z <- get
 let (aa (sa,na,pw),aa (sb,nb,_)):=((bT z)[i]?,(bT z)[i+1]?)|unsupported "internal:list.sort.pending"
 set (oV z$ ((bT z).setIfInBounds i (sa,na+nb,pw)).eraseIdxIfInBounds$ i+1)
 let aa k <- oF ag (<- lY (bU z) sb) (bU z) sa na 0 | return ag
 let (sa,na):=(sa+k,na-k)
 if na==0 then return ae
 let aa nb <- oF ae (<- lY (bU z) (sa+na-1)) (bU z) sb nb (nb-1) | return ag
 if nb==0 then return ae
 let x:=(bU z).extract sa sb
 let y:=(bU z).extract sb$ sb+nb
 let r <- if na<=nb then DB x y else DC x y
 modify λz=>gE z (r.toList.zipIdx.foldl (λa (p,j)=>a.setIfInBounds (sa+j) p)$ bU z)
 return (EU$ <-get).isNone
def RA i:OO i=mAt i:=by kernel_rfl
noncomputable def lay(xs:Array Keyed)(sa:Nat)(r:List Keyed):Array Keyed:=r.zipIdx.foldl (λa (p,j)=>a.setIfInBounds (sa+j) p) xs
theorem VJ sa i:∀(r:List Keyed) n (xs:Array Keyed),sa+n+r.length<=xs.size →
  ((r.zipIdx n).foldl (λa (p,j)=>a.setIfInBounds (sa+j) p) xs)[i]?=if sa+n<=i/\i<sa+n+r.length then r[i-(sa+n)]? else xs[i]?
 |[],n,xs,h=>by rw[if_neg$ by simp];rfl
 |p::r,n,xs,h=>by
   rw[List.zipIdx_cons,cK];have d:sa+(n+1)+r.length<=(xs.setIfInBounds (sa+n) p).size:=by simp only[Array.size_setIfInBounds];simp only[aK]at h;omega
   rw[VJ sa i r (n+1) _ d,Array.getElem?_setIfInBounds];simp only[aK]at h ⊢;by_cases c:sa+n=i
   . subst c;rw[if_neg$ by omega,if_pos rfl,if_pos$ by omega,if_pos$ by omega];simp
   . by_cases b:sa+(n+1)<=i/\i < sa+(n+1)+r.length
     . rw[if_pos b,if_pos$ by omega,show i-(sa+n)=(i-(sa+(n+1)))+1 by omega,fC]
     . rw[if_neg b,if_neg c,if_neg$ by omega]
def aFv(h:sa+r.length<=xs.size) i:(lay xs sa r)[i]?=if sa<=i/\i<sa+r.length then r[i-sa]? else xs[i]?:=
 VJ sa i r 0 xs h
def aFu(h:sa+r.length<=xs.size):(lay xs sa r).toList=xs.toList.take sa++r++xs.toList.drop (sa+r.length):=by
 apply lJ;intro i;rw[cL,aFv h,bL];have a:(xs.toList.take sa).length=sa:=by rw[gL,bH];lia
 by_cases c:i<sa
 . rw[if_neg$ by lia,bO$ by simp_all,kN c,cL]
 . rw [cE (by simp_all),a];by_cases b:i<sa+r.length
   . rw[if_pos ⟨by simp_all,b⟩,bO$ by lia]
   . rw [if_neg (by simp_all),cE (by grind),oB,cL];congr 1
     grind
def aFt(h:sa+r.length<=xs.size)(z:r.Perm ((xs.toList.drop sa).take r.length)):(lay xs sa r).Perm xs:=by
 rw[nW,aFu h];have e:xs.toList=xs.toList.take sa++(xs.toList.drop sa).take r.length++xs.toList.drop (sa+r.length):=by rw[bL,<-sC,hU,hU]
 conv=>rhs;rw[e]
 exact kT _$ gQ _ z
def lay_K(h:sa+r.length<=xs.size):(sa<=i->i<sa+r.length->∃p,r[i-sa]?=aa p/\K (lay xs sa r) i=ky p)/\((i<sa\/sa+r.length<=i)->K (lay xs sa r) i=K xs i):=by
 have e:=aFv h i;refine⟨λa b=>?_,λa=>?_⟩
 . rw[if_pos ⟨a,b⟩]at e;refine⟨r[i-sa],aR$ by lia,?_⟩;unfold K;rw[e,aR$ by lia];rfl
 . rw[if_neg$ by lia]at e;exact K_congr e
def LU(h1:Seg xs i j)(h2:Seg xs j k)(h:i<j->j<k->K xs (j-1)<=K xs j):Seg xs i k:=by
 intro p q a b c;by_cases e:p<j
 . by_cases d:q < j
   . exact h1 p q a b d
   . exact fO (h1 p (j-1) a (by lia)$ by lia) (fO (h (by lia)$ by lia)$ h2 j q (aL _) (by lia) c)
 . exact h2 p q (by lia) b c
def aCy(h:Seg xs i j)(z:j<=xs.size):Sd (xs.extract i j).toList:=by refine bX.mpr λp q c b a=>?_;rw[bH,gR]at c b;have:=h (i+p) (i+q) (by simp_all) (by lia) (by lia);rw[K_eq$ show i+p<xs.size by lia,K_eq$ show i+q<xs.size by lia]at this;simpa[ky]using this
def wT(z:j<=xs.size)(h:p∈(xs.extract i j).toList):∃k,i<=k/\k<j/\K xs k=ky p/\p∈xs.toList:=by rw[yW]at h;obtain⟨k,b,c,a⟩:=jZ h;exact⟨k,b,by lia,(yV a).2,dI a⟩
section
variable{a₀:Array Keyed}
def wpS_set{x:σ}{Q:PUnit->σ->Prop}{st:σ}(h:Q ⟨⟩ x):wpS M A E s (set x:StateT σ Sem PUnit) Q st:=by unfold wpS;rw[StateT.run_set];exact aO ⟨rfl,h⟩
def pend_at{P:Array (Nat×Nat×Nat)}(h:P.toList=pre++u::v::post) c :
  P[pre.length]?=aa u/\P[pre.length+1]?=aa v/\((P.setIfInBounds pre.length c).eraseIdxIfInBounds$ pre.length+1).toList=pre++c::post:=by
 obtain⟨l⟩:=P;simp only at h;subst h;refine⟨by simp,by simp,?_⟩;simp[Array.eraseIdxIfInBounds,List.eraseIdx_append_of_length_le]
def PM{st:SortSt}(h0:IntKeys a₀)(J:TB a₀ st)(hP:(bT st).toList=pre++(sa,na,pw)::(sb,nb,pw2)::post)(hi:i=pre.length)(hsb:sb=sa+na)(hna:1<=na)(hnb:1<=nb)(hsz:sb+nb<=a₀.size)(s1:Seg (bU st) sa sb)(Y:Seg (bU st) sb (sb+nb))(h:∀U,TB a₀ U->(bT U).toList=pre++(sa,na+nb,pw)::post->(∀k,(k<sa\/sb+nb<=k)->K (bU U) k=K (bU st) k)->Seg (bU U) sa (sb+nb)->Q ae U):wpS (4:) A E s (OO i) Q st:=by
 subst hi;obtain⟨e1,e2,P⟩:=pend_at hP (sa,na+nb,pw);have hs:=J.sz;have G:=λp hp=>h0 p$ (nW.mp J.pm).mem_iff.mp hp;rw[RA];refine aV$ sH ?_;rw[e1,e2];refine aV$ wpS_set ?_;generalize hP':((bT st).setIfInBounds pre.length (sa,na+nb,pw)).eraseIdxIfInBounds (pre.length+1)=P' at P ⊢;have O:TB a₀ (oV st P'):=⟨J.pm,J.kd,J.nf⟩
 obtain⟨p,p1,p2,p3⟩:=jU (a:=bU st) (x:=sb) (by lia);have pK:=(yV p2).2;refine aV$ qU p1 ?_;refine aV (xB J.kd (G p p3) G (by lia) (by rw[<-hsb];exact s1) (by lia) λk k1 k2 k3=>?_);dsimp only;by_cases hz:na-k=0
 . rw[if_pos$ by simpa using hz];refine bD$ h _ O P (λ_ _=>rfl)$ LU s1 Y λ_ _=>?_;rw[pK];exact k2 _ (by lia) (by lia)
 rw[if_neg$ by simpa using hz];have D:sa+k+(na-k)-1=sb-1:=by lia
 obtain⟨q,q1,q2,q3⟩:=jU (a:=bU st) (x:=sb-1) (by lia);have qK:=(yV q2).2;rw[D];refine aV$ qU q1 ?_;refine aV (xB J.kd (G q q3) G (by simp_all) Y (by lia) λm m1 m2 m3=>?_);dsimp only;by_cases hm:m=0
 . rw[if_pos$ by simpa using hm];refine bD$ h _ O P (λ_ _=>rfl)$ LU s1 Y λ_ _=>?_;rw[qK];exact m3 _ (by simp_all) (by omega)
 rw[if_neg$ by simpa using hm];have T:Two ((bU st).extract (sa+k) sb) ((bU st).extract sb$ sb+m):=by
  refine⟨aCy (λa b c d e=>s1 a b (by lia) d e)$ by lia,aCy (λa b c d e=>Y a b (by omega) d$ by lia)$ by lia,λu l=>?_,λu l=>?_,?_,?_,λu l v C=>?_,λu l v C=>?_⟩
  . obtain⟨_,_,_,_,hh⟩:=wT (by lia) l;exact G u hh
  . obtain⟨_,_,_,_,hh⟩:=wT (by lia) l;exact G u hh
  . rw[gR];lia
  . rw[gR];lia
  . obtain⟨j,t,L,I,_⟩:=wT (by lia) l;rw[cL,KZ]at C;rw[if_pos$ by simp_all,Nat.add_zero,p1]at C;cases C;rw[<-I];exact eJ (k3 j t$ by lia)
  . obtain⟨j,t,L,I,_⟩:=wT (by lia) l;rw[cL,bH,gR,KZ]at C;rw[if_pos$ by simp_all,show sa+k+(min sb (bU st).size-(sa+k)-1)=sb-1 by lia,q1]at C;cases C;rw[<-I];exact eJ$ m2 j t L
 have fin:∀r g,Told ((bU st).extract (sa+k) sb) ((bU st).extract sb$ sb+m) r →
   wpS (4:) A E s (do
    modify λz=>gE z (r.toList.zipIdx.foldl (λa (p,j)=>a.setIfInBounds (sa+k+j) p)$ bU z)
    return (EU$ <-get).isNone) Q (gst (oV st P') g):=by
  rintro r g ⟨S,r2⟩;have N:r.toList.length=sb+m-(sa+k):=by rw[S.length_eq,cD,bH,bH,gR,gR];lia
  have n:sa+k+r.toList.length<=(bU st).size:=by lia
  have hpm:(lay (bU st) (sa+k) r.toList).Perm (bU st):=by refine aFt n$ S.trans$ PH ?_;rw[yW,yW,N,show sb+m-(sa+k)=(sb-(sa+k))+m by lia,List.take_add,sC,show sa+k+(sb-(sa+k))=sb by simp_all,show sb+m-sb=m by simp]
  have o:∀u∈r.toList,K (bU st) sb<=ky u/\ky u<=K (bU st) (sb-1):=λu l=>by
   rcases bE.mp (S.mem_iff.mp l)with l|l
   . obtain ⟨j,t,L,I,_⟩:=wT (by lia) l;have a1:=k3 j t (by lia);have a2:=s1 j (sb - 1) (by lia) (by lia) (by lia)
     grind
   . obtain ⟨j,t,L,I,_⟩:=wT (by lia) l;have a1:=m2 j t L;have a2:=Y sb j (aL _) t (by lia)
     grind
  refine aV$ nD$ aV$ sH$ bD ?_;rw[J.nf];have F:∀i,sa+k<=i->i<sb+m->∃u,r.toList[i-(sa+k)]?=aa u/\K (lay (bU st) (sa+k) r.toList) i=ky u:=λi i1 i2=>(lay_K n).1 i1 (by grind);have f:∀i,(i<sa+k\/sb+m<=i)->K (lay (bU st) (sa+k) r.toList) i=K (bU st) i:=λi i1=>(lay_K n).2 (by lia);refine h _ ⟨hpm.trans J.pm,J.kd,J.nf⟩ P (λj hj=>f j$ by lia) ?_;intro x y x1 xy y1;show K (lay (bU st) (sa+k) r.toList) x<=K (lay (bU st) (sa+k) r.toList) y;by_cases M:x<sa+k
  . rw [f x (.inl M)];by_cases V:y<sa+k
    . rw[f y$ .inl V];exact s1 x y x1 xy (by lia)
    . have hxk:=k2 x x1 M;by_cases B:y<sb+m
      . obtain ⟨u,H,u2⟩:=F y (by lia) B;have:=(o u (dI H)).1
        lia
      . rw [f y (.inr (by lia))];have:=Y sb y (aL _) (by lia) y1
        lia
  . by_cases X:x < sb+m
    . obtain ⟨u,H,u2⟩:=F x (by lia) X;rw [u2];by_cases B:y<sb+m
      . obtain ⟨v,R,v2⟩:=F y (by lia) B;rw [v2];by_cases W:x=y
        . subst W;rw[H]at R;cases R;exact dS _
        . obtain ⟨g1,g2⟩:=bC.mp H;obtain ⟨g3,g4⟩:=bC.mp R;have:=bX.mp r2 _ _ g1 g3 (by grind);rwa [g2,g4]at this
      . rw [f y (.inr (by lia))];have a1:=(o u (dI H)).2;have a2:=m3 y (by lia) y1
        lia
    . rw[f x$ .inr$ by lia,f y$ .inr$ by grind];exact Y x y (by lia) xy y1
 split
 . exact aV$ PK J.kd T λr g Z=>fin r g Z
 . exact aV$ PL J.kd T λr g Z=>fin r g Z
end
abbrev PQ:=Nat×Nat×Nat
noncomputable def Rn(xs:Array Keyed):List PQ->Nat->Nat->Prop
 |[],s,e=>s=e
 |(a,n,_)::r,s,e=>a=s/\1<=n/\Seg xs s (s+n)/\Rn xs r (s+n) e
theorem sZ:∀{l:List PQ}{s:Nat},Rn xs (l++r) s e↔∃m,Rn xs l s m/\Rn xs r m e
 |[],s=>⟨λh=>⟨s,rfl,h⟩,λ⟨m,c,b⟩=>by cases c;exact b⟩
 |(a,n,p)::l,s=>by
   constructor
   . rintro⟨c,b,d,i⟩;obtain⟨m,g,f⟩:=sZ.mp i;exact⟨m,⟨c,b,d,g⟩,f⟩
   . rintro⟨m,⟨c,b,d,g⟩,f⟩;exact⟨c,b,d,sZ.mpr ⟨m,g,f⟩⟩
theorem UD:∀{l:List PQ}{s:Nat},Rn xs l s e->s+l.length<=e
 |[],s,h=>by cases h;simp
 |(a,n,p)::l,s,⟨h1,h2,J,z⟩=>by have:=UD z;simp only[aK];omega
theorem vQ:∀{l:List PQ}{s:Nat},Rn xs l s e->(∀k,s<=k->k<e->K ys k=K xs k)->Rn ys l s e
 |[],s,h,_=>h
 |(a,n,p)::l,s,⟨h1,h2,J,z⟩,h=>by have f:=UD z;exact⟨h1,h2,λi j a b c=>by rw[h i a$ by omega,h j (by omega)$ by omega];exact J i j a b c,vQ z λk g d=>h k (by omega) d⟩
noncomputable def rsOld(pw:Nat)(_:Option Unit×Unit):StateT SortSt Sem (ForInStep$ Option Unit×Unit):=do
 let z <- get
 match if (bT z).size>1 then (bT z)[(bT z).size-2]? else ac with
  |some (_,_,older)=>
    if older<=pw then pure (ForInStep.done (ac,()))
    else do
     let b <- OO ((bT z).size-2)
     if (!b)=ae then pure (ForInStep.done (aa (),()))else pure (ForInStep.yield (ac,()))
  |_=>pure$ ForInStep.done (ac,())
noncomputable def QK(size lo n:Nat):StateT SortSt Sem (ForInStep$ Option Unit×Nat):=do
 let z <- get
 match (bT z).back? with
  |some (s1,n1,_)=>do
    let c <- forIn [0:size] (ac,()) λ_ c=>rsOld (power' size (2*s1+n1) (2*s1+n1+n1+n) size) c
    match c.1 with
     |some r=>pure$ ForInStep.done (aa r,lo)
     |none=>do
       modify λz=>oV z ((bT z).modify ((bT z).size-1) λx=>match x with|(a,l,_)=>(a,l,power' size (2*s1+n1) (2*s1+n1+n1+n) size))
       modify λz=>oV z ((bT z).push (lo,n,0))
       pure (ForInStep.yield (ac,lo+n))
  |_=>do
    modify λz=>oV z ((bT z).push (lo,n,0))
    pure (ForInStep.yield (ac,lo+n))
noncomputable def QJ(size mr:Nat)(c:Option Unit×Nat):StateT SortSt Sem (ForInStep$ Option Unit×Nat):=
 if c.2≥size then pure (ForInStep.done (ac,c.2))
 else do
  let x <- countRun' c.2 (size-c.2)
  match x with
   |some n=>
     if n<mr then do
      liftM (rule "list.sort.binary-insertion")
      let b <- binarySort' c.2 (min (size-c.2) mr) n
      if (!b)=ae then pure (ForInStep.done (aa (),c.2))else QK size c.2 (min (size-c.2) mr)
     else QK size c.2 n
   |_=>pure$ ForInStep.done (aa (),c.2)
noncomputable def pick(p:Array PQ):Nat:=
 if Option.any (λx=>decide (x<p[p.size-2+1]?.elim 0 λx=>x.2.1)) (if p.size-2>0 then Option.map (λx=>x.2.1) p[p.size-2-1]? else ac)=ae then p.size-2-1 else p.size-2
noncomputable def rsEnd(_:Option Unit×Unit):StateT SortSt Sem (ForInStep$ Option Unit×Unit):=do
 let z <- get
 if (bT z).size<=1 then pure (ForInStep.done (ac,()))
 else do
  let b <- OO (pick$ bT z)
  if (!b)=ae then pure (ForInStep.done (aa (),()))else pure (ForInStep.yield (ac,()))
noncomputable def sR:StateT SortSt Sem Unit:=do
 let z <- get
 let c <- forIn [0:(bU z).size] (ac,0) λ_ c=>QJ (bU z).size (minRun' (bU z).size (bU z).size 0) c
 match c.1 with
  |some r=>pure r
  |none=>do
    let d <- forIn [0:(bU z).size] (ac,()) λ_ d=>rsEnd d
    match d.1 with
     |some r=>pure r
     |none=>pure ()
def LR:sortRuns'=sR:=by kernel_rfl
section
variable{a₀:Array Keyed}
structure RS(a₀:Array Keyed)(st:SortSt)(lo:Nat):Prop where
 tb:TB a₀ st
 rn:Rn (bU st) (bT st).toList 0 lo
 le:lo<=a₀.size
def BX{lo:Nat}{st:SortSt}(J:IntKeys a₀)(R:RS a₀ st lo)(hi:i+1<(bT st).size)(h:∀z,RS a₀ z lo->(bT z).size+1=(bT st).size->(∀k,lo<=k->K (bU z) k=K (bU st) k)->Q ae z):wpS (4:) A E s (OO i) Q st:=by
 have b:(bT st).toList.length=(bT st).size:=bH;obtain⟨pre,u,v,a,e,d⟩:∃pre u v a,(bT st).toList=pre++u::v::a/\pre.length=i:=by
  refine⟨(bT st).toList.take i,(bT st).toList[i]'(by lia),(bT st).toList[i+1]'(by lia),(bT st).toList.drop$ i+2,?_,by rw[gL];lia⟩
  conv=>lhs;rw[<-hU i (bT st).toList]
  rw[dR$ by lia,dR$ by lia]
 have l:=R.rn;obtain⟨sa,na,pw⟩:=u;obtain⟨sb,nb,p⟩:=v;rw[e]at l;obtain⟨m,D,C,B,y,c,x,t,n⟩:=sZ.mp l;subst C;have r:=UD n;have f:=R.le;refine PM J R.tb e d.symm c B x (by lia) (by rw[c];exact y) (by rw[c];exact t) λz G o g F=>h z ⟨G,?_,f⟩ ?_ λk I=>g k (.inr$ by lia)
 . rw[o];refine sZ.mpr ⟨sa,vQ D λk _ q=>g k$ .inl q,rfl,by lia,by rw[<-Nat.add_assoc,<-c];exact F,?_⟩;rw[<-Nat.add_assoc];exact vQ n λk H _=>g k (.inr$ by simp_all)
 . have j:(bT z).toList.length=(bT z).size:=bH;rw [o]at j;rw [e]at b;simp [cD,aK]at j b
   grind
def pick_lt(h:2<=p.size):pick p+1<p.size:=by
 have:∀c:Bool,(if c=ae then p.size-2-1 else p.size-2)+1<p.size:=λc=>by cases c<;>simp<;>omega
 exact this _
theorem MY f:∀l (u:PQ),(l++[u]).modify l.length f=l++[f u]
 |[],u=>rfl
 |a::l,u=>by rw[dP,aK,List.modify_succ_cons,MY f l u];rfl
def TD{lo:Nat}{st:SortSt}(h0:IntKeys a₀)(R:RS a₀ st lo)(hn:1<=n)(J:lo+n<=a₀.size)(Y:Seg (bU st) lo (lo+n))(h:∀st',RS a₀ st' (lo+n)->Q (.yield (ac,lo+n)) st'):wpS (4:) A E s (QK a₀.size lo n) Q st:=by
 have fin:∀st':SortSt,TB a₀ st'->Rn (bU st') (bT st').toList 0 lo->(∀k,lo<=k->K (bU st') k=K (bU st) k) →
   wpS (4:) A E s (do
    modify λz=>oV z ((bT z).push (lo,n,0))
    pure (ForInStep.yield ((ac,lo+n):Option Unit×Nat))) Q st':=λst' tb rn y=>by
  refine aV$ nD$ bD$ h _ ⟨⟨tb.pm,tb.kd,tb.nf⟩,?_,J⟩;rw[eG];exact sZ.mpr ⟨lo,rn,rfl,hn,λi j a b c=>by rw[y i a,y j$ by lia];exact Y i j a b c,rfl⟩
 refine aV$ sH ?_;cases hb:(bT st).back? with
 |none=>exact fin st R.tb R.rn λ_ _=>rfl
 |some u=>
   obtain⟨v,S,p⟩:=u
   refine aV (gX (dH (I:=λ_ c z=>c=(ac,())/\RS a₀ z lo/\(∀k,lo<=k->K (bU z) k=K (bU st) k))
    ?v (λ_ _ M=>M) ⟨rfl,R,λ_ _=>rfl⟩) ?U)
   case v =>
    rintro i c z _ _ ⟨rfl,d,f⟩;refine aV$ sH ?_;by_cases g:(bT z).size>1
    . rw [if_pos g,getElem?_pos (bT z) ((bT z).size - 2) (by lia)];dsimp only;split
      . exact bD ⟨rfl,d,f⟩
      . refine aV (BX h0 d (by lia) λst' O _ k'=>?_);exact bD ⟨rfl,O,λk B=>(k' k B).trans$ f k B⟩
    . rw[if_neg g];exact bD ⟨rfl,d,f⟩
   case U =>
    rintro c z ⟨rfl,d,f⟩;refine fin _ ⟨d.tb.pm,d.tb.kd,d.tb.nf⟩ ?_ f;have L:=d.rn;have e:∀(P:Array PQ) (pw:Nat),Rn (bU z) P.toList 0 lo->Rn (bU z) (P.modify (P.size-1) λx=>match x with|(a,l,_)=>(a,l,pw)).toList 0 lo:=by
     rintro⟨l⟩ pw o;simp only[bF]at o ⊢;rcases List.eq_nil_or_concat l with rfl|⟨t,u,rfl⟩
     . simpa using o
     . obtain ⟨r,q,p⟩:=u;rw [List.concat_eq_append]at o ⊢;obtain ⟨m,H,G,F,D,C⟩:=sZ.mp o;have N:(Array.modify (t++[(r,q,p)]).toArray ((t++[(r,q,p)]).length-1) λx=>match x with|(a,l,_)=>(a,l,pw)).toList=t++[(r,q,pw)]:=by simp[MY]
       rw[N];exact sZ.mpr ⟨m,H,G,F,D,C⟩
    exact e _ _ L
def wp_turn{lo:Nat}{st:SortSt}(U:IntKeys a₀)(R:RS a₀ st lo)(hd:lo=a₀.size->Q (.done (ac,lo)) st)(h:∀z J,lo+1<=J->RS a₀ z J->Q (.yield (ac,J)) z):wpS (4:) A E s (QJ a₀.size Y (ac,lo)) Q st:=by
 unfold QJ;have a:=R.le;by_cases b:lo≥a₀.size
 . rw[if_pos b];exact bD (hd$ by lia)
 rw[if_neg b];refine aV (wp_run U (by simp_all) (by lia) R.tb λn xs c l m i=>?_);have d:RS a₀ (gE st xs) lo:=⟨R.tb.arr c.1,vQ R.rn λk _ g=>c.2 k$ .inl g,a⟩
 dsimp only;split
 . refine aV$ tT$ lK ⟨rfl,?_⟩;refine aV (wp_ins U (by lia) (by grind) d.tb i λys j e=>?_);refine TD U (⟨d.tb.arr j.1,vQ d.rn λk _ g=>j.2 k$ .inl g,a⟩:RS a₀ (gE (gE st xs) ys) lo) (by grind) (by lia) e λz f=>h z _ (by lia) f
 . exact TD U d l (by lia) i λz f=>h z _ (by simp_all) f
def LF{st:SortSt}(h0:IntKeys a₀)(Y:TB a₀ st)(hp:bT st=#[])(h:∀J,(bU J).Perm a₀->EU J=ac->Seg (bU J) 0 a₀.size->Q () J):wpS (4:) A E s sortRuns' Q st:=by
 rw[LR];refine aV$ sH ?_;rw[Y.sz];have p:RS a₀ st 0:=⟨Y,by rw[hp];rfl,cI _⟩
 refine aV$ gX (dH (I:=λi c z=>∃lo,c=(ac,lo)/\i<=lo/\RS a₀ z lo) (Q:=λc z=>c=(ac,a₀.size)/\RS a₀ z a₀.size) ?s1 ?s2 ⟨0,rfl,aL _,p⟩) ?s3
 case s2 =>
  rintro c z ⟨lo,rfl,d,R⟩;have:=R.le;have e:lo=a₀.size:=by lia
  subst e;exact⟨rfl,R⟩
 case s1 =>
  rintro i c z _ hi ⟨lo,rfl,d,R⟩;refine wp_turn h0 R (λe=>?_) λJ g l k=>⟨g,rfl,by lia,k⟩
  subst e;exact⟨rfl,R⟩
 case s3 =>
  rintro c z ⟨rfl,R⟩;have a:=UD R.rn;rw[bH]at a
  refine aV (gX (dH (I:=λi c z=>c=(ac,())/\RS a₀ z a₀.size/\(bT z).size+i<=a₀.size+1/\(bT z).size+i<=max a₀.size (1+i))
   (Q:=λc z=>c=(ac,())/\RS a₀ z a₀.size/\(bT z).size<=1) ?s4 ?s5 ⟨rfl,R,by lia,by lia⟩) ?s6)
  case s5=>rintro c z ⟨rfl,R,d,l⟩;exact⟨rfl,R,by simp_all⟩
  case s4 =>
   rintro i c z _ hi ⟨rfl,R,d,l⟩;refine aV$ sH ?_;by_cases b:(bT z).size<=1
   . rw[if_pos b];exact bD ⟨rfl,R,b⟩
   . rw[if_neg b];refine aV (BX h0 R (pick_lt$ by lia) λJ k x _=>?_);exact bD ⟨rfl,k,by lia,by lia⟩
  case s6 =>
   rintro c z ⟨rfl,R,d⟩;refine bD$ h z R.tb.pm R.tb.nf ?_;have f:=R.rn;rw[<-bH]at d
   match U:(bT z).toList,d with
   |[],_=>
     rw[U]at f;have e:0=a₀.size:=f;intro i j _ _ q
     lia
   |[(u,n,v)],_=>rw[U]at f;obtain⟨t,r,m,o⟩:=f;have e:=o;rw[e]at m;exact m
end
def aCv(Y:s.heap.get? a=aa (kW "list" vs.toArray n))(hI:eR vs ns)(U:vs.length<=sizeLine)(h:∀us J,eR us.toList J->J.Perm ns->J.Pairwise (·<=·)->R (.done$ .ret .none) {s with heap:=sortedHeap s.heap a vs us}):bG (4:) A (Builtin.«list.sort» ⟨[.ref a],[]⟩) R E s:=by
 rw[list_sort_plain];have d:vs.toArray.size=vs.length:=by simp
 refine aC$ listItems_at Y rfl ?_;refine aC (SW Y rfl ?_ (by rw[d];exact U) (cI _));obtain⟨p,f⟩:∃p,(s.heap.update a$ Obj.mapSeq λ_=>#[]).get? a=aa (kW "list" #[] p):=⟨_,get?_update_seq Y λ_=>#[]⟩
 refine aC$ seqEpoch_at f rfl$ aC$ wpAny_newTuple$ aC$ SR$ eZ ?_;have c:(((s.heap.update a$ Obj.mapSeq λ_=>#[]).push$ kW "tuple" vs.toArray 0).push$ kW "list" #[] 0).get? a=aa (kW "list" #[] p):=by have D:=aD (kW "tuple" vs.toArray 0) f;exact aD (kW "list" #[] 0) D
 dsimp only;have last:∀z:SortSt,(bU z).Perm (aBc vs)->Seg (bU z) 0 (aBc vs).size->R (.done$ .ret .none) {s with heap:=sortedHeap s.heap a vs ((bU z).map (·.2))}:=λz o m=>by obtain⟨k,v,u,t⟩:=sorted_out hI o λi j g l=>m i j (cI _) g l;exact h _ k v u t
 by_cases b:vs.toArray.size<2
 . rw [if_pos b,if_pos b];refine aC (aO ?_);refine aC (aO ?_);refine aC (seqEpoch_at c rfl (aC (SW c rfl ?_ (cI _) ?_)))
   . simp only [bne_self_eq_false,bV,if_false];refine aO (last (SortSt.mk' general' (vs.toArray.zip vs.toArray) #[] 7 ac) (mB _) ?_);intro i j _ g l;rw [aBb]at l;have e:i=j:=by lia
     rw[e];exact dS _
   . rw[Array.size_map];show(aBc vs).size<=_;rw[aBb];grind
 . rw [if_neg b,if_neg b];obtain⟨x,y,r,rfl⟩:∃x y r,vs=x::y::r:=by
    match vs,d,b with
    |[],_,h2=>simp at h2
    |[_],_,h2=>simp at h2
    |x::y::r,_,_=>exact⟨x,y,r,rfl⟩
   rw[keyKind_ints hI];refine aC$ aO ?_
   refine aC (dD (LF
    (Q:=λ_ z=>(bU z).Perm (aBc$ x::y::r)/\EU z=ac/\Seg (bU z) 0 (aBc$ x::y::r).size)
    hI.intKeys ⟨mB _,rfl,rfl⟩ rfl λz o m F=>⟨o,m,F⟩) ?_ λ_ _ e=>e)
   rintro⟨⟨⟩,z⟩ G ⟨rfl,q,C,B⟩;refine aC$ seqEpoch_at c rfl$ aC$ SW c rfl ?_ (cI _) ?_
   . rw[C];simp[bne_self_eq_false,bV,if_false];exact aO$ last z q B
   . refine cS (AB$ (Array.size_map ..).trans$ q.size_eq.trans$ aBb _) (by lia)
def Rise(xs:Array Nat):Prop:=xs.toList.Pairwise (· < ·)
def Rise.lt(h:Rise xs)(z:i<k)(J:k<xs.size) d:xs.getD i d<xs.getD k d:=by have:=bX.mp h i k (by simp;lia) (by simpa using J) z;simp only[eC,getElem?_pos xs i$ by lia,getElem?_pos xs k J,iL];simpa using this
theorem EO(z:Rise xs):∀fuel lo hi,lo<=hi->hi<=xs.size->hi-lo<=fuel->(∀i,i<lo->xs.getD i j<j)->(∀i,hi<=i->i<xs.size->j<=xs.getD i j) →
  EX.below.go xs j fuel lo hi<=xs.size/\(∀i,i<EX.below.go xs j fuel lo hi->xs.getD i j<j)/\∀i,EX.below.go xs j fuel lo hi<=i->i<xs.size->j<=xs.getD i j
 |0,lo,hi,h1,h2,Y,U,J=>by
   unfold EX.below.go;have e:lo=hi:=by omega
   subst e;exact⟨h2,U,J⟩
 |fuel+1,lo,hi,h1,h2,Y,U,J=>by
   unfold EX.below.go;by_cases a:lo<hi
   . rw [if_pos a];dsimp only;by_cases b:xs.getD ((lo+hi)/2) j<j
     . rw [if_pos b];refine EO z fuel _ hi (by omega) h2 (by omega) (λi d=>?_) J;by_cases e:i=(lo+hi)/2
       . rw[e];exact b
       . exact uZ (z.lt (by omega) (by omega) j) b
     . rw [if_neg b];refine EO z fuel lo _ (by omega) (by omega) (by omega) U λi f c=>?_;by_cases e:i=(lo+hi)/2
       . rw[e];omega
       . have:=z.lt (show(lo+hi)/2<i by omega) c j;omega
   . rw [if_neg a];have e:lo=hi:=by omega
     subst e;exact⟨h2,U,J⟩
def OJ(z:Rise xs) j :
  EX.below xs j<=xs.size/\(∀i,i<EX.below xs j->xs.getD i j<j)/\∀i,EX.below xs j<=i->i<xs.size->j<=xs.getD i j:=
 EO z xs.size 0 xs.size (cI _) (aL _) (by simp_all) (λi hi=>absurd hi$ Nat.not_lt_zero _) λi b a=>by grind
def Tidy(t:EX):Prop:=Rise t.place/\t.dummies=#[]
def NM{z:Type} xs(p:Nat)(x:z):(EX.insertAt xs p x).toList=xs.toList.take p++x::xs.toList.drop p:=by unfold EX.insertAt;simp only[cX,eG,eS,List.extract_eq_drop_take,sB,OV,bL,List.singleton_append];congr 2;rw[dM$ by simp]
def aDo(h:Tidy t)(J:t.place[EX.below t.place j]?≠aa j):Tidy (t.put j).1:=by
 obtain⟨s,o,m⟩:=OJ h.1 j;refine⟨?_,?_⟩
 . show Rise (EX.insertAt t.place (EX.below t.place j) j);unfold Rise;rw [NM,rX];have gt:∀q∈t.place.toList.drop (EX.below t.place j),j<q:=λq f=>by
    obtain⟨i,hi,e⟩:=fJ f;rw[AT,bH]at hi;have c:EX.below t.place j+i<t.place.size:=by lia
    have d:t.place.getD (EX.below t.place j+i) j=q:=by rw[<-e,eC,getElem?_pos t.place (EX.below t.place j+i) c];simp
    have n:=m (EX.below t.place j+i) (by simp_all) c;rw[d]at n;by_cases g:i=0
    . subst g;rw [getElem?_pos t.place (EX.below t.place j) (by omega)]at J;rw [eC,Nat.add_zero,getElem?_pos t.place (EX.below t.place j) (by lia)]at d;simp [iL]at d;rw [d]at J;have:q≠j:=λz=>J (by rw [z])
      lia
    . have r:=h.1.lt (i:=EX.below t.place j) (by lia) c j;have p:=m (EX.below t.place j) (aL _) (by lia)
      lia
   have lt:∀q∈t.place.toList.take (EX.below t.place j),q<j:=λq f=>by
    obtain⟨i,hi,e⟩:=fJ f;rw[gL,bH]at hi;have d:t.place.getD i j=q:=by rw[<-e,eC,getElem?_pos t.place i$ by lia];simp
    rw[<-d];exact o i (by simp_all)
   refine⟨cF (gB ..) h.1,bI.mpr ⟨gt,cF (iD ..) h.1⟩,λa l b k=>?_⟩;rcases aA.mp k with rfl|k
   . exact lt a l
   . exact uZ (lt a l)$ gt b k
 . show(if EX.has t.dummies j then EX.eraseAt t.dummies (EX.below t.dummies j)else t.dummies)=#[];rw[h.2];unfold EX.has;simp
theorem MN(h:t.dummies=#[]) f J:∀fuel p,p.dummy=ac->∀j d,EX.probe.go t f J fuel p=aa (.empty j d)->d=ac/\t.slot j=.empty
 |0,p,_,j,d,e=>by unfold EX.probe.go at e;cases e
 |fuel+1,p,U,j,d,e=>by
   have b:∀q:EX.Probe,(t.advance q).dummy=q.dummy:=λq=>by unfold EX.advance;split<;>rfl
   unfold EX.probe.go at e;cases z:t.slot p.j with
   |empty=>rw[z]at e;simp only[Option.some.injEq,EX.Met.empty.injEq]at e;obtain⟨rfl,rfl⟩:=e;exact⟨U,z⟩
   |dummy=>
     exfalso;unfold EX.slot at z;dsimp only at z;split at z
     . cases z
     . rw [h]at z;split at z
       . rename_i a;unfold EX.has at a;simp at a
       . cases z
   |live i=>
     rw[z]at e;dsimp only at e;split at e
     . cases e
     . exact MN h f J fuel _ (by rw[b];exact U) j d e
def QF{t:EX}(h:t.slot j=.empty):t.place[EX.below t.place j]?≠aa j:=by intro a;unfold EX.slot at h;rw[if_pos$ by rw[a];simp]at h;cases h
def free_is(h:Tidy t)(e:t.freeSlot z=aa (j,d)):t.place[EX.below t.place j]?≠aa j:=by
 unfold EX.freeSlot at e;split at e
 . rename_i a f b;obtain⟨rfl,c⟩:=MN h.2 _ z _ _ rfl a f b;obtain⟨rfl,rfl⟩:=e;exact QF c
 . cases e
def Okt(bt:Bool)(t:EX):Prop:=t.led=!bt/\(t.plain=ae->Tidy t)
def RH{bt:Bool}(h:Okt bt t) es z x:Okt bt (layNew t es z x).2.1:=by
 unfold layNew;split
 . rename_i j d b;dsimp only;unfold EX.orStandIn;split
   . exact⟨h.1,λa=>aDo (h.2 a)$ free_is (h.2 a) b⟩
   . exact⟨h.1,λa=>by cases a⟩
 . exact⟨h.1,λa=>by cases a⟩
def aFy{plain:Bool}{bt:Bool}(z:J=!bt)(e:EX.laid mask finger moves J plain Y=aa (t,o)):Okt bt t:=by
 unfold EX.laid at e;cases U:EX.layClean mask Y with
 |none=>rw[U]at e;cases e
 |some c=>
   rw[U]at e;obtain⟨rfl,rfl⟩:=e;refine⟨z,λ_=>⟨?_,rfl⟩⟩;have d:∀l:List Nat,l.Pairwise (· < ·)->((l.filterMap λj=>(c.getD j ac).map (j,·)).map (·.1)).Pairwise (· < ·):=by
    intro l z;refine cF (?_:List.Sublist _ l) z;clear z;induction l with
    |nil=>exact List.Sublist.refl _
    |cons a l f=>
      rw[gK];cases c.getD a ac with
      |none=>exact List.Sublist.cons _ f
      |some b=>exact List.Sublist.cons₂ _ f
   exact d _ List.pairwise_lt_range
def JG{bt:Bool}(h:Okt bt t) es n:Okt bt (ES t es n).2.1:=by
 unfold ES;split
 . rename_i c o b;dsimp only;split
   . exact aFy h.1 b
   . exact⟨h.1,λa=>by cases a⟩
 . exact⟨h.1,λa=>by cases a⟩
section
variable{prog:bW}{w:cT}
noncomputable def bt(w:cT):Bool:=w.params.followText "set-order"
def SI(prog:bW)(w:cT)(h:Heap)(a:aF)(ns:List Int):Prop:=
 ∃o b d t c,h.get? a=aa o/\o.ExactSet/\o.data=.set b d t/\ElemsOf (ET prog w) b.toList/\eR (b.toList.map (·.2)) c/\c.Nodup/\(∀k,k∈c↔k∈ns)
  /\ b.size<kS/\t.fits b.size=ae/\Okt (bt w) t
def IF:∀{z vs:List Value}{ns:List Int},eR vs ns->z.Perm vs->∃J,eR z J/\J.Perm ns:=by intro z vs ns b a;refine⟨z.map numOf,intsAre_map z λv c=>b.all v$ a.mem_iff.mp c,?_⟩;have:=a.map numOf;rwa [b.nums]at this
theorem IE:∀{vs:List Value}{ns:List Int},eR vs ns->∀k t,eR (vs++[.int k t])$ ns++[k]
 |_,_,.nil,k,t=>.cons k t .nil
 |_,_,.cons n u h,k,t=>.cons n u$ IE h k t
theorem NL:∀{vs:List Value}{ns:List Int},eR vs ns->∀k,k∈ns↔∃v∈vs,Value.isInt k v=ae
 |_,_,.nil,k=>by simp
 |_,_,.cons n u h,k=>by
   rw[aA,NL h k];constructor
   . rintro (rfl|⟨v,a,b⟩)
     . exact⟨_,.head _,by simp[Value.isInt]⟩
     . exact⟨v,.tail _ a,b⟩
   . rintro ⟨v,a,b⟩;rcases aA.mp a with rfl|a
     . have e:n=k:=by simpa [Value.isInt]using b
       exact .inl e.symm
     . exact .inr ⟨v,a,b⟩
def add_one(hS:SI prog w s.heap a ns)(J:∀o es ep t,s.heap.get? a=aa o->o.data=.set es ep t->es.size+1<kS)(h:∀h' b,Heap.SameBut a s.heap h'->SI prog w h' a (ns++[k])->(∀o es ep t o' es' ep' t',s.heap.get? a=aa o->o.data=.set es ep t->h'.get? a=aa o'->o'.data=.set es' ep' t'->es'.size<=es.size+1)->Q b {s with heap:=h'}):bG (4:) A (setAddHashed a (.int k tk)$ uD k) Q E s:=by
 obtain⟨o,es,ep,t,ks,S,W,hd,G,hI,hnd,M,hb,hf,hok⟩:=hS;have hb1:=J o es ep t S hd;have N:(ET prog w).is k (.int k tk)=ae:=intKind_is _ _ _ _;have old:∀i d g m,s.heap.get? a=aa i->i.data=.set d g m->d=es:=λi d g m O Y=>by rw[S]at O;cases O;rw[hd]at Y;cases Y;rfl
 refine eZ$ aC$ iO S hd hf ?_;dsimp only;rw[byScan_of rfl hb G];refine aC$ aC$ lK$ aC$ wpAny_setScan_of N S hd hf G ?_;have hks:k∈ks↔∃e∈es.toList,(ET prog w).is k e.2=ae:=by
  rw[NL hI k];constructor
  . rintro⟨v,h1,h2⟩;obtain⟨e,he,rfl⟩:=bQ.mp h1;exact⟨e,he,h2⟩
  . rintro⟨e,he,h2⟩;exact⟨e.2,bQ.mpr ⟨e,he,rfl⟩,h2⟩
 cases hr:List.findIdx? (λe=>(ET prog w).is k e.2) es.toList with
 |some j=>
   obtain⟨hj,hpj,_⟩:=List.findIdx?_eq_some_iff_getElem.mp hr;have V:=hks.mpr ⟨es.toList[j],iQ hj,hpj⟩;refine aO$ aO ?_;have:=h s.heap ag (Heap.SameBut.refl a s.heap) ⟨o,es,ep,t,ks,S,W,hd,G,hI,hnd,λz=>?_,hb,hf,hok⟩ λK C D H i d g m O Y X e4=>by rw[old _ _ _ _ O Y,old _ _ _ _ X e4];simp
   . exact this
   . rw[bE,aS,<-M z];exact⟨.inl,λq=>q.elim id λe=>e▸V⟩
 |none=>
   have hout:k∉ks:=λV=>by obtain⟨e,he,hp⟩:=hks.mp V;have:=List.findIdx?_eq_none_iff.mp hr e he;rw[hp]at this;cases this
   have I:∀(P:Bool) {z:aW}{T:Unit->aW->Prop},T () z->bG (4:) A (match P with|true=>rule "set.scan.the-table-gave-way" | false=>pure ()) T E z:=λP z T q=>match P with
    |true=>lK q
    |false=>aO q
   have p:=layNew_perm t es (uD k)$ .int k tk;have u:=layNew_fits t es (uD k)$ .int k tk;have B:=RH hok es (uD k)$ .int k tk;generalize hL:layNew t es (uD k) (.int k tk)=L at p u B ⊢;obtain⟨c,t1,wd,gave⟩:=L;rw[eG]at p;have mk:∀f:Array (Int×Value),f.toList.Perm c.toList->ElemsOf (ET prog w) f.toList/\(∃n,eR (f.toList.map (·.2)) n/\n.Nodup/\∀z,z∈n↔z∈ns++[k])/\f.size=es.size+1:=λf hp2=>by
    have R:=hp2.trans p;refine⟨(G.push N rfl).perm R,?_,?_⟩
    . have O:eR ((es.toList++[(uD k,Value.int k tk)]).map (·.2)) (ks++[k]):=by
       rw[dC];exact IE hI k tk
      obtain⟨n,g1,g2⟩:=IF O (R.map (·.2));refine⟨n,g1,g2.nodup_iff.mpr ?_,λz=>?_⟩
      . rw[cH];exact⟨hnd,by simp,λx hx y hy=>by rw[aS.mp hy];exact λe=>hout$ e▸hx⟩
      . rw[g2.mem_iff,bE,bE,M z]
    . have:=R.length_eq;simpa using this
   obtain⟨hel1,⟨ks1,hI1,hnd1,hm1⟩,hsz1⟩:=mk c$ gZ _;refine aC$ I _ ?_
   have fin:∀(l:EX),l.fits c.size=ae->Okt (bt w) l->bG (4:) A (do
     storeSet a c l
     if (!wd && l.tooFull) = ae then do
         (match (ES l c$ EX.grown c.size).2.2 with|true=>rule "set.scan.the-table-gave-way" | false=>pure ():Sem Unit)
         storeSet a (ES l c$ EX.grown c.size).1 (ES l c$ EX.grown c.size).2.1;pure (aa ae)
      else pure (aa ae)) (λr s'=>bG (4:) A (match r with|some Z=>pure Z|none=>setAddHashedIn a (.int k tk) (uD k) 99999) Q E s') E s:=λl hf2 ok2=>by
    refine aC (wpAny_storeSet_of S hd ?_$ pP$ by lia);have F:(s.heap.update a$ Obj.putSet c l).get? a=aa {o with data:=.set c (ep+1) l}:=by have:=dE (Obj.putSet c l) S (by rw[WP c l hd];rfl);rw[WP c l hd]at this;exact this
    have sb1:=FD s.heap a$ Obj.putSet c l;split
    . have hp:=relayAll_perm l c (EX.grown c.size);have hfr:=relayAll_fits l c (EX.grown c.size);have hor:=JG ok2 c (EX.grown c.size);generalize ES l c (EX.grown c.size)=Rl at hp hfr hor ⊢;obtain ⟨f,U,g2⟩:=Rl;obtain ⟨hel2,⟨n,hI2,hnd2,hm2⟩,hsz2⟩:=mk f hp;refine aC (I _ ?_);refine aC (wpAny_storeSet_of F rfl ?_ (pP (by simp_all)));have hg2:((s.heap.update a (Obj.putSet c l)).update a (Obj.putSet f U)).get? a=aa {o with data:=.set f (ep+1+1) U}:=by have:=dE (Obj.putSet f U) F (by rw[WP f U rfl];rfl);rw[WP f U rfl]at this;exact this
      refine aO (aO$ h _ ae (sb1.trans$ FD _ a _) ⟨_,f,_,U,n,hg2,W,rfl,hel2,hI2,hnd2,hm2,by lia,hfr,hor⟩ λK C D H i d g m O Y X e4=>?_);rw[hg2]at X;cases X;cases e4;lia
    . refine aO (aO$ h _ ae sb1 ⟨_,c,_,l,ks1,F,W,rfl,hel1,hI1,hnd1,hm1,by lia,hf2,ok2⟩ λK C D H i d g m O Y X e4=>?_);rw[F]at X;cases X;cases e4;lia
   split
   . refine aC ?_;refine aO ?_;exact fin t1 u B
   . refine aC$ aO ?_;exact fin t1 u B
end
section
variable{prog:bW}{w:cT}
def SIm(prog:bW)(w:cT)(h:Heap)(a:aF)(ns:List Int)(m:Nat):Prop:=
 SI prog w h a ns/\∀o b c t,h.get? a=aa o->o.data=.set b c t->b.size<=m
theorem SIm.at(z:SIm prog w h a ns m)(k:∀o,h.get? a=aa o->h'.get? a=aa o):SIm prog w h' a ns m:=by obtain⟨⟨o,j,l,t,g,b,r⟩,i⟩:=z;refine⟨⟨o,j,l,t,g,k o b,r⟩,λp c d f e n=>?_⟩;rw[k o b]at e;cases e;exact i o c d f b n
theorem vI(h:bG (4:) A.in1 (pyNext$ .ref J) (λr Y=>match r with
   |none=>R (.ok$ .ret .none) Y
   |some v=>bG (4:) A.in1 (setAdd c v) (λ_ U=>gA (4:) A (.builtin "set.update.loop" ⟨[.ref c,.ref J],[]⟩) R U) (λe U=>R (.error e) U) Y) (λe U=>R (.error e) U) z):gA (4:) A (.builtin "set.update.loop" ⟨[.ref c,.ref J],[]⟩) R z:=by
 have b:=F.plain_set_update_loop;refine iI F.entry_set_update_loop$ Eq.mpr (congrArg (λB=>bG _ B _ _ _ z)$ dF.under_plainId b _) ?_;refine aC$ dD h (λr Y q=>?_) λ_ _ q=>q;cases r with
 |none=>exact aO q
 |some v=>exact aC$ eZ$ dD q (λ_ U a=>aO ⟨AS b _,a⟩) λ_ _ a=>a
def aCm(W:WalksS prog w A.in1 J feet hand G n P Z) c(off:c∉feet) num(Y:∀i v,P i v->∃t,v=.int (num i) t)(few:n+1<kS):∀k i z,n-i=k->i<=n->Z i z->SIm prog w z.heap c ((List.range i).map num) i →
   (∀U,Moved (c::hand) G z U->SIm prog w U.heap c ((List.range n).map num) n->R (.ok$ .ret .none) U) →
   gA (4:) A (.builtin "set.update.loop" ⟨[.ref c,.ref J],[]⟩) R z:=by
 have l:c∉hand:=λq=>off$ W.sub c q;have more:∀b,b∈hand->b∈c::hand:=λb q=>.tail _ q;intro k;induction k with
 |zero=>
   intro i z T hi here H done;have e:i=n:=by grind
   subst e;refine vI$ W.done z _ _ here λU u=>?_;exact done U (u.mono more) (H.at λo e=>u.heap c o l e)
 |succ k Q=>
   intro i z T hi here H done;have x:i<n:=by lia
   refine vI$ W.item i z _ _ x here λv U S p u=>?_;obtain⟨t,rfl⟩:=Y i v S;have r:=H.at λo e=>u.heap c o l e;dsimp only;unfold setAdd;refine eZ$ aC$ (ET prog w).pyHash (k:=num i) (intKind_is _ _ _ _) ?_;refine add_one (s:={U with toks:=U.toks+1}) r.1 (λo I K t M L=>?_) λN b same F C=>?_
   . have:=r.2 o I K t M L
     lia
   have rest:∀b,b≠c->N.get? b=U.heap.get? b:=same.2;have E:SIm prog w N c ((List.range$ i+1).map num) (i+1):=by
    refine⟨by rw[pV,dC];exact F,λo I K t M L=>?_⟩;obtain⟨⟨j,f,g,h,_,a,_,d,_⟩,m⟩:=r;have:=C j f g h o I K t a d M L;have:=m j f g h a d
    lia
   refine Q (i+1) _ (by grind) x (W.frame _ U _ _ p (mV _) λb q o e=>(rest b λy=>off$ y▸q).trans e) E λO B D=>done O (Moved.trans W.gtrans ((u.mono more).then_heap (mV _) λb o q e=>(rest b λy=>q$ y▸.head _).trans e) B) D
section
variable{s:aW}
abbrev nset(z:Bool):Obj:={cls:=.type "set",dict:=ac,data:=.set #[] 0 (.fresh 0 0 z)}
def MX x(h:Q (.ref s.heap.objs.size) {s with heap:=s.heap.push$ nset$ !bt w}):gA (4:) A (.call (.builtin "set.__new__") ⟨[.type "set",x],[]⟩) (wants Q E) s:=by
 have own:=sub_set_self;have a:=PySem.F.plain_set_new;refine KU ?_;show bG _ A.in1 (GG "set.__new__" ⟨[.type "set",x],[]⟩ >>= λ_=>again$ .builtin "set.__new__" ⟨[.type "set",x],[]⟩) _ _ s;refine aC$ wpAny_of_eq (PySem.F.newCall_set_1 x)$ aO ⟨AS a _,iI PySem.F.entry_set_new ?_⟩;rw[dF.under_plainId a _];obtain⟨d,b,e,toks,c⟩:=s;unfold Builtin.«set.__new__»;unfold Builtin.Frozenset.newClass
 wp_walk
 exact GB$ aO$ aC$ wpAny_alloc$ aO$ aO h
def si_new(h:Heap):SIm prog w (h.push$ nset$ !bt w) h.objs.size [] 0:=by have a:(h.push$ nset$ !bt w).get? h.objs.size=aa (nset$ !bt w):=aN _ rfl;refine⟨⟨_,#[],0,_,[],a,⟨rfl,rfl,rfl⟩,rfl,λe c=>by simp at c,.nil,rY,λ_=>Iff.rfl,by decide,by rfl,rfl,λ_=>⟨List.Pairwise.nil,rfl⟩⟩,λo f g t b d=>?_⟩;rw[a]at b;cases b;cases d;exact aL _
def aEx{items:Array Value}(hi:eR items.toList ns):(List.range items.size).map (λi=>ns.getD i 0)=ns:=by
 have b:items.size=ns.length:=by rw[<-eR.length hi,bH]
 apply lJ;intro i;rw[bB];by_cases a:i<ns.length
 . rw[nJ$ by simp_all];simp[fQ,aR a]
 . rw[aX$ by simp;simp_all,aX$ by simp_all];rfl
def aGj(free:A.handled=ac)(J:s.heap.IsList l items)(hi:eR items.toList ns)(z:items.size+1<kS)(h:∀h' tk,SIm prog w h' s.heap.objs.size ns items.size->(∀b o,s.heap.get? b=aa o->h'.get? b=aa o)->Q .none {s with heap:=h',toks:=tk}):gA (4:) A (.call (.builtin "set.__init__") ⟨[.ref s.heap.objs.size,.ref l],[]⟩) (wants Q E) {s with heap:=s.heap.push$ nset$ !bt w}:=by
 have B:(s.heap.push$ nset$ !bt w).get? s.heap.objs.size=aa (nset$ !bt w):=aN _ rfl;refine nU nH.init.plain GJ$ check_set_init_1 ⟨_,B,rfl⟩ ?_;obtain⟨lo,c,I,k,H⟩:=J;obtain⟨M,u,L,t⟩:=lo;cases I;cases H;have old:(s.heap.push$ nset$ !bt w).get? l=aa {cls:=.type "list",dict:=u,data:=.seq items k,slots:=t}:=aD _ c;have r:=KW;have p:=BF;have d:(s.heap.push$ nset$ !bt w).IsList l items:=⟨_,old,rfl,k,rfl⟩
 have m:=bA c;have sz:(s.heap.push$ nset$ !bt w).objs.size=s.heap.objs.size+1:=sI _ _;have f:∀b:aF,b<s.heap.objs.size->b≠(s.heap.push$ nset$ !bt w).objs.size:=λb j=>by rw[sz];exact bJ$ gD j
 unfold Builtin.«set.__init__» noKeywords;unfold Builtin.Frozenset.updateFrom;generalize walker:GD=PI
 wp_walk
 subst walker;refine mK d$ aC$ ON ?_
 refine aCm ((Walks.list (by simp[free]) _ l (f l m) items).toS) s.heap.objs.size ?off (λi=>ns.getD i 0) (λi v x=>eR.int_at hi i v$ by rw[cL];exact x) z items.size 0 _ rfl (cI _)
  ⟨⟨_,aN _ rfl,rfl,rfl⟩,d.push _⟩ ((si_new s.heap).at λo e=>aD _ e) ?fin
 case off =>
  rw[sz];intro q;rcases aA.mp q with e|q
  . exact bJ (gO _) e
  . exact pU m$ aS.mp q
 case fin =>
  rintro⟨C,N,O,n,K⟩ g a;have F:=g.gens;have G:=g.drawn;have D:=g.os;rw[aEx hi]at a;subst F G D;refine aO$ aO$ h C n a λb o e=>?_;have j:=bA e;refine g.heap b o (λq=>?_)$ aD _$ aD _ e;rcases aA.mp q with y|q
  . exact bJ j y
  . exact f b j$ aS.mp q
set_option maxHeartbeats 4000000 in
def call_set(free:A.handled=ac)(U:s.heap.IsList l items)(hi:eR items.toList ns)(J:items.size+1<kS)(h:∀h' tk,SIm prog w h' s.heap.objs.size ns items.size->(∀b o,s.heap.get? b=aa o->h'.get? b=aa o)->Q (.ref s.heap.objs.size) {s with heap:=h',toks:=tk}):bG (4:) A (call (.type "set") [.ref l]) Q E s:=by
 have C:=nH;have made:=C.made;have f:=C.sub;refine oU (KU$ aO ⟨Code.quiet_builtin _$ by decide +kernel,iI FG ?_⟩);rw[dF.under_plain (weight_type_call_type _ _ _) rfl]
 repeat (any_goals first|assumption|wp_step)
 refine fR (MX (.ref l) (E:=E) (Q:=λv z=>v=.ref s.heap.objs.size/\z={s with heap:=s.heap.push$ nset$ !bt w}) ⟨rfl,rfl⟩) λr z q=>?_;rcases r with e|d
 . exact q
 cases d<;>try exact q.elim
 obtain⟨rfl,rfl⟩:=q;have look:=C.init.lookup;have bound:=C.init.bind$ .ref s.heap.objs.size
 repeat (any_goals first|assumption|wp_step)
 refine fR (aGj (E:=E) (Q:=λv z=>v=.none/\∃h' tk,z={s with heap:=h',toks:=tk}/\SIm prog w h' s.heap.objs.size ns items.size/\∀b o,s.heap.get? b=aa o->h'.get? b=aa o) (by simp[free]) U hi J
  λh' tk c a=>⟨rfl,h',tk,rfl,c,a⟩) λr z q=>?_
 rcases r with e|d
 . exact q
 cases d<;>try exact q.elim
 obtain⟨rfl,h',tk,rfl,c,a⟩:=q
 repeat (any_goals first|assumption|wp_step)
 exact h h' tk c a
end
end
def sK:Slot "set" "__iter__" "set.__iter__" :=
 .of (owner:="set") (n:="__iter__") (by rw[sY,nA];kernel_rfl) (3:) (3:) (3:) (by first|exact .inl (3:)|exact .inr (3:)) (by rw[OP];kernel_rfl)
def gU:Slot "set_iterator" "__next__" "set_iterator.__next__" :=
 .of (owner:="set_iterator") (n:="__next__") (by rw[sY,nA];kernel_rfl) (3:) (3:) (3:) (by first|exact .inl (3:)|exact .inr (3:)) (by rw[OP];kernel_rfl)
def pM:Slot "set_iterator" "__iter__" "set_iterator.__iter__" :=
 .of (owner:="set_iterator") (n:="__iter__") (by rw[sY,nA];kernel_rfl) (3:) (3:) (3:) (by first|exact .inl (3:)|exact .inr (3:)) (by rw[OP];kernel_rfl)
def DY:entryFor table "set.__iter__"=aa Builtin.«frozenset.__iter__»:=entryFor_alias (id':="frozenset.__iter__") (by kernel_rfl) rfl (3:) (by kernel_rfl)
def uT:entryFor table "set_iterator.__iter__"=aa Builtin.«dict_keyiterator.__iter__»:=entryFor_alias (id':="dict_keyiterator.__iter__") (by kernel_rfl) rfl (3:) (by kernel_rfl)
def AZ a:aBd "set_iterator.__iter__" ⟨[a],[]⟩:=by unfold aBd;kernel_rfl
theorem wU{z:Type}:∀{l:List z}{i:Nat} (h:i<l.length),(l[i]::l.eraseIdx i).Perm l
 |a::l,0,h=>gZ _
 |a::l,i+1,h=>by rw[List.eraseIdx_cons_succ,List.getElem_cons_succ];exact(List.Perm.swap _ _ _).trans (List.Perm.cons _$ wU$ by simpa using h)
def uS:entryFor table "set_iterator.__next__"=aa Builtin.«set_iterator.__next__»:=entryFor_of_fast (by kernel_rfl)
def FZ a:aBd "set.__iter__" ⟨[a],[]⟩:=by unfold aBd;kernel_rfl
def AY a:aBd "set_iterator.__next__" ⟨[a],[]⟩:=by unfold aBd;kernel_rfl
def LS:typeLookup (.type "set") "__len__"=pure (aa$ .builtin "set.__len__"):=by rw[sY,nA];kernel_rfl
theorem UT{J:Type} next:∀(fuel k:Nat) (left:List J) (z:Array J),left.length=fuel->(pickOrder.go next fuel k left z).toList.Perm (z.toList++left)
 |0,k,left,z,h=>by have e:left=[]:=KY.mp h;subst e;unfold pickOrder.go;simp
 |fuel+1,k,left,z,h=>by unfold pickOrder.go;have hi:next k%left.length<left.length:=Nat.mod_lt _ (by omega);rw[aR hi];dsimp only;refine(UT next fuel (k+1) _ _ (by rw[FI hi];omega)).trans ?_;rw[eG,bL];exact gQ _$ wU hi
def YL{z:Type} next(xs:Array z):(pickOrder next xs).toList.Perm xs.toList:=by have:=UT next xs.size 0 xs.toList #[] (by simp);simpa[pickOrder]using this
section
variable{prog:bW}{w:cT}{A:dF}{E:Value->aW->Prop}{s:aW}
def XB(z:n≠0)(h:∀i d,i<n->Q i {s with drawn:=d}):bG M A (choose src n) Q E s:=by intro Γ p hΓ;unfold choose;refine⟨z,?_⟩;exact h _ _ (Nat.mod_lt _$ by lia)
theorem TL:∀n xs z {Q:List U->aW->Prop},xs.length=n->(∀ys d,ys.Perm xs->Q ys {z with drawn:=d})->bG M A (drawOrder n xs) Q E z
 |0,xs,z,Q,J,h=>by have e:xs=[]:=KY.mp J;subst e;unfold drawOrder;exact aO$ h [] z.drawn$ gZ _
 |n+1,[],z,Q,J,h=>by simp at J
 |n+1,x::xs,z,Q,J,h=>by unfold drawOrder;refine aC (XB (by simp) λi d hi=>?_);rw[aR hi];dsimp only;refine aC (TL n _ _ (by rw[FI hi,J];rfl) λys b a=>aO ?_);exact h _ b$ (List.Perm.cons _ a).trans$ wU hi
def wJ(h:Q (bt w) s):bG (4:) A setsByText Q E s:=by exact aC$ GB$ aO h
abbrev sit(f:Value)(i:Nat)(a:aF)(n ep:Nat):Obj:={cls:=.type "set_iterator",data:=.fields #[f,.int i 0,.ref a,.int n 0,.int ep 0]}
def LP{M:Model}{it:aF}{Q:Value->aW->Prop}(z:A.handled=ac)(h:∀h' e,(∀b o,s.heap.get? b=aa o->h'.get? b=aa o)->aW.TypeIs {s with heap:=h'} e "StopIteration"->E e {s with heap:=h'}):bG M A (do raiseNew (<-newExc (.type "StopIteration") []):Sem PySem.Fin) (λr s'=>∃v,r=.done (.ret v)/\Q v s') E s:=by
 refine aC ?_;refine aC (m:=firstArgMember _ _)$ wpAny_of_eq rfl ?_;refine iP ?_ (by size_fits);refine aC$ wpAny_handled ?_;rw[z];refine aC$ aO$ wpAny_throw ?_;refine h _ _ (λb o e=>aD _$ aD _ e) ⟨_,aN _ rfl,rfl⟩
def wX(z:s.heap.get? it=aa (sit f i a n ep))(h:bG (4:) A.in1 (Builtin.«set_iterator.__next__» ⟨[.ref it],[]⟩) (λr s'=>∃v,r=.done (.ret v)/\Q (aa v) s')
    (λe s'=>s'.TypeIs e "StopIteration"/\Q ac s') s):bG (4:) A (pyNext$ .ref it) Q E s:=by
 refine aC (wpAny_attempt (wpAny_callSpecial?_slot ⟨_,z,rfl⟩ gU
  (kR gU ⟨_,z,rfl⟩ uS (dD h (λr s' ⟨v,e,q⟩=>⟨v,e,aO q⟩) λe s' ⟨b,q⟩=>?_)$ AY _)))
 refine aC$ wpAny_isInstance b isSubtype_stop ?_;exact aO q
def BL(U:s.heap.get? it=aa (sit f i a n ep))(ho:s.heap.get? a=aa o)(hd:o.data=.set es ep t)(hf:t.fits es.size=ae)(hn:es.size=n)(h:bG (4:) A (
    if let .int slot _:=f then do
     match <-LB a slot.toNat i ep with
     |some (x,next)=>
       tU (.ref it) 0 (hX next)
       tU (.ref it) 1 (hX$ (i:Int)+1)
       ret x
     |none=>tU (.ref it) 2 .none;raiseNew (<-newExc (.type "StopIteration") [])
    else do
     let aa z <- seqItems? f | unsupported "internal:set_iterator"
     match z[i]? with
     |some (.int J _)=>
       let x <- setNextDrawn a J.toNat ep
       tU (.ref it) 1 (hX$ (i:Int)+1)
       ret x
     |some _=>unsupported "internal:set_iterator"
     |none=>tU (.ref it) 0$ hX 0;tU (.ref it) 2 .none;raiseNew (<-newExc (.type "StopIteration") [])) Q Y s):bG (4:) A (Builtin.«set_iterator.__next__» ⟨[.ref it],[]⟩) Q Y s:=by
 show bG (4:) A (fieldsOf (.ref it) >>= _) Q Y s;refine aC$ aC$ wpAny_load U$ aO ?_;refine aC$ wpAny_setEntries_of ho hd hf ?_;rw[if_neg$ by simp[hn]];exact h
def DI(z:s.heap.get? it=aa (sit f i a n ep))(h:Q (.ref it) s):bG (4:) A (GD$ .ref it) Q E s:=by refine wpAny_pyIter_slot ⟨_,z,rfl⟩ pM$ kR pM ⟨_,z,rfl⟩ uT ?_$ AZ _;exact aO ⟨_,rfl,"set_iterator",_,⟨_,z,rfl⟩,gU.lookup,h⟩
def TZ{h:Heap}(z:h.get? it=aa (sit f i a n ep)):(h.update it (Obj.mapFields (·.setIfInBounds 0 g))).get? it=aa (sit g i a n ep):=
 dE _ z rfl
def TY{h:Heap}(z:h.get? it=aa (sit f i a n ep)):(h.update it (Obj.mapFields (·.setIfInBounds 1 (hX$ (i:Int)+1)))).get? it=aa (sit f (i+1) a n ep):=by
 have:=dE (Obj.mapFields (·.setIfInBounds 1 (hX$ (i:Int)+1))) z rfl;rw[this];have e:((i+1:Nat):Int)=(i:Int)+1:=by simp_all
 unfold sit;rfl
def LH{it a:aF}{o:Obj}{es:Array (Int×Value)}{ep:Nat}{t:EX}{sl:Nat->Nat}{ord:List Value}(hh:A.in1.handled=ac)(J:a≠it)(hd:o.data=.set es ep t)(Y:t.fits es.size=ae)(hn:ord.length=es.size)(U:∀(i:Nat) (z:aW) (Q:Option (Value×Nat)->aW->Prop) (E:Value->aW->Prop),z.heap.get? a=aa o->i<=es.size->Q (ord[i]?.map λx=>(x,sl$ i+1)) z->bG (4:) A.in1 (LB a (sl i) i ep) Q E z):WalksS prog w A it [it,a] [it] (λa b=>b=a) es.size (λi v=>ord[i]?=aa v) (λi z=>z.heap.get? it=aa (sit (.int (sl i) 0) i a es.size ep)/\z.heap.get? a=aa o) where
 sub:=λb c=>by simp at c;simp[c]
 grefl:=λ_=>rfl
 gtrans:=λ_ _ _ p n=>n.trans p
 frame:=λi z q r st _ f=>⟨f it (by simp) _ st.1,f a (by simp) _ st.2⟩
 self:=λi z Q E st h=>DI st.1 h
 item:=λi z Q E hi st h=>by
  refine wX st.1$ BL st.1 st.2 hd Y rfl ?_;refine aC (U i z _ _ st.2 (by lia) ?_);rw[aR$ by lia];refine aC (fX st.1 rfl (by simp) ?_);have j:=TZ (g:=hX (sl (i+1):Int)) st.1;refine aC (fX j rfl (by simp) (aO ⟨_,rfl,?_⟩));have l:=TY j;refine h _ _ (aR$ by lia) ⟨l,?_⟩ ⟨λb k c e=>?_,rfl,rfl,rfl,aL _⟩
  . exact(bN _ _$ Ne.symm J).trans ((bN _ _$ Ne.symm J).trans st.2)
  . have d:it≠b:=λz=>c (by simp[z]);exact(bN _ _ d).trans ((bN _ _ d).trans e)
 done:=λz Q E st h=>by
  refine wX st.1$ BL st.1 st.2 hd Y rfl ?_;refine aC$ U es.size z _ _ st.2 (aL _) ?_;rw[aX$ by simp_all];refine aC (fX st.1 rfl (by simp) ?_);refine LP (it:=it) hh λq e f m=>⟨m,h _ ⟨λb k c e=>f b k ?_,rfl,rfl,rfl,aL _⟩⟩
  exact(bN _ _ λz=>c$ by simp[z]).trans e
def PN{it a T:aF}{o oT:Obj}{es:Array (Int×Value)}{ep:Nat}{t:EX}{J:List Nat}{n0:Nat}(hh:A.in1.handled=ac)(Y:a≠it)(hnT:T≠it)(hd:o.data=.set es ep t)(hf:t.fits es.size=ae)(hT:oT=kW "tuple" (J.map λ(i:Nat)=>hX i).toArray n0)(U:J.Perm (List.range es.size)):WalksS prog w A it [it,a,T] [it] (λa b=>b=a) es.size (λi v=>((J.map λi=>(es.toList.map (·.2)).getD i .none))[i]?=aa v)
   (λi z=>z.heap.get? it=aa (sit (.ref T) i a es.size ep)/\z.heap.get? a=aa o/\z.heap.get? T=aa oT) where
 sub:=λb c=>by simp at c;simp[c]
 grefl:=λ_=>rfl
 gtrans:=λ_ _ _ r q=>q.trans r
 frame:=λi z s u st _ j=>⟨j it (by simp) _ st.1,j a (by simp) _ st.2.1,j T (by simp) _ st.2.2⟩
 self:=λi z Q E st h=>DI st.1 h
 item:=λi z Q E hi st h=>by
  have n:J.length=es.size:=by rw[U.length_eq];simp
  have d:i<J.length:=n▸hi;have f:J[i]?=aa (J[i]'d):=aR d;have g:J[i]'d<es.size:=nZ.mp$ U.mem_iff.mp$ iQ _;refine wX st.1$ BL st.1 st.2.1 hd hf rfl ?_;refine aC (wpAny_seqItems st.2.2 (by rw[hT]) ?_);dsimp only;have l:(J.map λ(i:Nat)=>hX i).toArray[i]?=aa (hX (J[i]'d:Int)):=by rw[OX,bB,f];rfl
  rw[l];refine aC$ aC$ iO st.2.1 hd hf ?_;dsimp only;rw[if_neg$ by simp];rw[aCc,getElem?_pos es (J[i]'d) g];refine aO (aC$ fX st.1 rfl (by simp) (aO ⟨_,rfl,?_⟩));refine h _ _ ?_ ⟨TY st.1,(bN _ _$ Ne.symm Y).trans st.2.1,(bN _ _$ Ne.symm hnT).trans st.2.2⟩ ⟨λb m c e=>(bN _ _ λz=>c$ by simp[z]).trans e,rfl,rfl,rfl,aL _⟩;rw[bB,f];simp[fQ,g]
 done:=λz Q E st h=>by
  have n:J.length=es.size:=by rw[U.length_eq];simp
  refine wX st.1$ BL st.1 st.2.1 hd hf rfl ?_;refine aC (wpAny_seqItems st.2.2 (by rw[hT]) ?_);dsimp only;have l:(J.map λ(i:Nat)=>hX i).toArray[es.size]?=ac:=by rw[OX,aX$ by simp;simp_all]
  rw[l];refine aC (fX st.1 rfl (by simp) ?_);refine aC (fX (TZ st.1) rfl (by simp) ?_);refine LP (it:=it) hh λs e j p=>⟨p,h _ ⟨λb m c e=>j b m ?_,rfl,rfl,rfl,aL _⟩⟩
  have k:it≠b:=λz=>c (by simp[z]);exact(bN _ _ k).trans ((bN _ _ k).trans e)
end
section
variable{A:dF}
noncomputable def slOf(pl:Array Nat)(i:Nat):Nat:=if i=0 then 0 else pl.getD (i-1) 0+1
def aHv(h:Rise z)(hi:i<=z.size):EX.below z (slOf z i)=i:=by
 obtain⟨p,m,l⟩:=OJ h$ slOf z i;have o:∀k d d',k<z.size->z.getD k d=z.getD k d':=λk d d' f=>by simp[eC,getElem?_pos z k f,iL]
 rcases uY (EX.below z$ slOf z i) i with e|g|b
 . exfalso;have j:=l (i - 1) (by lia) (by lia);unfold slOf at j
   lia
 . exact g
 . exfalso;have c:=m i b;by_cases a:i=0
   . subst a;unfold slOf at c;simp at c
   . have n:=h.lt (i:=i - 1) (k:=i) (by lia) (by lia) 0;unfold slOf at c
     lia
def YX(hd:o.data=.set es ep t)(U:t.fits es.size=ae)(Y:bt w=ae) i z Q E(J:z.heap.get? a=aa o)(h:Q ((((pickOrder (w.params.setOrder a ep) es).toList.map (·.2))[i]?).map λx=>(x,0)) z):bG (4:) A (LB a 0 i ep) Q E z:=by unfold LB;refine aC$ iO J hd U ?_;dsimp only;refine aC$ wJ ?_;rw[Y];simp only[if_true,bne_self_eq_false,bV,if_false];unfold setWalk;refine aC$ aC$ iO J hd U ?_;dsimp only;refine aC$ wJ ?_;rw[Y];simp only[if_true];refine aC$ GB$ aO$ aO ?_;rw[bB,cL,Option.map_map]at h;exact h
def QT(hd:o.data=.set es ep t)(U:t.fits es.size=ae)(hb:bt w=ag)(hl:t.led=ae)(J:(!t.plain&&decide (es.size>1))=ag)(Y:Rise t.place) i z
  Q E (ho:z.heap.get? a=aa o) (hi:i<=es.size) (h:Q (((es.toList.map (·.2))[i]?).map λx=>(x,slOf t.place$ i+1)) z):bG (4:) A (LB a (slOf t.place i) i ep) Q E z:=by
 have d:t.place.size=es.size:=by simp only[EX.fits,bY,beq_iff_eq]at U;exact U.1
 unfold LB;refine aC$ iO ho hd U ?_;dsimp only;refine aC$ wJ ?_;rw[hb];simp only[bV,if_false];split
 . rename_i f;have c:(!t.plain&&decide (es.size>1))=ae:=f;rw[J]at c;cases c
 . refine aC ?_;show bG (4:) A (if (!t.led && !es.isEmpty)=ae then unsupported "set:maker-not-led" else pure ()) _ _ _;rw [hl];simp only [Bool.not_true,Bool.false_and,bV,if_false];refine aO (aO ?_);rw [aHv Y (by simp_all)];by_cases b:i<es.size
   . rw [getElem?_pos es i b,getElem?_pos t.place i (by lia)];rw [aR (by simpa using b)]at h;have e:slOf t.place (i+1)=t.place[i]+1:=by unfold slOf;rw[if_neg (by lia),Nat.add_sub_cancel,eC,getElem?_pos t.place i (by lia)];rfl
     rw[e]at h;simpa using h
   . rw[getElem?_neg es i b,getElem?_neg t.place i$ by simp_all];rw[aX$ by simp;simp_all]at h;exact h
def aGe(hh:A.in1.handled=ac)(U:s.heap.get? a=aa o)(hex:o.ExactSet)(hd:o.data=.set es ep t)(Y:t.fits es.size=ae)(hok:Okt (bt w) t)(J:es.size<kS)(h:∀I fp (ord:List Value) St h' d,WalksS prog w A I fp [I] (λa b=>b=a) es.size (λi v=>ord[i]?=aa v) St->St 0 {s with heap:=h',drawn:=d} →
    ord.length=es.size->ord.Perm (es.toList.map (·.2))->s.heap.objs.size<=I->(∀b∈fp,b=a\/s.heap.objs.size<=b)->(∀b u,s.heap.get? b=aa u->h'.get? b=aa u)->Q (.ref I) {s with heap:=h',drawn:=d}):bG (4:) A (GD$ .ref a) Q E s:=by
 have j:=bA U;have F:t.place.size=es.size:=by have m:=Y;simp[EX.fits,bY,beq_iff_eq]at m;exact m.1
 refine wpAny_pyIter_slot ⟨_,U,hex.1⟩ sK$ kR sK ⟨_,U,hex.1⟩ DY ?_$ FZ _;show bG (4:) A.in1 (Builtin.Frozenset.sizeOf a >>= _) _ _ s;refine aC$ aC$ wpAny_setEntries_of U hd Y$ aO ?_;refine aC ?_;refine aC$ iO U hd Y ?_;refine aC$ wJ$ aO ?_;have f:(es.toList.map (·.2)).length=es.size:=by simp
 split
 . rename_i C;refine aC (TL es.size (List.range es.size) s (by simp) λH d k=>?_);refine aC (wpAny_newTuple ?_ (hsz:=by rw [bS,k.length_eq,aBi];exact pP J));refine aC (wpAny_setEpoch_of (aD _ U) hd Y ?_);refine aC (iP (aO ⟨_,rfl,"set_iterator",_,⟨_,aN _ rfl,rfl⟩,gU.lookup,?_⟩));have c:∀ u:Obj,(s.heap.push u).objs.size=s.heap.objs.size+1:=λu=>sI _ _;refine h _ _ _ _ _ d (PN (n0:=0) hh ?_ ?_ hd Y rfl k) ⟨aN _ rfl,?_,?_⟩ ?_ ?_ ?_ ?_ ?_
   . rw[c];exact bJ$ gD j
   . rw[c];exact bJ$ gO _
   . exact aD _$ aD _ U
   . exact aD _$ aN _ rfl
   . rw[bS,k.length_eq];simp
   . refine (k.map _).trans (PH ?_);apply lJ;intro i;rw [bB];by_cases hi:i<es.size
     . rw[nJ hi,aR$ by simpa using hi];simp[fQ,hi]
     . rw[aX$ by simp;lia,aX$ by simp;lia];rfl
   . rw[c];exact mV _
   . intro b J;rw [c]at J;simp [aA,aCa,or_false]at J;rcases J with rfl|rfl|rfl
     . exact .inr$ mV _
     . exact .inl rfl
     . exact .inr$ aL _
   . exact λb u e=>aD _$ aD _ e
 . rename_i C;have n:¬ ((!bt w && (!t.plain && decide (es.size > 1)))=ae):=C;refine aC (aO ?_);refine aC (wpAny_setEpoch_of U hd Y ?_);refine aC (iP (aO ⟨_,rfl,"set_iterator",_,⟨_,aN _ rfl,rfl⟩,gU.lookup,?_⟩));have l:∀b∈[s.heap.objs.size,a],b=a\/s.heap.objs.size<=b:=λb J=>by
    simp[aA,aCa,or_false]at J;rcases J with rfl|rfl
    . exact .inr$ aL _
    . exact .inl rfl
   cases J:bt w with
   |true=>
     have g:=YL (w.params.setOrder a ep) es
     refine h _ _ _ _ _ s.drawn (LH hh (bJ j) hd Y (by rw[bS,g.length_eq,bH])
      λi z y B p _ q=>YX hd Y J i z y B p q) ⟨aN _ rfl,aD _ U⟩ ?_ (g.map _) (aL _) l λb u e=>aD _ e
     rw[bS,g.length_eq,bH]
   |false=>
     have r:(!t.plain&&decide (es.size>1))=ag:=by rw[J]at n;simpa using n
     have D:Rise t.place:=by
      cases k:t.plain with
      |true=>exact(hok.2 k).1
      |false=>
        unfold Rise;have G:t.place.toList.length<=1:=by rw[bH];simp_all
        match t.place.toList,G with
        |[],_=>exact List.Pairwise.nil
        |[x],_=>exact eA _ _
     refine h _ _ _ _ _ s.drawn (LH hh (bJ j) hd Y f
      λi z y B p hi q=>QT hd Y J (by rw[hok.1,J];rfl) r D i z y B p hi q) ⟨aN _ rfl,aD _ U⟩ f (gZ _) (aL _) l λb u e=>aD _ e
def ZP{ord:List Value}(h:ItemsOf (λi v=>ord[i]?=aa v) z n)(J:ord.length=n):z.toList=ord:=by
 apply lJ;intro i;by_cases hi:i<n
 . have a:i < z.size:=by rw [h.1];exact hi
   have e:z.toList[i]?=aa z[i]:=by rw[cL];exact getElem?_pos z i a
   rw[e];exact(h.2 i z[i]$ getElem?_pos z i a).symm
 . rw[aX$ by rw[bH,h.1];simp_all,aX$ by simp_all]
def FK:splitId "set.__len__"=aa ("set","__len__"):=by kernel_rfl
def OF(hh:A.handled=ac)(hS:SIm prog w s.heap a ns m)(h:∀h' d tk ord ks,eR ord ks->ks.Nodup->(∀k,k∈ks↔k∈ns)->ord.length<=m->(∀b o,s.heap.get? b=aa o->h'.get? b=aa o)->Q ord {s with heap:=h',drawn:=d,toks:=tk}):bG (4:) A (collect$ .ref a) Q E s:=by
 obtain⟨⟨o,U,ep,t,ks,N,c,hd,hel,hI,O,v,n,hf,hok⟩,hm⟩:=hS;have hsz:=hm o U ep t N hd;have p:=bA N;have j:=pP n;refine aC$ ON$ iI PySem.F.entry_proto_collect ?_;refine aC$ iP ?_;refine aO ⟨AS PySem.F.plain_list_iadd _,iI PySem.F.entry_list_iadd ?_⟩;generalize J:s.heap.objs.size=L;show bG _ A.in1 (Builtin.List.listExtendWith (.ref L) (.ref a)$ .ref L) _ _ {s with heap:=s.heap.push {cls:=.type "list",data:=.seq ([]:List Value).toArray} };have i:(s.heap.push {cls:=.type "list",data:=.seq ([]:List Value).toArray}).get? a=aa o:=aD _ N;have V:(s.heap.push {cls:=.type "list",data:=.seq ([]:List Value).toArray}).get? L=aa {cls:=.type "list",data:=.seq ([]:List Value).toArray}:=by rw[<-J];exact aN _ rfl
 have r:(s.heap.push {cls:=.type "list",data:=.seq ([]:List Value).toArray}).objs.size=L+1:=by rw[sI,J]
 refine aC$ wpAny_typeOf ⟨_,i,c.1⟩ ?_;have g1:Builtin.List.listSameRef (.ref L) (.ref a)=ag:=by simp[Builtin.List.listSameRef];rw[<-J];exact pU p
 have g2:(Value.type "set"==Value.type "list")=ag:=by decide
 have g3:(Value.type "set"==Value.type "tuple")=ag:=by decide
 simp only[g1,g2,g3,Bool.or_false,bV,if_false];refine aC (aGe (by simp[hh]) i c hd hf hok n λI fp ord St X d W K P M H x l=>?_);rw[r]at H;have g:=l _ _ i;have F:=l _ _ V;have D:L∉fp:=λz=>by
  rw[r]at x;rcases x L z with e|e
  . rw[<-e,<-J]at p;exact cM _ p
  . exact cM _ e
 refine aC$ eZ ?_;refine aC$ sX ⟨_,g,c.1⟩ LS ?_;dsimp only;rw[FK];refine aC$ wpAny_isInstance ⟨_,g,c.1⟩ sub_set_self ?_;rw[if_neg$ show ¬((!true)=ae) by decide];refine aC$ wpAny_typeOf ⟨_,g,c.1⟩$ aO ?_;refine aC$ lK ?_;refine aC ?_;refine aC$ wpAny_updateSeq F rfl ?_;have G:=dE (Obj.mapSeq (·.push Value.none)) F rfl;refine wpAny_updateSeq G rfl ?_;have T:=dE (Obj.mapSeq (·.pop)) G rfl
 have q:∀b u,b≠L->X.get? b=aa u->((X.update L (Obj.mapSeq (·.push Value.none))).update L (Obj.mapSeq (·.pop))).get? b=aa u:=
  λb u n e=>(bN _ _$ Ne.symm n).trans$ (bN _ _$ Ne.symm n).trans e
 refine aO ⟨AS PySem.F.plain_extend_loop _,codeAny_extend_loopS W j _ D _ U.size 0 _ _ _ rfl (cI _)
  (W.frame 0 ({s with heap:=X,drawn:=d}: aW) _ s.toks K (aL _) λb n u e=>q b u (λz=>D$ z▸n) e) T (ItemsOf.nil _) λz' acc c' f S C=>?_⟩
 refine aC$ wpAny_load S$ aO ?_;rw[ZP C P];obtain⟨h2,gs,Y,tk,os2⟩:=z';have eg:=f.gens;have ed:Y=d:=f.drawn;have eo:=f.os;subst eg ed eo;obtain⟨kk,q1,Z⟩:=IF hI M;refine h h2 Y tk ord kk q1 (Z.nodup_iff.mpr O) (λk=>Z.mem_iff.trans$ v k) (by simp_all) λb u e=>?_;have y:=bA e;have B:b≠L:=by rw[<-J];exact bJ y
 have R:=bJ (bM (by rw[<-J];exact gD y) H);exact f.heap b u (by simp[B,R])$ q b u B$ l b u$ aD _ e
def QE{Q:Value->aW->Prop}(hI:eR vs ns)(Y:vs.length<=sizeLine)(h:∀h2 U J e,(∀b o,s.heap.get? b=aa o->h2.get? b=aa o)->h2.get? s.heap.objs.size=aa (kW "list" U.toArray e)->eR U J->J.Perm ns->J.Pairwise (·<=·) →
    Q (.ref s.heap.objs.size) {s with heap:=h2}):bG (4:) A.in1 (do
   let l <- newList vs
   let _ <- iA [l] (call (.builtin "list.sort") [l] [])
   ret l) (λr z=>∃v,r=.done (.ret v)/\Q v z) E s:=by
 refine aC$ SR ?_;have a:(s.heap.push$ kW "list" vs.toArray 0).get? s.heap.objs.size=aa (kW "list" vs.toArray 0):=aN _ rfl;refine aC$ eZ$ kR slot_list_sort ⟨_,a,rfl⟩ entry_list_sort (aCv a hI Y λc J k j i=>⟨_,rfl,?_⟩)$ args_list_sort _;obtain⟨e,g⟩:=sortedHeap_at a;refine aO ⟨_,rfl,h _ c.toList J e (λb o q=>?_) (by simpa using g) k j i⟩;have d:=bA q;have f:=aD (kW "list" vs.toArray 0) q;rw[sortedHeap_old (bJ d)$ by rw[sI];exact gD d];exact f
def sorted_set(z:A.handled=ac)(J:SIm prog w s.heap a ns m)(hm:m<=sizeLine)(h:∀(h1 h2:Heap) d tk vs ks e,(∀b o,s.heap.get? b=aa o->h1.get? b=aa o)->(∀b o,h1.get? b=aa o->h2.get? b=aa o)->h2.get? h1.objs.size=aa (kW "list" vs.toArray e) →
    eR vs ks->ks.Pairwise (· < ·)->(∀k,k∈ks↔k∈ns)->vs.length<=m->Q (.ref h1.objs.size) {s with heap:=h2,drawn:=d,toks:=tk}):bG (4:) A (call (.builtin "sorted") [.ref a]) Q E s:=by
 refine Calls.call_function_entry kind_sorted plain_sorted entry_sorted (args_sorted1 _) ?_;refine aC (aO$ aC$ OF (by simp[z]) J λh1 d tk ord ks j r q p n=>?_);refine QE j (cS p hm) λh2 vs c e v u l f t=>?_;have i:c.Pairwise (· < ·):=by have g:=f.nodup_iff.mpr r;exact List.Pairwise.imp₂ (λa b h1 h2=>Int.lt_iff_le_and_ne.mpr ⟨h1,h2⟩) t g
 refine h h1 h2 d tk vs c e n v u l i (λk=>f.mem_iff.trans$ q k) ?_;have B:=eR.length l;have y:=eR.length j;have x:=f.length_eq;simp_all
end
end TS
namespace TU
open PySem PyProof.Rows
variable{A:dF}
def sorted_endS{Q:Value->aW->Prop}(hI:EW vs ss)(h64:vs.length<64)(h:∀h2 U J e,(∀b o,s.heap.get? b=aa o->h2.get? b=aa o)->h2.get? s.heap.objs.size=aa (kW "list" U.toArray e)->EW U J->J.Perm ss->sortedS J=ae →
    Q (.ref s.heap.objs.size) {s with heap:=h2}):bG (4:) A.in1 (do
   let l <- newList vs
   let _ <- iA [l] (call (.builtin "list.sort") [l] [])
   ret l) (λr z=>∃v,r=.done (.ret v)/\Q v z) E s:=by
 refine aC$ SR ?_;have a:(s.heap.push$ kW "list" vs.toArray 0).get? s.heap.objs.size=aa (kW "list" vs.toArray 0):=aN _ rfl;refine aC (eZ$ kR slot_list_sort ⟨_,a,rfl⟩ entry_list_sort (list_sort_treeK strKind_oneLt a hI.keysOf (λf d rest e=>keyKind_strs$ by rw[<-e];exact hI) h64 λc k j=>⟨_,rfl,?_⟩)$ args_list_sort _);obtain⟨J,t,p,n⟩:=sorted_out_str hI k j;generalize (bU c).map (·.2)=Y at *;obtain⟨e,m⟩:=sortedHeap_at a;refine aO ⟨_,rfl,h _ Y.toList J e (λb o q=>?_) (by simpa using m) t p n⟩;have g:=bA q;have i:=aD (kW "list" vs.toArray 0) q;rw[sortedHeap_old (bJ g)$ by rw[sI];exact gD g];exact i
end TU
open PySem PySem.Spec PyProof.Rows L2
variable{X:Cx}
namespace FL
abbrev Frag:=aM
def KLst(K:Frag)(a:aF)(xs:List V):Prop:=∃(o:Obj) (z:Array Value) (n:Nat),K.lookup a=aa o/\o.cls=.type "list"/\o.dict=ac/\o.data=.seq z n/\z.size<=sizeLine/\Vals xs z.toList
def KTup(K:Frag)(a:aF)(xs:List V):Prop:=∃(o:Obj) (z:Array Value) (n:Nat),K.lookup a=aa o/\o.cls=.type "tuple"/\o.data=.seq z n/\z.size<=sizeLine/\Vals xs z.toList
structure LamT where
 qual:Str
 params:Arguments
 body:FuncBody
 scope:Scope
noncomputable def lamsE(q:Str):Nat->Expr->List LamT
 |0,_=>[]
 |n+1,e=>match e with
   |.Lambda a b sc _=>[⟨q++"<lambda>",a,.expr b,sc⟩]
   |.Call _ as _ _=>as.flatMap$ lamsE q n
   |.Compare l _ cs _=>lamsE q n l++cs.flatMap (lamsE q n)
   |.BoolOp _ vs _=>vs.flatMap$ lamsE q n
   |.UnaryOp _ o _=>lamsE q n o
   |.BinOp l _ r _=>lamsE q n l++lamsE q n r
   |.IfExp t b o _=>lamsE q n t++(lamsE q n b++lamsE q n o)
   |.List es _=>es.flatMap$ lamsE q n
   |.Tuple es _ _=>es.flatMap$ lamsE q n
   |.Subscript v i _=>lamsE q n v++lamsE q n i
   |_=>[]
noncomputable def lamsS(q:Str):Nat->Stmt->List LamT
 |0,_=>[]
 |n+1,s=>match s with
   |.FunctionDef x a b _ _ _ sc _ _ _=>[⟨q++x,a,.stmts b,sc⟩]
   |.Assign _ e _=>lamsE q 12 e
   |.Return (aa e) _=>lamsE q 12 e
   |.Expr e _=>lamsE q 12 e
   |.If t a b _=>lamsE q 12 t++(a.flatMap (lamsS q n)++b.flatMap (lamsS q n))
   |.For _ _ a _ _=>a.flatMap$ lamsS q n
   |.While _ a _ _=>a.flatMap$ lamsS q n
   |_=>[]
noncomputable def RI(x:Str)(b:List Stmt):List LamT:=b.flatMap$ lamsS (x++".<locals>.") 8
noncomputable def rJ(K:aM)(m n:Nat):Option LamT:=(makers[m]?).bind λx=>match fnAt K x with
 |some (aa$ .ref f)=>(match K.lookup f with
   |some ⟨_,_,.func fd,_⟩=>(match fd.body with
     |.stmts b=>(RI x b)[n]?
     |_=>ac)
   |_=>ac)
 |_=>ac
noncomputable def freeR(l:List (Str×iZ)):List Str:=((l.filter λy=>y.2==iZ.free).map (·.1)).reverse
inductive ClosOk(H:Hp)(O:aF->Prop):List (Str×aF)->List V->Prop
 |nil:ClosOk H O [] []
 |cons {n:Str}{c:aF}{o:Obj}{u:HO}{w:Value}{x:V}{cl:List (Str×aF)}{xs:List V} (no:¬O c) (h:H c=some (.frz o u)) (d:o.data=.cell (some w)) (r:RelV x w) (t:ClosOk H O cl xs):ClosOk H O ((n,c)::cl) (x::xs)
def LamAt(H:Hp)(O:aF->Prop)(f:aF)(t:LamT)(cl:List (Str×aF)):Prop:=¬O f/\∃(o z:Obj) (u J:HO) (fd:bR) (c:aF) (vs:Array Value) (U:Tok),
 H f=aa (.frz o u)/\o.cls=.type "function"/\o.data=.func fd/\fd.qualname=t.qual/\fd.params=t.params/\fd.body=t.body/\fd.scope=t.scope/\fd.globals=mainGlobals/\fd.closure=cl/\fd.defaults=.none/\fd.kwdefaults=.none/\fd.code=.ref c/\fd.builtins=BC ∧
 ¬O c/\H c=aa (.frz z J)/\z.data=.fields vs/\vs[1]?=aa (.str t.qual U)
mutual
inductive Rep(K:Frag)(H:Hp)(O:aF->Prop):V->D->Prop
 |non:Rep K H O .non .non
 |bl (b:Bool):Rep K H O (.bl b) (.bl b)
 |int (i:Int):Rep K H O (.int i) (.int i)
 |str (x:Str):Rep K H O (.str x) (.str x)
 |tup {a:aF}{xs:List V}{ds:List D} (n:¬O a) (h:Rd H a (.tup xs)) (r:Reps K H O xs ds):Rep K H O (.ref a) (.tup ds)
 |tupK {a:aF}{xs:List V}{ds:List D} (h:KTup K a xs) (r:Reps K H O xs ds):Rep K H O (.ref a) (.tup ds)
 |lst {a:aF}{xs:List V}{ds:List D} (n:¬O a) (h:Rd H a (.lst xs)) (r:Reps K H O xs ds):Rep K H O (.ref a) (.lst ds)
 |lstK {a:aF}{xs:List V}{ds:List D} (h:KLst K a xs) (r:Reps K H O xs ds):Rep K H O (.ref a) (.lst ds)
 |dct {a:aF}{kvs:List (Key×V)}{ks:List Key}{ds:List D} (n:¬O a) (h:H a=some (.dK kvs)) (e:kvs.map (·.1)=ks) (r:Reps K H O (kvs.map (·.2)) ds):Rep K H O (.ref a) (.dct ks ds)
 |dcf {a:aF}{o:Obj}{kvs:List (Key×V)}{ks:List Key}{ds:List D} (n:¬O a) (h:H a=some (.frz o (.dK kvs))) (e:kvs.map (·.1)=ks) (r:Reps K H O (kvs.map (·.2)) ds):Rep K H O (.ref a) (.dcf ks ds)
 |ins {a C dx:aF}{t:Nat}{kvs:List (Str×V)}{ds:List D} (c:aH K mainGlobals (eL t)=some (some (.ref C))) (n:¬O a) (h:H a=some (.ins C dx kvs)) (e:kvs.map (·.1)=eX t) (r:Reps K H O (kvs.map (·.2)) ds):Rep K H O (.ref a) (.ins t ds)
 |clo {f:aF}{m n:Nat}{t:LamT}{cl:List (Str×aF)}{xs:List V}{ds:List D} (tx:rJ K m n=some t) (h:LamAt H O f t cl) (e:cl.map (·.1)=freeR t.scope.names) (nd:(cl.map (·.2)).Nodup) (c:ClosOk H O cl xs) (r:Reps K H O xs ds):Rep K H O (.ref f) (.clo m n ds)
 |fnK {f:aF}{k:Nat} (h:aH K mainGlobals (uR k)=some (some (.ref f))):Rep K H O (.ref f) (.clo 1000 k [])
inductive Reps(K:Frag)(H:Hp)(O:aF->Prop):List V->List D->Prop
 |nil:Reps K H O [] []
 |cons {x:V}{d:D}{xs:List V}{ds:List D} (h:Rep K H O x d) (t:Reps K H O xs ds):Reps K H O (x::xs) (d::ds)
end
section
variable{K:Frag}{H H':Hp}{O O':aF->Prop}
def Keep(O:aF->Prop)(H H':Hp):Prop:=∀b o,¬O b->H b=aa o->H' b=aa o
def Keep.of_same(h:Same H H'):Keep O H H':=λb o _ e=>h b o e
def Keep.rd(k:Keep O H H')(n:¬O a)(h:Rd H a u):Rd H' a u:=by
 rcases h with h|⟨o,h⟩
 . exact .inl$ k _ _ n h
 . exact .inr ⟨o,k _ _ n h⟩
def Kp(O O':aF->Prop)(H H':Hp):Prop:=∀b o,¬O b->H b=aa o->¬O' b/\H' b=aa o
def Kp.rd(k:Kp O O' H H')(n:¬O a)(h:Rd H a u):¬O' a/\Rd H' a u:=by
 rcases h with h|⟨o,h⟩
 . exact⟨(k _ _ n h).1,.inl (k _ _ n h).2⟩
 . exact⟨(k _ _ n h).1,.inr ⟨o,(k _ _ n h).2⟩⟩
def ClosOk.gen(k:Kp O O' H H')(h:ClosOk H O cl xs):ClosOk H' O' cl xs:=by
 induction h with
 |nil=>exact .nil
 |cons no h d r _ a=>exact .cons (k _ _ no h).1 (k _ _ no h).2 d r a
def LamAt.gen(k:Kp O O' H H')(h:LamAt H O f t cl):LamAt H' O' f t cl:=by obtain⟨n,o,s,u,q,E,c,p,r,m,D,C,B,A,y,x,w,v,l,j,i,g,b,a,e,d⟩:=h;exact⟨(k _ _ n m).1,o,s,u,q,E,c,p,r,(k _ _ n m).2,D,C,B,A,y,x,w,v,l,j,i,g,(k _ _ b a).1,(k _ _ b a).2,e,d⟩
def Kp.of(k:Keep O H H'):Kp O O H H':=λb o n e=>⟨n,k b o n e⟩
def Kp.less(k:∀a,O' a->O a):Kp O O' H H:=λb o n e=>⟨λz=>n$ k _ z,e⟩
def ClosOk.keep(k:Keep O H H')(h:ClosOk H O cl xs):ClosOk H' O cl xs:=h.gen$ .of k
def LamAt.keep(k:Keep O H H')(h:LamAt H O f t cl):LamAt H' O f t cl:=h.gen$ .of k
def ClosOk.of(k:∀a o u,H a=aa (.frz o u)->¬O' a){cl:List (Str×aF)}{xs:List V}(h:ClosOk H O cl xs):ClosOk H O' cl xs:=h.rec .nil λ_ h d r _=>.cons (k _ _ _ h) h d r
def LamAt.of(k:∀a o u,H a=aa (.frz o u)->¬O' a)(h:LamAt H O f t cl):LamAt H O' f t cl:=by obtain⟨n,o,s,u,q,F,c,p,r,m,D,C,B,A,y,x,w,v,l,j,i,g,E,b,e,d⟩:=h;exact⟨k _ _ _ m,o,s,u,q,F,c,p,r,m,D,C,B,A,y,x,w,v,l,j,i,g,k _ _ _ b,b,e,d⟩
def ins1(p:aF)(O:aF->Prop):aF->Prop:=λb=>b=p\/O b
def Kp.ins{p:aF}(J:H p=ac):Kp O (ins1 p O) H H:=λb o n e=>⟨λz=>z.elim (λq=>by rw[q,J]at e;cases e) n,e⟩
def Reps.ind{m:List V->List D->Prop}(z:m [] [])(h1:∀{x d xs ds},Rep K H O x d->m xs ds->m (x::xs) (d::ds))(h:Reps K H O xs ds):m xs ds:=
 Reps.rec (motive_1:=λ_ _ _=>True) (motive_2:=λv d _=>m v d) ⟨⟩ (λ_=>⟨⟩) (λ_=>⟨⟩) (λ_=>⟨⟩) (λ_ _ _ _=>⟨⟩) (λ_ _ _=>⟨⟩) (λ_ _ _ _=>⟨⟩) (λ_ _ _=>⟨⟩) (λ_ _ _ _ _=>⟨⟩) (λ_ _ _ _ _=>⟨⟩) (λ_ _ _ _ _ _=>⟨⟩) (λ_ _ _ _ _ _ _=>⟨⟩) (λ_=>⟨⟩) z (λh _ _=>h1 h) h
theorem Rep.gen(k:Kp O O' H H'){v:V}{d:D}(h:Rep K H O v d):Rep K H' O' v d:=
 h.rec (motive_1:=λv d _=>Rep K H' O' v d) (motive_2:=λv d _=>Reps K H' O' v d) .non .bl .int .str (λn h _=>.tup (k.rd n h).1 (k.rd n h).2) (λh _=>.tupK h) (λn h _=>.lst (k.rd n h).1 (k.rd n h).2) (λh _=>.lstK h) (λn h e _=>.dct (k _ _ n h).1 (k _ _ n h).2 e) (λn h e _=>.dcf (k _ _ n h).1 (k _ _ n h).2 e) (λc n h e _=>.ins c (k _ _ n h).1 (k _ _ n h).2 e) (λtx h e nd c _=>.clo tx (h.gen k) e nd$ c.gen k) .fnK .nil (λ_ _=>.cons)
theorem Reps.gen(k:Kp O O' H H'){vs:List V}{ds:List D}(h:Reps K H O vs ds):Reps K H' O' vs ds:=h.ind .nil λh=>.cons$ h.gen k
def Rep.keep(k:Keep O H H')(h:Rep K H O v d):Rep K H' O v d:=h.gen$ .of k
def Reps.keep(k:Keep O H H')(h:Reps K H O v d):Reps K H' O v d:=h.gen$ .of k
def Rep.mono(k:Same H H')(h:Rep K H O v d):Rep K H' O v d:=h.keep$ .of_same k
def Reps.mono(k:Same H H')(h:Reps K H O v d):Reps K H' O v d:=h.keep$ .of_same k
theorem Rep.less(k:∀a,O' a->O a)(h:Rep K H O v d):Rep K H O' v d:=h.gen$ .less k
theorem Reps.less(k:∀a,O' a->O a)(h:Reps K H O v d):Reps K H O' v d:=h.gen$ .less k
def Rd.some(h:Rd H a u):H a≠ac:=by rcases h with h|⟨o,h⟩<;>(rw[h];simp)
def Rep.more(z:H p=ac)(h:Rep K H O v d):Rep K H (ins1 p O) v d:=h.gen$ .ins z
def Reps.more(z:H p=ac)(h:Reps K H O v d):Reps K H (ins1 p O) v d:=h.gen$ .ins z
noncomputable def mutO:HO->Bool
 |.lst _|.dK _|.dT _|.set _ _|.ins _ _ _=>ae
 |_=>ag
noncomputable def MutHO:={u:HO // mutO u=ae}
def Old(H:Hp):aF->Prop:=λa=>∃o,H a=aa o/\mutO o=ae
def Old.mono(k:Same H H')(h:Old H a):Old H' a:=let ⟨o,e,m⟩:=h;⟨o,k _ _ e,m⟩
def qS:aF->Prop:=λ_=>False
def Rep.flattn(J:∀a,O a->Old H a){v:V}{d:D}(h:Rep K H O' v d):flat d=ae->Rep K H O v d:=
 h.rec (motive_1:=λv d _=>flat d=ae->Rep K H O v d) (motive_2:=λv d _=>flats d=ae->Reps K H O v d) (λ_=>.non) (λ_ _=>.bl _) (λ_ _=>.int _) (λ_ _=>.str _) (λ_ h _ b f=>.tup (λz=>by
   obtain⟨u,e,m⟩:=J _ z
   rcases h with h|⟨o,h⟩<;>(rw[e]at h;cases h;cases m)) h$ b f) (λh _ b f=>.tupK h$ b f) (λ_ _ _ _ f=>by cases f) (λ_ _ _ f=>by cases f) (λ_ _ _ _ _ f=>by cases f) (λ_ _ _ _ _ f=>by cases f) (λ_ _ _ _ _ _ f=>by cases f) (λ_ _ _ _ _ _ _ f=>by cases f) (λ_ f=>by cases f) (λ_=>.nil) (λ_ _ i j f=>by
  have f:=gC.1 f
  exact .cons (i f.1)$ j f.2)
theorem Reps.flattn(z:∀a,O a->Old H a){vs:List V}{ds:List D}(h:Reps K H O' vs ds):flats ds=ae->Reps K H O vs ds:=
 h.ind (m:=λv d=>flats d=ae->Reps K H O v d) (λ_=>.nil) λh i f=>by have f:=gC.1 f;exact .cons (h.flattn z f.1)$ i f.2
def Rep.flatten(z:∀a,O a->Old H a)(f:flat d=ae)(r:Rep K H O' v d):Rep K H O v d:=r.flattn z f
def Reps.flatten(z:∀a,O a->Old H a)(f:flats d=ae)(r:Reps K H O' v d):Reps K H O v d:=r.flattn z f
theorem Reps.length{vs:List V}{ds:List D}(h:Reps K H O vs ds):vs.length=ds.length:=h.ind (m:=λv d=>v.length=d.length) rfl λ_=>congrArg (·+1)
def Reps.get{vs:List V}{ds:List D}{i:Nat}{d:D}(h:Reps K H O vs ds):ds[i]?=aa d->∃v,vs[i]?=aa v/\Rep K H O v d:=
 h.ind (m:=λvs ds=>∀{i d},ds[i]?=aa d->∃v,vs[i]?=aa v/\Rep K H O v d) (λe=>by cases e) λh j i _ e=>by
  cases i with
  |zero=>cases e;exact⟨_,rfl,h⟩
  |succ i=>exact j e
def Reps.append{xs ys:List V}{ds es:List D}(h:Reps K H O xs ds)(s:Reps K H O ys es):Reps K H O (xs++ys) (ds++es):=h.ind (m:=λv d=>Reps K H O (v++ys)$ d++es) s .cons
theorem Reps.set(r:Rep K H O x d){xs:List V}{ds:List D}(i:Nat)(h:Reps K H O xs ds):Reps K H O (xs.set i x) (ds.set i d):=by
 induction i generalizing xs ds with
 |zero=>cases h with|nil=>exact .nil|cons _ t=>exact .cons r t
 |succ i j=>cases h with|nil=>exact .nil|cons q t=>exact .cons q$ j t
theorem Reps.drop{xs:List V}{ds:List D}(n:Nat)(h:Reps K H O xs ds):Reps K H O (xs.drop n) (ds.drop n):=by
 induction n generalizing xs ds with
 |zero=>exact h
 |succ i j=>cases h with|nil=>exact .nil|cons q t=>exact j t
theorem Reps.take{xs:List V}{ds:List D}(n:Nat)(h:Reps K H O xs ds):Reps K H O (xs.take n) (ds.take n):=by
 induction n generalizing xs ds with
 |zero=>exact .nil
 |succ i j=>cases h with|nil=>exact .nil|cons q t=>exact .cons q$ j t
theorem Reps.ints:∀(ns:List Int),Reps K H O (ns.map V.int)$ ns.map D.int
 |[]=>.nil
 |n::r=>.cons (.int n)$ Reps.ints r
def WRep(K:Frag)(H:Hp)(O:aF->Prop)(v:V)(d:D):Prop:=Rep K H O v d\/∃a xs l,v=.ref a/\d=.lst l/\O a/\H a=aa (.lst xs)/\Reps K H O xs l
theorem WRep.mono(k:Same H H')(h:WRep K H O v d):WRep K H' O v d:=by
 rcases h with h|⟨a,xs,l,e,c,b,h,r⟩
 . exact .inl$ h.mono k
 . exact .inr ⟨a,xs,l,e,c,b,k _ _ h,r.mono k⟩
def WRep.any(h:WRep K H O v d):Rep K H qS v d:=by
 rcases h with h|⟨a,xs,l,rfl,rfl,b,h,r⟩
 . exact h.less λ_ z=>z.elim
 . exact .lst (λz=>z.elim) (.inl h)$ r.less λ_ z=>z.elim
def WRep.seqL(h:WRep K H O v (.lst l)):∃a xs,v=.ref a/\SqL K H a xs/\Reps K H O xs l:=by
 rcases h with h|⟨a,xs,b,rfl,e,c,h,r⟩
 . cases h with
   |lst n h r=>exact⟨_,_,rfl,.inl h,r⟩
   |lstK h r=>exact⟨_,_,rfl,.inr h,r⟩
 . cases e;exact⟨a,xs,rfl,.inl$ .inl h,r⟩
def WRep.seqT(h:WRep K H O v (.tup l)):∃a xs,v=.ref a/\SqT K H a xs/\Reps K H O xs l:=by
 rcases h with h|⟨a,xs,b,rfl,e,c,h,r⟩
 . cases h with
   |tup n h r=>exact⟨_,_,rfl,.inl h,r⟩
   |tupK h r=>exact⟨_,_,rfl,.inr h,r⟩
 . cases e
def WRep.int'(h:WRep K H O v (.int i)):v=.int i:=by
 rcases h with h|⟨a,xs,b,rfl,e,_⟩
 . cases h;rfl
 . cases e
def WRep.bl'(h:WRep K H O v (.bl i)):v=.bl i:=by
 rcases h with h|⟨a,xs,b,rfl,e,_⟩
 . cases h;rfl
 . cases e
def WRep.str'(h:WRep K H O v (.str i)):v=.str i:=by
 rcases h with h|⟨a,xs,b,rfl,e,_⟩
 . cases h;rfl
 . cases e
end
mutual
inductive RepO(K:Frag)(H:Hp)(O:aF->Prop):V->OT->List aF->Prop
 |val {v:V}{d:D} (r:Rep K H O v d):RepO K H O v (.val d) []
 |lst {a:aF}{xs:List V}{ts:List OT}{fs:List aF} (n:O a) (h:H a=some (.lst xs)) (r:RepsO K H O xs ts fs):RepO K H O (.ref a) (.lst ts) (a::fs)
 |tup {a:aF}{xs:List V}{ts:List OT}{fs:List aF} (n:¬O a) (h:Rd H a (.tup xs)) (r:RepsO K H O xs ts fs):RepO K H O (.ref a) (.tup ts) fs
 |dct {a:aF}{kvs:List (Key×V)}{ks:List Key}{ts:List OT}{fs:List aF} (n:O a) (h:H a=some (.dK kvs)) (e:kvs.map (·.1)=ks) (r:RepsO K H O (kvs.map (·.2)) ts fs):RepO K H O (.ref a) (.dct ks ts) (a::fs)
 |ins {a C dx:aF}{t:Nat}{kvs:List (Str×V)}{ts:List OT}{fs:List aF} (c:aH K mainGlobals (eL t)=some (some (.ref C))) (n:O a) (h:H a=some (.ins C dx kvs)) (e:kvs.map (·.1)=eX t) (r:RepsO K H O (kvs.map (·.2)) ts fs):RepO K H O (.ref a) (.ins t ts) (a::fs)
inductive RepsO(K:Frag)(H:Hp)(O:aF->Prop):List V->List OT->List aF->Prop
 |nil:RepsO K H O [] [] []
 |cons {x:V}{t:OT}{xs:List V}{ts:List OT}{fs gs:List aF} (h:RepO K H O x t fs) (r:RepsO K H O xs ts gs):RepsO K H O (x::xs) (t::ts) (fs++gs)
end
section
variable{K:Frag}{H H':Hp}{O O':aF->Prop}
def RepsO.ind{m:List V->List OT->List aF->Prop}(z:m [] [] [])(h1:∀{x t xs ts fs gs},RepO K H O x t fs->m xs ts gs->m (x::xs) (t::ts) (fs++gs))(h:RepsO K H O xs ts fs):m xs ts fs:=
 h.rec (motive_1:=λ_ _ _ _=>True) (motive_2:=λv d f _=>m v d f) (λ_=>⟨⟩) (λ_ _ _ _=>⟨⟩) (λ_ _ _ _=>⟨⟩) (λ_ _ _ _ _=>⟨⟩) (λ_ _ _ _ _ _=>⟨⟩) z (λh _ _=>h1 h)
theorem RepO.gen(k:Kp O O' H H'){v:V}{t:OT}{fs:List aF}(h:RepO K H O v t fs):(∀b∈fs,∀u,O b->H b=aa u->O' b/\H' b=aa u)->RepO K H' O' v t fs:=
 h.rec (motive_1:=λv t fs _=>(∀b∈fs,∀u,O b->H b=aa u->O' b/\H' b=aa u)->RepO K H' O' v t fs) (motive_2:=λv t fs _=>(∀b∈fs,∀u,O b->H b=aa u->O' b/\H' b=aa u)->RepsO K H' O' v t fs) (λr _=>.val$ r.gen k)
  (λn h _ i a=>.lst (a _ (.head _) _ n h).1 (a _ (.head _) _ n h).2$ i λb z=>a b$ .tail _ z) (λn h _ i a=>.tup (k.rd n h).1 (k.rd n h).2$ i a) (λn h e _ i a=>.dct (a _ (.head _) _ n h).1 (a _ (.head _) _ n h).2 e$ i λb z=>a b$ .tail _ z)
  (λc n h e _ i a=>.ins c (a _ (.head _) _ n h).1 (a _ (.head _) _ n h).2 e$ i λb z=>a b$ .tail _ z) (λ_=>.nil) (λ_ _ i j a=>.cons (i λb z=>a b$ aY _ z)$ j λb z=>a b$ aI _ z)
theorem RepsO.gen(k:Kp O O' H H'){v:List V}{t:List OT}{fs:List aF}(h:RepsO K H O v t fs):(∀b∈fs,∀u,O b->H b=aa u->O' b/\H' b=aa u)->RepsO K H' O' v t fs:=
 h.ind (m:=λv t fs=>(∀b∈fs,∀u,O b->H b=aa u->O' b/\H' b=aa u)->RepsO K H' O' v t fs) (λ_=>.nil) λh j a=>.cons (h.gen k λb z=>a b$ aY _ z)$ j λb z=>a b$ aI _ z
def RepO.keep(k:Keep O H H')(h:RepO K H O v t fs)(J:∀b∈fs,∀u,H b=aa u->H' b=aa u):RepO K H' O v t fs:=h.gen (.of k) λb z u o e=>⟨o,J b z u e⟩
def RepsO.keep(k:Keep O H H')(h:RepsO K H O v t fs)(J:∀b∈fs,∀u,H b=aa u->H' b=aa u):RepsO K H' O v t fs:=h.gen (.of k) λb z u o e=>⟨o,J b z u e⟩
def RepO.mono(k:Same H H')(h:RepO K H O v t fs):RepO K H' O v t fs:=h.keep (.of_same k) λb _ u e=>k b u e
def RepsO.mono(k:Same H H')(h:RepsO K H O v t fs):RepsO K H' O v t fs:=h.keep (.of_same k) λb _ u e=>k b u e
theorem RepO.less(k:∀a,O' a->O a)(h:RepO K H O v t fs)(J:∀b∈fs,O' b):RepO K H O' v t fs:=h.gen (.less k) λb z _ _ e=>⟨J b z,e⟩
theorem RepsO.less(k:∀a,O' a->O a)(h:RepsO K H O v t fs)(J:∀b∈fs,O' b):RepsO K H O' v t fs:=h.gen (.less k) λb z _ _ e=>⟨J b z,e⟩
def RepO.more(z:H p=ac)(h:RepO K H O v t fs):RepO K H (ins1 p O) v t fs:=h.gen (.ins z) λ_ _ _ o e=>⟨.inr o,e⟩
def RepsO.more(z:H p=ac)(h:RepsO K H O v t fs):RepsO K H (ins1 p O) v t fs:=h.gen (.ins z) λ_ _ _ o e=>⟨.inr o,e⟩
def RepO.owns{v:V}{t:OT}{fs:List aF}(h:RepO K H O v t fs):∀b∈fs,O b/\∃u:MutHO,H b=aa u.1:=
 h.rec (motive_1:=λ_ _ fs _=>∀b∈fs,O b/\∃u:MutHO,H b=aa u.1) (motive_2:=λ_ _ fs _=>∀b∈fs,O b/\∃u:MutHO,H b=aa u.1) (λ_ _ z=>nomatch z) (λn h _ i b z=>(aA.mp z).elim (λq=>q▸⟨n,⟨_,rfl⟩,h⟩)$ i b) (λ_ _ _ i=>i) (λn h _ _ i b z=>(aA.mp z).elim (λq=>q▸⟨n,⟨_,rfl⟩,h⟩)$ i b) (λ_ n h _ _ i b z=>(aA.mp z).elim (λq=>q▸⟨n,⟨_,rfl⟩,h⟩)$ i b) (λ_ z=>nomatch z) (λ_ _ i j b z=>(bE.mp z).elim (i b)$ j b)
theorem RepsO.owns{v:List V}{t:List OT}{fs:List aF}(h:RepsO K H O v t fs):∀b∈fs,O b/\∃u:MutHO,H b=aa u.1:=
 h.ind (m:=λ_ _ fs=>∀b∈fs,O b/\∃u:MutHO,H b=aa u.1) (λ_ z=>nomatch z) λh j b z=>(bE.mp z).elim (h.owns b)$ j b
def RepO.val'{v:V}{t:OT}{fs:List aF}(h:RepO K H O v t fs):(∀a,O' a->O a/\a∉fs)->Rep K H O' v (otD t):=
 h.rec (motive_1:=λv t fs _=>(∀a,O' a->O a/\a∉fs)->Rep K H O' v (otD t)) (motive_2:=λv t fs _=>(∀a,O' a->O a/\a∉fs)->Reps K H O' v (otDs t)) (λr k=>r.less λa z=>(k a z).1)
  (λ_ h _ i k=>by unfold otD;exact .lst (λz=>(k _ z).2$ .head _) (.inl h)$ i λa z=>⟨(k a z).1,λq=>(k a z).2$ .tail _ q⟩) (λn h _ i k=>by unfold otD;exact .tup (λz=>n (k _ z).1) h$ i k)
  (λ_ h e _ i k=>by unfold otD;exact .dct (λz=>(k _ z).2$ .head _) h e$ i λa z=>⟨(k a z).1,λq=>(k a z).2$ .tail _ q⟩) (λc _ h e _ i k=>by unfold otD;exact .ins c (λz=>(k _ z).2$ .head _) h e$ i λa z=>⟨(k a z).1,λq=>(k a z).2$ .tail _ q⟩)
  (λ_=>by unfold otDs;exact .nil) (λ_ _ i j k=>by unfold otDs;exact .cons (i λa z=>⟨(k a z).1,λq=>(k a z).2$ aY _ q⟩)$ j λa z=>⟨(k a z).1,λq=>(k a z).2$ aI _ q⟩)
theorem RepsO.val'{v:List V}{t:List OT}{fs:List aF}(h:RepsO K H O v t fs):(∀a,O' a->O a/\a∉fs)->Reps K H O' v (otDs t):=
 h.ind (m:=λv t fs=>(∀a,O' a->O a/\a∉fs)->Reps K H O' v (otDs t)) (λ_=>by unfold otDs;exact .nil) λh j k=>by unfold otDs;exact .cons (h.val' λa z=>⟨(k a z).1,λq=>(k a z).2$ aY _ q⟩)$ j λa z=>⟨(k a z).1,λq=>(k a z).2$ aI _ q⟩
def RepO.any(h:RepO K H O v t fs):Rep K H qS v (otD t):=h.val' λ_ z=>z.elim
def RepsO.any(h:RepsO K H O v t fs):Reps K H qS v (otDs t):=h.val' λ_ z=>z.elim
end
noncomputable def xdO(dx:aF)(fs:List (Str×V)):HO:=.ext λh=>∃mA,h.Ns1 dx mA/\(∀f,RelO (fs.lookup f)$ mA f)/\Within mA (fs.map (·.1))
def XfOk(K:Frag)(H:Hp)(a:aF)(t:Nat)(fs:List (Str×Int)):Prop:=∃C o u b d,aH K mainGlobals (xName t)=aa (aa$ .ref C)/\H a=aa (.frz o u)/\o.cls=.ref C/\o.dict=aa b/\(∀c,o.data≠.cls c)/\H b=aa (.frz d$ xdO b$ fs.map λp=>(p.1,.int p.2))
def XfOk.keep{K:Frag}{H H':Hp}{a:aF}{t:Nat}{fs:List (Str×Int)}(x:XfOk K H a t fs)(k:∀b o u,H b=aa (.frz o u)->H' b=aa (.frz o u)):XfOk K H' a t fs:=by obtain⟨C,o,u,j,c,i,h,g,f,e,d⟩:=x;exact⟨C,o,u,j,c,i,k _ _ _ h,g,f,e,k _ _ _ d⟩
noncomputable def SlOk(K:Frag)(H₀ H:Hp)(O:aF->Prop):Option V->Sl->Prop
 |_,.no=>True
 |some x,.v d=>Rep K H O x d
 |some (.ref a),.own l=>O a/\∃xs,H a=aa (.lst xs)/\Reps K H O xs l
 |some (.ref a),.fr l=>¬O a/\H₀ a=ac/\∃xs,H a=aa (.lst xs)/\Reps K H O xs l
 |_,.ob _ _=>True
 |some (.ref a),.exf t fs=>XfOk K H a t fs
 |some (.ref a),.exc t=>∃C o u,aH K mainGlobals (xName t)=aa (aa$ .ref C)/\H a=aa (.frz o u)/\o.cls=.ref C
 |_,_=>False
def IsOwn(ds:List Sl)(i:Nat):Prop:=∃l,ds[i]?=aa (.own l)
inductive HI where
 |rep (v:V) (d:D)|base (B:aF->Prop)|root (k a:Nat)|fz (a:aF) (o:Obj) (kvs:List (Key×V)) (l:List D)
abbrev Hold:=List HI
noncomputable def HOk(K:Frag)(H₀ H:Hp)(O:aF->Prop):HI->Prop
 |.rep v d=>Rep K H O v d
 |.base B=>∀a,B a->O a/\H₀ a≠ac
 |.root _ _=>True
 |.fz a o kvs l=>¬O a/\H a=aa (.frz o$ .dK kvs)/\Reps K H O (kvs.map (·.2)) l
def Obs(K:Frag)(H₀ H:Hp)(O:aF->Prop)(σ:L2.St)(ds:List Sl)(hd:Hold):Prop:=∃F:Nat->List aF,∀(i:Nat) (r:Option Nat) (t:OT),ds[i]?=aa (.ob r t)->∃v,σ[i]?=aa (aa v)/\RepO K H O v t (F i)/\(∀k a,r=aa k->HI.root k a∈hd->v=.ref a)/\(F i).Nodup ∧
 ∀b∈F i,H₀ b=ac/\(∀j d c,j≠i->ds[j]?=aa (.ob d c)->b∉F j)/\∀j,IsOwn ds j->σ[j]?≠aa (aa$ .ref b)
structure Ok(K:Frag)(H₀ H:Hp)(O:aF->Prop)(σ:L2.St)(ds:List Sl)(hd:Hold):Prop where
 same:Same H₀ H
 fresh:∀(i:Nat) (l:List D) (a:aF),ds[i]?=some (.own l)->σ[i]?=some (some (.ref a))->H₀ a=none
 dom:∀a,O a->∃u:MutHO,H a=some u.1
 len:σ.length=ds.length
 sl:∀(i:Nat) (s:Sl),ds[i]?=some s->SlOk K H₀ H O (σ[i]?.join) s
 apart:∀(i j:Nat) (a:aF),i≠j->IsOwn ds i->IsOwn ds j->σ[i]?=some (some (.ref a))->σ[j]?=some (some (.ref a))->False
 hold:∀p∈hd,HOk K H₀ H O p
 obs:Obs K H₀ H O σ ds hd
section
variable{K:Frag}{ds:List Sl}
theorem HOk.mono(k:Same H H'):∀{p:HI},HOk K H₀ H O p->HOk K H₀ H' O p
 |.rep _ _,h=>Rep.mono k h
 |.base _,h=>h
 |.root _ _,h=>h
 |.fz _ _ _ _,h=>⟨h.1,k _ _ h.2.1,Reps.mono k h.2.2⟩
theorem HOk.keep(k:Keep O H H'):∀{p:HI},HOk K H₀ H O p->HOk K H₀ H' O p
 |.rep _ _,h=>Rep.keep k h
 |.base _,h=>h
 |.root _ _,h=>h
 |.fz _ _ _ _,h=>⟨h.1,k _ _ h.1 h.2.1,Reps.keep k h.2.2⟩
theorem Obs.tr(h:Obs K H₀ H O σ ds hd)(tr:∀v t fs,RepO K H O v t fs->(∀b∈fs,H₀ b=ac/\∀j,IsOwn ds j->σ[j]?≠aa (aa$ .ref b))->RepO K H' O' v t fs)(Y:∀(i:Nat) r t,ds'[i]?=aa (.ob r t)->ds[i]?=aa (.ob r t)/\J[i]?=σ[i]?)(U:∀j b,IsOwn ds' j->J[j]?=aa (aa$ .ref b)->(IsOwn ds j/\σ[j]?=aa (aa$ .ref b))\/H b=ac):Obs K H₀ H' O' J ds' hd:=by
 obtain⟨F,q⟩:=h;refine⟨F,λi r t e=>?_⟩;obtain⟨y,x⟩:=Y i r t e;obtain⟨v,w,k,u,s,c⟩:=q i r t y;refine⟨v,x.trans w,tr v t _ k λb a=>⟨(c b a).1,(c b a).2.2⟩,u,s,λb a=>⟨(c b a).1,λj g f p d=>(c b a).2.1 j g f p (Y j g f d).1,λj l d=>?_⟩⟩;rcases U j b l d with⟨n,m⟩|o
 . exact(c b a).2.2 j n m
 . obtain⟨_,xs,z⟩:=k.owns b a;rw[o]at z;cases z
def Obs.no(h:∀(i:Nat) r t,ds[i]?≠aa (.ob r t)):Obs K H₀ H O σ ds hd:=⟨λ_=>[],λi r t e=>(h i r t e).elim⟩
theorem Obs.mono(k:Same H H')(h:Obs K H₀ H O σ ds hd):Obs K H₀ H' O σ ds hd:=h.tr (λ_ _ _ r _=>r.mono k) (λ_ _ _ e=>⟨e,rfl⟩) λ_ _ o e=>.inl ⟨o,e⟩
def xN(z:∀r t,s≠.ob r t)(e:(ds.set i s)[j]?=aa (.ob r t)):ds[j]?=aa (.ob r t)/\j≠i:=by
 by_cases a:j=i
 . subst a;by_cases b:j<ds.length
   . rw[aU b]at e;cases e;exact(z r t rfl).elim
   . rw[aX$ by simpa using b]at e;cases e
 . rw[aB$ Ne.symm a]at e;exact⟨e,a⟩
def xV(z:∀l,s≠.own l)(e:IsOwn (ds.set i s) j):IsOwn ds j/\j≠i:=by
 obtain⟨l,e⟩:=e;by_cases a:j=i
 . subst a;by_cases b:j<ds.length
   . rw[aU b]at e;cases e;exact(z l rfl).elim
   . rw[aX$ by simpa using b]at e;cases e
 . rw[aB$ Ne.symm a]at e;exact⟨⟨l,e⟩,a⟩
theorem SlOk.mono(k:Same H H'){x:Option V}{s:Sl}(h:SlOk K H₀ H O x s):SlOk K H₀ H' O x s:=by
 cases x with
 |none=>cases s<;>exact h
 |some x=>cases x<;>cases s<;>first|exact h|exact Rep.mono k h|exact XfOk.keep h λ_ _ _ e=>k _ _ e|(obtain⟨a,xs,h,r⟩:=h;exact⟨a,xs,k _ _ h,r.mono k⟩)|(obtain⟨a,f,xs,h,r⟩:=h;exact⟨a,f,xs,k _ _ h,r.mono k⟩)|(obtain⟨C,o,u,d,c,b⟩:=h;exact⟨C,o,u,d,k _ _ c,b⟩)
def Ok.old(o:Ok K H₀ H O σ ds hd){a:aF}(h:O a):Old H a:=let ⟨xs,e⟩:=o.dom a h;⟨_,e,xs.2⟩
theorem Ok.mono(k:Same H H')(o:Ok K H₀ H O σ ds hd):Ok K H₀ H' O σ ds hd:=
 ⟨o.same.trans k,o.fresh,λa h=>let ⟨xs,e⟩:=o.dom a h;⟨xs,k _ _ e⟩,o.len,λi s e=>(o.sl i s e).mono k,o.apart,λp b=>(o.hold p b).mono k,o.obs.mono k⟩
def Ok.free(o:Ok K H₀ H O σ ds hd)(h:H p=ac):¬O p:=λz=>by obtain⟨xs,e⟩:=o.dom p z;rw[h]at e;cases e
def Ok.read{i:Nat}(o:Ok K H₀ H O σ ds hd)(e:ds[i]?=aa (.v d)):∃v,σ[i]?=aa (aa v)/\Rep K H O v d:=by
 have h:=o.sl i _ e;cases q:σ[i]? with
 |none=>rw[q]at h;exact h.elim
 |some x=>
   rw[q]at h;cases x with
   |none=>exact h.elim
   |some x=>exact⟨x,rfl,by cases x<;>exact h⟩
def Ok.readO{i:Nat}(o:Ok K H₀ H O σ ds hd)(e:ds[i]?=aa (.own l)):∃a xs,σ[i]?=aa (aa$ .ref a)/\O a/\H a=aa (.lst xs)/\Reps K H O xs l:=by
 have h:=o.sl i _ e;cases q:σ[i]? with
 |none=>rw[q]at h;exact h.elim
 |some x=>
   rw[q]at h;cases x with
   |none=>exact h.elim
   |some x=>
     cases x with
     |ref a=>obtain⟨b,xs,d,c⟩:=h;exact⟨a,xs,rfl,b,d,c⟩
     |_=>exact h.elim
def Ok.readX{i t:Nat}(o:Ok K H₀ H O σ ds hd)(e:ds[i]?=aa (.exc t)):∃a C ob u,σ[i]?=aa (aa$ .ref a)/\aH K mainGlobals (xName t)=aa (aa$ .ref C)/\H a=aa (.frz ob u)/\ob.cls=.ref C:=by
 have h:=o.sl i _ e;cases q:σ[i]? with
 |none=>rw[q]at h;exact h.elim
 |some x=>
   rw[q]at h;cases x with
   |none=>exact h.elim
   |some x=>
     cases x with
     |ref a=>obtain⟨C,ob,u,d,c,b⟩:=h;exact⟨a,C,ob,u,rfl,d,c,b⟩
     |_=>exact h.elim
def Ok.readE{i t:Nat}{fs:List (Str×Int)}(o:Ok K H₀ H O σ ds hd)(e:ds[i]?=aa (.exf t fs)):∃a,σ[i]?=aa (aa$ .ref a)/\XfOk K H a t fs:=by
 have h:=o.sl i _ e;cases q:σ[i]? with
 |none=>rw[q]at h;exact h.elim
 |some x=>
   rw[q]at h;cases x with
   |none=>exact h.elim
   |some x=>
     cases x with
     |ref a=>exact⟨a,rfl,h⟩
     |_=>exact h.elim
def Ok.readF{i:Nat}{l:List D}(o:Ok K H₀ H O σ ds hd)(e:ds[i]?=aa (.fr l)):∃a xs,σ[i]?=aa (aa$ .ref a)/\¬O a/\H₀ a=ac/\H a=aa (.lst xs)/\Reps K H O xs l:=by
 have h:=o.sl i _ e;cases q:σ[i]? with
 |none=>rw[q]at h;exact h.elim
 |some x=>
   rw[q]at h;cases x with
   |none=>exact h.elim
   |some x=>
     cases x with
     |ref a=>obtain⟨b,f,xs,d,c⟩:=h;exact⟨a,xs,rfl,b,f,d,c⟩
     |_=>exact h.elim
def jC:SlOk K H₀ H O x .no:=by
 cases x with
 |none=>trivial
 |some x=>cases x<;>trivial
def yQ:SlOk K H₀ H O x (.ob r t):=by
 cases x with
 |none=>trivial
 |some x=>cases x<;>trivial
def yN(h:Rep K H O x d):SlOk K H₀ H O (aa x) (.v d):=by cases x<;>exact h
theorem Ok.set(o:Ok K H₀ H O σ ds hd)(r:Rep K H O v d):Ok K H₀ H O (σ.set i$ aa v) (ds.set i$ .v d) hd:=by
 have f:∀{j:Nat},IsOwn (ds.set i$ .v d) j->j≠i/\IsOwn ds j:=λ{j} ⟨l,e⟩=>by
  by_cases c:j=i
  . subst c;by_cases h:j<ds.length
    . rw[aU h]at e;cases e
    . rw[aX$ by simpa using h]at e;cases e
  . rw[aB$ Ne.symm c]at e;exact⟨c,l,e⟩
 refine⟨o.same,λj l a g m=>?_,o.dom,by simpa using o.len,λj s e=>?_,λj k a p c A g m=>?_,o.hold,o.obs.tr (λ_ _ _ r _=>r) (λj r t e=>by
  obtain⟨g,c⟩:=xN (λr t=>by intro z;cases z) e
  exact⟨g,by rw[aB$ Ne.symm c]⟩) (λj b w u=>by
  obtain⟨x,c⟩:=xV (λl=>by intro z;cases z) w;rw[aB$ Ne.symm c]at u
  exact .inl ⟨x,u⟩)⟩
 . obtain⟨n,q⟩:=f ⟨l,g⟩;rw[aB$ Ne.symm n]at g m;exact o.fresh j l a g m
 . by_cases c:j=i
   . subst c;by_cases h:j<ds.length
     . rw[aU h]at e;cases e;rw[aU$ by rw[o.len];exact h];exact yN r
     . rw[aX$ by simpa using h]at e;cases e
   . rw[aB$ Ne.symm c]at e;rw[aB$ Ne.symm c];exact o.sl j s e
 . obtain⟨n,q⟩:=f c;obtain⟨y,B⟩:=f A;rw[aB$ Ne.symm n]at g;rw[aB$ Ne.symm y]at m;exact o.apart j k a p q B g m
def Ok.setO(o:Ok K H₀ H O σ ds hd)(k:Same H H')(J:H a=ac)(e:H' a=aa (.lst xs))(r:Reps K H' (ins1 a O) xs l):Ok K H₀ H' (ins1 a O) (σ.set i$ aa$ .ref a) (ds.set i$ .own l) hd:=by
 have Z:∀{v:V}{d:D},Rep K H O v d->Rep K H' (ins1 a O) v d:=λh=>(h.more J).mono k;have L:∀{v:List V}{d:List D},Reps K H O v d->Reps K H' (ins1 a O) v d:=λh=>(h.more J).mono k;have w:∀j:Nat,IsOwn ds j->σ[j]?=aa (aa$ .ref a)->False:=λj ⟨F,G⟩ q=>by obtain⟨b,ys,g,x,Q,_⟩:=o.readO G;rw[q]at g;cases g;rw[J]at Q;cases Q
 have f:∀{j:Nat},j≠i->IsOwn (ds.set i$ .own l) j->IsOwn ds j:=λ{j} c ⟨F,G⟩=>⟨F,by rwa [aB$ Ne.symm c]at G⟩
 refine⟨o.same.trans k,λj F b C u=>?_,λb y=>?_,by simpa using o.len,λj s A=>?_,λj m b P c hm C u=>?_,λp hp=>?_,o.obs.tr (λ_ _ _ r _=>(r.more J).mono k) (λj r t e=>by
  obtain⟨C,c⟩:=xN (λr t=>by intro z;cases z) e
  exact⟨C,by rw[aB$ Ne.symm c]⟩) (λj b oj I=>by
  by_cases c:j=i
  . subst c;by_cases n:j<σ.length
    . rw[aU n]at I;cases I;exact .inr J
    . rw[aX$ by simpa using n]at I;cases I
  . rw [aB (Ne.symm c)]at I;obtain ⟨F,G⟩:=oj;rw [aB (Ne.symm c)]at G
    exact .inl ⟨⟨F,G⟩,I⟩)⟩
 rotate_left 4
 . have:=o.hold p hp;cases p with
   |rep v d=>exact Z this
   |base B=>exact λb y=>⟨.inr (this b y).1,(this b y).2⟩
   |root k a=>exact True.intro
   |fz S o' Y F=>exact⟨λz=>z.elim (λz=>by have:=this.2.1;rw[z,J]at this;cases this) this.1,k _ _ this.2.1,(Reps.more J this.2.2).mono k⟩
 . by_cases c:j=i
   . subst c;by_cases n:j<σ.length
     . rw[aU n]at u;cases u;exact o.same.free J
     . rw[aX$ by simpa using n]at u;cases u
   . rw[aB$ Ne.symm c]at C u;exact o.fresh j F b C u
 . rcases y with rfl|y
   . exact⟨⟨.lst xs,rfl⟩,e⟩
   . obtain⟨ys,q⟩:=o.dom b y;exact⟨ys,k _ _ q⟩
 . by_cases c:j=i
   . subst c;by_cases n:j<ds.length
     . rw[aU n]at A;cases A;rw[aU$ by rw[o.len];exact n];exact⟨.inl rfl,xs,e,r⟩
     . rw[aX$ by simpa using n]at A;cases A
   . rw [aB (Ne.symm c)]at A;rw [aB (Ne.symm c)];cases s with
     |no=>exact jC
     |ob r t=>exact yQ
     |exc t=>obtain⟨S,C',N,U,M,X,E,W⟩:=o.readX A;rw[M];exact⟨C',N,U,X,k _ _ E,W⟩
     |exf t fs=>obtain⟨S,M,E⟩:=o.readE A;rw[M];exact E.keep λS N U E=>k _ _ E
     |fr F=>obtain⟨S,T,M,X,q0,E,W⟩:=o.readF A;rw[M];exact⟨λz=>z.elim (λG=>by rw[G,J]at E;cases E) X,q0,T,k _ _ E,L W⟩
     |v d=>obtain⟨v,g,x⟩:=o.read A;rw[g];exact yN$ Z x
     |own F=>obtain⟨b,ys,g,x,Q,h4⟩:=o.readO A;rw[g];exact⟨.inr x,ys,k _ _ Q,L h4⟩
 . have hs:∀{q:Nat},q=i->(σ.set i (aa (V.ref a)))[q]?=aa (aa (.ref b))->b=a:=λ{q} hq R=>by
    subst hq;by_cases n:q<σ.length
    . rw[aU n]at R;cases R;rfl
    . rw[aX$ by simpa using n]at R;cases R
   by_cases g:j=i
   . have y:=hs g C;have x:m≠i:=λz=>P$ g.trans z.symm;rw[aB$ Ne.symm x,y]at u;exact w m (f x hm) u
   . by_cases x:m=i
     . have y:=hs x u;rw[aB$ Ne.symm g,y]at C;exact w j (f g c) C
     . rw[aB$ Ne.symm g]at C;rw[aB$ Ne.symm x]at u;exact o.apart j m b P (f g c) (f x hm) C u
def Ok.modify(o:Ok K H₀ H O σ ds hd)(e:ds[i]?=aa (.own l))(ea:σ[i]?=aa (aa$ .ref a))(r:Reps K H O J U):Ok K H₀ (upd H a$ .lst J) O σ (ds.set i$ .own U) hd:=by
 obtain⟨M,xs,S,P,R,h4⟩:=o.readO e;rw[ea]at S;cases S;have Y:=(bC.mp e).1;have k:Keep O H (upd H a$ .lst J):=λb u E F=>by rw[upd_ne λ(z:b=a)=>E$ z.symm▸P];exact F
 refine⟨λb u F=>?_,λj W b x L=>?_,λb E=>?_,by simpa using o.len,λj s h=>?_,λj m b N c Z x L=>?_,λp X=>(o.hold p X).keep k,o.obs.tr (λ_ _ _ r E=>r.keep k λb z u eu=>by rw[upd_ne λq=>(E b z).2 i ⟨l,e⟩$ by rw[q];exact ea];exact eu) (λj r t I=>by
  obtain⟨x,c⟩:=xN (λr t=>by intro z;cases z) I
  exact⟨x,rfl⟩) (λj b V I=>by
  by_cases c:j=i
  . subst c;exact .inl ⟨⟨l,e⟩,I⟩
  . obtain ⟨U,G⟩:=V;rw [aB (Ne.symm c)]at G
    exact .inl ⟨⟨U,G⟩,I⟩)⟩
 rotate_left 1
 . by_cases c:j=i
   . subst c;exact o.fresh j l b e L
   . rw[aB$ Ne.symm c]at x;exact o.fresh j W b x L
 rotate_right 1
 . rw[upd_ne λz=>by rw[z,o.fresh i l a e ea]at F;cases F];exact o.same b u F
 . by_cases D:b=a
   . subst D;exact⟨⟨.lst J,rfl⟩,bP⟩
   . rw[upd_ne D];exact o.dom b E
 . by_cases c:j=i
   . subst c;rw[aU Y]at h;cases h;rw[ea];exact⟨P,J,bP,r.keep k⟩
   . rw [aB (Ne.symm c)]at h;cases s with
     |no=>exact jC
     |ob r t=>exact yQ
     |exc t=>obtain⟨M,C',B,Q,g,n,f,A⟩:=o.readX h;rw[g];exact⟨C',B,Q,n,by rw[upd_ne λz=>by rw[z,R]at f;cases f];exact f,A⟩
     |exf t fs=>obtain⟨M,g,f⟩:=o.readE h;rw[g];exact f.keep λM B Q f=>by rw[upd_ne λz=>by rw[z,R]at f;cases f];exact f
     |fr U=>obtain⟨M,y,g,n,T,f,A⟩:=o.readF h;rw[g];exact⟨n,T,y,by rw[upd_ne λz=>n$ by rw[z];exact P];exact f,A.keep k⟩
     |v d=>obtain⟨v,g,n⟩:=o.read h;rw[g];exact yN$ n.keep k
     |own C=>
       obtain⟨b,ys,g,n,f,A⟩:=o.readO h;rw[g];refine⟨n,ys,?_,A.keep k⟩;rw[upd_ne λz=>?_]
       . exact f
       . subst z;exact o.apart j i b c ⟨_,h⟩ ⟨l,e⟩ g ea
 . have w:∀{j:Nat},IsOwn (ds.set i (.own U)) j->IsOwn ds j:=λ{j} ⟨C,G⟩=>by
    by_cases c:j=i
    . subst c;exact⟨l,e⟩
    . rw[aB$ Ne.symm c]at G;exact⟨C,G⟩
   exact o.apart j m b N (w c) (w Z) x L
def Ok.holdMore(o:Ok K H₀ H O σ ds hd)(r:HOk K H₀ H O p)(J:∀k a,HI.root k a≠p:=by intro _ _ z;cases z):Ok K H₀ H O σ ds (p::hd):=
 ⟨o.same,o.fresh,o.dom,o.len,o.sl,o.apart,λq b=>(aA.mp b).elim (λe=>e▸r)$ o.hold q,o.obs.imp λ_ c i r t e=>(c i r t e).imp λ_ h=>⟨h.1,h.2.1,λk a z y=>(aA.mp y).elim (λy=>(J k a y).elim)$ h.2.2.1 k a z,h.2.2.2⟩⟩
def Ok.holdLess(o:Ok K H₀ H O σ ds (p::hd)):Ok K H₀ H O σ ds hd:=
 ⟨o.same,o.fresh,o.dom,o.len,o.sl,o.apart,λq b=>o.hold q$ aJ _ b,o.obs.imp λ_ c i r t e=>(c i r t e).imp λ_ h=>⟨h.1,h.2.1,λk a z y=>h.2.2.1 k a z$ aJ _ y,h.2.2.2⟩⟩
end
section
variable(X:Cx)
def PV(e:Expr)(f:FE):Prop:=∃t,PE X e t/\∀H₀ H O b c hd d Q,Ok X.K H₀ H O b c hd->f c=aa d->(∀v a,Same H a->Rep X.K a O v d->Q v a)->t b H Q
def PVw(e:Expr)(f:FE):Prop:=∃t,PE X e t/\∀H₀ H O b c hd d Q,Ok X.K H₀ H O b c hd->f c=aa d->(∀v a,Same H a->WRep X.K a O v d->Q v a)->t b H Q
def PVf(e:Expr)(f:FA):Prop:=∃t,PE X e t/\∀H₀ H O c d hd l Q,Ok X.K H₀ H O c d hd->f d=aa l →
 (∀a xs b,Same H b->H a=ac->b a=aa (.lst xs)->Reps X.K b (ins1 a O) xs l->Q (.ref a) b)->t c H Q
def PTv(e:Expr)(c:FT):Prop:=∃t,PT X e t/\∀H₀ H O a d hd b Q,Ok X.K H₀ H O a d hd->c d=aa b->(∀f,Same H f->Q b f)->t a H Q
def PWv(e:Expr)(c:FT):Prop:=∃t,PW X e t/\∀H₀ H O a d hd b Q,Ok X.K H₀ H O a d hd->c d=aa b->(∀f,Same H f->Q b f)->t a H Q
def PAv(es:List Expr)(f:FA):Prop:=∃t,PA X es t/\∀H₀ H O b d hd l Q,Ok X.K H₀ H O b d hd->f d=aa l->(∀c a,Same H a->GK (WRep X.K a O) c l->Q c a)->t b H Q
def PAs(es:List Expr)(f:FA):Prop:=∃t,PA X es t/\∀H₀ H O b d hd l Q,Ok X.K H₀ H O b d hd->f d=aa l->(∀c a,Same H a->Reps X.K a O c l->Q c a)->t b H Q
end
def PV.w(h:PV X e f):PVw X e f:=by obtain⟨t,b,c⟩:=h;exact⟨t,b,λH₀ H O a g hd d Q o e q=>c H₀ H O a g hd d Q o e λv i s r=>q v i s$ .inl r⟩
theorem PVf.s(h:PVf X e f):PV X e (mkL f):=by obtain⟨t,g,j⟩:=h;refine⟨t,g,λH₀ H O c m hd d Q o e q=>?_⟩;unfold mkL at e;obtain⟨l,b,rfl⟩:=mpd e;rw[b]at e;cases e;refine j H₀ H O c m hd l Q o b λa xs n s i k r=>q _ _ s ?_;exact .lst (o.free i) (.inl k)$ r.less λ_ z=>.inr z
def zK i(Y:X.N[i]?=aa x:=by rfl)(U:Vis X.env.scope x:=by first|exact Or.inl rfl|exact Or.inr (Or.inl rfl)|exact Or.inr (Or.inr rfl))(hd:(2:)=ag:=by decide)(J:(x==("__classdict__":Str))=ag:=by decide):PV X (.Name x pos) (qB i):=by
 refine⟨_,xD Y U hd J,λH₀ H O f c hd d Q o e q=>?_⟩;unfold qB at e;cases z:c[i]? with
 |none=>rw[z]at e;cases e
 |some s=>
   rw[z]at e;cases s with
   |v g=>cases e;obtain⟨v,b,a⟩:=o.read z;exact⟨v,b,q v H (Same.refl _) a⟩
   |no=>cases e
   |exc _=>cases e
   |exf _ _=>cases e
   |fr _=>cases e
   |ob _ _=>cases e
   |own l=>cases e
def zD i(Y:X.N[i]?=aa x:=by rfl)(U:Vis X.env.scope x:=by first|exact Or.inl rfl|exact Or.inr (Or.inl rfl)|exact Or.inr (Or.inr rfl))(hd:(2:)=ag:=by decide)(J:(x==("__classdict__":Str))=ag:=by decide):PVw X (.Name x pos) (zG i):=by
 refine⟨_,xD Y U hd J,λH₀ H O j h hd d Q o e q=>?_⟩;unfold zG at e;cases z:h[i]? with
 |none=>rw[z]at e;cases e
 |some s=>
   rw[z]at e;cases s with
   |v k=>cases e;obtain⟨v,c,b⟩:=o.read z;exact⟨v,c,q v H (Same.refl _)$ .inl b⟩
   |no=>cases e
   |exc _=>cases e
   |exf _ _=>cases e
   |fr _=>cases e
   |ob _ _=>cases e
   |own l=>cases e;obtain⟨a,xs,c,b,g,f⟩:=o.readO z;exact⟨.ref a,c,q _ H (Same.refl _)$ .inr ⟨a,xs,l,rfl,rfl,b,g,f⟩⟩
def yB{j pos}: PV X (.Constant (.int i) j pos) (zA$ .int i):=⟨_,pe_int,λ_ H _ _ _ _ _ _ _ e q=>by cases e;exact q _ H (Same.refl _)$ .int i⟩
def xR{j pos}: PV X (.Constant (.bool b) j pos) (zA$ .bl b):=⟨_,pe_bl,λ_ H _ _ _ _ _ _ _ e q=>by cases e;exact q _ H (Same.refl _)$ .bl b⟩
def qN{j pos}: PV X (.Constant .none j pos) (zA .non):=⟨_,pe_non,λ_ H _ _ _ _ _ _ _ e q=>by cases e;exact q _ H (Same.refl _) .non⟩
def aDh{j pos}: PV X (.Constant (.str x) j pos) (zA$ .str x):=⟨_,pe_str,λ_ H _ _ _ _ _ _ _ e q=>by cases e;exact q _ H (Same.refl _)$ .str x⟩
def UJ(J:Gl X x)(hm:X.mg x=aa u)(r:RelV v u)(z:∀H O,Rep X.K H O v d)(hd:(2:)=ag:=by decide):PV X (.Name x pos) (zA d):=
 ⟨_,BM J hm r hd,λ_ H O _ _ _ _ _ _ e q=>by cases e;exact q _ H (Same.refl _)$ z H O⟩
def OpS(X:Cx)(r:R2)(z:D->D->Option D):Prop:=∀H O x y e c d Q,(∀a,O a->∃u:MutHO,H a=aa u.1)->WRep X.K H O x e->WRep X.K H O y c->z e c=aa d->(∀v b,Same H b->Rep X.K b O v d->Q v b)->r x y H Q
def JI{r:R2}{z:D->D->Option D}(Y:OpS X r z){a b:Expr}{U J:FE}{ta tb:TE}(ha:∀H₀ H O σ ds hd d Q,Ok X.K H₀ H O σ ds hd->U ds=aa d->(∀v H',Same H H'->WRep X.K H' O v d->Q v H')->ta σ H Q)(hb:∀H₀ H O σ ds hd d Q,Ok X.K H₀ H O σ ds hd->J ds=aa d->(∀v H',Same H H'->WRep X.K H' O v d->Q v H')->tb σ H Q):∀H₀ H O σ ds hd d Q,Ok X.K H₀ H O σ ds hd->zH z U J ds=aa d->(∀v H',Same H H'->Rep X.K H' O v d->Q v H')->tOp r ta tb σ H Q:=by
 intro H₀ H O σ ds hd d Q o e q;obtain⟨h,l,e⟩:=bnd e;obtain⟨g,k,e⟩:=bnd e;refine ha H₀ H O σ ds hd h _ o l λx n f j=>?_;refine hb H₀ n O σ ds hd g _ (o.mono f) k λy m c i=>?_;exact Y m O x y h g d Q ((o.mono f).mono c).dom (j.mono c) i e λv H' s r=>q v H' ((f.trans c).trans s) r
def uL(ho:OpR X (mL U) r)(Y:OpS X r opD)(J:PVw X a fa)(z:PVw X b fb):PV X (.BinOp a U b pos) (zH opD fa fb):=by obtain⟨e,d,J⟩:=J;obtain⟨tb,c,z⟩:=z;exact⟨_,pe_op ho d c,JI Y (a:=a) (b:=b) J z⟩
def CP(ho:OpR X (eP U) r)(Y:OpS X r opD)(J:PVw X a fa)(z:PVw X b fb)(hm:dZ U b=ag):PV X (.Compare a [U] [b] pos) (zH opD fa fb):=by obtain⟨e,d,J⟩:=J;obtain⟨tb,c,z⟩:=z;exact⟨_,UV ho d c hm,JI Y (a:=a) (b:=b) J z⟩
def JK(ho:OpR X (eP U) r)(Y:OpS X r opD)(J:PVw X a fa)(z:PVw X b fb)(hm:dZ U b=ag):PTv X (.Compare a [U] [b] pos) (zN$ zH opD fa fb):=by
 obtain⟨m,i,J⟩:=J;obtain⟨tb,g,z⟩:=z;refine⟨_,UO ho i g hm,λH₀ H O f j hd k Q o e q=>?_⟩;obtain⟨d,h,e⟩:=bnd e;refine JI Y (a:=a) (b:=b) J z H₀ H O f j hd d _ o h λv l s r=>?_;cases d with
 |bl c=>cases e;cases r;exact⟨_,rfl,q l s⟩
 |_=>cases e
def os_add:OpS X (λx y H Q=>rI0 (λi j=>.int$ i+j) x y H Q\/∃i j,x=.str i/\y=.str j/\i.length+j.length<=sizeLine/\Q (.str$ i++j) H) xM:=by
 intro H O x y g f d Q h b a e q;cases g<;>cases f<;>first|(simp[xM]at e;done)|skip
 . cases e;rw[b.int',a.int'];exact .inl ⟨_,_,rfl,rfl,q _ H (Same.refl _)$ .int _⟩
 . rename_i x y;simp only [xM]at e;split at e
   . rename_i c;cases e;rw[b.str',a.str'];exact .inr ⟨_,_,rfl,rfl,c,q _ H (Same.refl _)$ .str _⟩
   . cases e
def op_addU:OpR X (mL .Add) (λx y H Q=>rI0 (λi j=>.int$ i+j) x y H Q\/∃i j,x=.str i/\y=.str j/\i.length+j.length<=sizeLine/\Q (.str$ i++j) H):=op_add.or QS
def os_sub:OpS X (rI0 λi j=>.int$ i-j) subD:=by
 intro H O x y f c d Q g b a e q;cases f<;>cases c<;>first|(simp[subD]at e;done)|skip
 cases e;rw[b.int',a.int'];exact⟨_,_,rfl,rfl,q _ H (Same.refl _)$ .int _⟩
def CDivB(i j:Int):Prop:=divOk j
def aEv:OpR X (mL .FloorDiv) (rI CDivB λi j=>.int$ i/j):=opI λi j _ _ _ _ _ a q=>by have e:i.fdiv j=i/j:=Int.fdiv_eq_ediv_of_nonneg _$ eJ a.1;refine floordiv_int (by have:=a.1;lia) ?_$ .inl$ PyProof.noPylong_of_log2 a.2;rw[e];exact q
def os_fdiv:OpS X (rI CDivB λi j=>.int$ i/j) jL:=by
 intro H O x y g f d Q h b a e q;cases g<;>cases f<;>first|(simp[jL]at e;done)|skip
 simp only[jL]at e;split at e
 . rename_i c;cases e;rw[b.int',a.int'];exact⟨_,_,rfl,rfl,c,q _ H (Same.refl _)$ .int _⟩
 . cases e
def os_mod:OpS X (rI (λ_ j=>0<j) λi j=>.int$ i%j) jK:=by
 intro H O x y g f d Q h b a e q;cases g<;>cases f<;>first|(simp[jK]at e;done)|skip
 simp only[jK]at e;split at e
 . rename_i c;cases e;rw[b.int',a.int'];exact⟨_,_,rfl,rfl,c,q _ H (Same.refl _)$ .int _⟩
 . cases e
def wB:OpS X (rI0 λi j=>.bl$ p i j) (cmpI p):=by
 intro H O x y f c d Q g b a e q;cases f<;>cases c<;>first|(simp[cmpI]at e;done)|skip
 cases e;rw[b.int',a.int'];exact⟨_,_,rfl,rfl,q _ H (Same.refl _)$ .bl _⟩
theorem PV.t(h:PV X e f)(J:∀z,GF e X.env z=(do let v <- z;oN e.pos;iA [v] (truthy v)):=by intro _;rfl):PTv X e (zN f):=by
 obtain⟨t,b,g⟩:=h;refine⟨_,pt_val b J,λH₀ H O a i hd k Q o e q=>?_⟩;unfold zN at e;obtain⟨d,h,e⟩:=bnd e;refine g H₀ H O a i hd d _ o h λv j s r=>?_;cases d with
 |bl c=>cases e;cases r;exact⟨_,rfl,q j s⟩
 |_=>cases e
def yP(z:PTv X a c):PWv X (.BoolOp .And [a] pos) c:=by obtain⟨t,b,d⟩:=z;exact⟨_,pw_and1 b,d⟩
def yR(z:PTv X a c):PWv X (.BoolOp .Or [a] pos) c:=by obtain⟨t,b,d⟩:=z;exact⟨_,pw_or1 b,d⟩
def yU{rest:List Expr}(J:PTv X a c)(z:PWv X (.BoolOp .And (b::rest) pos) d):PWv X (.BoolOp .And (a::b::rest) pos) (andT c d):=by
 obtain⟨t,n,r⟩:=J;obtain⟨u,m,p⟩:=z;refine⟨_,pw_and n m,λH₀ H O g i hd k Q o e q=>?_⟩;obtain⟨b,h,e⟩:=bnd e;refine r H₀ H O g i hd b _ o h λj s=>?_;cases b with
 |true=>exact iteT (p H₀ j O g i hd k Q (o.mono s) (by simpa using e) λf l=>q f$ s.trans l)
 |false=>
   have:ag=k:=by simpa using e
   subst this;exact iteF$ q j s
def xU{rest:List Expr}(J:PTv X a c)(z:PWv X (.BoolOp .Or (b::rest) pos) d):PWv X (.BoolOp .Or (a::b::rest) pos) (orT c d):=by
 obtain⟨t,n,r⟩:=J;obtain⟨u,m,p⟩:=z;refine⟨_,pw_or n m,λH₀ H O g i hd k Q o e q=>?_⟩;obtain⟨b,h,e⟩:=bnd e;refine r H₀ H O g i hd b _ o h λj s=>?_;cases b with
 |false=>exact iteF (p H₀ j O g i hd k Q (o.mono s) (by simpa using e) λf l=>q f$ s.trans l)
 |true=>
   have:ae=k:=by simpa using e
   subst this;exact iteT$ q j s
theorem PWv.t(h:PWv X e c):PTv X e c:=by obtain⟨t,a,b⟩:=h;exact⟨t,a.pt,b⟩
def yM(z:PTv X a c):PTv X (.UnaryOp .Not a pos) (notT c):=by obtain⟨t,f,g⟩:=z;refine⟨_,pt_not f,λH₀ H O d i hd k Q o e q=>?_⟩;obtain⟨b,h,rfl⟩:=mpd e;exact g H₀ H O d i hd b _ o h λj s=>q j s
def uK{z}(J:PV X a f):PV X (.BoolOp z [a] pos) f:=by obtain⟨t,b,c⟩:=J;exact⟨_,pe_one b,c⟩
def uM{rest:List Expr}(J:PV X a f)(z:PV X (.BoolOp .And (b::rest) pos) g):PV X (.BoolOp .And (a::b::rest) pos) (andV f g):=by
 obtain⟨t,w,y⟩:=J;obtain⟨u,p,x⟩:=z;refine⟨_,pe_and w p,λH₀ H O j k hd d Q o e q=>?_⟩;obtain⟨l,h,e⟩:=bnd e;refine y H₀ H O j k hd l _ o h λv m s r=>?_;cases l with
 |bl c=>
   cases r;cases c with
   |true=>exact⟨ae,rfl,iteT$ x H₀ m O j k hd d Q (o.mono s) e λv i n=>q v i$ s.trans n⟩
   |false=>have:=Option.some.inj e;subst this;exact⟨ag,rfl,iteF$ q _ m s$ .bl ag⟩
 |_=>cases e
def pv_or{rest:List Expr}(J:PV X a f)(z:PV X (.BoolOp .Or (b::rest) pos) g):PV X (.BoolOp .Or (a::b::rest) pos) (orV f g):=by
 obtain⟨t,w,y⟩:=J;obtain⟨u,p,x⟩:=z;refine⟨_,pe_or w p,λH₀ H O j k hd d Q o e q=>?_⟩;obtain⟨l,h,e⟩:=bnd e;refine y H₀ H O j k hd l _ o h λv m s r=>?_;cases l with
 |bl c=>
   cases r;cases c with
   |false=>exact⟨ag,rfl,iteF$ x H₀ m O j k hd d Q (o.mono s) e λv i n=>q v i$ s.trans n⟩
   |true=>have:=Option.some.inj e;subst this;exact⟨ae,rfl,iteT$ q _ m s$ .bl ae⟩
 |_=>cases e
def aDj(z:PV X a f):PV X (.UnaryOp .Not a pos) (notV f):=by
 obtain⟨t,i,j⟩:=z;refine⟨_,pe_not i,λH₀ H O g k hd d Q o e q=>?_⟩;obtain⟨b,h,e⟩:=bnd e;refine j H₀ H O g k hd b _ o h λv l s r=>?_;cases b with
 |bl c=>cases r;cases e;exact⟨c,rfl,q _ l s$ .bl _⟩
 |_=>cases e
def pv_if(z:PTv X c Y)(U:PV X a f)(J:PV X b g):PV X (.IfExp c a b pos) (ifV Y f g):=by
 obtain⟨A,p,z⟩:=z;obtain⟨t,w,y⟩:=U;obtain⟨u,r,x⟩:=J;refine⟨_,aEj p w r,λH₀ H O j m hd d Q o e q=>?_⟩;obtain⟨k,h,e⟩:=bnd e;refine z H₀ H O j m hd k _ o h λn s=>?_;cases k with
 |true=>exact iteT (y H₀ n O j m hd d Q (o.mono s) (by simpa using e) λv i l=>q v i$ s.trans l)
 |false=>exact iteF (x H₀ n O j m hd d Q (o.mono s) (by simpa using e) λv i l=>q v i$ s.trans l)
def qE:PAv X [] zT:=⟨_,jV,λ_ H _ _ _ _ _ _ _ e q=>by cases e;exact q _ H (Same.refl _) .nil⟩
def zW:PAs X [] zT:=⟨_,jV,λ_ H _ _ _ _ _ _ _ e q=>by cases e;exact q _ H (Same.refl _) .nil⟩
def zP(U:PVw X e f)(J:PAv X es g)(z:aG (e::es) X.env=(ag,cA e X.env)::aG es X.env:=by rfl):PAv X (e::es) (zB f g):=by obtain⟨t,m,p⟩:=U;obtain⟨u,k,n⟩:=J;refine⟨_,qL m k z,λH₀ H O a d hd l Q o e q=>?_⟩;obtain⟨x,h,e⟩:=bnd e;obtain⟨r,s,rfl⟩:=mpd e;refine p H₀ H O a d hd x _ o h λv y c j=>?_;refine n H₀ y O a d hd r _ (o.mono c) s λA w b i=>?_;exact q _ w (c.trans b)$ .cons (j.mono b) i
def zI(U:PV X e f)(J:PAs X es g)(z:aG (e::es) X.env=(ag,cA e X.env)::aG es X.env:=by rfl):PAs X (e::es) (zB f g):=by obtain⟨t,m,p⟩:=U;obtain⟨u,k,n⟩:=J;refine⟨_,qL m k z,λH₀ H O a d hd l Q o e q=>?_⟩;obtain⟨x,h,e⟩:=bnd e;obtain⟨r,s,rfl⟩:=mpd e;refine p H₀ H O a d hd x _ o h λv y c j=>?_;refine n H₀ y O a d hd r _ (o.mono c) s λA w b i=>?_;exact q _ w (c.trans b)$ .cons (j.mono b) i
def qF(h:H p=ac) o:Same H (upd H p o):=λb u q=>by rw[upd_ne$ qW q h];exact q
def jF(h:PAs X es g):PVf X (.List es pos) (qM g):=by
 obtain⟨t,j,m⟩:=h;refine⟨_,aEi j,λH₀ H O f d hd l Q o e q=>?_⟩;unfold qM at e;cases h:g d with
 |none=>rw[h]at e;cases e
 |some n=>
   rw[h]at e;simp only[aZ]at e;split at e
   . rename_i k;cases e;refine m H₀ H O f d hd l _ o h λi r b c=>⟨by rw [c.length];exact k,λp a=>?_⟩
     refine q p i _ (b.trans$ qF a _) (b.free a) bP ?_;exact(c.more a).mono (qF a _)
   . cases e
def yA{x1}(h:PAs X es g):PV X (.Tuple es x1 pos) (mkT$ qM g):=by
 obtain⟨t,k,m⟩:=h;refine⟨_,aEg k,λH₀ H O i f hd d Q o e q=>?_⟩;unfold mkT qM at e;cases h:g f with
 |none=>rw[h]at e;cases e
 |some j=>
   rw[h]at e;simp only[aZ]at e;split at e
   . rename_i l;cases e;refine m H₀ H O i f hd j _ o h λn r b c=>⟨by rw [c.length];exact l,λp a=>?_⟩
     refine q _ _ (b.trans$ qF a _) ?_;exact .tup ((o.mono b).free a) (.inl bP)$ c.mono$ qF a _
   . cases e
def WK{K:Frag}(r:Reps K H O xs l)(e:atI l i=aa d):∃v,atI xs i=aa v/\Rep K H O v d:=by
 unfold atI at e ⊢;rw[r.length];cases h:ixN l.length i with
 |none=>rw[h]at e;cases e
 |some j=>rw[h]at e;exact r.get e
def ix_sem{K:Frag}(J:WRep K H O x dx)(z:WRep K H O y U)(e:ixD dx U=aa d)(q:∀v H',Same H H'->Rep K H' O v d->Q v H'):rIx K x y H Q:=by
 cases dx<;>cases U<;>first|(simp[ixD]at e;done)|skip
 . simp only [ixD]at e;split at e
   . rename_i h;rw[J.str',z.int'];obtain⟨c,i,rfl⟩:=mpd e;exact .inr$ .inr ⟨_,_,c,rfl,rfl,h,i,q _ H (Same.refl _)$ .str _⟩
   . cases e
 . obtain⟨a,xs,rfl,b,r⟩:=J.seqT;rw[z.int'];obtain⟨v,g,f⟩:=WK r e;exact .inr$ .inl ⟨a,xs,_,v,rfl,rfl,b,g,q _ H (Same.refl _) f⟩
 . obtain⟨a,xs,rfl,b,r⟩:=J.seqL;rw[z.int'];obtain⟨v,g,f⟩:=WK r e;exact .inl ⟨a,xs,_,v,rfl,rfl,b,g,q _ H (Same.refl _) f⟩
def os_ix:OpS X (rIx X.K) ixD:=λH O x y g f d Q c b a e q=>ix_sem b a e q
def qQ(J:PVw X a fa)(z:PVw X b Y)(U:WO b:=by exact λ_ _=>rfl):PV X (.Subscript a b pos) (zH ixD fa Y):=by obtain⟨e,d,J⟩:=J;obtain⟨tb,c,z⟩:=z;exact⟨_,pe_ix ix_seq d c U,JI os_ix (a:=a) (b:=b) J z⟩
noncomputable def RetOk(K:Frag)(H H':Hp)(v:V):Ret->Prop
 |.val d=>Rep K H' (Old H) v d
 |.fresh l=>∃a xs,v=.ref a/\H a=ac/\H' a=aa (.lst xs)/\Reps K H' (ins1 a$ Old H) xs l
 |.any d=>Rep K H' qS v d
 |.obj t=>∃fs,RepO K H' (λb=>b∈fs\/Old H b) v t fs/\fs.Nodup/\∀b∈fs,H b=ac
noncomputable def RetB(K:Frag)(H:Hp)(hd:Hold)(v:V):Ret->Prop
 |.any d=>∀B,HI.base B∈hd->Rep K H B v d
 |_=>True
noncomputable def spF(K:Frag)(n:Nat)(F:List D->Option Ret):Sp:=λvs H Q _=>vs.length=n/\∃ds r,Reps K H qS vs ds/\F ds=aa r/\∀v H',Same H H'->RetOk K H H' v r->Q v H'
def BJ{K:Frag}(h:RetOk K H H' v r)(e:retV r=aa d)(J:∀a,O a->Old H a):Rep K H' O v d:=by
 cases r with
 |any i=>cases e
 |val i=>cases e;exact h.less J
 |obj t=>
   cases e;obtain⟨fs,f,g,c⟩:=h;refine f.val' λa z=>⟨.inr$ J a z,λq=>?_⟩
   obtain⟨o,e,_⟩:=J a z;rw[c a q]at e;cases e
 |fresh l=>cases e;obtain⟨a,xs,rfl,f,g,c⟩:=h;refine .lst (λz=>?_) (.inl g)$ c.less λb z=>.inr$ J b z;obtain⟨o,e,_⟩:=J a z;rw[f]at e;cases e
def retF_ok{K:Frag}(h:RetOk K H H' v r)(e:retF r=aa l)(J:∀a,O a->Old H a):∃a xs,v=.ref a/\H a=ac/\H' a=aa (.lst xs)/\Reps K H' (ins1 a O) xs l:=by
 cases r with
 |any g=>cases e
 |val g=>cases e
 |obj t=>cases e
 |fresh i=>cases e;obtain⟨a,xs,rfl,f,d,c⟩:=h;exact⟨a,xs,rfl,f,d,c.less λb z=>z.elim .inl λz=>.inr$ J b z⟩
def CallS(X:Cx)(r:List V->Hp->VK->Prop)(F:List D->Option D):Prop:=∀H O c l d Q,(∀a,O a->∃u:MutHO,H a=aa u.1)->GK (WRep X.K H O) c l->F l=aa d->(∀v b,Same H b->Rep X.K b O v d->Q v b)->r c H Q
def xW{id:String}(hc:CallR X (.builtin id) r)(Y:CallS X r F)(hm:X.mg x=ac)(U:fA x=aa (.builtin id))(ha:PAv X (e::es) g)(hg:Gl X x)(hn:x≠"__name__":=by decide)(J:(2:)=ag:=by decide)(he:aG (e::es) X.env=(ag,cA e X.env)::aG es X.env:=by rfl)(z:(dJ pos$ aG es X.env).any (·.1)=ag:=by rfl):PV X (.Call (.Name x p) (e::es) [] pos) (callB F g):=by
 obtain⟨t,j,k⟩:=ha;refine⟨_,xK hc hg hm U j hn J he z,λH₀ H O b m hd d Q o e q=>?_⟩;obtain⟨l,h,e⟩:=bnd e;refine k H₀ H O b m hd l _ o h λc n a i=>?_;exact Y n O c l d Q (o.mono a).dom i e λv s f r=>q v s (a.trans f) r
def aAs:CallR X (.builtin "len") (λxs H Q=>(∃p ys,xs=[.ref p]/\(SqL X.K H p ys\/SqT X.K H p ys)/\Q (.int ys.length) H)\/∃z,xs=[.str z]/\z.length<=sizeLine/\Q (.int z.length) H):=KL.or KJ
def cs_len:CallS X (λxs H Q=>(∃p ys,xs=[.ref p]/\(SqL X.K H p ys\/SqT X.K H p ys)/\Q (.int ys.length) H)\/∃z,xs=[.str z]/\z.length<=sizeLine/\Q (.int z.length) H) lenD:=by
 intro H O g l d Q h r e q;unfold lenD at e;split at e
 . cases e;cases r with
   |cons r rn=>cases rn;obtain⟨a,xs,rfl,c,b⟩:=r.seqL;refine .inl ⟨a,xs,rfl,.inl c,?_⟩;rw[b.length];exact q _ H (Same.refl _)$ .int _
 . cases e;cases r with
   |cons r rn=>cases rn;obtain⟨a,xs,rfl,c,b⟩:=r.seqT;refine .inl ⟨a,xs,rfl,.inr c,?_⟩;rw[b.length];exact q _ H (Same.refl _)$ .int _
 . split at e
   . rename_i f;cases e;cases r with
     |cons r rn=>cases rn;rw[r.str'];exact .inr ⟨_,rfl,f,q _ H (Same.refl _)$ .int _⟩
   . cases e
 . cases e
def jO(hm:X.mg "len"=ac)(U:PAv X [e] g)(z:Gl X "len":=by rfl)(J:aG [e] X.env=[(ag,cA e X.env)]:=by rfl):PV X (.Call (.Name "len" p) [e] [] pos) (callB lenD g):=xW aAs cs_len hm PySem.boot_len U z (by decide) (by decide) J rfl
noncomputable def After(X:Cx)(H₀:Hp)(hd:Hold)(E:Ends):Out->Prop
 |.nx ds=>∀σ H O,Ok X.K H₀ H O σ ds hd->E.nx σ H
 |.bk ds=>∀σ H O,Ok X.K H₀ H O σ ds hd->E.bk σ H
 |.ct ds=>∀σ H O,Ok X.K H₀ H O σ ds hd->E.ct σ H
 |.rt r=>∀v H,Same H₀ H->RetOk X.K H₀ H v r->RetB X.K H hd v r->E.rt v H
variable(X) in
def PSv(st:Stmt)(g:FS):Prop:=∃t,PS X st t/\∀H₀ H O b c hd a E,Ok X.K H₀ H O b c hd->g c=aa a->After X H₀ hd E a->t E b H
variable(X) in
def PSsv(st:List Stmt)(g:FS):Prop:=∃t,PSs X st t/\∀H₀ H O b c hd a E,Ok X.K H₀ H O b c hd->g c=aa a->After X H₀ hd E a->t E b H
def zL:PSsv X [] qH:=⟨_,pss_nil,λ_ H O a c hd b E o e h=>by cases e;exact h a H O o⟩
def zC{st:Stmt}{rest:List Stmt}(h1:PSv X st f)(h2:PSsv X rest g):PSsv X (st::rest) (qP f g):=by
 obtain⟨t,l,n⟩:=h1;obtain⟨u,k,m⟩:=h2;refine⟨_,CU l k,λH₀ H O i p hd c E o e h=>?_⟩;obtain⟨d,h1,e⟩:=bnd e;refine n H₀ H O i p hd d _ o h1 ?_;cases d with
 |nx a=>exact λb s q j=>m H₀ s q b a hd c E j e h
 |rt r=>cases e;exact h
 |bk a=>cases e;exact h
 |ct a=>cases e;exact h
def zE{st:Stmt}(h1:PSv X st f):PSsv X [st] f:=by obtain⟨t,a,b⟩:=h1;exact⟨_,UQ a,b⟩
def JL:PSv X (.Continue pos) (λds=>aa$ .ct ds):=⟨_,MM,λ_ H O a ds hd b E o e h=>by cases e;exact h a H O o⟩
def qC(z:PTv X c Y)(U:PSsv X a f)(J:PSsv X b g):PSv X (.If c a b pos) (ifG Y f g):=by
 obtain⟨w,m,z⟩:=z;obtain⟨t,p,r⟩:=U;obtain⟨u,n,q⟩:=J;refine⟨_,ps_if m p n,λH₀ H O i j hd d E o e h=>?_⟩;obtain⟨k,v,e⟩:=bnd e;refine z H₀ H O i j hd k _ o v λl s=>?_;cases k with
 |true=>exact iteT (r H₀ l O i j hd d E (o.mono s) (by simpa using e) h)
 |false=>exact iteF (q H₀ l O i j hd d E (o.mono s) (by simpa using e) h)
def zU(hN:X.N.Nodup)(Y:PV X e f)(hi:X.N[i]?=aa x:=by rfl)(z:Loc X.env.scope x:=by first|exact Or.inl rfl|exact Or.inr rfl)(J:eF e (aa$ .Name x pos') pos.line X.env=pure ag:=by rfl)(U:X.fn x=ae\/X.env.scope.names.lookup x=aa .local:=by first|exact .inl rfl|exact .inr rfl):PSv X (.Assign [.Name x pos'] e pos) (jW i f):=by obtain⟨t,c,g⟩:=Y;refine⟨_,JN hN hi z c J U,λH₀ H O a k hd b E o e h=>?_⟩;obtain⟨d,j,rfl⟩:=mpd e;exact g H₀ H O a k hd d _ o j λv l s r=>h _ _ _$ (o.mono s).set r
def yG(hN:X.N.Nodup)(z:PVf X e f)(hi:X.N[i]?=aa x:=by rfl)(J:Loc X.env.scope x:=by first|exact Or.inl rfl|exact Or.inr rfl)(U:eF e (aa$ .Name x pos') pos.line X.env=pure ag:=by rfl)(Y:X.fn x=ae\/X.env.scope.names.lookup x=aa .local:=by first|exact .inl rfl|exact .inr rfl):PSv X (.Assign [.Name x pos'] e pos) (setOG i f):=by obtain⟨t,d,j⟩:=z;refine⟨_,JN hN hi J d U Y,λH₀ H O b m hd c E o e h=>?_⟩;obtain⟨l,k,rfl⟩:=mpd e;exact j H₀ H O b m hd l _ o k λa xs n s g z r=>h _ _ _$ o.setO s g z r
def zY(J:PVw X e f):PSv X (.Return (aa e) pos) (retG f):=by
 obtain⟨t,g,i⟩:=J;refine⟨_,JO g,λH₀ H O b l hd c E o e h=>?_⟩;obtain⟨d,k,e⟩:=bnd e;simp only[aZ,flatR]at e;split at e
 . rename_i j;cases e;exact i H₀ H O b l hd d _ o k λv m s r=>h _ _ (o.same.trans s) (Rep.flatten (λa z=>Old.mono (o.same.trans s) z) j r.any) True.intro
 . cases e
def wH(J:PVf X e f):PSv X (.Return (aa e) pos) (retOG f):=by
 obtain⟨t,g,j⟩:=J;refine⟨_,JO g,λH₀ H O c n hd d E o e h=>?_⟩;obtain⟨l,m,e⟩:=bnd e;simp only[aZ,flatF]at e;split at e
 . rename_i k;cases e;refine j H₀ H O c n hd l _ o m λa xs p s i J r=>h _ _ (o.same.trans s) ⟨a,xs,rfl,o.same.free i,J,Reps.flatten (λb z=>?_) k r⟩ True.intro;rcases z with rfl|z
   . exact⟨_,J,rfl⟩
   . exact Old.mono (o.same.trans s) z
 . cases e
def xI i(hN:X.N[i]?=aa x:=by rfl)(Y:Vis X.env.scope x:=by first|exact Or.inl rfl|exact Or.inr (Or.inl rfl)|exact Or.inr (Or.inr rfl))(hd:(2:)=ag:=by decide)(U:(x==("__classdict__":Str))=ag:=by decide):PSv X (.Return (aa$ .Name x pos') pos) (retXG i):=by
 refine⟨_,JO$ xD hN Y hd U,λH₀ H O m k hd f E o e h=>?_⟩;unfold retXG at e;cases J:k[i]? with
 |none=>rw[J]at e;cases e
 |some s=>
   rw[J]at e;cases s with
   |v p=>cases e
   |no=>cases e
   |exc _=>cases e
   |exf _ _=>cases e
   |fr _=>cases e
   |ob _ _=>cases e
   |own l=>
     simp only[flatF]at e;split at e
     . rename_i g;cases e;obtain ⟨a,xs,d,n,c,j⟩:=o.readO J;refine ⟨.ref a,d,h _ _ o.same ⟨a,xs,rfl,o.fresh i l a J d,c,Reps.flatten (λb z=>?_) g j⟩ True.intro⟩;rcases z with rfl|z
       . exact⟨_,c,rfl⟩
       . exact Old.mono o.same z
     . cases e
def psv_put(he:PV X e fe)(hk:PV X J fk)(hN:X.N[i]?=aa x:=by rfl)(hv:Vis X.env.scope x:=by first|exact Or.inl rfl|exact Or.inr (Or.inl rfl)|exact Or.inr (Or.inr rfl))(hd:(2:)=ag:=by decide)(hcd:(x==("__classdict__":Str))=ag:=by decide)(ha:∀v,BD (.Subscript (.Name x Y) J U) X.env v=(do
    let ov <- iA [v] (cA (.Name x Y) X.env)
    let iv <- iA [v,ov] (cA J X.env)
    oN U
    iA [v,ov,iv] (setItem ov iv v)
    release [v,ov,iv] []):=by intro _;rfl)(hs:SU [.Subscript (.Name x Y) J U] e pos.line X.env=pure ag:=by rfl)(hw:SV [.Subscript (.Name x Y) J U] e X.env=pure ac:=by rfl)(h1:(gM [.Subscript (.Name x Y) J U] X.env).map (·.2)=[BD (.Subscript (.Name x Y) J U) X.env]:=by rfl):PSv X (.Assign [.Subscript (.Name x Y) J U] e pos) (putG i fk fe):=by
 obtain⟨D,u,he⟩:=he;obtain⟨C,t,hk⟩:=hk;refine⟨_,aEa u (pg_sub (xD hN hv hd hcd) t aCw ha) hs hw h1,λH₀ H O g f hd w E o e h=>?_⟩;unfold putG at e;cases z:f[i]? with
 |none=>rw[z]at e;cases e
 |some s=>
   rw[z]at e;cases s with
   |v I=>cases e
   |no=>cases e
   |exc _=>cases e
   |exf _ _=>cases e
   |fr _=>cases e
   |ob _ _=>cases e
   |own l=>
     obtain⟨d,h1,e⟩:=bnd e;obtain⟨kd,A,e⟩:=bnd e;cases kd with
     |int n=>obtain⟨j,y,rfl⟩:=mpd e;refine he H₀ H O g f hd d _ o h1 λv B c q=>?_;obtain⟨a,xs,m,F,r,k⟩:=(o.mono c).readO z;refine⟨.ref a,m,?_⟩;refine hk H₀ B O g f hd _ _ (o.mono c) A λG K b p=>?_;cases p;refine⟨a,xs,n,j,rfl,rfl,b _ _ r,by rw[k.length];exact y,?_⟩;exact h _ _ _$ ((o.mono c).mono b).modify z m$ (k.mono b).set (q.mono b) j
     |_=>cases e
def xA(he:PV X e fe)(hN:X.N[i]?=aa x:=by rfl)(hv:Vis X.env.scope x:=by first|exact Or.inl rfl|exact Or.inr (Or.inl rfl)|exact Or.inr (Or.inr rfl))(hd:(2:)=ag:=by decide)(hcd:(x==("__classdict__":Str))=ag:=by decide)(Y:((dJ p3$ aG [e] X.env).all (λx=>!x.1)&&(nV p3$ hJ [] X.env).all (λx=>x.1.isSome)
    && decide ([e].length+([]:List pR).length+(if ([]:List pR).isEmpty then 0 else 1)<30))=ae:=by rfl)(J:(p2.endLine==p3.line)=ae:=by rfl)(hs:aG [e] X.env=(ag,cA e X.env)::aG [] X.env:=by rfl)(U:fB (.Name x p1) "append" X.env (cA (.Name x p1) X.env)=cA (.Name x p1) X.env:=by rfl)(hsw:eF (.Call (.Attribute (.Name x p1) "append" p2) [e] [] p3) ac pos.line X.env=pure ag:=by rfl):PSv X (.Expr (.Call (.Attribute (.Name x p1) "append" p2) [e] [] p3) pos) (appG i fe):=by
 obtain⟨t,n,he⟩:=he;refine⟨_,kI (UW oO EZ EY HV (xD hN hv hd hcd) (qL n jV hs) U Y J hs rfl) hsw,λH₀ H O k j hd p E o e h=>?_⟩;unfold appG at e;cases z:j[i]? with
 |none=>rw[z]at e;cases e
 |some s=>
   rw[z]at e;cases s with
   |v w=>cases e
   |no=>cases e
   |exc _=>cases e
   |exf _ _=>cases e
   |fr _=>cases e
   |ob _ _=>cases e
   |own l=>
     obtain⟨d,r,e⟩:=bnd e;split at e
     . rename_i q;cases e;obtain⟨a,xs,g,u,f,c⟩:=o.readO z;refine⟨.ref a,g,.inl ⟨rfl,xs,SqL.of f⟩,?_⟩;refine he H₀ H O k j hd d _ o r λv y b m=>?_;refine⟨a,xs,v,rfl,rfl,b _ _ f,by rw[c.length];exact q,?_⟩;exact h _ _ _$ (o.mono b).modify z g$ (c.mono b).append$ .cons m .nil
     . cases e
def WL n ds(i:Nat) r t:(args n ds)[i]?≠aa (.ob r t):=λe=>by
 unfold args at e;by_cases hi:i<ds.length
 . rw [bO (by simpa using hi),bB]at e;cases h:ds[i]? with
   |none=>rw[h]at e;cases e
   |some d=>rw[h]at e;cases e
 . rw [cE$ by simpa using hi,eB]at e;split at e<;>cases e
def CZ{K:Frag}(r:Reps K H qS vs ds):Ok K H H qS (L2.start N vs) (args N.length ds) []:=by
 have b:=r.length;have no:∀i,IsOwn (args N.length ds) i->False:=λi ⟨l,e⟩=>by
  unfold args at e;by_cases hi:i<ds.length
  . rw [bO (by simpa using hi),bB]at e;cases h:ds[i]? with
    |none=>rw[h]at e;cases e
    |some d=>rw[h]at e;cases e
  . rw [cE$ by simpa using hi,eB]at e;split at e<;>cases e
 refine⟨Same.refl _,λi l a e _=>(no i ⟨l,e⟩).elim,λ_ z=>z.elim,by simp[L2.start,args,b],λi s e=>?_,λi j a _ hi _ _ _=>no i hi,(λp c=>nomatch c),.no$ WL _ _⟩;unfold args at e;unfold L2.start;by_cases hi:i<ds.length
 . rw[bO$ by simpa using hi,bB]at e;rw[bO$ by simpa[b]using hi,bB];obtain⟨d,h,rfl⟩:=mpd e;obtain⟨v,g,f⟩:=r.get h;rw[g];exact yN f
 . rw [cE (by simpa using hi),eB]at e;split at e
   . cases e;exact jC
   . cases e
def Does(g:FS)(n:Nat)(ds:List D)(r:Ret):Prop:=g (args n ds)=aa (.rt r)\/(r=.val .non/\∃a,g (args n ds)=aa (.nx a))
def qV{K:Frag}{st:Stmt}(Y:Fun K x qual st f fd)(S:FnScope N ps (zJ st))(J:∀z A outer s H E,Room k (A.deeper$ iM qual (zJ st) s.heap.objs.size f z)->PSsv (cxOf CX0 P w K mg base N qual (zJ st) f z A outer s H E).nox (qJ st) g)(U:∀ds r,ds.length=ps.length->F ds=aa r->Does g N.length ds r):FnOk P w K mg base CX0 (k+1) f fd ps (spF K ps.length F):=by
 refine Y.ok S (λi H Q E h=>h.1) λz A outer s H i Q E m h=>?_;obtain⟨n,ds,r,c,e,q⟩:=h;obtain⟨t,l,d⟩:=J z A outer s H E m;refine⟨t,l,?_⟩;have o:=CZ (N:=N) c;rcases U ds r (by rw[<-c.length];exact n) e with a|⟨rfl,p,a⟩
 . exact d H H qS _ _ [] _ _ o a λv b s r _=>q v b s r
 . exact d H H qS _ _ [] _ _ o a λu b O j=>q .non b j.same .non
end FL
namespace L2
noncomputable def Its(x:Str):It:=⟨λi _=>i<x.cps.size,λi H v H'=>H'=H/\∃c,x.cps[i]?=aa c/\v=.str ⟨#[c]⟩,λi _=>i=x.cps.size⟩
def LK{P:bW}{w:cT}{K:aM}{tg:Expr}(x:Str)(t:Tok)(it:aF)(ty:String)(Y:["enumerate","zip","dict_itemiterator","dict_reverseitemiterator","odict_iterator","itertools.zip_longest","itertools.pairwise"].contains ty=ag)(U:∀A:dF,A.handled=ac->Walks P w A it [it] [it] x.cps.size (SignAt x) (λi h=>h.IsStrIter it ty x t i))(J:∀(A:dF) (i:Nat) (s:aW) (Q:Value->aW->Prop) (E:Value->aW->Prop),s.heap.IsStrIter it ty x t i->Q (.ref it) s->bG (aT P w) A (GD$ .ref it) Q E s):Turn P w K tg (Its x) [it] it (λi h=>h.IsStrIter it ty x t i) where
 mem:=by simp
 obj:=λi h st b a=>by
  have e:b=it:=by simpa using a
  subst e;obtain⟨o,e,c,d⟩:=st;exact⟨o,e,λv z=>by rw[d]at z;cases z⟩
 keep:=λi h p st k=>by obtain⟨o,e,r⟩:=st;exact⟨o,k it (by simp) o e,r⟩
 item:=by intro X R N S n i L s F H E I g st l;obtain⟨D,C,T,B,y,q⟩:=g it (by simp);refine(U X.A$ I.ok.hd n).item i s _ _ l st λv p G O f M=>?_;obtain⟨c,u,m,rfl⟩:=O;have Z:Inv X L F H {s with heap:=p,toks:=G}:=I.turned (λb o a e=>M b o (by simpa using a) e) D C B y q;obtain⟨o,e,W,d⟩:=id f;exact⟨_,rfl,NP e W d Y ⟨.str ⟨#[c]⟩,H,Z,⟨u,rfl⟩,⟨rfl,c,m,rfl⟩,f,λb a=>(g b a).1⟩⟩
 done:=by intro X R N S n i L s F H E I g st l;obtain⟨D,C,T,B,y,q⟩:=g it (by simp);have j:=l;subst j;exact(U X.A$ I.ok.hd n).done s _ _ st λp G V=>⟨rfl,I.turned (λb o a e=>V b o (by simpa using a) e) D C B y q⟩
 self:=J
def iStr(tl:TE):TI:=λa H R=>tl a H λx b=>∃z,x=.str z/\R (Its z) b
def pi_str(U:PE X l tl):PI X tg l (iStr tl):=by
 intro n s i H R I h;refine thn (U n s i H _ I h) λv a j=>?_;obtain⟨x,g,c,k,m⟩:=j;obtain⟨z,e,q⟩:=m;subst e;obtain⟨t,rfl⟩:=k;cases J:z.cps.all (· < 128)
 . refine wpAny_pyIter_wide J ⟨a.heap.objs.size,[a.heap.objs.size],_,_,g,rfl,c.kept λb o e=>aD _ e,LK z t _ "str_iterator" (by decide) (λA f=>Walks.strWide f _ z t) (λ_ _ _ _ _ st h=>wpAny_pyIter_striter_wide st h),⟨_,aN _ rfl,rfl,rfl⟩,λb d=>?_,q⟩;have e:b=a.heap.objs.size:=by simpa using d
   subst e;exact c.fpOk (aL _)$ c.hok.fresh$ aL _
 . refine wpAny_pyIter_ascii J ⟨a.heap.objs.size,[a.heap.objs.size],_,_,g,rfl,c.kept λb o e=>aD _ e,LK z t _ "str_ascii_iterator" (by decide) (λA f=>Walks.strAscii f _ z t) (λ_ _ _ _ _ st h=>wpAny_pyIter_striter_ascii st h),⟨_,aN _ rfl,rfl,rfl⟩,λb d=>?_,q⟩;have e:b=a.heap.objs.size:=by simpa using d
   subst e;exact c.fpOk (aL _)$ c.hok.fresh$ aL _
end L2
namespace FL
def Wlk(K:Frag)(J:It)(p:V×D)(items:List D):Prop:=∀H O,(∀a,O a->∃u:MutHO,H a=aa u.1)->Rep K H O p.1 p.2 →
 (∀i d,items[i]?=aa d->J.go i H/\∀x b,J.yld i H x b->Same H b/\Rep K b O x d)/\J.stop items.length H
variable(X) in
def PIv(tg iter:Expr)(fi:FA):Prop:=∃d,PI X tg iter d/\∀H₀ H O c e hd a R,Ok X.K H₀ H O c e hd->fi e=aa a →
 (∀J p b,Same H b->Rep X.K b O p.1 p.2->Wlk X.K J p a->R J b)->d c H R
def aCk{K:Frag}: Wlk K (Itl K a) (.ref a,.lst l) l:=by intro H O _ r;obtain⟨b,xs,e,c,f⟩:=WRep.seqL$ .inl r;cases e;refine⟨λi d hd=>?_,⟨xs,c,by rw[f.length];exact aL _⟩⟩;obtain⟨v,g,h⟩:=f.get hd;refine⟨⟨xs,v,c,g⟩,λx j y=>?_⟩;obtain⟨rfl,y⟩:=y;have:=y xs c;rw[g]at this;cases this;exact⟨Same.refl _,h⟩
def wlk_tup{K:Frag}: Wlk K (Itt K a) (.ref a,.tup l) l:=by intro H O _ r;obtain⟨b,xs,e,c,f⟩:=WRep.seqT$ .inl r;cases e;refine⟨λi d hd=>?_,⟨xs,c,by rw[f.length];exact aL _⟩⟩;obtain⟨v,g,h⟩:=f.get hd;refine⟨⟨xs,v,c,g⟩,λx j y=>?_⟩;obtain⟨rfl,y⟩:=y;have:=y xs c;rw[g]at this;cases this;exact⟨Same.refl _,h⟩
def XD{K:Frag}{lo:Int}: Wlk K (Itr lo n) (.non,.non) (lG lo n):=by
 intro H O _ r;have a:(lG lo n).length=n:=by simp[lG]
 refine⟨λi d hd=>?_,show n<=_ by rw[a];exact aL _⟩;have hi:i<n:=by have:=(bC.mp hd).1;rwa [a]at this
 refine⟨hi,λx b y=>?_⟩;obtain⟨rfl,rfl⟩:=y;have:d=D.int (lo+(i:Int)):=by simp only[lG,bB,nJ hi,cW]at hd;exact(Option.some.inj hd).symm
 subst this;exact⟨Same.refl _,.int _⟩
def wlk_str{K:Frag}: Wlk K (Its x) (.non,.non) (sgns x):=by
 intro H O _ r;have a:(sgns x).length=x.cps.size:=by simp[sgns]
 refine⟨λi d hd=>?_,show _=x.cps.size from a⟩;have hi:i<x.cps.size:=by have:=(bC.mp hd).1;rwa [a]at this
 refine⟨hi,λv e y=>?_⟩;obtain⟨rfl,c,b,rfl⟩:=y;have:d=D.str ⟨#[c]⟩:=by simp only[sgns,bB,cL,b,cW]at hd;exact(Option.some.inj hd).symm
 subst this;exact⟨Same.refl _,.str _⟩
def piv_str(h:PV X e f):PIv X tg e (viaA f asS):=by
 obtain⟨t,c,g⟩:=h;refine⟨_,pi_str c,λH₀ H O b j hd a R o e q=>?_⟩;obtain⟨d,i,e⟩:=bnd e;cases d with
 |str x=>cases e;refine g H₀ H O b j hd _ _ o i λv k s r=>?_;cases r;exact⟨x,rfl,q _ (.non,.non) k s .non wlk_str⟩
 |_=>cases e
def wO(hm:X.mg "range"=ac)(h:PV X e f)(J:Gl X "range":=by rfl)(z:aG [e] X.env=[(ag,cA e X.env)]:=by rfl):PIv X tg (.Call (.Name "range" p) [e] [] pos) (rng1 f):=by
 obtain⟨t,g,i⟩:=h;refine⟨_,YM J hm (qL g jV z) z,λH₀ H O c l hd a R o e q=>?_⟩;obtain⟨d,k,e⟩:=bnd e;cases d with
 |int j=>
   simp only at e;split at e
   . rename_i b;cases e;refine i H₀ H O c l hd _ _ o k λv m s r=>?_;cases r;exact⟨j,rfl,b.1,b.2,q _ (.non,.non) m s .non XD⟩
   . cases e
 |_=>cases e
variable(X) in
def PGv(tg:Expr)(ga:D->List Sl->Option (List Sl)):Prop:=∃g,PG X tg g/\∀H₀ H O c e hd v d b Q,Ok X.K H₀ H O c e hd->Rep X.K H O v d->ga d e=aa b->(∀a,Ok X.K H₀ H O a b hd->Q a H)->g v c H Q
variable(X) in
def PGsv(z:List Expr)(ga:List D->List Sl->Option (List Sl)):Prop:=∃g,PGs X z g/\∀H₀ H O c e hd d l b Q,Ok X.K H₀ H O c e hd->Reps X.K H O d l->ga l e=aa b->(∀a,Ok X.K H₀ H O a b hd->Q a H)->g d c H Q
def zO(U:X.N.Nodup)(hi:X.N[i]?=aa x:=by rfl)(z:Loc X.env.scope x:=by first|exact Or.inl rfl|exact Or.inr rfl)(J:X.fn x=ae\/X.env.scope.names.lookup x=aa .local:=by first|exact .inl rfl|exact .inr rfl):PGv X (.Name x pos) (zM i):=
 ⟨_,pg_name U hi z J,λH₀ H O b c hd v d a Q o r e q=>by cases e;exact q _$ o.set r⟩
def yX:PGsv X [] tgNil:=⟨_,pgs_nil,λH₀ H O b d hd c l a Q o r e q=>by
 cases r with
 |nil=>cases e;exact⟨rfl,q _ o⟩
 |cons _ _=>cases e⟩
def qA(h1:PGv X e g)(h2:PGsv X es h)(z:(gM (e::es) X.env).map (·.2)=BD e X.env::(gM es X.env).map (·.2):=by rfl):PGsv X (e::es) (zR g h):=by
 obtain⟨t,p,w⟩:=h1;obtain⟨u,n,s⟩:=h2;refine⟨_,aEf p n z,λH₀ H O i x hd A l c Q o r e q=>?_⟩;cases r with
 |nil=>cases e
 |cons k j=>rename_i v d f y;obtain⟨a,h1,e⟩:=bnd e;exact⟨v,f,rfl,w H₀ H O i x hd v d a _ o k h1 λb m=>s H₀ H O b a hd f y c Q m j e q⟩
def xP(Y:X.calm=ae)(U:PGsv X es h)(J:(gM es X.env).length=n:=by rfl)(z:(gM es X.env).findIdx? (·.1)=ac:=by rfl):PGv X (.Tuple es k pos) (tupG n h):=by
 obtain⟨t,g,m⟩:=U;refine⟨_,pg_tup Y g J z,λH₀ H O f p hd v d b Q o r e q=>?_⟩;cases d with
 |tup l=>
   simp only[tupG]at e;split at e
   . rename_i j;obtain⟨a,xs,rfl,i,c⟩:=WRep.seqT$ .inl r;exact⟨a,xs,rfl,i,by rw[c.length];exact j,m H₀ H O f p hd xs l b Q o c e q⟩
   . cases e
 |_=>cases e
def XY{K:Frag}(h:RetB K H (q::hd) v r):RetB K H hd v r:=by
 cases r with
 |any d=>exact λB a=>h B$ aJ _ a
 |_=>exact True.intro
def yL{iter:Expr}(hp:WX (1:) X.A X.env X.xe)(hc:X.calm=ae)(hi:PIv X tg iter fi)(z:PGv X tg ga)(U:PSsv X body g)(hs:∀x,fM iter X.env x=pure x:=by intro _;rfl):PSv X (.For tg iter body [] pos) (forG fi ga g):=by
 obtain⟨wi,W,hi⟩:=hi;obtain⟨R,pg,z⟩:=z;obtain⟨tb,Z,U⟩:=U;refine⟨_,ps_for hp hc W pg Z hs,λH₀ H O P M hd q E o e h=>?_⟩;obtain⟨a,h1,e⟩:=bnd e;refine hi H₀ H O P M hd a _ o h1 λJ p w s r Q=>?_;refine⟨λi m c w=>i<=a.length/\m=a.length-i/\∃G f,Ok X.K H₀ w G c f (HI.rep p.1 p.2::hd)/\jM ga g (a.drop i) f=aa q,⟨a.length,cI _,rfl,O,M,(o.mono s).holdMore r,by simpa using e⟩,?_⟩;rintro i m n N ⟨hi1,rfl,B,F,A,d⟩;obtain⟨go,stop⟩:=Q N B A.dom$ A.hold (HI.rep p.1 p.2) aP;by_cases j:i<a.length
 . right;have D:=aR j;obtain ⟨C,hy⟩:=go i _ D;rw [dR j,jM]at d;refine ⟨C,λc w=>i+1<=a.length/\∃ G f,Ok X.K H₀ w G c f (HI.rep p.1 p.2::hd)/\jM ga g (a.drop (i+1)) f=aa q,λc w ⟨V,Y⟩=>⟨a.length - (i+1),by lia,V,rfl,Y⟩,λx K y=>?_⟩;obtain ⟨S,T⟩:=hy x K y;obtain ⟨t,h2,d⟩:=bnd d;obtain ⟨L,h3,d⟩:=bnd d;refine z H₀ K B n F (HI.rep p.1 p.2::hd) x _ t _ (A.mono S) T h2 λc o'=>?_;refine U H₀ K B c t (HI.rep p.1 p.2::hd) L _ o' h3 ?_;cases L with
   |nx k=>exact λl I u ok3=>⟨j,u,k,ok3,d⟩
   |ct k=>exact λl I u ok3=>⟨j,u,k,ok3,d⟩
   |bk k=>cases d;exact λl I u ok3=>h l I u ok3.holdLess
   |rt rr=>cases d;exact λv H s r b=>h v H s r$ XY b
 . left;have ei:i=a.length:=by lia
   subst ei;rw[mJ,jM]at d;cases d;exact⟨stop,h n N B A.holdLess⟩
variable(X) in
def PFv(ifs:List Expr)(c:FT):Prop:=∃t,PF X ifs t/\∀H₀ H O a d hd b Q,Ok X.K H₀ H O a d hd->c d=aa b->(∀e,Same H e->Q b e)->t a H Q
def yZ:PFv X [] (λ_=>aa ae):=⟨_,pf_nil,λ_ H _ _ _ _ _ _ _ e q=>by cases e;exact q H$ Same.refl _⟩
def pfv_one(h:PTv X c fc):PFv X [c] fc:=by obtain⟨t,a,b⟩:=h;exact⟨_,pf_one a,b⟩
def Ok.inner{K:Frag}(o:Ok K H₀ H O σ ds hd) mp:Ok K H₀ H O (mC mp σ) (jN mp ds) hd:=by
 have no:∀{i:Nat}{l:List D},(jN mp ds)[i]?=aa (.own l)->False:=λ{i l} e=>by
  unfold jN at e;rw[bB]at e;cases hm:mp[i]? with
  |none=>rw[hm]at e;cases e
  |some m=>
    rw[hm]at e;simp only[cW,Option.some.injEq]at e;cases m with
    |none=>cases e
    |some j=>simp only at e;split at e<;>cases e
 refine⟨o.same,λi l a e _=>(no e).elim,o.dom,by simp[mC,jN],λi s e=>?_,λi j a f hi b n k=>?_,o.hold,.no λi r t e=>by
  unfold jN at e;rw[bB]at e;cases hm:mp[i]? with
  |none=>rw[hm]at e;cases e
  |some m=>
    rw[hm]at e;simp only[cW,Option.some.injEq]at e;cases m with
    |none=>cases e
    |some j=>
      simp only at e
      split at e<;>cases e⟩
 . unfold jN at e;unfold mC;rw [bB]at e ⊢;cases hm:mp[i]? with
   |none=>rw[hm]at e;cases e
   |some m=>
     rw[hm]at e;simp only[cW,Option.some.injEq]at e;cases m with
     |none=>simp only at e;subst e;exact jC
     |some j=>
       simp only at e;cases b:ds[j]? with
       |none=>rw[b]at e;subst e;exact jC
       |some c=>
         rw[b]at e;cases c with
         |no=>subst e;exact jC
         |exc _=>subst e;exact jC
         |exf _ _=>subst e;exact jC
         |fr _=>subst e;exact jC
         |ob _ _=>subst e;exact jC
         |own l=>subst e;exact jC
         |v d=>simp only at e;subst e;obtain⟨v,h,g⟩:=o.read b;simp only[cW,aZ,h,Option.join_some];exact yN g
 . obtain ⟨l,e⟩:=hi;unfold jN at e;rw [bB]at e;cases hm:mp[i]? with
   |none=>rw[hm]at e;cases e
   |some m=>
     rw[hm]at e;simp only[cW,Option.some.injEq]at e;cases m with
     |none=>cases e
     |some j=>
       simp only at e;cases b:ds[j]? with
       |none=>rw[b]at e;cases e
       |some c=>rw[b]at e;cases c<;>cases e
def OD(hi:∀H₀ H O σ ds hd items R,Ok X.K H₀ H O σ ds hd->fi ds=aa items->(∀J p H',Same H H'->Rep X.K H' O p.1 p.2->Wlk X.K J p items->R J H')->Y σ H R)(hg:∀c H₀ H O σ ds hd v d ds' Q,Ok X.K H₀ H O σ ds hd->Rep X.K H O v d->ga d ds=aa ds'->(∀z,Ok X.K H₀ H O z ds' hd->Q z H)->g c v σ H Q)(ht:∀c H₀ H O σ ds hd b Q,Ok X.K H₀ H O σ ds hd->tt ds=aa b->(∀H',Same H H'->Q b H')->t1 c σ H Q)(he:∀c H₀ H O σ ds hd d Q,Ok X.K H₀ H O σ ds hd->fe ds=aa d->(∀v H',Same H H'->Rep X.K H' O v d->Q v H')->t2 c σ H Q):∀H₀ H O σ ds hd l Q,Ok X.K H₀ H O σ ds hd->compG fi mp ga tt fe ds=aa l →
   (∀a xs H',Same H H'->H a=ac->H' a=aa (.lst xs)->Reps X.K H' (ins1 a O) xs l->Q (.ref a) H')->tComp Y mp g t1 t2 σ H Q:=by
 intro H₀ H O σ ds hd l Q o e q;obtain⟨items,h1,e⟩:=bnd e;split at e
 . rename_i Z;refine hi H₀ H O σ ds hd items _ o h1 λJ p H1 B T N=>λc=>?_;have V:=((o.mono B).holdMore (p:=HI.rep p.1 p.2) T).inner mp
   refine⟨λi m ys A=>i<=items.length/\m=items.length-i/\Same H1 A/\ys.length<=i/\∃t rest,Reps X.K A O ys t/\compL ga tt fe (jN mp ds) (items.drop i)=aa rest/\l=t++rest,
    ⟨items.length,cI _,rfl,Same.refl _,aL _,[],l,.nil,by simpa using e,rfl⟩,?_⟩
   rintro i m ys A ⟨hi1,rfl,s,W,t,rest,C,f,w⟩;have D:=V.mono s;obtain⟨go,stop⟩:=N A O D.dom$ D.hold (HI.rep p.1 p.2) aP;by_cases h:i<items.length
   . right;have G:=aR h;obtain ⟨F,E⟩:=go i _ G;refine ⟨F,by lia,λx I y=>?_⟩;obtain ⟨r,S⟩:=E x I y;rw [dR h,compL]at f;obtain ⟨k,h2,f⟩:=bnd f;refine hg c H₀ I O _ _ (HI.rep p.1 p.2::hd) x _ k _ (D.mono r) S h2 λz M=>?_;obtain ⟨b,h3,f⟩:=bnd f;refine ht c H₀ I O z k (HI.rep p.1 p.2::hd) b _ M h3 λH4 n=>?_;cases b with
     |false=>refine iteF ⟨items.length-(i+1),by lia,h,rfl,(s.trans r).trans n,aBz W,t,rest,(C.mono r).mono n,by simpa using f,w⟩
     |true=>
       obtain⟨K,h4,f⟩:=bnd f;cases U:compL ga tt fe (jN mp ds) (items.drop$ i+1)with
       |none=>rw[U]at f;cases f
       |some j=>rw[U]at f;cases f;refine he c H₀ H4 O z k (HI.rep p.1 p.2::hd) K _ (M.mono n) h4 λv H5 L P=>?_;refine⟨items.length-(i+1),by lia,h,rfl,((s.trans r).trans n).trans L,by simp;lia,t++[K],j,(((C.mono r).mono n).mono L).append$ .cons P .nil,U,?_⟩;rw[w];simp
   . left;have ei:i=items.length:=by lia
     subst ei;rw[mJ,compL]at f;cases f;rw[cZ]at w;subst w;refine⟨stop,by lia,λa u=>?_⟩;refine q a ys _ ((B.trans s).trans$ qF u _) ((B.trans s).free u) bP ?_;exact(C.more u).mono (qF u _)
 . cases e
def yO{iter:Expr}(S:CompScope X scope NY mp)(hc:X.calm=ae)(hi:PIv X tg iter fi)(J:∀c,PGv (qZ X scope NY c) tg ga)(z:∀c,PFv (qZ X scope NY c) ifs tt)(U:∀c,PV (qZ X scope NY c) elt fe)(Y:∀x,fM iter X.env x=pure x:=by intro _;rfl):PVf X (.ListComp elt [⟨tg,iter,ifs,0⟩] scope pos) (compG fi mp ga tt fe):=by obtain⟨b,a,hi⟩:=hi;refine⟨_,UU S hc a (λc=>(Classical.choose_spec$ J c).1) (λc=>(Classical.choose_spec$ z c).1) (λc=>(Classical.choose_spec$ U c).1) Y,?_⟩;exact OD hi (λc=>(Classical.choose_spec$ J c).2) (λc=>(Classical.choose_spec$ z c).2) λc=>(Classical.choose_spec$ U c).2
end FL
namespace L2
inductive TyV(K:aM)(H:Hp):V->Value->Prop where
 |of {x:V}{t:Value} (h:TyOf K H x t):TyV K H x t
 |lstK {a:aF}{o:Obj} (h:K.lookup a=some o) (c:o.cls=.type "list"):TyV K H (.ref a) (.type "list")
 |tupK {a:aF}{o:Obj} (h:K.lookup a=some o) (c:o.cls=.type "tuple"):TyV K H (.ref a) (.type "tuple")
 |tupF {a:aF}{o:Obj}{xs:List V} (h:H a=some (.frz o (.tup xs))):TyV K H (.ref a) (.type "tuple")
noncomputable def clsV:V->Value->Prop
 |.ty n,u=>u=.type n
 |.ref a,u=>u=.ref a
 |_,_=>False
def aHr:CallR X (.builtin "isinstance") (λxs H Q=>∃x c cv t b,xs=[x,c]/\clsV c cv/\TyV X.K H x t/\cV X.K t cv=aa b/\Q (.bl b) H):=by
 intro A s j H xs B Q I r h;obtain⟨x,c,cv,t,b,rfl,i,ty,e,q⟩:=h;obtain⟨u,k,rfl,f,d⟩:=vals2 r;have y:k=cv:=by
  cases c with
  |ty n=>cases(i);cases(d);rfl
  |ref a=>cases(i);cases(d);rfl
  |_=>exact(i).elim
 subst y;have fin:∀g,EP X A j Q (.bool b) {s with toks:=g}:=λg=>⟨.bl b,H,I.tok g,rfl,q⟩
 cases ty with
 |of h=>exact ZQ I f h e fin
 |@lstK a o h c=>cases(f);exact cN tG I.kIn ⟨o,I.kIn _ _ h,c⟩ e (λz=>nomatch z) fin
 |@tupK a o h c=>cases(f);exact cN sJ I.kIn ⟨o,I.kIn _ _ h,c⟩ e (λz=>nomatch z) fin
 |@tupF a o xs w=>
   cases(f);obtain⟨C,_,_,_,p⟩:=(I.hok a _ w)
   obtain⟨l,v,m,_⟩:=p;exact cN sJ I.kIn ⟨l,v,m⟩ e (λz=>nomatch z) fin
theorem EM:∀{bs:List Bool}{z:List Value},Vals (bs.map V.bl) z->LSm.BoolsAre z bs
 |[],_,.nil=>.nil
 |b::r,_,.cons h t=>by cases(show _=Value.bool b from h);exact .cons b$ EM t
def aAx(z:X.calm=ae):CallR X (.builtin "all") (λxs H Q=>∃(p:aF) (bs:List Bool),xs=[.ref p]/\SqL X.K H p (bs.map V.bl)/\Q (.bl$ bs.all id) H):=by
 intro C s o H xs t Q I r h;obtain⟨p,bs,rfl,l,q⟩:=h;obtain⟨u,rfl,k⟩:=vals1 r;cases k;obtain⟨a,j,c,y⟩:=I.list l;have d:p<s.heap.objs.size:=by obtain⟨_,e,_⟩:=c.isList;exact bA e
 have f:=EM j;refine call_all_walk$ mK c.isList ?_
 refine⟨s.heap.objs.size,[s.heap.objs.size,p],[s.heap.objs.size],a.toArray.size,_,_,λi=>(bs[i]?).getD ae,rfl,Walks.list (A:=X.A.in1) (I.ok.hd z) _ p (bJ d) a.toArray,
  ⟨⟨_,aN _ rfl,rfl,rfl⟩,c.isList.push _⟩,λi v x D E n g=>?_,λB w m=>?_⟩
 . obtain⟨b,e,rfl⟩:=f.get i v (by simpa using n);simp[e,iL]at g;exact eN g
 . have e:((List.range a.toArray.size).all λi=>(bs[i]?).getD ae)=bs.all id:=by
    rw[bF,f.length];exact LSm.range_all bs
   rw[e];exact⟨.bl _,H,I.kept$ LSm.kept_iter m,rfl,q⟩
theorem BH:∀{ts:List Str}{z:List Value},Vals (ts.map V.str) z->EW z ts
 |[],_,.nil=>.nil
 |b::r,_,.cons h t=>by
   obtain⟨a,rfl⟩:=(show ∃a,_=Value.str b a from h)
   exact .cons b a$ BH t
def rJoin(K:aM):V->List V->Hp->VK->Prop:=λx a H Q=>∃(z:Str) (p:aF) (ts:List Str),x=.str z/\a=[.ref p]/\SqL K H p (ts.map V.str)/\z.length<=16/\(ts.map (·.length)).sum+ts.length<=1048576/\Q (.str$ Txt.join z ts) H
def mt_join:MtR X "str.join" (rJoin X.K):=by
 intro w s l H x m v n Q I c a h;obtain⟨z,p,o,rfl,rfl,j,g,i,q⟩:=h;obtain⟨r,rfl⟩:=(c)
 obtain⟨u,rfl,d⟩:=a.one;cases d;obtain⟨f,a,e,t⟩:=I.list j;exact join_listW e.isList (by simpa using BH a) g i λb k=>⟨.str _,H,I.tok k,⟨b,rfl⟩,q⟩
end L2
namespace FL
noncomputable def kitO(t T:String):Option Bool:=if ((Value.type t)==(Value.type T))=ae then aa ae else if WU T=ae then (fastBuiltinMro t).map (·.contains (.type T))else ac
def kit_all:∀t∈kitN,∀T∈kitT,kitO t T=aa (t==T||(t=="bool"&&T=="int")):=by decide +kernel
def kit_of{K:Frag}(h:kitF t T=aa b):cV K (.type t) (.type T)=aa b:=by
 unfold kitF at h;split at h
 . rename_i a;cases h;exact kit_all t a.1 T a.2
 . cases h
def ty_of{K:Frag}(r:WRep K H O v d)(e:tyD d=aa t):TyV K H v (.type t):=by
 rcases r with r|⟨a,xs,l,rfl,rfl,q,h,p⟩
 . cases r with
   |non=>cases e;exact .of .non
   |bl b=>cases e;exact .of$ .bl b
   |int i=>cases e;exact .of$ .int i
   |str x=>cases e;exact .of$ .str x
   |tup n h r=>
     cases e;rcases h with h|⟨o,h⟩
     . exact .of$ .tup h
     . exact .tupF h
   |tupK h r=>cases e;obtain⟨o,f,m,g,j,_⟩:=h;exact .tupK g j
   |lst n h r=>
     cases e;rcases h with h|⟨o,h⟩
     . exact .of$ .lst h
     . exact .of$ .frz h
   |lstK h r=>cases e;obtain⟨o,f,m,g,j,_⟩:=h;exact .lstK g j
   |dct n h k r=>cases e;exact .of$ .dK h
   |dcf n h k r=>cases e
   |ins c n h k r=>cases e
   |clo tx h k nd c r=>cases e
   |fnK h=>cases e
 . cases e;exact .of$ .lst h
def CL(hm:X.mg "isinstance"=ac)(hT:X.mg x=ac)(J:fA x=aa (.type T))(he:PVw X e f)(Y:Gl X "isinstance":=by rfl)(z:Gl X x:=by rfl)(h1:aG [e,.Name x pT] X.env=(ag,cA e X.env)::aG [.Name x pT] X.env:=by rfl)(h2:aG [.Name x pT] X.env=(ag,cA (.Name x pT) X.env)::aG [] X.env:=by rfl)(h3:(dJ pos$ aG [.Name x pT] X.env).any (·.1)=ag:=by rfl)(U:x≠"__name__":=by decide)(hd:(2:)=ag:=by decide):PV X (.Call (.Name "isinstance" p) [e,.Name x pT] [] pos) (isiG T f):=by obtain⟨t,a,i⟩:=he;refine⟨_,xK aHr Y hm (3:) (qL a (qL (UX (v:=.ty T) z hT J rfl U hd) jV h2) h1) (by decide) (by decide) h1 h3,λH₀ H O c k hd d Q o e q=>?_⟩;obtain⟨j,h,e⟩:=bnd e;obtain⟨t,a,e⟩:=bnd e;obtain⟨b,g,rfl⟩:=mpd e;refine i H₀ H O c k hd j _ o h λv l s r=>?_;exact⟨v,.ty T,.type T,.type t,b,rfl,rfl,ty_of r a,kit_of g,q _ l s$ .bl b⟩
def WH{K:Frag}{xs:List V}{l:List D}{bs:List Bool}(h:Reps K H O xs l):blsD l=aa bs->xs=bs.map V.bl:=
 h.ind (m:=λxs l=>∀{bs},blsD l=aa bs->xs=bs.map V.bl) (λe=>by cases e;rfl) λ{_ d _ _} h i _ e=>by
  cases d with
  |bl b=>simp only[blsD]at e;obtain⟨r,a,rfl⟩:=mpd e;cases h;rw[i a];rfl
  |_=>cases e
def cs_all:CallS X (λxs H Q=>∃(p:aF) (bs:List Bool),xs=[.ref p]/\SqL X.K H p (bs.map V.bl)/\Q (.bl$ bs.all id) H) allD:=by
 intro H O g l d Q h r e q;unfold allD at e;split at e
 . obtain ⟨bs,f,rfl⟩:=mpd e;cases r with
   |cons r rn=>cases rn;obtain⟨a,xs,rfl,c,b⟩:=r.seqL;refine⟨a,bs,rfl,?_,q _ H (Same.refl _)$ .bl _⟩;rw[<-WH b f];exact c
 . cases e
def aDn(U:X.calm=ae)(hm:X.mg "all"=ac)(Y:PAv X [e] g)(z:Gl X "all":=by rfl)(J:aG [e] X.env=[(ag,cA e X.env)]:=by rfl):PV X (.Call (.Name "all" p) [e] [] pos) (callB allD g):=xW (aAx U) cs_all hm (3:) Y z (by decide) (by decide) J rfl
def CB{K:Frag}{xs:List V}{l:List D}{bs:List Str}(h:Reps K H O xs l):strsD l=aa bs->xs=bs.map V.str:=
 h.ind (m:=λxs l=>∀{bs},strsD l=aa bs->xs=bs.map V.str) (λe=>by cases e;rfl) λ{_ d _ _} h i _ e=>by
  cases d with
  |str b=>simp only[strsD]at e;obtain⟨r,a,rfl⟩:=mpd e;cases h;rw[i a];rfl
  |_=>cases e
def pv_join(ho:PVw X o f)(he:PVw X e g)(Y:fB o "join" X.env (cA o X.env)=cA o X.env:=by rfl)(hfew:((dJ J$ aG [e] X.env).all (λx=>!x.1)&&(nV J$ hJ [] X.env).all (λx=>x.1.isSome)
    && decide ([e].length+([]:List pR).length+(if ([]:List pR).isEmpty then 0 else 1)<30))=ae:=by rfl)(U:(apos.endLine==J.line)=ae:=by rfl)(hs:aG [e] X.env=(ag,cA e X.env)::aG [] X.env:=by rfl):PV X (.Call (.Attribute o "join" apos) [e] [] J) (zH joinD f g):=by
 obtain⟨C,po,ho⟩:=ho;obtain⟨D,r,he⟩:=he;refine⟨_,UW PySem.F.plainAttrs_str PySem.F.slot_str_join PySem.F.type_str_join mt_join po (qL r jV hs) Y hfew U hs rfl,λH₀ H O b i hd d Q o e q=>?_⟩;obtain⟨w,u,e⟩:=bnd e;obtain⟨v,t,e⟩:=bnd e;cases w with
 |str z=>
   cases v with
   |lst l=>
     obtain⟨j,s,e⟩:=bnd e;split at e
     . rename_i h;cases e;refine ho H₀ H O b i hd _ _ o u λx B c p=>?_;rw[p.str'];refine⟨rfl,?_⟩;refine he H₀ B O b i hd _ _ (o.mono c) t λy A k n=>?_;obtain⟨a,xs,rfl,hs,m⟩:=n.seqL;refine⟨z,a,j,rfl,rfl,?_,h.1,h.2,q _ A (c.trans k)$ .str _⟩;rw[<-CB m s];exact hs
     . cases e
   |_=>simp[joinD]at e
 |_=>simp[joinD]at e
def vU(z:PV X a f):PV X (.UnaryOp .USub a pos) (un1 negD f):=by
 obtain⟨n,h,z⟩:=z;refine⟨_,pe_un un_neg h,λH₀ H O b l hd d Q o e q=>?_⟩;obtain⟨k,j,e⟩:=bnd e;cases k with
 |int i=>cases e;refine z H₀ H O b l hd _ _ o j λx m c g=>?_;cases g;exact⟨i,rfl,q _ m c$ .int _⟩
 |_=>cases e
def os_inS:OpS X (λx y H Q=>∃i j,x=.str i/\y=.str j/\Q (.bl$ !(Builtin.Str.occurrences j i 0 j.length 1).isEmpty) H) inS:=by
 intro H O x y f c d Q g b a e q;cases f<;>cases c<;>first|(simp[inS]at e;done)|skip
 cases e;rw[b.str',a.str'];exact⟨_,_,rfl,rfl,q _ H (Same.refl _)$ .bl _⟩
variable(X) in
def PVd(e:Expr)(f:FE):Prop:=∃t,PE X e t/\∀H₀ H O b c hd d Q,Ok X.K H₀ H O b c hd->f c=aa d->(∀v a,Same H a->Rep X.K a (Old H) v d->Q v a)->t b H Q
noncomputable def aHm(sc scope:Scope)(N NY:List Str)(mp:List (Option Nat)):Bool:=
 scope.kind==.function&&scope.names.all (λy=>y.2 != .cell)&&scope.names.all (λy=>y.2 != .local||scope.names.lookup y.1==aa .local)
 && scope.names.all (λy=>y.2 != .free||(sc.names.lookup y.1==aa .cell||sc.names.lookup y.1==aa .free))&&mp.length==NY.length
 && (List.range NY.length).all (λi=>match NY[i]?,mp[i]? with|some x,aa (aa j)=>N[j]?==aa x&&scope.names.lookup x==aa .free|_,_=>ae)
def qY(h:aHm X.env.scope scope X.N NY mp=ae):CompScope X scope NY mp:=by
 unfold aHm at h;simp only[bY,iR,beq_iff_eq]at h;obtain⟨⟨⟨⟨⟨l,k⟩,g⟩,f⟩,e⟩,d⟩:=h;refine⟨l,λy a=>by simpa using k y a,λy a b=>?_,λy a b=>?_,e,λi x j c m=>?_⟩
 . have:=g y a;simpa[b]using this
 . have:=f y a;simp[b,bne_self_eq_false,tJ,Bool.or_eq_true,beq_iff_eq]at this;exact this
 . have hi:i∈List.range NY.length:=nZ.mpr (bC.mp c).1;have:=d i hi;rw[c,m]at this;simpa using this
def zZ(e:runG g n ds=aa r):Does g n ds r:=by
 unfold runG at e;cases h:g (args n ds)with
 |none=>rw[h]at e;cases e
 |some o=>
   rw[h]at e;cases o with
   |rt b=>cases e;exact .inl h
   |nx a=>cases e;exact .inr ⟨rfl,a,h⟩
   |bk a=>cases e
   |ct a=>cases e
end FL
namespace L2
def op_mulB:OpR X (mL .Mult) (rI fE λi j=>.int$ i*j):=opI λ_ _ _ _ _ _ _ a q=>mul_int q a
def op_powB:OpR X (mL .Pow) (rI FL.CPowB λi j=>.int$ i^j.toNat):=opI λ_ _ _ _ _ _ _ a q=>pow_int a.1 a.2 q
noncomputable def rCatS(K:aM):R2:=λx y H Q=>∃l b xs zs,x=.ref l/\y=.ref b/\SqL K H l xs/\SqL K H b zs/\xs.length+zs.length<=sizeLine/\∀p,H p=ac->Q (.ref p) (upd H p$ .lst$ xs++zs)
def op_catS:OpR X (mL .Add) (rCatS X.K):=by
 intro P s K H x y v u Q I t p h;obtain⟨l,b,xs,L,rfl,rfl,D,E,N,q⟩:=h;cases t;cases p;obtain⟨c,r,w,z⟩:=I.list D;obtain⟨a,k,f,M⟩:=I.list E;obtain⟨⟨cls,G,data,sl⟩,m,C,n,hd⟩:=w.isList;obtain⟨⟨o,j,data2,e⟩,d,i,A,g⟩:=f.isList;subst C hd i g;have O:=r.length;have B:=k.length;refine concat_meets ⟨_,m,rfl⟩ ⟨_,d,rfl⟩ noFill_list_add seq_list_add PySem.F.slot_list_add PySem.F.entry_list_add (PySem.F.args_list_add_2 _ _) (list_addW l b c.toArray a.toArray n A G j sl e$ by simp[bF];lia) ⟨m,d,?_⟩;have F:c.toArray++a.toArray=(c++a).toArray:=by simp
 rw[F];exact⟨.ref _,_,I.lnew (r.append k)$ by rw[cD];lia,rfl,q _ I.fresh⟩
end L2
namespace FL
variable(X) in
def PVn(e:Expr)(f:FE):Prop:=∃t,PE X e t/\∀H₀ H O b c hd d Q,Ok X.K H₀ H O b c hd->f c=aa d->(∀v a,Same H a->Rep X.K a qS v d->Q v a)->t b H Q
variable(X) in
def PAn(es:List Expr)(f:FA):Prop:=∃t,PA X es t/\∀H₀ H O b d hd l Q,Ok X.K H₀ H O b d hd->f d=aa l->(∀c a,Same H a->Reps X.K a qS c l->Q c a)->t b H Q
def PVw.n(h:PVw X e f):PVn X e f:=by obtain⟨t,b,c⟩:=h;exact⟨t,b,λH₀ H O a g hd d Q o e q=>c H₀ H O a g hd d Q o e λv i s r=>q v i s r.any⟩
theorem PV.n(h:PV X e f):PVn X e f:=h.w.n
def zS:PAn X [] zT:=⟨_,jV,λ_ H _ _ _ _ _ _ _ e q=>by cases e;exact q _ H (Same.refl _) .nil⟩
def zF(U:PVn X e f)(J:PAn X es g)(z:aG (e::es) X.env=(ag,cA e X.env)::aG es X.env:=by rfl):PAn X (e::es) (zB f g):=by obtain⟨t,m,p⟩:=U;obtain⟨u,k,n⟩:=J;refine⟨_,qL m k z,λH₀ H O a d hd l Q o e q=>?_⟩;obtain⟨x,h,e⟩:=bnd e;obtain⟨r,s,rfl⟩:=mpd e;refine p H₀ H O a d hd x _ o h λv y c j=>?_;refine n H₀ y O a d hd r _ (o.mono c) s λA w b i=>?_;exact q _ w (c.trans b)$ .cons (j.mono b) i
def aDl(Fn:FnOk X.prog X.w X.K X.mg X.base CX0 k f fd ps (spF X.K n F))(Y:Room k X.A)(hm:X.mg x=aa (.ref f))(hk:cC X.K (.ref f)=ae)(hb:Binds X.K fd ps [])(U:PAn X (e::es) g)(hg:Gl X x:=by rfl)(J:(2:)=ag:=by decide)(he:aG (e::es) X.env=(ag,cA e X.env)::aG es X.env:=by rfl)(z:(dJ pos$ aG es X.env).any (·.1)=ag:=by rfl):PV X (.Call (.Name x p) (e::es) [] pos) (qT n F g):=by
 obtain⟨t,s,w⟩:=U;refine⟨_,JP Fn Y hg hm hk hb .nil pass0 s J he z,λH₀ H O i A hd d Q o e q=>?_⟩;obtain⟨l,h,e⟩:=bnd e;split at e
 . rename_i u;obtain⟨r,y,e⟩:=bnd e;refine w H₀ H O i A hd l _ o h λC E b c=>?_;have D:=c.length;refine⟨by simp[cZ];lia,l,r,by simpa using c,y,λv B j m=>q v B (b.trans j) ?_⟩;exact BJ m e λa U=>(o.mono b).old U
 . cases e
def YD(Fn:FnOk X.prog X.w X.K X.mg X.base CX0 k f fd ps (spF X.K n F))(Y:Room k X.A)(hm:X.mg x=aa (.ref f))(hk:cC X.K (.ref f)=ae)(hb:Binds X.K fd ps [])(U:PAn X (e::es) g)(hg:Gl X x:=by rfl)(J:(2:)=ag:=by decide)(he:aG (e::es) X.env=(ag,cA e X.env)::aG es X.env:=by rfl)(z:(dJ pos$ aG es X.env).any (·.1)=ag:=by rfl):PVf X (.Call (.Name x p) (e::es) [] pos) (wP n F g):=by
 obtain⟨t,s,w⟩:=U;refine⟨_,JP Fn Y hg hm hk hb .nil pass0 s J he z,λH₀ H O i D hd d Q o e q=>?_⟩;obtain⟨l,h,e⟩:=bnd e;split at e
 . rename_i u;obtain⟨r,C,e⟩:=bnd e;refine w H₀ H O i D hd l _ o h λG K b c=>?_;have I:=c.length;refine⟨by simp[cZ];lia,l,r,by simpa using c,C,λv E j m=>?_⟩;obtain⟨a,xs,rfl,B,A,y⟩:=retF_ok m e λa U=>(o.mono b).old U;exact q a xs E (b.trans j) (b.free B) A y
 . cases e
def OpN(X:Cx)(r:R2)(z:D->D->Option D):Prop:=∀H O x y c b d Q,Rep X.K H qS x c->Rep X.K H qS y b->z c b=aa d->(∀v a,Same H a->Rep X.K a O v d->Q v a)->r x y H Q
def UG(J:OpN X r z)(Y:∀H₀ H O σ ds hd d Q,Ok X.K H₀ H O σ ds hd->fa ds=aa d->(∀v H',Same H H'->Rep X.K H' qS v d->Q v H')->ta σ H Q)(U:∀H₀ H O σ ds hd d Q,Ok X.K H₀ H O σ ds hd->fb ds=aa d->(∀v H',Same H H'->Rep X.K H' qS v d->Q v H')->tb σ H Q):∀H₀ H O σ ds hd d Q,Ok X.K H₀ H O σ ds hd->zH z fa fb ds=aa d->(∀v H',Same H H'->Rep X.K H' O v d->Q v H')->tOp r ta tb σ H Q:=by
 intro H₀ H O σ ds hd d Q o e q;obtain⟨f,j,e⟩:=bnd e;obtain⟨c,i,e⟩:=bnd e;refine Y H₀ H O σ ds hd f _ o j λx l b h=>?_;refine U H₀ l O σ ds hd c _ (o.mono b) i λy k a g=>?_;exact J k O x y f c d Q (h.mono a) g e λv H' s r=>q v H' ((b.trans a).trans s) r
def UM(ho:OpR X (eP U) r)(Y:OpN X r opD)(J:PVn X a fa)(z:PVn X b fb)(hm:dZ U b=ag):PV X (.Compare a [U] [b] pos) (zH opD fa fb):=by obtain⟨e,d,J⟩:=J;obtain⟨tb,c,z⟩:=z;exact⟨_,UV ho d c hm,UG Y J z⟩
def kK(ho:OpR X (eP U) r)(Y:OpN X r opD)(J:PVn X a fa)(z:PVn X b fb)(hm:dZ U b=ag):PTv X (.Compare a [U] [b] pos) (zN$ zH opD fa fb):=by
 obtain⟨m,i,J⟩:=J;obtain⟨tb,g,z⟩:=z;refine⟨_,UO ho i g hm,λH₀ H O f j hd k Q o e q=>?_⟩;obtain⟨d,h,e⟩:=bnd e;refine UG Y J z H₀ H O f j hd d _ o h λv l s r=>?_;cases d with
 |bl c=>cases e;cases r;exact⟨_,rfl,q l s⟩
 |_=>cases e
def Rep.reads{aE:List (aF×Obj)}{σ:L2.St}{H:Hp}{s:aW}{O:aF->Prop}(I:Inv X aE σ H s){v:V}{d:D}(h:Rep X.K H O v d):∀{u:Value}{n:Nat},RelV v u->shal n d=ae->∃as,Reads s.heap u (toPy d) as/\(toPy d).canLay0=ae/\(toPy d).depth<=n+1:=
 h.rec (motive_1:=λv d _=>∀{u:Value}{n:Nat},RelV v u->shal n d=ae->∃as,Reads s.heap u (toPy d) as/\(toPy d).canLay0=ae/\(toPy d).depth<=n+1) (motive_2:=λB q _=>∀{w:List Value}{n:Nat},Vals B w->shals n q=ae->∃as,ReadsAll s.heap w (toPys q) as/\PyData.canLayAll0 (toPys q)=ae/\PyData.depthAll (toPys q)<=n) (λr _=>by cases r;exact⟨[],.none,rfl,cI _⟩) (λb _ _ r _=>by cases r;exact⟨[],.bool b,rfl,cI _⟩) (λb _ _ r _=>by obtain⟨t,rfl⟩:=r;exact⟨[],.int b t,rfl,cI _⟩)
  (λx _ _ r h=>by obtain ⟨t,rfl⟩:=r;exact ⟨[],.str x t,h,cI _⟩) (λ_ h _ i u n r a=>by
   cases r;obtain⟨l,g,⟨o,m,p,k,hd⟩,A⟩:=I.tuple$ .inl h;obtain⟨as,e,c,f⟩:=i g a
   exact⟨as,.tuple m p hd$ by simpa using e,c,pL f⟩) (λh _ i u n r a=>by
   cases r;obtain⟨l,g,⟨o,m,p,k,hd⟩,A⟩:=I.tuple$ .inr h;obtain⟨as,e,c,f⟩:=i g a
   exact⟨as,.tuple m p hd$ by simpa using e,c,pL f⟩) (λ_ h _ i u n r a=>by
   cases r;obtain⟨l,g,y,A⟩:=I.list$ .inl h;obtain⟨o,m,p,k,hd⟩:=y.isList;obtain⟨as,e,c,f⟩:=i g a
   exact⟨_,.list m p hd$ by simpa using e,c,pL f⟩) (λh _ i u n r a=>by
   cases r;obtain⟨l,g,y,A⟩:=I.list$ .inr h;obtain⟨o,m,p,k,hd⟩:=y.isList;obtain⟨as,e,c,f⟩:=i g a
   exact⟨_,.list m p hd$ by simpa using e,c,pL f⟩)
  (λ_ _ _ _ _ _ _ _ a=>by cases a) (λ_ _ _ _ _ _ _ _ a=>by cases a) (λ_ _ _ _ _ _ _ _ _ a=>by cases a) (λ_ _ _ _ _ _ _ _ _ _ a=>by cases a) (λ_ _ _ _ a=>by cases a)
  (λr _=>by cases r;exact ⟨[],.nil,rfl,cI _⟩) λ_ _ i j w n r a=>by
   cases n with
   |zero=>simp[shals]at a
   |succ n =>
    cases r with
    |cons E C=>have a:=gC.1 a;obtain⟨as,e,c,f⟩:=i E a.1;obtain⟨bs,G,F,K⟩:=j C a.2;exact⟨_,.cons e G,by simp[toPys,PyData.canLayAll0,c,F],by simp only[toPys,PyData.depthAll];omega⟩
noncomputable def rEqD(X:Cx)(neg:Bool):R2:=λx y H Q=>∃dx dy,Rep X.K H qS x dx/\Rep X.K H qS y dy/\shal 40 dx=ae/\shal 40 dy=ae/\Q (.bl$ if neg then !eqvD dx dy else eqvD dx dy) H
def op_eqD(z:X.A.units+100<cLine):OpR X (eP .Eq) (rEqD X ag):=by intro r s l H x y v u Q I d c h;obtain⟨n,m,f,e,b,a,q⟩:=h;obtain⟨p,k,j,t⟩:=f.reads I d b;obtain⟨bs,i,g,o⟩:=e.reads I c a;exact SeqAt.compareEq_reads k i j g (by lia) ⟨.bl _,H,I,rfl,q⟩
def op_neD(z:X.A.units+100<cLine):OpR X (eP .NotEq) (rEqD X ae):=by intro r s l H x y v u Q I d c h;obtain⟨n,m,f,e,b,a,q⟩:=h;obtain⟨p,k,j,t⟩:=f.reads I d b;obtain⟨bs,i,g,o⟩:=e.reads I c a;exact SeqAt.compareNe_reads k i j g (by lia) ⟨.bl _,H,I,rfl,q⟩
def on_eqD:OpN X (rEqD X ag) eqD:=by
 intro H O x y g f d Q c b e q;unfold eqD at e;split at e
 . rename_i a;cases e;exact⟨g,f,c,b,a.1,a.2,q _ H (Same.refl _)$ .bl _⟩
 . cases e
def on_neD:OpN X (rEqD X ae) neD:=by
 intro H O x y g f d Q c b e q;unfold neD at e;split at e
 . rename_i a;cases e;exact⟨g,f,c,b,a.1,a.2,q _ H (Same.refl _)$ .bl _⟩
 . cases e
def hu100(z:Room k A):A.units+100<cLine:=by have:=z.un;lia
def kA(z:Room k X.A)(U:PVn X a fa)(J:PVn X b Y):PTv X (.Compare a [.Eq] [b] pos) (zN$ zH eqD fa Y):=kK (op_eqD$ hu100 z) on_eqD U J$ mD _
def MH(z:Room k X.A)(U:PVn X a fa)(J:PVn X b Y):PTv X (.Compare a [.NotEq] [b] pos) (zN$ zH neD fa Y):=kK (op_neD$ hu100 z) on_neD U J$ mD _
def VA{K:Frag}{H:Hp}{O:aF->Prop}{v:V}(r:Rep K H O v d):decide (v=.non)=(match d with|.non=>ae|_=>ag):=by cases r<;>rfl
def on_is:OpN X (λx y H Q=>y=.non/\Q (.bl$ decide (x=.non)) H) isD:=by
 intro H O x y a f d Q c b e q;cases f<;>first|(cases a<;>simp[isD]at e;done)|skip
 cases b;refine⟨rfl,?_⟩;rw[VA c];cases a<;>(simp[isD,Option.some.injEq]at e;subst e;exact q _ H (Same.refl _)$ .bl _)
def aEw:OpN X (λx y H Q=>y=.non/\Q (.bl$ !decide (x=.non)) H) notD:=by
 intro H O x y a f d Q c b e q;cases f<;>first|(cases a<;>simp[notD]at e;done)|skip
 cases b;refine⟨rfl,?_⟩;rw[VA c];cases a<;>(simp[notD,Option.some.injEq]at e;subst e;exact q _ H (Same.refl _)$ .bl _)
def pv_is(J:PVn X a Y)(z:PVn X b U):PV X (.Compare a [.Is] [b] pos) (zH isD Y U):=UM aEu on_is J z$ mD _
def MB(J:PVn X a Y)(z:PVn X b U):PV X (.Compare a [.IsNot] [b] pos) (zH notD Y U):=UM UZ aEw J z$ mD _
def AF(J:PVn X a Y)(z:PVn X b U):PTv X (.Compare a [.Is] [b] pos) (zN$ zH isD Y U):=kK aEu on_is J z$ mD _
def yE(J:PVn X a Y)(z:PVn X b U):PTv X (.Compare a [.IsNot] [b] pos) (zN$ zH notD Y U):=kK UZ aEw J z$ mD _
def CF{K:Frag}(r:Rep K H O v d)(h:sclD d=ae):flatV v=ae:=by cases r<;>first|rfl|(simp[sclD]at h;done)
def scl_eq{K:Frag}(r:Rep K H O v d)(h:sclD d=ae)(J:Rep K H O' z d')(h':sclD d'=ae):eqV v z=eqvD d d':=by
 cases r<;>first|(simp[sclD]at h;done)|skip
 all_goals (cases J<;>first|(simp[sclD]at h';done)|rfl)
def UA{K:Frag}(J:Rep K H O' x dx)(U:sclD dx=ae){xs:List V}{l:List D}(h:Reps K H O xs l):l.all sclD=ae->xs.all flatV=ae/\inV x xs=l.any λz=>eqvD z dx:=
 h.ind (m:=λxs l=>l.all sclD=ae->xs.all flatV=ae/\inV x xs=l.any λz=>eqvD z dx) (λ_=>⟨rfl,rfl⟩) λr i h=>by rw[tH,bY]at h;obtain⟨b,a⟩:=i h.2;refine⟨by rw[tH,CF r h.1,b];rfl,?_⟩;unfold inV at a ⊢;rw[kO,kO,a,scl_eq r h.1 J U]
def on_in:OpN X (rIn X.K z) (inD z):=by
 intro H O x y o n d Q c k e q;obtain⟨l,h,e⟩:=bnd e;split at e
 . rename_i b;cases e;cases n with
   |lst m=>cases h;obtain⟨a,xs,rfl,g,f⟩:=WRep.seqL$ .inl k;obtain⟨j,i⟩:=UA c b.1 f b.2;refine⟨a,xs,rfl,.inl g,CF c b.1,j,?_⟩;rw[i];exact q _ H (Same.refl _)$ .bl _
   |tup m=>cases h;obtain⟨a,xs,rfl,g,f⟩:=WRep.seqT$ .inl k;obtain⟨j,i⟩:=UA c b.1 f b.2;refine⟨a,xs,rfl,.inr g,CF c b.1,j,?_⟩;rw[i];exact q _ H (Same.refl _)$ .bl _
   |_=>cases h
 . cases e
def pt_in(J:PVn X a Y)(z:PVn X b U)(hm:dZ .In b=ag:=by rfl):PTv X (.Compare a [.In] [b] pos) (zN$ zH (inD ag) Y U):=kK YT on_in J z hm
def os_mul:OpS X (rI fE λi j=>.int$ i*j) wA:=by
 intro H O x y g f d Q h b a e q;cases g<;>cases f<;>first|(simp[wA]at e;done)|skip
 simp only[wA]at e;split at e
 . rename_i c;cases e;rw[b.int',a.int'];exact⟨_,_,rfl,rfl,c,q _ H (Same.refl _)$ .int _⟩
 . cases e
def os_pow:OpS X (rI CPowB λi j=>.int$ i^j.toNat) powD:=by
 intro H O x y g f d Q h b a e q;cases g<;>cases f<;>first|(simp[powD]at e;done)|skip
 simp only[powD]at e;split at e
 . rename_i c;cases e;rw[b.int',a.int'];exact⟨_,_,rfl,rfl,c,q _ H (Same.refl _)$ .int _⟩
 . cases e
def JH(J:PVw X a Y)(z:PVw X b U):PVf X (.BinOp a .Add b pos) (catA Y U):=by
 obtain⟨F,t,J⟩:=J;obtain⟨tb,s,z⟩:=z;refine⟨_,pe_op op_catS t s,λH₀ H O k m hd l Q o e q=>?_⟩;obtain⟨B,w,e⟩:=bnd e;obtain⟨A,v,e⟩:=bnd e;cases B<;>cases A<;>first|(simp at e;done)|skip
 simp only at e;split at e
 . rename_i u;cases e;refine J H₀ H O k m hd _ _ o w λx E h r=>?_;refine z H₀ E O k m hd _ _ (o.mono h) v λy G g n=>?_;obtain⟨D,xs,rfl,j,d⟩:=(r.mono g).seqL;obtain⟨C,ys,rfl,i,c⟩:=n.seqL;refine⟨D,C,xs,ys,rfl,rfl,j,i,by rw[d.length,c.length];exact u,λp f=>?_⟩;refine q p _ _ ((h.trans g).trans$ qF f _) ((h.trans g).free f) bP ?_;exact((d.append c).more f).mono (qF f _)
 . cases e
variable(X) in
def POv(e:Option Expr)(f:List Sl->Option (Option Int)):Prop:=∃t,PO X e t/\∀H₀ H O a b hd i Q,Ok X.K H₀ H O a b hd->f b=aa i->(∀c,Same H c->Q i c)->t a H Q
def aEb(h:PVw X e f):POv X (aa e) (soP f):=by
 obtain⟨t,b,c⟩:=h;refine⟨_,po_some b,λH₀ H O a j hd i Q o e q=>?_⟩;obtain⟨d,g,e⟩:=bnd e;cases d<;>first|(cases e;done)|skip
 cases e;refine c H₀ H O a j hd _ _ o g λv k s r=>?_;rw[r.int'];exact⟨_,rfl,q k s⟩
def aHi{K:Frag}(z:Reps K H O xs l):Reps K H O (cutV xs a b) (cutD l a b):=by unfold cutV cutD;rw[z.length];exact(z.drop _).take _
def YA{lo hi:Option Expr}(U:PVw X e f)(z:POv X lo gl)(J:POv X hi gh):PVf X (.Subscript e (.Slice lo hi ac Y) pos) (sliA f gl gh):=by
 obtain⟨G,u,U⟩:=U;obtain⟨E,s,z⟩:=z;obtain⟨F,t,J⟩:=J;refine⟨_,aEh sl_list u s t,λH₀ H O g j hd l Q o e q=>?_⟩;obtain⟨d,A,e⟩:=bnd e;obtain⟨a,y,e⟩:=bnd e;obtain⟨b,x,e⟩:=bnd e;cases d<;>first|(cases e;done)|skip
 cases e;refine U H₀ H O g j hd _ _ o A λv D i r=>?_;refine z H₀ D O g j hd _ _ (o.mono i) y λC h=>?_;refine J H₀ C O g j hd _ _ ((o.mono i).mono h) x λI m=>?_;obtain⟨B,xs,rfl,w,n⟩:=((r.mono h).mono m).seqL;refine⟨B,xs,rfl,w,λp c=>?_⟩;have k:=(i.trans h).trans m;refine q p _ _ (k.trans$ qF c _) (k.free c) bP ?_;exact((aHi n).more c).mono (qF c _)
def MA(hm:X.mg "list"=ac)(z:PVw X e f)(U:Gl X "list":=by rfl)(J:aG [e] X.env=[(ag,cA e X.env)]:=by rfl):PVf X (.Call (.Name "list" p) [e] [] pos) (lisA f):=by
 obtain⟨r,k,z⟩:=z;refine⟨_,kE KH U hm (3:) (qL k jV J) (by decide) (by decide) J rfl,λH₀ H O j n hd l Q o e q=>?_⟩;obtain⟨d,m,e⟩:=bnd e;refine z H₀ H O j n hd _ _ o m λv s b i=>?_;cases d<;>first|(cases e;done)|skip
 . cases e;obtain⟨h,xs,rfl,g,c⟩:=i.seqT;refine⟨h,xs,rfl,.inr g,λp a=>?_⟩;exact q p _ _ (b.trans$ qF a _) (b.free a) bP$ (c.more a).mono$ qF a _
 . cases e;obtain⟨h,xs,rfl,g,c⟩:=i.seqL;refine⟨h,xs,rfl,.inl g,λp a=>?_⟩;exact q p _ _ (b.trans$ qF a _) (b.free a) bP$ (c.more a).mono$ qF a _
def cs_max:CallS X (λxs H Q=>∃i j,xs=[.int i,.int j]/\Q (.int$ if j>i then j else i) H) mxD:=by
 intro H O f l d Q g r e q;unfold mxD at e;split at e
 . cases e;cases r with
   |cons c rn=>
     cases rn with
     |cons b a=>cases a;exact⟨_,_,by rw[c.int',b.int'],q _ H (Same.refl _)$ .int _⟩
 . cases e
def cs_min:CallS X (λxs H Q=>∃i j,xs=[.int i,.int j]/\Q (.int$ if j<i then j else i) H) mnD:=by
 intro H O f l d Q g r e q;unfold mnD at e;split at e
 . cases e;cases r with
   |cons c rn=>
     cases rn with
     |cons b a=>cases a;exact⟨_,_,by rw[c.int',b.int'],q _ H (Same.refl _)$ .int _⟩
 . cases e
def UI(Y:X.calm=ae)(hm:X.mg "max"=ac)(ha:PAv X [a,b] g)(J:Gl X "max":=by rfl)(U:aG [a,b] X.env=(ag,cA a X.env)::aG [b] X.env:=by rfl)(z:(dJ pos$ aG [b] X.env).any (·.1)=ag:=by rfl):PV X (.Call (.Name "max" p) [a,b] [] pos) (callB mxD g):=xW (aAr Y) cs_max hm (3:) ha J (by decide) (by decide) U z
def JJ(Y:X.calm=ae)(hm:X.mg "min"=ac)(ha:PAv X [a,b] g)(J:Gl X "min":=by rfl)(U:aG [a,b] X.env=(ag,cA a X.env)::aG [b] X.env:=by rfl)(z:(dJ pos$ aG [b] X.env).any (·.1)=ag:=by rfl):PV X (.Call (.Name "min" p) [a,b] [] pos) (callB mnD g):=xW (aAq Y) cs_min hm (3:) ha J (by decide) (by decide) U z
def AN{J z:Type}{xs:List J}{ys:List z}(h:xs.length=ys.length):xs.isEmpty=ys.isEmpty:=by cases xs<;>cases ys<;>simp_all
theorem PVn.t(h:PVn X e f)(J:∀z,GF e X.env z=(do let v <- z;oN e.pos;iA [v] (truthy v)):=by intro _;rfl):PTv X e (testT f):=by
 obtain⟨t,n,p⟩:=h;refine⟨_,aDt n J,λH₀ H O j u hd k Q o e q=>?_⟩;unfold testT at e;obtain⟨d,h,e⟩:=bnd e;refine p H₀ H O j u hd d _ o h λv w s r=>⟨k,?_,q w s⟩
 cases d with
 |non=>cases e;cases r;exact rfl
 |bl b=>cases e;cases r;exact rfl
 |int i=>cases e;cases r;exact rfl
 |str x=>
   simp only[truD]at e;split at e
   . rename_i m;cases e;cases r;exact⟨m,rfl⟩
   . cases e
 |tup l=>cases e;obtain⟨a,xs,rfl,g,c⟩:=WRep.seqT$ .inl r;exact .inr (.inl ⟨xs,g,by rw[AN c.length]⟩)
 |lst l=>cases e;obtain⟨a,xs,rfl,g,c⟩:=WRep.seqL$ .inl r;exact .inl ⟨xs,g,by rw[AN c.length]⟩
 |_=>cases e
def xQ{st:Stmt}: PSv X st (λ_=>ac):=⟨_,aDz,λ_ _ _ _ _ _ _ _ _ e _=>by cases e⟩
def YH n(Y:WX (1:) X.A X.env X.xe)(z:PTv X c U)(J:PSsv X body g):PSv X (.While c body [] pos) (oM U g n):=by
 obtain⟨L,B,z⟩:=z;obtain⟨tb,C,J⟩:=J;refine⟨_,aDx Y B C,λH₀ H O K G hd l E o e h=>?_⟩;refine⟨λm d s=>∃v b,Ok X.K H₀ s v d b hd/\oM U g m b=aa l,⟨n,O,G,o,e⟩,?_⟩;rintro m j I ⟨u,p,t,a⟩;cases m with
 |zero=>cases a
 |succ m=>
   simp only[oM]at a;obtain⟨k,F,a⟩:=bnd a;refine z H₀ I u j p hd k _ t F λA x=>?_;cases k with
   |false=>simp only[bV,if_false,Option.some.injEq]at a;subst a;exact iteF$ h j A u$ t.mono x
   |true=>
     simp only[if_true]at a;refine iteT ⟨λd s=>∃v b,Ok X.K H₀ s v d b hd/\oM U g m b=aa l,λd s q=>⟨m,gO _,q⟩,?_⟩;obtain⟨y,D,a⟩:=bnd a;refine J H₀ A u j p hd y _ (t.mono x) D ?_;cases y with
     |nx f=>exact λi w r ok3=>⟨r,f,ok3,a⟩
     |ct f=>exact λi w r ok3=>⟨r,f,ok3,a⟩
     |bk f=>cases a;exact λi w r ok3=>h i w r ok3
     |rt M=>cases a;exact h
def psv_asg(J:PV X e f)(z:PGv X tg ga)(hs:SU [tg] e pos.line X.env=pure ag:=by rfl)(Y:SV [tg] e X.env=pure ac:=by rfl)(h1:(gM [tg] X.env).map (·.2)=[BD tg X.env]:=by rfl):PSv X (.Assign [tg] e pos) (asgG ga f):=by
 obtain⟨r,m,J⟩:=J;obtain⟨j,pg,z⟩:=z;refine⟨_,aEa m pg hs Y h1,λH₀ H O g c hd n E o e h=>?_⟩;obtain⟨d,q,e⟩:=bnd e;cases U:ga d c with
 |none=>rw[U]at e;cases e
 |some b=>rw[U]at e;cases e;refine J H₀ H O g c hd d _ o q λv i k l=>?_;exact z H₀ i O g c hd v d b _ (o.mono k) l U λa p=>h a i O p
def UP(he:PVf X e fe)(hN:X.N[i]?=aa x:=by rfl)(hv:Vis X.env.scope x:=by first|exact Or.inl rfl|exact Or.inr (Or.inl rfl)|exact Or.inr (Or.inr rfl))(hd:(2:)=ag:=by decide)(hcd:(x==("__classdict__":Str))=ag:=by decide)(hfew:((dJ p3$ aG [e] X.env).all (λx=>!x.1)&&(nV p3$ hJ [] X.env).all (λx=>x.1.isSome)
    && decide ([e].length+([]:List pR).length+(if ([]:List pR).isEmpty then 0 else 1)<30))=ae:=by rfl)(U:(p2.endLine==p3.line)=ae:=by rfl)(hs:aG [e] X.env=(ag,cA e X.env)::aG [] X.env:=by rfl)(Y:fB (.Name x p1) "extend" X.env (cA (.Name x p1) X.env)=cA (.Name x p1) X.env:=by rfl)(hsw:eF (.Call (.Attribute (.Name x p1) "extend" p2) [e] [] p3) ac pos.line X.env=pure ag:=by rfl):PSv X (.Expr (.Call (.Attribute (.Name x p1) "extend" p2) [e] [] p3) pos) (extG i fe):=by
 obtain⟨w,p,he⟩:=he;refine⟨_,kI (UW oO PySem.F.slot_list_extend PySem.F.type_list_extend ZE (xD hN hv hd hcd) (qL p jV hs) Y hfew U hs rfl) hsw,λH₀ H O n m hd q E o e h=>?_⟩;unfold extG at e;cases J:m[i]? with
 |none=>rw[J]at e;cases e
 |some s=>
   rw[J]at e;cases s with
   |v B=>cases e
   |no=>cases e
   |exc _=>cases e
   |exf _ _=>cases e
   |fr _=>cases e
   |ob _ _=>cases e
   |own l=>
     obtain⟨d,u,e⟩:=bnd e;split at e
     . rename_i r;cases e;obtain⟨a,xs,k,y,j,g⟩:=o.readO J;refine⟨.ref a,k,.inl ⟨rfl,xs,SqL.of j⟩,?_⟩;refine he H₀ H O n m hd d _ o u λb ys C c A t f=>?_;refine⟨a,b,xs,ys,rfl,rfl,c _ _ j,t,by rw[g.length,f.length];exact r,?_⟩;exact h _ _ _$ (o.mono c).modify J k$ (g.mono c).append$ f.less λa z=>.inr z
     . cases e
def YJ{iter:Expr}(hN:X.N.Nodup)(S:CompScope X scope NY mp)(hc:X.calm=ae)(hi:PIv X tg iter fi)(hg:∀c,PGv (qZ X scope NY c) tg ga)(Y:∀c,PFv (qZ X scope NY c) ifs tt)(J:∀c,PV (qZ X scope NY c) elt fe)(hy:X.N[i]?=aa y:=by rfl)(hl:X.env.scope.names.lookup y=aa .local:=by rfl)(U:eF (.ListComp elt [⟨tg,iter,ifs,0⟩] scope pos) (aa$ .Name y py) spos.line X.env=pure ae:=by rfl)(hs:∀x,fM iter X.env x=pure x:=by intro _;rfl):PSv X (.Assign [.Name y py] (.ListComp elt [⟨tg,iter,ifs,0⟩] scope pos) spos) (jW i$ mkL$ compG fi mp ga tt fe):=by
 obtain⟨k,f,hi⟩:=hi;refine⟨_,ps_comp hN hy hl U S hc f (λc=>(Classical.choose_spec$ hg c).1) (λc=>(Classical.choose_spec$ Y c).1) (λc=>(Classical.choose_spec$ J c).1) hs,λH₀ H O d b hd g E o e h=>?_⟩;unfold jW mkL at e;cases h1:compG fi mp ga tt fe b with
 |none=>rw[h1]at e;cases e
 |some l=>rw[h1]at e;cases e;exact OD hi (λc=>(Classical.choose_spec$ hg c).2) (λc=>(Classical.choose_spec$ Y c).2) (λc=>(Classical.choose_spec$ J c).2) H₀ H O d b hd l _ o h1 λa xs m s j J r=>h _ _ _$ (o.mono s).set$ .lst (o.free j) (.inl J)$ r.less λ_ z=>.inr z
end FL
namespace L2
def aAw(z:X.calm=ae):CallR X (.builtin "any") (λxs H Q=>∃(p:aF) (bs:List Bool),xs=[.ref p]/\SqL X.K H p (bs.map V.bl)/\Q (.bl$ bs.any id) H):=by
 intro C s o H xs t Q I r h;obtain⟨p,bs,rfl,l,q⟩:=h;obtain⟨u,rfl,k⟩:=vals1 r;cases k;obtain⟨a,j,c,y⟩:=I.list l;have d:p<s.heap.objs.size:=by obtain⟨_,e,_⟩:=c.isList;exact bA e
 have f:=EM j;refine call_any_walk$ mK c.isList ?_
 refine⟨s.heap.objs.size,[s.heap.objs.size,p],[s.heap.objs.size],a.toArray.size,_,_,λi=>(bs[i]?).getD ag,rfl,Walks.list (A:=X.A.in1) (I.ok.hd z) _ p (bJ d) a.toArray,
  ⟨⟨_,aN _ rfl,rfl,rfl⟩,c.isList.push _⟩,λi v x D E n g=>?_,λB w m=>?_⟩
 . obtain⟨b,e,rfl⟩:=f.get i v (by simpa using n);simp[e,iL]at g;exact eN g
 . have e:((List.range a.toArray.size).any λi=>(bs[i]?).getD ag)=bs.any id:=by
    rw[bF,f.length];exact LSm.range_any bs
   rw[e];exact⟨.bl _,H,I.kept$ LSm.kept_iter m,rfl,q⟩
end L2
namespace Att
open PySem.W PySem.Calls
theorem AR:∀{ns:List Int}{b:Nat},WData.weightAll (ns.map WData.int)<=b->∀c∈ns,Builtin.Int.intBits c<=b
 |[],_,_=>λc a=>by cases a
 |n::r,b,h=>λc a=>by
   simp only[aQ,WData.weightAll,WData.weight]at h;rcases aA.mp a with rfl|a
   . unfold Builtin.Int.intBits;omega
   . exact AR (ns:=r) (b:=b) (by omega) c a
def attach_callB{l:OpenLaw}(hn:l.most=aa n)(hdf:d.params.defaults=[])(call:∀w s₀ z mg U J o pm cd doc a vs ns,
    Ground q loose [] XP w s₀ mg U z.heap->YP w z.heap →
    z.heap.get? J=aa o->o.data=.func (docDef d.name d.params d.body d.scope pm cd doc)->z.heap.CodeRec cd d.name->mg d.name=aa (.ref J) →
    z.heap.get? a=aa {cls:=.type "list",data:=.seq vs.toArray}->eR vs ns->ns.length<=n->(∀c∈ns,Builtin.Int.intBits c<=1048576)->z.gens=#[] →
    gA (aT l.prog w) EV (.call (.ref J) ⟨[.ref a],[]⟩) (λr s'=>r=.ok (.ret$ .bool ae)/\OldK z.heap s'.heap/\s'.os=z.os/\mP s'.gens) z):WalkO q loose XP YP l.row.toRowW d [] (λf vs=>PySem.call f vs):=by
 intro w s₀ z mg U G Y J o pm cd doc H kV v hd m s k A args p I e i t j y;obtain rfl:H=.none:=Dflts.none s hdf;obtain rfl:kV=.none:=Dflts.noKw s;obtain⟨a,vs,ns,rfl,rfl,g,b,h⟩:=XW hn e j;have B:∀c∈ns,Builtin.Int.intBits c<=1048576:=by have F:=(layableW_iff.mp (layW_cons i).1).2.2;exact AR (cS F$ by decide)
 refine enter_call$ fR (call w s₀ z mg U J o pm cd doc a vs ns G Y v (fd_plain hd) m k g b h B A) λr s' u=>?_;obtain⟨rfl,E,D,C⟩:=u;exact⟨.inl ⟨.bool ae,.bool ae,[],rfl,λ_=>rfl,.bool ae,YK l _,λ_=>⟨List.Pairwise.nil,λ_ x=>(nomatch x)⟩⟩,E,D,C⟩
end Att
namespace FL
noncomputable def QD(K:Frag)(n:Nat):Sp:=λvs H Q _=>∃(a:aF) (ns:List Int),vs=[.ref a]/\SqL K H a (ns.map V.int)/\ns.length<=n/\(∀c∈ns,Builtin.Int.intBits c<=1048576)/\∀H',Q (.bl ae) H'
def law_ofB{K:Frag}(J:FnOk P w K mg base CX0 k f fd [x] (spF K 1 F))(h:∀ns:List Int,ns.length<=n->(∀c∈ns,Builtin.Int.intBits c<=1048576)->F [.lst$ ns.map D.int]=aa (.val$ .bl ae)):FnOk P w K mg base CX0 k f fd [x] (QD K n):=by
 refine J.imp λj H Q E d=>?_;obtain⟨a,ns,rfl,b,e,g,q⟩:=d;refine⟨rfl,[.lst$ ns.map D.int],.val$ .bl ae,.cons ?_ .nil,h ns e g,λv i s r=>?_⟩
 . rcases b with b|b
   . exact .lst (λz=>z.elim) b$ Reps.ints ns
   . exact .lstK b$ Reps.ints ns
 . cases r;exact q i
open PySem.W (tabIn CodeHd tabObj noTabs tab_of) in
inductive TabL(K:Frag)(q:bW)(ts:List aF):List Str->List (Str×aF×aF)->Prop
 |nil:TabL K q ts [] []
 |yes {x:Str}{xs:List Str}{c P:aF}{tl:List (Str×aF×aF)} (h:tabM K x=some (c,P)) (r:(meths.lookup x=none/\((recsOf q).find? (λe=>e.name==x)).isSome=true)\/(tV K c P=true/\P∈ts)) (ap:(tl.all λp=>p.2.2 != P)=true) (t:TabL K q ts xs tl):TabL K q ts (x::xs) ((x,c,P)::tl)
 |no {x:Str}{xs:List Str}{tl:List (Str×aF×aF)} (h:tabM K x=none) (t:TabL K q ts xs tl):TabL K q ts (x::xs) tl
def tabL_no{K:Frag}(h:aH K mainGlobals x=aa ac)(t:TabL K q ts xs tl)(hm:meths.lookup x=ac:=by rfl):TabL K q ts (x::xs) tl:=.no (by rw[JC hm];unfold rS;rw[h]) t
def tabL_noM{K:Frag}(h:aH K mainGlobals C=aa ac)(t:TabL K q ts xs tl)(hm:meths.lookup x=aa (C,m):=by rfl):TabL K q ts (x::xs) tl:=.no (by unfold tabM fnAt;simp[hm,h]) t
def tabL_yes{K:Frag}(h1:aH K mainGlobals x=aa (aa$ .ref f))(h2:K.lookup f=aa ⟨oc,od,.func fd,sl⟩)(Y:fd.code=.ref c)(U:K.lookup c=aa ⟨oc',od',.fields vs,z⟩)(J:(vs[11]?:Option Value)=aa (.ref P))(r:((recsOf q).find? λe=>e.name==x).isSome=ae)(t:TabL K q ts xs tl)(ap:(tl.all λp=>p.2.2 != P)=ae)(hm:meths.lookup x=ac:=by rfl):TabL K q ts (x::xs) ((x,c,P)::tl):=
 .yes (by rw[JC hm];unfold rS;simp[h1,h2,Y,U,J]) (.inl ⟨hm,r⟩) ap t
def tabL_met{K:Frag}(h0:aH K mainGlobals C=aa (aa v))(h1:cG K v m=aa (aa$ .ref f))(h2:K.lookup f=aa ⟨oc,od,.func fd,sl⟩)(h3:fd.code=.ref c)(Y:K.lookup c=aa ⟨oc',od',.fields vs,z⟩)(U:(vs[11]?:Option Value)=aa (.ref P))(r:tV K c P=ae)(J:P∈ts)(t:TabL K q ts xs tl)(ap:(tl.all λp=>p.2.2 != P)=ae)(hm:meths.lookup x=aa (C,m):=by rfl):TabL K q ts (x::xs) ((x,c,P)::tl):=
 .yes (by unfold tabM fnAt;simp[hm,h0,h1,h2,h3,Y,U]) (.inr ⟨r,J⟩) ap t
section
variable{K:Frag}{tl:List (Str×aF×aF)}
def TabL.get(h:TabL K q ts xs tl):∀{x:Str}{c P:aF},x∈xs->tabM K x=aa (c,P)->(x,c,P)∈tl:=by
 induction h with
 |nil=>intro x c P b;cases b
 |yes h r f t d=>
   intro x c P b a;rcases aA.mp b with e|e
   . subst e;rw[h]at a;cases a;exact aP
   . exact aJ _$ d e a
 |no h t d=>
   intro x c P b a;rcases aA.mp b with e|e
   . subst e;rw[h]at a;cases a
   . exact d e a
def TabL.fact(h:TabL K q ts xs tl):∀p∈tl,tabM K p.1=aa (p.2.1,p.2.2)/\((meths.lookup p.1=ac/\((recsOf q).find? λe=>e.name==p.1).isSome=ae)\/(tV K p.2.1 p.2.2=ae/\p.2.2∈ts)):=by
 induction h with
 |nil=>intro p b;cases b
 |yes h r c t a=>
   intro p b;rcases aA.mp b with e|e
   . subst e;exact⟨h,r⟩
   . exact a p e
 |no h t a=>exact a
noncomputable def tabH(K:Frag)(tl:List (Str×aF×aF)):Hp:=λb=>(tl.find? λp=>p.2.2==b).map λp=>.tbl$ nS K p.1
def BG(e:tabH K tl b=aa u):∃p∈tl,b=p.2.2/\u=.tbl (nS K p.1):=by obtain⟨p,h,rfl⟩:=mpd e;exact⟨p,fW h,(beq_iff_eq.mp$ nB (p:=λp:Str×aF×aF=>p.2.2==b) h).symm,rfl⟩
theorem TabL.at(h:TabL K q ts xs tl):∀p∈tl,tabH K tl p.2.2=aa (.tbl$ nS K p.1):=by
 induction h with
 |nil=>intro p b;cases b
 |yes h r d t a=>
   intro p b;rename_i x xs c P tl;unfold tabH;rcases aA.mp b with e|e
   . subst e;simp
   . have:(P==p.2.2)=ag:=by
      have:=iR.mp d p e;simp only[bne_iff_ne,ne_eq]at this;exact beq_eq_false_iff_ne.mpr$ Ne.symm this
     rw[cY,this];exact a p e
 |no h t a=>exact a
end
def no_cls{K:Frag}(X:K.In h)(J:BE K=ae)(e:K.lookup b=aa o)(z:h.get? b=aa (nF ps)):False:=by have q:=X b o e;rw[z]at q;cases q;have a:=iR.mp J (b,_)$ PySem.W.mem_of_lookupK e;exact absurd (a) dX
def ZK{K:Frag}(Y:K.In s₁.heap)(T:Top q loose mean mg mb s₁.heap)(hts:∀P∈ts,s₁.heap.get? P=aa (nF #[]))(hT:TabL K q ts makers tl)(hK:BE K=ae)(hg:s₁.gens=#[])(U:s₁.heap.get? a=aa {cls:=.type "list",data:=.seq vs.toArray})(hi:eR vs ns)(hl:ns.length<=sizeLine)(hr:Room k EV)(F:∀base,K.In base->base.Ns mainGlobals mg->FnOk P w K mg base CX0 k fa fd [x] sp)(J:∀s u,aBk s fd ⟨[u],[]⟩ [(x,u)])(hsp:∀H,SqL K H a (ns.map V.int)->sp [.ref a] H (λv _=>v=.bl ae) λ_ _ _=>False):gA (aT P w) EV (.call (.ref fa) ⟨[.ref a],[]⟩) (λr s'=>r=.ok (.ret$ .bool ae)/\OldK s₁.heap s'.heap/\s'.os=s₁.os/\mP s'.gens) s₁:=by
 have rv:=GQ hi;have t:∀p∈tl,aBe s₁.heap p.2.1 p.2.2/\s₁.heap.get? p.2.2=aa (nF #[]):=λp g=>by
  obtain⟨h1,E⟩:=hT.fact p g;rcases E with⟨O,E⟩|⟨E,h3⟩
  . obtain⟨d,hd⟩:=FH.mp E;exact PySem.W.tab_of T Y hd$ (JC O).symm.trans h1
  . exact⟨PySem.W.codeHd_of_K Y E,hts _ h3⟩
 have B:∀H:Hp,SqL K H a (ns.map V.int)->L2.HOk P w H s₁.heap->(∀b u,H b=aa u->(b=a/\K.lookup a=ac/\∃o xs,u=.frz o (.lst xs))\/∃p∈tl,b=p.2.2/\u=.tbl (nS K p.1))->(∀p∈tl,H p.2.2=aa (.tbl$ nS K p.1)) →
   gA (aT P w) EV (.call (.ref fa) ⟨[.ref a],[]⟩) (λr s'=>r=.ok (.ret$ .bool ae)/\OldK s₁.heap s'.heap/\s'.os=s₁.os/\mP s'.gens) s₁:=by
  intro H hS hok hA hP;have j:∀{b:aF}{o:Obj},s₁.heap.get? b=aa o->(∀C n,o.data≠.seq C n)->o.data≠.fields #[]->H b=ac:=λ{b o} e X W=>by
   cases qb:H b with
   |none=>rfl
   |some u=>
     rcases hA b u qb with⟨rfl,_,_⟩|⟨p,g,rfl,_⟩
     . rw[U]at e;cases e;exact(X _ _ rfl).elim
     . rw[(t p g).2]at e;cases e;exact(W rfl).elim
  have f:∀{b:aF}{o:Obj},s₁.heap.get? b=aa o->(∀C n,o.data≠.seq C n)->o.data≠.fields #[]->(hidT s₁.heap H).get? b=aa o:=λe X W=>NN e$ j e X W;have l:∀{b:aF}{m:Str->Option Value},s₁.heap.Ns b m->(hidT s₁.heap H).Ns b m:=λ{b m} ⟨o,es,ep,e,d,r⟩=>⟨o,es,ep,f e (λ_ _ z=>by rw[d]at z;cases z) (λz=>by rw[d]at z;cases z),d,r⟩
  have M:K.In (hidT s₁.heap H):=λb o e=>NN (Y b o e) (by
   cases qb:H b with
   |none=>rfl
   |some u=>
     rcases hA b u qb with⟨rfl,z,_⟩|⟨p,g,rfl,_⟩
     . rw[z]at e;cases e
     . exact(no_cls Y hK e (t p g).2).elim)
  have hM:Mod K mg (hidT s₁.heap H):=⟨M,l T.g,⟨mb,l T.b,T.builtins⟩,let ⟨mc,h1,E⟩:=T.nolimit;⟨mc,l h1,E⟩⟩
  have L:TabsK K mg (hidT s₁.heap H) H:=by
   refine⟨?_,λy c P' hy ht=>?_⟩
   . obtain⟨bm,ob,b1,b2,b3,b4,b5,b6⟩:=T.bmain;exact⟨bm,ob,b1,b2,f b3 (λ_ _ z=>by rw[b6]at z;cases z) (λz=>by rw[b6]at z;cases z),b4,b5,b6⟩
   . have O:=hT.get hy ht;refine⟨?_,hP _ O⟩;obtain⟨o,ws,N,R,G,tg,Z,I,tt,Q,r1,S,r3,rest⟩:=(t _ O).1;refine⟨o,ws,N,R,G,tg,Z,I,tt,f Q (λ_ _ z=>by rw[S]at z;cases z) λz=>?_,r1,S,r3,rest⟩;rw[S]at z;cases z;cases r3
  have e0:Env0 P w K mg (hidT s₁.heap H) EV [] s₁ H:=⟨rfl,hM,λb o e=>of_hidT e,⟨AB$ ZV _ _,L⟩,trivial,λb D=>absurd (show b∈([]:List aF) from D)$ by simp,hok,.of_eq hg⟩
  refine fR ((F _ M$ l T.g).run EV [] s₁ H ⟨[.ref a],[]⟩ [.ref a] [.ref a] _ _ hr e0 (J s₁$ .ref a) (.cons rfl .nil)$ hsp H hS) λr s' h=>?_;cases r with
  |error e=>exact False.elim h
  |ok fl=>
    cases fl with
    |next=>exact False.elim h
    |brk=>exact False.elim h
    |cont=>exact False.elim h
    |ret u=>
      obtain⟨v,H',os,bare,un,A,r',hv⟩:=h;have hv':=hv;subst hv';obtain rfl:u=Value.bool ae:=r';refine⟨rfl,⟨λb o e=>?_,λb o e=>un.there b o e$ by simp⟩,os,bare⟩;cases qb:H b with
      |none=>exact .inl (un.keep b o e qb (by intro z;exact absurd (show b∈([]:List aF) from z)$ by simp)$ by simp)
      |some u=>
        rcases hA b u qb with⟨_,_,ob,xs,rfl⟩|⟨p,g,rfl,rfl⟩
        . obtain⟨Q,_⟩:=hok b _ qb;obtain⟨e2,_⟩:=A b _$ un.frzs b ob _ qb;rw[e]at Q;cases Q;exact .inl e2
        . have t2:=(t p g).2;rw[e]at t2;cases t2;obtain⟨ps,e2,_⟩:=A _ _$ un.tbls _ _ qb;exact .inr (.inl ⟨((t p g).1.tab (t p g).2).isCodeTable,rfl,#[],ps,rfl,by rw[Array.empty_append];exact e2⟩)
 have i:∀(H:Hp) (p:Str×aF×aF),p∈tl->ObjOk P w H s₁.heap p.2.2 (.tbl$ nS K p.1):=λH p g=>⟨#[],(t p g).2,trivial,λpos v z=>by cases z⟩
 cases hk:K.lookup a with
 |some o=>have e:=Y a o hk;rw[U]at e;cases e;refine B (tabH K tl) (.inr ⟨_,vs.toArray,_,hk,rfl,rfl,rfl,by rw[bF,hi.length];exact hl,by simpa using rv⟩) (λb u z=>?_) (λb u z=>.inr$ BG z) λp g=>hT.at p g;obtain⟨p,g,rfl,rfl⟩:=BG z;exact i _ p g
 |none=>
   have na:∀p∈tl,p.2.2≠a:=λp g z=>by have:=(t p g).2;rw[z,U]at this;cases this
   refine B (upd (tabH K tl) a$ .frz {cls:=.type "list",data:=.seq vs.toArray}$ .lst$ ns.map V.int) (.inl$ .inr ⟨_,bP⟩) (λb u z=>?_) (λb u z=>?_) λp g=>by rw[upd_ne$ na p g];exact hT.at p g
   . by_cases D:b=a
     . subst D;rw[bP]at z;cases z;exact⟨U,by rw[bS];exact hl,vs,_,rv,U⟩
     . rw[upd_ne D]at z;obtain⟨p,g,rfl,rfl⟩:=BG z;exact i _ p g
   . by_cases D:b=a
     . subst D;rw[bP]at z;cases z;exact .inl ⟨rfl,hk,_,_,rfl⟩
     . rw[upd_ne D]at z;exact .inr$ BG z
def walkB{l:WV}{K:Params->aM}(hn:l.most=aa 63)(J:d.params.defaults=[])(U:Room k EV)(hY:∀w h,YP w h->(K w.params).In h/\∀P∈ts,h.get? P=aa (nF #[]))(hK:∀w:cT,BE (K w.params)=ae)(hT:∀w:cT,TabL (K w.params) q ts makers tl)(F:∀w mg z h,(K w.params).In h->h.Ns mainGlobals mg->mg d.name=aa (.ref z) →
    ∃fd,(∀s u,aBk s fd ⟨[u],[]⟩ [("_law_script",u)])/\∀base,(K w.params).In base->base.Ns mainGlobals mg->FnOk l.prog w (K w.params) mg base CX0 k z fd ["_law_script"] (QD (K w.params) 63)):PySem.W.WalkO q loose XP YP l.row.toRowW d [] (λf vs=>PySem.call f vs):=by
 refine Att.attach_callB hn J λw s₀ j mg x z o pm cd doc a vs ns G Y y hd p g e c b r n=>?_;obtain⟨m,KT⟩:=hY w _ Y;obtain⟨fd,i,v⟩:=F w mg z _ m G.T.g g;exact ZK m G.T KT (hT w) (hK w) n e c (cS b$ by decide) U v i λH t=>⟨a,ns,rfl,t,b,r,λ_=>rfl⟩
structure Cal(P:bW)(w:cT)(K:Frag)(mg:Str->Option Value)(base:Heap)(x:Str)(k n:Nat)(F:List D->Option Ret):Prop where
 ex:∃(f:aF) (fd:bR) (ps:List Str),FnOk P w K mg base CX0 k f fd ps (spF K n F)/\Binds K fd ps []/\cC K (.ref f)=true/\mg x=some (.ref f)
def zX(C:Cal X.prog X.w X.K X.mg X.base x k n F)(U:Room j X.A)(ha:PAn X (e::es) g)(Y:k<=j:=by decide)(hg:Gl X x:=by rfl)(J:(2:)=ag:=by decide)(he:aG (e::es) X.env=(ag,cA e X.env)::aG es X.env:=by rfl)(z:(dJ pos$ aG es X.env).any (·.1)=ag:=by rfl):PV X (.Call (.Name x p) (e::es) [] pos) (qT n F g):=by
 obtain⟨f,i,h,d,c,b,a⟩:=C.ex;exact aDl d (U.mono Y) a b c ha hg J he z
def yK(C:Cal X.prog X.w X.K X.mg X.base x k n F)(U:Room j X.A)(ha:PAn X (e::es) g)(Y:k<=j:=by decide)(hg:Gl X x:=by rfl)(J:(2:)=ag:=by decide)(he:aG (e::es) X.env=(ag,cA e X.env)::aG es X.env:=by rfl)(z:(dJ pos$ aG es X.env).any (·.1)=ag:=by rfl):PVf X (.Call (.Name x p) (e::es) [] pos) (wP n F g):=by
 obtain⟨f,i,h,d,c,b,a⟩:=C.ex;exact YD d (U.mono Y) a b c ha hg J he z
def cs_any:CallS X (λxs H Q=>∃(p:aF) (bs:List Bool),xs=[.ref p]/\SqL X.K H p (bs.map V.bl)/\Q (.bl$ bs.any id) H) anyD:=by
 intro H O g l d Q h r e q;unfold anyD at e;split at e
 . cases r with
   |cons r rn=>cases rn;obtain⟨bs,f,rfl⟩:=mpd e;obtain⟨a,xs,rfl,c,b⟩:=r.seqL;refine⟨a,bs,rfl,?_,q _ H (Same.refl _)$ .bl _⟩;rw[<-WH b f];exact c
 . cases e
def pv_any(U:X.calm=ae)(hm:X.mg "any"=ac)(Y:PAv X [e] g)(z:Gl X "any":=by rfl)(J:aG [e] X.env=[(ag,cA e X.env)]:=by rfl):PV X (.Call (.Name "any" p) [e] [] pos) (callB anyD g):=xW (aAw U) cs_any hm (3:) Y z (by decide) (by decide) J rfl
def pv_lt(J:PVw X a Y)(z:PVw X b U):PV X (.Compare a [.Lt] [b] pos) (zH ltD Y U):=CP op_lt wB J z$ mD _
def pv_le(J:PVw X a Y)(z:PVw X b U):PV X (.Compare a [.LtE] [b] pos) (zH leD Y U):=CP op_le wB J z$ mD _
def pv_gt(J:PVw X a Y)(z:PVw X b U):PV X (.Compare a [.Gt] [b] pos) (zH gtD Y U):=CP op_gt wB J z$ mD _
def pv_ge(J:PVw X a Y)(z:PVw X b U):PV X (.Compare a [.GtE] [b] pos) (zH geD Y U):=CP op_ge wB J z$ mD _
def sU(J:PVw X a Y)(z:PVw X b U):PTv X (.Compare a [.Lt] [b] pos) (zN$ zH ltD Y U):=JK op_lt wB J z$ mD _
def AG(J:PVw X a Y)(z:PVw X b U):PTv X (.Compare a [.Gt] [b] pos) (zN$ zH gtD Y U):=JK op_gt wB J z$ mD _
def aDu(J:PVw X a Y)(z:PVw X b U):PTv X (.Compare a [.GtE] [b] pos) (zN$ zH geD Y U):=JK op_ge wB J z$ mD _
def qR(J:PVw X a Y)(z:PVw X b U):PV X (.BinOp a .Add b pos) (zH xM Y U):=uL op_addU os_add J z
def xT(J:PVw X a Y)(z:PVw X b U):PV X (.BinOp a .Sub b pos) (zH subD Y U):=uL op_sub os_sub J z
def jT(J:PVw X a Y)(z:PVw X b U):PV X (.BinOp a .Mult b pos) (zH wA Y U):=uL op_mulB os_mul J z
def wS(J:PVw X a Y)(z:PVw X b U):PV X (.BinOp a .Pow b pos) (zH powD Y U):=uL op_powB os_pow J z
def zV(J:PVw X a Y)(z:PVw X b U):PV X (.BinOp a .Mod b pos) (zH jK Y U):=uL op_mod os_mod J z
def jH(J:PVw X a Y)(z:PVw X b U):PV X (.BinOp a .FloorDiv b pos) (zH jL Y U):=uL aEv os_fdiv J z
end FL
namespace L2
def pi_seq(z:PE X l tl):PI X tg l (λσ H R=>iList X.K tl σ H R\/iTup X.K tl σ H R):=by
 intro a s σ H R I h;rcases h with h|h
 . exact pi_list z a s σ H R I h
 . exact pi_tup z a s σ H R I h
end L2
namespace FL
def jG(h:PV X e f):PIv X tg e (viaA f asLT):=by
 obtain⟨t,p,j⟩:=h;refine⟨_,pi_seq p,λH₀ H O i m hd b R o e q=>?_⟩;obtain⟨d,k,e⟩:=bnd e;cases d with
 |lst l=>cases e;refine .inl$ j H₀ H O i m hd _ _ o k λv g s r=>?_;obtain⟨a,xs,rfl,c,n⟩:=WRep.seqL$ .inl r;exact⟨a,rfl,⟨xs,c⟩,q _ (.ref a,.lst b) g s r aCk⟩
 |tup l=>cases e;refine .inr$ j H₀ H O i m hd _ _ o k λv g s r=>?_;obtain⟨a,xs,rfl,c,n⟩:=WRep.seqT$ .inl r;exact⟨a,rfl,⟨xs,c⟩,q _ (.ref a,.tup b) g s r wlk_tup⟩
 |_=>cases e
end FL
namespace L2
end L2
namespace FL
def NK{K:Frag}{xs:List V}{l:List D}{bs:List Int}(h:Reps K H O xs l):intsD l=aa bs->xs=bs.map V.int:=
 h.ind (m:=λxs l=>∀{bs},intsD l=aa bs->xs=bs.map V.int) (λe=>by cases e;rfl) λ{_ d _ _} h i _ e=>by
  cases d with
  |int b=>simp only[intsD]at e;obtain⟨r,a,rfl⟩:=mpd e;cases h;rw[i a];rfl
  |_=>cases e
def pv_int1(hm:X.mg "int"=ac)(U:PAv X [e] g)(z:Gl X "int":=by rfl)(J:aG [e] X.env=[(ag,cA e X.env)]:=by rfl):PV X (.Call (.Name "int" p) [e] [] pos) (callB int1D g):=by
 obtain⟨t,i,j⟩:=U;refine⟨_,kE aAv z hm (3:) i (by decide) (by decide) J rfl,λH₀ H O f k hd d Q o e q=>?_⟩;obtain⟨l,h,e⟩:=bnd e;refine j H₀ H O f k hd l _ o h λm c a b=>?_;unfold int1D at e;split at e
 . cases e;cases b with
   |cons r rn=>cases rn;exact .inl ⟨_,by rw[r.int'],q _ c a$ .int _⟩
 . cases e;cases b with
   |cons r rn=>cases rn;exact .inr ⟨_,by rw[r.bl'],q _ c a$ .int _⟩
 . cases e
def MK(hN:X.N.Nodup)(Y:PV X e f)(hi:X.N[i]?=aa x:=by rfl)(J:Loc X.env.scope x:=by first|exact Or.inl rfl|exact Or.inr rfl)(U:X.fn x=ae\/X.env.scope.names.lookup x=aa .local:=by first|exact .inl rfl|exact .inr rfl):PSv X (.AugAssign (.Name x pos') .Add e pos) (augA i f):=by
 obtain⟨t,j,k⟩:=Y;refine⟨_,ps_aug hN hi J j ip_add U,λH₀ H O b a hd g E o e h=>?_⟩;unfold augA qB at e;cases z:a[i]? with
 |none=>rw[z]at e;cases e
 |some sl=>
   rw[z]at e;cases sl with
   |no=>cases e
   |exc _=>cases e
   |exf _ _=>cases e
   |fr _=>cases e
   |ob _ _=>cases e
   |own l=>cases e
   |v p=>
     simp[aZ]at e;obtain⟨n,m,e⟩:=bnd e;cases p<;>first|(cases e;done)|skip
     cases n<;>first|(cases e;done)|skip
     cases e;obtain⟨v,d,c⟩:=o.read z;cases c;refine⟨_,d,k H₀ H O b a hd _ _ o m λv q s r=>?_⟩;cases r;exact⟨_,_,rfl,rfl,h _ _ _$ (o.mono s).set$ .int _⟩
end FL
namespace L2
end L2
namespace FL
end FL
namespace L2
end L2
namespace FL
end FL
namespace L2
def aAp(z:X.calm=ae):CallR X (.builtin "sum") (λxs H Q=>∃(p:aF) (ns:List Int),xs=[.ref p]/\SqL X.K H p (ns.map V.int)/\Q (.int ns.sum) H):=by
 intro v s l H xs m Q I r h;obtain⟨p,ns,rfl,j,q⟩:=h;obtain⟨u,rfl,f⟩:=vals1 r;cases f;obtain⟨i,d,g,o⟩:=I.list j;have hi:=DN d;have b:=g.isList;obtain⟨xs,e⟩:=hi.allInts.items;have a:ns=xs.toList.map (·.1):=by rw[<-hi.numsOf,<-nums_intItems,<-e]
 rw[e]at b;refine sum_intListG (I.ok.hd z) b λt n c k=>?_;rw[preSum_eq,dM$ by simp,<-a];exact⟨.int ns.sum,H,I.kept k,⟨c,rfl⟩,q⟩
end L2
namespace FL
def cs_sumL:CallS X (λxs H Q=>∃(p:aF) (ns:List Int),xs=[.ref p]/\SqL X.K H p (ns.map V.int)/\Q (.int ns.sum) H) sumD:=by
 intro H O g l d Q h r e q;unfold sumD at e;split at e
 . cases r with
   |cons r rn=>cases rn;obtain⟨ns,f,rfl⟩:=mpd e;obtain⟨a,xs,rfl,c,b⟩:=r.seqL;refine⟨a,ns,rfl,?_,q _ H (Same.refl _)$ .int _⟩;rw[<-NK b f];exact c
 . cases e
def pv_sum(U:X.calm=ae)(hm:X.mg "sum"=ac)(Y:PAv X [e] g)(z:Gl X "sum":=by rfl)(J:aG [e] X.env=[(ag,cA e X.env)]:=by rfl):PV X (.Call (.Name "sum" p) [e] [] pos) (callB sumD g):=xW (aAp U) cs_sumL hm (3:) Y z (by decide) (by decide) J rfl
end FL
namespace L2
def QA(X:Cx)(m:Str)(k:Nat)(ta:TE)(t:TA):TE:=λb H Q=>ta b H λx c=>∃(a C dx:aF) (fs:List (Str×V)) (f:aF) (fd:bR) (ps:List Str) (sp:Sp),x=.ref a/\c a=aa (.ins C dx fs)/\fs.lookup m=ac ∧
 Cls X.K C/\Meth X.K C m f/\FnOk X.prog X.w X.K X.mg X.base CX0 k f fd ps sp/\Binds X.K fd ps []/\t b c λd e=>sp (x::d) e Q E0
def MO(he:PE X o ta)(hr:Room k X.A)(ha:PA X (e::es) t)(z:aG (e::es) X.env=(ag,cA e X.env)::aG es X.env:=by rfl)(J:(dJ pos$ aG es X.env).any (·.1)=ag:=by rfl)(ht:cA (.Call (.Attribute o m apos) (e::es) [] pos) X.env=(do
    let U <- cA o X.env
    oN apos.atName
    let (f,first) <- iA [U] (rO U m pl)
    OQ pos f first (dJ pos$ aG (e::es) X.env) (nV pos$ hJ [] X.env)):=by rfl):PE X (.Call (.Attribute o m apos) (e::es) [] pos) (QA X m k ta t):=by
 intro g s b H Q I h;refine IW (thn (he g s b H _ I h) λu n j=>?_) ht;obtain⟨x,y,i,p,a,C,K,fs,f,G,E,B,ex,w,l,c,d,F,v,q⟩:=j;subst ex;obtain rfl:u=Value.ref a:=p;refine DP i w c d l ?_;refine iY I.ok.mod.kin d.kp (thn (ha pos g n b y _ i q) λA D ⟨vs,H2,Y,r,q2⟩=>⟨Y.kIn,?_⟩) z J;exact aDc (vs:=.ref a::vs) F hr v .nil pass0 Y (.cons rfl r) (by simpa using q2)
end L2
namespace FL
theorem PVd.v(h:PVd X e f):PV X e f:=by obtain⟨t,c,g⟩:=h;exact⟨t,c,λH₀ H O b i hd d Q o e q=>g H₀ H O b i hd d Q o e λv j s r=>q v j s$ r.less λa z=>o.old z⟩
def FldOk(K:Frag)(f:Str)(z:List (Nat×Nat)):Prop:=∀t i,z.lookup t=aa i->(eX t)[i]?=aa f/\(∀j,j<i->(eX t)[j]?≠aa f)/\∀C,aH K mainGlobals (eL t)=aa (aa$ .ref C)->Cls K C/\NoAttr K C f
def aAc{K:Frag}: FldOk K f []:=λt i h=>by simp at h
def RZ{K:Frag}(a:aH K mainGlobals (eL t)=aa (aa$ .ref C))(c:Cls K C)(n:NoAttr K C f)(h1:(eX t)[i]?=aa f)(h2:∀j,j<i->(eX t)[j]?≠aa f)(h:FldOk K f z):FldOk K f ((t,i)::z):=by
 intro b g e;by_cases q:b=t
 . subst q;simp at e;subst e;refine⟨h1,h2,λk d=>?_⟩;rw[a]at d;cases d;exact⟨c,n⟩
 . have:(b == t)=ag:=by simpa using q
   rw[cJ,this]at e;exact h b g e
theorem wR:∀{kvs:List (Str×V)}{i:Nat}{v:V},(kvs.map (·.1))[i]?=aa f->(∀j,j<i->(kvs.map (·.1))[j]?≠aa f)->(kvs.map (·.2))[i]?=aa v->kvs.lookup f=aa v
 |[],_,_,h,_,_=>by simp at h
 |(g,x)::r,0,v,h1,_,J=>by simp at h1 J;subst h1 J;simp[List.lookup]
 |(g,x)::r,i+1,v,h1,h2,J=>by
   have a:g≠f:=λz=>h2 0 (by omega) (by simp[z]);have:(f==g)=ag:=by simpa using λz=>a z.symm
   rw[cJ,this];exact wR (i:=i) (by simpa using h1) (λj b=>by have:=h2 (j+1) (by omega);simpa using this) (by simpa using J)
def CM(Y:FldOk X.K f z)(J:PV X e fe)(U:fB e f X.env (cA e X.env)=cA e X.env:=by rfl):PV X (.Attribute e f pos) (fldG z fe):=by
 obtain⟨t,s,y⟩:=J;refine⟨_,aEk s U,λH₀ H O k G hd d Q o e q=>?_⟩;obtain⟨x,h,e⟩:=bnd e;refine y H₀ H O k G hd x _ o h λv I l p=>?_;cases x with
 |ins t K=>
   obtain⟨i,u,e⟩:=bnd e;obtain⟨E,D,B⟩:=Y t i u;cases p with
   |@ins a C F _ g _ c n A j m=>obtain⟨cl,na⟩:=B C c;obtain⟨w,r,b⟩:=m.get e;refine⟨a,C,F,g,w,rfl,A,cl,na,wR (by rw[j];exact E) (by rw[j];exact D) r,?_⟩;exact q w I l b
 |_=>simp[fldD]at e
structure MCal(P:bW)(w:cT)(K:Frag)(mg:Str->Option Value)(base:Heap)(m:Str)(k n:Nat)(cs:List Nat)(F:Nat->List D->Option Ret):Prop where
 no:∀t∈cs,m∉eX t
 of:∀t∈cs,∀C,aH K mainGlobals (eL t)=some (some (.ref C))->∃(f:aF) (fd:bR) (ps:List Str),Cls K C/\Meth K C m f/\FnOk P w K mg base CX0 k f fd ps (spF K (n+1) (F t))/\Binds K fd ps []
def NC{K:Frag}: MCal P w K mg base m k n [] F:=⟨λ_ h=>(nomatch h),λ_ h=>(nomatch h)⟩
def HW{K:Frag}(a:aH K mainGlobals (eL t)=aa (aa$ .ref C))(c:Cls K C)(hm:Meth K C m f)(G:FnOk P w K mg base CX0 j f fd ps (spF K (n+1)$ F t))(J:j<=k)(b:Binds K fd ps [])(z:m∉eX t)(h:MCal P w K mg base m k n cs F):MCal P w K mg base m k n (t::cs) F:=by
 refine⟨λg d=>(aA.mp d).elim (λe=>e▸z)$ h.no g,λg d i e=>?_⟩;rcases aA.mp d with rfl|d
 . rw[a]at e;cases e;exact⟨f,fd,ps,c,hm,G.mono J,b⟩
 . exact h.of g d i e
theorem yH:∀{kvs:List (Str×V)},m∉kvs.map (·.1)->kvs.lookup m=ac
 |[],_=>rfl
 |(g,x)::r,h=>by
   have a:(m==g)=ag:=by simpa using λz=>h (by simp[z])
   rw[cJ,a];exact yH λz=>h (by simp at z ⊢;exact .inr z)
def aFj(M:MCal X.prog X.w X.K X.mg X.base m k n cs F){fo:FE}{g:FA}(U:∀H₀ H O σ ds hd d Q,Ok X.K H₀ H O σ ds hd->fo ds=aa d->(∀v H',Same H H'->Rep X.K H' O v d->Q v H')->ta σ H Q)(Y:∀H₀ H O σ ds hd l Q,Ok X.K H₀ H O σ ds hd->g ds=aa l->(∀vs H',Same H H'->Reps X.K H' qS vs l->Q vs H')->t σ H Q)(o:Ok X.K H₀ H O σ ds hd)(h1:fo ds=aa x)(h2:g ds=aa l)(J:methR n cs F x l=aa r)(q:∀v H1 H',Same H H1->Same H1 H'->RetOk X.K H1 H' v r->Q v H'):QA X m k ta t σ H Q:=by
 refine U H₀ H O σ ds hd x _ o h1 λv H1 i E=>?_;cases x with
 |ins c N=>
   simp only[methR]at J;split at J
   . rename_i p;cases E with
     |@ins a C P _ h _ w S s u B=>
       obtain⟨f,L,G,cl,I,R,K⟩:=M.of c p.1 C w;refine⟨a,C,P,h,f,L,G,_,rfl,s,yH$ by rw[u];exact M.no c p.1,cl,I,R,K,?_⟩;refine Y H₀ H1 O σ ds hd l _ (o.mono i) h2 λvs y b j=>?_;have T:=j.length;have e:Rep X.K y qS (.ref a) (.ins c N):=(Rep.ins w (λz=>z.elim) (b _ _ s) u$ (B.mono b).less λ_ z=>z.elim)
       exact⟨by simp[aK];lia,_,r,.cons e j,J,λv H' A D=>q v y H' (i.trans b) A D⟩
   . cases J
 |_=>simp[methR]at J
def vP(M:MCal X.prog X.w X.K X.mg X.base m k n cs F)(hr:Room j X.A)(ho:PV X o fo)(U:PAn X (e::es) g)(hj:k<=j:=by decide)(z:aG (e::es) X.env=(ag,cA e X.env)::aG es X.env:=by rfl)(J:(dJ pos$ aG es X.env).any (·.1)=ag:=by rfl)(ht:cA (.Call (.Attribute o m apos) (e::es) [] pos) X.env=(do
    let Y <- cA o X.env
    oN apos.atName
    let (f,first) <- iA [Y] (rO Y m pl)
    OQ pos f first (dJ pos$ aG (e::es) X.env) (nV pos$ hJ [] X.env)):=by rfl):PV X (.Call (.Attribute o m apos) (e::es) [] pos) (methV n cs F fo g):=by
 obtain⟨C,s,b⟩:=ho;obtain⟨t,pt,c⟩:=U;refine⟨_,MO s (hr.mono hj) pt z J ht,λH₀ H O B D hd d Q o e q=>?_⟩;obtain⟨x,y,e⟩:=bnd e;obtain⟨l,w,e⟩:=bnd e;obtain⟨r,u,e⟩:=bnd e;refine aFj M b c o y w u λv E A h i p=>q v A (h.trans i) ?_;exact BJ p e λa U=>(o.mono h).old U
noncomputable def eH:Hp:=λ_=>ac
def Keepx(x:aF)(H H':Hp):Prop:=∀b o,b≠x->H b=aa o->H' b=aa o
def Keepx.trans(a:Keepx x H H1)(b:Keepx x H1 H2):Keepx x H H2:=λc o n e=>b c o n$ a c o n e
theorem ME:∀{kvs:List (Str×V)},f∉kvs.map (·.1)->putF f v kvs=kvs++[(f,v)]
 |[],_=>rfl
 |(g,x)::r,h=>by have a:¬g=f:=λz=>h (by simp[z]);rw[show putF f v ((g,x)::r)=(if g=f then (g,v)::r else (g,x)::putF f v r) from rfl,if_neg a,ME λz=>h$ by simp at z ⊢;exact .inr z];rfl
def aFz{K:Frag} C:cV K (.ref C) (.ref C)=aa ae:=by unfold cV;rw[if_pos$ by simp]
def kit_no{K:Frag}(u:pF K C=ae)(y:nE K (.ref C)=aa (.type "type"))(s:lZ K (.ref z) (.ref C)=aa ag)(n:(Value.ref z==Value.ref C)=ag):cV K (.ref z) (.ref C)=aa ag:=by unfold cV;rw[n,if_neg$ by decide];unfold nG;simp only;rw[show(rW K C).isSome=ae from u,y,if_pos$ by simp,s]
def MC(hm:∃t,X.mg x=aa (.int i t))(z:Gl X x:=by rfl)(hd:(2:)=ag:=by decide):PV X (.Name x pos) (zA$ .int i):=
 let ⟨t,h⟩:=hm
 UJ (v:=.int i) z h ⟨t,rfl⟩ (λ_ _=>.int i) hd
def aDk(hm:∃t,X.mg x=aa (.str i t))(z:Gl X x:=by rfl)(hd:(2:)=ag:=by decide):PV X (.Name x pos) (zA$ .str i):=
 let ⟨t,h⟩:=hm
 UJ (v:=.str i) z h ⟨t,rfl⟩ (λ_ _=>.str i) hd
end FL
namespace PySem
end PySem
namespace FL
open PySem.Calls PySem.Builtin PySem.Builtin.ObjectAttr PySem.Builtin.Getset_descriptor
open PySem.W (Looks looks_findIn looks_mroIn findIn mroIn specialIn takesIn KitX)
structure XIn(K:Frag)(C:aF):Prop where
 ga:findIn K (.ref C) "__getattribute__"=some (some (.builtin "BaseException.__getattribute__"))
 gt:findIn K (.ref C) "__getattr__"=some none
 cl:findIn K (.ref C) "__class__"=some (some (.builtin "object.__class__"))
 ob:mroIn K C (.type "object")=some true
 be:mroIn K C (.type "BaseException")=some true
section
variable{prog:bW}{w:cT}{A:dF}{E:Value->aW->Prop}{h:Heap}{g:Array OY}{d:Drawn}{t:Nat}{os:aBf}{a C:aF}{o:Obj}{K:Frag}
def uI{M:Model}(z:h.get? a=aa o)(J:o.cls=.ref C):Looks M h (typeOf$ .ref a) (.ref C):=J▸(PySem.W.Looks.ld z).andThen .now
def LD{R:Result->aW->Prop}{z:Value}(X:K.In h)(J:h.get? a=aa o)(Y:o.cls=.ref C)(I:XIn K C)(U:R (.ok$ .ret$ .ref C) ⟨h,g,d,t,os⟩):gA (4:) A (.call (.builtin "getset_descriptor.__get__") ⟨[.builtin "object.__class__",.ref a,z],[]⟩) R ⟨h,g,d,t,os⟩:=by
 have c:=uI (M:=aT prog w) J Y;have b:=looks_mroIn (M:=aT prog w) X I.ob;refine nU IX.plain PySem.W.KF.entry_gs$ IX.check _ _ _ _ _ _ _ _ PySem.W.KF.type_class (PySem.W.KF.args_gs _ _ _) ?_;unfold Builtin.«getset_descriptor.__get__» descrGet;rw[PySem.W.dga_obj];refine aC$ aO ?_;unfold descrGetter descrCheckInstance descrNameAndClass isInstance;simp only[PySem.W.KF.owner_class]
 repeat lk
 refine⟨Code.quiet_builtin _$ by decide +kernel,iI PySem.W.KF.entry_class ?_⟩;unfold Builtin.«object.__class__» shownTypeOf
 repeat lk
 exact U
def PJ{M:Model}{z:Value}{Q:Unit->aW->Prop}(X:K.In h)(J:h.get? a=aa o)(Y:o.cls=.ref C)(I:XIn K C)(U:Q () ⟨h,g,d,t,os⟩):bG M A (GG "BaseException.__getattribute__" ⟨[.ref a,z],[]⟩) Q E ⟨h,g,d,t,os⟩:=by
 have c:builtinKind "BaseException.__getattribute__"=aa .slot:=by decide +kernel
 have b:splitId "BaseException.__getattribute__"=aa ("BaseException","__getattribute__"):=by decide +kernel
 have f:=uI (M:=M) J Y;have e:=looks_mroIn (M:=M) X I.be;have i:=F.args_bexc_ga (.ref a) z;simp only[GG,c,b];refine aC ?_
 . unfold isInstance
   repeat (first|with_reducible refine f.at ?_|with_reducible refine e.at ?_|wp_step)
   exact U
def x_entry{tk:Tok}{Q:Fin->aW->Prop}(X:K.In h)(z:h.get? a=aa o)(J:o.cls=.ref C)(I:XIn K C)(U:Q (.done$ .ret$ .ref C) ⟨h,g,d,t,os⟩):bG (4:) A (Builtin.«object.__getattribute__» ⟨[.ref a,.str "__class__" tk],[]⟩) Q E ⟨h,g,d,t,os⟩:=by
 have e:=uI (M:=aT prog w) z J;have c:=looks_findIn (M:=aT prog w) X I.cl;have b:(⟨h,g,d,t,os⟩:aW).TypeIs (.builtin "object.__class__") "getset_descriptor":=F.typeOf_object_class;have j:=F.typeOf_object_class;have i:=F.slot_gs_get.lookup;have f:=F.slot_gs_set.lookup
 repeat (any_goals (first|assumption|with_reducible refine e.at ?_|with_reducible refine c.at ?_|wp_step))
 refine LD X z J I ?_
 repeat (any_goals (first|assumption|wp_step))
def x_call{tk:Tok}{R:Result->aW->Prop}(X:K.In h)(z:h.get? a=aa o)(J:o.cls=.ref C)(I:XIn K C)(U:R (.ok$ .ret$ .ref C) ⟨h,g,d,t,os⟩):gA (4:) A (.call (.builtin "BaseException.__getattribute__") ⟨[.ref a,.str "__class__" tk],[]⟩) R ⟨h,g,d,t,os⟩:=
 nU F.attr_ValueError.ga.plain F.entry_bexc_ga (PJ X z J I$ x_entry X z J I U)
def x_by{tk:Tok}{fill z:Bool}{Q:Value->aW->Prop}(X:K.In h)(J:h.get? a=aa o)(U:o.cls=.ref C)(I:XIn K C)(Y:Q (.ref C) ⟨h,g,d,t,os⟩):bG (4:) A (getAttrBy (.ref a) (.str "__class__" tk) fill z) Q E ⟨h,g,d,t,os⟩:=by
 have j:=uI (M:=aT prog w) J U;have i:=looks_findIn (M:=aT prog w) X I.ga;have f:=looks_findIn (M:=aT prog w) X I.gt;have k:=F.attr_ValueError.ga.bind$ .ref a;have e:(z&&onTheHeap (Value.builtin "BaseException.__getattribute__"))=ag:=by cases z<;>rfl
 have b:(Value.builtin "BaseException.__getattribute__"==Value.builtin "object.__getattribute__")=ag:=by decide +kernel
 have c:(onTheHeap (Value.ref C)&&Value.builtin "BaseException.__getattribute__"==Value.builtin "object.__getattribute__")=ag:=by rw[b];rfl
 repeat (any_goals (first|assumption|with_reducible refine j.at ?_|with_reducible refine i.at ?_|with_reducible refine f.at ?_|wp_step))
 refine x_call X J U I ?_
 repeat (any_goals (first|assumption|wp_step))
def x_attr{Q:Option Value->aW->Prop}(X:K.In h)(z:h.get? a=aa o)(J:o.cls=.ref C)(I:XIn K C)(U:Q (aa$ .ref C) ⟨h,g,d,t+1,os⟩):bG (4:) A (getAttr? (.ref a) "__class__") Q E ⟨h,g,d,t,os⟩:=by
 unfold getAttr? getAttrBy?
 repeat (any_goals (first|assumption|with_reducible apply x_by X z J I|wp_step))
def IsX(a C:aF)(h:Heap):Prop:=∃o,h.get? a=aa o/\o.cls=.ref C
def NH(I:XIn K C):KitX K (.ref a) (.ref C) (IsX a C) where
 ty:=λ_ _ _ ⟨o,m,l⟩=>uI m l
 it:=λ_ _ X _=>by
  have c:=I.ob;unfold mroIn at c;obtain⟨cd,b,c⟩:=bnd c;unfold rW at b;split at b
  . rename_i x v r f j;intro G D F y k q;unfold isType loadHead;exact aC$ wpAny_loadPart (k _ _$ X _ _ j)$ aO q
  . cases b
 ne:=λh tp B u n sl X i=>by
  have c:=I.ob;unfold mroIn at c;obtain⟨cd,b,c⟩:=bnd c;refine oP.mpr λq=>?_;have e:C=tp:=Value.ref.inj$ beq_iff_eq.mp q;subst e;unfold rW at b;split at b
  . rename_i x v r f j;have z:=(X _ _ j).symm.trans i;cases z
  . cases b
 ca:=λ{prog w A E Q s} X p k=>by obtain⟨o,m,l⟩:=p;obtain⟨h,g,d,t,os⟩:=s;exact x_attr X m l I k
end
def EC(o:Obj)(f:Array Value->Array Value):(Obj.mapFields f o).dict=o.dict:=by unfold Obj.mapFields;split<;>rfl
def Fl2(B:Heap)(l:List Env)(e:aF)(cls:Value)(a0:Value×Option aF)(fl:Value)(h:Heap):Prop:=B.StaysIn h/\B.get? e=ac/\h.FunFrames B l ∧
 ∃b a T oT c,h.get? e=aa b/\((b.cls=cls/\b.dict=a0.2)/\a[0]?=aa a0.1/\a[2]?=aa .none)/\b.data=.fields a/\a[1]?=aa (.ref T)/\B.get? T=ac/\T≠e/\h.get? T=aa oT/\oT.data=.fields c/\c[3]?=aa fl
section
variable{M:Model}{A:dF}{E:Value->aW->Prop}{s:aW}{B:Heap}{l outer:List Env}{env:Env}{e L:aF}{cls fl:Value}{a0:Value×Option aF}{oe:Obj}{vs:Array Value}{Q:Unit->aW->Prop}
def set2{v:Option aF}(R:Fl2 B l e cls a0 fl s.heap)(h:∀h',Fl2 B l e cls a0 (v.elim .none λf=>hX f) h'->s.heap.UpToSlots h'->Q () {s with heap:=h'}):bG M A (setFlight (.ref e) v) Q E s:=by
 obtain⟨y,x,w,F,i,T,oT,u,q,D,p,n,m,k,j,d,C⟩:=R;have t:3<u.size:=(nX.mp C).1;have g:∀b,b≠T->(s.heap.update T (Obj.mapFields (·.setIfInBounds 3 (v.elim .none λf=>hX f)))).get? b=s.heap.get? b:=λb a=>bN _ _$ Ne.symm a;have r:∀b o,s.heap.get? b=aa o->(∀i,o.data≠.fields i)->b≠T:=λb o a c z=>by rw[z,j]at a;cases a;exact c _ d
 unfold setFlight;refine aC$ IU q p n ?_;rw[if_pos$ by simp];refine fX j d t$ h _ ⟨λb o a=>(g b λz=>?_).trans$ y b o a,x,w.of_keeps λb o a c=>⟨o,(g b$ r b o a c).trans a,rfl⟩,?_⟩ λb o a c=>⟨o.slots,(g b$ r b o a c).trans a⟩
 . rw[z,m]at a;cases a
 . exact⟨F,i,T,_,_,(g e$ Ne.symm k).trans q,D,p,n,m,k,dE _ j$ Obj.isFreed_of_fields$ Obj.data_mapFields d _,Obj.data_mapFields d _,by simp[t]⟩
def aHg{J:Value}{had:Bool}(hfr:A.frames=aa (env::outer))(Y:s.heap.FunFrames B (env::outer))(hf:env.frame=aa L)(he:s.heap.get? e=aa oe)(hk:B.StaysIn s.heap)(hn:B.get? e=ac)(hd:oe.data=.fields vs)(U:(oe.cls=cls/\oe.dict=a0.2)/\vs[0]?=aa a0.1/\vs[2]?=aa .none)(h:∀h',Fl2 B (env::outer) e cls a0 (hX L) h'->s.heap.UpToSlots h'->Q () {s with heap:=h'}):bG M A (do let a <- frameOf env;let pl <- entryPlaceOf L had;let b <- EntryCells.newEntry J a .none (hX L) .none pl;tU (.ref e) 1 b) Q E s:=by
 have ne:e∉(env::outer).filterMap (·.frame):=λj=>by obtain⟨_,o,p,c⟩:=Y.mem j;rw[he]at p;cases p;exact c vs hd
 have d:1<vs.size:=by have:=(nX.mp U.2.2).1;omega
 refine aC$ wpAny_frameOf_fun hfr Y hf λh1 g=>aC$ wpAny_entryPlaceOf λpl f=>?_;unfold EntryCells.newEntry newFields;refine aC$ iP ?_$ f.sizeOk5 _ _ _ _ _;have k:h1.get? e=aa oe:=(g.2.1 e ne).trans he;have n:B.StaysIn h1:=λb o q=>(g.2.1 b λj=>by rw[(Y.mem j).1]at q;cases q).trans$ hk b o q;have l:h1.objs.size≠e:=pU$ bA k;have i:∀(O:Obj) b o,b≠e->h1.get? b=aa o->((h1.push O).update e (Obj.mapFields (·.setIfInBounds 1 (Value.ref h1.objs.size)))).get? b=aa o:=λO b o t q=>(bN _ _$ Ne.symm t).trans$ aD _ q;have m:∀b o,s.heap.get? b=aa o->(∀vs,o.data≠.fields vs)->b≠e:=λb o q c z=>by rw[z,he]at q;cases q;exact c vs hd
 have r:=Obj.data_mapFields hd (·.setIfInBounds 1 (Value.ref h1.objs.size));refine fX (aD _ k) hd d (h _ ⟨λb o q=>i _ b o (λz=>by rw[z,hn]at q;cases q)$ n b o q,hn,Y.of_keeps λb o q c=>?_,?_⟩ λb o q c=>?_)
 . obtain⟨sl,z⟩:=g.2.2 b o q;exact⟨_,i _ b _ (m b o q c) z,rfl⟩
 . refine ⟨_,_,h1.objs.size,_,_,dE _ (aD _ k) (Obj.isFreed_of_fields r),⟨⟨(Obj.cls_mapFields _ _).trans U.1.1,(EC _ _).trans U.1.2⟩,?_,?_⟩,r,by simp [d],n.fresh,l,(bN _ _ (Ne.symm l)).trans (aN _ rfl),rfl,by first|(simp;done)|(rcases f with rfl|⟨_,_,_,_,_,_,_,rfl⟩ <;> simp)⟩
   . rw[uH$ by decide];exact U.2.1
   . rw[uH$ by decide];exact U.2.2
 . obtain⟨sl,z⟩:=g.2.2 b o q;exact⟨sl,i _ b _ (m b o q c) z⟩
def note2(J:A.frames=aa (env::outer))(U:env.frame=aa L)(R:Fl2 B (env::outer) e cls a0 .none s.heap)(h:∀h',Fl2 B (env::outer) e cls a0 (hX L) h'->s.heap.UpToSlots h'->Q () {s with heap:=h'}):bG M A (uC (.ref e) env) Q E s:=by
 obtain⟨r,q,p,C,j,T,oT,y,m,x,l,w,v,t,i,g,k⟩:=R;have d:∀b,b≠T->(s.heap.update T (Obj.mapFields (·.setIfInBounds 3 Value.none))).get? b=s.heap.get? b:=λb a=>bN _ _$ Ne.symm a;have n:∀b o,s.heap.get? b=aa o->(∀j,o.data≠.fields j)->b≠T:=λb o a c z=>by rw[z,i]at a;cases a;exact c _ g
 unfold uC;simp only[U];refine aC$ IU m l w ?_;rw[if_pos$ by simp];refine aC$ IU i g k ?_;rw[if_neg$ by simp[hX]];refine aC$ fX i g (nX.mp k).1 ?_;exact aHg J (p.of_keeps λb o a c=>⟨o,(d b$ n b o a c).trans a,rfl⟩) U ((d e$ Ne.symm t).trans m) (λb o a=>(d b λz=>by rw[z,v]at a;cases a).trans$ r b o a) q l x λh' f u=>h h' f λb o a c=>u b o ((d b$ n b o a c).trans a) c
def Fl2.tail(R:Fl2 B (env::outer) e cls a0 fl s.heap):Fl2 B outer e cls a0 fl s.heap:=let ⟨d,c,⟨_,_,b⟩,a⟩:=R;⟨d,c,b,a⟩
def made2{h:Heap}{args:List Value}(J:A.frames=aa (env::outer))(Y:env.frame=aa L)(U:B.StaysIn h)(hl:h.FunFrames B (env::outer))(z:Heap.MadeExcOf h s.heap e cls args)(hQ:∀h' t,Fl2 B outer e cls (.ref t,ac) .none h'->s.heap.UpToSlots h'->Q () {s with heap:=h'}):bG M A (leaving env$ .ref e) Q E s:=by
 obtain⟨t,c,_,_⟩:=z.there;have l:B.get? e=ac:=by
  cases q:B.get? e with
  |none=>rfl
  |some o=>have:=U e o q;rw[z.new]at this;cases this
 unfold leaving uC;simp only[Y];refine aC$ aC$ IU c rfl (x:=Value.none) rfl ?_;rw[if_neg$ by decide];refine aHg (a0:=(.ref t,ac)) J (hl.of_keeps λb o a _=>⟨o,z.keeps b o a,rfl⟩) Y c (λb o a=>z.keeps b o$ U b o a) l rfl ⟨⟨rfl,rfl⟩,rfl,rfl⟩ λn r f=>set2 (s:={s with heap:=n}) r λm p d=>hQ m t ?_$ f.trans d;obtain⟨k,j,⟨_,_,i⟩,g⟩:=p;exact⟨k,j,i,g⟩
end
def HdA(A:dF)(H:Hp):Prop:=∃c b u a,A.handled=aa (.ref c)/\H c=aa (.frz b u)/\b.data=.fields a/\a[2]?=aa .none
def HdP(X:Cx):Prop:=HdA X.A X.H₀
open PySem.W (hideAll hideAll_get of_hideAll hideAll_none funFrames_hide excIn tail_of_in nsMap_none_of_in isNs_of_in)
def obj_get{P:bW}{w:cT}{H:Hp}{h:Heap}{a:aF}{o:HO}(x:ObjOk P w H h a o):∃u,h.get? a=aa u:=by
 cases o with
 |lst xs=>obtain⟨_,_,_,_,e⟩:=x;exact⟨_,e⟩
 |tup xs=>obtain⟨_,_,_,_,e,_⟩:=x;exact⟨_,e⟩
 |dK b=>obtain⟨_,_,_,_,o,_,_,e,_⟩:=x;exact⟨_,e⟩
 |dT b=>obtain⟨_,_,_,_,o,_,_,e,_⟩:=x;exact⟨_,e⟩
 |set S n=>obtain⟨o,_,_,_,e,_⟩:=x;exact⟨_,e⟩
 |ins C g fs=>obtain⟨_,_,_,e,_⟩:=x;exact⟨_,e⟩
 |own y=>obtain⟨_,e⟩:=x;exact⟨_,e⟩
 |xd fs=>obtain⟨_,⟨_,_,_,e,_⟩,_⟩:=x;exact⟨_,e⟩
 |rng lo hi=>obtain⟨_,_,_,e⟩:=x;exact⟨_,e⟩
 |frz ob u=>obtain⟨e,_⟩:=x;exact⟨_,e⟩
 |tbl d=>obtain⟨_,e,_⟩:=x;exact⟨_,e⟩
 |met f y=>exact⟨_,(show h.get? a=aa _ from x)⟩
 |ext c=>obtain⟨_,⟨_,e⟩,_⟩:=x;exact⟨_,e⟩
structure Thrown(P:bW)(w:cT)(outer:List Env)(H:Hp)(s:aW)(cls:Value)(ea:aF)(a0:Value×Option aF)(B:Heap)(H':Hp)(h:Heap):Prop where
 fly:Fl2 B outer ea cls a0 .none h
 keep:∀b o,s.heap.get? b=some o->H b=none->b∉frs outer->B.get? b=some o
 there:∀b o,s.heap.get? b=some o->b∉frs outer->∃o',B.get? b=some o'
 slot:∀b o,s.heap.get? b=some o->b∈frs outer->∃sl,h.get? b=some {o with slots:=sl}
 free:∀b o,s.heap.get? b=some o->H b=none->H' b=none
 tups:∀b xs,H b=some (.tup xs)->H' b=some (.tup xs)
 frzs:∀b o u,H b=some (.frz o u)->H' b=some (.frz o u)
 tbls:∀b ps,H b=some (.tbl ps)->H' b=some (.tbl ps)
 hok:L2.HOk P w H' B
section
variable{P:bW}{w:cT}{outer:List Env}{H H':Hp}{s:aW}{cls:Value}{a0:Value×Option aF}{ea:aF}{B h h':Heap}
def Thrown.un(t:Thrown P w outer H s cls ea a0 B H' h):Un (frs outer) [] H H' s.heap h where
 keep:=λb o e n a _=>t.fly.1 b o (t.keep b o e n a)
 slot:=λb o e n a _=>t.slot b o e a
 free:=λb o e n _=>t.free b o e n
 there:=λb o e _=>by
  by_cases a:b∈frs outer
  . obtain⟨sl,q⟩:=t.slot b o e a;exact⟨_,q⟩
  . obtain⟨c,q⟩:=t.there b o e a;exact⟨c,t.fly.1 b c q⟩
 tups:=t.tups
 frzs:=t.frzs
 tbls:=t.tbls
def Thrown.hokh(t:Thrown P w outer H s cls ea a0 B H' h):L2.HOk P w H' h:=t.hok.kept t.fly.1
def Thrown.on(t:Thrown P w outer H s cls ea a0 B H' h)(f:Fl2 B outer ea cls a0 .none h')(u:h.UpToSlots h'):Thrown P w outer H s cls ea a0 B H' h' where
 fly:=f
 keep:=t.keep
 there:=t.there
 slot:=λb o e d=>by obtain⟨sl,q⟩:=t.slot b o e d;obtain⟨_,ob,c,hd⟩:=t.fly.2.2.1.mem d;rw[q]at c;cases c;obtain⟨a,g⟩:=u b _ q hd;exact⟨a,g⟩
 free:=t.free
 tups:=t.tups
 frzs:=t.frzs
 tbls:=t.tbls
 hok:=t.hok
def Thrown.no(t:Thrown P w outer H s cls ea a0 B H' h):H' ea=ac:=by
 cases q:H' ea with
 |none=>rfl
 |some u=>obtain⟨o,e⟩:=obj_get$ t.hok _ _ q;rw[t.fly.2.1]at e;cases e
end
def RP{P:bW}{w:cT}{H:Hp}{h:Heap}(x:L2.HOk P w H h)(l:List aF)(J:∀b∈l,H b=ac):L2.HOk P w H (hideAll h l):=λa o e =>
 (x a o e).stay (λb u c q=>hideAll_get _ q λz=>by
   rcases c with rfl|c
   . rw[J _ z]at e;cases e
   . rw[J _ z]at c;cases c) (λ_ q=>q) λ_ _ q=>q
noncomputable def CXM(P:bW)(w:cT):CXT:=λouter H s E e s'=>∃ea cls a0 B H',e=.ref ea/\s'.os=s.os/\mP s'.gens/\Thrown P w outer H s cls ea a0 B H' s'.heap/\E cls a0.2 H'
def XeOk(X:Cx)(C:aF)(σ:L2.St)(H:Hp):Prop:=∀(aE:List (aF×Obj)) (s:aW) (h':Heap) (e:aF) (as:List Value),Inv X aE σ H s->Heap.MadeExcOf s.heap h' e (.ref C) as->X.xe (.ref e) {s with heap:=h'}
def aCd{P:bW}{w:cT}{K:Frag}{mg:Str->Option Value}{base:Heap}{N:List Str}{qual:Str}{scope:Scope}{f C:aF}{cd:Value}{A:dF}{outer:List Env}{s:aW}{H H':Hp}{E:XK}{σ:L2.St}(J:E (.ref C) ac H'):XeOk (cxOf (CXM P w) P w K mg base N qual scope f cd A outer s H E) C σ H':=by
 intro D k v e y I l;have j:frs (iM qual scope s.heap.objs.size f cd::outer)=s.heap.objs.size::frs outer:=rfl;have nm:∀b o,s.heap.get? b=aa o->b∉frs outer->b∉frs (iM qual scope s.heap.objs.size f cd::outer):=λb o q n z=>by
  rw[j]at z;rcases aA.mp z with z|z
  . exact absurd (bA q) (by rw[z];exact cM _)
  . exact n z
 show bG _ _ (leaving _ _) _ _ _;refine made2 (B:=hideAll k.heap$ frs$ iM qual scope s.heap.objs.size f cd::outer) (h:=k.heap) I.ok.frames rfl (λb o q=>of_hideAll _ q) (funFrames_hide I.stack λenv u b a=>oA.mpr ⟨env,u,a⟩) l λx t x1 m=>?_;refine⟨e,.ref C,(.ref t,ac),_,H',rfl,I.os,I.bare,⟨x1,λb o q n a=>?_,λb o q a=>?_,λb o q a=>?_,λb o q n=>I.base.free b o q n (by intro z;cases z),I.base.tups,I.base.frzs,I.base.tbls,?_⟩,J⟩
 . exact hideAll_get _ (I.base.keep b o q n a$ by intro z;cases z)$ nm b o q a
 . obtain⟨p,i⟩:=I.base.there b o q (by intro z;cases z);exact⟨p,hideAll_get _ i$ nm b o q a⟩
 . obtain⟨sl,i⟩:=I.base.slot b o q (I.ok.frf b a) a (by intro z;cases z);obtain⟨_,ob,r,hd⟩:=I.ok.funs.mem a;have c:s.heap.get? b=aa ob:=r;rw[q]at c;cases c;obtain⟨d,g⟩:=m b _ (l.keeps _ _ i) hd;exact⟨d,g⟩
 . exact RP I.hok _ I.stkFree
abbrev bmVE:List Value:=[.type "ValueError",.type "Exception",.type "BaseException",.type "object"]
structure XCls(K:Frag)(C:aF):Prop where
 exc:excIn K C bmVE "ValueError.__new__"=true
 xin:XIn K C
def xcls_at{K:Frag}{h:Heap}{C:aF}{bmB:List Value}{newId:String}(X:K.In h)(q:excIn K C bmB newId=ae):∃bm N nm z bs hdct sn sub ab col dd k0 k1 k2 k3 k5 mN,h.get? C=aa (excClassObj nm z C N bs bm hdct sn sub ab col dd k0 k1 k2 k3 k5 newId)/\h.Ns N mN/\mN "__init__"=ac/\OwnTail h bmB bm:=by
 unfold excIn at q;split at q
 . rename_i dd cd sl i;split at q
   . rename_i k bm k0 k1 k2 k3 n k5 e d;simp only [bY,beq_iff_eq,uG]at q;obtain ⟨⟨⟨⟨⟨rfl,rfl⟩,a⟩,g⟩,hok⟩,b⟩:=q;obtain ⟨nm,bs,f,ns,z,hd,sn,sub,ab,col,j⟩:=cd;dsimp only at e a hok b;subst e a;have c:sl=#[k0,k1,k2,k3,aa (.builtin n),k5]:=by obtain⟨l⟩:=sl;simp only at d;rw[d]
     subst c;exact⟨bm,ns,nm,z,bs,hd,sn,sub,ab,col,dd,k0,k1,k2,k3,k5,_,X _ _ i,.of_isNs$ isNs_of_in X hok,nsMap_none_of_in X hok b,tail_of_in X g⟩
   . cases q
 . cases q
def tRaise(X:Cx)(C:aF):TS:=λ_ a H=>XeOk X C a H
def aDy{C:aF}{x z:Str}{j:Nat}{np Y U pos:Pos}(hC:XCls X.K C)(hm:X.mg x=aa (.ref C))(J:X.calm=ae)(hg:Gl X x:=by rfl)(hdb:(2:)=ag:=by decide)(he:aG [.Constant (.str z) j Y] X.env=[(ag,cA (.Constant (.str z) j Y) X.env)]:=by rfl):PS X (.Raise (aa$ .Call (.Name x np) [.Constant (.str z) j Y] [] U) ac pos) (tRaise X C):=by intro m s o H D I h;obtain⟨bm,N,nm,c,bs,hdct,sn,sub,ab,col,dd,k0,k1,k2,k3,k5,mN,i,g,f,b⟩:=xcls_at I.kIn hC.exc;have a:bm.contains (.type "BaseException")=ae:=b.hasType (3:);refine wpAny_Raise_call_subU (C:=C) (mN:=mN) (N:=N) (nm:=nm) (q:=c) (bs:=bs) (bm:=bm) (hdct:=hdct) (sn:=sn) (sub:=sub) (ab:=ab) (col:=col) (dd:=dd) (k0:=k0) (k1:=k1) (k2:=k2) (k3:=k3) (k5:=k5) F.excBase_ValueError (3:) F.excBase_ValueError a (I.ok.hd J) (by rw[he];rfl) f$ wN I hg hm ⟨rfl,?_⟩ hdb;rw[he];show bG _ _ (evalArgs _ ae ((ag,cA (.Constant (.str z) j Y) X.env)::[]) []) _ _ s;refine Calls.evalArgs_plain$ Calls.spliced_cons ?_;refine Calls.Constant_str (k:=j) (pos:=Y)$ Calls.spliced_nil ?_;have n:=I.tok$ s.toks+1;refine⟨rfl,by show 1<=sizeLine;decide,i,g,b,λl e d=>?_⟩;exact h m _ l e _ n d
section
variable(X:Cx)(C:aF)
def PSx(st:Stmt)(x:List Sl->Bool):Prop:=∃t,PS X st t/\∀H₀ H O b c hd E,Ok X.K H₀ H O b c hd->x c=ae->(∀a d,Same H₀ d->XeOk X C a d)->t E b H
end
section
variable{C:aF}
def YG{x z:Str}{j:Nat}{np cp U pos:Pos}(hC:XCls X.K C)(hm:X.mg x=aa (.ref C))(J:X.calm=ae:=by rfl)(hg:Gl X x:=by rfl)(Y:(2:)=ag:=by decide)(he:aG [.Constant (.str z) j cp] X.env=[(ag,cA (.Constant (.str z) j cp) X.env)]:=by rfl):PSx X C (.Raise (aa$ .Call (.Name x np) [.Constant (.str z) j cp] [] U) ac pos) WN:=
 ⟨_,aDy hC hm J hg Y he,λH₀ H O a b hd E o _ h=>h a H o.same⟩
end
noncomputable def spX(K:Frag)(n:Nat)(R:List D->Bool)(C:aF):Sp:=λvs H _ E=>vs.length=n/\∃ds,Reps K H qS vs ds/\R ds=ae/\∀H',Same H H'->E (.ref C) ac H'
open PySem.W (Looks looks_mroIn mroIn)
abbrev hG(X:Cx)(ea:aF)(xe:Value->aW->Prop)(z:Hp:=X.H₀):Cx:={X with A:=X.A.mark$ aa$ .ref ea,calm:=ag,H₀:=z,xe:=xe}
def ZS(I:Inv X aE σ H s):Inv (hG X ea xe) aE σ H s:=by have ok:=I.ok;exact⟨⟨ok.mod,ok.kind,ok.glob,ok.blt,ok.above,ok.inj,ok.has,ok.cab,(λz=>by cases z),ok.frames,ok.stk,ok.exf,ok.bs,ok.bsz,ok.noex,ok.exfs,ok.funs,ok.frf⟩,I.os,I.bare,I.base,I.loc,I.cell,I.free,I.freeC,I.pin,I.hok,I.len⟩
def RO(I:Inv X aE σ H s)(U:H ea=aa (.frz oe u))(Y:X.s₀.heap.get? ea=ac)(J:∀q,X.H₀ ea≠aa (.tbl q))(nf:ea∉X.fs):Inv (hG X ea xe$ upd X.H₀ ea$ .frz oe u) aE σ H s:=by
 have ok:=I.ok;have d:∀{b:aF}{o:Obj},X.s₀.heap.get? b=aa o->b≠ea:=λe z=>by rw[z,Y]at e;cases e
 refine⟨⟨ok.mod,ok.kind,ok.glob,ok.blt,ok.above,ok.inj,ok.has,ok.cab,(λz=>by cases z),ok.frames,ok.stk,ok.exf,λb o e=>?_,⟨ok.bsz.1,ok.bsz.2.bm,λx c P g f=>?_⟩,ok.noex,ok.exfs,ok.funs,λb a=>?_⟩,I.os,I.bare,⟨λb o e n=>?_,λb o e n=>?_,λb o e n=>?_,I.base.there,λb xs e=>?_,λb o u e=>?_,λb q e=>?_⟩,I.loc,I.cell,I.free,I.freeC,I.pin,I.hok,I.len⟩
 . have:=ok.bs b o e;exact⟨this.1,(upd_ne$ d this.1).trans this.2⟩
 . have:=ok.bsz.2.tab x c P g f;exact⟨this.1,(upd_ne λz:P=ea=>J _$ z▸this.2).trans this.2⟩
 . exact(upd_ne λz:b=ea=>nf$ z▸a).trans (ok.frf b a)
 . exact I.base.keep b o e$ (upd_ne$ d e).symm.trans n
 . exact I.base.slot b o e$ (upd_ne$ d e).symm.trans n
 . exact I.base.free b o e$ (upd_ne$ d e).symm.trans n
 . by_cases a:b=ea
   . subst a;cases(bP).symm.trans e
   . exact I.base.tups b xs$ (upd_ne a).symm.trans e
 . by_cases a:b=ea
   . subst a;cases bP.symm.trans e;exact U
   . exact I.base.frzs b o _$ (upd_ne a).symm.trans e
 . by_cases a:b=ea
   . subst a;cases(bP).symm.trans e
   . exact I.base.tbls b q$ (upd_ne a).symm.trans e
def JX(J:Inv X pins0 σ0 U s0)(Y:U ea=ac)(h0:X.s₀.heap.get? ea=ac)(I:Inv (hG X ea xe$ upd X.H₀ ea$ .frz oe u) aE σ H s):Inv X aE σ H s:=by
 have a:∀{b:aF}{o:Obj},X.s₀.heap.get? b=aa o->b≠ea:=λe z=>by rw[z,h0]at e;cases e
 have ne:∀{b:aF}{v:HO},U b=aa v->b≠ea:=λe z=>by rw[z,Y]at e;cases e
 refine⟨J.ok,I.os,I.bare,⟨λb o e n=>I.base.keep b o e ?_,λb o e n=>I.base.slot b o e ?_,λb o e n=>I.base.free b o e ?_,I.base.there,λb xs e=>I.base.tups b xs ?_,λb o u e=>I.base.frzs b o u ?_,λb q e=>I.base.tbls b q ?_⟩,I.loc,I.cell,I.free,I.freeC,I.pin,I.hok,I.len⟩
 . exact(upd_ne$ a e).trans n
 . exact(upd_ne$ a e).trans n
 . exact(upd_ne$ a e).trans n
 . exact(upd_ne$ ne$ J.base.tups b xs e).trans e
 . exact(upd_ne$ ne$ J.base.frzs b o u e).trans e
 . exact(upd_ne$ ne$ J.base.tbls b q e).trans e
def ZR(I:Inv X aE σ H s)(U:H ea=ac)(h1:s.heap.get? ea=aa oe)(h3:ea≠X.env.locals)(h0:X.s₀.heap.get? ea=ac)(Y:∀v,oe.data≠.cell v)(J:∀p∈X.pn++aE,p.1≠ea):Inv X aE σ (upd H ea$ .frz oe$ .own ea) s:=by
 have a:∀b u,H b=aa u->b≠ea:=λb u e z=>by rw[z,U]at e;cases e
 have r:∀b o,X.s₀.heap.get? b=aa o->b≠ea:=λb o e z=>by rw[z,h0]at e;cases e
 refine⟨I.ok,I.os,I.bare,⟨I.base.keep,I.base.slot,λb o e n w=>?_,I.base.there,λb xs e=>?_,λb o u e=>?_,λb m e=>?_⟩,I.loc,I.cell,?_,λx c e=>?_,λp d=>?_,λb u e=>?_,I.len⟩
 . rw[upd_ne$ r b o e];exact I.base.free b o e n w
 . have:=I.base.tups b xs e;rw[upd_ne$ a b _ this];exact this
 . have:=I.base.frzs b o u e;rw[upd_ne$ a b _ this];exact this
 . have:=I.base.tbls b m e;rw[upd_ne$ a b _ this];exact this
 . rw[upd_ne$ Ne.symm h3];exact I.free
 . have t:c≠ea:=by
    intro z;obtain⟨v,o,f,hd⟩:=I.cell x c e;rw[z,h1]at f;cases f;exact Y v hd
   have:=I.freeC x c e;unfold FreeC at this ⊢;rw[upd_ne t];exact this
 . obtain⟨l,k,j,i,h⟩:=I.pin p d;exact⟨l,by rw[upd_ne$ J p d];exact k,j,i,h⟩
 . by_cases g:b=ea
   . subst g;rw[bP]at e;cases e;exact⟨h1,oe,h1⟩
   . rw[upd_ne g]at e;exact(I.hok b u e).stay (λ_ _ _ q=>q) (λc q=>by rw[upd_ne$ a c _ q];exact q) λc xs q=>by rw[upd_ne$ a c _ q];exact q
def aGi(I:Inv X aE σ H s)(hN:X.N.Nodup)(hi:X.N[i]?=aa x)(hn:s.heap.Ns X.env.locals m)(Y:∀(i:Nat) x v,X.N[i]?=aa x->σ[i]?=aa (aa v)->Vis X.env.scope x->∃u,RelV v u/\Look X.env s.heap m x u)(U:h'.Ns X.env.locals (λy=>if y=x then v else m y))(J:Heap.SameBut X.env.locals s.heap h'):Inv X aE (σ.set i ac) H {s with heap:=h',toks:=t'}:=by
 have cne:=I.cne;refine⟨I.ok,I.os,I.bare,⟨λb o e n w g=>?_,λb o e n w g=>?_,I.base.free,λb o e g=>?_,I.base.tups,I.base.frzs,I.base.tbls⟩,⟨_,U,λj y B f r G=>?_⟩,λy c e=>?_,I.free,I.freeC,λp F=>?_,λb ob e=>?_,by simpa using I.len⟩
 . exact(J.2 b$ bJ$ bM (bA e) I.ok.above).trans (I.base.keep b o e n w g)
 . obtain⟨sl,f⟩:=I.base.slot b o e n w g;exact⟨sl,(J.2 b$ bJ$ bM (bA e) I.ok.above).trans f⟩
 . obtain⟨E,f⟩:=I.base.there b o e g;exact⟨E,(J.2 b$ bJ$ bM (bA e) I.ok.above).trans f⟩
 . by_cases t:j=i
   . subst t;have h:j < σ.length:=by rw [I.len];exact (bC.mp hi).1
     rw[aU h]at r;cases r
   . rw [aB (Ne.symm t)]at r;obtain ⟨C,D,q⟩:=Y j y B f r G;refine ⟨C,D,?_⟩;rcases q with ⟨k,e⟩|⟨k,c,e,z⟩
     . refine .inl ⟨k,?_⟩;have:y≠x:=λe=>t$ DA hN f$ e▸hi;simp[this,e]
     . exact .inr ⟨k,c,e,z.sameBut J$ cne y c e⟩
 . obtain⟨A,z⟩:=I.cell y c e;exact⟨A,z.sameBut J$ cne y c e⟩
 . obtain⟨e,n,ne,nf,d⟩:=I.pin p F;exact⟨(J.2 p.1 ne).trans e,n,ne,nf,d⟩
 . refine (I.hok b ob e).stay (λc A l q=>(J.2 c ?_).trans q) (λ_ q=>q) λ_ _ q=>q;rintro rfl;have a:=I.free;rcases l with rfl|l
   . rw[a]at e;cases e
   . rw[a]at l;cases l
def Ok.setNo{K:Frag}(o:Ok K H₀ H O σ ds hd) i v:Ok K H₀ H O (σ.set i v) (ds.set i .no) hd:=by
 have d:∀{j:Nat},IsOwn (ds.set i .no) j->j≠i/\IsOwn ds j:=λ{j} ⟨l,e⟩=>by
  by_cases c:j=i
  . subst c;by_cases g:j<ds.length
    . rw[aU g]at e;cases e
    . rw[aX$ by simpa using g]at e;cases e
  . rw[aB$ Ne.symm c]at e;exact⟨c,l,e⟩
 refine⟨o.same,λj l a f h=>?_,o.dom,by simpa using o.len,λj s e=>?_,λj k a n c y f h=>?_,o.hold,o.obs.tr (λ_ _ _ r _=>r) (λj r t e=>by
  obtain⟨f,c⟩:=xN (λr t=>by intro z;cases z) e
  exact⟨f,by rw[aB$ Ne.symm c]⟩) (λj b u q=>by
  obtain⟨w,c⟩:=xV (λl=>by intro z;cases z) u;rw[aB$ Ne.symm c]at q
  exact .inl ⟨w,q⟩)⟩
 . obtain⟨m,p⟩:=d ⟨l,f⟩;rw[aB$ Ne.symm m]at f h;exact o.fresh j l a f h
 . by_cases c:j=i
   . subst c;by_cases g:j<ds.length
     . rw[aU g]at e;cases e;exact jC
     . rw[aX$ by simpa using g]at e;cases e
   . rw[aB$ Ne.symm c]at e;rw[aB$ Ne.symm c];exact o.sl j s e
 . obtain⟨m,p⟩:=d c;obtain⟨x,A⟩:=d y;rw[aB$ Ne.symm m]at f;rw[aB$ Ne.symm x]at h;exact o.apart j k a n p A f h
def Ok.setX{K:Frag}(o:Ok K H₀ H O σ ds hd)(h1:aH K mainGlobals (xName t)=aa (aa$ .ref C))(h2:H a=aa (.frz ob u))(J:ob.cls=.ref C):Ok K H₀ H O (σ.set i$ aa$ .ref a) (ds.set i$ .exc t) hd:=by
 have d:∀{j:Nat},IsOwn (ds.set i$ .exc t) j->j≠i/\IsOwn ds j:=λ{j} ⟨l,e⟩=>by
  by_cases c:j=i
  . subst c;by_cases g:j<ds.length
    . rw[aU g]at e;cases e
    . rw[aX$ by simpa using g]at e;cases e
  . rw[aB$ Ne.symm c]at e;exact⟨c,l,e⟩
 refine⟨o.same,λj l a f h=>?_,o.dom,by simpa using o.len,λj s e=>?_,λj k a n c x f h=>?_,o.hold,o.obs.tr (λ_ _ _ r _=>r) (λj r t e=>by
  obtain⟨f,c⟩:=xN (λr t=>by intro z;cases z) e
  exact⟨f,by rw[aB$ Ne.symm c]⟩) (λj b q p=>by
  obtain⟨v,c⟩:=xV (λl=>by intro z;cases z) q;rw[aB$ Ne.symm c]at p
  exact .inl ⟨v,p⟩)⟩
 . obtain⟨m,h1⟩:=d ⟨l,f⟩;rw[aB$ Ne.symm m]at f h;exact o.fresh j l a f h
 . by_cases c:j=i
   . subst c;by_cases g:j<ds.length
     . rw[aU g]at e;cases e;rw[aU$ by rw[o.len];exact g];exact⟨C,ob,u,h1,h2,J⟩
     . rw[aX$ by simpa using g]at e;cases e
   . rw[aB$ Ne.symm c]at e;rw[aB$ Ne.symm c];exact o.sl j s e
 . obtain⟨m,h1⟩:=d c;obtain⟨w,h2⟩:=d x;rw[aB$ Ne.symm m]at f;rw[aB$ Ne.symm w]at h;exact o.apart j k a n h1 h2 f h
def SN(X:Cx)(C:aF)(st:Stmt)(x:List Sl->Bool):Prop:=∀(aE:List (aF×Obj)) (s:aW) (σ:L2.St) (H H₀:Hp) (O:aF->Prop) (ds:List Sl) (hd:Hold),Inv X aE σ H s->Ok X.K H₀ H O σ ds hd->x ds=ae →
 (∀d f B b e c a,Inv X aE σ b c->Same H b->Same b e->Thrown X.prog X.w X.stack b c (.ref C) d f B e a.heap->a.os=c.os->mP a.gens->X.xe (.ref d) a)->bG (1:) X.A (exec st X.env) (λ_ _=>False) X.xe s
def MJ(h:PV X e f)(J:eF e ac pos.line X.env=pure ag:=by rfl):PSv X (.Expr e pos) (dropG f):=by
 obtain⟨t,i,j⟩:=h;refine⟨_,kI i J,λH₀ H O b c hd g E o a h=>?_⟩;unfold dropG at a;cases z:f c with
 |none=>rw[z]at a;cases a
 |some d=>rw[z]at a;cases a;exact j H₀ H O b c hd d _ o z λv k s r=>h b k O$ o.mono s
open PySem.W (Looks looks_mroIn mroIn clsIn)
structure XCatch(K:Frag)(C S:aF):Prop where
 kit:nG K (.ref C) (.ref S)=some true
 be:mroIn K S (.type "BaseException")=some true
section
variable{prog:bW}{w:cT}{A:dF}{E:Value->aW->Prop}{h:Heap}{g:Array OY}{d:Drawn}{t:Nat}{os:aBf}{a C S:aF}{o:Obj}{K:Frag}
def XA{M:Model}{Q:Bool->aW->Prop}(X:K.In h)(z:h.get? a=aa o)(Y:o.cls=.ref C)(J:XCatch K C S)(U:Q ae ⟨h,g,d,t,os⟩):bG M A (excMatches (.ref a)$ .ref S) Q E ⟨h,g,d,t,os⟩:=by
 have j:=uI (M:=M) z Y;have i:=looks_mroIn (M:=M) X J.be;obtain⟨c,b,e⟩:=PySem.W.kit_cls (M:=M) X J.kit;have f:=tc_notTuple;unfold excMatches
 repeat (first|with_reducible refine j.at ?_|with_reducible refine i.at ?_|with_reducible refine e.at ?_|with_reducible refine c.at ?_|with_reducible refine b.at ?_|with_reducible refine wpAny_loadPart_at z ?_|wp_step)
 exact U
end
def XX{ea:aF}{H0:Hp}{xe0:Value->aW->Prop}{Y:List Stmt}{h:FS}{aE:List (aF×Obj)}{σ:L2.St}{H H₀:Hp}{O:aF->Prop}{ds:List Sl}{hd:Hold}{U:Out}{D:Ends}{s:aW}(hs:∀xe,PSsv (hG X ea xe H0) Y h)(I:Inv (hG X ea xe0 H0) aE σ H s)(o:Ok X.K H₀ H O σ ds hd)(e:h ds=aa U)(af:After X H₀ hd D U){J:Value->aW->Prop}{POST:Flow->aW->Prop}(hp:∀f s',SP (hG X ea J H0) aE D f s'->POST f s'):bG (1:) (X.A.mark$ aa$ .ref ea) (execs Y X.env) POST J s:=by obtain⟨t,a,b⟩:=hs J;exact dD (a aE s σ H D (I.wish J)$ b H₀ H O σ ds hd U D o e af) hp λ_ _ z=>z
def SM{H₀:Hp}{hd:Hold}{D:Ends}{i:Nat}{out:Out}(z:After X H₀ hd D (goneO i out)):After X H₀ hd {nx:=λσ H=>D.nx (σ.set i ac) H,rt:=D.rt,bk:=λσ H=>D.bk (σ.set i ac) H,ct:=λσ H=>D.ct (σ.set i ac) H} out:=by
 cases out with
 |nx a=>exact λσ H O o=>z _ _ O$ o.setNo i ac
 |bk a=>exact λσ H O o=>z _ _ O$ o.setNo i ac
 |ct a=>exact λσ H O o=>z _ _ O$ o.setNo i ac
 |rt r=>exact z
def II{B h:Heap}{l:List Env}{e:aF}{cls:Value}{a0:Value×Option aF}(f:Fl2 B l e cls a0 .none h):e∉frs l/\∃oe,h.get? e=aa oe/\oe.cls=cls/\(∀v,oe.data≠.cell v)/\∃vs,oe.data=.fields vs/\vs[2]?=aa .none:=by obtain⟨_,_,g,oe,vs,T,oT,i,b,c,hd,_⟩:=f;refine⟨λz=>?_,oe,b,c.1.1,(λv q=>by rw[hd]at q;cases q),vs,hd,c.2.2⟩;obtain⟨_,o,a,d⟩:=g.mem z;rw[b]at a;cases a;exact d vs hd
def tryE(X:Cx)(aE:List (aF×Obj))(D:Ends)(z:List ExceptHandler):Value->aW->Prop:=λe c=>bG (1:) X.A (uC e X.env) (λ_ b=>bG (1:) X.A (setFlight e ac) (λ_ a=>bG (1:) X.A (handleBy e X.env z) (SP X aE D) X.xe a) X.xe b) X.xe c
def XS{st b₀:Stmt}{J:List Stmt}{sx en:Str}{hp Y:Pos}{i t:Nat}{C S:aF}{h:FS}{x:List Sl->Bool}(hN:X.N.Nodup)(hm:X.mg sx=aa (.ref S))(hS:XCatch X.K C S)(hC:aH X.K mainGlobals (xName t)=aa (aa$ .ref C))(hx:∀W,SN (X.wish W) C st x)(hs:∀ea oe xe,HdP (hG X ea xe$ upd X.H₀ ea$ .frz oe$ .own ea)->PSsv (hG X ea xe$ upd X.H₀ ea$ .frz oe$ .own ea) (b₀::J) h)(hi:X.N[i]?=aa en)(hlo:X.env.kindOf en=aa .local)(U:X.stack=X.env::X.outer)(hfr:X.env.frame=aa X.env.locals)(hex:X.ex=[])(hgS:Gl X sx)(hdb:(sx==("__debug__":Str))=ag){aE:List (aF×Obj)}{s:aW}{σ:L2.St}{H H₀:Hp}{O:aF->Prop}{ds:List Sl}{hd:Hold}{D:Ends}{out':Out}(I:Inv X aE σ H s)(o:Ok X.K H₀ H O σ ds hd)(hxd:x ds=ae)(hh:h (ds.set i$ .exc t)=aa out')(af:After X H₀ hd D (goneO i out')):bG (1:) X.A (exec st X.env) (λ_ _=>False) (tryE X aE D [.ExceptHandler (aa$ .Name sx hp) (aa en) (b₀::J) Y]) s:=by
 have hLoc:Loc X.env.scope en:=.inl hlo;have F:∀b,b∈X.env.locals::X.fs->b∈frs X.stack:=λb hb=>by rw[U];unfold frs;rw[gK,hfr];exact hb
 refine hx (tryE X aE D [.ExceptHandler (aa$ .Name sx hp) (aa en) (b₀::J) Y]) aE s σ H H₀ O ds hd (I.wish _) o hxd ?_;intro ea a0 B H1 Z s1 V I1 m1 m2 T os bare;have E:Inv X aE σ H1 s1:=I1.unwish;have T:Thrown X.prog X.w X.stack H1 s1 (.ref C) ea a0 B Z V.heap:=T;show bG _ _ (uC _ _) _ _ _;have hA:X.A.frames=aa (X.env::X.outer):=by rw[<-U];exact I.ok.frames
 refine note2 hA hfr (by rw[<-U];exact T.fly) λh₄ n M=>?_;refine set2 (s:={V with heap:=h₄}) n λl g L=>?_;have T5:=T.on (h':=l) (by rw[U];exact g)$ M.trans L;have I5:Inv X aE σ Z {V with heap:=l}:=E.call' (ch:=[]) os T5.un T5.hokh bare (λb z=>by cases z);obtain⟨ap5,ob,hob,hobc,hobd,_⟩:=II T5.fly;refine wpAny_handleBy_cons (codeAny_handlers_test ?_) (by intro q;cases q);refine wN (X:=hG X ea X.xe) (ZS I5) hgS hm ?_ hdb;refine XA (K:=X.K) I5.kIn hob hobc hS ?_;refine codeAny_handlers_suite_as ?_;refine set2 (s:={V with heap:=l}) g λj w G=>?_;have y:=T5.on (h':=j) (by rw[U];exact w) G;have I6:Inv X aE σ Z {V with heap:=j}:=E.call' (ch:=[]) os y.un y.hokh bare (λb z=>by cases z);obtain⟨N,oe,hoe,hoec,hoed,vs,hvs,hv2⟩:=II y.fly;have nb:∀b o,s1.heap.get? b=aa o->b≠ea:=λb o e z=>by subst z;obtain⟨o',q⟩:=y.there b o e N;rw[y.fly.2.1]at q;cases q
 have h0:X.s₀.heap.get? ea=ac:=by
  cases q:X.s₀.heap.get? ea with
  |none=>rfl
  |some o'=>obtain⟨o'',q'⟩:=E.base.there ea o' q (by rw[hex];intro z;cases z);exact(nb ea o'' q' rfl).elim
 have It:=ZR I6 y.no hoe (λz=>N$ F _$ by rw[z];exact aP) h0 hoed λp hpp=>nb p.1 p.2 (E.pin p hpp).1;have sm:Same Z (upd Z ea$ .frz oe$ .own ea):=λb u e=>by rw[upd_ne λz=>by rw[z,y.no]at e;cases e];exact e
 have Is:Inv (hG X ea X.xe$ upd X.H₀ ea$ .frz oe$ .own ea) aE σ (upd Z ea$ .frz oe$ .own ea) {V with heap:=j}:=RO It bP h0 (λq e=>by have:=I6.base.tbls _ _ e;rw[y.no]at this;cases this) λz=>N$ F _$ aJ _ z;refine vE (X:=hG X ea X.xe$ upd X.H₀ ea$ .frz oe$ .own ea) (i:=i) (v:=.ref ea) Is hN hi hLoc rfl (λs7 I7=>?_) (.inr hlo);refine XX (λxe=>hs ea oe xe ⟨ea,oe,_,vs,rfl,bP,hvs,hv2⟩) I7 ((o.mono$ (m1.trans m2).trans sm).setX hC bP hoec) hh (SM af) λf s8 h8=>?_;have hcls:(X.env.scope.kind==.class||(X.env.scope.kind==.module&&X.env.locals != X.env.globals))=ag:=by rw[I.ok.kind];rfl
 have d:∀xe a c,Inv (hG X ea xe$ upd X.H₀ ea$ .frz oe$ .own ea) aE a c s8->∀Q:Unit->aW->Prop,(∀R,Inv X aE (a.set i ac) c R->Q () R)->bG (1:) X.A (do bindName X.env en .none;unbindBehindTheSuite X.env en Y) Q X.xe s8:=λxe a c A Q k=>by have I8':=JX I6 y.no h0 A;obtain⟨m,hn,hl⟩:=id I8'.loc;exact wpAny_nameGoes_keeps hlo hn hcls λh' v hn' hs'=>k _$ aGi I8' hN hi hn hl hn' hs'
 cases f with
 |next=>obtain⟨a,c,A,q⟩:=h8;exact d _ a c A _ λR P=>⟨_,c,P,q⟩
 |brk=>obtain⟨a,c,A,q⟩:=h8;exact d _ a c A _ λR P=>⟨_,c,P,q⟩
 |cont=>obtain⟨a,c,A,q⟩:=h8;exact d _ a c A _ λR P=>⟨_,c,P,q⟩
 |ret u=>obtain⟨v,a,c,A,r,q⟩:=h8;exact d _ a c A _ λR P=>⟨v,_,c,P,r,q⟩
def psv_try{st U:Stmt}{J:List Stmt}{sx en:Str}{hp Y pos:Pos}{i t:Nat}{C S:aF}{g h:FS}{x:List Sl->Bool}(hN:X.N.Nodup)(hm:X.mg sx=aa (.ref S))(hS:XCatch X.K C S)(hC:aH X.K mainGlobals (xName t)=aa (aa$ .ref C))(hg:∀W,PSv (X.wish W) st g)(hx:∀W,SN (X.wish W) C st x)(hs:∀ea oe xe,HdP (hG X ea xe$ upd X.H₀ ea$ .frz oe$ .own ea)->PSsv (hG X ea xe$ upd X.H₀ ea$ .frz oe$ .own ea) (U::J) h)(hi:X.N[i]?=aa en:=by rfl)(hlo:X.env.kindOf en=aa .local:=by rfl)(hst:X.stack=X.env::X.outer:=by rfl)(hfr:X.env.frame=aa X.env.locals:=by rfl)(hex:X.ex=[]:=by rfl)(hgS:Gl X sx:=by rfl)(hdb:(sx==("__debug__":Str))=ag:=by decide):PSv X (.Try [st] [.ExceptHandler (aa$ .Name sx hp) (aa en) (U::J) Y] [] [] pos) (tryG i t g x h):=by
 refine⟨λD c H=>∀a s,Inv X a c H s->bG (1:) X.A (exec (.Try [st] [.ExceptHandler (aa$ .Name sx hp) (aa en) (U::J) Y] [] [] pos) X.env) (SP X a D) X.xe s,
  λa s c H D I h=>h a s I,λH₀ H O c k hd j D o e m a s I=>?_⟩
 refine wpAny_Try_except$ GA ?_;show bG _ _ _ _ (tryE X a D [.ExceptHandler (aa$ .Name sx hp) (aa en) (U::J) Y]) s;unfold tryG at e;by_cases b:x k=ae
 . rw [if_pos b]at e;cases hh:h (k.set i (.exc t))with
   |none=>rw[hh]at e;cases e
   |some l=>rw[hh]at e;cases e;exact dD (XS hN hm hS hC hx hs hi hlo hst hfr hex hgS hdb I o b hh m) (λ_ _ z=>z.elim) λ_ _ z=>z
 . rw [if_neg b]at e;obtain ⟨t,n,p⟩:=hg (tryE X a D [.ExceptHandler (aa (.Name sx hp)) (aa en) (U::J) Y]);refine dD (n a s c H D (I.wish _) (p H₀ H O c k hd j D o e m)) (λf r q=>?_) (λ_ _ z=>z);have d:=q.unwish;cases f with
   |next=>exact lH$ lH d
   |brk=>exact d
   |cont=>exact d
   |ret u=>exact d
def IsxOk(K:Frag)(z:Value)(tb:List (Nat×Bool)):Prop:=∀t b,tb.lookup t=aa b->∀C,aH K mainGlobals (xName t)=aa (aa$ .ref C)->XIn K C/\cV K (.ref C) z=aa b
def SO(K:Frag)(z:List Value)(tb:List (Nat×Bool)):Prop:=∀t b,tb.lookup t=aa b->∀C,aH K mainGlobals (xName t)=aa (aa$ .ref C)->XIn K C/\iB K (.ref C) z=aa b
def aGf{K:Frag}{z:List Value}{t:Nat}{b:Bool}{C:aF}(n:aH K mainGlobals (xName t)=aa (aa$ .ref C))(x:XIn K C)(k:iB K (.ref C) z=aa b):SO K z [(t,b)]:=λa d e f c=>by
 by_cases h:a=t
 . subst h;simp[List.lookup]at e;subst e;rw[n]at c;cases c;exact⟨x,k⟩
 . have:(a==t)=ag:=beq_eq_false_iff_ne.mpr h;simp[List.lookup,this]at e
def OI:CallR X (.builtin "isinstance") (λxs H Q=>∃a o u C c cv b,xs=[.ref a,c]/\clsV c cv/\H a=aa (.frz o u)/\o.cls=.ref C/\XIn X.K C/\cV X.K (.ref C) cv=aa b/\Q (.bl b) H):=by
 intro y s w H xs x Q I r h;obtain⟨a,o,v,C,c,cv,b,rfl,g,p,l,k,e,q⟩:=h;obtain⟨u,f,rfl,j,d⟩:=vals2 r;have t:f=cv:=by
  cases c with
  |ty n=>cases(show cv=.type n from g);cases(show f=.type n from d);rfl
  |ref a=>cases(show cv=.ref a from g);cases(show f=.ref a from d);rfl
  |_=>exact(show False from g).elim
 subst t;cases(show u=Value.ref a from j);have m:s.heap.get? a=aa o:=(show s.heap.get? a=aa o/\ObjOk X.prog X.w H s.heap a v from I.hok a _ p).1;exact cN (NH k) I.kIn ⟨o,m,l⟩ e (λz=>nomatch z) λi=>⟨.bl b,H,I.tok i,rfl,q⟩
theorem GO:∀{l:List aF}{z:List Value},Vals (l.map V.ref) z->z=l.map Value.ref
 |[],_,.nil=>rfl
 |a::l,_,.cons (b:=u) r t=>by rw[GO t,show u=Value.ref a from r];rfl
def aAu:CallR X (.builtin "isinstance") (λxs H Q=>∃(a:aF) (o:Obj) (u:HO) (C J:aF) (U:List aF) (b:Bool),xs=[.ref a,.ref J]/\H J=aa (.tup$ U.map V.ref)/\H a=aa (.frz o u)/\o.cls=.ref C/\XIn X.K C/\iB X.K (.ref C) (U.map Value.ref)=aa b/\Q (.bl b) H):=by
 intro L s F H xs G Q I r h;obtain⟨a,o,v,C,J,U,b,rfl,y,D,A,x,e,q⟩:=h;obtain⟨u,j,rfl,p,g⟩:=vals2 r;cases(show u=Value.ref a from p);cases(show j=Value.ref J from g);have B:s.heap.get? a=aa o:=(show s.heap.get? a=aa o/\ObjOk X.prog X.w H s.heap a v from I.hok a _ D).1;obtain⟨_,w,m,t,f,d,n,c⟩:=(show ObjOk X.prog X.w H s.heap J (.tup$ U.map V.ref) from I.hok J _ y)
 obtain⟨K,E,i,l⟩:=t;simp only at d c;subst d c;rw[GO m]at f;exact PySem.W.kia_tup (NH x) I.kIn ⟨o,B,A⟩ f e (λz=>nomatch z) λk=>⟨.bl b,H,I.tok k,rfl,q⟩
def tCs(z:List aF):TA:=λ_ H Q=>Q (z.map V.ref) H
def PAc(X:Cx)(es:List Expr)(z:List aF):Prop:=PA X es$ tCs z
def pac_nil:PAc X [] []:=jV
def jY{x:Str}{pos:Pos}{es:List Expr}{D:aF}{z:List aF}(hm:X.mg x=aa (.ref D))(h:PAc X es z)(U:Gl X x:=by rfl)(hd:(2:)=ag:=by decide)(J:aG (.Name x pos::es) X.env=(ag,cA (.Name x pos) X.env)::aG es X.env:=by rfl):PAc X (.Name x pos::es) (D::z):=by have:=qL (BM (v:=.ref D) (pos:=pos) U hm rfl hd) h J;exact this
section
variable{en:Str}{i:Nat}{p pe pT pos:Pos}{tb:List (Nat×Bool)}
def DJ{σ:L2.St}{H₀ H:Hp}{O:aF->Prop}{ds:List Sl}{hd:Hold}{d:D}(o:Ok X.K H₀ H O σ ds hd)(e:isxG i tb ds=aa d):∃t b,ds[i]?=aa (.exc t)/\tb.lookup t=aa b/\d=.bl b:=by
 unfold isxG at e;cases J:ds[i]? with
 |none=>rw[J]at e;cases e
 |some s=>
   rw[J]at e;cases s with
   |exc t=>
     simp only at e;cases z:tb.lookup t with
     |none=>rw[z]at e;cases e
     |some b=>rw[z]at e;cases e;exact⟨t,b,rfl,z,rfl⟩
   |no=>cases e
   |v d=>cases e
   |own l=>cases e
   |exf t fs=>cases e
   |fr l=>cases e
   |ob _ _=>cases e
def pv_isx{x:Str}(hm:X.mg "isinstance"=ac)(Y:∃D,X.mg x=aa (.ref D)/\IsxOk X.K (.ref D) tb)(hN:X.N[i]?=aa en:=by rfl)(hv:Vis X.env.scope en:=by exact Or.inl rfl)(J:(en==("__debug__":Str))=ag:=by decide)(U:(en==("__classdict__":Str))=ag:=by decide)(hg:Gl X "isinstance":=by rfl)(z:Gl X x:=by rfl)(h1:aG [.Name en pe,.Name x pT] X.env=(ag,cA (.Name en pe) X.env)::aG [.Name x pT] X.env:=by rfl)(h2:aG [.Name x pT] X.env=(ag,cA (.Name x pT) X.env)::aG [] X.env:=by rfl)(h3:(dJ pos$ aG [.Name x pT] X.env).any (·.1)=ag:=by rfl)(hd:(2:)=ag:=by decide):PV X (.Call (.Name "isinstance" p) [.Name en pe,.Name x pT] [] pos) (isxG i tb):=by obtain⟨D,m,Y⟩:=Y;refine⟨_,xK OI hg hm (3:) (qL (xD hN hv J U) (qL (BM (v:=.ref D) z m rfl hd) jV h2) h1) (by decide) (by decide) h1 h3,λH₀ H O n r hd d Q o e q=>?_⟩;obtain⟨t,b,k,l,rfl⟩:=DJ o e;obtain⟨a,C,ob,u,j,h,g,f⟩:=o.readX k;obtain⟨x1,c⟩:=Y t b l C h;exact⟨.ref a,j,a,ob,u,C,.ref D,.ref D,b,rfl,rfl,g,f,x1,c,q _ H (Same.refl _)$ .bl b⟩
def pv_isxB{x:Str}{T:String}(hm:X.mg "isinstance"=ac)(Y:X.mg x=ac)(hI:IsxOk X.K (.type T) tb)(hb:fA x=aa (.type T):=by decide +kernel)(hN:X.N[i]?=aa en:=by rfl)(hv:Vis X.env.scope en:=by exact Or.inl rfl)(J:(en==("__debug__":Str))=ag:=by decide)(U:(en==("__classdict__":Str))=ag:=by decide)(hg:Gl X "isinstance":=by rfl)(z:Gl X x:=by rfl)(h1:aG [.Name en pe,.Name x pT] X.env=(ag,cA (.Name en pe) X.env)::aG [.Name x pT] X.env:=by rfl)(h2:aG [.Name x pT] X.env=(ag,cA (.Name x pT) X.env)::aG [] X.env:=by rfl)(h3:(dJ pos$ aG [.Name x pT] X.env).any (·.1)=ag:=by rfl)(hn:x≠"__name__":=by decide)(hd:(2:)=ag:=by decide):PV X (.Call (.Name "isinstance" p) [.Name en pe,.Name x pT] [] pos) (isxG i tb):=by refine⟨_,xK OI hg hm (3:) (qL (xD hN hv J U) (qL (UX (v:=.ty T) z Y hb rfl hn hd) jV h2) h1) (by decide) (by decide) h1 h3,λH₀ H O m n hd d Q o e q=>?_⟩;obtain⟨t,b,k,l,rfl⟩:=DJ o e;obtain⟨a,C,ob,u,j,h,g,f⟩:=o.readX k;obtain⟨x1,c⟩:=hI t b l C h;exact⟨.ref a,j,a,ob,u,C,.ty T,.type T,b,rfl,rfl,g,f,x1,c,q _ H (Same.refl _)$ .bl b⟩
def pv_isxT{es:List Expr}{J:List aF}{x1}(hm:X.mg "isinstance"=ac)(hP:PAc X es J)(hI:SO X.K (J.map Value.ref) tb)(hz:J.length<=100:=by first|decide|simp)(hN:X.N[i]?=aa en:=by rfl)(hv:Vis X.env.scope en:=by exact Or.inl rfl)(U:(en==("__debug__":Str))=ag:=by decide)(Y:(en==("__classdict__":Str))=ag:=by decide)(hg:Gl X "isinstance":=by rfl)(h1:aG [.Name en pe,.Tuple es x1 pT] X.env=(ag,cA (.Name en pe) X.env)::aG [.Tuple es x1 pT] X.env:=by rfl)(h2:aG [.Tuple es x1 pT] X.env=(ag,cA (.Tuple es x1 pT) X.env)::aG [] X.env:=by rfl)(h3:(dJ pos$ aG [.Tuple es x1 pT] X.env).any (·.1)=ag:=by rfl):PV X (.Call (.Name "isinstance" p) [.Name en pe,.Tuple es x1 pT] [] pos) (isxG i tb):=by
 refine⟨_,xK aAu hg hm (3:) (qL (xD hN hv U Y) (qL (aEg hP) jV h2) h1) (by decide) (by decide) h1 h3,λH₀ H O r v hd d Q o e q=>?_⟩;obtain⟨t,b,m,n,rfl⟩:=DJ o e;obtain⟨a,C,ob,u,l,k,f,j⟩:=o.readX m;obtain⟨x1,h⟩:=hI t b n C k;refine⟨.ref a,l,?_,λtp c=>?_⟩
 . show (J.map V.ref).length<=sizeLine;have:(100:Nat)<=sizeLine:=by decide
   simp;omega
 . have na:a≠tp:=λz=>by rw [z,c]at f;cases f
   refine⟨a,ob,u,C,tp,J,b,rfl,bP,by rw[upd_ne na];exact f,j,x1,h,q _ _ (λw s g=>?_)$ .bl b⟩;rw[upd_ne λz=>by rw[z,c]at g;cases g];exact g
end
structure XR(K:Frag)(mg:Str->Option Value)(t:Nat)(C:aF):Prop where
 nm:aH K mainGlobals (xName t)=some (some (.ref C))
 gl:mg (xName t)=some (.ref C)
 cls:XCls K C
structure XT(K:Frag)(mg:Str->Option Value)(t:Nat)(x:Str)(C S:aF):Prop where
 nm:aH K mainGlobals (xName t)=some (some (.ref C))
 gl:mg x=some (.ref S)
 cat:XCatch K C S
def RK{K:Frag}{C z:aF}(u:pF K C=ae)(y:nE K (.ref C)=aa (.type "type"))(s:lZ K (.ref z) (.ref C)=aa ae):nG K (.ref z) (.ref C)=aa ae:=by unfold nG;simp only;rw[show(rW K C).isSome=ae from u,y,if_pos$ by simp,s]
def aGa{K:Frag}{z:aF}{T:String}(u:WU T=ae)(s:lZ K (.ref z) (.type T)=aa ae):cV K (.ref z) (.type T)=aa ae:=by
 unfold cV;split
 . rfl
 . unfold nG;simp only;rw[u,if_pos rfl,s]
def RL{K:Frag}{t:Value}: iB K t []=aa ag:=rfl
def jQ{K:Frag}{t c:Value}{r:List Value}{b:Bool}(h:cV K t c=aa ag)(h2:iB K t r=aa b):iB K t (c::r)=aa b:=by unfold iB;rw[h];exact h2
section
variable(X:Cx)(E:XK)(C:aF)
def PSy(st:Stmt)(x:List Sl->Bool):Prop:=∃t,PS X st t/\∀H₀ H O c d hd D,Ok X.K H₀ H O c d hd->x d=ae->(∀b a,Same H₀ a->XeOk X C b a)->(∀a,Same H₀ a->E (.ref C) ac a)->t D c H
def PSsy(st:List Stmt)(x:List Sl->Bool):Prop:=∃t,PSs X st t/\∀H₀ H O c d hd D,Ok X.K H₀ H O c d hd->x d=ae->(∀b a,Same H₀ a->XeOk X C b a)->(∀a,Same H₀ a->E (.ref C) ac a)->t D c H
def KR(st:List Stmt):Prop:=∃t,PSs X st t
end
section
variable{E:XK}{C:aF}
def PSx.y{st:Stmt}{x:List Sl->Bool}(h:PSx X C st x):PSy X E C st x:=by obtain⟨t,b,c⟩:=h;exact⟨t,b,λH₀ H O a d hd D o e q _=>c H₀ H O a d hd D o e q⟩
def PSsv.any{st:List Stmt}{g:FS}(h:PSsv X st g):KR X st:=let ⟨t,a,_⟩:=h;⟨t,a⟩
def QP{st:List Stmt}(h:KR X st):PSsy X E C st aFb:=by obtain⟨t,a⟩:=h;exact⟨t,a,λ_ _ _ _ _ _ _ _ e _ _=>by cases e⟩
def HM{st:Stmt}{rest:List Stmt}{x:List Sl->Bool}(h1:PSy X E C st x)(h2:KR X rest):PSsy X E C (st::rest) x:=by obtain⟨t,c,d⟩:=h1;obtain⟨u,b⟩:=h2;exact⟨_,CU c b,λH₀ H O a f hd D o e q p=>d H₀ H O a f hd _ o e q p⟩
def psy_if{c:Expr}{a b:List Stmt}{pos:Pos}{fc:FT}{xa xb:List Sl->Bool}(J:PTv X c fc)(Y:PSsy X E C a xa)(U:PSsy X E C b xb):PSy X E C (.If c a b pos) (ifX fc xa xb):=by
 obtain⟨l,J,g⟩:=J;obtain⟨m,Y,i⟩:=Y;obtain⟨tb,U,h⟩:=U;refine⟨_,ps_if J Y U,λH₀ H O f d hd D o e q p=>?_⟩;unfold ifX at e;cases z:fc d with
 |none=>rw[z]at e;cases e
 |some k=>
   rw[z]at e;refine g H₀ H O f d hd k _ o z λj s=>?_;cases k with
   |true=>exact i H₀ j O f d hd D (o.mono s) e q p
   |false=>exact h H₀ j O f d hd D (o.mono s) e q p
end
structure RoomH(k:Nat)(A:dF):Prop where
 dp:A.depth+3*k+5<recursionLimit
 un:A.units+16*k+200<cLine
def RoomH.of{k:Nat}{A:dF}{v:Option Value}(r:Room k A):RoomH k (A.mark v):=⟨r.dp,r.un⟩
def RoomH.mono{j k:Nat}{A:dF}(r:RoomH k A)(h:j<=k):RoomH j A:=⟨by have:=r.dp;omega,by have:=r.un;omega⟩
theorem RoomH.depth{k:Nat}{A:dF}(r:RoomH k A):A.depth<recursionLimit:=by have:=r.dp;omega
def VP{K:Frag}{z:Value}: IsxOk K z []:=λt b e=>by cases e
def aGg{K:Frag}{z:Value}{t:Nat}{b:Bool}{C:aF}{tb:List (Nat×Bool)}(n:aH K mainGlobals (xName t)=aa (aa$ .ref C))(x:XIn K C)(k:cV K (.ref C) z=aa b)(r:IsxOk K z tb):IsxOk K z ((t,b)::tb):=λa f e g c=>by
 by_cases h:a=t
 . subst h;simp[List.lookup]at e;subst e;rw[n]at c;cases c;exact⟨x,k⟩
 . have d:(a==t)=ag:=beq_eq_false_iff_ne.mpr h;simp only[List.lookup,d]at e;exact r a f e g c
end FL
namespace L2
end L2
namespace FL
end FL
namespace L2
def Inv.drw{σ}(I:Inv X aE σ H s) d:Inv X aE σ H {s with drawn:=d}:=
 I.step (h':=s.heap) (H':=H) (g':=s.gens) (t':=s.toks) (d':=d) (ch:=[]) (λ_ z=>nomatch z) (λb o _ _ _ e _=>e) (λb o _ _ _ e _=>⟨o.slots,e⟩) (λ_ _ _ _ n=>n) (λb o _ e=>⟨o,e⟩)
  (λ_ _ e=>e) (λ_ _ _ e=>e) (λ_ _ e=>e) (λm a=>a) I.hok I.bare
def XG{us:List Value}{ns:List Int}(h:eR us ns):Vals (ns.map V.int) us:=GQ h
def tSrtS(ta:TA)(K:aM):TE:=λb H Q=>ta b H λc a=>∃(p:aF) (ns:List Int),c=[.ref p]/\SqL K a p (ns.map V.int)/\ns.length+1<4096/\∀l,a l=ac->Q (.ref l) (upd a l$ .lst$ (FL.srtU ns).map V.int)
def pe_srtS(Y:X.calm=ae)(J:Gl X "sorted")(z:X.mg "sorted"=ac)(hg:Gl X "set")(hm:X.mg "set"=ac)(ha:PA X [a] ta)(hl:aG [.Call (.Name "set" U) [a] [] pos2] X.env=[(ag,cA (.Call (.Name "set" U) [a] [] pos2) X.env)]:=by rfl)(hs:aG [a] X.env=[(ag,cA a X.env)]:=by rfl):PE X (.Call (.Name "sorted" p) [.Call (.Name "set" U) [a] [] pos2] [] pos) (tSrtS ta X.K):=by
 intro n s c H Q I h;refine eW (wV I J z (show fA "sorted"=aa (.builtin "sorted") by decide +kernel) ?_);refine kU ?_ hl rfl;refine Calls.spliced_cons ?_;refine Call_ (wV I hg hm (show fA "set"=aa (.type "set") by decide +kernel)$ gN (thn (ha pos2 n s c H _ I h) λus o x=>?_) hs rfl);obtain⟨Z,w,v,C,D⟩:=x;obtain⟨l,ns,e,M,L,q⟩:=D;subst e;obtain⟨u,rfl,B⟩:=vals1 C;cases B;obtain⟨K,A,E,hz⟩:=v.list M;have hi:=DN A;have O:=eR.length hi;refine TS.call_set (I.ok.hd Y) E.isList (by simpa using hi) (by simp[bF];unfold kS;lia) λT y P N=>?_;have W:Inv X n c w {o with heap:=T,toks:=y}:=v.kept N;refine Calls.spliced_nil ?_;refine TS.sorted_set (I.ok.hd Y) P (by simp[bF];rw[lX];lia) λm S d g f ks e G F R b i hm j=>?_;have r:=FL.lt_unique _ _ (λk=>(hm k).trans (FL.mem_srtU k ns).symm) i$ FL.srtU_lt ns;have t:Inv X n c w {o with heap:=m,drawn:=d,toks:=g}:=Inv.kept (W.drw d) G;refine⟨.ref m.objs.size,_,Inv.laid t F (aL _)$ show ObjOk X.prog X.w _ S _ (.lst$ (FL.srtU ns).map V.int) from ⟨?_,f,e,?_,R⟩,rfl,q _$ t.hok.fresh$ aL _⟩
 . have m:=eR.length b;rw [<-r,bS];simp [bF]at j;rw [lX]
   lia
 . rw[<-r];exact XG b
end L2
namespace FL
theorem HH{K:Frag}:∀ns:List Int,Reps K H O (ns.map V.int)$ ns.map D.int
 |[]=>.nil
 |n::ns=>.cons (.int n)$ HH ns
def FQ(hc:X.calm=ae)(z:X.mg "sorted"=ac)(hm:X.mg "set"=ac)(U:PVw X e f)(J:Gl X "sorted":=by rfl)(hg:Gl X "set":=by rfl)(hl:aG [.Call (.Name "set" Y) [e] [] pos2] X.env=[(ag,cA (.Call (.Name "set" Y) [e] [] pos2) X.env)]:=by rfl)(hs:aG [e] X.env=[(ag,cA e X.env)]:=by rfl):PVf X (.Call (.Name "sorted" p) [.Call (.Name "set" Y) [e] [] pos2] [] pos) (srtSA f):=by
 obtain⟨t,i,U⟩:=U;refine⟨_,pe_srtS hc J z hg hm (qL i jV hs) hl hs,λH₀ H O c r hd l Q o e q=>?_⟩;obtain⟨d,n,e⟩:=bnd e;refine U H₀ H O c r hd _ _ o n λv u a h=>?_;cases d<;>first|(cases e;done)|skip
 obtain⟨ns,m,e⟩:=bnd e;split at e
 . rename_i j;cases e;obtain ⟨s,xs,rfl,k,g⟩:=h.seqL;refine ⟨s,ns,rfl,?_,j,λp b=>?_⟩
   . rw[<-NK g m];exact k
   . exact q p _ _ (a.trans$ qF b _) (a.free b) bP$ HH _
 . cases e
end FL
namespace L2
end L2
namespace FL
open PySem.W (tabIn CodeHd tabObj kla_eval kla_makeFunction kla_makeFunctionHit kla_obj kla_fn kla_callFunE kla_codeExpr FnAt callWith_F envX)
def FY{pos:Pos}{a b:Nat}{c v:Value}:∀(l:List Value),TriplesOk l->uE pos (l++[hX a,hX b,c])=aa v->uE pos l=aa v\/(v=c/\pos.line=a/\pos.col=b):=by
 intro l h
 fun_induction TriplesOk l with
 |case1=>
   intro e;simp only[dB,uE,hX]at e;split at e
   . rename_i d;cases e;simp only[bY,beq_iff_eq]at d;exact .inr ⟨rfl,by omega,by omega⟩
   . cases e
 |case2 k t j u x rest f=>
   intro e;simp only[dP,uE]at e ⊢;split at e
   . rename_i d;rw[if_pos d];exact .inl e
   . rename_i d;rw[if_neg d];exact f h e
 |case3 l i g=>exact h.elim
theorem IL{env:Env}:∀(l:List (Str×iZ)) (cs:List (Str×aF)),∀p∈jB env l cs,p∈cs\/(env.cells.lookup p.1=aa p.2/\(p.1,iZ.free)∈l)
 |[],_,_,h=>.inl h
 |(n,k)::r,cs,p,h=>by
   unfold jB at h;rcases IL r _ p h with a|a
   . split at a
     . rename_i b;cases z:env.cells.lookup n with
       |none=>rw[z]at a;exact .inl a
       |some c=>
         rw[z]at a;rcases aA.mp a with rfl|a
         . refine .inr ⟨z,?_⟩;rw[beq_iff_eq.mp b];exact aP
         . exact .inl a
     . exact .inl a
   . exact .inr ⟨a.1,aJ _ a.2⟩
def RT(n:Str)(k:iZ)(r:List (Str×iZ)):freeR ((n,k)::r)=if k==iZ.free then freeR r++[n]else freeR r:=by
 unfold freeR;rw[List.filter_cons];by_cases a:(k==iZ.free)=ae
 . simp[a]
 . simp[a]
theorem AQ{env:Env}:∀(l:List (Str×iZ)) (cs:List (Str×aF)),(∀y∈l,y.2=iZ.free->∃c,env.cells.lookup y.1=aa c)->(jB env l cs).map (·.1)=freeR l++cs.map (·.1)
 |[],_,_=>rfl
 |(n,k)::r,cs,h=>by
   unfold jB;rw[AQ r _ λy d=>h y$ aJ _ d,RT];by_cases a:(k==iZ.free)=ae
   . obtain⟨c,b⟩:=h (n,k) aP$ beq_iff_eq.mp a;have b:env.cells.lookup n=aa c:=b;rw[if_pos a,if_pos a,b];simp
   . rw[if_neg a,if_neg a]
theorem HR:∀{cl:List (Str×aF)},(cl.map (·.1)).Nodup->(∀p∈cl,∀q∈cl,p.2=q.2->p.1=q.1)->(cl.map (·.2)).Nodup
 |[],_,_=>rY
 |p::r,h,k=>by rw[aQ,bK]at h ⊢;refine⟨λz=>?_,HR h.2 λa f b d=>k a (aJ _ f) b$ aJ _ d⟩;obtain⟨q,c,e⟩:=bQ.mp z;exact h.1$ bQ.mpr ⟨q,c,k q (aJ _ c) p aP e⟩
abbrev exT:HO:=.ext λ_=>True
def pe_lam{params:Arguments}{body:Expr}{scope:Scope}{pos:Pos}{x:Str}{c P:aF}(hx:x∈makers)(ht:tabM X.K x=aa (c,P))(hcode:X.env.code=.ref c)(hq:nS X.K x pos.line pos.col=X.env.qual++"<lambda>")(hdef:defaultsOf params X.env=([],[]):=by rfl)(hfree:∀y∈scope.names,y.2=iZ.free->(X.env.kindOf y.1=aa .cell\/X.env.kindOf y.1=aa .free)):PE X (.Lambda params body scope pos) (λ_ H Q=>∀f H1,Same H H1->LamAt H1 qS f ⟨X.env.qual++"<lambda>",params,.expr body,scope⟩ (5:)->Q (.ref f) H1):=by
 intro aE s σ H Q I h;refine kla_eval hdef ?_;obtain⟨⟨bm,ob,b1,b2,b3,b4,b5,b6⟩,tb⟩:=I.tabsH;obtain⟨C,hP⟩:=tb x c P hx ht;obtain⟨ps,hPo,tr,am⟩:=I.hok P _ hP;have hcl:closureFor scope X.env=pure (5:):=xG λy hy hk=>I.ok.has y.1$ hfree y hy hk;have hgs:s.heap.Ns mainGlobals X.mg:=I.mod.glob.keeps I.bk;have hgP:mainGlobals≠P:=λz=>by obtain⟨o,es,ep,e,hd,_⟩:=hgs;rw[z,hPo]at e;cases e;cases hd
 have hbP:bm≠P:=λz=>by have e:=I.bk _ _ b3;rw[z,hPo]at e;cases e;cases b4
 have hbG:bm≠mainGlobals:=λz=>by obtain⟨o,es,ep,e,hd,_⟩:=hgs;have e2:=I.bk _ _ b3;rw[z,e]at e2;cases e2;rw[hd]at b6;cases b6
 have hB:s.heap.BuiltinsAt X.mg P:=⟨bm,ob,b1,b2,hbG,hbP,I.bk _ _ b3,b4,b5,b6⟩
 cases hit:uE pos ps.toList with
 |none=>
   refine kla_makeFunction (mg:=X.mg) hcl I.ok.glob hgs hcode (C.keeps I.bk) hPo tr hit hgP hB λc' ctv h' tk hx' hge hlt hrec htb=>?_;obtain⟨c₂,oc,vs,tq,e2,hoc,hd,hv⟩:=hrec;cases e2;generalize hob:kla_obj "<lambda>" (X.env.qual++"<lambda>") params body scope (5:) ((X.mg "__name__").getD .none) c' ctv=of;have hfr:of.isFreed=ag:=by rw[<-hob];rfl
   have nc:H c'=ac:=I.hok.fresh hge;have nf:H h'.objs.size=ac:=I.hok.fresh$ AA$ kX hge hlt;have ncf:c'≠h'.objs.size:=bJ hlt;have kp:∀b o,b≠P->s.heap.get? b=aa o->(h'.push of).get? b=aa o:=λb o hb e=>aD _$ hx' b o hb e;have h1:∀{b:aF}{u:HO},H b=aa u->upd (upd H c'$ .frz oc exT) h'.objs.size (.frz of exT) b=aa u:=λ{b u} e=>by rw[upd_ne$ qW e nf,upd_ne$ qW e nc];exact e
   have hf1:upd (upd H c'$ .frz oc exT) h'.objs.size (.frz of exT) h'.objs.size=aa (.frz of exT):=bP;have hc1:upd (upd H c'$ .frz oc exT) h'.objs.size (.frz of exT) c'=aa (.frz oc exT):=by rw[upd_ne ncf,bP]
   have nP:∀{b:aF},H b=ac->b≠P:=λ{b} n z=>by rw[z,hP]at n;cases n
   have U:Un X.fs [] H (upd (upd H c'$ .frz oc exT) h'.objs.size$ .frz of exT) s.heap (h'.push of):=by
    refine⟨λb o e n _ _=>kp b o (nP n) e,λb o e n _ _=>⟨o.slots,kp b o (nP n) e⟩,λb o e n _=>?_,λb o e _=>?_,λb xs e=>h1 e,λb o u e=>h1 e,λb q e=>h1 e⟩
    . have lt:=bA e;rw[upd_ne$ bJ$ uZ (bM lt hge) hlt,upd_ne$ bJ$ bM lt hge];exact n
    . by_cases hb:b=P
      . subst hb;exact⟨_,aD _ htb⟩
      . exact⟨o,kp b o hb e⟩
   have hok:L2.HOk X.prog X.w (upd (upd H c'$ .frz oc exT) h'.objs.size$ .frz of exT) (h'.push of):=λb u e=>by
    by_cases hbf:b=h'.objs.size
    . subst hbf;rw[hf1]at e;cases e;exact⟨aN _ hfr,trivial,⟨_,aN _ hfr⟩,λ_ _ _ _=>trivial⟩
    rw[upd_ne hbf]at e;by_cases hbc:b=c'
    . subst hbc;rw[bP]at e;cases e;exact⟨aD _ hoc,trivial,⟨_,aD _ hoc⟩,λ_ _ _ _=>trivial⟩
    rw[upd_ne hbc]at e;by_cases hbP:b=P
    . subst hbP;rw [hP]at e;cases e;refine ⟨_,aD _ htb,?_,λpos' v z=>?_⟩
      . rw[cX];exact TriplesOk_snoc _ _ _ _ tr
      . rw [cX]at z;rcases FY _ tr z with z|⟨rfl,e1,e2⟩
        . obtain⟨c3,o3,u3,vs3,t3,g1,g2,g3,g4⟩:=am pos' v z;exact⟨c3,o3,u3,vs3,t3,g1,h1 g2,g3,g4⟩
        . exact⟨c',oc,exT,vs,tq,rfl,hc1,hd,by rw[e1,e2,hq];exact hv⟩
    . refine (I.hok b u e).stay (λc3 v3 hc3 r3=>kp c3 v3 ?_ r3) (λc3 r3=>h1 r3) λc3 xs3 r3=>h1 r3;rcases hc3 with rfl|hc3
      . exact hbP
      . rintro rfl;rw[hP]at hc3;cases hc3
   refine⟨.ref h'.objs.size,_,I.un (t':=tk) U hok,rfl,h _ _ (λb u e=>h1 e) ?_⟩;subst hob;exact⟨id,_,oc,_,_,_,c',vs,tq,hf1,rfl,rfl,rfl,rfl,rfl,rfl,rfl,rfl,rfl,rfl,rfl,rfl,id,hc1,hd,hv⟩
 |some cv=>
   obtain⟨c',oc,uc,vs,tq,rfl,hc',hd,hv⟩:=am pos cv hit;refine kla_makeFunctionHit (mg:=X.mg) hcl I.ok.glob hgs hcode (C.keeps I.bk) hPo tr hit hB λctv h' tk hk hsz=>?_;generalize hob:({cls:=.type "function",data:=.func$ kla_fn "<lambda>" (X.env.qual++"<lambda>") params body scope (5:) ((X.mg "__name__").getD .none) (.ref c') ctv}: Obj)=of;have hfr:of.isFreed=ag:=by rw[<-hob];rfl
   have nf:H h'.objs.size=ac:=I.hok.fresh hsz;have h1:∀{b:aF}{u:HO},H b=aa u->upd H h'.objs.size (.frz of exT) b=aa u:=λ{b u} e=>by rw[upd_ne$ qW e nf];exact e
   refine⟨.ref h'.objs.size,upd H h'.objs.size$ .frz of exT,I.laid (t':=tk) (λb u e=>aD _$ hk b u e) hsz ?_,rfl,h _ _ (λb u e=>h1 e) ?_⟩
   . exact⟨aN _ hfr,trivial,⟨_,aN _ hfr⟩,λ_ _ _ _=>trivial⟩
   . subst hob;exact⟨id,_,oc,_,_,_,c',vs,tq,bP,rfl,rfl,rfl,rfl,rfl,rfl,rfl,rfl,rfl,rfl,rfl,rfl,id,h1 hc',hd,by rw[hq]at hv;exact hv⟩
noncomputable def lend(h:Heap)(cs:List aF)(H:Hp):Hp:=λb=>if b∈cs then (h.get? b).map λo=>.frz o exT else H b
noncomputable def unlend(cs:List aF)(H:Hp):Hp:=λb=>if b∈cs then ac else H b
def jE{cs:List aF}{H:Hp}{b:aF}(h:b∉cs):unlend cs H b=H b:=by unfold unlend;rw[if_neg h]
def GW{cs:List aF}{H:Hp}{b:aF}(h:b∈cs):unlend cs H b=ac:=by unfold unlend;rw[if_pos h]
def yS{h:Heap}{cs:List aF}{H:Hp}{b:aF}(z:b∉cs):lend h cs H b=H b:=by unfold lend;rw[if_neg z]
def BO{h:Heap}{cs:List aF}{H:Hp}{b:aF}{o:Obj}(z:b∈cs)(e:h.get? b=aa o):lend h cs H b=aa (.frz o exT):=by unfold lend;rw[if_pos z,e];rfl
section
variable{aE:List (aF×Obj)}{σ:L2.St}{H H':Hp}{s s':aW}{cs:List aF}
def lend_ok(I:Inv X aE σ H s)(U:∀c∈cs,∃x,X.env.cells.lookup x=aa c)(J:∀x,X.fn x=ae):Env0 X.prog X.w X.K X.mg X.base X.A X.stack s (lend s.heap cs H)/\Same H (lend s.heap cs H)/\∀c∈cs,H c=ac/\∃o v,s.heap.get? c=aa o/\o.data=.cell v:=by
 have f:∀c∈cs,H c=ac/\(∃o v,s.heap.get? c=aa o/\o.data=.cell v)/\X.s₀.heap.objs.size<=c/\c≠X.env.locals:=λc i=>by obtain⟨x,a⟩:=U c i;obtain⟨v,o,d,hd⟩:=I.cell x c a;exact⟨(I.freeC x c a).now$ J x,⟨o,v,d,hd⟩,I.ok.cab x c (J x) a,I.cne x c a⟩
 have j:∀{b:aF}{u:HO},H b=aa u->b∉cs:=λ{b u} e z=>by rw[(f b z).1]at e;cases e
 have h:Same H (lend s.heap cs H):=λb u e=>by rw[yS$ j e];exact e
 refine⟨⟨I.ok.frames,I.ok.mod,λb o e=>?_,⟨cS I.ok.bsz.1 I.sz,I.tabsH.bm,λx c P a k=>⟨(I.tabsH.tab x c P a k).1,h _ _ (I.tabsH.tab x c P a k).2⟩⟩,I.stack,λb g=>?_,λb u e=>?_,I.bare⟩,h,λc i=>⟨(f c i).1,(f c i).2.1⟩⟩
 . obtain ⟨m,l⟩:=I.bs b o e;refine ⟨m,?_⟩;rw [yS λz=>?_]
   . exact l
   . exact absurd (bM (bA e)$ cS I.ok.bsz.1 (f b z).2.2.1)$ cM _
 . rw [yS λz=>?_]
   . exact I.stkFree b g
   . rcases aA.mp (I.stkSub b g)with e|e
     . exact(f b z).2.2.2 e
     . obtain⟨_,o,d,_⟩:=I.ok.funs.mem e;exact absurd (bM (bA d) (f b z).2.2.1)$ cM _
 . by_cases g:b∈cs
   . obtain⟨o,v,d,_⟩:=(f b g).2.1;rw[BO g d]at e;cases e;exact⟨d,trivial,⟨_,d⟩,λ_ _ _ _=>trivial⟩
   . rw[yS g]at e;exact(I.hok b u e).stay (λ_ _ _ q=>q) (λc q=>h _ _ q) λc xs q=>h _ _ q
def ZH{P:bW}{w:cT}{fs:List aF}(J:∀c∈cs,H c=ac/\∃o v,s.heap.get? c=aa o/\o.data=.cell v)(un:Un fs [] (lend s.heap cs H) H' s.heap s'.heap)(hok:L2.HOk P w H' s'.heap):Un fs [] H (unlend cs H') s.heap s'.heap/\L2.HOk P w (unlend cs H') s'.heap/\∀c∈cs,∃o v,H' c=aa (.frz o exT)/\o.data=.cell v:=by
 have l:∀c∈cs,∃o v,H' c=aa (.frz o exT)/\s.heap.get? c=aa o/\s'.heap.get? c=aa o/\o.data=.cell v:=λc h=>by obtain⟨_,o,v,r,hd⟩:=J c h;have e:=un.frzs c o exT$ BO h r;exact⟨o,v,e,r,(hok c _ e).1,hd⟩
 have f:∀{b:aF}{u:HO},H b=aa u->b∉cs:=λ{b u} e z=>by rw[(J b z).1]at e;cases e
 have g:∀{b:aF}{u:HO},H' b=aa u->(∀o v,u=.frz o exT->o.data≠.cell v)->b∉cs:=λ{b u} e k z=>by obtain⟨o,v,i,_,_,hd⟩:=l b z;rw[e]at i;cases i;exact k o v rfl hd
 refine⟨⟨λb o e n m j=>?_,λb o e n m j=>?_,λb o e n j=>?_,un.there,λb xs e=>?_,λb o u e=>?_,λb q e=>?_⟩,λb u e=>?_,λc h=>let ⟨o,v,e,_,_,d⟩:=l c h;⟨o,v,e,d⟩⟩
 . by_cases a:b∈cs
   . obtain⟨t,v,_,i,p,_⟩:=l b a;rw[e]at i;cases i;exact p
   . exact un.keep b o e (by rw[yS a];exact n) m j
 . by_cases a:b∈cs
   . obtain⟨t,v,_,i,p,_⟩:=l b a;rw[e]at i;cases i;exact⟨o.slots,p⟩
   . exact un.slot b o e (by rw[yS a];exact n) m j
 . by_cases a:b∈cs
   . exact GW a
   . rw[jE a];exact un.free b o e (by rw[yS a];exact n) j
 . rw[jE$ f e];exact un.tups b xs (by rw[yS$ f e];exact e)
 . rw[jE$ f e];exact un.frzs b o u (by rw[yS$ f e];exact e)
 . rw[jE$ f e];exact un.tbls b q (by rw[yS$ f e];exact e)
 . by_cases a:b∈cs
   . rw[GW a]at e;cases e
   . rw [jE a]at e;refine (hok b u e).stay (λ_ _ _ q=>q) (λc q=>?_) λc xs q=>?_
     . rw[jE$ g q λo v z=>by cases z];exact q
     . rw[jE$ g q λo v z=>?_];exact q;obtain⟨x,j⟩:=xs;have z:x=.frz o exT:=z;subst z;obtain⟨A,y⟩:=j;rw[y];exact λz=>by cases z
end
section
variable{K:Frag}{H:Hp}{O:aF->Prop}{cs:List aF}
def HJ{a:aF}{u:HO}(U:∀c∈cs,∃o,H c=aa (.frz o exT))(h1:∀o w,u≠.frz o w)(h2:∀J,u≠.ext J)(h:Rd H a u):Rd (unlend cs H) a u:=by
 have na:a∉cs:=λz=>by
  obtain⟨o,e⟩:=U a z;rcases h with h|⟨b,h⟩
  . rw[e]at h;cases h;exact h1 _ _ rfl
  . rw[e]at h;cases h;exact h2 _ rfl
 rcases h with h|⟨o,h⟩
 . exact .inl (by rw[jE na];exact h)
 . exact .inr ⟨o,by rw[jE na];exact h⟩
def IS{a:aF}{u:HO}(J:∀c∈cs,∃o,H c=aa (.frz o exT))(h1:∀o w,u≠.frz o w)(h:H a=aa u):unlend cs H a=aa u:=by rw[jE λz=>?_];exact h;obtain⟨o,e⟩:=J a z;rw[e]at h;cases h;exact h1 _ _ rfl
theorem Rep.unlend(J:∀c∈cs,∃o,H c=aa (.frz o exT)){v:V}{d:D}(f:noclo d=ae)(h:Rep K H O v d):Rep K (FL.unlend cs H) O v d:=
 h.rec (motive_1:=λv d _=>noclo d=ae->Rep K (FL.unlend cs H) O v d) (motive_2:=λv d _=>nR d=ae->Reps K (FL.unlend cs H) O v d) (λ_=>.non) (λ_ _=>.bl _) (λ_ _=>.int _) (λ_ _=>.str _)
  (λn h _ i f=>.tup n (HJ J (λ_ _ z=>by cases z) (λ_ z=>by cases z) h)$ i f) (λh _ i f=>.tupK h$ i f) (λn h _ i f=>.lst n (HJ J (λ_ _ z=>by cases z) (λ_ z=>by cases z) h)$ i f) (λh _ i f=>.lstK h$ i f)
  (λn h e _ i f=>.dct n (IS J (λ_ _ z=>by cases z) h) e$ i f) (λ_ _ _ _ _ f=>by cases f) (λc n h e _ i f=>.ins c n (IS J (λ_ _ z=>by cases z) h) e$ i f) (λ_ _ _ _ _ _ _ f=>by cases f) (λ_ f=>by cases f) (λ_=>.nil) (λ_ _ i j f=>by
   have f:=gC.1 f
   exact .cons (i f.1)$ j f.2) f
theorem Reps.unlend(z:∀c∈cs,∃o,H c=aa (.frz o exT)){v:List V}{d:List D}(f:nR d=ae)(h:Reps K H O v d):Reps K (FL.unlend cs H) O v d:=
 h.ind (m:=λv d=>nR d=ae->Reps K (FL.unlend cs H) O v d) (λ_=>.nil) (λh j f=>by
  have f:=gC.1 f
  exact .cons (h.unlend z f.1)$ j f.2) f
end
def PAl(X:Cx)(es:List Expr)(g:FA)(t:LamT)(cl:List (Str×aF)):Prop:=∃d,PA X es d/\∀H₀ H O b e hd l Q,Ok X.K H₀ H O b e hd->g e=aa l->(∀c f a,Same H a->Reps X.K a qS c l->LamAt a qS f t cl->Q (c++[.ref f]) a)->d b H Q
def LamAt.mono{H H':Hp}{O:aF->Prop}{f:aF}{t:LamT}{cl:List (Str×aF)}(k:Same H H')(h:LamAt H O f t cl):LamAt H' O f t cl:=h.keep$ .of_same k
def pal_one{params:Arguments}{body:Expr}{scope:Scope}{pos:Pos}{x:Str}{c P:aF}(Y:x∈makers)(ht:tabM X.K x=aa (c,P))(J:X.env.code=.ref c)(hq:nS X.K x pos.line pos.col=X.env.qual++"<lambda>")(z:∀y∈scope.names,y.2=iZ.free->(X.env.kindOf y.1=aa .cell\/X.env.kindOf y.1=aa .free))(U:defaultsOf params X.env=([],[]):=by rfl)(hs:aG [.Lambda params body scope pos] X.env=(ag,cA (.Lambda params body scope pos) X.env)::aG [] X.env:=by rfl):PAl X [.Lambda params body scope pos] zT ⟨X.env.qual++"<lambda>",params,.expr body,scope⟩ (5:):=
 ⟨_,qL (pe_lam Y ht J hq U z) jV hs,λH₀ H O g h hd l Q o e q f d a b=>by cases e;exact q [] f d a .nil b⟩
def aEq{e:Expr}{es:List Expr}{f:FE}{g:FA}{t:LamT}{cl:List (Str×aF)}(h1:PVn X e f)(h2:PAl X es g t cl)(z:aG (e::es) X.env=(ag,cA e X.env)::aG es X.env:=by rfl):PAl X (e::es) (zB f g) t cl:=by obtain⟨C,r,n⟩:=h1;obtain⟨B,p,m⟩:=h2;refine⟨_,qL r p z,λH₀ H O b i hd l Q o e q=>?_⟩;unfold zB at e;obtain⟨d,x,e⟩:=bnd e;obtain⟨u,w,rfl⟩:=mpd e;refine n H₀ H O b i hd d _ o x λv A h k=>?_;exact m H₀ A O b i hd u _ (o.mono h) w λj f y c a s=>q (v::j) f y (h.trans c) (.cons (k.mono c) a) s
theorem WG{aE:List (aF×Obj)}{σ:L2.St}{H H₀:Hp}{s:aW}{O:aF->Prop}{ds:List Sl}{hd:Hold}{cs:List aF}(I:Inv X aE σ H s)(o:Ok X.K H₀ H O σ ds hd)(Y:Same H (lend s.heap cs H)):∀{cl:List (Str×aF)}{is:List Nat}{J:List D},(∀p∈cl,X.env.cells.lookup p.1=aa p.2/\X.env.kindOf p.1=aa .cell/\p.2∈cs)->(is.map λi=>X.N[i]?)=(cl.map (·.1)).map aa->capsA is ds=aa J →
   ∃xs,ClosOk (lend s.heap cs H) qS cl xs/\Reps X.K (lend s.heap cs H) qS xs J
 |[],[],J,_,_,e=>by cases e;exact⟨[],.nil,.nil⟩
 |[],_::_,_,_,h,_=>by cases h
 |_::_,[],_,_,h,_=>by cases h
 |p::cl,i::is,J,U,h,e=>by
   simp only[aQ,List.cons.injEq]at h;unfold capsA at e;obtain⟨d,j,e⟩:=bnd e;obtain⟨l,K,rfl⟩:=mpd e;obtain⟨xs,C,B⟩:=WG I o Y (λq F=>U q$ aJ _ F) h.2 K;have k:ds[i]?=aa (.v d):=by
    unfold qB at j;split at j
    . rename_i P r;cases j;exact r
    . cases j
   obtain⟨v,E,y⟩:=o.read k;obtain⟨M,x,L⟩:=U p aP;obtain⟨m,N,G⟩:=I.loc;obtain⟨u,A,lk⟩:=G i p.1 v h.1 E$ .inr$ .inl x;have f:∃g,s.heap.get? p.2=aa g/\g.data=.cell (aa u):=by
    rcases lk with⟨t,_⟩|⟨_,Q,w,g,b,a⟩
    . rw[x]at t;cases t
    . rw[M]at w;cases w;exact⟨g,b,a⟩
   obtain⟨g,b,a⟩:=f;exact⟨v::xs,.cons (n:=p.1) (c:=p.2) id (BO L b) a A C,.cons ((y.less λ_ z=>z.elim).mono Y) B⟩
def aHq{k n:Nat}{f:aF}{fd:bR}{ps:List Str}{F:List D->Option Ret}{x:Str}{p pos:Pos}{e:Expr}{es:List Expr}{g:FA}{m j:Nat}{is:List Nat}{t:LamT}{scope:Scope}{r:Ret}{ds:List Sl}{l J:List D}(Fn:FnOk X.prog X.w X.K X.mg X.base CX0 k f fd ps (spF X.K n F))(hr:Room k X.A)(hm:X.mg x=aa (.ref f))(hk:cC X.K (.ref f)=ae)(hb:Binds X.K fd ps [])(ha:PAl X (e::es) g t (5:))(htx:rJ X.K m j=aa t)(hsc:t.scope=scope)(hfn:∀x,X.fn x=ae)(U:∀y∈scope.names,y.2=iZ.free->X.env.kindOf y.1=aa .cell)(hnd:(freeR scope.names).Nodup)(his:(is.map λi=>X.N[i]?)=(freeR scope.names).map aa)(hg:Gl X x)(hdb:(2:)=ag)(he:aG (e::es) X.env=(ag,cA e X.env)::aG es X.env)(hpl:(dJ pos$ aG es X.env).any (·.1)=ag){aE:List (aF×Obj)}{s:aW}{σ:L2.St}{H H₀:Hp}{O:aF->Prop}{hd:Hold}{Q:VK}(I:Inv X aE σ H s)(o:Ok X.K H₀ H O σ ds hd)(hl:g ds=aa l)(hcp:capsA is ds=aa J)(hn:l.length+1=n)(hF:F (l++[.clo m j J])=aa r)(Y:ncR r=ae)(q:∀v H',Same H H'->RetOk X.K H H' v r->Q v H'):bG (1:) X.A (cA (.Call (.Name x p) (e::es) [] pos) X.env) (EP X aE σ Q) X.xe s:=by
 obtain⟨tA,pA,rA⟩:=ha;refine eW$ wN I hg hm ?_ hdb;refine iY (h₀:=X.base) I.ok.mod.kin hk (thn (pA pos aE s σ H (λws A=>∃L K,ws=L++[.ref K]/\Same H A/\Reps X.K A qS L l/\LamAt A qS K t (5:)) I$ rA H₀ H O σ ds hd l _ o hl λL K A E r1 la=>⟨L,K,rfl,E,r1,la⟩) λT E ⟨ws,A,I1,rw_,L,K,hws,sm1,rvs,la⟩=>⟨I1.kIn,?_⟩) he hpl;subst hws;have w:∀G∈jB X.env scope.names [],X.env.cells.lookup G.1=aa G.2/\X.env.kindOf G.1=aa .cell/\G.2∈(5:).map (·.2):=λG W=>by
  rcases IL _ _ G W with z|z
  . cases z
  . exact⟨z.1,U _ z.2 rfl,TC W⟩
 have M:(5:).map (·.1)=freeR scope.names:=by have:=AQ (env:=X.env) scope.names [] λy hy hk=>I1.ok.has y.1$ .inl$ U y hy hk;simpa using this
 obtain⟨e0,B,S⟩:=lend_ok (cs:=(5:).map (·.2)) I1 (λc S=>by
  obtain⟨G,W,rfl⟩:=bQ.mp S
  exact⟨G.1,(w G W).1⟩) hfn
 obtain⟨xs,hcl,hxs⟩:=WG I1 (o.mono sm1) B w (by rw[M];exact his) hcp;have N:Rep X.K (lend E.heap ((5:).map (·.2)) A) qS (.ref K) (.clo m j J):=.clo htx (la.mono B) (by rw[hsc];exact M) (HR (by rw[M];exact hnd) λa ha b hb e=>I1.ok.inj a.1 b.1 a.2 (w a ha).1$ by rw[e];exact(w b hb).1) hcl hxs;have hrs:Reps X.K (lend E.heap ((5:).map (·.2)) A) qS (L++[.ref K]) (l++[.clo m j J]):=(rvs.mono B).append$ .cons N .nil;have hln:(L++[V.ref K]).length=n:=by rw[cD,rvs.length];exact hn
 have sp:spF X.K n F (L++[.ref K]) (lend E.heap ((5:).map (·.2)) A) (λv H'=>Same (lend E.heap ((5:).map (·.2)) A) H'/\RetOk X.K (lend E.heap ((5:).map (·.2)) A) H' v r) E0:=⟨hln,_,r,hrs,hF,λv H' a b=>⟨a,b⟩⟩
 have hl2:T.length=ps.length:=by rw[<-rw_.length];exact Fn.len _ _ _ _ sp
 have bd:=hb E T I1.kIn (by rw[cZ];exact hl2);rw[cZ]at bd;refine oU$ fR (Fn.run X.A X.stack E _ ⟨T,[]⟩ T _ _ E0 hr e0 bd rw_ sp) λrr s' P=>?_;cases rr with
 |error e=>exact P.elim
 |ok fl=>
   cases fl with
   |next=>exact False.elim P
   |brk=>exact False.elim P
   |cont=>exact False.elim P
   |ret u=>
     obtain⟨v,H',os,bare,un,hok,rv,sm3,ro⟩:=P;obtain⟨un',R,hcf⟩:=ZH S un hok;have C:∀c∈(5:).map (·.2),∃o,H' c=aa (.frz o exT):=λc h=>let ⟨o,_,e,_⟩:=hcf c h;⟨o,e⟩;have nin:∀{b:aF}{u:HO},A b=aa u->b∉(5:).map (·.2):=λ{b u} e z=>by rw[(S b z).1]at e;cases e
     have sm4:Same A (unlend ((5:).map (·.2)) H'):=λb u e=>by rw[jE$ nin e];exact sm3 _ _$ B _ _ e
     have hold:∀a,Old H a->Old (lend E.heap ((5:).map (·.2)) A) a:=λa z=>(z.mono sm1).mono B;refine⟨v,_,I1.call' (ch:=[]) os un' R bare (λb z=>by cases z),rv,q v _ (sm1.trans sm4) ?_⟩;cases r with
     |val d=>exact(Rep.less hold ro).unlend C Y
     |any d=>exact Rep.unlend C Y ro
     |obj t=>cases Y
     |fresh l'=>
       obtain⟨a,ys,rfl,Z,h2,h3⟩:=ro;have na:a∉(5:).map (·.2):=λz=>by obtain⟨_,ob,_,hob,_⟩:=S a z;rw[BO z hob]at Z;cases Z
       refine⟨a,ys,rfl,sm1.free$ by rw[yS na]at Z;exact Z,by rw[jE na];exact h2,?_⟩;exact Reps.unlend C Y$ h3.less λb z=>z.elim .inl λz=>.inr$ hold b z
open PySem.W (tabIn CodeHd tabObj kla_callFunE kla_codeExpr FnAt callWith_F envX)
structure Mkr(K:Frag)(x:Str)(m:Nat)(st:Stmt)(f c P:aF):Prop where
 mem:makers[m]?=some x
 tab:tabM K x=some (c,P)
 tx:∀n,rJ K m n=(RI x (qJ st))[n]?
 inq:∀l c,nS K x l c=x++".<locals>."++DO (qJ st) l c
 cd:∀oc od fd sl,K.lookup f=some ⟨oc,od,.func fd,sl⟩->fd.code=.ref c
def mkr_met{K:Frag}{st:Stmt}{kV doc pm z ct:Value}(hm:makers[m]?=aa x)(U:meths.lookup x=aa (C,y))(a0:aH K mainGlobals C=aa (aa v))(a:cG K v y=aa (aa$ .ref f))(l:K.lookup f=aa ⟨oc,od,.func$ dL y qual (yD st) (qJ st) (zJ st) .none kV doc pm an z ct,sl⟩)(h3:z=.ref c)(h4:K.lookup c=aa ⟨oc',od',.fields vs,J⟩)(Y:(vs[11]?:Option Value)=aa (.ref P)):Mkr K x m st f c P:=by
 subst h3;have a:fnAt K x=aa (aa$ .ref f):=by unfold fnAt;simp[U,a0,a]
 refine⟨hm,by unfold tabM;simp[a,l,h4,Y],λn=>by unfold rJ;simp[hm,aZ,a,l],λ_ _=>by unfold nS;simp[a,l],λg d h b e=>?_⟩;rw[l]at e;cases e;rfl
def fun_okM{K:Frag}{st:Stmt}(U:Fun K x qual st f fd)(S:FnScope N ps (zJ st))(M:Mkr K Y m st f c Q)(z:∀A outer s H E,Room k (A.deeper$ iM qual (zJ st) s.heap.objs.size f$ .ref c)->PSsv (cxOf CX0 P w K mg base N qual (zJ st) f (.ref c) A outer s H E).nox (qJ st) g)(J:∀ds r,ds.length=ps.length->F ds=aa r->Does g N.length ds r):FnOk P w K mg base CX0 (k+1) f fd ps (spF K ps.length F):=by
 obtain⟨L,I,kV,doc,pm,R,d,ct,p,rfl,lk,a⟩:=U.ex;obtain rfl:d=.ref c:=M.cd _ _ _ _ lk;refine aGs lk a S (λn H Q E h=>h.1) λA outer s H n Q E B h=>?_;obtain⟨C,ds,r,j,e,q⟩:=h;obtain⟨t,y,l⟩:=z A outer s H E B;refine⟨t,y.nox,?_⟩;have o:=CZ (N:=N) j;rcases J ds r (by rw[<-j.length];exact C) e with b|⟨rfl,D,b⟩
 . exact l H H qS _ _ [] _ _ o b λv i s r _=>q v i s r
 . exact l H H qS _ _ [] _ _ o b λG i O u=>q .non i u.same .non
noncomputable def lamCk(sc esc:Scope)(is:List Nat)(N:List Str):Bool:=(sc.names.all λy=>y.2 != iZ.free||esc.names.lookup y.1==aa iZ.cell)&&decide (freeR sc.names).Nodup&&decide ((is.map λi=>N[i]?)=(freeR sc.names).map aa)
def aEp{st:Stmt}(M:Mkr X.K x m st f c P)(Y:lamCk scope X.env.scope is X.N=ae)(z:X.env.code=.ref c:=by rfl)(J:X.env.qual=x++".<locals>.":=by rfl)(hi:DO (qJ st) pos.line pos.col = "<lambda>":=by rfl)(U:defaultsOf params X.env=([],[]):=by rfl)(hs:aG [.Lambda params body scope pos] X.env=(ag,cA (.Lambda params body scope pos) X.env)::aG [] X.env:=by rfl):PAl X [.Lambda params body scope pos] zT ⟨x++".<locals>."++"<lambda>",params,.expr body,scope⟩ (5:):=by
 rw[<-J];refine pal_one (dI M.mem) M.tab z (by rw[M.inq,hi,J]) (λy a b=>.inl ?_) U hs;unfold lamCk at Y;simp only[bY]at Y;have:=iR.mp Y.1.1 y a;rw[b]at this;simp[bne_self_eq_false,tJ,beq_iff_eq]at this;exact this
section
variable{st:Stmt}
def aDm(C:Cal X.prog X.w X.K X.mg X.base x k n F)(hr:Room j' X.A)(M:Mkr X.K y m st f c P)(ha:PAl X (e::es) g t (jB X.env t.scope.names []))(U:(RI y$ qJ st)[j]?=aa t)(z:lamCk t.scope X.env.scope is X.N=ae)(hj:k<=j':=by decide)(hfn:∀x,X.fn x=ae:=by exact λ_=>rfl)(hg:Gl X x:=by rfl)(hdb:(2:)=ag:=by decide)(he:aG (e::es) X.env=(ag,cA e X.env)::aG es X.env:=by rfl)(Y:(dJ pos$ aG es X.env).any (·.1)=ag:=by rfl):PV X (.Call (.Name x p) (e::es) [] pos) (qT n (ncF F)$ lamA m j is g):=by
 obtain⟨Z,W,V,T,R,B,N⟩:=C.ex;refine⟨λA H Q=>∀w s,Inv X w A H s->bG (1:) X.A (cA (.Call (.Name x p) (e::es) [] pos) X.env) (EP X w A Q) X.xe s,λw s A H Q I h=>h w s I,λH₀ H O A D hd d Q o b q w s I=>?_⟩;unfold qT lamA at b;unfold lamCk at z;simp only[bY,decide_eq_true_eq]at z;cases J:g D with
 |none=>rw[J]at b;cases b
 |some l=>
   cases hc:capsA is D with
   |none=>rw[J,hc]at b;cases b
   |some u=>
     rw[J,hc]at b;simp only[aZ,cW]at b;split at b
     . rename_i L;unfold ncF at b;cases hF:F (l++[.clo m j u])with
       |none=>rw[hF]at b;cases b
       |some r=>
         rw[hF]at b;simp[aZ]at b;by_cases i:ncR r=ae
         . rw[if_pos i]at b;refine aHq T (hr.mono hj) N B R ha ((M.tx j).trans U) rfl hfn (λy K B=>?_) z.1.2 z.2 hg hdb he Y I o J hc (by simpa using L) hF i λv S E G=>q v S E$ BJ G b λa ha=>o.old ha;have:=iR.mp z.1.1 y K;rw[B]at this;simp[bne_self_eq_false,tJ,beq_iff_eq]at this;exact this
         . rw[if_neg i]at b;cases b
     . cases b
end
structure LamScope(ps:List Str)(sc:Scope):Prop where
 kind:sc.kind=.function
 co:sc.isCoroutine=false
 gen:sc.isGenerator=false
 nocell:∀y∈sc.names,y.2≠iZ.cell
 par:∀x∈ps,sc.names.lookup x=some .local
 fre:∀x∈freeR sc.names,sc.names.lookup x=some .free
 nd:(ps++freeR sc.names).Nodup
noncomputable def lamSc(ps:List Str)(sc:Scope):Bool:=sc.kind==.function&&!sc.isCoroutine&&!sc.isGenerator&&(sc.names.all λy=>y.2 != iZ.cell)&&(ps.all λx=>sc.names.lookup x==aa .local)&&((freeR sc.names).all λx=>sc.names.lookup x==aa .free)&&decide (ps++freeR sc.names).Nodup
def ZL(h:lamSc ps sc=ae):LamScope ps sc:=by unfold lamSc at h;simp only[bY,uG,beq_iff_eq,decide_eq_true_eq,iR,bne_iff_ne,ne_eq]at h;exact⟨h.1.1.1.1.1.1,h.1.1.1.1.1.2,h.1.1.1.1.2,h.1.1.1.2,h.1.1.2,h.1.2,h.2⟩
noncomputable def lamCx(P:bW)(w:cT)(K:Frag)(mg:Str->Option Value)(base:Heap)(ps:List Str)(t:LamT)(f:aF)(cd:Value)(cl:List (Str×aF))(A:dF)(outer:List Env)(s:aW)(H:Hp):Cx where
 prog:=P
 w:=w
 K:=K
 mg:=mg
 base:=base
 A:=A.deeper (envX t.qual t.scope s.heap.objs.size f cd cl)
 N:=ps++freeR t.scope.names
 s₀:=s
 H₀:=H
 env:=envX t.qual t.scope s.heap.objs.size f cd cl
 outer:=outer
 stack:=envX t.qual t.scope s.heap.objs.size f cd cl::outer
 ex:=[]
 fn:=λ_=>ag
 calm:=ae
 pn:=[]
 xe:=λ_ _=>False
theorem xY{J:Type}:∀{l:List (Str×J)}{x:Str}{a:J},(l.map (·.1)).Nodup->(x,a)∈l->l.lookup x=aa a
 |[],_,_,_,h=>by cases h
 |(y,b)::r,x,a,nd,h=>by
   rw[aQ,bK]at nd;rw[cJ];rcases aA.mp h with e|e
   . cases e;simp
   . have:(x==y)=ag:=beq_eq_false_iff_ne.mpr λz=>nd.1 (by rw[<-z];exact bQ.mpr ⟨_,e,rfl⟩);rw[this];exact xY nd.2 e
theorem TX:∀{l:List (Str×aF)}{x y:Str}{a:aF},(l.map (·.2)).Nodup->(x,a)∈l->(y,a)∈l->x=y
 |[],_,_,_,_,h,_=>by cases h
 |p::r,x,y,a,nd,h1,h2=>by
   rw[aQ,bK]at nd;rcases aA.mp h1 with c|c<;>rcases aA.mp h2 with b|b
   . rw[<-c]at b;cases b;rfl
   . exact(nd.1$ by rw[<-c];exact bQ.mpr ⟨_,b,rfl⟩).elim
   . exact(nd.1$ by rw[<-b];exact bQ.mpr ⟨_,c,rfl⟩).elim
   . exact TX nd.2 c b
def ClosOk.mem{cl:List (Str×aF)}{xs:List V}(h:ClosOk H O cl xs):∀{p:Str×aF},p∈cl->∃o u w,H p.2=aa (.frz o u)/\o.data=.cell (aa w):=
 h.rec (motive:=λcl _ _=>∀{p:Str×aF},p∈cl->∃o u w,H p.2=aa (.frz o u)/\o.data=.cell (aa w)) (λz=>nomatch z) λ_ h d _ _ i p z=>(aA.mp z).elim (λe=>e▸⟨_,_,_,h,d⟩) i
def ClosOk.get{cl:List (Str×aF)}{xs:List V}(h:ClosOk H O cl xs):∀{i:Nat}{v:V},xs[i]?=aa v->∃p o u w,cl[i]?=aa p/\H p.2=aa (.frz o u)/\o.data=.cell (aa w)/\RelV v w:=
 h.rec (motive:=λcl xs _=>∀{i:Nat}{v:V},xs[i]?=aa v->∃p o u w,cl[i]?=aa p/\H p.2=aa (.frz o u)/\o.data=.cell (aa w)/\RelV v w) (λz=>by cases z) λ_ h d r _ j i v z=>by
  cases i with
  |zero=>cases z;exact⟨_,_,_,_,rfl,h,d,r⟩
  |succ i=>exact j z
theorem ClosOk.length{cl:List (Str×aF)}{xs:List V}(h:ClosOk H O cl xs):cl.length=xs.length:=h.rec rfl λ_ _ _ _ _=>congrArg (·+1)
def NB{ps:List Str}{i:Nat}{u:Value}(h1:ps[i]?=aa x)(h2:z[i]?=aa u):(x,u)∈(ps.zip z).reverse:=by rw[cR];refine dI (i:=i) ?_;rw[List.getElem?_zip_eq_some];exact⟨h1,h2⟩
theorem AI:∀{ps:List Str}{z:List Value},z.length=ps.length->(ps.zip z).map (·.1)=ps
 |[],_,_=>by simp
 |p::ps,[],h=>by cases h
 |p::ps,u::z,h=>by simp only[List.zip_cons_cons,aQ,List.cons.injEq,true_and];exact AI (by simpa using h)
def inv_lam{K:Frag}(S:LamScope ps t.scope)(hd:A.handled=ac)(J:Env0 P w K mg base A outer s H)(hl:us.length=ps.length)(r:Vals vs us)(U:cl.map (·.1)=freeR t.scope.names)(hnd:(cl.map (·.2)).Nodup)(hco:ClosOk H O cl xs)(hns:Y.Ns s.heap.objs.size (λx=>(ps.zip us).reverse.lookup x))(hk:∀b o,s.heap.get? b=aa o->Y.get? b=aa o):Inv (lamCx P w K mg base ps t f cd cl A outer s H) [] ((vs++xs).map aa) H {s with heap:=Y,toks:=tk}:=by
 have k:(cl.map (·.1)).Nodup:=by rw[U];exact(cH.mp S.nd).2.1
 have m:=(cH.mp S.nd).1;have g:vs.length=ps.length:=by rw[r.length];exact hl
 have cellAt:∀y c,cl.lookup y=aa c->∃o u v,H c=aa (.frz o u)/\o.data=.cell (aa v)/\s.heap.get? c=aa o:=λy c h=>by obtain⟨o,u,v,d,a⟩:=hco.mem$ cU h;exact⟨o,u,v,d,a,(J.hok _ _ d).1⟩
 have j:∀{b:aF}{p:Prop},b∈([]:List aF)->p:=λz=>by cases z
 refine⟨⟨J.mod,S.kind,rfl,rfl,aL _,λy z c d a=>TX hnd (cU d)$ cU a,λy e=>?_,(λy c G=>by cases G),λ_=>hd,dF.frames_deeper J.frames,.inr ⟨rfl,rfl⟩,λb z=>j z,J.bs,J.bsz,λb _ _ z=>j z,λb z=>j z,J.funs,J.frf⟩,
  rfl,J.bare,Un.kept hk,⟨_,hns,λi y v d a q=>?_⟩,λy c h=>?_,J.hok.fresh$ aL _,λy c h=>?_,λp n=>(by cases(n)),J.hok.kept hk,?_⟩
 . have e:t.scope.names.lookup y=aa .cell\/t.scope.names.lookup y=aa .free:=e;rcases e with e|e
   . exact absurd rfl$ S.nocell _$ cU e
   . have:y∈cl.map (·.1):=by
      rw[U];unfold freeR;rw[cR];exact bQ.mpr ⟨(y,.free),fD.mpr ⟨cU e,rfl⟩,rfl⟩
     obtain⟨p,n,rfl⟩:=bQ.mp this;exact⟨p.2,xY k n⟩
 . have d:(ps++freeR t.scope.names)[i]?=aa y:=d;rw [bB]at a;by_cases hi:i<ps.length
   . rw [bO hi]at d;rw [bO (by rw [g];exact hi)]at a;cases hv:vs[i]? with
     |none=>rw[hv]at a;cases a
     |some D=>rw[hv]at a;cases a;obtain⟨u,F,E⟩:=r.get hv;refine⟨u,E,.inl ⟨S.par y$ dI d,?_⟩⟩;refine xY ?_$ NB d F;rw[aCb,AI hl];exact rF.mpr$ m.imp λh=>Ne.symm h
   . have l:ps.length<=i:=Nat.le_of_not_lt hi;rw [cE l]at d;rw [cE (by rw [g];exact l),g]at a;cases hv:xs[i - ps.length]? with
     |none=>rw[hv]at a;cases a
     |some D=>
       rw[hv]at a;cases a;obtain⟨p,o,u,C,B,M,L,I⟩:=hco.get hv;have e:p.1=y:=by
        have:(cl.map (·.1))[i-ps.length]?=aa p.1:=by rw[bB,B];rfl
        rw[U,d]at this;exact(Option.some.inj this).symm
       subst e;refine⟨C,I,.inr ⟨.inr$ S.fre _$ dI d,p.2,xY k$ dI B,o,hk _ _ (J.hok _ _ M).1,L⟩⟩
 . obtain⟨o,u,v,d,a,q⟩:=cellAt y c h;exact⟨_,o,hk _ _ q,a⟩
 . obtain⟨o,u,v,d,a,q⟩:=cellAt y c h;exact .inr ⟨rfl,o,u,d⟩
 . show((vs++xs).map aa).length=(ps++freeR t.scope.names).length;rw[bS,cD,cD,g,<-U,bS,hco.length]
def ok_vals{K:Frag}(r:Reps K H qS vs ds):Ok K H H qS (vs.map aa) (ds.map Sl.v) []:=by
 have no:∀i,IsOwn (ds.map Sl.v) i->False:=λi ⟨l,e⟩=>by
  rw[bB]at e;cases h:ds[i]? with
  |none=>rw[h]at e;cases e
  |some d=>rw[h]at e;cases e
 refine⟨Same.refl _,λi l a e _=>(no i ⟨l,e⟩).elim,λ_ z=>z.elim,by simp[r.length],λi s e=>?_,λi j a _ hi _ _ _=>no i hi,(λp b=>nomatch b),.no λi r t e=>by
  rw[bB]at e;cases h:ds[i]? with
  |none=>rw[h]at e;cases e
  |some d=>rw[h]at e;cases e⟩
 rw[bB]at e;obtain⟨d,h,rfl⟩:=mpd e;obtain⟨v,f,c⟩:=r.get h;rw[bB,f];exact yN c
def TQ{K:Frag}(h:rJ K m n=aa t):m≠1000:=by
 rintro rfl;have e:makers[1000]?=ac:=by decide
 unfold rJ at h;cases h
def FnIn(K:Frag)(j:Nat):Prop:=∃(f:aF) (J:Value) (od:Option aF) (fd:bR) (z:Array (Option Value)),aH K mainGlobals (uR j)=aa (aa$ .ref f)/\K.lookup f=aa ⟨J,od,.func fd,z⟩
structure FnV(K:Frag)(mg:Str->Option Value)(j:Nat):Prop where
 ex:∃f:aF,aH K mainGlobals (uR j)=some (some (.ref f))/\mg (uR j)=some (.ref f)
def Rep.cloInv{K:Frag}(hm:m≠1000)(h:Rep K H O (.ref f) (.clo m n ds)):∃t cl xs,rJ K m n=aa t/\LamAt H O f t cl/\cl.map (·.1)=freeR t.scope.names/\(cl.map (·.2)).Nodup/\ClosOk H O cl xs/\Reps K H O xs ds:=by
 cases h with
 |clo tx c e nd a b=>exact⟨_,_,_,tx,c,e,nd,a,b⟩
 |fnK h=>exact absurd rfl hm
def oG(P:bW)(w:cT)(K:Frag)(mg:Str->Option Value)(base:Heap)(k m n:Nat)(F:List D->List D->Option Ret):Prop:=∀(A:dF) (outer:List Env) (s:aW) (H:Hp) (f:aF) (z:List D) (J:List Value) (vs:List V) (as:List D) (r:Ret) (Q:VK),Room k A->Env0 P w K mg base A outer s H →
 Rep K H qS (.ref f) (.clo m n z)->Vals vs J->Reps K H qS vs as->F z as=aa r->(∀v a,Same H a->RetOk K H a v r->Q v a)->gA (aT P w) A (.call (.ref f) ⟨J,[]⟩) (CR CX0 outer P w H s Q E0) s
def aFx{K:Frag}(htx:rJ K m n=aa t)(S:LamScope ps t.scope)(hbd:t.body=.expr body)(Y:∀fd,fd.params=t.params->fd.defaults=.none->fd.kwdefaults=.none->∀us,us.length=ps.length->rQ fd ⟨us,[]⟩=pure (ps.zip us))(U:∀f cd cl A outer s H,Room k (A.deeper$ envX t.qual t.scope s.heap.objs.size f cd cl)->PVn (lamCx P w K mg base ps t f cd cl A outer s H) body g):oG P w K mg base (k+1) m n (lamF ps.length g):=by
 intro A outer s H f caps us vs as r Q I C x rv ra h q;unfold lamF at h;split at h
 . rename_i R;obtain ⟨d,hg,h⟩:=bnd h;split at h
   . rename_i N;cases h
     . obtain ⟨t',cl,xs,tx,la,e,nd,O,rx⟩:=x.cloInv (TQ htx);rw [htx]at tx;cases tx;obtain ⟨_,o,oc,u,uc,fd,c,E,tq,h1,h2,h3,h4,h5,h6,T,h8,h9,h10,h11,B,Z,h14,X,W,V⟩:=la;have G:=C.mod.nolimit.keeps λb o e=>(C.bs b o e).1;have ho:=(C.hok f _ h1).1;have L:=(C.hok c _ X).1;have l:us.length=ps.length:=by rw [<-rv.length,ra.length];exact R
       refine kla_callFunE I.depth ho h3 (by rw[T];exact S.co) (by rw[T];exact S.gen) (h6.trans hbd) ⟨c,oc,E,tq,B,L,W,by rw[h4];exact V⟩ ?_;rw[Y fd h5 h10 h11 us l,T,h8,h9,h4,B,Z];refine aO$ wpAny_newFunctionEnv S.nocell (λy hy=>S.par _ (pW hy).1) (λh₁ M p=>⟨G.fresh _ p,?_⟩) S.kind;have i:=λb o e=>p.extBut b o (bJ$ bA e)$ aD _ e;obtain⟨tt,pt,rt⟩:=U f (.ref c) cl A outer s H$ I.deeper _;refine kla_codeExpr$ dD (pt [] _ _ H (λv j=>Same H j/\Rep K j qS v d) (inv_lam S I.hd C l rv e nd O M i)$ rt H H qS _ _ [] d _ (ok_vals$ ra.append rx) hg λv j D F=>⟨D,F⟩) (λuu s' zq=>?_) λe s' z=>z.elim;obtain⟨v,j,J,ru,D,F⟩:=zq;exact⟨v,j,J.os,J.bare,J.base,J.hok,ru,q v j D$ F.flatten (λa z=>z.mono D) N⟩
   . cases h
 . cases h
structure CloOk(P:bW)(w:cT)(K:Frag)(mg:Str->Option Value)(base:Heap)(k:Nat)(Φ:Fun2):Prop where
 hold:∀(H:Hp) (h:Heap) (v:V) (d:D) (as:List D) (r:Ret),Rep K H qS v d->Φ d as=some r->L2.HOk P w H h->K.In h->∃f,v=.ref f/\FnAt f h
 run:∀(A:dF) (outer:List Env) (s:aW) (H:Hp) (f:aF) (d:D) (us:List Value) (vs:List V) (as:List D) (r:Ret) (Q:VK),Room k A->Env0 P w K mg base A outer s H->Rep K H qS (.ref f) d->Vals vs us->Reps K H qS vs as->Φ d as=some r->(∀v H',Same H H'->RetOk K H H' v r->Q v H') →
  gA (aT P w) A (.call (.ref f) ⟨us,[]⟩) (CR CX0 outer P w H s Q E0) s
theorem kC{z U:Type}[BEq z][LawfulBEq z]:∀{l:List (z×U)}{x:z}{a:U},l.lookup x=aa a->(x,a)∈l
 |[],_,_,h=>by cases h
 |(y,b)::r,x,a,h=>by
   rw[cJ]at h;cases J:x==y with
   |true=>rw[J]at h;cases h;rw[beq_iff_eq.mp J];exact aP
   |false=>rw[J]at h;exact aJ _$ kC h
structure CalV(P:bW)(w:cT)(K:Frag)(mg:Str->Option Value)(base:Heap)(j k n:Nat)(F:List D->Option Ret):Prop where
 ex:∃(f:aF) (fd:bR) (ps:List Str) (oc:Value) (od:Option aF) (osl:Array (Option Value)),FnOk P w K mg base CX0 k f fd ps (spF K n F)/\Binds K fd ps []/\aH K mainGlobals (uR j)=some (some (.ref f))/\K.lookup f=some ⟨oc,od,.func fd,osl⟩
def CalV.fin{K:Frag}(C:CalV P w K mg base j k n F):FnIn K j:=by obtain⟨f,g,h,c,b,a,_,_,e,d⟩:=C.ex;exact⟨f,c,b,g,a,e,d⟩
def fn_good{K:Frag}(C:CalV P w K mg base j k n F):oG P w K mg base k 1000 j (fnF n F):=by
 intro A outer s H f u c l M r Q D i a p t d q;obtain⟨X,W,y,S,R,B,x,I,L,V⟩:=C.ex;unfold fnF at d;split at d
 . rename_i E;cases a with
   |clo tx T e nd G O=>exact absurd rfl$ TQ tx
   |fnK h=>
     rw[L]at h;cases h;have N:=i.mod.kin.keeps λb o e=>(i.bs b o e).1;have m:spF K n F l H Q E0:=⟨t.length.trans E,M,r,t,d,q⟩
     have g:c.length=y.length:=by rw[<-p.length];exact x.len _ _ _ _ m
     have v:=I s c N (by rw[cZ];exact g);rw[cZ]at v;exact x.run A outer s H ⟨c,[]⟩ c l Q E0 D i v p m
 . cases d
def clo_of{K:Frag}(h:∀p∈l,oG P w K mg base k p.1.1 p.1.2 p.2)(z:∀p∈l,p.1.1=1000->FnIn K p.1.2):CloOk P w K mg base k (phiOf l):=by
 refine⟨λH Z v d t r rep e ok kin=>?_,λA outer s H f d B y t r Q L S rep C D e q=>?_⟩
 . cases d with
   |clo m n a=>
     cases rep with
     |clo tx I e nd N W=>obtain⟨_,o,G,u,T,R,c,x,V,g,j,O,_⟩:=I;have M:=(ok _ _ g).1;obtain⟨a1,a2,Y,U⟩:=o;cases O;exact⟨_,rfl,_,_,_,_,M⟩
     |fnK i=>obtain⟨F,b,e⟩:=bnd e;obtain⟨J,G,X,R,E,g,j⟩:=z _ (kC b) rfl;rw[g]at i;cases i;exact⟨_,rfl,_,_,_,_,kin _ _ j⟩
   |_=>cases e
 . cases d with
   |clo m n a=>obtain⟨F,b,e⟩:=bnd e;exact h _ (kC b) A outer s H f a B y t r Q L S rep C D e q
   |_=>cases e
def pv_fn(V:FnV X.K X.mg j)(J:uR j=x:=by rfl)(U:Gl X x:=by rfl)(z:(2:)=ag:=by decide):PV X (.Name x pos) (zA$ .clo 1000 j []):=by obtain⟨f,b,a⟩:=V.ex;subst J;refine⟨_,BM (v:=.ref f) U a rfl z,λH₀ H O c g hd d Q o e q=>?_⟩;cases e;exact q _ H (Same.refl _)$ .fnK b
def MD(CO:CloOk X.prog X.w X.K X.mg X.base k Φ)(hr:Room j X.A)(ha:PAn X (e::es) g)(hj:k<=j:=by decide)(hN:X.N[i]?=aa x:=by rfl)(hv:Vis X.env.scope x:=by first|exact Or.inl rfl|exact Or.inr (Or.inl rfl)|exact Or.inr (Or.inr rfl))(U:(2:)=ag:=by decide)(Y:(x==("__classdict__":Str))=ag:=by decide)(he:aG (e::es) X.env=(ag,cA e X.env)::aG es X.env:=by rfl)(J:(dJ pos$ aG es X.env).any (·.1)=ag:=by rfl):PV X (.Call (.Name x p) (e::es) [] pos) (callW Φ i g):=by
 obtain⟨t,ht,hf⟩:=ha;refine⟨λc H Q=>∀w s,Inv X w c H s->bG (1:) X.A (cA (.Call (.Name x p) (e::es) [] pos) X.env) (EP X w c Q) X.xe s,λw s c H Q I h=>h w s I,λH₀ H O c Z hd d Q o n q w s I=>?_⟩;obtain⟨fd,E,n⟩:=bnd n;obtain⟨l,h2,n⟩:=bnd n;obtain⟨r,P,n⟩:=bnd n;have M:Z[i]?=aa (.v fd):=by
  unfold qB at E;split at E
  . rename_i d' N;cases E;exact N
  . cases E
 obtain⟨v,L,rv⟩:=o.read M;refine eW$ thn (xD hN hv U Y w s c H (λC y=>C=v/\y=H) I ⟨v,L,rfl,rfl⟩) λu W G=>?_;obtain⟨C,y,S,ru,e1,e2⟩:=G;subst e1 e2;have m:Rep X.K y qS C fd:=rv.less λ_ z=>z.elim;obtain⟨f,rfl,fa⟩:=CO.hold y W.heap C fd l r m P S.hok S.kIn;obtain rfl:u=Value.ref f:=ru;refine callWith_F fa (thn (ht pos w W c y (λB T=>Same y T/\Reps X.K T qS B l) S$ hf H₀ y O c Z hd l _ o h2 λB T a b=>⟨a,b⟩) λus V G=>?_) he J;obtain⟨B,H2,F,r2,D,K⟩:=G;obtain⟨f',e',R⟩:=CO.hold H2 V.heap _ fd l r (m.mono D) P F.hok F.kIn;cases e';refine⟨R,oU$ fR (CO.run X.A X.stack V H2 f fd us B l r Q (hr.mono hj) F.env0 (m.mono D) r2 K P λv H3 a b=>q v H3 (D.trans a)$ BJ b n λa ha=>(o.mono D).old ha) λrr s' A=>?_⟩;cases rr with
 |error e=>exact A.elim
 |ok fl=>
   cases fl with
   |ret u=>exact F.after A
   |next=>exact False.elim A
   |brk=>exact False.elim A
   |cont=>exact False.elim A
noncomputable def exS:Expr->List Expr
 |.Call _ as _ _=>as
 |.Compare l _ cs _=>l::cs
 |.BoolOp _ vs _=>vs
 |.UnaryOp _ o _=>[o]
 |.BinOp l _ r _=>[l,r]
 |.IfExp t b o _=>[t,b,o]
 |.List es _=>es
 |.Tuple es _ _=>es
 |.Subscript v i _=>[v,i]
 |_=>[]
noncomputable def exA(i:Nat)(e:Expr):Expr:=(exS e).getD i$ .Name "" ⟨0,0,0,0⟩
noncomputable def stE:Stmt->Expr
 |.Assign _ e _=>e
 |.Return (aa e) _=>e
 |.Expr e _=>e
 |.If t _ _ _=>t
 |_=>.Name "" ⟨0,0,0,0⟩
noncomputable def stN(i:Nat)(l:List Stmt):Stmt:=l.getD i$ .Pass ⟨0,0,0,0⟩
noncomputable def laBody:Expr->Expr
 |.Lambda _ b _ _=>b
 |_=>.Name "" ⟨0,0,0,0⟩
noncomputable def laArgs:Expr->Arguments
 |.Lambda a _ _ _=>a
 |_=>{posonlyargs:=[],args:=[],vararg:=ac,kwonlyargs:=[],kw_defaults:=[],kwarg:=ac,defaults:=[]}
noncomputable def laScope:Expr->Scope
 |.Lambda _ _ s _=>s
 |_=>{kind:=.function,names:=[],isGenerator:=ag,isCoroutine:=ag}
noncomputable def laT(x:Str)(e:Expr):LamT:=⟨x++".<locals>."++"<lambda>",laArgs e,.expr$ laBody e,laScope e⟩
open PySem.W (tabIn CodeHd tabObj makeFunction_K makeFunction_hit fnMade fnX nestDef_K kla_callFunE envX)
theorem oG.mono{K:Frag}(h:oG P w K mg base j m n F)(z:j<=k):oG P w K mg base k m n F:=
 λA outer s H f a c b e r Q d=>h A outer s H f a c b e r Q$ d.mono z
def JM{st:List Stmt}: KR X st:=⟨λ_ _ _=>False,λ_ _ _ _ _ _ h=>h.elim⟩
open PySem.W (tabIn CodeHd)
def aGo{P:bW}{w:cT}{K:Frag}{mg:Str->Option Value}{base:Heap}{x J qual:Str}{st:Stmt}{f c Y C:aF}{fd:bR}{N ps:List Str}{k m:Nat}{R:List D->Bool}(Fn:Fun K x qual st f fd)(S:FnScope N ps (zJ st))(M:Mkr K J m st f c Y){g:List Sl->Bool}(z:∀(A:dF) (outer:List Env) (s:aW) (H:Hp) (E:XK),Room k (A.deeper$ iM qual (zJ st) s.heap.objs.size f$ .ref c)->PSsy (cxOf (CXM P w) P w K mg base N qual (zJ st) f (.ref c) A outer s H E) E C (qJ st) g)(U:∀ds,ds.length=ps.length->R ds=ae->g (args N.length ds)=ae):FnOk P w K mg base (CXM P w) (k+1) f fd ps (spX K ps.length R C):=by obtain⟨B,y,kV,doc,pm,F,b,ct,n,rfl,lk,a⟩:=Fn.ex;obtain rfl:b=.ref c:=M.cd _ _ _ _ lk;refine aGs lk a S (λj H Q E h=>h.1) λA outer s H j Q E p h=>?_;obtain⟨r,ds,d,e,q⟩:=h;obtain⟨t,o,u⟩:=z A outer s H E p;exact⟨t,o,u H H qS _ _ [] _ (CZ (N:=N) d) (U ds (by rw[<-d.length];exact r) e) (λi v l=>aCd$ q v l) q⟩
end FL
namespace L2
end L2
namespace FL
end FL
namespace L2
open Builtin Builtin.Str
end L2
namespace FL
section
variable{id:String}
theorem HG{K:Frag}:∀(l:List Str),Reps K H O (l.map V.str)$ l.map D.str
 |[]=>.nil
 |a::l=>.cons (.str a)$ HG l
end
section
variable{E:XK}{C:aF}
def pe_or{e:Expr}{t u:TE}(h1:PE X e t)(h2:PE X e u):PE X e (λσ H Q=>t σ H Q\/u σ H Q):=λa s σ H Q I h=>h.elim (h1 a s σ H Q I)$ h2 a s σ H Q I
end
end FL
namespace L2
end L2
namespace FL
section
variable{K:Frag}{H H' H₀:Hp}{O O':aF->Prop}
abbrev orL(fs:List aF)(O:aF->Prop):aF->Prop:=λb=>b∈fs\/O b
theorem Rep.moreL:∀{ps:List aF},(∀p∈ps,H p=ac)->Rep K H O v d->Rep K H (orL ps O) v d
 |[],_,h=>h.less λa z=>z.elim (λq=>nomatch q) id
 |p::ps,J,h=>((Rep.moreL (ps:=ps) (λq b=>J q$ .tail _ b) h).more (p:=p)$ J p$ .head _).less λa z=>z.elim (λq=>(aA.mp q).elim .inl λq=>.inr$ .inl q) λq=>.inr$ .inr q
theorem Reps.moreL:∀{ps:List aF},(∀p∈ps,H p=ac)->Reps K H O v d->Reps K H (orL ps O) v d
 |[],_,h=>h.less λa z=>z.elim (λq=>nomatch q) id
 |p::ps,J,h=>((Reps.moreL (ps:=ps) (λq b=>J q$ .tail _ b) h).more (p:=p)$ J p$ .head _).less λa z=>z.elim (λq=>(aA.mp q).elim .inl λq=>.inr$ .inl q) λq=>.inr$ .inr q
theorem RepO.moreL:∀{ps:List aF},(∀p∈ps,H p=ac)->RepO K H O v t fs->RepO K H (orL ps O) v t fs
 |[],_,h=>h.less (λa z=>z.elim (λq=>nomatch q) id) λb c=>.inr (h.owns b c).1
 |p::ps,J,h=>((RepO.moreL (ps:=ps) (λq d=>J q$ .tail _ d) h).more (p:=p)$ J p$ .head _).less (λa z=>z.elim (λq=>(aA.mp q).elim .inl λq=>.inr$ .inl q) λq=>.inr$ .inr q) λb c=>.inr (h.owns b c).1
theorem Ok.moreL(o:Ok K H₀ H O σ ds hd)(s:Same H H')(J:∀b∈fs,H b=ac)(U:∀b∈fs,∃u:MutHO,H' b=aa u.1):Ok K H₀ H' (orL fs O) σ ds hd:=by
 refine⟨o.same.trans s,o.fresh,λb h=>h.elim (U b) λz=>let ⟨xs,e⟩:=o.dom b z;⟨xs,s _ _ e⟩,o.len,λi sl e=>?_,o.apart,λp E=>?_,o.obs.tr (λ_ _ _ r _=>(r.moreL J).mono s) (λ_ _ _ e=>⟨e,rfl⟩) λ_ _ D I=>.inl ⟨D,I⟩⟩
 . cases sl with
   |no=>exact jC
   |ob r t=>exact yQ
   |exc t=>obtain⟨j,L,g,x,f,n,c,m⟩:=o.readX e;rw[f];exact⟨L,g,x,n,s _ _ c,m⟩
   |exf t fs=>obtain⟨j,f,c⟩:=o.readE e;rw[f];exact c.keep λj g x c=>s _ _ c
   |fr y=>obtain⟨j,l,f,n,C,c,m⟩:=o.readF e;rw[f];exact⟨λz=>z.elim (λz=>by rw[J _ z]at c;cases c) n,C,l,s _ _ c,(m.moreL J).mono s⟩
   |v d=>obtain⟨v,w,q⟩:=o.read e;rw[w];exact yN$ (q.moreL J).mono s
   |own y=>obtain⟨b,ys,w,q,G,F⟩:=o.readO e;rw[w];exact⟨.inr q,ys,s _ _ G,(F.moreL J).mono s⟩
 . have:=o.hold p E;cases p with
   |rep v d=>exact(Rep.moreL J this).mono s
   |base B=>exact λb h=>⟨.inr (this b h).1,(this b h).2⟩
   |root k a=>exact True.intro
   |fz j M A y=>exact⟨λz=>z.elim (λz=>by have:=this.2.1;rw[J _ z]at this;cases this) this.1,s _ _ this.2.1,(Reps.moreL J this.2.2).mono s⟩
def Ok.setOb(o:Ok K H₀ H O σ ds hd)(s:Same H H')(r:RepO K H' (orL fs O) v t fs)(nd:fs.Nodup)(J:∀b∈fs,H b=ac):Ok K H₀ H' (orL fs O) (σ.set i$ aa v) (ds.set i$ .ob ac t) hd:=by
 have n:=o.moreL s J λb d=>(r.owns b d).2;have c:∀{j:Nat},IsOwn (ds.set i$ .ob ac t) j->IsOwn ds j/\j≠i:=λh=>xV (λl=>by intro z;cases z) h;refine⟨n.same,λj l a B f=>?_,n.dom,by simpa using n.len,λj sl e=>?_,λj k a E g m B f=>?_,n.hold,?_⟩
 . obtain⟨⟨T,X⟩,D⟩:=c ⟨l,B⟩;rw[aB$ Ne.symm D]at f;exact n.fresh j T a X f
 . by_cases g:j=i
   . subst g;by_cases u:j<ds.length
     . rw[aU u]at e;cases e;exact yQ
     . rw[aX$ by simpa using u]at e;cases e
   . rw[aB$ Ne.symm g]at e;rw[aB$ Ne.symm g];exact n.sl j sl e
 . obtain⟨L,D⟩:=c g;obtain⟨I,S⟩:=c m;rw[aB$ Ne.symm D]at B;rw[aB$ Ne.symm S]at f;exact n.apart j k a E L I B f
 . obtain ⟨F,R⟩:=o.obs;have ne:∀{j:Nat}{y:Option Nat}{x:OT},ds[j]?=aa (.ob y x)->∀b∈F j,b∉fs:=λ{j y x} e b d z=>by obtain⟨w,_,q,_⟩:=R j y x e;obtain⟨_,xs,ex⟩:=q.owns b d;rw[J b z]at ex;cases ex
   refine⟨λj=>if j=i then fs else F j,λj y x e=>?_⟩;by_cases g:j=i
   . subst g;by_cases u:j<ds.length
     . rw [aU u]at e;cases e;refine ⟨v,by rw [aU (by rw [o.len];exact u)],by simpa using r,(λk a z=>by cases z),by simpa using nd,λb d=>?_⟩;have d:b∈fs:=by simpa using d
       refine⟨o.same.free$ J b d,λk N M m f z=>?_,λk ok A=>?_⟩
       . simp[m,if_false]at z;rw[aB$ Ne.symm m]at f;exact ne f b z d
       . obtain⟨⟨Z,f⟩,m⟩:=c ok;rw[aB$ Ne.symm m]at A;obtain⟨U,ys,Q,_,P,_⟩:=o.readO f;rw[A]at Q;cases Q;rw[J b d]at P;cases P
     . rw[aX$ by simpa using u]at e;cases e
   . rw [aB (Ne.symm g)]at e;obtain ⟨w,L,I,W,V,G⟩:=R j y x e;refine ⟨w,by rw [aB (Ne.symm g)];exact L,by simp [g,if_false];exact (I.moreL J).mono s,W,by simpa [g]using V,λb d=>?_⟩;have d:b∈F j:=by simpa [g]using d
     refine⟨(G b d).1,λk N M m f z=>?_,λk ok A=>?_⟩
     . by_cases p:k=i
       . simp[p,if_true]at z;exact ne e b d z
       . simp[p,if_false]at z;rw[aB$ Ne.symm p]at f;exact(G b d).2.1 k N M m f z
     . obtain⟨C,m⟩:=c ok;rw[aB$ Ne.symm m]at A;exact(G b d).2.2 k C A
inductive Kid(H:Hp)(b:aF):List V->Prop
 |tup {xs:List V} (h:Rd H b (.tup xs)):Kid H b xs
 |lst {xs:List V} (h:H b=some (.lst xs)):Kid H b xs
 |dct {kvs:List (Key×V)} (h:H b=some (.dK kvs)):Kid H b (kvs.map (·.2))
 |ins {C dx:aF}{kvs:List (Str×V)} (h:H b=some (.ins C dx kvs)):Kid H b (kvs.map (·.2))
noncomputable def PathV(H:Hp):V->List Nat->V->Prop
 |v,[],w=>w=v
 |v,k::p,w=>∃b xs x,v=.ref b/\Kid H b xs/\xs[k]?=aa x/\PathV H x p w
def Kid.det(h:Kid H b xs)(g:Kid H b ys):xs=ys:=by
 have rd:∀{a ws:List V},Rd H b (.tup a)->Rd H b (.tup ws)->a=ws:=λh g=>by rcases h with h|⟨o,h⟩<;>rcases g with g|⟨e,g⟩<;>rw[h]at g<;>cases g<;>rfl
 have no:∀{a:List V}{u:HO},Rd H b (.tup a)->H b=aa u->(∀ws,u≠.tup ws)->(∀o w,u≠.frz o w)->False:=λh g d c=>by
  rcases h with h|⟨o,h⟩<;>rw[h]at g<;>cases g
  . exact d _ rfl
  . exact c _ _ rfl
 cases h with
 |tup h=>cases g with
   |tup g=>exact rd h g
   |lst g=>exact(no h g (λ_ z=>by cases z) λ_ _ z=>by cases z).elim
   |dct g=>exact(no h g (λ_ z=>by cases z) λ_ _ z=>by cases z).elim
   |ins g=>exact(no h g (λ_ z=>by cases z) λ_ _ z=>by cases z).elim
 |lst h=>cases g with
   |tup g=>exact(no g h (λ_ z=>by cases z) λ_ _ z=>by cases z).elim
   |lst g=>rw[h]at g;cases g;rfl
   |dct g=>rw[h]at g;cases g
   |ins g=>rw[h]at g;cases g
 |dct h=>cases g with
   |tup g=>exact(no g h (λ_ z=>by cases z) λ_ _ z=>by cases z).elim
   |lst g=>rw[h]at g;cases g
   |dct g=>rw[h]at g;cases g;rfl
   |ins g=>rw[h]at g;cases g
 |ins h=>cases g with
   |tup g=>exact(no g h (λ_ z=>by cases z) λ_ _ z=>by cases z).elim
   |lst g=>rw[h]at g;cases g
   |dct g=>rw[h]at g;cases g
   |ins g=>rw[h]at g;cases g;rfl
def xS{p:List Nat}{v x y:V}(h:PathV H v p x)(g:PathV H v p y):x=y:=by
 induction p generalizing v with
 |nil=>exact h.trans g.symm
 |cons k p i=>obtain⟨b,xs,z,l,j,f,e⟩:=h;obtain⟨q,d,o,c,n,a,m⟩:=g;rw[l]at c;cases c;cases j.det n;rw[f]at a;cases a;exact i e m
def YO{p:List Nat}{k:Nat}{v x:V}{b:aF}{xs:List V}(h:PathV H v p (.ref b))(J:Kid H b xs)(z:xs[k]?=aa x):PathV H v (p++[k]) x:=by
 induction p generalizing v with
 |nil=>exact⟨b,xs,x,h.symm,J,z,rfl⟩
 |cons j p i=>obtain⟨c,ys,y,f,e,d,a⟩:=h;exact⟨c,ys,y,f,e,d,i a⟩
theorem wI:∀p k t,subO (p++[k]) t=(subO p t).bind (subO [k])
 |[],k,t=>by simp[subO]
 |j::p,k,t=>by
   cases t with
   |val d=>simp[subO]
   |lst l=>simp only[dP,subO];cases l[j]?<;>simp[wI p k]
   |tup l=>simp only[dP,subO];cases l[j]?<;>simp[wI p k]
   |dct a l=>simp only[dP,subO];cases l[j]?<;>simp[wI p k]
   |ins c l=>simp only[dP,subO];cases l[j]?<;>simp[wI p k]
theorem RepsO.length{xs:List V}{ts:List OT}{fs:List aF}(h:RepsO K H O xs ts fs):xs.length=ts.length:=h.ind (m:=λv d _=>v.length=d.length) rfl λ_=>congrArg (·+1)
theorem RepsO.pick:∀{xs:List V}{ts:List OT}{fs:List aF}{k:Nat}{t:OT},RepsO K H O xs ts fs->ts[k]?=aa t->∃x pre f J,xs[k]?=aa x/\fs=pre++(f++J)/\RepO K H O x t f ∧
  ∀{H':Hp}{O':aF->Prop}{g:OT->OT}{U:List aF},RepO K H' O' x (g t) U->(∀y s e,RepO K H O y s e->(∀b∈e,b∈pre\/b∈J)->RepO K H' O' y s e)->RepsO K H' O' xs (ts.modify k g) (pre++(U++J))
 |_,_,_,0,t,.cons (x:=x) (fs:=f) (gs:=gs) h r,e=>by
   simp only[dA,Option.some.injEq]at e;subst e;refine⟨x,[],f,gs,rfl,rfl,h,λ{H' O' g U} l c=>?_⟩;have:∀{xs:List V}{ts:List OT}{gs':List aF},RepsO K H O xs ts gs'->(∀b∈gs',b∈gs)->RepsO K H' O' xs ts gs':=by
    intro xs ts gs' h;induction xs generalizing ts gs' with
    |nil=>intro _;cases h;exact .nil
    |cons y ys m=>
      intro a;cases h with
      |cons j i=>exact .cons (c _ _ _ j λb z=>.inr$ a b$ aY _ z)$ m i λb z=>a b$ aI _ z
   show RepsO K H' O' _ _ (U++gs);exact .cons l$ this r λ_ z=>z
 |_,_,_,k+1,t,.cons (x:=x) (t:=t0) (fs:=Y) (gs:=gs) h r,e=>by obtain⟨y,pre,f,J,j,i,p,o⟩:=RepsO.pick (k:=k) (t:=t) r (by simpa using e);refine⟨y,Y++pre,f,J,by simpa using j,by rw[i];simp,p,λ{H' O' g U} l c=>?_⟩;have q:=o l λz s u n a=>c z s u n λb d=>(a b d).elim (λz=>.inl$ aI _ z) .inr;have:=RepsO.cons (c _ _ _ h λb a=>.inl$ aY _ a) q;simpa[bL]using this
def YW(nd:(pre++(f++post)).Nodup):f.Nodup/\(∀b∈f,b∉pre/\b∉post)/\∀(J:List aF),J.Nodup->(∀b∈J,b∈f\/(b∉pre/\b∉post))->(pre++(J++post)).Nodup:=by
 rw[cH]at nd;obtain⟨n,i,h⟩:=nd;rw[cH]at i;obtain⟨m,l,k⟩:=i;have j:∀b∈f,b∉pre/\b∉post:=λb c=>⟨λz=>h b z b (aY _ c) rfl,λz=>k b c b z rfl⟩
 refine⟨m,j,λJ p o=>?_⟩;have d:=λb c=>(o b c).elim (j b) id;rw[cH];refine⟨n,?_,λa g b c e=>?_⟩
 . rw[cH];exact⟨p,l,λa g b c e=>(d a g).2$ e▸c⟩
 . rcases bE.mp c with z|z
   . exact(d b z).1 (e▸g)
   . exact h a g b (aI _ z) e
structure Chg(H H':Hp)(O O':aF->Prop)(f:List aF)(f':List aF):Prop where
 keep:∀b u,¬O b->H b=some u->H' b=some u
 rest:∀b u,O b->b∉f->H b=some u->H' b=some u
 sub:∀b,O b->b∉f->O' b
 new:∀b,O' b->O b\/(b∈f'/\H b=none)
 fp:∀b∈f',b∈f\/H b=none
def Chg.rep(c:Chg H H' O O' f J)(r:Rep K H O v d):Rep K H' O' v d:=by
 have i:∀p∈J.filter (λb=>(H b).isNone),H p=ac:=λp h=>by simpa using(fD.mp h).2
 have g:=(r.moreL i).keep λb u j e=>c.keep b u (λz=>j$ .inr z) e;exact g.less λa z=>(c.new a z).elim .inr λq=>.inl (fD.mpr ⟨q.1,by rw[q.2];rfl⟩)
def Chg.reps(c:Chg H H' O O' f J)(r:Reps K H O v d):Reps K H' O' v d:=by
 have i:∀p∈J.filter (λb=>(H b).isNone),H p=ac:=λp h=>by simpa using(fD.mp h).2
 have g:=(r.moreL i).keep λb u j e=>c.keep b u (λz=>j$ .inr z) e;exact g.less λa z=>(c.new a z).elim .inr λq=>.inl (fD.mpr ⟨q.1,by rw[q.2];rfl⟩)
def Chg.repO(c:Chg H H' O O' f U)(r:RepO K H O v t e)(J:∀b∈e,b∉f):RepO K H' O' v t e:=by
 have i:∀p∈U.filter (λb=>(H b).isNone),H p=ac:=λp h=>by simpa using(fD.mp h).2
 have g:=(r.moreL i).keep (λb u d e=>c.keep b u (λz=>d$ .inr z) e) λb d u j=>c.rest b u (r.owns b d).1 (J b d) j;exact g.less (λa z=>(c.new a z).elim .inr λq=>.inl$ fD.mpr ⟨q.1,by rw[q.2];rfl⟩) λb d=>c.sub b (r.owns b d).1$ J b d
theorem RepO.modAt:∀p {v:V}{t u:OT}{fs:List aF},RepO K H O v t fs->fs.Nodup->subO p t=aa u->∃w f,PathV H v p w/\RepO K H O w u f/\f.Nodup/\(∀b∈f,b∈fs) ∧
  ∀{H':Hp}{O':aF->Prop}{u':OT}{J:List aF},Chg H H' O O' f J->RepO K H' O' w u' J->J.Nodup->∃fs',RepO K H' O' v (putO u' p t) fs'/\fs'.Nodup/\(∀b∈fs',b∈fs\/b∈J)/\∀b∈J,b∈fs'
 |[],v,t,u,fs,r,nd,e=>by cases e;exact⟨v,fs,rfl,r,nd,λ_ h=>h,λ{H' O' u' J} c m d=>⟨J,m,d,λb a=>.inr a,λb a=>a⟩⟩
 |k::p,v,t,u,fs,r,nd,e=>by
   have j:∀{xs:List V}{T:List OT}{B:List aF},RepsO K H O xs T B->B.Nodup->(T[k]?).bind (subO p)=aa u->∃x w f,xs[k]?=aa x/\PathV H x p w/\RepO K H O w u f/\f.Nodup/\(∀b∈f,b∈B) ∧
     ∀{H':Hp}{O':aF->Prop}{u':OT}{J:List aF},Chg H H' O O' f J->RepO K H' O' w u' J->J.Nodup->∃gs',RepsO K H' O' xs (T.modify k$ putO u' p) gs'/\gs'.Nodup/\(∀b∈gs',b∈B\/b∈J)/\∀b∈J,b∈gs':=by
    intro xs T B rs X es;obtain⟨t1,ht,es⟩:=bnd es;obtain⟨x,pre,f0,o,G,rfl,h3,h4⟩:=rs.pick ht;obtain⟨nf,Q,W⟩:=YW X;obtain⟨w,f,N,M,L,i,I⟩:=RepO.modAt p h3 nf es;have inn:∀b∈f,b∈pre++(f0++o):=λb a=>aI _$ aY _$ i b a;refine⟨x,w,f,G,N,M,L,inn,λ{H' O' u' J} c m d=>?_⟩;obtain⟨f1,F,E,C,D⟩:=I c m d;have old:∀b,b∈pre++(f0++o)->H b≠ac:=λb a z=>by obtain⟨_,y,ey⟩:=rs.owns b a;rw[z]at ey;cases ey
    refine⟨pre++(f1++o),h4 (g:=putO u' p) F λy s e hy a=>c.repO hy λb hb' z=>?_,W f1 E λb a=>?_,λb a=>?_,λb a=>aI _$ aY _$ D b a⟩
    . exact(a b hb').elim (Q b$ i b z).1 (Q b$ i b z).2
    . rcases C b a with z|z
      . exact .inl z
      . rcases c.fp b z with y|y
        . exact .inl$ i b y
        . exact .inr ⟨λq=>old b (aY _ q) y,λq=>old b (aI _$ aI _ q) y⟩
    . rcases bE.mp a with z|z
      . exact .inl$ aY _ z
      . rcases bE.mp z with z|z
        . exact(C b z).imp (λz=>aI _$ aY _ z) id
        . exact .inl$ aI _$ aI _ z
   have A:∀{l:aF}{B gs' f J:List aF}{H':Hp}{O':aF->Prop},(l::B).Nodup->O l->H l≠ac->Chg H H' O O' f J->gs'.Nodup->(∀b∈gs',b∈B\/b∈J)->(∀b∈f,b∈B)->(l::gs').Nodup/\(∀b∈l::gs',b∈l::B\/b∈J)/\l∉f:=by
    intro l B gs' f J H' O' U oa ha c Z hg hf;obtain⟨Y,_⟩:=bK.mp U;refine⟨bK.mpr ⟨λz=>?_,Z⟩,λb a=>?_,λz=>Y$ hf l z⟩
    . rcases hg l z with y|y
      . exact Y y
      . exact(c.fp l y).elim (λq=>Y$ hf l q) ha
    . rcases aA.mp a with rfl|z
      . exact .inl$ .head _
      . exact(hg b z).imp (λy=>.tail _ y) id
   cases r with
   |val r=>simp[subO]at e
   |tup n h r=>obtain⟨x,w,f,G,N,M,L,i,I⟩:=j r nd e;refine⟨w,f,⟨_,_,x,rfl,.tup h,G,N⟩,M,L,i,λ{H' O' u' J} c m d=>?_⟩;obtain⟨gs',F,E,C,D⟩:=I c m d;refine⟨gs',?_,E,C,D⟩;have kk:Keep O H H':=λb u a eb=>c.keep b u a eb;exact .tup (λz=>(c.new _ z).elim n λq=>Rd.some h q.2) (kk.rd n h) F
   |lst n h r=>obtain⟨x,w,f,G,N,M,L,i,I⟩:=j r (bK.mp nd).2 e;refine⟨w,f,⟨_,_,x,rfl,.lst h,G,N⟩,M,L,λb a=>.tail _$ i b a,λ{H' O' u' J} c m d=>?_⟩;obtain⟨gs',F,E,C,D⟩:=I c m d;obtain⟨S,R,P⟩:=A nd n (by rw[h];simp) c E C i;exact⟨_::gs',.lst (c.sub _ n P) (c.rest _ _ n P h) F,S,R,λb a=>.tail _$ D b a⟩
   |dct n h he r=>obtain⟨x,w,f,G,N,M,L,i,I⟩:=j r (bK.mp nd).2 e;refine⟨w,f,⟨_,_,x,rfl,.dct h,G,N⟩,M,L,λb a=>.tail _$ i b a,λ{H' O' u' J} c m d=>?_⟩;obtain⟨gs',F,E,C,D⟩:=I c m d;obtain⟨S,R,P⟩:=A nd n (by rw[h];simp) c E C i;exact⟨_::gs',.dct (c.sub _ n P) (c.rest _ _ n P h) he F,S,R,λb a=>.tail _$ D b a⟩
   |ins hc n h he r=>obtain⟨x,w,f,G,N,M,L,i,I⟩:=j r (bK.mp nd).2 e;refine⟨w,f,⟨_,_,x,rfl,.ins h,G,N⟩,M,L,λb a=>.tail _$ i b a,λ{H' O' u' J} c m d=>?_⟩;obtain⟨gs',F,E,C,D⟩:=I c m d;obtain⟨S,R,P⟩:=A nd n (by rw[h];simp) c E C i;exact⟨_::gs',.ins hc (c.sub _ n P) (c.rest _ _ n P h) he F,S,R,λb a=>.tail _$ D b a⟩
theorem Ok.modAt(o:Ok K H₀ H O σ ds hd)(e:ds[i]?=aa (.ob r t))(hs:subO p t=aa u):∃v w f,σ[i]?=aa (aa v)/\PathV H v p w/\RepO K H O w u f/\f.Nodup/\(∀b∈f,H₀ b=ac) ∧
   ∀{H':Hp}{O':aF->Prop}{u':OT}{f':List aF},Chg H H' O O' f f'->(∀b∈f,O' b->∃y:MutHO,H' b=aa y.1)->RepO K H' O' w u' f'->f'.Nodup->Ok K H₀ H' O' σ (ds.set i$ .ob r$ putO u' p t) hd:=by
 obtain⟨F,hF⟩:=o.obs;obtain⟨v,h1,R,h3,h4,P⟩:=hF i r t e;obtain⟨w,f,g1,g2,g3,X,g5⟩:=R.modAt p h4 hs;have hl:i<ds.length:=(bC.mp e).1;refine⟨v,w,f,h1,g1,g2,g3,λb g=>(P b$ X b g).1,λ{H' O' u' f'} c hf r' nd'=>?_⟩;obtain⟨fs',A,D,s,W⟩:=g5 c r' nd';have n:∀{j:Nat},IsOwn (ds.set i$ .ob r$ putO u' p t) j->IsOwn ds j/\j≠i:=λh=>xV (λl=>by intro z;cases z) h;have N:∀{j:Nat}{b:aF},IsOwn ds j->σ[j]?=aa (aa$ .ref b)->b∉f:=λ{j b} oj V z=>(P b$ X b z).2.2 j oj V;have S:∀b,H b=ac->H₀ b=ac:=λb g=>o.same.free g;refine⟨λb x eb=>?_,λj l b e1 e2=>?_,λb g=>?_,by simpa using o.len,λj sl L=>?_,λj m b hjm C I e1 e2=>o.apart j m b hjm (n C).1 (n I).1 e1 e2,λq hq=>?_,?_⟩
 . have g:=o.same b x eb;by_cases ob:O b
   . by_cases bf:b∈f
     . rw[(P b$ X b bf).1]at eb;cases eb
     . exact c.rest b x ob bf g
   . exact c.keep b x ob g
 . obtain⟨⟨l',e'⟩,_⟩:=n ⟨l,e1⟩;exact o.fresh j l' b e' e2
 . rcases c.new b g with z|z
   . by_cases bf:b∈f
     . exact hf b bf g
     . obtain⟨y,T⟩:=o.dom b z;exact⟨y,c.rest b _ z bf T⟩
   . exact(r'.owns b z.1).2
 . by_cases C:j=i
   . subst C;rw[aU hl]at L;cases L;exact yQ
   . rw [aB (Ne.symm C)]at L;cases sl with
     |no=>exact jC
     |ob r t=>exact yQ
     |exc t=>obtain⟨a',C',ob',x',A,D,s,W⟩:=o.readX L;rw[A];refine⟨C',ob',x',D,c.keep _ _ (λz=>?_) s,W⟩;obtain⟨y,T⟩:=o.dom _ z;rw[s]at T;have R:=y.2;rw[<-Option.some.inj T]at R;cases R
     |exf t fs=>obtain⟨a',A,s⟩:=o.readE L;rw[A];refine s.keep λa' ob' x' s=>c.keep _ _ (λz=>?_) s;obtain⟨y,T⟩:=o.dom _ z;rw[s]at T;have R:=y.2;rw[<-Option.some.inj T]at R;cases R
     |fr l'=>obtain⟨a',Z,A,D,q0,s,W⟩:=o.readF L;rw[A];exact⟨λz=>(c.new _ z).elim D (λy=>by rw[y.2]at s;cases s),q0,Z,c.keep _ _ D s,c.reps W⟩
     |v d=>obtain⟨v,A,D⟩:=o.read L;rw[A];exact yN$ c.rep D
     |own l''=>obtain⟨b,ys,A,D,s,W⟩:=o.readO L;rw[A];exact⟨c.sub _ D$ N ⟨l'',L⟩ A,ys,c.rest _ _ D (N ⟨l'',L⟩ A) s,c.reps W⟩
 . have:=o.hold q hq;cases q with
   |rep v d=>exact c.rep this
   |base B=>exact λb g=>⟨c.sub _ (this b g).1 λz=>(this b g).2 (P b$ X b z).1,(this b g).2⟩
   |root k a=>exact True.intro
   |fz a' o' kvs' l'=>exact⟨λz=>(c.new _ z).elim this.1 (λy=>by have z:=this.2.1;rw[y.2]at z;cases z),c.keep _ _ this.1 this.2.1,c.reps this.2.2⟩
 . refine ⟨λj=>if j=i then fs' else F j,λj r2 t2 V=>?_⟩;have E:∀ b∈fs',b∈F i\/H b=ac:=λb g=>(s b g).elim .inl λz=>(c.fp b z).imp (X b) id;by_cases C:j=i
   . subst C;rw [aU hl]at V;cases V;refine ⟨v,h1,by simpa using A,h3,by simpa using D,λb g=>?_⟩;have g:b∈fs':=by simpa using g
     rcases E b g with z|z
     . refine⟨(P b z).1,λm U J I M y=>?_,λm Y em=>(P b z).2.2 m (n Y).1 em⟩;simp only[I,if_false]at y;rw[aB$ Ne.symm I]at M;exact(P b z).2.1 m U J I M y
     . refine ⟨S b z,λm U J I M y=>?_,λm Y em=>?_⟩
       . simp only[I,if_false]at y;rw[aB$ Ne.symm I]at M;obtain⟨_,_,w3,_⟩:=hF m U J M;obtain⟨_,x3,G⟩:=w3.owns b y;rw[z]at G;cases G
       . obtain⟨⟨l3,M⟩,_⟩:=n Y;obtain⟨b3,ys,y1,_,y3,_⟩:=o.readO M;rw[em]at y1;cases y1;rw[z]at y3;cases y3
   . rw [aB (Ne.symm C)]at V;obtain ⟨w2,y1,y2,y3,y4,y5⟩:=hF j r2 t2 V;have apart:∀ b∈F j,b ∉ f:=λb g z=>(P b (X b z)).2.1 j r2 t2 C V g;refine ⟨w2,y1,by simp only [C,if_false];exact c.repO y2 apart,y3,by simpa [C]using y4,λb g=>?_⟩;have g:b∈F j:=by simpa [C]using g
     refine⟨(y5 b g).1,λm U J I M z=>?_,λm Y em=>(y5 b g).2.2 m (n Y).1 em⟩;by_cases Q:m=i
     . simp only [Q,if_true]at z;rcases E b z with x|x
       . exact(y5 b g).2.1 i r t (λz=>C z.symm) e x
       . obtain⟨_,x3,G⟩:=y2.owns b g;rw[x]at G;cases G
     . simp only[Q,if_false]at z;rw[aB$ Ne.symm Q]at M;exact(y5 b g).2.1 m U J I M z
end
section
variable(X:Cx)
def PVo(e:Expr)(f:FO):Prop:=∃t,PE X e t/\∀H₀ H O c d hd T Q,Ok X.K H₀ H O c d hd->f d=aa T->(∀v a fs,Same H a->RepO X.K a (orL fs O) v T fs->fs.Nodup->(∀b∈fs,H b=ac)->Q v a)->t c H Q
def PAo(es:List Expr)(f:FOs):Prop:=∃t,PA X es t/\∀H₀ H O c e hd T Q,Ok X.K H₀ H O c e hd->f e=aa T->(∀d a fs,Same H a->RepsO X.K a (orL fs O) d T fs->fs.Nodup->(∀b∈fs,H b=ac)->Q d a)->t c H Q
def PVp(e:Expr)(f:FP):Prop:=∃t,PE X e t/\∀H₀ H O a b hd q Q,Ok X.K H₀ H O a b hd->f b=aa q->(∀r T v w fs,b[q.1]?=aa (.ob r T)->subO q.2.1 T=aa q.2.2->a[q.1]?=aa (aa v)->PathV H v q.2.1 w->RepO X.K H O w q.2.2 fs->Q w H)->t a H Q
end
def QL{K:Frag}{xs:List V}{l:List D}(h:Reps K H O xs l):RepsO K H O xs (l.map OT.val) []:=h.ind (m:=λxs l=>RepsO K H O xs (l.map OT.val) []) .nil λh=>.cons (fs:=[]) (gs:=[])$ .val h
def pvo_v(h:PV X e f):PVo X e (vO f):=by obtain⟨t,g,i⟩:=h;refine⟨t,g,λH₀ H O c l hd T Q o e q=>?_⟩;obtain⟨d,k,rfl⟩:=mpd e;exact i H₀ H O c l hd d Q o k λv m s r=>q v m [] s (.val$ r.less λa z=>z.elim (λq=>nomatch q) id) .nil λb j=>nomatch j
def pvo_l(h:PVf X e f):PVo X e (lO f):=by
 obtain⟨t,d,i⟩:=h;refine⟨t,d,λH₀ H O c n hd T Q o e q=>?_⟩;obtain⟨l,m,rfl⟩:=mpd e;refine i H₀ H O c n hd l Q o m λa xs p s g j r=>q (.ref a) p [a] s ?_ (by simp) λb k=>by rw[aS.mp k];exact g
 exact .lst (.inl$ .head _) j$ QL$ r.less λb z=>z.elim (λq=>.inl$ aS.mp q) .inr
def UY:PAo X [] nilO:=⟨_,jV,λ_ H _ _ _ _ _ _ _ e q=>by cases e;exact q [] H [] (Same.refl _) .nil .nil λb a=>nomatch a⟩
def aEo(J:PVo X e f)(Y:PAo X es g)(U:aG (e::es) X.env=(ag,cA e X.env)::aG es X.env:=by rfl):PAo X (e::es) (consO f g):=by
 obtain⟨t,A,C⟩:=J;obtain⟨K,l,B⟩:=Y;refine⟨_,qL A l U,λH₀ H O n w hd T Q o e q=>?_⟩;obtain⟨x,E,e⟩:=bnd e;obtain⟨r,D,rfl⟩:=mpd e;refine C H₀ H O n w hd x _ o E λv G fs d h j s=>?_;refine B H₀ G (orL fs O) n w hd r _ (o.moreL d s λb c=>(h.owns b c).2) D λI F m p y i k=>?_;have u:∀a,orL (fs++m) O a->orL m (orL fs O) a:=λa z=>z.elim (λz=>(bE.mp z).elim (λz=>.inr$ .inl z) .inl) λz=>.inr$ .inr z;refine q _ F (fs++m) (d.trans p) (.cons ?_ ?_) ?_ ?_
 . exact(((h.moreL k).mono p).less u λb c=>.inl$ aY _ c)
 . exact y.less u λb c=>.inl$ aI _ c
 . rw[cH];refine⟨j,i,λa J b c z=>?_⟩;obtain⟨_,xs,ex⟩:=h.owns a J;rw[z,k b c]at ex;cases ex
 . intro b c;rcases bE.mp c with z|z
   . exact s b z
   . exact d.free$ k b z
def pvo_s(h:PAo X es g):PVo X (.List es pos) (sO g):=by
 obtain⟨t,s,v⟩:=h;refine⟨_,aEi s,λH₀ H O k y hd T Q o e q=>?_⟩;obtain⟨l,w,e⟩:=bnd e;split at e
 . rename_i u;cases e;refine v H₀ H O k y hd l _ o w λi A fs j d nd n=>⟨by rw [d.length];exact u,λp c=>?_⟩
   have m:RepsO X.K (upd A p$ .lst i) (orL (p::fs) O) i l fs:=by have x:∀a,orL (p::fs) O a->orL [p] (orL fs O) a:=λa z=>z.elim (λz=>(aA.mp z).elim (λz=>.inl$ by rw[z];exact .head _) λz=>.inr$ .inl z) λz=>.inr$ .inr z;have r:=d.more c;exact(r.mono$ qF c _).less (λa z=>(x a z).elim (λz=>.inl$ aS.mp z) .inr) λb f=>.inl$ .tail _ f
   refine q _ _ (p::fs) (j.trans$ qF c _) (.lst (.inl$ .head _) bP m) (bK.mpr ⟨λz=>?_,nd⟩) λb f=>?_
   . obtain⟨_,xs,ex⟩:=d.owns p z;rw[c]at ex;cases ex
   . rcases aA.mp f with z|z
     . rw[z];exact j.free c
     . exact n b z
 . cases e
def CS(hN:X.N.Nodup)(Y:PVo X e f)(hi:X.N[i]?=aa x:=by rfl)(z:Loc X.env.scope x:=by first|exact Or.inl rfl|exact Or.inr rfl)(J:eF e (aa$ .Name x pos') pos.line X.env=pure ag:=by rfl)(U:X.fn x=ae\/X.env.scope.names.lookup x=aa .local:=by first|exact .inl rfl|exact .inr rfl):PSv X (.Assign [.Name x pos'] e pos) (setB i f):=by obtain⟨t,c,d⟩:=Y;refine⟨_,JN hN hi z c J U,λH₀ H O a j hd b E o e h=>?_⟩;obtain⟨T,g,rfl⟩:=mpd e;exact d H₀ H O a j hd T _ o g λv k fs s r nd n=>h _ _ _$ o.setOb s r nd n
def UF i(hN:X.N[i]?=aa x:=by rfl)(Y:Vis X.env.scope x:=by first|exact Or.inl rfl|exact Or.inr (Or.inl rfl)|exact Or.inr (Or.inr rfl))(hd:(2:)=ag:=by decide)(U:(x==("__classdict__":Str))=ag:=by decide):PVn X (.Name x pos) (getN i):=by
 refine⟨_,xD hN Y hd U,λH₀ H O k j hd d Q o e q=>?_⟩;unfold getN at e;cases J:j[i]? with
 |none=>rw[J]at e;cases e
 |some s=>
   rw[J]at e;cases s with
   |v m=>cases e;obtain⟨v,b,c⟩:=o.read J;exact⟨v,b,q v H (Same.refl _)$ c.less λ_ z=>z.elim⟩
   |no=>cases e
   |exc _=>cases e
   |exf _ _=>cases e
   |fr _=>cases e
   |own l=>cases e;obtain⟨a,xs,b,c,h,g⟩:=o.readO J;exact⟨.ref a,b,q _ H (Same.refl _)$ .lst (λz=>z) (.inl h)$ g.less λ_ z=>z.elim⟩
   |ob r t=>cases e;obtain⟨F,f⟩:=o.obs;obtain⟨v,b,c,_⟩:=f i r t J;exact⟨v,b,q v H (Same.refl _) c.any⟩
def xJ i(Y:X.N[i]?=aa x:=by rfl)(U:Vis X.env.scope x:=by first|exact Or.inl rfl|exact Or.inr (Or.inl rfl)|exact Or.inr (Or.inr rfl))(hd:(2:)=ag:=by decide)(J:(x==("__classdict__":Str))=ag:=by decide):PVp X (.Name x pos) (varP i):=by
 refine⟨_,xD Y U hd J,λH₀ H O f d hd q Q o e h=>?_⟩;unfold varP at e;cases z:d[i]? with
 |none=>rw[z]at e;cases e
 |some s=>
   rw[z]at e;cases s with
   |ob r t=>cases e;obtain⟨F,b⟩:=o.obs;obtain⟨v,a,c,_⟩:=b i r t z;exact⟨v,a,h r t v v _ z rfl a rfl c⟩
   |_=>cases e
def RepsO.nth{K:Frag}{k:Nat}(h:RepsO K H O xs ts fs)(e:ts[k]?=aa t):∃x f,xs[k]?=aa x/\RepO K H O x t f:=by obtain⟨x,_,f,_,b,_,a,_⟩:=h.pick e;exact⟨x,f,b,a⟩
def Chg.ofUpd(J:O a)(Y:a∈f)(U:∀b∈f',b∈f):Chg H (upd H a y) O O f f':=
 ⟨λb u nb e=>by have z:b≠a:=λz=>nb (by rw[z];exact J);rw[L2.upd_ne z];exact e,λb u _ nb e=>by have z:b≠a:=λz=>nb (by rw[z];exact Y);rw[L2.upd_ne z];exact e,λ_ z _=>z,λ_ z=>.inl z,λb c=>.inl$ U b c⟩
theorem RepO.flatten{K:Frag}{H:Hp}{O O':aF->Prop}(J:∀a,O a->Old H a){v:V}{t:OT}{fs:List aF}(f:flatO t=ae)(h:RepO K H O' v t fs):(∀b∈fs,O b)->RepO K H O v t fs:=
 h.rec (motive_1:=λv t fs _=>flatO t=ae->(∀b∈fs,O b)->RepO K H O v t fs) (motive_2:=λv t fs _=>pH t=ae->(∀b∈fs,O b)->RepsO K H O v t fs) (λr f _=>.val$ Rep.flatten J f r) (λ_ h _ i f d=>.lst (d _$ .head _) h$ i f λb z=>d b$ .tail _ z)
  (λn h _ i f d=>.tup (λz=>by
    obtain⟨u,e,m⟩:=J _ z
    rcases h with h|⟨o,h⟩<;>(rw[e]at h;cases h;cases m)) h$ i f d) (λ_ h e _ i f d=>.dct (d _$ .head _) h e$ i f λb z=>d b$ .tail _ z) (λc _ h e _ i f d=>.ins c (d _$ .head _) h e$ i f λb z=>d b$ .tail _ z)
  (λ_ _=>.nil) (λ_ _ i j f d=>by
   have f:=gC.1 f
   exact .cons (i f.1 λb z=>d b$ aY _ z)$ j f.2 λb z=>d b$ aI _ z) f
section
variable{K:Frag}
def Kid.mono(s:Same H H')(h:Kid H b xs):Kid H' b xs:=by
 cases h with
 |tup h=>exact .tup$ Keep.rd (O:=qS) (.of_same s) (λz=>z) h
 |lst h=>exact .lst$ s _ _ h
 |dct h=>exact .dct$ s _ _ h
 |ins h=>exact .ins$ s _ _ h
def xE(s:Same H H'){p:List Nat}{v w:V}(h:PathV H v p w):PathV H' v p w:=by
 induction p generalizing v with
 |nil=>exact h
 |cons _ _ i=>obtain⟨b,xs,x,e,d,c,a⟩:=h;exact⟨b,xs,x,e,d.mono s,c,i a⟩
theorem RepsO.put:∀{xs:List V}{ts:List OT}{fs:List aF}{k:Nat}{t:OT},RepsO K H O xs ts fs->ts[k]?=aa t->∃pre f J,fs=pre++(f++J) ∧
  ∀{H':Hp}{O':aF->Prop}{v:V}{T:OT}{U:List aF},RepO K H' O' v T U->(∀y s e,RepO K H O y s e->(∀b∈e,b∈pre\/b∈J)->RepO K H' O' y s e)->RepsO K H' O' (xs.set k v) (ts.set k T) (pre++(U++J))
 |_,_,_,0,t,.cons (x:=x) (fs:=f) (gs:=gs) h r,e=>by
   refine⟨[],f,gs,rfl,λ{H' O' v T U} i c=>?_⟩;have:∀{xs:List V}{ts:List OT}{gs':List aF},RepsO K H O xs ts gs'->(∀b∈gs',b∈gs)->RepsO K H' O' xs ts gs':=by
    intro xs ts gs' h;induction xs generalizing ts gs' with
    |nil=>intro _;cases h;exact .nil
    |cons y ys j=>
      intro a;cases h with
      |cons n g=>exact .cons (c _ _ _ n λb z=>.inr$ a b$ aY _ z)$ j g λb z=>a b$ aI _ z
   show RepsO K H' O' (v::_) (T::_) (U++gs);exact .cons i$ this r λ_ z=>z
 |_,_,_,k+1,t,.cons (x:=x) (t:=t0) (fs:=Y) (gs:=gs) h r,e=>by obtain⟨pre,f,J,g,m⟩:=RepsO.put (k:=k) (t:=t) r (by simpa using e);refine⟨Y++pre,f,J,by rw[g];simp,λ{H' O' v T U} i c=>?_⟩;have q:=m i λz s o l a=>c z s o l λb d=>(a b d).elim (λz=>.inl$ aI _ z) .inr;have:=RepsO.cons (c _ _ _ h λb a=>.inl$ aY _ a) q;simpa[bL]using this
end
def QN(hF:FldOk X.K n J)(U:PVp X e f)(Y:fB e n X.env (cA e X.env)=cA e X.env:=by rfl):PVp X (.Attribute e n pos) (atP J f):=by
 obtain⟨t,E,G⟩:=U;refine⟨_,aEk E Y,λH₀ H O s W hd q Q o e h=>?_⟩;obtain⟨g,K,e⟩:=bnd e;refine G H₀ H O s W hd g _ o K λr T v w fs P N M L m=>?_;cases z:g.2.2 with
 |ins c l=>
   rw[z]at e m;obtain⟨k,F,e⟩:=bnd e;obtain⟨u,i,rfl⟩:=mpd e;cases m with
   |@ins a C V _ b _ R I n j p D=>obtain⟨y1,B,A⟩:=hF c k F;obtain⟨cl,na⟩:=A C I;obtain⟨x,S,d,y⟩:=D.nth i;refine⟨a,C,V,b,x,rfl,j,cl,na,wR (by rw[p];exact y1) (by rw[p];exact B) d,h r T v x S P ?_ M (YO L (.ins j) d) y⟩;rw[wI,N,z];simp[subO,i]
 |_=>rw[z]at e;cases e
def RepsO.snoc{K:Frag}{xs:List V}{ts:List OT}{fs:List aF}{v:V}{d:D}(h:RepsO K H O xs ts fs)(r:Rep K H O v d):RepsO K H O (xs++[v]) (ts++[.val d]) fs:=h.ind (m:=λxs ts fs=>RepsO K H O (xs++[v]) (ts++[OT.val d]) fs) (.cons (fs:=[]) (gs:=[]) (.val r) .nil) .cons
def Ok.putL{K:Frag}(o:Ok K H₀ H O σ ds hd)(e:ds[i]?=aa (.ob r T))(Y:subO p T=aa (.lst l))(U:σ[i]?=aa (aa v))(hp:PathV H v p (.ref a))(h:∀xs fs,H a=aa (.lst xs)->O a->RepsO K H O xs l fs->fs.Nodup->a∉fs->∃fs',(∀b∈fs',b∈fs)/\fs'.Nodup/\∀{H':Hp},Chg H H' O O [a] [a]->RepsO K H' O ys J fs'):Ok K H₀ (upd H a$ .lst ys) O σ (ds.set i$ .ob r$ putO (.lst J) p T) hd:=by
 obtain⟨C,B,f,y1,t,s,q,A,m⟩:=o.modAt e Y;rw[U]at y1;cases y1;cases xS hp t;cases s with
 |@lst _ xs _ fs n y j=>
   obtain⟨k,x⟩:=bK.mp q;obtain⟨fs',g,w,u⟩:=h xs fs y n j x k;refine m (.ofUpd n (.head _) λb z=>(aA.mp z).elim (λz=>by rw[z];exact .head _) λz=>.tail _$ g b z) (λb z _=>?_) (.lst n bP$ u$ .ofUpd n (.head _) λ_ z=>z)$ bK.mpr ⟨λz=>k$ g _ z,w⟩;by_cases c:b=a
   . rw[c,bP];exact⟨⟨.lst ys,rfl⟩,rfl⟩
   . rw [upd_ne c];rcases aA.mp z with d|d
     . exact(c d).elim
     . exact(j.owns b d).2
def Chg.repsO{K:Frag}(c:Chg H H' O O' f J){v:List V}{t:List OT}{e:List aF}(h:RepsO K H O v t e):(∀b∈e,b∉f)->RepsO K H' O' v t e:=
 h.ind (m:=λv t e=>(∀b∈e,b∉f)->RepsO K H' O' v t e) (λ_=>.nil) λh j a=>.cons (c.repO h λb z=>a b$ aY _ z)$ j λb z=>a b$ aI _ z
def ML(ho:PVp X oe f)(he:PV X e fe)(Y:((dJ p3$ aG [e] X.env).all (λx=>!x.1)&&(nV p3$ hJ [] X.env).all (λx=>x.1.isSome)
    && decide ([e].length+([]:List pR).length+(if ([]:List pR).isEmpty then 0 else 1)<30))=ae:=by rfl)(J:(p2.endLine==p3.line)=ae:=by rfl)(hs:aG [e] X.env=(ag,cA e X.env)::aG [] X.env:=by rfl)(U:fB oe "append" X.env (cA oe X.env)=cA oe X.env:=by rfl)(hsw:eF (.Call (.Attribute oe "append" p2) [e] [] p3) ac pos.line X.env=pure ag:=by rfl):PSv X (.Expr (.Call (.Attribute oe "append" p2) [e] [] p3) pos) (appP f fe):=by
 obtain⟨tp,M,P⟩:=ho;obtain⟨te,F,he⟩:=he;refine⟨_,kI (UW oO EZ EY HV M (qL F jV hs) U Y J hs rfl) hsw,λH₀ H O m i hd G E o e h=>?_⟩;obtain⟨q,R,e⟩:=bnd e;obtain⟨d,Q,e⟩:=bnd e;refine P H₀ H O m i hd q _ o R λr T v w fs u t V S s=>?_;cases hq:q.2.2 with
 |lst l=>
   rw[hq]at e t s;simp only at e;split at e
   . rename_i N;cases e;cases s with
     |@lst a xs _ W n j C=>
       refine⟨.inl ⟨rfl,xs,SqL.of j⟩,?_⟩;refine he H₀ H O m i hd d _ o Q λB H1 g D=>?_;refine⟨a,xs,B,rfl,rfl,g _ _ j,by rw[C.length];exact N,?_⟩;have ok:=(o.mono g).putL u t V (xE g S) λA k p k2 L K I=>⟨k,λ_ z=>z,K,λ{H'} c=>by
        rw[g _ _ j]at p;cases p
        exact(c.repsO L λb z y=>I$ aS.mp y▸z).snoc (c.rep D)⟩
       have Z:putP q (.lst$ l++[.val d]) i=i.set q.1 (.ob r$ putO (.lst$ l++[.val d]) q.2.1 T):=by simp[putP,u]
       rw[Z]at h;exact h _ _ _ ok
   . cases e
 |_=>rw[hq]at e;cases e
section
variable{K:Frag}
def RepO.frz{v:V}{t:OT}{fs:List aF}(r:RepO K H O v t fs)(h:∀a,O' a->O a/\a∉fs):Rep K H O' v (otD t):=r.val' h
theorem Ok.frz{σ:L2.St}{ds:List Sl}{hd:Hold}{i:Nat}{r:Option Nat}{T:OT}(o:Ok K H₀ H O σ ds hd)(e:ds[i]?=aa (.ob r T)):∃O',Ok K H₀ H O' σ (ds.set i$ .v$ otD T) hd:=by
 obtain⟨F,J⟩:=o.obs;obtain⟨v,h1,h2,h3,h4,M⟩:=J i r T e;have hl:i<ds.length:=(bC.mp e).1
 let O':aF->Prop:=λb=>O b/\b∉F i
 have sub:∀b,O' b->O b:=λb f=>f.1;have c:∀{j:Nat},IsOwn (ds.set i$ .v$ otD T) j->IsOwn ds j/\j≠i:=λh=>xV (λl=>by intro z;cases z) h;refine⟨O',o.same,λj C b S R=>?_,λb f=>o.dom b$ sub b f,by simpa using o.len,λj s q=>?_,λj m b L x I S R=>o.apart j m b L (c x).1 (c I).1 S R,λp hp=>?_,?_⟩
 . obtain⟨⟨l2,Q⟩,_⟩:=c ⟨C,S⟩;exact o.fresh j l2 b Q R
 . by_cases x:j=i
   . subst x;rw[aU hl]at q;cases q;rw[h1];exact yN$ h2.frz λa z=>z
   . rw [aB (Ne.symm x)]at q;cases s with
     |no=>exact jC
     |ob r t=>exact yQ
     |exc t=>obtain⟨E,C',A,V,g,u,n,y⟩:=o.readX q;rw[g];exact⟨C',A,V,u,n,y⟩
     |exf t fs=>obtain⟨E,g,n⟩:=o.readE q;rw[g];exact n.keep λE A V n=>n
     |fr C=>obtain⟨E,G,g,u,q0,n,y⟩:=o.readF q;rw[g];exact⟨λz=>u$ sub _ z,q0,G,n,y.less sub⟩
     |v d=>obtain⟨v,g,u⟩:=o.read q;rw[g];exact yN$ u.less sub
     |own C=>obtain⟨b,ys,g,u,n,y⟩:=o.readO q;rw[g];exact⟨⟨u,λz=>(M b z).2.2 j ⟨C,q⟩ g⟩,ys,n,y.less sub⟩
 . have:=o.hold p hp;cases p with
   |rep v d=>exact Rep.less sub this
   |base B=>exact λb f=>⟨⟨(this b f).1,λz=>(this b f).2 (M b z).1⟩,(this b f).2⟩
   |root k a=>exact True.intro
   |fz E o' Z C=>exact⟨λz=>this.1$ sub _ z,this.2.1,Reps.less sub this.2.2⟩
 . refine⟨F,λj X W D=>?_⟩;obtain⟨D,x⟩:=xN (λr t=>by intro z;cases z) D;obtain⟨w,g1,U,g3,g4,N⟩:=J j X W D;refine⟨w,g1,U.less sub λb f=>⟨(U.owns b f).1,λz=>(M b z).2.1 j X W x D f⟩,g3,g4,λb f=>⟨(N b f).1,λm r2 Y I P=>(N b f).2.1 m r2 Y I (xN (λr t=>by intro z;cases z) P).1,λm om P=>(N b f).2.2 m (c om).1 P⟩⟩
end
noncomputable def spL(K:Frag)(n:Nat)(F:OT->List D->Option OT):Sp:=λvs H Q _=>∃(a:aF) (T T':OT) (fs:List aF) (B:aF->Prop) (vs':List V) (l:List D),vs=.ref a::vs'/\vs'.length=n/\RepO K H (orL fs B) (.ref a) T fs/\fs.Nodup ∧
 (∀b,B b->b∉fs/\∃u:MutHO,H b=aa u.1)/\Reps K H (orL fs B) vs' l/\F T l=aa T' ∧
 ∀H' fs',(∀b u,b∉fs->H b=aa u->H' b=aa u)->RepO K H' (orL fs' B) (.ref a) T' fs'->fs'.Nodup->(∀b∈fs',b∈fs\/H b=ac)->Q .non H'
noncomputable def cutH(fs:List aF)(H:Hp):Hp:=λb=>if b∈fs then ac else H b
def BR(h:b∈fs):cutH fs H b=ac:=if_pos h
def xH(h:b∉fs):cutH fs H b=H b:=if_neg h
def IK(h:cutH fs H b=ac):b∈fs\/H b=ac:=by
 by_cases z:b∈fs
 . exact .inl z
 . rw[xH z]at h;exact .inr h
def vL:¬IsOwn (argsL n T l) i:=λ⟨a,e⟩=>by
 unfold argsL at e;cases i with
 |zero=>cases e
 |succ i=>
   rw[fC]at e;unfold args at e;by_cases hi:i<l.length
   . rw [bO (by simpa using hi),bB]at e;cases h:l[i]? with
     |none=>rw[h]at e;cases e
     |some d=>rw[h]at e;cases e
   . rw [cE$ by simpa using hi,eB]at e;split at e<;>cases e
def YU{K:Frag}(rt:RepO K H (orL fs B) (.ref a) T fs)(nd:fs.Nodup)(J:∀b,B b->b∉fs/\∃u:MutHO,H b=aa u.1)(r:Reps K H (orL fs B) vs l)(U:0<N.length):Ok K (cutH fs H) H (orL fs B) (L2.start N$ .ref a::vs) (argsL N.length T l) [.root 0 a,.base B]:=by
 have m:=r.length;refine⟨λb u e=>?_,λi q y e _=>(vL ⟨q,e⟩).elim,λb c=>c.elim (λz=>(rt.owns b z).2) λz=>(J b z).2,?_,λi s e=>?_,λi j a _ hi _ _ _=>(vL hi).elim,λp f=>?_,?_⟩
 . by_cases z:b∈fs
   . rw[BR z]at e;cases e
   . rwa [xH z]at e
 . simp [L2.start,argsL,args,cD,bS,rH,aK,m]
   lia
 . unfold argsL at e;cases i with
   |zero=>cases e;exact yQ
   |succ i=>
     rw[fC]at e;have g:(L2.start N$ .ref a::vs)[i+1]?=(vs.map aa++List.replicate (N.length-(vs.length+1)) ac)[i]?:=by simp[L2.start,aQ,dP,fC,aK]
     rw[g];unfold args at e;by_cases hi:i<l.length
     . rw[bO$ by simpa using hi,bB]at e;rw[bO$ by simpa[m]using hi,bB];obtain⟨d,h,rfl⟩:=mpd e;obtain⟨v,x,w⟩:=r.get h;rw[x];exact yN w
     . rw [cE (by simpa using hi),eB]at e;split at e
       . cases e;exact jC
       . cases e
 . rcases aA.mp f with rfl|f
   . exact True.intro
   . cases aS.mp f;refine λb c=>⟨.inr c,λz=>?_⟩
     obtain⟨n,u,e⟩:=J b c;rw[xH n,e]at z;cases z
 . refine ⟨λi=>if i=0 then fs else [],λi E C e=>?_⟩;cases i with
   |succ i=>unfold argsL at e;exact(WL _ _ _ _ _ e).elim
   |zero=>
     cases e;refine⟨.ref a,rfl,by simpa using rt,λk y F h=>?_,by simpa using nd,λb c=>⟨BR$ by simpa using c,λj D A t _=>by simp[t],λj o=>(vL o).elim⟩⟩;rcases aA.mp h with h|h
     . cases h;rfl
     . cases aS.mp h
def aGp{K:Frag}{st:Stmt}(hok:∀sp,(∀vs H Q E,sp vs H Q E->vs.length=ps.length)->(∀cdv A outer s H vs Q E,Room k (A.deeper$ iM qual (zJ st) s.heap.objs.size f cdv)->sp vs H Q E->∃t,PSs (cxOf CX0 P w K mg base N qual (zJ st) f cdv A outer s H E).nox (qJ st) t/\t {nx:=λ_ H'=>Q .non H',rt:=Q} (start N vs) H)->FnOk P w K mg base CX0 (k+1) f fd ps sp)(hbody:∀cdv A outer s H E,Room k (A.deeper$ iM qual (zJ st) s.heap.objs.size f cdv)->PSsv (cxOf CX0 P w K mg base N qual (zJ st) f cdv A outer s H E).nox (qJ st) g)(hg:∀T l T',l.length=n->F T l=aa T'->lentF g N.length T l=aa T')(hn:ps.length=n+1:=by rfl)(hN:0<N.length:=by decide):FnOk P w K mg base CX0 (k+1) f fd ps (spL K n F):=by
 refine hok _ (λvs H Q E h=>?_) λcdv A outer s H vs Q E hr h=>?_
 . obtain⟨a,T,T',fs,B,vs',l,rfl,hl,_⟩:=h;simp[aK];lia
 . obtain ⟨a, T, T', fs, B, vs', l, rfl, hl, rt, nd, hB, ra, e, q⟩ := h;obtain ⟨t,ht,hf⟩:=hbody cdv A outer s H E hr;refine ⟨t,ht,?_⟩;have o:=YU rt nd hB ra hN;have e:=hg T l T' (by rw [<- ra.length]; exact hl) e;unfold lentF at e;cases h1:g (argsL N.length T l) with
   |none=>rw[h1]at e;cases e
   |some out=>
     rw[h1]at e;cases out with
     |nx ds=>
       simp only at e;cases h2:ds[0]? with
       |none=>rw[h2]at e;cases e
       |some s0=>
         rw[h2]at e;cases s0 with
         |ob r T2=>
           have hr0:r=aa 0/\T2=T':=by
            cases r with
            |none=>cases e
            |some i=>
              cases i with
              |zero=>cases e;exact⟨rfl,rfl⟩
              |succ i=>cases e
           obtain⟨rfl,rfl⟩:=hr0;refine hf _ H _ _ _ _ _ _ o h1 λσ H' O' o'=>?_;obtain⟨F',hF⟩:=o'.obs;obtain⟨v,y1,y2,y3,y4,y5⟩:=hF 0 _ _ h2;cases y3 0 a rfl (.head _);have hb:=o'.hold (.base B)$ .tail _$ .head _;exact q H' (F' 0) (λb u nb eb=>o'.same b u$ by rw[xH nb];exact eb) (y2.less (λb z=>z.elim (λz=>(y2.owns b z).1) λz=>(hb b z).1) λb z=>.inl z) y4 λb z=>IK (y5 b z).1
         |_=>cases e
     |_=>cases e
def JY{K:Frag}{st:Stmt}(Fn:Fun K x qual st f fd)(S:FnScope N ps (zJ st))(z:∀J A outer s H E,Room k (A.deeper$ iM qual (zJ st) s.heap.objs.size f J)->PSsv (cxOf CX0 P w K mg base N qual (zJ st) f J A outer s H E).nox (qJ st) g)(hg:∀T l U,l.length=n->F T l=aa U->lentF g N.length T l=aa U)(Y:ps.length=n+1:=by rfl)(hN:0<N.length:=by decide):FnOk P w K mg base CX0 (k+1) f fd ps (spL K n F):=by exact aGp (λc a b=>Fn.ok S a b) z hg Y hN
structure LCal(P:bW)(w:cT)(K:Frag)(mg:Str->Option Value)(base:Heap)(m:Str)(k n:Nat)(cs:List Nat)(F:Nat->OT->List D->Option OT):Prop where
 no:∀t∈cs,m∉eX t
 of:∀t∈cs,∀C,aH K mainGlobals (eL t)=some (some (.ref C))->∃(f:aF) (fd:bR) (ps:List Str),Cls K C/\Meth K C m f/\FnOk P w K mg base CX0 k f fd ps (spL K n (F t))/\Binds K fd ps []
def NF{K:Frag}: LCal P w K mg base m k n [] F:=⟨λ_ h=>(nomatch h),λ_ h=>(nomatch h)⟩
def ZJ{K:Frag}(a:aH K mainGlobals (eL t)=aa (aa$ .ref C))(c:Cls K C)(hm:Meth K C m f)(G:FnOk P w K mg base CX0 j f fd ps (spL K n$ F t))(J:j<=k)(b:Binds K fd ps [])(z:m∉eX t)(h:LCal P w K mg base m k n cs F):LCal P w K mg base m k n (t::cs) F:=by
 refine⟨λg d=>(aA.mp d).elim (λe=>e▸z)$ h.no g,λg d i e=>?_⟩;rcases aA.mp d with rfl|d
 . rw[a]at e;cases e;exact⟨f,fd,ps,c,hm,G.mono J,b⟩
 . exact h.of g d i e
def aFr(M:LCal X.prog X.w X.K X.mg X.base m k n cs F)(hf:∀H₀ H O σ ds hd q Q,Ok X.K H₀ H O σ ds hd->f ds=aa q->(∀r T v w fs,ds[q.1]?=aa (.ob r T)->subO q.2.1 T=aa q.2.2->σ[q.1]?=aa (aa v)->PathV H v q.2.1 w->RepO X.K H O w q.2.2 fs->Q w H)->ta σ H Q)(J:∀H₀ H O σ ds hd l Q,Ok X.K H₀ H O σ ds hd->g ds=aa l->(∀vs H',Same H H'->Reps X.K H' O vs l->Q vs H')->t σ H Q)(o:Ok X.K H₀ H O σ ds hd)(h1:lentG n cs F f g ds=aa (.nx ds'))(q:∀H' O',Ok X.K H₀ H' O' σ ds' hd->Q .non H'):QA X m k ta t σ H Q:=by
 obtain⟨e,h2,h1⟩:=bnd h1;obtain⟨l,h3,h1⟩:=bnd h1;refine hf H₀ H O σ ds hd e _ o h2 λr T v w fs S R g3 g4 P=>?_;cases Y:e.2.2 with
 |ins c ts=>
   rw[Y]at h1 P R;simp only at h1;split at h1
   . rename_i j;cases U:F c (.ins c ts) l with
     |none=>rw[U]at h1;cases h1
     |some A=>
       rw[U]at h1;cases h1;cases P with
       |@ins a C dx _ i _ fs' cc nn ha ek rr=>
         obtain⟨fa,fd,ps,cl,hm,Fn,hb⟩:=M.of c j.1 C cc;refine⟨a,C,dx,i,fa,fd,ps,_,rfl,ha,yH$ by rw[ek];exact M.no c j.1,cl,hm,Fn,hb,?_⟩;refine J H₀ H O σ ds hd l _ o h3 λvs H2 E G=>?_;have I:=o.mono E;obtain⟨v',w',s,y1,Z,D,W,y5,V⟩:=I.modAt S R;rw[g3]at y1;cases y1;cases xS (xE E g4) Z;have h:=λb z=>(D.owns b z).1
         let B:aF->Prop:=λb=>O b/\b∉s
         have d:∀b,orL s B b->O b:=λb z=>z.elim (h b) λz=>z.1;refine⟨a,_,A,s,B,vs,l,rfl,by rw[G.length];exact j.2,D.less d λb z=>.inl z,W,λb z=>⟨z.2,I.dom b z.1⟩,G.less d,U,λH' p N L k3 K=>?_⟩;have e':putP e A ds=ds.set e.1 (.ob r$ putO A e.2.1 T):=by simp[putP,S]
         rw[e']at q;refine q H' (orL p B)$ V ⟨λb u nb x=>N b u (λz=>nb$ h b z) x,λb u _ nb x=>N b u nb x,λb z nb=>.inr ⟨z,nb⟩,λb z=>z.elim (λz=>(K b z).elim (λy=>.inl$ h b y) λy=>.inr ⟨z,y⟩) λz=>.inl z.1,K⟩ (λb z y=>y.elim (λy=>(L.owns b y).2) λy=>(y.2 z).elim) L k3
   . cases h1
 |_=>rw[Y]at h1;cases h1
def MI(M:LCal X.prog X.w X.K X.mg X.base m k n cs F)(hr:Room j X.A)(ho:PVp X oe f)(ha:PAs X (e::es) g)(hj:k<=j:=by decide)(J:aG (e::es) X.env=(ag,cA e X.env)::aG es X.env:=by rfl)(U:(dJ pos$ aG es X.env).any (·.1)=ag:=by rfl)(ht:cA (.Call (.Attribute oe m apos) (e::es) [] pos) X.env=(do
    let Y <- cA oe X.env
    oN apos.atName
    let (f,first) <- iA [Y] (rO Y m pl)
    OQ pos f first (dJ pos$ aG (e::es) X.env) (nV pos$ hJ [] X.env)):=by rfl)(z:eF (.Call (.Attribute oe m apos) (e::es) [] pos) ac pos'.line X.env=pure ag:=by rfl):PSv X (.Expr (.Call (.Attribute oe m apos) (e::es) [] pos) pos') (lentG n cs F f g):=by
 obtain⟨s,i,q⟩:=ho;obtain⟨t,pt,b⟩:=ha;refine⟨_,kI (MO i (hr.mono hj) pt J U ht) z,λH₀ H O r x hd a E o e h=>?_⟩;have:∃ds',a=.nx ds':=by
  obtain⟨u,w,e⟩:=bnd e;obtain⟨l,v,e⟩:=bnd e;split at e
  . split at e
    . rename_i c d _ _;cases h4:F c (.ins c d) l with
      |none=>rw[h4]at e;cases e
      |some y=>rw[h4]at e;cases e;exact⟨_,rfl⟩
    . cases e
  . cases e
 obtain⟨ds',rfl⟩:=this;exact aFr M q b o e λB A p=>h _ _ _ p
section
variable{K:Frag}
def Ok.putN(y:MutHO)(o:Ok K H₀ H O σ ds hd)(e:ds[i]?=aa (.ob r T))(Y:subO p T=aa u)(U:σ[i]?=aa (aa v))(hp:PathV H v p (.ref a))(h:∀f,RepO K H O (.ref a) u f->f.Nodup->∃J,O a/\a∈f/\(∀b∈J,b∈f)/\J.Nodup/\RepO K (upd H a y.1) O (.ref a) u' J):Ok K H₀ (upd H a y.1) O σ (ds.set i$ .ob r$ putO u' p T) hd:=by
 obtain⟨x,w,f,y1,k,d,j,t,g⟩:=o.modAt e Y;rw[U]at y1;cases y1;cases xS hp k;obtain⟨J,n,s,q,m,l⟩:=h f d j;refine g (.ofUpd n s q) (λb z _=>?_) l m;by_cases c:b=a
 . rw[c,bP];exact⟨y,rfl⟩
 . rw[upd_ne c];exact(d.owns b z).2
def vG(r:Rep K H O v d)(e:keyD d=aa k):v=kV k:=by
 cases d<;>first|(cases e;done)|skip
 . cases e;cases r;rfl
 . cases e;cases r;rfl
 . cases e;cases r;rfl
def BP(r:Rep K H O v d)(e:kdD d=aa p):∃a kvs,v=.ref a/\Rd H a (.dK kvs)/\kvs.map (·.1)=p.1/\Reps K H O (kvs.map (·.2)) p.2:=by
 cases d<;>first|(cases e;done)|skip
 . cases e;cases r with
   |@dct a kvs _ _ n c f b=>exact⟨a,kvs,rfl,.inl c,f,b⟩
 . cases e;cases r with
   |@dcf a o kvs _ _ n c f b=>exact⟨a,kvs,rfl,.inr ⟨o,c⟩,f,b⟩
theorem LJ:∀{kvs:List (Key×V)}{l:List D}{k:Key}{d:D},Reps K H O (kvs.map (·.2)) l->getKD k (kvs.map (·.1)) l=aa d->∃v,valV kvs k=aa v/\Rep K H O v d
 |[],_,_,_,_,e=>by simp[getKD]at e
 |(k',v)::r,[],_,_,h,_=>by cases h
 |(k',v)::r,d'::l,k,d,.cons h t,e=>by
   simp only[aQ,getKD]at e;by_cases z:k'=k
   . rw[if_pos z]at e;cases e;exact⟨v,vC z,h⟩
   . rw[if_neg z]at e;obtain⟨w,b,a⟩:=LJ t e;exact⟨w,by simpa[valV,cY,z]using b,a⟩
theorem GU:∀kvs k,(valV kvs k).isSome=hasK k (kvs.map (·.1))
 |[],k=>rfl
 |(k',v)::r,k=>by
   by_cases z:k'=k
   . simp[valV,cY,z,hasK]
   . have:=GU r k;simp only[valV,hasK]at this ⊢;rw[lI$ by simpa using z,this];simp[z]
def HL(h:hasK k (kvs.map (·.1))=ae):putK kvs k v=kvs.map (λz=>if z.1=k then (z.1,v)else z):=by unfold putK;rw[if_pos];rw[hasK,List.any_map]at h;exact h
def wZ(h:¬hasK k (kvs.map (·.1))=ae):putK kvs k v=kvs++[(k,v)]:=by unfold putK;rw[if_neg];rw[hasK,List.any_map]at h;exact h
def YE(kvs:List (Key×V)) k v:(kvs.map λz=>if z.1=k then (z.1,v)else z).map (·.1)=kvs.map (·.1):=by rw[eI];refine iU λz _=>?_;simp only[Function.comp];split<;>rfl
theorem RepsO.putTs(r:Rep K H O v d):∀{kvs:List (Key×V)}{ts:List OT}{fs:List aF},RepsO K H O (kvs.map (·.2)) ts fs->∃fs',fs'.Sublist fs/\RepsO K H O ((kvs.map λJ=>if J.1=k then (J.1,v)else J).map (·.2)) (FL.putTs k (.val d) (kvs.map (·.1)) ts) fs'
 |[],_,_,.nil=>⟨[],.slnil,.nil⟩
 |(k',w)::kvs,_,_,.cons (t:=t) (ts:=ts) (fs:=fs) (gs:=gs) h q=>by
   obtain⟨a,c,b⟩:=RepsO.putTs r q;by_cases z:k'=k
   . refine⟨a,c.trans$ List.sublist_append_right _ _,?_⟩;simp only[aQ,z,if_true,FL.putTs];exact .cons (fs:=[]) (.val r) b
   . refine⟨fs++a,c.append_left _,?_⟩;simp only[aQ,z,if_false,FL.putTs];exact .cons h b
end
def LY:PVo X (.Dict [] [] pos) dO0:=by refine⟨_,aEl,λH₀ H O d f hd T Q o e q=>λp a=>?_⟩;cases e;exact q _ _ [p] (qF a _) (.dct (.inl$ .head _) bP rfl .nil) (by simp) λb c=>by rw[aS.mp c];exact a
def CT(hr:Room j X.A)(ho:PVp X oe f)(hk:PV X ke fk)(he:PV X e fv)(hs:eF e (aa (.Subscript oe ke pos')) pos.line X.env=pure ag:=by rfl):PSv X (.Assign [.Subscript oe ke pos'] e pos) (dputG f fk fv):=by
 obtain⟨tp,hp,hf⟩:=ho;obtain⟨tk,pk,hk⟩:=hk;obtain⟨te,pe,he⟩:=he;refine⟨_,UR (kX (by lia)$ hu100 hr) hp pk pe hs,λH₀ H O σ ds hd out E o e h=>?_⟩;obtain⟨d,h1,e⟩:=bnd e;obtain⟨q,h2,e⟩:=bnd e;obtain⟨y,h3,e⟩:=bnd e;obtain⟨k,h4,e⟩:=bnd e;refine he H₀ H O σ ds hd d _ o h1 λv H1 s1 r1=>?_;refine hf H₀ H1 O σ ds hd q _ (o.mono s1) h2 λr T v0 w fs g1 g2 g3 g4 g5=>?_;refine hk H₀ H1 O σ ds hd y _ (o.mono s1) h3 λyv H2 s2 r2=>?_;have o2:=(o.mono s1).mono s2;cases hq:q.2.2 with
 |dct ks ts=>
   rw[hq]at e g2 g5;simp only at e;split at e
   . rename_i hl;cases e;cases g5 with
     |@dct a kvs _ _ fs' n hb ek rs=>
       have hb2:=s2 _ _ hb;cases vG r2 h4;have ln:kvs.length<sizeLine:=by rw[<-ek]at hl;simpa using hl
       refine⟨a,_,rfl,DPut.k hb2 ln,?_⟩;have e':putP q (putKT k (.val d) ks ts) ds=ds.set q.1 (.ob r$ putO (putKT k (.val d) ks ts) q.2.1 T):=by simp[putP,g1]
       rw[e']at h;refine h _ _ _$ Ok.putN ⟨.dK$ putK kvs k v,rfl⟩ o2 g1 g2 g3 (xE s2 g4) λf2 k1 k2=>?_;cases k1 with
       |@dct _ kvs2 _ _ fs2 n2 hb3 ek2 rs2=>
         rw[hb2]at hb3;cases hb3;obtain⟨n3,n4⟩:=bK.mp k2;have c:Chg H2 (upd H2 a$ .dK$ putK kvs k v) O O [a] [a]:=.ofUpd n (.head _) λ_ z=>z;have rs3:=c.repsO rs2 λb z y=>n3$ aS.mp y▸z;have rv:=c.rep$ r1.mono s2;unfold putKT;by_cases hm:hasK k ks=ae
         . rw [if_pos hm];have hm':hasK k (kvs.map (·.1))=ae:=by rw [ek];exact hm
           obtain⟨fs3,w1,w2⟩:=RepsO.putTs rv rs3;refine⟨a::fs3,n,.head _,λb z=>(aA.mp z).elim (λz=>by rw[z];exact .head _) λz=>.tail _$ w1.subset z,bK.mpr ⟨λz=>n3$ w1.subset z,w1.nodup n4⟩,?_⟩;refine .dct n bP ?_ ?_
           . rw[HL hm',YE,ek]
           . have z:=congrArg (List.map (·.2))$ HL (v:=v) hm';rw[ek]at w2;rw[<-z]at w2;exact w2
         . rw [if_neg hm];have hm':¬ hasK k (kvs.map (·.1))=ae:=by rw [ek];exact hm
           refine⟨a::fs2,n,.head _,λb z=>z,k2,?_⟩;refine .dct n bP ?_ ?_
           . rw[wZ hm'];simp[ek]
           . have z:(putK kvs k v).map (·.2)=kvs.map (·.2)++[v]:=by rw [wZ hm'];simp
             rw[z];exact rs3.snoc rv
   . cases e
 |_=>rw[hq]at e;cases e
def UL(U:Room j X.A)(Y:PV X oe fd)(z:PV X ke fk)(J:NoSl ke:=by exact λ_ _=>rfl):PV X (.Subscript oe ke pos) (dgetG fd fk):=by obtain⟨L,t,c⟩:=Y;obtain⟨K,s,z⟩:=z;refine⟨_,pe_dget (kX (by lia)$ hu100 U) t s J,λH₀ H O g l hd d Q o e q=>?_⟩;obtain⟨x,D,e⟩:=bnd e;obtain⟨y,C,e⟩:=bnd e;obtain⟨k,B,e⟩:=bnd e;refine c H₀ H O g l hd x _ o D λv G i r=>?_;refine z H₀ G O g l hd y _ (o.mono i) C λI F h n=>?_;obtain⟨p,f,e⟩:=bnd e;obtain⟨a,b,rfl,u,E,m⟩:=BP (r.mono h) f;cases vG n B;rw[<-E]at e;obtain⟨w,A,f⟩:=LJ m e;exact⟨a,w,rfl,.inl ⟨b,k,u,rfl,A.symm⟩,q w F (i.trans h) f⟩
def aDs(hr:Room j X.A)(z:PVn X ke fk)(ho:PVn X oe fd)(hm:dZ .NotIn oe=ag:=by rfl):PTv X (.Compare ke [.NotIn] [oe] pos) (dnotG fk fd):=by
 obtain⟨C,r,f⟩:=ho;obtain⟨B,n,z⟩:=z;refine⟨_,pt_cmp (YN (kX (by lia)$ hu100 hr) n r) hm,λH₀ H O g c hd b Q o e q=>?_⟩;unfold dnotG dinG at e;cases Y:fk c with
 |none=>rw[Y]at e;cases e
 |some y=>
   rw[Y]at e;simp[aZ]at e;cases U:keyD y with
   |none=>rw[U]at e;cases e
   |some k=>
     rw[U]at e;cases h1:fd c with
     |none=>rw[h1]at e;cases e
     |some x=>
       rw[h1]at e;simp only[aZ]at e;refine z H₀ H O g c hd y _ o Y λA w h m=>?_;refine f H₀ w O g c hd x _ (o.mono h) h1 λv u i l=>?_;cases J:kdD x with
       |none=>rw[J]at e;cases e
       |some p=>rw[J]at e;cases e;obtain⟨a,d,rfl,s,t,D⟩:=BP l J;cases vG m U;refine⟨a,_,rfl,.inl ⟨d,k,s,rfl,rfl⟩,_,rfl,?_⟩;rw[GU,t];exact q u$ h.trans i
end FL
namespace L2
def Inv.freezeD(I:Inv X aE σ H s)(e:H a=aa (.dK kvs)):∃o,Inv X aE σ (upd H a$ .frz o$ .dK kvs) s:=by obtain⟨z,hd,f,b,d⟩:=dk_of I.hok e;obtain⟨o,g,h,c,r⟩:=id d;exact⟨o,KC I (by rw[e];trivial) ⟨rfl,λ_ _=>rfl⟩ ⟨o,c⟩ ⟨c,z,hd,f,b,d⟩⟩
def sFrz(i:Nat)(t:TS):TS:=λD c H=>∃a b,c[i]?=aa (aa$ .ref a)/\H a=aa (.dK b)/\∀o,t D c$ upd H a$ .frz o$ .dK b
def ps_frz{st:Stmt}(h:PS X st t):PS X st (sFrz i t):=by intro f s b H D I ⟨a,c,j,e,d⟩;obtain⟨o,g⟩:=I.freezeD e;exact h f s b _ D g$ d o
def DR(I:Inv X aE σ H s)(hd:H d=aa (.frz o$ .dK kvs))(J:o.data=.dict es ep):∃vs,KV kvs vs/\s.heap.DictAt (gF X.prog X.w) d vs ep:=by obtain⟨c,z,f,vs,b,i,g,h,e,ex,a,r⟩:=I.hok d _ hd;rw[c]at e;cases e;rw[J]at a;cases a;exact⟨vs,b,o,es,c,ex,J,r⟩
def KV.get{kvs:List (κ×V)}{vs:List (κ×Value)}{i:Nat}{k:κ}(h:KV kvs vs)(e:kvs[i]?=aa (k,x)):∃u,vs[i]?=aa (k,u)/\RelV x u:=by
 induction h generalizing i with
 |nil=>simp at e
 |@cons p q _ _ h _ a=>
   cases i with
   |zero=>simp[dA,Option.some.injEq]at e;subst e;exact⟨q.2,by simp[dA];rw[show q=(k,q.2) from Prod.ext h.1.symm rfl],h.2⟩
   |succ i=>exact a e
end L2
namespace FL
section
variable{K:Frag}
theorem BY:∀{ts:List OT}{l:List D},valsO ts=aa l->ts=l.map OT.val
 |[],_,e=>by cases e;rfl
 |.val d::r,l,e=>by
   unfold valsO at e;cases h:valsO r with
   |none=>rw[h]at e;cases e
   |some m=>rw[h]at e;cases e;rw[BY h];rfl
 |.lst _::_,_,e=>by cases e
 |.tup _::_,_,e=>by cases e
 |.dct _ _::_,_,e=>by cases e
 |.ins _ _::_,_,e=>by cases e
def RepsO.ofVals{l:List D}{xs:List V}{fs:List aF}(h:RepsO K H O xs (l.map OT.val) fs):fs=[]/\Reps K H O xs l:=by
 induction l generalizing xs fs with
 |nil=>cases h;exact⟨rfl,.nil⟩
 |cons d l i=>cases h with|cons h t=>cases h with|val r=>obtain⟨rfl,q⟩:=i t;exact⟨rfl,.cons r q⟩
def Ok.frzD(o:Ok K H₀ H O σ ds hd)(e:ds[i]?=aa (.ob r$ .dct ks$ l.map OT.val)):∃a kvs,σ[i]?=aa (aa$ .ref a)/\H a=aa (.dK kvs)/\∀ob,∃O',Ok K H₀ (upd H a$ .frz ob$ .dK kvs) O' σ (ds.set i$ .v$ .dcf ks l) hd:=by
 obtain⟨F,hF⟩:=o.obs;obtain⟨v,h1,h2,h3,h4,M⟩:=hF i r _ e;have hl:=(bC.mp e).1;generalize hfi:F i=fi at h2 h4 M;cases h2 with
 |@dct a kvs _ _ fs n c ek rs=>
   obtain⟨rfl,rv⟩:=rs.ofVals;refine⟨a,kvs,h1,c,λob=>?_⟩
   let O':aF->Prop:=λb=>O b/\b≠a
   have sub:∀b,O' b->O b:=λb c=>c.1;have h0:=(M a$ .head _).1;have kp:Keep O H (upd H a$ .frz ob$ .dK kvs):=λb u nb y=>by have z:b≠a:=λz=>nb (by rw[z];exact n);rw[L2.upd_ne z];exact y
   have ne:∀{b:aF}{u:HO},b≠a->H b=aa u->upd H a (.frz ob$ .dK kvs) b=aa u:=λz y=>by rw[L2.upd_ne z];exact y
   have f:∀{j:Nat},IsOwn (ds.set i$ .v$ .dcf ks l) j->IsOwn ds j/\j≠i:=λh=>xV (λl=>by intro z;cases z) h;have I:∀{j:Nat}{b:aF},IsOwn ds j->σ[j]?=aa (aa$ .ref b)->b≠a:=λ{j b} oj D z=>(M a$ .head _).2.2 j oj (by rw[<-z];exact D);refine⟨O',λb u y=>ne (λz=>by rw[z,h0]at y;cases y)$ o.same b u y,λj L b X W=>?_,λb c=>?_,by simpa using o.len,λj s x=>?_,λj m b R C Q X W=>o.apart j m b R (f C).1 (f Q).1 X W,λp hp=>?_,?_⟩
   . obtain⟨⟨l2,V⟩,_⟩:=f ⟨L,X⟩;exact o.fresh j l2 b V W
   . obtain⟨u,eu⟩:=o.dom b c.1;exact⟨u,ne c.2 eu⟩
   . by_cases C:j=i
     . subst C;rw[aU hl]at x;cases x;rw[h1];exact yN$ .dcf (λz=>z.2 rfl) bP ek$ (rv.keep kp).less sub
     . rw [aB (Ne.symm C)]at x;cases s with
       |no=>exact jC
       |ob r t=>exact yQ
       |exc t=>obtain⟨N,C',G,Z,q,A,g,E⟩:=o.readX x;rw[q];exact⟨C',G,Z,A,ne (λz=>by rw[z,c]at g;cases g) g,E⟩
       |exf t fs=>obtain⟨N,q,g⟩:=o.readE x;rw[q];exact g.keep λN G Z g=>ne (λz=>by rw[z,c]at g;cases g) g
       |fr L=>obtain⟨N,P,q,A,q0,g,E⟩:=o.readF x;rw[q];exact⟨λz=>A$ sub _ z,q0,P,kp _ _ A g,(E.keep kp).less sub⟩
       |v d=>obtain⟨v,q,A⟩:=o.read x;rw[q];exact yN$ (A.keep kp).less sub
       |own L=>obtain⟨b,ys,q,A,g,E⟩:=o.readO x;rw[q];have z:=I ⟨L,x⟩ q;exact⟨⟨A,z⟩,ys,ne z g,(E.keep kp).less sub⟩
   . have:=o.hold p hp;cases p with
     |rep v d=>exact(Rep.keep kp this).less sub
     |base B=>exact λb c=>⟨⟨(this b c).1,λz=>(this b c).2$ by rw[z];exact h0⟩,(this b c).2⟩
     |root k a=>exact True.intro
     |fz N o' Y L=>exact⟨λz=>this.1$ sub _ z,kp _ _ this.1 this.2.1,(Reps.keep kp this.2.2).less sub⟩
   . refine⟨F,λj U J D=>?_⟩;obtain⟨D,C⟩:=xN (λr t=>by intro z;cases z) D;obtain⟨w,g1,g2,g3,g4,S⟩:=hF j U J D;have na:=λz=>(M a$ .head _).2.1 j U J C D z;refine⟨w,g1,(g2.keep kp λb c u y=>ne (λz=>na$ by rw[<-z];exact c) y).less sub λb c=>⟨(g2.owns b c).1,λz=>na$ by rw[<-z];exact c⟩,g3,g4,λb c=>⟨(S b c).1,λm r2 t2 Q T=>(S b c).2.1 m r2 t2 Q (xN (λr t=>by intro z;cases z) T).1,λm om T=>(S b c).2.2 m (f om).1 T⟩⟩
end
def aDw{st:Stmt}(h:PSv X st g):PSv X st (frzDG i g):=by
 obtain⟨t,k,m⟩:=h;refine⟨_,ps_frz (i:=i) k,λH₀ H O d u hd b E o e h=>?_⟩;unfold frzDG at e;cases z:u[i]? with
 |none=>rw[z]at e;cases e
 |some s=>
   rw[z]at e;cases s with
   |ob r T=>
     cases T with
     |dct x w=>obtain⟨l,j,e⟩:=bnd e;rw[BY j]at z;obtain⟨a,c,q,p,n⟩:=o.frzD z;refine⟨a,c,q,p,λob=>?_⟩;obtain⟨v,f⟩:=n ob;exact m H₀ _ v d _ hd b E f e h
     |_=>cases e
   |_=>cases e
def WlkD(K:Frag)(J:It)(h:HI)(items:List D):Prop:=∀H₀ H O,(∀a,O a->∃u:MutHO,H a=aa u.1)->HOk K H₀ H O h →
 (∀i d,items[i]?=aa d->J.go i H/\∀x b,J.yld i H x b->Same H b/\Rep K b O x d)/\J.stop items.length H
variable(X) in
def PId(tg iter:Expr)(fi:FA):Prop:=∃e,PI X tg iter e/\∀H₀ H O d f hd b R,Ok X.K H₀ H O d f hd->fi f=aa b →
 (∀J p c,Same H c->HOk X.K H₀ c O p->(∀k a,HI.root k a≠p)->(∀B,HI.base B≠p)->WlkD X.K J p b->R J c)->e d H R
theorem kV_rep{K:Frag}:∀k,Rep K H O (kV k)$ keyDD k
 |.inl (aa i)=>.int i
 |.inl ac=>.non
 |.inr x=>.str x
section
variable{K:Frag}
def RepsO.snocO{xs:List V}{ts:List OT}{fs:List aF}{v:V}{T:OT}{f:List aF}(h:RepsO K H O xs ts fs)(r:RepO K H O v T f):RepsO K H O (xs++[v]) (ts++[T]) (fs++f):=
 h.ind (m:=λxs ts fs=>RepsO K H O (xs++[v]) (ts++[T])$ fs++f) (by simpa using RepsO.cons (gs:=[]) r .nil) λh j=>by rw[bL];exact .cons h j
end
def QO(hF:∀C,aH X.K mainGlobals (eL t)=aa (aa (.ref C))->Cls X.K C/\NoAttr X.K C n)(ho:PVp X oe f)(he:PVo X e g)(hn:eL t'=eL t:=by rfl)(hfl:eX t'=eX t++[n]:=by rfl)(hnew:n∉eX t:=by decide +kernel)(hs:eF e (aa (.Attribute oe n pos')) pos.line X.env=pure ag:=by rfl):PSv X (.Assign [.Attribute oe n pos'] e pos) (setNw t t' f g):=by
 obtain⟨tp,hp,hfp⟩:=ho;obtain⟨tv,hv,hg⟩:=he;refine⟨_,ps_fld hp hv hs,λH₀ H O σ ds hd out E o e h=>?_⟩;unfold setNw at e;cases h1:g ds with
 |none=>rw[h1]at e;cases e
 |some T=>
   rw[h1]at e;cases h2:f ds with
   |none=>rw[h2]at e;cases e
   |some q=>
     rw[h2]at e;simp[aZ]at e;refine hg H₀ H O σ ds hd T _ o h1 λv H1 fs s1 r1 nd1 n1=>?_;have o1:=o.moreL s1 n1 λb hb=>(r1.owns b hb).2;refine hfp H₀ H1 (orL fs O) σ ds hd q _ o1 h2 λr T0 v0 w fs0 g1 g2 g3 g4 g5=>?_;obtain⟨v',w',f',y1,y2,y3,y4,y5,y6⟩:=o.modAt g1 g2;rw[g3]at y1;cases y1;cases xS g4 (xE s1 y2);cases hq:q.2.2 with
     |ins c l=>
       rw[hq]at y3 e;simp only at e;split at e
       . rename_i hk;obtain ⟨rfl,hk⟩:=hk;cases e;cases y3 with
         |@ins a C dx _ kvs _ fs' cc na ha ek rs=>
           obtain⟨cl,nat⟩:=hF C cc;have ln:kvs.length=l.length:=by simpa using rs.length
           refine⟨a,C,dx,kvs,rfl,s1 _ _ ha,cl,nat,by lia,?_⟩;obtain⟨n3,n4⟩:=bK.mp y4;have old:∀b,H b=ac->b∉a::fs':=λb hb z=>by
            rcases aA.mp z with z|z
            . rw[z,ha]at hb;cases hb
            . obtain⟨_,x,ex⟩:=rs.owns b z;rw[hb]at ex;cases ex
           have afs:a∉fs:=λz=>by rw[n1 a z]at ha;cases ha
           have pn:putF n v kvs=kvs++[(n,v)]:=ME (by rw[ek];exact hnew);have hs':∀b u,b≠a->H b=aa u->upd H1 a (.ins C dx$ putF n v kvs) b=aa u:=λb u nb eb=>by rw[L2.upd_ne nb];exact s1 _ _ eb
           have nO:∀{b:aF},¬O b->b≠a:=λnb z=>nb (by rw[z];exact na)
           have c0:Chg H (upd H1 a$ .ins C dx$ putF n v kvs) O (orL fs O) [a] (a::fs):=
            ⟨λb u nb eb=>hs' b u (nO nb) eb,λb u _ nb eb=>hs' b u (λz=>nb$ by rw[z];exact .head _) eb,λb z _=>.inr z,λb z=>z.elim (λz=>.inr ⟨.tail _ z,n1 b z⟩) .inl,λb z=>(aA.mp z).elim (λz=>.inl$ by rw[z];exact .head _) λz=>.inr$ n1 b z⟩
           have rT:RepO X.K (upd H1 a$ .ins C dx$ putF n v kvs) (orL fs O) v T fs:=r1.keep (λb u nb eb=>by rw[L2.upd_ne$ nO λz=>nb$ .inr z];exact eb) λb hb u eb=>by have z:b≠a:=λz=>afs (by rw[<-z];exact hb);rw[L2.upd_ne z];exact eb
           have rs':=(c0.repsO rs λb hb z=>n3$ aS.mp z▸hb).snocO rT
           have ok:=y6 (O':=orL fs O)
            ⟨λb u nb eb=>hs' b u (nO nb) eb,λb u _ nb eb=>hs' b u (λz=>nb$ by rw[z];exact .head _) eb,λb z _=>.inr z,λb z=>z.elim (λz=>.inr ⟨.tail _$ aI _ z,n1 b z⟩) .inl,λb z=>?_⟩
            (λb z _=>?_) (.ins (by rw[hn];exact cc) (.inr na) bP (by rw[pn,hfl,<-ek];simp) (by rw[show(putF n v kvs).map (·.2)=kvs.map (·.2)++[v] by rw[pn];simp];exact rs')) (bK.mpr ⟨λz=>?_,?_⟩)
           . have e':putP q (.ins t' (l++[T])) ds=ds.set q.1 (.ob r (putO (.ins t' (l++[T])) q.2.1 T0)):=by simp [putP,g1]
             rw[e']at h;exact h _ _ _ ok
           . rcases aA.mp z with z|z
             . exact .inl (by rw[z];exact .head _)
             . rcases bE.mp z with z|z
               . exact .inl$ .tail _ z
               . exact .inr$ n1 b z
           . by_cases z':b=a
             . rw[z',bP];exact⟨⟨.ins C dx$ putF n v kvs,rfl⟩,rfl⟩
             . rcases aA.mp z with q'|q'
               . exact(z' q').elim
               . obtain⟨_,y,ey⟩:=rs.owns b q';exact⟨y,hs' b _ z' ey⟩
           . rcases bE.mp z with z|z
             . exact n3 z
             . exact afs z
           . rw[cH];refine⟨n4,nd1,λx hx y hy z=>old x (by rw[z];exact n1 y hy)$ .tail _ hx⟩
       . cases e
     |_=>rw[hq]at e;cases e
structure LMk(P:bW)(w:cT)(K:Frag)(mg:Str->Option Value)(base:Heap)(t k n m:Nat)(F:OT->List D->Option OT):Prop where
 ex:∃(C f:aF) (fd:bR) (ps:List Str),aH K mainGlobals (eL t)=some (some (.ref C))/\mg (eL t)=some (.ref C)/\Mk K C f/\FnOk P w K mg base CX0 k f fd ps (spL K n F)/\Binds K fd ps (List.replicate m .none)
theorem LI:∀m,Vals (List.replicate m V.non)$ List.replicate m Value.none
 |0=>.nil
 |m+1=>.cons rfl$ LI m
theorem LW{K:Frag}:∀m,Reps K H O (List.replicate m V.non)$ List.replicate m D.non
 |0=>.nil
 |m+1=>.cons .non$ LW m
def ZF(Y:aH X.K mainGlobals (eL t)=aa (aa$ .ref C))(J:eX t=[])(U:∀H₀ H O σ ds hd l Q,Ok X.K H₀ H O σ ds hd->g ds=aa l->(∀vs H',Same H H'->Reps X.K H' O vs l->Q vs H')->ta σ H Q)(o:Ok X.K H₀ H O σ ds hd)(h1:makeO t n m F g ds=aa T)(q:∀v H' fs,Same H H'->RepO X.K H' (orL fs O) v T fs->fs.Nodup->(∀b∈fs,H b=ac)->Q v H'):tMake C (spL X.K n F) (List.replicate m .non) E0 ta σ H Q:=by
 obtain⟨l,I,h1⟩:=bnd h1;split at h1
 . rename_i M;refine U H₀ H O σ ds hd l _ o I λvs s c k=>?_;intro x r nx d y;have a:Same s (upd (upd s r (.own x)) x (.ins C r [])):=λb o e=>by rw[upd_ne (qW e nx),upd_ne (qW e d)];exact e
   have w:=o.mono c;have L:=k.length;refine⟨x,.ins t [],T,[x],O,vs++List.replicate m .non,l++List.replicate m .non,rfl,by simp;lia,.ins Y (.inl$ .head _) bP (by rw[J];rfl) .nil,by simp,λb f=>?_,?_,h1,λH' h E D B A=>⟨rfl,q _ H' h (λb u K=>?_) D B λb f=>?_⟩⟩
   . obtain⟨u,i⟩:=w.dom b f;exact⟨(λz=>by rw[aS.mp z,nx]at i;cases i),u,a _ _ i⟩
   . exact((k.moreL λp G=>by rw[aS.mp G];exact nx).mono a).append (LW m)
   . have j:=c _ _ K;exact E b u (λz=>by rw[aS.mp z,nx]at j;cases j)$ a _ _ j
   . rcases A b f with z|z
     . rw[aS.mp z];exact c.free nx
     . exact c.free$ a.free z
 . cases h1
def aDg(M:LMk X.prog X.w X.K X.mg X.base t k n m F)(hr:Room j X.A)(ha:PAs X (e::es) g)(hj:k+1<=j:=by decide)(Y:eL t=x:=by rfl)(J:eX t=[]:=by rfl)(hg:Gl X x:=by rfl)(U:(2:)=ag:=by decide)(he:aG (e::es) X.env=(ag,cA e X.env)::aG es X.env:=by rfl)(z:(dJ pos$ aG es X.env).any (·.1)=ag:=by rfl):PVo X (.Call (.Name x p) (e::es) [] pos) (makeO t n m F g):=by
 obtain⟨C,f,v,u,h,d,c,l,i⟩:=M.ex;obtain⟨s,b,a⟩:=ha;subst Y;exact⟨_,pe_make c l (hr.mono hj) hg d i (LI m) pass0 b U he z,λH₀ H O r w hd T Q o e q=>ZF h J a o e q⟩
variable(X) in
def PVx(e:Expr)(f:FX):Prop:=∃t,PE X e t/\∀H₀ H O b g hd d a Q,Ok X.K H₀ H O b g hd->f g=aa (d,a)->(∀v c h,Ok X.K H₀ c h b a hd->Rep X.K c h v d->Q v c)->t b H Q
end FL
namespace L2
def PR{us:List Value}{ns:List Str}(h:EW us ns):Vals (ns.map V.str) us:=h.rec .nil λ_ t _ _ _=>.cons ⟨t,rfl⟩
def KV.at'{kvs:List (κ×V)}{vs:List (κ×Value)}{i:Nat}{k:κ}(h:KV kvs vs)(e:vs[i]?=aa (k,u)):∃x,kvs[i]?=aa (k,x)/\RelV x u:=by
 induction h generalizing i with
 |nil=>simp at e
 |@cons p q _ _ h _ a=>
   cases i with
   |zero=>simp[dA,Option.some.injEq]at e;subst e;exact⟨p.2,by simp[dA];rw[show p=(k,p.2) from Prod.ext h.1 rfl],h.2⟩
   |succ i=>exact a e
theorem TM:∀{xs:List V}{z:List Value},xs.length=z.length->(∀(j:Nat) u,z[j]?=aa u->∃x,xs[j]?=aa x/\RelV x u)->Vals xs z
 |[],[],_,_=>.nil
 |[],_::_,h,_=>by simp at h
 |_::_,[],h,_=>by simp at h
 |x::xs,u::z,h,H=>by obtain⟨y,a,b⟩:=H 0 u rfl;simp only[dA,Option.some.injEq]at a;subst a;exact .cons b (TM (by simpa using h) λj v e=>H (j+1) v$ by simpa using e)
end L2
namespace FL
end FL
namespace L2
end L2
namespace FL
def Ok.look{K:Frag}(o:Ok K H₀ H O σ ds hd) i:∃O',Ok K H₀ H O' σ (relO i ds) hd:=by
 by_cases c:∃r T,ds[i]?=aa (.ob r T)
 . obtain ⟨r,T,a⟩:=c;have b:relO i ds=ds.set i (.v (otD T)):=by unfold relO;rw [a]
   rw[b];exact o.frz a
 . have b:relO i ds=ds:=by
    unfold relO;split
    . rename_i r T a;exact(c ⟨r,T,a⟩).elim
    . rfl
   rw[b];exact⟨O,o⟩
def MG i(h:PTv X e c):PTv X e (relTO i c):=by obtain⟨t,f,g⟩:=h;refine⟨t,f,λH₀ H O a k hd b Q o e q=>?_⟩;obtain⟨j,d⟩:=o.look i;exact g H₀ H j a _ hd b Q d e q
def UH i(h:PV X e f):PV X e (relVO i f):=by
 obtain⟨t,j,k⟩:=h;refine⟨t,j,λH₀ H O c l hd d Q o e q=>?_⟩;obtain⟨m,g⟩:=o.look i;unfold relVO at e;cases h1:f (relO i l)with
 |none=>rw[h1]at e;cases e
 |some p=>
   rw[h1]at e;simp only[aZ,flV']at e;split at e
   . rename_i b;cases e;exact k H₀ H m c _ hd _ Q g h1 λv n s r=>q v n s$ Rep.flatten (λa z=>((o.mono s).dom a z).elim λu e=>⟨_,e,u.2⟩) b r
   . cases e
abbrev LkF(K:Frag)(f:aF)(z:Value)(od:Option aF)(nm q:Str)(st:Stmt)(U kV J pm:Value)(Y:Option aF)(cd ct:Value)(sl:Array (Option Value)):Prop:=K.lookup f=aa ⟨z,od,.func$ dL nm q (yD st) (qJ st) (zJ st) U kV J pm Y cd ct,sl⟩
structure FunD(K:Frag)(x qual:Str)(st:Stmt)(f:aF)(fd:bR)(its:Array Value):Prop where
 ex:∃(Tu:aF) (ob:Obj) (n:Nat) (oc:Value) (od:Option aF) (kV doc pm:Value) (an:Option aF) (cdv ct:Value) (osl:Array (Option Value)),
  fd=dL x qual (yD st) (qJ st) (zJ st) (.ref Tu) kV doc pm an cdv ct/\K.lookup f=some ⟨oc,od,.func fd,osl⟩/\fN K cdv qual=true/\K.lookup Tu=some ob/\ob.data=.seq its n
 kp:cC K (.ref f)=true
section
variable{P:bW}{w:cT}{K:Frag}{mg:Str->Option Value}{base:Heap}{x qual:Str}{st:Stmt}{f:aF}
def FunD.binds(F:FunD K x qual st f fd Y)(h:∀U kV doc pm an z ct J,(J++ds).length=ps.length->∃k,rQ (dL x qual (yD st) (qJ st) (zJ st) (.ref U) kV doc pm an z ct) ⟨J,[]⟩=seqItems? (.ref U) >>= k/\k (aa Y)=pure (ps.zip$ J++ds)):Binds K fd ps ds:=by obtain⟨U,ob,n,j,i,kV,doc,pm,an,z,ct,a,rfl,lk,d,lt,b⟩:=F.ex;intro s J X c;obtain⟨k,g,e⟩:=h U kV doc pm an z ct J c;exact PySem.W.binds_K X rfl lt b g e
def len0{P:List Value->Prop}(h:P []):∀us,us.length=0->P us:=λus a=>by cases us with|nil=>exact h|cons _ _=>cases a
def lenS{P:List Value->Prop}(h:∀a us,us.length=n->P (a::us)):∀us,us.length=n+1->P us:=λus b=>by cases us with|nil=>cases b|cons a r=>exact h a r$ Nat.succ.inj b
def len1{P:List Value->Prop}(h:∀a0,P [a0]):∀us,us.length=1->P us:=lenS λa=>len0$ h a
def len2{P:List Value->Prop}(h:∀a0 z,P [a0,z]):∀us,us.length=2->P us:=lenS λa=>len1$ h a
def len3{P:List Value->Prop}(h:∀a0 J z,P [a0,J,z]):∀us,us.length=3->P us:=lenS λa=>len2$ h a
def len4{P:List Value->Prop}(h:∀a0 U J z,P [a0,U,J,z]):∀us,us.length=4->P us:=lenS λa=>len3$ h a
def len5{P:List Value->Prop}(h:∀a0 Y U J z,P [a0,Y,U,J,z]):∀us,us.length=5->P us:=lenS λa=>len4$ h a
def DefM(K:Frag)(x:Str)(st:Stmt)(f:aF):Prop:=∃(z:Value) (od:Option aF) (kV J pm:Value) (U:Option aF) (cd ct:Value) (sl:Array (Option Value)),aH K mainGlobals x=aa (aa$ .ref f)/\LkF K f z od x x st .none kV J pm U cd ct sl/\fN K cd x=ae/\cC K (.ref f)=ae
def DefC(K:Frag)(C:aF)(m q:Str)(st:Stmt)(f:aF):Prop:=∃(z:Value) (od:Option aF) (kV J pm:Value) (U:Option aF) (cd ct:Value) (sl:Array (Option Value)),cG K (.ref C) m=aa (aa$ .ref f)/\LkF K f z od m q st .none kV J pm U cd ct sl/\fN K cd q=ae/\cC K (.ref f)=ae/\mU K (.ref f)=ae
def DefM.get(h:DefM K x st f):∃fd,Fun K x x st f fd/\aH K mainGlobals x=aa (aa$ .ref f)/\cC K (.ref f)=ae:=by obtain⟨_,_,_,_,_,_,_,_,_,a,l,c,k⟩:=h;exact⟨_,DQ l c k,a,k⟩
def DefC.get(h:DefC K C m q st f):∃fd,Fun K m q st f fd/\cG K (.ref C) m=aa (aa$ .ref f)/\cC K (.ref f)=ae/\mU K (.ref f)=ae:=by obtain⟨_,_,_,_,_,_,_,_,_,a,l,c,k,i⟩:=h;exact⟨_,DQ l c k,a,k,i⟩
def aHt(G:FnOk P w K mg base CX0 k f fd ps (spF K n F))(b:Binds K fd ps [])(h:cC K (.ref f)=ae)(m:mg x=aa (.ref f)):Cal P w K mg base x k n F:=⟨f,_,_,G,b,h,m⟩
structure SysAt(P:bW)(w:cT)(base:Heap)(K:Frag)(mg:Str->Option Value):Prop where
 ex:∃h:Heap,K.In h/\h.Ns mainGlobals mg
def CN(K:Frag)(x:Str)(C:aF):Prop:=aH K mainGlobals x=aa (aa$ .ref C)/\lM K C Str.empty=ae/\nY K C=ae/\tF K C=ae/\cG K (.ref C) "__setattr__"=aa (aa$ .builtin "object.__setattr__")
def CN.get(h:CN K x C):aH K mainGlobals x=aa (aa$ .ref C)/\Cls K C:=⟨h.1,⟨h.2.1,h.2.2.1,h.2.2.2.1,h.2.2.2.2⟩⟩
def fldOk_c{f:Str}(a:aH K mainGlobals (eL t)=aa (aa$ .ref C))(c:Cls K C)(n:NoAttr K C f)(h:FldOk K f z)(h1:(eX t)[i]?=aa f:=by rfl)(h2:∀j,j<i->(eX t)[j]?≠aa f:=by decide +kernel):FldOk K f ((t,i)::z):=RZ a c n h1 h2 h
def XN(K:Frag)(A B:aF):Prop:=pF K B=ae/\nE K (.ref B)=aa (.type "type")/\lZ K (.ref A) (.ref B)=aa ag/\(Value.ref A==Value.ref B)=ag
def XN.k(h:XN K A B):cV K (.ref A) (.ref B)=aa ag:=kit_no h.1 h.2.1 h.2.2.1 h.2.2.2
def XI(K:Frag)(x:Str)(C:aF):Prop:=aH K mainGlobals x=aa (aa$ .ref C)/\cG K (.ref C) "__getattribute__"=aa (aa$ .builtin "BaseException.__getattribute__")/\cG K (.ref C) "__getattr__"=aa ac/\cG K (.ref C) "__class__"=aa (aa$ .builtin "object.__class__")/\rV K C (.type "object")=aa ae/\rV K C (.type "BaseException")=aa ae
def XI.i(h:XI K x C):XIn K C:=⟨h.2.1,h.2.2.1,h.2.2.2.1,h.2.2.2.2.1,h.2.2.2.2.2⟩
def isx_c(y:XI K (xName t) C)(k:cV K (.ref C) z=aa b)(r:IsxOk K z tb):IsxOk K z ((t,b)::tb):=aGg y.1 y.i k r
def DefM.cal(d:DefM K x st f)(X:SysAt P w base K mg)(U:∀{fd},Fun K x x st f fd->FnOk P w K mg base CX0 k f fd ps (spF K n F))(Y:∀kV doc pm an J ct z,z.length=ps.length->rQ (dL x x (yD st) (qJ st) (zJ st) .none kV doc pm an J ct) ⟨z,[]⟩=pure (ps.zip z):=by
    intro _ _ _ _ _ _;first|exact len0 rfl|exact len1 λ_=>rfl|exact len2 λ_ _=>rfl|exact len3 λ_ _ _=>rfl|exact len4 λ_ _ _ _=>rfl|exact len5 λ_ _ _ _ _=>rfl):Cal P w K mg base x k n F:=by
 obtain⟨_,b,a,c⟩:=d.get;obtain⟨_,X,G⟩:=X.ex;exact aHt (U b) (b.binds Y) c$ bZ X G a
def DefC.mc(d:DefC K C m q st f)(a:aH K mainGlobals (eL t)=aa (aa$ .ref C))(c:Cls K C)(hf:∀{fd},Fun K m q st f fd->FnOk P w K mg base CX0 j f fd ps (spF K (n+1)$ F t))(h:MCal P w K mg base m k n cs F)(hj:j<=k:=by decide)(Y:m∉eX t:=by decide +kernel)(hb:∀kV doc pm an U ct J,J.length=ps.length->rQ (dL m q (yD st) (qJ st) (zJ st) .none kV doc pm an U ct) ⟨J,[]⟩=pure (ps.zip J):=by
    intro _ _ _ _ _ _;first|exact len1 λ_=>rfl|exact len2 λ_ _=>rfl|exact len3 λ_ _ _=>rfl):MCal P w K mg base m k n (t::cs) F:=by
 obtain⟨_,b,x,y,z⟩:=d.get;exact HW a c ⟨x,z,y⟩ (hf b) hj (b.binds hb) Y h
def DefC.lc(d:DefC K C m q st f)(a:aH K mainGlobals (eL t)=aa (aa$ .ref C))(c:Cls K C)(hf:∀{fd},Fun K m q st f fd->FnOk P w K mg base CX0 j f fd ps (spL K n$ F t))(h:LCal P w K mg base m k n cs F)(hj:j<=k:=by decide)(Y:m∉eX t:=by decide +kernel)(hb:∀kV doc pm an U ct J,J.length=ps.length->rQ (dL m q (yD st) (qJ st) (zJ st) .none kV doc pm an U ct) ⟨J,[]⟩=pure (ps.zip J):=by
    intro _ _ _ _ _ _;first|exact len1 λ_=>rfl|exact len2 λ_ _=>rfl|exact len3 λ_ _ _=>rfl):LCal P w K mg base m k n (t::cs) F:=by
 obtain⟨_,b,x,y,z⟩:=d.get;exact ZJ a c ⟨x,z,y⟩ (hf b) hj (b.binds hb) Y h
def newOk(n:aH K mainGlobals (eL t)=aa (aa$ .ref C))(c:Cls K C)(na:NoAttr K C a):∀z,aH K mainGlobals (eL t)=aa (aa$ .ref z)->Cls K z/\NoAttr K z a:=λz e=>by rw[n]at e;cases e;exact⟨c,na⟩
end
end FL
namespace L2
def Inv.thawD(I:Inv X aE σ H s)(e:H a=aa (.frz o$ .dK kvs))(J:o.data=.dict es ep)(U:∀q u,X.H₀ a≠aa (.frz q u)):Inv X aE σ (upd H a$ .dK kvs) s:=by
 have ne:∀{b},H b=ac->b≠a:=λ{b} h z=>by rw[z,e]at h;cases h
 have D:=(I.hok a _ e).1;refine⟨I.ok,I.os,I.bare,⟨I.base.keep,I.base.slot,λb q x n A=>?_,I.base.there,λb xs q=>?_,λb q u z=>?_,λb m q=>?_⟩,I.loc,I.cell,by rw[upd_ne$ ne I.free];exact I.free,λx c q=>?_,λp C=>?_,λb u q=>?_,I.len⟩
 . have:=I.base.free b q x n A;rw[upd_ne$ ne this];exact this
 . have:=I.base.tups b xs q;rw[upd_ne λz=>by rw[z,e]at this;cases this];exact this
 . have:=I.base.frzs b q u z;rw[upd_ne λy=>by rw[y]at z;exact U q u z];exact this
 . have:=I.base.tbls b m q;rw[upd_ne λz=>by rw[z,e]at this;cases this];exact this
 . have d:c≠a:=λz=>by
    obtain⟨v,f⟩:=I.cell x c q;obtain⟨i,f,hd⟩:=f;rw[z,D]at f;have:=Option.some.inj f;rw[<-this,J]at hd;cases hd
   rcases I.freeC x c q with h|⟨F,i,u,E⟩
   . exact .inl (by rw[upd_ne d];exact h)
   . exact .inr ⟨F,i,u,by rw[upd_ne d];exact E⟩
 . obtain⟨t,j,r⟩:=I.pin p C;exact⟨t,by rw[upd_ne$ ne j];exact j,r⟩
 . by_cases l:b=a
   . subst l;rw[bP]at q;cases q;exact(I.hok b _ e).2
   . rw [upd_ne l]at q;refine (I.hok b u q).stay (λ_ _ _ z=>z) (λc z=>?_) λc xs z=>?_
     . rw[upd_ne λy=>by rw[y,e]at z;cases z];exact z
     . obtain ⟨w,B⟩:=xs;have g:=z;rw [upd_ne (λy=>?_)]
       . exact z
       . rw[y,e]at g;cases g;obtain⟨G,k⟩:=B;rw[J]at k;cases k
end L2
namespace FL
section
variable{scope:Scope}
def aAn(hi:∀H₀ H O σ ds hd items R,Ok X.K H₀ H O σ ds hd->fi ds=aa items->(∀J p H',Same H H'->HOk X.K H₀ H' O p->(∀k a,HI.root k a≠p)->(∀B,HI.base B≠p)->WlkD X.K J p items->R J H')->Y σ H R)(hg:∀c H₀ H O σ ds hd v d ds' Q,Ok X.K H₀ H O σ ds hd->Rep X.K H O v d->ga d ds=aa ds'->(∀z,Ok X.K H₀ H O z ds' hd->Q z H)->g c v σ H Q)(ht:∀c H₀ H O σ ds hd b Q,Ok X.K H₀ H O σ ds hd->tt ds=aa b->(∀H',Same H H'->Q b H')->t1 c σ H Q)(he:∀c H₀ H O σ ds hd d Q,Ok X.K H₀ H O σ ds hd->fe ds=aa d->(∀v H',Same H H'->Rep X.K H' O v d->Q v H')->t2 c σ H Q):∀H₀ H O σ ds hd l Q,Ok X.K H₀ H O σ ds hd->compG fi mp ga tt fe ds=aa l →
   (∀a xs H',Same H H'->H a=ac->H' a=aa (.lst xs)->Reps X.K H' (ins1 a O) xs l->Q (.ref a) H')->tComp Y mp g t1 t2 σ H Q:=by
 intro H₀ H O σ ds hd l Q o e q;obtain⟨items,h1,e⟩:=bnd e;split at e
 . rename_i hsz;refine hi H₀ H O σ ds hd items _ o h1 λJ p H1 D W nr nb S=>λc=>?_;have Z:=((o.mono D).holdMore W nr).inner mp
   refine⟨λi m ys C=>i<=items.length/\m=items.length-i/\Same H1 C/\ys.length<=i/\∃u rest,Reps X.K C O ys u/\compL ga tt fe (jN mp ds) (items.drop i)=aa rest/\l=u++rest,
    ⟨items.length,cI _,rfl,Same.refl _,aL _,[],l,.nil,by simpa using e,rfl⟩,?_⟩
   rintro i m ys C ⟨hi1,rfl,t,hy,u,rest,E,f,A⟩;have F:=Z.mono t;obtain⟨go,stop⟩:=S H₀ C O F.dom$ F.hold p aP;by_cases h:i<items.length
   . right;have K:=aR h;obtain ⟨I,G⟩:=go i _ K;refine ⟨I,by lia,λx L y=>?_⟩;obtain ⟨s,V⟩:=G x L y;rw [dR h,compL]at f;obtain ⟨n,h2,f⟩:=bnd f;refine hg c H₀ L O _ _ (p::hd) x _ n _ (F.mono s) V h2 λz P=>?_;obtain ⟨b,h3,f⟩:=bnd f;refine ht c H₀ L O z n (p::hd) b _ P h3 λH4 r=>?_;cases b with
     |false=>refine iteF ⟨items.length-(i+1),by lia,h,rfl,(t.trans s).trans r,aBz hy,u,rest,(E.mono s).mono r,by simpa using f,A⟩
     |true=>
       obtain⟨M,h4,f⟩:=bnd f;cases U:compL ga tt fe (jN mp ds) (items.drop$ i+1)with
       |none=>rw[U]at f;cases f
       |some j=>rw[U]at f;cases f;refine he c H₀ H4 O z n (p::hd) M _ (P.mono r) h4 λv H5 N T=>?_;refine⟨items.length-(i+1),by lia,h,rfl,((t.trans s).trans r).trans N,by simp;lia,u++[M],j,(((E.mono s).mono r).mono N).append$ .cons T .nil,U,?_⟩;rw[A];simp
   . left;have ei:i=items.length:=by lia
     subst ei;rw[mJ,compL]at f;cases f;rw[cZ]at A;subst A;refine⟨stop,by lia,λa w=>?_⟩;refine q a ys _ ((D.trans t).trans$ qF w _) ((D.trans t).free w) bP ?_;exact(E.more w).mono (qF w _)
 . cases e
end
def PVo.n(h:PVo X e f):PVn X e (seeO f):=by obtain⟨t,c,g⟩:=h;refine⟨t,c,λH₀ H O b j hd d Q o e q=>?_⟩;obtain⟨T,i,rfl⟩:=mpd e;exact g H₀ H O b j hd T Q o i λv k fs s r nd l=>q v k s$ r.frz λa z=>z.elim
end FL
namespace L2
end L2
namespace FL
section
variable{K:Frag}
def ok_lend(rt:RepO K H (orL fs B) (.ref a) T fs)(nd:fs.Nodup)(Y:∀b,B b->b∉fs/\∃u:MutHO,H b=aa u.1)(hl:σ.length=ds.length)(J:ds[p]?=aa (.ob (aa p) T))(ha:σ[p]?=aa (aa$ .ref a))(U:∀j s,j≠p->ds[j]?=aa s->s=.no\/∃d v,s=.v d/\σ[j]?=aa (aa v)/\Rep K H (orL fs B) v d):Ok K (cutH fs H) H (orL fs B) σ ds [.root p a,.base B]:=by
 have no:∀{j:Nat},¬IsOwn ds j:=λ{j} ⟨l,e⟩=>by
  by_cases c:j=p
  . subst c;rw[J]at e;cases e
  . rcases U j _ c e with h|⟨d,v,h,_⟩<;>cases h
 have g:∀{j:Nat}{r:Option Nat}{t:OT},ds[j]?=aa (.ob r t)->j=p:=λ{j r t} e=>by
  by_cases c:j=p
  . exact c
  . rcases U j _ c e with h|⟨d,v,h,_⟩<;>cases h
 refine⟨λb u e=>?_,λi x y e _=>(no ⟨x,e⟩).elim,λb f=>f.elim (λz=>(rt.owns b z).2) λz=>(Y b z).2,hl,λi s e=>?_,λi j a _ hi _ _ _=>(no hi).elim,λq m=>?_,?_⟩
 . by_cases z:b∈fs
   . rw[BR z]at e;cases e
   . rwa [xH z]at e
 . by_cases hi:i=p
   . subst hi;rw[J]at e;cases e;exact yQ
   . rcases U i s hi e with rfl|⟨d,v,rfl,o,r⟩
     . exact jC
     . rw[o];exact yN r
 . rcases aA.mp m with rfl|m
   . exact True.intro
   . cases aS.mp m;refine λb f=>⟨.inr f,λz=>?_⟩
     obtain⟨n,u,e⟩:=Y b f;rw[xH n,e]at z;cases z
 . refine ⟨λ_=>fs,λi E C e=>?_⟩;cases g e;rw [J]at e;cases e;refine ⟨.ref a,ha,rt,λk y F h=>?_,nd,λb f=>⟨BR f,λj D A c o=>(c (g o)).elim,λj w=>(no w).elim⟩⟩;rcases aA.mp h with h|h
   . cases h;rfl
   . cases aS.mp h
def Ok.lendEnd(o:Ok K (cutH fs H) H' O' σ ds hd)(e:ds[p]?=aa (.ob (aa p) T))(h1:HI.root p a∈hd)(h2:HI.base B∈hd):∃fs',(∀b u,b∉fs->H b=aa u->H' b=aa u)/\RepO K H' (orL fs' B) (.ref a) T fs'/\fs'.Nodup/\(∀b∈fs',b∈fs\/H b=ac)/\∀b,orL fs' B b->O' b:=by
 obtain⟨d,j⟩:=o.obs;obtain⟨v,y1,c,h,g,f⟩:=j p _ _ e;cases h p a rfl h1;have i:=o.hold (.base B) h2;have sub:∀b,orL (d p) B b->O' b:=λb z=>z.elim (λz=>(c.owns b z).1) λz=>(i b z).1;exact⟨d p,λb u nb k=>o.same b u$ by rw[xH nb];exact k,c.less sub λb z=>.inl z,g,λb z=>IK (f b z).1,sub⟩
def aHn(h1:∀b,O b->b∈fs\/B b)(h2:∀b∈fs,O b)(U:∀b,B b->O b)(k1:∀b u,b∉fs->H b=aa u->H' b=aa u)(J:∀b∈fs',b∈fs\/H b=ac):Chg H H' O (orL fs' B) fs fs':=
 ⟨λb u nb a=>k1 b u (λz=>nb$ h2 b z) a,λb u _ nb a=>k1 b u nb a,λb z nb=>.inr$ (h1 b z).resolve_left nb,λb z=>z.elim (λz=>(J b z).elim (λy=>.inl$ h2 b y) λy=>.inr ⟨z,y⟩) λz=>.inl$ U b z,J⟩
def Ok.lendAt(o:Ok K H₀ H O σ ds hd)(e:ds[i]?=aa (.ob r T))(U:refO T=ae):∃a fs,σ[i]?=aa (aa$ .ref a)/\RepO K H O (.ref a) T fs/\fs.Nodup/\(∀b∈fs,O b) ∧
   ∀{H':Hp}{J:OT}{fs':List aF},(∀b u,b∉fs->H b=aa u->H' b=aa u)->RepO K H' (orL fs' λb=>O b/\b∉fs) (.ref a) J fs'->fs'.Nodup->(∀b∈fs',b∈fs\/H b=ac) →
    Ok K H₀ H' (orL fs' λb=>O b/\b∉fs) σ (ds.set i$ .ob r J) hd:=by
 obtain⟨v,w,f,y1,k,c,j,s,h⟩:=o.modAt (p:=[]) e rfl;cases k;have d:=λb z=>(c.owns b z).1;have q:∃a,v=.ref a:=by
  cases c with
  |val _=>cases U
  |lst _ _ _=>exact⟨_,rfl⟩
  |tup _ _ _=>exact⟨_,rfl⟩
  |dct _ _ _ _=>exact⟨_,rfl⟩
  |ins _ _ _ _ _=>exact⟨_,rfl⟩
 obtain⟨a,rfl⟩:=q;refine⟨a,f,y1,c,j,d,λ{H' J fs'} n g m l=>?_⟩;have:=h (aHn (λb z=>(Classical.em$ b∈f).imp id λy=>⟨z,y⟩) d (λb z=>z.1) n l) (λb z y=>y.elim (λy=>(g.owns b y).2) λy=>(y.2 z).elim) g m;exact this
end
noncomputable def spR(K:Frag)(n p:Nat)(F:OT->List D->Option (D×OT)):Sp:=λvs H Q _=>vs.length=n/\∃(a:aF) (T T':OT) (d:D) (fs:List aF) (B:aF->Prop) (l:List D),vs[p]?=aa (.ref a)/\l.length=n/\RepO K H (orL fs B) (.ref a) T fs/\fs.Nodup ∧
 (∀b,B b->b∉fs/\∃u:MutHO,H b=aa u.1)/\(∀(j:Nat) (d:D),j≠p->l[j]?=aa d->∃v,vs[j]?=aa v/\Rep K H (orL fs B) v d)/\F T l=aa (d,T') ∧
 ∀v H' fs',(∀b u,b∉fs->H b=aa u->H' b=aa u)->RepO K H' (orL fs' B) (.ref a) T' fs'->fs'.Nodup->(∀b∈fs',b∈fs\/H b=ac)->Rep K H' (orL fs' B) v d->Q v H'
variable(X) in
def PRv(z:List Stmt)(f:FX):Prop:=∃t,PSs X z t/\∀H₀ H O e g hd d a (E:Ends),Ok X.K H₀ H O e g hd->f g=aa (d,a)->(∀v b c h,Ok X.K H₀ c h b a hd->Rep X.K c h v d->E.rt v c)->t E e H
def pvx_v(h:PV X e f):PVx X e (vR f):=by obtain⟨t,b,c⟩:=h;refine⟨t,b,λH₀ H O a j hd d i Q o e q=>?_⟩;obtain⟨d,g,e⟩:=mpd e;cases e;exact c H₀ H O a j hd _ _ o g λv k s r=>q v k O (o.mono s) r
def prv_ret(h:PVx X e f):PRv X [.Return (aa e) pos] f:=by obtain⟨t,g,i⟩:=h;refine⟨_,UQ$ JO g,λH₀ H O b j hd d a E o e q=>?_⟩;exact i H₀ H O b j hd d a _ o e λv l k c r=>q v b l k c r
def jR{st:Stmt}{rest:List Stmt}(h1:PSv X st g)(h2:PRv X rest f):PRv X (st::rest) (seqR g f):=by
 obtain⟨t,l,m⟩:=h1;obtain⟨u,k,n⟩:=h2;refine⟨_,CU l k,λH₀ H O i p hd d h E o e q=>?_⟩;obtain⟨b,h1,e⟩:=bnd e;cases b with
 |nx c=>refine m H₀ H O i p hd _ _ o h1 λa s r j=>?_;exact n H₀ s r a c hd d h E j e q
 |_=>cases e
def fun_okR{K:Frag}{st:Stmt}(Fn:Fun K x qual st f fd)(S:FnScope N ps (zJ st))(U:∀J A outer s H E,Room k (A.deeper$ iM qual (zJ st) s.heap.objs.size f J)->PRv (cxOf CX0 P w K mg base N qual (zJ st) f J A outer s H E).nox (qJ st) g)(hg:∀T l q,l.length=ps.length->F T l=aa q->lentR g N.length p T l=aa q)(hp:p<ps.length:=by decide)(hN:ps.length<=N.length:=by decide):FnOk P w K mg base CX0 (k+1) f fd ps (spR K ps.length p F):=by
 refine Fn.ok S (λD H Q E h=>h.1) λJ A outer s H D Q E hr h=>?_;obtain⟨hl,a,T,T',d,fs,B,l,ha,R,rt,nd,hB,M,e,q⟩:=h;obtain⟨t,ht,hf⟩:=U J A outer s H E hr;refine⟨t,ht,?_⟩;have c:(args N.length l).length=N.length:=by simp[args];lia
 have o:Ok K (cutH fs H) H (orL fs B) (L2.start N D) ((args N.length l).set p$ .ob (aa p) T) [.root p a,.base B]:=by
  refine ok_lend rt nd hB ?_ ?_ ?_ λj s' G m=>?_
  . rw[List.length_set,c];simp[L2.start,cD,bS,rH];lia
  . rw[aU$ by rw[c];lia]
  . simp[L2.start];rw[bO$ by simp;lia,bB,ha];rfl
  . rw [aB (Ne.symm G)]at m;unfold args at m;by_cases b:j<l.length
    . rw[bO$ by simpa using b,bB,aR b]at m;cases m;obtain⟨v,u,n⟩:=M j _ G$ aR b;refine .inr ⟨_,v,rfl,?_,n⟩;simp[L2.start];rw[bO$ by simp;lia,bB,u];rfl
    . rw [cE (by simpa using b),eB]at m;split at m
      . cases m;exact .inl rfl
      . cases m
 have e:=hg T l _ R e;unfold lentR at e;cases u:g ((args N.length l).set p$ .ob (aa p) T)with
 |none=>rw[u]at e;cases e
 |some z=>
   obtain⟨d2,C⟩:=z;rw[u]at e;simp only[aZ]at e;cases n:C[p]? with
   |none=>rw[n]at e;cases e
   |some L=>
     rw[n]at e;cases L with
     |ob r T2=>
       cases r with
       |none=>cases e
       |some i=>
         simp only[obAt]at e;split at e
         . rename_i hi;subst hi;cases e;refine hf _ H _ _ _ _ _ _ _ o u λv I H' O' O r=>?_;obtain⟨y,Y,Z,X,W,V⟩:=O.lendEnd n (.head _)$ .tail _$ .head _;exact q v H' y Y Z X W$ r.less V
         . cases e
     |_=>cases e
structure CalR(P:bW)(w:cT)(K:Frag)(mg:Str->Option Value)(base:Heap)(x:Str)(k n p:Nat)(F:OT->List D->Option (D×OT)):Prop where
 ex:∃(f:aF) (fd:bR) (ps:List Str),FnOk P w K mg base CX0 k f fd ps (spR K n p F)/\Binds K fd ps []/\cC K (.ref f)=true/\mg x=some (.ref f)
variable(X) in
def PAx(i p:Nat)(es:List Expr)(g:FA):Prop:=∃t,PA X es t/\∀H₀ H O b c hd l r T f Q,Ok X.K H₀ H O b c hd->g c=aa l->c[i]?=aa (.ob r T)->b[i]?=aa (aa f) →
 (∀a e,Same H e->a.length=l.length->a[p]?=aa f->(∀(j:Nat) (d:D),j≠p->l[j]?=aa d->∃v,a[j]?=aa v/\Rep X.K e O v d)->Q a e)->t b H Q
def aEn(Y:PAs X es g)(hN:X.N[i]?=aa x:=by rfl)(J:Vis X.env.scope x:=by first|exact Or.inl rfl|exact Or.inr (Or.inl rfl)|exact Or.inr (Or.inr rfl))(hd:(2:)=ag:=by decide)(z:(x==("__classdict__":Str))=ag:=by decide)(U:aG (.Name x px::es) X.env=(ag,cA (.Name x px) X.env)::aG es X.env:=by rfl):PAx X i 0 (.Name x px::es) (hereA g):=by
 obtain⟨t,k,n⟩:=Y;refine⟨_,qL (xD hN J hd z) k U,λH₀ H O c w hd l r T a Q o e A v q=>?_⟩;obtain⟨h,p,rfl⟩:=mpd e;refine⟨a,v,n H₀ H O c w hd h _ o p λf y s b=>?_⟩;refine q (a::f) y s (by simp[b.length]) rfl λj d m u=>?_;cases j with
 |zero=>exact(m rfl).elim
 |succ j=>exact b.get u
def MP(Y:PV X e f)(U:PAx X i p es g)(J:aG (e::es) X.env=(ag,cA e X.env)::aG es X.env:=by rfl):PAx X i (p+1) (e::es) (zB f g):=by
 obtain⟨t,A,F⟩:=Y;obtain⟨u,y,E⟩:=U;refine⟨_,qL A y J,λH₀ H O a k hd l r T n Q o e L K q=>?_⟩;obtain⟨M,I,e⟩:=bnd e;obtain⟨x,G,rfl⟩:=mpd e;refine F H₀ H O a k hd M _ o I λv P c w=>?_;refine E H₀ P O a k hd x r T n _ (o.mono c) G L K λm N b C B s=>?_;refine q (v::m) N (c.trans b) (by simp[C]) (by simpa using B) λj d D h=>?_;cases j with
 |zero=>cases h;exact⟨v,rfl,w.mono b⟩
 |succ j=>exact s j d (λz=>D$ by rw[z]) h
def XZ(C:CalR X.prog X.w X.K X.mg X.base x k n p F)(hr:Room j X.A)(ha:PAx X i p (e::es) g)(Y:k<=j:=by decide)(hg:Gl X x:=by rfl)(hdb:(2:)=ag:=by decide)(he:aG (e::es) X.env=(ag,cA e X.env)::aG es X.env:=by rfl)(U:(dJ pos$ aG es X.env).any (·.1)=ag:=by rfl):PVx X (.Call (.Name x pp) (e::es) [] pos) (callR n i F g):=by
 obtain⟨t,R,hf⟩:=ha;obtain⟨f,fd,ps,Fn,hb,Z,V⟩:=C.ex;refine⟨_,JP Fn (hr.mono Y) hg V Z hb .nil pass0 R hdb he U,λH₀ H O D B hd d ds' Q o e q=>?_⟩;obtain⟨l,h,e⟩:=bnd e;cases J:B[i]? with
 |none=>rw[J]at e;cases e
 |some s=>
   rw[J]at e;cases s with
   |ob r T=>
     simp only at e;split at e
     . rename_i w;obtain ⟨z,h2,e⟩:=mpd e;cases e;obtain ⟨a0,_,A,_⟩:=o.lendAt J w.1;refine hf H₀ H O D B hd l r T _ _ o h J A λvs H1 E W S G=>?_;have y:=o.mono E;obtain ⟨a,fs,m,rt,nd,I,u⟩:=y.lendAt J w.1;rw [A]at m;cases m;have c:∀ b,orL fs (λb=>O b/\b ∉ fs) b->O b:=λb z=>z.elim (I b) λz=>z.1;refine ⟨by simp [cZ];rw [W];exact w.2,a0,T,z.2,z.1,fs,λb=>O b/\b ∉ fs,l,by simpa using S,w.2,rt.less c (λb z=>.inl z),nd,λb z=>⟨z.2,y.dom b z.1⟩,λj d Y ej=>?_,h2,λv H' fs' P N M L K=>?_⟩
       . obtain⟨v,e1,e2⟩:=G j d Y ej;exact⟨v,by simpa using e1,e2.less c⟩
       . exact q v H' _ (u P N M L) K
     . cases e
   |_=>cases e
def aDv(hN:X.N.Nodup)(Y:PVx X e f)(hi:X.N[i]?=aa x:=by rfl)(z:Loc X.env.scope x:=by first|exact Or.inl rfl|exact Or.inr rfl)(J:eF e (aa$ .Name x pos') pos.line X.env=pure ag:=by rfl)(U:X.fn x=ae\/X.env.scope.names.lookup x=aa .local:=by first|exact .inl rfl|exact .inr rfl):PSv X (.Assign [.Name x pos'] e pos) (setR i f):=by obtain⟨t,d,g⟩:=Y;refine⟨_,JN hN hi z d J U,λH₀ H O a k hd b E o e h=>?_⟩;obtain⟨q,j,rfl⟩:=mpd e;exact g H₀ H O a k hd q.1 q.2 _ o j λv m l c r=>h _ _ _$ c.set r
section
variable{K:Frag}
def calR_mk(G:FnOk P w K mg base CX0 k f fd ps (spR K n p F))(b:Binds K fd ps [])(h:cC K (.ref f)=ae)(m:mg x=aa (.ref f)):CalR P w K mg base x k n p F:=⟨f,_,_,G,b,h,m⟩
def DefM.calR{st:Stmt}(d:DefM K x st f)(X:SysAt P w base K mg)(U:∀{fd},Fun K x x st f fd->FnOk P w K mg base CX0 k f fd ps (spR K n p F))(Y:∀kV doc pm an J ct z,z.length=ps.length->rQ (dL x x (yD st) (qJ st) (zJ st) .none kV doc pm an J ct) ⟨z,[]⟩=pure (ps.zip z):=by
    intro _ _ _ _ _ _;first|exact len0 rfl|exact len1 λ_=>rfl|exact len2 λ_ _=>rfl|exact len3 λ_ _ _=>rfl|exact len4 λ_ _ _ _=>rfl|exact len5 λ_ _ _ _ _=>rfl):CalR P w K mg base x k n p F:=
 by obtain⟨_,b,a,c⟩:=d.get;obtain⟨_,X,G⟩:=X.ex;exact calR_mk (U b) (b.binds Y) c$ bZ X G a
end
open PySem.W (hideAll hideAll_get of_hideAll hideAll_none)
structure MCalX(P:bW)(w:cT)(K:Frag)(mg:Str->Option Value)(base:Heap)(m:Str)(t k n:Nat)(R:List D->Bool)(C:aF):Prop where
 no:m∉eX t
 ex:∃(B f:aF) (fd:bR) (ps:List Str),aH K mainGlobals (eL t)=some (some (.ref B))/\Cls K B/\Meth K B m f/\FnOk P w K mg base (CXM P w) k f fd ps (spX K (n+1) R C)/\Binds K fd ps []
section
variable{E:XK}{C:aF}{m:Str}{t k j n:Nat}{R:List D->Bool}{fo:FE}{g:FA}
def LX i(h:PVo X e f):PVo X e (relGO i f):=by
 obtain⟨t,k,l⟩:=h;refine⟨t,k,λH₀ H O d w hd T Q ok ex q=>?_⟩;obtain⟨o,g⟩:=ok.look i;unfold relGO at ex;obtain⟨x,n,ex⟩:=bnd ex;split at ex
 . rename_i c;cases ex;refine l H₀ H o d _ hd _ Q g n λv p fs s r nd j=>q v p fs s ?_ nd j;refine RepO.flatten (λa z=>?_) c r λb m=>.inl m;rcases z with z|z
   . obtain⟨_,u,e⟩:=r.owns a z;exact⟨u.1,e,u.2⟩
   . obtain⟨u,e⟩:=(ok.mono s).dom a z;exact⟨_,e,u.2⟩
 . cases ex
def aDi(h:PVo X e f):PV X e (ofO f):=by obtain⟨t,g,i⟩:=h;refine⟨t,g,λH₀ H O b l hd d Q ok ex q=>?_⟩;obtain⟨T,k,rfl⟩:=mpd ex;refine i H₀ H O b l hd T Q ok k λv m fs s r nd c=>q v m s$ r.val' λa z=>⟨.inr z,λj=>?_⟩;obtain⟨u,e⟩:=ok.dom a z;rw[c a j]at e;cases e
def QI(Fn:FnOk X.prog X.w X.K X.mg X.base (CXM X.prog X.w) k f fd ps (spX X.K N R C))(hr:Room k X.A)(hb:Binds X.K fd ps [])(U:Inv X aE σ H1 s1)(r:Vals vs J)(q1:Same H H1)(Y:Reps X.K H1 qS vs l)(hl:l.length=N)(hR:R l=ae)(W:∀ea a0 B H1 H' s1 s',Inv X aE σ H1 s1->Same H H1->Same H1 H'->Thrown X.prog X.w X.stack H1 s1 (.ref C) ea a0 B H' s'.heap->s'.os=s1.os->mP s'.gens->X.xe (.ref ea) s'):bG (1:) X.A (call (.ref f) J) Q X.xe s1:=by
 have c:spX X.K N R C vs H1 (λ_ _=>False) (λcl _ H'=>cl=.ref C/\Same H1 H'):=⟨by rw[Y.length];exact hl,l,Y,hR,λH' s'=>⟨rfl,s'⟩⟩
 have b:J.length=ps.length:=by rw[<-r.length];exact Fn.len _ _ _ _ c
 have d:=hb s1 J U.kIn (by rw[cZ];exact b);rw[cZ]at d;refine oU$ fR (Fn.run X.A X.stack s1 H1 ⟨J,[]⟩ J vs (λ_ _=>False) (λcl _ H'=>cl=.ref C/\Same H1 H') hr U.env0 d r c) λr s' a=>?_;cases r with
 |error h=>obtain⟨ea,cls,a0,B,H',rfl,os,bare,T,rfl,e⟩:=a;exact W ea a0 B H1 H' s1 s' U q1 e T os bare
 |ok g=>
   cases g with
   |ret u=>obtain⟨v,H',_,_,_,_,_,z⟩:=a;exact z.elim
   |next=>exact False.elim a
   |brk=>exact False.elim a
   |cont=>exact False.elim a
def NA(ex:methX t n R fo g ds=ae):∃z l,fo ds=aa (.ins t z)/\g ds=aa l/\l.length=n/\R (.ins t z::l)=ae:=by
 unfold methX at ex;cases J:fo ds with
 |none=>rw[J]at ex;cases ex
 |some d=>
   rw[J]at ex;cases U:g ds with
   |none=>rw[U]at ex;cases ex
   |some l=>
     rw[U]at ex;simp[bY,decide_eq_true_eq]at ex;obtain⟨a,e,b⟩:=ex;cases d with
     |ins c z=>simp[isT,decide_eq_true_eq]at a;subst a;exact⟨z,l,rfl,rfl,e,b⟩
     |_=>simp[isT]at a
def MZ(M:MCalX X.prog X.w X.K X.mg X.base m t k n R C)(hr:Room j X.A)(ho:PV X o fo)(U:PAn X (e::es) g)(hj:k<=j)(hst:aG (e::es) X.env=(ag,cA e X.env)::aG es X.env)(hpl:(dJ pos$ aG es X.env).any (·.1)=ag)(ht:cA (.Call (.Attribute o m apos) (e::es) [] pos) X.env=(do
    let ov <- cA o X.env
    oN apos.atName
    let (f,first) <- iA [ov] (rO ov m pl)
    OQ pos f first (dJ pos$ aG (e::es) X.env) (nV pos$ hJ [] X.env)))(I:Inv X aE σ H s)(ok:Ok X.K H₀ H O σ ds hd)(ex:methX t n R fo g ds=ae)(W:∀ea a0 B H1 H' J s',Inv X aE σ H1 J->Same H H1->Same H1 H'->Thrown X.prog X.w X.stack H1 J (.ref C) ea a0 B H' s'.heap->s'.os=J.os->mP s'.gens->X.xe (.ref ea) s'):bG (1:) X.A (cA (.Call (.Attribute o m apos) (e::es) [] pos) X.env) Q X.xe s:=by
 obtain⟨B,f,fd,ps,S,cl,A,Fn,V⟩:=M.ex;obtain⟨ta,N,i⟩:=ho;obtain⟨tt,pt,p⟩:=U;obtain⟨b,l,q,T,e2,Z⟩:=NA ex;refine IW (thn (N aE s σ H (λx H1=>Same H H1/\Rep X.K H1 O x (.ins t b)) I$ i H₀ H O σ ds hd _ _ ok q λv H1 J h=>⟨J,h⟩) λu J G=>?_) ht;obtain⟨x,H1,F,K,y,h⟩:=G;cases h with
 |@ins a C' dx _ P _ E nn U D L=>
   have z:=E.symm.trans S;cases z;obtain rfl:u=Value.ref a:=K;refine DP F U cl A (yH$ by rw[D];exact M.no) ?_;refine iY I.ok.mod.kin A.kp (thn (pt pos aE J σ H1 (λvs c=>Same H1 c/\Reps X.K c qS vs l) F$ p H₀ H1 O σ ds hd l _ (ok.mono y) T λvs c w r=>⟨w,r⟩) λus w ⟨vs,c,I2,r,Y,p2⟩=>⟨I2.kIn,?_⟩) hst hpl;have d:Rep X.K c qS (.ref a) (.ins t b):=(Rep.ins E (λz=>z.elim) (Y _ _ U) D$ (L.mono Y).less λ_ z=>z.elim)
   exact QI (vs:=.ref a::vs) Fn (hr.mono hj) V I2 (.cons rfl r) (y.trans Y) (.cons d p2) (by simp;lia) Z W
def aCr(M:MCalX X.prog X.w X.K X.mg X.base m t k n R C)(hr:Room j X.A)(ho:PV X o fo)(ha:PAn X (e::es) g)(hj:k<=j:=by decide)(z:aG (e::es) X.env=(ag,cA e X.env)::aG es X.env:=by rfl)(J:(dJ pos$ aG es X.env).any (·.1)=ag:=by rfl)(Y:cA (.Call (.Attribute o m apos) (e::es) [] pos) X.env=(do
    let U <- cA o X.env
    oN apos.atName
    let (f,first) <- iA [U] (rO U m pl)
    OQ pos f first (dJ pos$ aG (e::es) X.env) (nV pos$ hJ [] X.env)):=by rfl)(hs:eF (.Call (.Attribute o m apos) (e::es) [] pos) ac pos'.line X.env=pure ag:=by rfl):SN X C (.Expr (.Call (.Attribute o m apos) (e::es) [] pos) pos') (methX t n R fo g):=by
 intro c s a H H₀ O b hd I ok ex W;exact wpAny_Expr_any (MZ M hr ho ha hj z J Y I ok ex W) I.quiet hs
end
end FL
namespace L2
noncomputable def ItK(d:aF)(o:Obj)(kvs:List (Key×V)):It:=
 ⟨λi H=>H d=aa (.frz o$ .dK kvs)/\i<kvs.length,λi H v H'=>H'=H/\∃k x,kvs[i]?=aa (k,x)/\v=kV k,λi H=>H d=aa (.frz o$ .dK kvs)/\kvs.length<=i⟩
def PY{P:bW}{w:cT}{K:aM}{tg:Expr}(it d:aF)(o:Obj)(kvs:List (Key×V)){en:Array DictEntry}{ep:Nat}(J:o.data=.dict en ep):Turn P w K tg (ItK d o kvs) [it] it (λi h=>h.IsKeyIter it d i kvs.length ep) where
 mem:=by simp
 obj:=λi h st b f=>by rw[aS.mp f];obtain⟨q,e,c,O⟩:=st;exact⟨q,e,λv z=>by rw[O]at z;cases z⟩
 keep:=λi h S st k=>let ⟨q,e,r⟩:=st;⟨q,k it (by simp) _ e,r⟩
 item:=by
  intro X C A D R i aE s T H E I p st B;subst C A D;obtain⟨hd,hi⟩:=B;obtain⟨W,a,g⟩:=DR I hd J;have n:=a.length;obtain⟨k,x,Q⟩:∃k x,kvs[i]?=aa (k,x):=⟨kvs[i].1,kvs[i].2,aR hi⟩
  obtain⟨u,U,ru⟩:=a.get Q;obtain⟨N,M,Y,L,G,F⟩:=p it (by simp);rw[n]at st;refine wpAny_pyNext_dict_item st g U λkey S m l sb=>?_;have I1:=I.turned (t':=s.toks) (λb o f e=>(sb.2 b f).trans e) N M L G F;obtain⟨q,e,c,O⟩:=id l;have Z:RelV (kV k) key:=by
   rcases jP m with⟨j,t,rfl,rfl⟩|⟨y,t,rfl,rfl⟩|⟨rfl,rfl⟩
   . exact⟨t,rfl⟩
   . exact⟨t,rfl⟩
   . exact rfl
  exact⟨key,rfl,NP e c O (by decide) ⟨kV k,H,I1,Z,⟨rfl,k,x,Q,rfl⟩,by rw[n];exact l,λb f=>(p b f).1⟩⟩
 done:=by intro X C A D R i aE s T H E I p st B;subst C A D;obtain⟨hd,hi⟩:=B;obtain⟨W,a,g⟩:=DR I hd J;have n:=a.length;obtain⟨N,M,Y,L,G,F⟩:=p it (by simp);rw[n]at st;exact wpAny_pyNext_dict_end (I.ok.hd R) st g (aX$ by lia) λS eb=>⟨rfl,I.turned (λb o f e=>eb b o f e) N M L G F⟩
 self:=λ_ _ _ _ _ st h=>wpAny_pyIter_keyiter st h
def iDK(to:TE):TI:=λc H R=>to c H λx b=>∃d o a,x=.ref d/\b d=aa (.frz o$ .dK a)/\R (ItK d o a) b
def aEe(J:PE X oe to):PI X tg oe (iDK to):=by
 intro D s p H R I h;refine thn (J D s p H _ I h) λv w t=>?_;obtain⟨x,E,g,y,d,o,j,ex,hd,q⟩:=t;subst ex;obtain rfl:v=Value.ref d:=y;obtain⟨a,z,k,u,i,C⟩:=g.hok d _ hd;obtain⟨F,B,ep,n,m,f,r⟩:=id C;rw[a]at n;cases n;have l:w.heap.DictAt (gF X.prog X.w) d u ep:=⟨o,B,a,m,f,r⟩
 refine wpAny_pyIter_dict k l ?_;refine⟨_,[_],_,_,E,rfl,g.kept λb o e=>aD _ e,PY _ d o j f,?_,λc A=>?_,q⟩
 . rw[i.length];exact⟨_,aN _ rfl,rfl,rfl⟩
 . rw[aS.mp A];exact g.fpOk (aL _)$ g.hok.fresh$ aL _
def tThw(t:TT):TT:=λe H Q=>∃a c,H a=aa (.dK c)/\∀o,t e (upd H a$ .frz o$ .dK c) λb d=>d a=aa (.frz o$ .dK c)/\Q b (upd d a$ .dK c)
def pt_thw(h:PT X e t):PT X e (tThw t):=by
 intro x s i H Q I ⟨a,k,d,p⟩;have n:∀q u,X.H₀ a≠aa (.frz q u):=λq u z=>by have:=I.base.frzs a q u z;rw[d]at this;cases this
 obtain⟨o,g⟩:=I.freezeD d;obtain⟨m,z,hd,A,j,C,E,D,f,v,c,r⟩:=g.hok a _ bP;rw[m]at f;cases f;refine thn (h x s i _ _ g$ p o) λb B l=>?_;obtain⟨F,y,w,q⟩:=l;exact⟨_,y.thawD w c n,q⟩
end L2
namespace FL
def XE{K:Frag}: WlkD K (ItK d o kvs) (.fz d o kvs l) ((kvs.map (·.1)).map keyDD):=by
 intro H₀ H O dom ⟨n,hd,g⟩;have b:((kvs.map (·.1)).map keyDD).length=kvs.length:=by simp
 refine⟨λi x a=>?_,⟨hd,by rw[b];exact aL _⟩⟩;have lt:i<kvs.length:=by rw[<-b];exact(bC.mp a).1
 refine⟨⟨hd,lt⟩,λv h c=>?_⟩;obtain⟨e,k,y,f,rfl⟩:=c;subst e;have:x=keyDD k:=by simp[bB,f,cW,Option.some.injEq]at a;exact a.symm
 subst this;exact⟨Same.refl _,kV_rep k⟩
def aEd(h:PV X oe f):PId X tg oe (keysA f):=by
 obtain⟨t,l,m⟩:=h;refine⟨_,aEe l,λH₀ H O g s hd c R o e q=>?_⟩;obtain⟨x,p,e⟩:=bnd e;refine m H₀ H O g s hd x _ o p λv u i k=>?_;cases x<;>first|(cases e;done)|skip
 cases e;cases k with
 |@dcf a ob b _ _ n d r j=>subst r;exact⟨a,ob,b,rfl,d,q _ (.fz a ob b _) u i ⟨n,d,j⟩ (λ_ _ z=>by cases z) (λ_ z=>by cases z) XE⟩
end FL
namespace TS
section
variable{prog:bW}{w:cT}
abbrev SS(prog:bW)(w:cT)(h:Heap)(a:aF)(ts:List Str):Prop:=h.SetOf (PySem.strKind prog w) a (λk=>decide (k∈ts))$ FL.cntT ts
def ss_add(q:h.SetOf (PySem.strKind prog w) a (λk'=>decide (k'∈ts)||decide (k'=x)) (if decide (x∈ts)=ae then FL.cntT ts else FL.cntT ts+1)):SS prog w h a (x::ts):=by
 have d:(λk':Str=>decide (k'∈ts)||decide (k'=x))=λk'=>decide (k'∈x::ts):=by funext k';rw[Bool.or_comm];simp[aA,Bool.decide_or]
 have c:(if decide (x∈ts)=ae then FL.cntT ts else FL.cntT ts+1)=FL.cntT (x::ts):=by
  show _=if x∈ts then _ else _
  by_cases b:x∈ts<;>simp[b]
 rw[d,c]at q;exact q
def XJ(W:WalksS prog w A.in1 J feet hand G n P Z) c(off:c∉feet) num(Y:∀i v,P i v->∃t,v=.str (num i) t)(few:n+1<kS):∀k i z,n-i=k->i<=n->Z i z->SS prog w z.heap c ((List.range i).map num).reverse →
   (∀U,Moved (c::hand) G z U->SS prog w U.heap c ((List.range n).map num).reverse->R (.ok$ .ret .none) U) →
   gA (4:) A (.builtin "set.update.loop" ⟨[.ref c,.ref J],[]⟩) R z:=by
 have j:c∉hand:=λq=>off$ W.sub c q;have more:∀b,b∈hand->b∈c::hand:=λb q=>.tail _ q;have at':∀{z U:aW}{ts:List Str},Moved hand G z U->SS prog w z.heap c ts->SS prog w U.heap c ts:=λa h=>by obtain⟨o,K,L,t,H,r⟩:=h;exact⟨o,K,L,t,a.heap c o j H,r⟩
 intro k;induction k with
 |zero=>
   intro i z I hi here h done;have e:i=n:=by lia
   subst e;exact vI$ W.done z _ _ here λU a=>done U (a.mono more) (at' a h)
 |succ k E=>
   intro i z I hi here h done;have f:i<n:=by lia
   refine vI$ W.item i z _ _ f here λv U F d a=>?_;obtain⟨t,rfl⟩:=Y i v F;have B:=at' a h;have g:(PySem.strKind prog w).is (num i) (.str (num i) t)=ae:=by simp[PySem.strKind,Value.isStrOf]
   have m:=FL.cntT_le ((List.range i).map num).reverse;simp only[nI,bS,aBi]at m;dsimp only;unfold setAdd;refine eZ$ aC$ (PySem.strKind prog w).pyHash (k:=num i) g ?_;refine wpAny_setAddHashed_of (knd:=PySem.strKind prog w) (s:={U with toks:=U.toks+1}) g rfl B (by lia) λC same x=>?_;have rest:∀b,b≠c->C.get? b=U.heap.get? b:=same.2;have u:SS prog w C c ((List.range$ i+1).map num).reverse:=by rw[pV,dC,iT];exact ss_add x
   exact E (i+1) _ (by lia) f (W.frame _ U _ _ d (mV _) λb q o e=>(rest b λy=>off$ y▸q).trans e) u λD l p=>done D (Moved.trans W.gtrans ((a.mono more).then_heap (mV _) λb o q e=>(rest b λy=>q$ y▸.head _).trans e) l) p
section
variable{s:aW}
def ss_new(h:Heap):SS prog w (h.push$ nset$ !bt w) h.objs.size []:=
 ⟨_,#[],0,_,aN _ rfl,⟨rfl,rfl,rfl⟩,rfl,λe a=>by simp at a,λk=>by simp,by decide,by rfl,rfl⟩
def aCt{items:Array Value}(hi:EW items.toList ns):(List.range items.size).map (λi=>ns.getD i "")=ns:=by
 have b:items.size=ns.length:=by rw[<-EW.length hi,bH]
 apply lJ;intro i;rw[bB];by_cases a:i<ns.length
 . rw[nJ$ by lia];simp[fQ,aR a]
 . rw[aX$ by simp;lia,aX$ by lia];rfl
def ZU(free:A.handled=ac)(J:s.heap.IsList l items)(hi:EW items.toList ns)(z:items.size+1<kS)(h:∀h' tk,SS prog w h' s.heap.objs.size ns.reverse->(∀b o,s.heap.get? b=aa o->h'.get? b=aa o)->Q .none {s with heap:=h',toks:=tk}):gA (4:) A (.call (.builtin "set.__init__") ⟨[.ref s.heap.objs.size,.ref l],[]⟩) (wants Q E) {s with heap:=s.heap.push$ nset$ !bt w}:=by
 have G:(s.heap.push$ nset$ !bt w).get? s.heap.objs.size=aa (nset$ !bt w):=aN _ rfl;refine nU nH.init.plain GJ$ check_set_init_1 ⟨_,G,rfl⟩ ?_;obtain⟨lo,c,P,m,O⟩:=J;obtain⟨T,C,S,B⟩:=lo;cases P;cases O;have old:(s.heap.push$ nset$ !bt w).get? l=aa {cls:=.type "list",dict:=C,data:=.seq items m,slots:=B}:=aD _ c;have x:=KW;have u:=BF;have d:(s.heap.push$ nset$ !bt w).IsList l items:=⟨_,old,rfl,m,rfl⟩
 have n:=bA c;have sz:(s.heap.push$ nset$ !bt w).objs.size=s.heap.objs.size+1:=sI _ _;have f:∀b:aF,b<s.heap.objs.size->b≠(s.heap.push$ nset$ !bt w).objs.size:=λb j=>by rw[sz];exact bJ$ gD j
 unfold Builtin.«set.__init__» noKeywords;unfold Builtin.Frozenset.updateFrom;generalize walker:GD=PI
 wp_walk
 subst walker;refine mK d$ aC$ ON ?_;refine XJ ((Walks.list (by simp[free]) _ l (f l n) items).toS) s.heap.objs.size ?off (λi=>ns.getD i "") (λi v D=>by
   obtain⟨y,t,N,M⟩:=EW.item hi i v (by rw[cL];exact D)
   exact⟨t,by rw[N,fQ,M];rfl⟩) z items.size 0 _ rfl (cI _)
  ⟨⟨_,aN _ rfl,rfl,rfl⟩,d.push _⟩ ?at0 ?fin
 case at0=>obtain⟨o,k,I,t,F,r⟩:=ss_new s.heap;exact⟨o,k,I,t,aD _ F,r⟩
 case off =>
  rw[sz];intro q;rcases aA.mp q with e|q
  . exact bJ (gO _) e
  . exact pU n$ aS.mp q
 case fin =>
  rintro⟨H,V,W,p,R⟩ g a;have K:=g.gens;have L:=g.drawn;have k:=g.os;rw[aCt hi]at a;subst K L k;refine aO$ aO$ h H p a λb o e=>?_;have j:=bA e;refine g.heap b o (λq=>?_)$ aD _$ aD _ e;rcases aA.mp q with y|q
  . exact bJ j y
  . exact f b j$ aS.mp q
set_option maxHeartbeats 4000000 in
def call_setT(free:A.handled=ac)(U:s.heap.IsList l items)(hi:EW items.toList ns)(J:items.size+1<kS)(h:∀h' tk,SS prog w h' s.heap.objs.size ns.reverse->(∀b o,s.heap.get? b=aa o->h'.get? b=aa o)->Q (.ref s.heap.objs.size) {s with heap:=h',toks:=tk}):bG (4:) A (call (.type "set") [.ref l]) Q E s:=by
 have C:=nH;have made:=C.made;have f:=C.sub;refine oU (KU$ aO ⟨Code.quiet_builtin _$ by decide +kernel,iI FG ?_⟩);rw[dF.under_plain (weight_type_call_type _ _ _) rfl]
 repeat (any_goals first|assumption|wp_step)
 refine fR (MX (.ref l) (E:=E) (Q:=λv z=>v=.ref s.heap.objs.size/\z={s with heap:=s.heap.push$ nset$ !bt w}) ⟨rfl,rfl⟩) λr z q=>?_;rcases r with e|d
 . exact q
 cases d<;>try exact q.elim
 obtain⟨rfl,rfl⟩:=q;have look:=C.init.lookup;have bound:=C.init.bind$ .ref s.heap.objs.size
 repeat (any_goals first|assumption|wp_step)
 refine fR (ZU (E:=E) (Q:=λv z=>v=.none/\∃h' tk,z={s with heap:=h',toks:=tk}/\SS prog w h' s.heap.objs.size ns.reverse/\∀b o,s.heap.get? b=aa o->h'.get? b=aa o) (by simp[free]) U hi J
  λh' tk c a=>⟨rfl,h',tk,rfl,c,a⟩) λr z q=>?_
 rcases r with e|d
 . exact q
 cases d<;>try exact q.elim
 obtain⟨rfl,h',tk,rfl,c,a⟩:=q
 repeat (any_goals first|assumption|wp_step)
 exact h h' tk c a
end
end
end TS
namespace L2
def KG:CallR X (.builtin "sorted") (λxs H Q=>∃p ks,xs=[.ref p]/\SqL X.K H p (ks.map V.str)/\ks.length<64/\∀l,H l=ac->Q (.ref l) (upd H l$ .lst$ (FL.srtT ks).map V.str)):=by
 intro K s E H xs F Q I r h;obtain⟨p,ks,rfl,y,B,q⟩:=h;obtain⟨u,rfl,i⟩:=vals1 r;cases i;obtain⟨c,g,j,G⟩:=I.list y;have hi:=BH g;have A:=j.isList;have d:=EW.length hi;refine Calls.call_function_entry kind_sorted plain_sorted entry_sorted (args_sorted1 _) ?_;refine aC (aO$ aC$ collect_list A ?_$ by rw[lX];lia);refine TU.sorted_endS hi (by lia) λC a w e v t n m k=>?_;have x:∀b o,s.heap.get? b=aa o->((s.heap.push$ kW "list" #[] 0).update s.heap.objs.size (Obj.mapSeq (·++c.toArray))).get? b=aa o:=λb o q=>(bN _ _$ Ne.symm$ bJ$ bA q).trans$ aD _ q;have D:=FL.leT_unique _ _ (m.trans (FL.srtT_perm ks).symm) (FL.sortedS_le k)$ FL.srtT_le ks;have f:=I.kept (t':=s.toks) x;refine⟨.ref _,_,Inv.laid f v (aL _)$ show ObjOk X.prog X.w _ C _ (.lst$ (FL.srtT ks).map V.str) from ⟨?_,a,e,?_,t⟩,rfl,q _$ f.hok.fresh$ aL _⟩
 . have:=(FL.srtT_perm ks).length_eq;simp only[bS];rw[lX];lia
 . rw[<-D];exact PR n
def tLset(ta:TA)(K:aM):TE:=λb H Q=>ta b H λc a=>∃(p:aF) (ts:List Str),c=[.ref p]/\SqL K a p (ts.map V.str)/\ts.length<1000/\Q (.int (FL.cntT ts.reverse:Nat)) a
def pe_lset(hc:X.calm=ae)(J:Gl X "len")(z:X.mg "len"=ac)(hg:Gl X "set")(hm:X.mg "set"=ac)(ha:PA X [a] ta)(hl:aG [.Call (.Name "set" U) [a] [] pos2] X.env=[(ag,cA (.Call (.Name "set" U) [a] [] pos2) X.env)]:=by rfl)(Y:aG [a] X.env=[(ag,cA a X.env)]:=by rfl):PE X (.Call (.Name "len" p) [.Call (.Name "set" U) [a] [] pos2] [] pos) (tLset ta X.K):=by
 intro k s f H Q I h;refine eW (wV I J z (show fA "len"=aa (.builtin "len") by decide +kernel) ?_);refine kU ?_ hl rfl;refine Calls.spliced_cons ?_;refine Call_ (wV I hg hm (show fA "set"=aa (.type "set") by decide +kernel)$ gN (thn (ha pos2 k s f H _ I h) λT w r=>?_) Y rfl);obtain⟨S,n,m,A,B⟩:=r;obtain⟨l,g,e,F,E,q⟩:=B;subst e;obtain⟨u,rfl,y⟩:=vals1 A;cases y;obtain⟨D,x,C,V⟩:=m.list F;have hi:=BH x;have j:=EW.length hi;refine TS.call_setT (I.ok.hd hc) C.isList (by simpa using hi) (by simp[bF];unfold kS;lia) λP v O L=>?_;have R:Inv X k f n {w with heap:=P,toks:=v}:=m.kept L;refine Calls.spliced_nil ?_;obtain⟨o,Z,ep,t,G,d,hd,N,i,W,M,K⟩:=O;have c:=FL.cntT_le g.reverse;simp[nI]at c;refine call_len_set G d hd M (by lia) ?_;exact⟨.int (FL.cntT g.reverse:Nat),n,R.kept λb o e=>e,⟨_,by rw[K]⟩,q⟩
end L2
namespace FL
def pv_lset(hc:X.calm=ae)(z:X.mg "len"=ac)(hm:X.mg "set"=ac)(U:PVw X e f)(J:Gl X "len":=by rfl)(hg:Gl X "set":=by rfl)(hl:aG [.Call (.Name "set" Y) [e] [] pos2] X.env=[(ag,cA (.Call (.Name "set" Y) [e] [] pos2) X.env)]:=by rfl)(hs:aG [e] X.env=[(ag,cA e X.env)]:=by rfl):PV X (.Call (.Name "len" p) [.Call (.Name "set" Y) [e] [] pos2] [] pos) (lsetE f):=by
 obtain⟨u,i,U⟩:=U;refine⟨_,pe_lset hc J z hg hm (qL i jV hs) hl hs,λH₀ H O a r hd l Q o e q=>?_⟩;obtain⟨d,n,e⟩:=bnd e;refine U H₀ H O a r hd _ _ o n λv t c h=>?_;cases d<;>first|(cases e;done)|skip
 obtain⟨b,m,e⟩:=bnd e;split at e
 . rename_i j;cases e;obtain⟨s,xs,rfl,k,g⟩:=h.seqL;exact⟨s,b,rfl,by rw[<-CB g m];exact k,j,q _ t c$ .int _⟩
 . cases e
def LZ(hm:X.mg "sorted"=ac)(z:PVw X e f)(U:Gl X "sorted":=by rfl)(J:aG [e] X.env=[(ag,cA e X.env)]:=by rfl):PVf X (.Call (.Name "sorted" p) [e] [] pos) (srtTA f):=by
 obtain⟨u,j,z⟩:=z;refine⟨_,xK KG U hm (3:) (qL j jV J) (by decide) (by decide) J rfl,λH₀ H O c s hd l Q o e q=>?_⟩;obtain⟨d,r,e⟩:=bnd e;refine z H₀ H O c s hd _ _ o r λv w a i=>?_;cases d<;>first|(cases e;done)|skip
 obtain⟨g,n,e⟩:=bnd e;split at e
 . rename_i k;cases e;obtain⟨t,xs,rfl,m,h⟩:=i.seqL;exact⟨t,g,rfl,by rw[<-CB h n];exact m,k,λp b=>q p _ _ (a.trans$ qF b _) (a.free b) bP$ HG _⟩
 . cases e
def YI(hr:Room j X.A)(ho:PVp X oe f)(J:PV X ke fk)(he:PVo X e g)(hs:eF e (aa (.Subscript oe ke pos')) pos.line X.env=pure ag:=by rfl):PSv X (.Assign [.Subscript oe ke pos'] e pos) (dputN f fk g):=by
 obtain⟨tp,hp,R⟩:=ho;obtain⟨tk,pk,J⟩:=J;obtain⟨te,pe,hg⟩:=he;refine⟨_,UR (kX (by lia)$ hu100 hr) hp pk pe hs,λH₀ H O C s hd out E o e h=>?_⟩;obtain⟨T,h1,e⟩:=bnd e;obtain⟨q,h2,e⟩:=bnd e;obtain⟨y,h3,e⟩:=bnd e;obtain⟨k,h4,e⟩:=bnd e;refine hg H₀ H O C s hd T _ o h1 λv H1 fs G Y M m=>?_;have o1:=o.moreL G m λb l=>(Y.owns b l).2;refine R H₀ H1 (orL fs O) C s hd q _ o1 h2 λr T0 v0 w fs0 g1 g2 g3 g4 g5=>?_;refine J H₀ H1 (orL fs O) C s hd y _ o1 h3 λyv W U r2=>?_;have n:=G.trans U;obtain⟨v',w',f',y1,y2,Z,y4,y5,y6⟩:=o.modAt g1 g2;rw[g3]at y1;cases y1;cases xS g4 (xE G y2);cases hq:q.2.2 with
 |dct P F=>
   rw[hq]at Z e;simp only at e;split at e
   . rename_i A;obtain ⟨A,p⟩:=A;cases e;cases Z with
     |@dct a c _ _ fs' na B V K=>
       cases vG r2 h4;have S:=n _ _ B;have ln:c.length<sizeLine:=by rw[<-V]at A;simpa using A
       have Q:¬hasK k (c.map (·.1))=ae:=by rw[V,p];simp
       have pn:putK c k v=c++[(k,v)]:=wZ Q;refine⟨a,_,rfl,DPut.k S ln,?_⟩;obtain⟨n3,n4⟩:=bK.mp y4;have old:∀b,H b=ac->b∉a::fs':=λb l z=>by
        rcases aA.mp z with z|z
        . rw[z,B]at l;cases l
        . obtain⟨_,x,ex⟩:=K.owns b z;rw[l]at ex;cases ex
       have t:a∉fs:=λz=>by rw[m a z]at B;cases B
       have i:∀b u,b≠a->H b=aa u->upd W a (.dK$ putK c k v) b=aa u:=λb u nb d=>by rw[L2.upd_ne nb];exact n _ _ d
       have N:∀{b:aF},¬O b->b≠a:=λnb z=>nb (by rw[z];exact na)
       have c0:Chg H (upd W a$ .dK$ putK c k v) O (orL fs O) [a] (a::fs):=
        ⟨λb u nb d=>i b u (N nb) d,λb u _ nb d=>i b u (λz=>nb$ by rw[z];exact .head _) d,λb z _=>.inr z,λb z=>z.elim (λz=>.inr ⟨.tail _ z,m b z⟩) .inl,λb z=>(aA.mp z).elim (λz=>.inl$ by rw[z];exact .head _) λz=>.inr$ m b z⟩
       have rT:RepO X.K (upd W a$ .dK$ putK c k v) (orL fs O) v T fs:=(Y.mono U).keep (λb u nb d=>by rw[L2.upd_ne$ N λz=>nb$ .inr z];exact d) λb l u d=>by have z:b≠a:=λz=>t (by rw[<-z];exact l);rw[L2.upd_ne z];exact d
       have I:=(c0.repsO K λb l z=>n3$ aS.mp z▸l).snocO rT
       have ok:=y6 (O':=orL fs O) (u':=.dct (P++[k])$ F++[T])
        ⟨λb u nb d=>i b u (N nb) d,λb u _ nb d=>i b u (λz=>nb$ by rw[z];exact .head _) d,λb z _=>.inr z,λb z=>z.elim (λz=>.inr ⟨.tail _$ aI _ z,m b z⟩) .inl,λb z=>?_⟩
        (λb z _=>?_) (.dct (.inr na) bP (by rw[pn,<-V];simp) (by rw[show(putK c k v).map (·.2)=c.map (·.2)++[v] by rw[pn];simp];exact I)) (bK.mpr ⟨λz=>?_,?_⟩)
       . have e':putP q (.dct (P++[k]) (F++[T])) s=s.set q.1 (.ob r (putO (.dct (P++[k]) (F++[T])) q.2.1 T0)):=by simp [putP,g1]
         rw[e']at h;exact h _ _ _ ok
       . rcases aA.mp z with z|z
         . exact .inl (by rw[z];exact .head _)
         . rcases bE.mp z with z|z
           . exact .inl$ .tail _ z
           . exact .inr$ m b z
       . by_cases D:b=a
         . rw[D,bP];exact⟨⟨.dK$ putK c k v,rfl⟩,rfl⟩
         . rcases aA.mp z with L|L
           . exact(D L).elim
           . obtain⟨_,y,ey⟩:=K.owns b L;exact⟨y,i b _ D ey⟩
       . rcases bE.mp z with z|z
         . exact n3 z
         . exact t z
       . rw[cH];exact⟨n4,M,λx hx y hy z=>old x (by rw[z];exact m y hy)$ .tail _ hx⟩
   . cases e
 |_=>rw[hq]at e;cases e
section
variable{K:Frag}
def Ok.frzV(o:Ok K H₀ H O σ ds hd)(e:ds[i]?=aa (.ob r$ .ins t [.dct ks ts])):∃a kvs,H a=aa (.dK kvs)/\∀ob,∃O',Ok K H₀ (upd H a$ .frz ob$ .dK kvs) O' σ (ds.set i$ .v$ .ins t [.dcf ks$ otDs ts]) hd:=by
 obtain⟨F,hF⟩:=o.obs;obtain⟨v,h1,W,h3,h4,T⟩:=hF i r _ e;have hl:=(bC.mp e).1;generalize hfi:F i=fi at W h4 T;cases W with
 |@ins V C dx _ S _ fs0 cc n0 h0' ek0 L =>
  generalize hv0:S.map (·.2)=vs0 at L;cases L with
  |@cons x0 _ xs0 _ f1 f2 W J =>
  cases J;cases W with
  |@dct a kvs _ _ fs n c ek rs =>
   refine⟨a,kvs,c,λob=>?_⟩;have nd:=bK.mp h4;have Y:=bK.mp$ (cH.mp nd.2).1;have a0a:V≠a:=λz=>nd.1 (by rw[z];simp);have afs:=Y.1;have Q:a∈V::(a::fs++[]):=by simp
   have m0:V∈V::(a::fs++[]):=by simp
   let O':aF->Prop:=λb=>O b/\b∉V::(a::fs++[])
   have sub:∀b,O' b->O b:=λb c=>c.1;have h0:=(T a Q).1;have kp:Keep O H (upd H a$ .frz ob$ .dK kvs):=λb u nb x=>by have z:b≠a:=λz=>nb (by rw[z];exact n);rw[L2.upd_ne z];exact x
   have ne:∀{b:aF}{u:HO},b≠a->H b=aa u->upd H a (.frz ob$ .dK kvs) b=aa u:=λz x=>by rw[L2.upd_ne z];exact x
   have f:∀{j:Nat},IsOwn (ds.set i$ .v$ .ins t [.dcf ks$ otDs ts]) j->IsOwn ds j/\j≠i:=λh=>xV (λl=>by intro z;cases z) h;have P:=λ{j b} oj I z=>(T b z).2.2 j oj I;have U:=rs.keep kp λb hb' u x=>ne (λz=>afs$ by rw[<-z];exact hb') x;have rv:Reps K (upd H a$ .frz ob$ .dK kvs) O' (kvs.map (·.2)) (otDs ts):=U.val' λb z=>⟨z.1,λq=>z.2$ by simp[q]⟩
   refine⟨O',λb u x=>ne (λz=>by rw[z,h0]at x;cases x)$ o.same b u x,λj R b e1 e2=>?_,λb c=>?_,by simpa using o.len,λj s D=>?_,λj m b hjm G hm e1 e2=>o.apart j m b hjm (f G).1 (f hm).1 e1 e2,λp hp=>?_,?_⟩
   . obtain⟨⟨l2,e2'⟩,_⟩:=f ⟨R,e1⟩;exact o.fresh j l2 b e2' e2
   . obtain⟨u,eu⟩:=o.dom b c.1;exact⟨u,ne (λz=>c.2$ by rw[z];exact Q) eu⟩
   . by_cases G:j=i
     . subst G;rw[aU hl]at D;cases D;rw[h1];exact yN (.ins cc (λz=>z.2 m0) (ne a0a h0') ek0$ by rw[hv0];exact .cons (.dcf (λz=>z.2 Q) bP ek rv) .nil)
     . rw [aB (Ne.symm G)]at D;cases s with
       |no=>exact jC
       |ob r t=>exact yQ
       |exc t=>obtain⟨X,C',N,u',A,E,g,M⟩:=o.readX D;rw[A];exact⟨C',N,u',E,ne (λz=>by rw[z,c]at g;cases g) g,M⟩
       |exf t fs=>obtain⟨X,A,g⟩:=o.readE D;rw[A];exact g.keep λX N u' g=>ne (λz=>by rw[z,c]at g;cases g) g
       |fr R=>obtain⟨X,Z,A,E,q0,g,M⟩:=o.readF D;rw[A];exact⟨λz=>E$ sub _ z,q0,Z,kp _ _ E g,(M.keep kp).less sub⟩
       |v d=>obtain⟨v,A,E⟩:=o.read D;rw[A];exact yN$ (E.keep kp).less sub
       |own R=>obtain⟨b,ys,A,E,g,M⟩:=o.readO D;rw[A];have z:=P ⟨R,D⟩ A;exact⟨⟨E,z⟩,ys,ne (λy=>z$ by rw[y];exact Q) g,(M.keep kp).less sub⟩
   . have:=o.hold p hp;cases p with
     |rep v d=>exact(Rep.keep kp this).less sub
     |base B=>exact λb c=>⟨⟨(this b c).1,λz=>(this b c).2 (T b z).1⟩,(this b c).2⟩
     |root k a=>exact True.intro
     |fz X o' kvs' R=>exact⟨λz=>this.1$ sub _ z,kp _ _ this.1 this.2.1,(Reps.keep kp this.2.2).less sub⟩
   . refine⟨F,λj r' t' I=>?_⟩;obtain⟨I,G⟩:=xN (λr t=>by intro z;cases z) I;obtain⟨w,g1,g2,g3,g4,g5⟩:=hF j r' t' I;have na:=λb c z=>(T b c).2.1 j r' t' G I z;refine⟨w,g1,(g2.keep kp λb c u x=>ne (λz=>na a Q$ by rw[<-z];exact c) x).less sub λb c=>⟨(g2.owns b c).1,λz=>na b z c⟩,g3,g4,λb c=>⟨(g5 b c).1,λm r2 J hm em=>(g5 b c).2.1 m r2 J hm (xN (λr t=>by intro z;cases z) em).1,λm om em=>(g5 b c).2.2 m (f om).1 em⟩⟩
end
def CQ i(h:PTv X e c):PTv X e (relTV i c):=by
 obtain⟨t,v,y⟩:=h;refine⟨_,pt_thw v,λH₀ H O n B hd b Q o e q=>?_⟩;unfold relTV at e;obtain⟨d,f,e⟩:=bnd e;cases z:B[i]? with
 |none=>rw[z]at f;cases f
 |some s=>
   rw[z]at f;unfold insV at f;split at f
   . rename_i r t E D w;cases w;cases f;obtain ⟨a,j,m,A⟩:=o.frzV z;refine ⟨a,j,m,λob=>?_⟩;obtain ⟨C,p⟩:=A ob;refine y H₀ _ C n _ hd b _ p e λF l=>⟨l _ _ bP,q _ λx u k=>?_⟩
     by_cases g:x=a
     . rw[g,bP];rw[g,m]at k;exact k
     . rw[upd_ne g];exact l _ _ (by rw[upd_ne g];exact k)
   . cases f
def YC{iter:Expr}(S:CompScope X scope NY mp)(hc:X.calm=ae)(hi:PId X tg iter fi)(U:∀c,PGv (qZ X scope NY c) tg ga)(J:∀c,PFv (qZ X scope NY c) ifs tt)(z:∀c,PV (qZ X scope NY c) elt fe)(Y:∀x,fM iter X.env x=pure x:=by intro _;rfl):PVf X (.ListComp elt [⟨tg,iter,ifs,0⟩] scope pos) (compG fi mp ga tt fe):=by obtain⟨i,d,hi⟩:=hi;refine⟨_,UU S hc d (λc=>(Classical.choose_spec$ U c).1) (λc=>(Classical.choose_spec$ J c).1) (λc=>(Classical.choose_spec$ z c).1) Y,λH₀ H O b g hd l Q o e q=>?_⟩;exact aAn hi (λc=>(Classical.choose_spec$ U c).2) (λc=>(Classical.choose_spec$ J c).2) (λc=>(Classical.choose_spec$ z c).2) H₀ H O b g hd l Q o e λa xs h s f z r=>q a xs h s f z r
end FL
namespace L2
end L2
namespace FL
end FL
namespace PySem
end PySem
namespace FL
open PySem.Calls PySem.Builtin PySem.Builtin.ObjectAttr
open PySem.W (Looks looks_findIn looks_mroIn looks_clsIn findIn mroIn clsIn tailIn nsOkIn nsIn InstAt tail_of_in isNs_of_in)
open PySem.Calls PySem.Builtin PySem.Builtin.ObjectAttr
open PySem.W (Looks looks_findIn looks_mroIn looks_clsIn findIn mroIn clsIn InstAt looks_find findObj handedIn handedOut_of)
open PySem.W (findIn)
end FL
namespace PySem
end PySem
namespace FL
open PySem.W (hideAll hideAll_get of_hideAll hideAll_none funFrames_hide)
open PySem.W (findIn)
open PySem.W (Looks looks_mroIn mroIn clsIn findIn InstAt findObj findObj_own hasDictIn)
open PySem.W (findIn InstAt findObj findObj_own hasDictIn)
open PySem.W (findIn hasDictIn)
end FL
namespace L2
noncomputable def vwO(v d:aF):HO:=.ext λh=>h.IsValuesView v d
def vwO_ok{P:bW}{w:cT}{H:Hp}{h:Heap}{v d:aF}(q:h.IsValuesView v d):ObjOk P w H h v (vwO v d):=⟨q,let ⟨o,e,_⟩:=q;⟨o,e⟩,λ_ _ ⟨o,e,r⟩ k=>⟨o,k _ e,r⟩⟩
def tVals(to:TE):TE:=λc H Q=>to c H λx b=>∃d a,x=.ref d/\Rd b d (.dK a)/\∀v,b v=ac->Q (.ref v) (upd b v$ vwO v d)
section
variable{oe:Expr}{to:TE}{apos pos:Pos}
def pe_vals(Y:PE X oe to)(U:fB oe "values" X.env (cA oe X.env)=cA oe X.env:=by rfl)(J:(apos.endLine==pos.line)=ae:=by rfl):PE X (.Call (.Attribute oe "values" apos) [] [] pos) (tVals to):=by
 intro A s l H Q I h;refine wpAny_Call_method0_late U J$ thn (Y A s l H _ I h) λv f m=>?_;obtain⟨x,D,j,t,d,u,ex,hd,q⟩:=m;subst ex;obtain rfl:v=Value.ref d:=t;obtain⟨z,g,n,p,i⟩:=EB j.hok hd;obtain⟨o,C,B,k,c,y,r⟩:=id i;refine⟨"dict","dict.values",PySem.F.plainAttrs_dict,FC,PySem.F.type_dict_values,⟨o,k,c.1⟩,λa w=>?_,Calls.callWith_builtin rfl$ PySem.evalArgs_none$ call_meetsIn FC i.typeIs PySem.F.entry_dict_values (PySem.F.args_dict_values_1 _) (meets_dict_values (gF X.prog X.w) d g) ⟨⟨n,i⟩,?_⟩⟩
 . cases w;exact⟨o,k,c.2.1⟩
 . exact⟨.ref f.heap.objs.size,_,j.laid (a:=f.heap.objs.size) (o:=vwO f.heap.objs.size d) (t':=f.toks) (λb o e=>aD _ e) (aL _)$ vwO_ok ⟨_,aN _ rfl,rfl,rfl⟩,rfl,q _$ j.hok.fresh$ aL _⟩
def SJ(J:X.calm=ae):CallR X (.type "list") (λxs H Q=>∃v d kvs,xs=[.ref v]/\H v=aa (vwO v d)/\Rd H d (.dK kvs)/\∀l,H l=ac->Q (.ref l) (upd H l (.lst (kvs.map (·.2))))):=by
 intro K s m H xs M Q I r h;obtain⟨v,d,kvs,rfl,t,x,q⟩:=h;obtain⟨u,rfl,o⟩:=vals1 r;cases o;obtain⟨z,A,n,a,G⟩:=EB I.hok x;obtain⟨ep,f⟩:=G.dictAt;have N:=a.length;refine PySem.W.kdl_call (PySem.W.kdl_values (d:=d) (kvs:=n) (ep:=ep)) (I.ok.hd J) ⟨(I.hok _ _ t).1,f⟩ (by omega) λC i g c p B b=>?_;have L:Inv X K m H {s with heap:=s.heap,toks:=i}:=I.kept λ_ _ e=>e;refine⟨.ref s.heap.objs.size,_,Inv.laid (s:={s with heap:=s.heap,toks:=i}) L p (aL _) (show ObjOk X.prog X.w _ C _ (.lst (kvs.map (·.2))) from ⟨?_,g.toList,c,?_,by simpa using B⟩),rfl,q _$ I.hok.fresh$ aL _⟩
 . simpa using z
 . refine TM (by have:=b.1;simp[bS,bH];omega) λj w e=>?_;obtain⟨k,F⟩:=b.2 j w (by rw[<-cL];exact e);obtain⟨y,E,D⟩:=a.at' F;exact⟨y,by rw[bB,E];rfl,D⟩
end
end L2
namespace FL
def YB{oe:Expr}{f:FE}{p apos pos pos':Pos}(hc:X.calm=ae)(hm:X.mg "list"=ac)(Y:PV X oe f)(hg:Gl X "list":=by rfl)(hs:aG [.Call (.Attribute oe "values" apos) [] [] pos'] X.env=[(ag,cA (.Call (.Attribute oe "values" apos) [] [] pos') X.env)]:=by rfl)(U:fB oe "values" X.env (cA oe X.env)=cA oe X.env:=by rfl)(J:(apos.endLine==pos'.line)=ae:=by rfl):PVf X (.Call (.Name "list" p) [.Call (.Attribute oe "values" apos) [] [] pos'] [] pos) (lvalA f):=by
 obtain⟨x,r,Y⟩:=Y;refine⟨_,kE (SJ hc) hg hm (3:) (qL (pe_vals r U J) jV hs) (by decide) (by decide) hs rfl,λH₀ H O j u hd l Q o e q=>?_⟩;obtain⟨d,t,e⟩:=bnd e;obtain⟨y,s,rfl⟩:=mpd e;refine Y H₀ H O j u hd _ _ o t λv w k n=>?_;obtain⟨a,c,rfl,b,A,m⟩:=BP n s;refine⟨a,c,rfl,b,λv h=>⟨v,a,c,rfl,bP,?_,λp g=>?_⟩⟩
 . have ne:a≠v:=λz=>by
    rw[z]at b;rcases b with b|⟨_,b⟩<;>(rw[h]at b;cases b)
   rcases b with b|⟨ob,b⟩
   . exact .inl (by rw[upd_ne ne];exact b)
   . exact .inr ⟨ob,by rw[upd_ne ne];exact b⟩
 . have i:Same H (upd w v$ vwO v a):=k.trans$ qF h _;refine q p _ _ (i.trans$ qF g _) (i.free g) bP ?_;exact((m.mono$ qF h$ vwO v a).more g).mono (qF g _)
end FL
namespace L2
def aAt:CallR X (.builtin "len") (λxs H Q=>∃d kvs,xs=[.ref d]/\Rd H d (.dK kvs)/\Q (.int kvs.length) H):=by intro l s g H xs j Q I r h;obtain⟨d,kvs,rfl,hd,q⟩:=h;obtain⟨u,rfl,c⟩:=vals1 r;cases c;have k:=tD;obtain⟨z,b,i,a,f⟩:=EB I.hok hd;have e:=a.length;exact call_len_dict b f (by lia) ⟨.int kvs.length,H,I.tok _,⟨_,by rw[e]⟩,q⟩
end L2
namespace FL
def UK{e:Expr}{f:FE}{p pos:Pos}(hm:X.mg "len"=ac)(z:PV X e f)(U:Gl X "len":=by rfl)(J:aG [e] X.env=[(ag,cA e X.env)]:=by rfl):PV X (.Call (.Name "len" p) [e] [] pos) (callB lenD$ zB (mkL$ lvalA f) zT):=by
 obtain⟨r,k,z⟩:=z;refine⟨_,xK aAt U hm PySem.boot_len (qL k jV J) (by decide) (by decide) J rfl,λH₀ H O g c hd l Q o e q=>?_⟩;cases h1:f c with
 |none=>simp[callB,zB,mkL,lvalA,h1]at e
 |some d=>
   cases h2:kdD d with
   |none=>simp[callB,zB,mkL,lvalA,h1,h2]at e
   |some s=>simp[callB,zB,zT,mkL,lvalA,h1,h2,lenD]at e;subst e;refine z H₀ H O g c hd _ _ o h1 λv n h j=>?_;obtain⟨a,b,rfl,m,t,i⟩:=BP j h2;refine⟨a,b,rfl,m,?_⟩;have:=i.length;rw[bS]at this;rw[this];exact q _ n h$ .int _
noncomputable def oi:Option Int->D
 |none=>.non
 |some i=>.int i
@[simp] theorem JQ:oi ac=.non:=rfl
@[simp] theorem oi_some i:oi (aa i)=.int i:=rfl
noncomputable def andK(r:Option D):D->Option D:=λd=>match d with|.bl ae=>r|.bl ag=>aa (.bl ag)|_=>ac
noncomputable def orK(r:Option D):D->Option D:=λd=>match d with|.bl ae=>aa (.bl ae)|.bl ag=>r|_=>ac
@[simp]def andK_bl r b:andK r (.bl b)=if b=ae then r else aa (.bl ag):=by cases b<;>rfl
@[simp]def orK_bl r b:orK r (.bl b)=if b=ae then aa (.bl ae)else r:=by cases b<;>rfl
@[simp]def ite_andD b c:(if b=ae then aa (D.bl c)else aa (D.bl ag))=aa (.bl$ b&&c):=by cases b<;>rfl
@[simp]def ite_orD b c:(if b=ae then aa (D.bl ae)else aa (D.bl c))=aa (.bl$ b||c):=by cases b<;>rfl
@[simp]def ite_andB b c:(if b=ae then aa c else aa ag)=aa (b&&c):=by cases b<;>rfl
@[simp]def ite_orB b c:(if b=ae then aa ae else aa c)=aa (b||c):=by cases b<;>rfl
@[simp]def ite_andB' p[Decidable p] c:(if p then aa c else aa ag)=aa (decide p&&c):=by by_cases h:p<;>simp[h]
@[simp]def ite_orB' p[Decidable p] c:(if p then aa ae else aa c)=aa (decide p||c):=by by_cases h:p<;>simp[h]
@[simp]def szl:sizeLine=16777216:=lX
section
variable(ds:List Sl)
@[simp] theorem getV_eq(i:Nat):qB i ds=match ds[i]? with|some (.v d)=>aa d|_=>ac:=rfl
@[simp] theorem getW_eq(i:Nat):zG i ds=match ds[i]? with|some (.v d)=>aa d|some (.own l)=>aa (.lst l)|_=>ac:=rfl
@[simp] theorem konst_eq(d:D):zA d ds=aa d:=rfl
@[simp] theorem bin2_eq(z:D->D->Option D)(U J:FE):zH z U J ds=(U ds).bind λx=>(J ds).bind λy=>z x y:=rfl
@[simp] theorem un1_eq(op:D->Option D)(f:FE):un1 op f ds=(f ds).bind op:=rfl
@[simp] theorem aHs(F:List D->Option D)(g:FA):callB F g ds=(g ds).bind F:=rfl
@[simp] theorem callV_eq(n:Nat)(F:List D->Option Ret)(g:FA):qT n F g ds=(g ds).bind λl=>if l.length=n then (F l).bind retV else ac:=rfl
@[simp] theorem callF_eq(n:Nat)(F:List D->Option Ret)(g:FA):wP n F g ds=(g ds).bind λl=>if l.length=n then (F l).bind retF else ac:=rfl
@[simp] theorem retV_val d:retV (.val d)=aa d:=rfl
@[simp] theorem retV_fresh l:retV (.fresh l)=aa (.lst l):=rfl
@[simp] theorem retF_val d:retF (.val d)=ac:=rfl
@[simp] theorem retF_fresh l:retF (.fresh l)=aa l:=rfl
@[simp] theorem aHl(f:FE)(g:FA):zB f g ds=(f ds).bind λx=>(g ds).map λr=>x::r:=rfl
@[simp] theorem nilA_eq:zT ds=aa []:=rfl
@[simp] theorem sized_eq(f:FA):qM f ds=(f ds).bind λl=>if l.length<=sizeLine then aa l else ac:=rfl
@[simp] theorem mkL_eq(f:FA):mkL f ds=(f ds).map D.lst:=rfl
@[simp] theorem mkT_eq(f:FA):mkT f ds=(f ds).map D.tup:=rfl
@[simp] theorem testB_eq(f:FE):zN f ds=(f ds).bind isB:=rfl
@[simp] theorem testT_eq(f:FE):testT f ds=(f ds).bind truD:=rfl
@[simp] theorem isB_bl b:isB (.bl b)=aa b:=rfl
@[simp] theorem andT_eq(c d:FT):andT c d ds=(c ds).bind λb=>if b=ae then d ds else aa ag:=rfl
@[simp] theorem orT_eq(c d:FT):orT c d ds=(c ds).bind λb=>if b=ae then aa ae else d ds:=rfl
@[simp] theorem notT_eq(c:FT):notT c ds=(c ds).map not:=rfl
@[simp] theorem andV_eq(f g:FE):andV f g ds=(f ds).bind (andK$ g ds):=rfl
@[simp] theorem orV_eq(f g:FE):orV f g ds=(f ds).bind (orK$ g ds):=rfl
@[simp] theorem notV_eq(f:FE):notV f ds=(f ds).bind λd=>match d with|.bl b=>aa (.bl$ !b)|_=>ac:=rfl
@[simp] theorem ifV_eq(c:FT)(f g:FE):ifV c f g ds=(c ds).bind λb=>if b=ae then f ds else g ds:=rfl
@[simp] theorem seqG_eq(f g:FS):qP f g ds=(f ds).bind λo=>match o with|.nx ds'=>g ds'|o=>aa o:=rfl
@[simp] theorem ifG_eq(c:FT)(f g:FS):ifG c f g ds=(c ds).bind λb=>if b=ae then f ds else g ds:=rfl
@[simp] theorem setG_eq(i:Nat)(f:FE):jW i f ds=(f ds).map λd=>.nx (ds.set i$ .v d):=rfl
@[simp] theorem setOG_eq(i:Nat)(f:FA):setOG i f ds=(f ds).map λl=>.nx (ds.set i$ .own l):=rfl
@[simp] theorem retG_eq(f:FE):retG f ds=(f ds).bind flatR:=rfl
@[simp] theorem retOG_eq(f:FA):retOG f ds=(f ds).bind flatF:=rfl
@[simp] theorem retXG_eq(i:Nat):retXG i ds=match ds[i]? with|some (.own l)=>flatF l|_=>ac:=rfl
@[simp] theorem nextG_eq:qH ds=aa (.nx ds):=rfl
@[simp] theorem appG_eq(i:Nat)(fe:FE):appG i fe ds=match ds[i]? with
 |some (.own l)=>(fe ds).bind λd=>if l.length<sizeLine then aa (.nx$ ds.set i$ .own$ l++[d])else ac
 |_=>ac:=rfl
@[simp] theorem extG_eq(i:Nat)(fe:FA):extG i fe ds=match ds[i]? with
 |some (.own l)=>(fe ds).bind λd=>if l.length+d.length<=sizeLine then aa (.nx$ ds.set i$ .own$ l++d)else ac
 |_=>ac:=rfl
@[simp] theorem putG_eq(i:Nat)(z fe:FE):putG i z fe ds=match ds[i]? with
 |some (.own l)=>(fe ds).bind λd=>(z ds).bind λk=>match k with
   |.int n=>(ixN l.length n).map λj=>.nx$ ds.set i$ .own$ l.set j d
   |_=>ac
 |_=>ac:=rfl
@[simp] theorem clrG_eq(i:Nat):clrG i ds=match ds[i]? with
 |some (.own l)=>aa$ .nx$ ds.set i$ .own []
 |_=>ac:=rfl
@[simp] theorem asgG_eq(ga:D->List Sl->Option (List Sl))(f:FE):asgG ga f ds=(f ds).bind λd=>(ga d ds).map .nx:=rfl
@[simp] theorem relS_eq(i:Nat):relS i ds=match ds[i]? with|some (.own l)=>ds.set i (.v$ .lst l)|_=>ds:=rfl
@[simp] theorem viaA_eq(f:FE)(k:D->Option (List D)):viaA f k ds=(f ds).bind k:=rfl
@[simp] theorem asLT_lst l:asLT (.lst l)=aa l:=rfl
@[simp] theorem asLT_tup l:asLT (.tup l)=aa l:=rfl
@[simp] theorem catA_eq(J z:FE):catA J z ds=(J ds).bind λx=>(z ds).bind λy=>match x,y with
 |.lst a,.lst b=>if a.length+b.length<=sizeLine then aa (a++b)else ac
 |_,_=>ac:=rfl
@[simp] theorem sliA_eq(f:FE)(lo hi:List Sl->Option (Option Int)):sliA f lo hi ds=(f ds).bind λd=>(lo ds).bind λa=>(hi ds).bind λb=>match d with
 |.lst l=>aa$ cutD l a b
 |_=>ac:=rfl
@[simp] theorem lisA_eq(f:FE):lisA f ds=(f ds).bind asLT:=rfl
@[simp] theorem noP_eq:noP ds=aa ac:=rfl
@[simp] theorem soP_eq(f:FE):soP f ds=(f ds).bind λd=>match d with|.int i=>aa (aa i)|_=>ac:=rfl
@[simp] theorem wQ(fi:FA)(ga:D->List Sl->Option (List Sl))(body:FS):forG fi ga body ds=(fi ds).bind λitems=>jM ga body items ds:=rfl
@[simp] theorem nameG_eq(i:Nat)(d:D):zM i d ds=aa (ds.set i$ .v d):=rfl
@[simp] theorem tupG_eq(n:Nat)(h:List D->List Sl->Option (List Sl))(l:List D):tupG n h (.tup l) ds=if l.length=n then h l ds else ac:=rfl
@[simp] theorem tgCons_eq(g:D->List Sl->Option (List Sl))(h:List D->List Sl->Option (List Sl))(d:D)(r:List D):zR g h (d::r) ds=(g d ds).bind λds'=>h r ds':=rfl
@[simp] theorem tgNil_eq:tgNil [] ds=aa ds:=rfl
@[simp] theorem isiG_eq(T:String)(f:FE):isiG T f ds=(f ds).bind (isiD T):=rfl
@[simp] theorem chain_eq(U J:D->D->Option D)(fa fb Y:FE):chain U J fa fb Y ds=(fa ds).bind λx=>(fb ds).bind λy=>(U x y).bind λz=>match z with
 |.bl ae=>(Y ds).bind λw=>J y w
 |.bl ag=>aa$ .bl ag
 |_=>ac:=rfl
end
@[simp] theorem addD_int i j:xM (.int i) (.int j)=aa (.int$ i+j):=rfl
@[simp] theorem subD_int i j:subD (.int i) (.int j)=aa (.int$ i-j):=rfl
@[simp] theorem negD_int i:negD (.int i)=aa (.int$ -i):=rfl
@[simp] theorem ltD_int i j:ltD (.int i) (.int j)=aa (.bl$ decide (i<j)):=rfl
@[simp] theorem leD_int i j:leD (.int i) (.int j)=aa (.bl$ decide (i<=j)):=rfl
@[simp] theorem gtD_int i j:gtD (.int i) (.int j)=aa (.bl$ decide (j<i)):=rfl
@[simp] theorem geD_int i j:geD (.int i) (.int j)=aa (.bl$ decide (j<=i)):=rfl
@[simp]def yY i(h:0<j):jK (.int i) (.int j)=aa (.int$ i%j):=if_pos h
def NZ(h:0<j)(h2:j<1000000000):divOk j:=⟨h,by
 have b:j.natAbs<2^30:=by lia
 have a:j.natAbs≠0:=by lia
 have:=(Nat.log2_lt a).mpr b
 lia⟩
@[simp]def NV i(h:0<j)(h2:j<1000000000):jL (.int i) (.int j)=aa (.int$ i/j):=if_pos$ NZ h h2
def jD(h:fE i j):wA (.int i) (.int j)=aa (.int$ i*j):=if_pos h
def US(h:CPowB i j):powD (.int i) (.int j)=aa (.int$ i^j.toNat):=if_pos h
def WF{i j:Int}{n m:Nat}(h:i.natAbs<2^n)(z:0<=j)(h1:j<=m)(h2:n*m<=134217728):CPowB i j:=by
 refine⟨z,?_⟩;have a:=intBits_le_iff.mpr h;have b:(Builtin.Int.intBits i:Int)*j<=(n:Int)*(m:Int):=GN (by lia) h1 z (by lia);have c:(2:Int)^27=134217728:=by decide
 lia
@[simp]def pow10(z:0<=j)(h1:j<=1000):powD (.int 10) (.int j)=aa (.int$ 10^j.toNat):=US (WF (n:=4) (m:=1000) (by decide) z h1$ by decide)
@[simp]def mxD_int i j:mxD [.int i,.int j]=aa (.int$ max i j):=by show aa (D.int$ if j>i then j else i)=_;congr 2;split<;>lia
@[simp]def mnD_int i j:mnD [.int i,.int j]=aa (.int$ min i j):=by show aa (D.int$ if j<i then j else i)=_;congr 2;split<;>lia
@[simp] theorem lenD_lst l:lenD [.lst l]=aa (.int l.length):=rfl
@[simp] theorem lenD_tup l:lenD [.tup l]=aa (.int l.length):=rfl
@[simp] theorem isD_non:isD .non .non=aa (.bl ae):=rfl
@[simp] theorem isD_int i:isD (.int i) .non=aa (.bl ag):=rfl
@[simp] theorem isD_bl i:isD (.bl i) .non=aa (.bl ag):=rfl
@[simp] theorem isD_tup i:isD (.tup i) .non=aa (.bl ag):=rfl
@[simp] theorem isD_lst i:isD (.lst i) .non=aa (.bl ag):=rfl
@[simp]def isD_oi o:isD (oi o) .non=aa (.bl o.isNone):=by cases o<;>rfl
@[simp] theorem notD_non:notD .non .non=aa (.bl ag):=rfl
@[simp] theorem notD_int i:notD (.int i) .non=aa (.bl ae):=rfl
@[simp] theorem notD_bl i:notD (.bl i) .non=aa (.bl ae):=rfl
@[simp] theorem notD_tup i:notD (.tup i) .non=aa (.bl ae):=rfl
@[simp] theorem notD_lst i:notD (.lst i) .non=aa (.bl ae):=rfl
@[simp]def notD_oi o:notD (oi o) .non=aa (.bl o.isSome):=by cases o<;>rfl
@[simp] theorem truD_bl b:truD (.bl b)=aa b:=rfl
@[simp] theorem truD_non:truD .non=aa ag:=rfl
@[simp] theorem truD_lst l:truD (.lst l)=aa (!l.isEmpty):=rfl
@[simp] theorem truD_tup l:truD (.tup l)=aa (!l.isEmpty):=rfl
def JW{n:Nat}{i:Int}(h:0<=i)(h2:i<n):ixN n i=aa i.toNat:=by unfold ixN;rw[if_pos h,if_pos h2]
def yT l(h:0<=i)(h2:i<l.length):ixD (.lst l) (.int i)=l[i.toNat]?:=by show atI l i=_;unfold atI;rw[JW h h2];rfl
def JV l(h:0<=i)(h2:i<l.length):ixD (.tup l) (.int i)=l[i.toNat]?:=by show atI l i=_;unfold atI;rw[JW h h2];rfl
@[simp]def ixT0 a l:ixD (.tup$ a::l) (.int 0)=aa a:=by rw[JV _ (by decide)$ by rw[aK];lia];rfl
@[simp]def ixT1 a b l:ixD (.tup$ a::b::l) (.int 1)=aa b:=by rw[JV _ (by decide)$ by rw[aK,aK];lia];rfl
@[simp]def ixT2 a b c l:ixD (.tup$ a::b::c::l) (.int 2)=aa c:=by rw[JV _ (by decide)$ by rw[aK,aK,aK];lia];rfl
@[simp]def ixL0 a l:ixD (.lst$ a::l) (.int 0)=aa a:=by rw[yT _ (by decide)$ by rw[aK];lia];rfl
@[simp]def ixL1 a b l:ixD (.lst$ a::b::l) (.int 1)=aa b:=by rw[yT _ (by decide)$ by rw[aK,aK];lia];rfl
def aGd l a:ixD (.lst$ l++[a]) (.int$ -1)=aa a:=by
 show atI (l++[a]) (-1)=_;unfold atI ixN;rw[if_neg$ by decide,if_pos$ by rw[cD,rG];lia,cD,rG];have e:(-1+((l.length+1:Nat):Int)).toNat=l.length:=by lia
 rw[e];simp
@[simp]def flat_non:flat .non=ae:=by simp[flat]
@[simp]def flat_bl b:flat (.bl b)=ae:=by simp[flat]
@[simp]def flat_int i:flat (.int i)=ae:=by simp[flat]
@[simp]def flat_tup l:flat (.tup l)=flats l:=by simp[flat]
@[simp]def flats_nil:flats []=ae:=by simp[flats]
@[simp]def flats_cons d l:flats (d::l)=(flat d&&flats l):=by simp[flats]
@[simp]def flat_oi o:flat (oi o)=ae:=by cases o<;>simp
def vA(h:flat d=ae):flatR d=aa (.rt$ .val d):=if_pos h
@[simp]def flatR_non:flatR .non=aa (.rt$ .val .non):=vA (by simp)
@[simp]def flatR_bl b:flatR (.bl b)=aa (.rt$ .val$ .bl b):=vA (by simp)
@[simp]def flatR_int i:flatR (.int i)=aa (.rt$ .val$ .int i):=vA (by simp)
@[simp]def flatR_tup l(h:flats l=ae):flatR (.tup l)=aa (.rt$ .val$ .tup l):=vA (by simpa using h)
@[simp]def flatF_of l(h:flats l=ae):flatF l=aa (.rt$ .fresh l):=if_pos h
@[simp]def shal_int n i:shal n (.int i)=ae:=by simp[shal]
@[simp]def shal_non n:shal n .non=ae:=by simp[shal]
@[simp]def shal_bl n b:shal n (.bl b)=ae:=by simp[shal]
@[simp]def shal_oi n o:shal n (oi o)=ae:=by cases o<;>simp
@[simp]def shal_lst n l:shal n (.lst l)=shals n l:=by simp[shal]
@[simp]def shals_nil n:shals n []=ae:=by cases n<;>simp[shals]
@[simp]def QG n d l:shals (n+1) (d::l)=(shal n d&&shals (n+1) l):=by simp[shals]
def XV(h:∀d∈l,shal n d=ae):shals (n+1) l=ae:=by
 induction l with
 |nil=>simp
 |cons d r a=>rw[QG,h d aP,a λx b=>h x$ aJ _ b];rfl
def aHf(h:shal 40 x=ae)(h2:shal 40 y=ae):eqD x y=aa (.bl$ eqvD x y):=if_pos ⟨h,h2⟩
def JR(h:shal 40 x=ae)(h2:shal 40 y=ae):neD x y=aa (.bl$ !eqvD x y):=if_pos ⟨h,h2⟩
@[simp]def eqvD_int i j:eqvD (.int i) (.int j)=decide (i=j):=by show(i==j)=_;rw[BW];simp
@[simp]def eqvD_bl i j:eqvD (.bl i) (.bl j)=decide (i=j):=by show(i==j)=_;rw[BW];simp
@[simp] theorem eqvD_non:eqvD .non .non=ae:=rfl
@[simp] theorem eqvD_non_int j:eqvD .non (.int j)=ag:=rfl
@[simp] theorem eqvD_int_non j:eqvD (.int j) .non=ag:=rfl
@[simp]def eqvD_oi o p:eqvD (oi o) (oi p)=decide (o=p):=by cases o<;>cases p<;>simp
@[simp]def aGx a b:eqvD (.lst a) (.lst b)=eqvs a b:=by simp[eqvD,eqvs,toPy,PyData.eqv]
@[simp]def eqvs_nil:eqvs [] []=ae:=by simp[eqvs,toPys,PyData.eqvAll]
@[simp]def eqvs_cons_nil y b:eqvs (y::b) []=ag:=by simp[eqvs,toPys,PyData.eqvAll]
@[simp]def eqD_int i j:eqD (.int i) (.int j)=aa (.bl$ decide (i=j)):=by rw[aHf (by simp)$ by simp];simp
@[simp]def neD_int i j:neD (.int i) (.int j)=aa (.bl$ !decide (i=j)):=by rw[JR (by simp)$ by simp];simp
@[simp]def neD_bl i j:neD (.bl i) (.bl j)=aa (.bl$ !decide (i=j)):=by rw[JR (by simp)$ by simp];simp
@[simp]def eqD_oi i j:eqD (oi i) (oi j)=aa (.bl$ decide (i=j)):=by rw[aHf (by simp)$ by simp];simp
@[simp]def neD_oi i j:neD (oi i) (oi j)=aa (.bl$ !decide (i=j)):=by rw[JR (by simp)$ by simp];simp
def SD l:eqvs l []=l.isEmpty:=by cases l<;>simp
def VH(h:shals 40 l=ae):neD (.lst l) (.lst [])=aa (.bl$ !l.isEmpty):=by rw[JR (by simpa using h)$ by simp,aGx,SD]
def CD n(l:List Int):shals (n+1) (l.map D.int)=ae:=XV λd hd=>by obtain⟨i,_,rfl⟩:=bQ.mp hd;simp
def kits:kitF "int" "int"=aa ae/\kitF "NoneType" "int"=aa ag/\kitF "bool" "int"=aa ae/\kitF "tuple" "int"=aa ag/\kitF "list" "int"=aa ag/\kitF "str" "int"=aa ag ∧
  kitF "bool" "bool"=aa ae/\kitF "int" "bool"=aa ag/\kitF "NoneType" "bool"=aa ag/\kitF "tuple" "tuple"=aa ae/\kitF "list" "tuple"=aa ag/\kitF "NoneType" "tuple"=aa ag ∧
  kitF "list" "list"=aa ae/\kitF "tuple" "list"=aa ag/\kitF "NoneType" "list"=aa ag:=by
 refine⟨?_,?_,?_,?_,?_,?_,?_,?_,?_,?_,?_,?_,?_,?_,?_⟩<;>decide +kernel
@[simp]def isi_int_int i:isiD "int" (.int i)=aa (.bl ae):=by simp[isiD,tyD,kits.1]
@[simp]def isi_int_non:isiD "int" .non=aa (.bl ag):=by simp[isiD,tyD,kits.2.1]
@[simp]def isi_bool_int i:isiD "bool" (.int i)=aa (.bl ag):=by simp[isiD,tyD,kits.2.2.2.2.2.2.2.1]
@[simp]def isi_bool_non:isiD "bool" .non=aa (.bl ag):=by simp[isiD,tyD,kits.2.2.2.2.2.2.2.2.1]
@[simp]def isi_tup_tup l:isiD "tuple" (.tup l)=aa (.bl ae):=by simp[isiD,tyD,kits.2.2.2.2.2.2.2.2.2.1]
@[simp]def isi_lst_lst l:isiD "list" (.lst l)=aa (.bl ae):=by simp[isiD,tyD,kits.2.2.2.2.2.2.2.2.2.2.2.2.1]
@[simp]def bind_ite{z J:Type}[Decidable c](a b:Option z)(f:z->Option J):(if c then a else b).bind f=if c then a.bind f else b.bind f:=by split<;>rfl
@[simp]def map_ite{z J:Type}[Decidable c](a b:Option z)(f:z->J):(if c then a else b).map f=if c then a.map f else b.map f:=by split<;>rfl
theorem DG(P:List Sl->Prop):∀items ds,P ds →
  (∀d∈items,∀ds,P ds->∃J z,ga d ds=aa J/\(body J=aa (.nx z)\/body J=aa (.ct z))/\P z)->∃ds',jM ga body items ds=aa (.nx ds')/\P ds'
 |[],ds,h,_=>⟨ds,rfl,h⟩
 |d::r,ds,h,H=>by obtain⟨J,z,g,a,e⟩:=H d aP ds h;obtain⟨ds',f,c⟩:=DG P r z e λx b=>H x$ aJ _ b;refine⟨ds',?_,c⟩;rcases a with a|a<;>simp only[jM,g,a,aZ,f]
def yF(h:fi ds=aa items)(z:items.length<=sizeLine)(J:compL ga tt fe (jN mp ds) items=aa l):compG fi mp ga tt fe ds=aa l:=by unfold compG;rw[h];show(if items.length<=sizeLine then compL ga tt fe (jN mp ds) items else ac)=_;rw[if_pos z];exact J
theorem EN:∀bs,blsD (bs.map D.bl)=aa bs
 |[]=>rfl
 |b::r=>by simp[blsD,EN r]
@[simp]def OM(bs:List Bool):allD [.lst$ bs.map D.bl]=aa (.bl$ bs.all id):=by simp[allD,EN]
@[simp]def aIc(bs:List Bool):anyD [.lst$ bs.map D.bl]=aa (.bl$ bs.any id):=by simp[anyD,EN]
@[simp]def ixL2 a b c l:ixD (.lst$ a::b::c::l) (.int 2)=aa c:=by rw[yT _ (by decide)$ by rw[aK,aK,aK];lia];rfl
@[simp]def ixL3 a b c d l:ixD (.lst$ a::b::c::d::l) (.int 3)=aa d:=by rw[yT _ (by decide)$ by rw[aK,aK,aK,aK];lia];rfl
@[simp] theorem rng3_eq(Y U J:FE)(ds:List Sl):rng3 Y U J ds=(Y ds).bind λx=>(U ds).bind λy=>(J ds).bind λz=>match x,y,z with
 |.int i,.int j,.int c=>if okR3 i j c then aa (UE i c$ aCu i j c)else ac
 |_,_,_=>ac:=rfl
@[simp] theorem rng2_eq(J z:FE)(ds:List Sl):rng2 J z ds=(J ds).bind λx=>(z ds).bind λy=>match x,y with
 |.int i,.int j=>if okR i/\okR j then aa (lG i (j-i).toNat)else ac
 |_,_=>ac:=rfl
@[simp] theorem rng1_eq f ds:rng1 f ds=(f ds).bind λd=>match d with|.int j=>if okR j then aa (lG 0 j.toNat)else ac|_=>ac:=rfl
def kD(h : -1000000000<=j)(h2:j<=1000000000):okR j:=⟨fO (by decide) h,Int.lt_of_le_of_lt h2$ by decide⟩
theorem vM:∀bs,intsD (bs.map D.int)=aa bs
 |[]=>rfl
 |b::r=>by simp[intsD,vM r]
@[simp] theorem absD_int i:absD [.int i]=aa (.int$ if i<0 then -i else i):=rfl
@[simp] theorem int1D_int i:int1D [.int i]=aa (.int i):=rfl
@[simp] theorem int1D_bl b:int1D [.bl b]=aa (.int$ if b then 1 else 0):=rfl
@[simp] theorem augA_eq(i:Nat)(f:FE)(ds:List Sl):augA i f ds=(qB i ds).bind λx=>(f ds).bind λy=>match x,y with
 |.int a,.int b=>aa$ .nx$ ds.set i$ .v$ .int$ a+b
 |_,_=>ac:=rfl
@[simp] theorem parG_eq(i j:Nat)(f:FA)(ds:List Sl):parG i j f ds=(f ds).bind λl=>match l with
 |[a,b]=>aa$ .nx$ (ds.set i$ .v a).set j$ .v b
 |_=>ac:=rfl
@[simp] theorem revA_eq(f:FE)(ds:List Sl):revA f ds=(f ds).bind λd=>match d with
 |.lst l=>aa l.reverse
 |_=>ac:=rfl
def RB{lo:Int}(h:d∈lG lo n):∃k,k<n/\d=.int (lo+(k:Int)):=by obtain⟨k,a,rfl⟩:=bQ.mp h;exact⟨k,nZ.mp a,rfl⟩
def zQ(h:f ds=aa (.nx ds')):qP f g ds=g ds':=by simp[h]
def wD(h:g (args n ds)=aa (.rt r)):runG g n ds=aa r:=by unfold runG;rw[h]
end FL
section
open FL
noncomputable def mR:FS:=(retG$ andV (zH notD (zG 0)$ zA .non)$ andV (zH notD (zG 1)$ zA .non)$ zH leD (zG 0)$ zG 1)
noncomputable def gT:List D->Option Ret:=runG mR 2
noncomputable def uU:FS:=(qP (ifG (orT (zN$ zH isD (zH ixD (zG 0)$ zA$ .int 0)$ zA .non)$ zN$ zH isD (zH ixD (zG 0)$ zA$ .int 1)$ zA .non) (retG$ zA .non) qH)
 (retG$ zH subD (zH ixD (zG 0)$ zA$ .int 1)$ zH ixD (zG 0)$ zA$ .int 0))
noncomputable def uV:List D->Option Ret:=runG uU 1
noncomputable def nL:FS:=(qP (ifG (zN$ zH isD (zG 0)$ zA .non) (retG$ zG 1) qH)
 (qP (ifG (zN$ zH isD (zG 1)$ zA .non) (retG$ zG 0) qH)
 (retG$ callB mxD$ zB (zG 0)$ zB (zG 1) zT)))
noncomputable def iG:List D->Option Ret:=runG nL 2
noncomputable def iN:FS:=(qP (ifG (zN$ zH isD (zG 0)$ zA .non) (retG$ zG 1) qH)
 (qP (ifG (zN$ zH isD (zG 1)$ zA .non) (retG$ zG 0) qH)
 (retG$ callB mnD$ zB (zG 0)$ zB (zG 1) zT)))
noncomputable def dQ:List D->Option Ret:=runG iN 2
noncomputable def tZ:FS:=(qP (jW 2$ qT 2 iG$ zB (zH ixD (zG 0)$ zA$ .int 0)$ zB (zH ixD (zG 1)$ zA$ .int 0) zT)
 (qP (jW 3$ qT 2 dQ$ zB (zH ixD (zG 0)$ zA$ .int 1)$ zB (zH ixD (zG 1)$ zA$ .int 1) zT)
 (qP (ifG (testT$ qT 2 gT$ zB (zG 3)$ zB (zG 2) zT) (retG$ zA .non) qH)
 (retG$ mkT$ qM$ zB (qB 2)$ zB (qB 3) zT))))
noncomputable def nC:List D->Option Ret:=runG tZ 4
noncomputable def pC:FS:=(qP (ifG (notT$ testT$ isiG "str"$ zG 0) (retG$ zA$ .bl ag) qH)
 (qP (ifG (orT (zN$ zH ltD (callB lenD$ zB (zG 0) zT)$ zA$ .int 1)$ zN$ zH gtD (callB lenD$ zB (zG 0) zT)$ zA$ .int 8) (retG$ zA$ .bl ag) qH)
 (retG$ callB allD$ zB (mkL$ compG (viaA (qB 0) asS) [ac] (zM 0) (λ_=>aa ae)$ zH inS (zG 0)$ zA$ .str "abcdefghijklmnopqrstuvwxyz") zT)))
noncomputable def fU:List D->Option Ret:=runG pC 1
noncomputable def nM:FS:=(qP (ifG (zN$ zH isD (zG 4)$ zA .non) (λds=>aa$ .ct ds) qH)
 (ifG (andT (testT$ zG 1)$ andT (zN$ zH eqD (zH ixD (zH ixD (zG 1)$ un1 negD$ zA$ .int 1)$ zA$ .int 1)$ zG 2)$ zN$ zH eqD (zH ixD (zH ixD (zG 1)$ un1 negD$ zA$ .int 1)$ zA$ .int 2)$ zG 4) (putG 1 (un1 negD$ zA$ .int 1)$ mkT$ qM$ zB (zH ixD (zH ixD (zG 1)$ un1 negD$ zA$ .int 1)$ zA$ .int 0)$ zB (qB 3)$ zB (qB 4) zT)$ appG 1$ mkT$ qM$ zB (qB 2)$ zB (qB 3)$ zB (qB 4) zT))
noncomputable def uA:FS:=(qP (setOG 1$ qM zT)
 (qP (forG (viaA (qB 0) asLT) (tupG 3$ zR (zM 2)$ zR (zM 3)$ zR (zM 4) tgNil) nM)
 (retXG 1)))
noncomputable def gW:List D->Option Ret:=runG uA 5
noncomputable def gV:FS:=(qP (ifG (zN$ zH neD (zG 3)$ zG 2) (appG 1$ mkT$ qM$ zB (qB 2)$ zB (qB 3)$ zB (zA .non) zT) qH)
 (qP (appG 1$ mkT$ qM$ zB (qB 3)$ zB (qB 4)$ zB (qB 5) zT)
 (jW 2$ qB 4)))
noncomputable def pB:FS:=(qP (setOG 1$ qM zT)
 (qP (jW 2$ zA .non)
 (qP (forG (viaA (qB 0) asLT) (tupG 3$ zR (zM 3)$ zR (zM 4)$ zR (zM 5) tgNil) gV)
 (qP (ifG (orT (zN$ zH notD (zG 2)$ zA .non)$ notT$ testT$ zG 0) (appG 1$ mkT$ qM$ zB (qB 2)$ zB (zA .non)$ zB (zA .non) zT) qH)
 (retXG 1)))))
noncomputable def fH:List D->Option Ret:=runG pB 6
noncomputable def gI:FS:=(qP (jW 6$ qT 2 nC$ zB (mkT$ qM$ zB (qB 3)$ zB (qB 4) zT)$ zB (zG 1) zT)
 (ifG (zN$ zH notD (zG 6)$ zA .non) (appG 2$ mkT$ qM$ zB (zH ixD (zG 6)$ zA$ .int 0)$ zB (zH ixD (zG 6)$ zA$ .int 1)$ zB (qB 5) zT) qH))
noncomputable def oK:FS:=(qP (setOG 2$ qM zT)
 (qP (forG (viaA (qB 0) asLT) (tupG 3$ zR (zM 3)$ zR (zM 4)$ zR (zM 5) tgNil) gI)
 (retXG 2)))
noncomputable def fL:List D->Option Ret:=runG oK 7
noncomputable def nK:FS:=(qP (setOG 3$ qM zT)
 (qP (ifG (zN$ zH notD (zH ixD (zG 1)$ zA$ .int 0)$ zA .non) (extG 3$ wP 2 fL$ zB (zG 0)$ zB (mkT$ qM$ zB (zA .non)$ zB (zH ixD (zG 1)$ zA$ .int 0) zT) zT) qH)
 (qP (appG 3$ mkT$ qM$ zB (zH ixD (zG 1)$ zA$ .int 0)$ zB (zH ixD (zG 1)$ zA$ .int 1)$ zB (qB 2) zT)
 (qP (ifG (zN$ zH notD (zH ixD (zG 1)$ zA$ .int 1)$ zA .non) (extG 3$ wP 2 fL$ zB (zG 0)$ zB (mkT$ qM$ zB (zH ixD (zG 1)$ zA$ .int 1)$ zB (zA .non) zT) zT) qH)
 (retXG 3)))))
noncomputable def gH:List D->Option Ret:=runG nK 4
noncomputable def pI:FS:=(qP (ifG (zN$ zH notD (zH ixD (zG 0)$ zA$ .int 0)$ zA .non) (retG$ zH ixD (zG 0)$ zA$ .int 0) qH)
 (qP (ifG (zN$ zH notD (zH ixD (zG 0)$ zA$ .int 1)$ zA .non) (retG$ zH subD (zH ixD (zG 0)$ zA$ .int 1)$ zA$ .int 1) qH)
 (retG$ zA$ .int 0)))
noncomputable def pJ:List D->Option Ret:=runG pI 1
noncomputable def mZ:FS:=(qP (jW 8$ zH ixD (zG 2)$ zG 6)
 (qP (jW 9$ zH ixD (zG 3)$ zG 7)
 (qP (jW 10$ qT 2 dQ$ zB (zH ixD (zG 8)$ zA$ .int 1)$ zB (zH ixD (zG 9)$ zA$ .int 1) zT)
 (qP (appG 4$ mkT$ qM$ zB (qB 5)$ zB (qB 10)$ zB (zH ixD (zG 8)$ zA$ .int 2)$ zB (zH ixD (zG 9)$ zA$ .int 2) zT)
 (qP (ifG (zN$ zH eqD (zH ixD (zG 8)$ zA$ .int 1)$ zG 10) (augA 6$ zA$ .int 1) qH)
 (qP (ifG (zN$ zH eqD (zH ixD (zG 9)$ zA$ .int 1)$ zG 10) (augA 7$ zA$ .int 1) qH)
 (jW 5$ qB 10)))))))
noncomputable def rC:FS:=(qP (jW 2$ qT 1 fH$ zB (zG 0) zT)
 (qP (jW 3$ qT 1 fH$ zB (zG 1) zT)
 (qP (setOG 4$ qM zT)
 (qP (jW 5$ zA .non)
 (qP (jW 6$ zA$ .int 0)
 (qP (jW 7$ zA$ .int 0)
 (qP (oM (zN$ zH ltD (zG 6)$ callB lenD$ zB (zG 2) zT) mZ 100000)
 (retXG 4))))))))
noncomputable def oC:List D->Option Ret:=runG rC 11
noncomputable def BU:FS:=(retOG$ wP 1 gW$ zB (qT 3 gH$ zB (zG 0)$ zB (zG 1)$ zB (zG 2) zT) zT)
noncomputable def lC:List D->Option Ret:=runG BU 3
noncomputable def rD(Φ:Fun2):FS:=(qP (jW 3$ qT 2 oC$ zB (zG 0)$ zB (zG 1) zT)
 (retOG$ wP 1 gW$ zB (mkL$ compG (viaA (qB 3) asLT) [ac,ac,ac,ac,aa 2] (tupG 4$ zR (zM 0)$ zR (zM 1)$ zR (zM 2)$ zR (zM 3) tgNil) (λ_=>aa ae)$ mkT$ qM$ zB (qB 0)$ zB (qB 1)$ zB (callW Φ 4$ zB (zG 2)$ zB (zG 3) zT) zT) zT))
noncomputable def mH(Φ:Fun2):List D->Option Ret:=runG (rD Φ) 4
noncomputable def pZ(Φ:Fun2):FS:=(retOG$ wP 1 gW$ zB (mkL$ compG (viaA (qT 1 fH$ zB (zG 0) zT) asLT) [ac,ac,ac,aa 1] (tupG 3$ zR (zM 0)$ zR (zM 1)$ zR (zM 2) tgNil) (λ_=>aa ae)$ mkT$ qM$ zB (qB 0)$ zB (qB 1)$ zB (callW Φ 3$ zB (zG 2) zT) zT) zT)
noncomputable def fT(Φ:Fun2):List D->Option Ret:=runG (pZ Φ) 2
noncomputable def rE:FS:=(retG$ ifV (zN$ zH isD (zG 0)$ zA .non) (qB 1)$ qB 0)
noncomputable def mI:List D->Option Ret:=runG rE 2
noncomputable def lT:FS:=(qP (ifG (orT (zN$ zH ltD (callB lenD$ zB (zG 0) zT)$ zA$ .int 1)$ zN$ zH gtD (callB lenD$ zB (zG 0) zT)$ zA$ .int 60) (λ_=>ac) qH)
 (qP (ifG (notT$ testT$ callB allD$ zB (mkL$ compG (viaA (qB 0) asLT) [ac] (zM 0) (λ_=>aa ae)$ qT 1 fU$ zB (zG 0) zT) zT) (λ_=>ac) qH)
 (ifG (zN$ zH ltD (lsetE$ zG 0)$ callB lenD$ zB (zG 0) zT) (λ_=>ac) qH)))
noncomputable def gJ:List D->Option Ret:=runG lT 1
noncomputable def eM:FS:=(dputN (atP [(12,0)]$ varP 0) (qB 2)$ sO nilO)
noncomputable def fV:FS:=(qP (dropG$ qT 1 gJ$ zB (zG 1) zT)
 (qP (setNw 24 12 (varP 0) dO0)
 (forG (viaA (mkL$ srtTA$ zG 1) asLT) (zM 2) eM)))
noncomputable def dW:OT->List D->Option OT:=lentF fV 3
noncomputable def lU:FS:=(qP (ifG (orT (notT$ testT$ qT 1 fU$ zB (zG 1) zT)$ dnotG (zG 1)$ fldG [(12,0)]$ qB 0) (λ_=>ac) qH)
 (retOG$ lisA$ dgetG (fldG [(12,0)]$ qB 0)$ qB 1))
noncomputable def iJ:List D->Option Ret:=runG lU 2
noncomputable def dU:Nat->List D->Option Ret
 |12=>iJ
 |_=>λ_=>ac
noncomputable def iW:FS:=(dputG (atP [(12,0)]$ varP 0) (qB 1)$ ofO$ relGO 0$ lO$ wP 3 lC$ zB (methV 1 [12] dU (qB 0)$ zB (zG 1) zT)$ zB (zG 2)$ zB (zA$ .int 1) zT)
noncomputable def eY:OT->List D->Option OT:=lentF iW 3
noncomputable def iK:FS:=(dputG (atP [(12,0)]$ varP 0) (qB 1)$ ofO$ relGO 0$ lO$ wP 3 lC$ zB (methV 1 [12] dU (qB 0)$ zB (zG 1) zT)$ zB (zG 2)$ zB (zA .non) zT)
noncomputable def eO:OT->List D->Option OT:=lentF iK 3
noncomputable def rB:FS:=(qP (ifG (orT (zN$ zH isD (zG 0)$ zA .non)$ zN$ zH isD (zG 1)$ zA .non) (retG$ qT 2 mI$ zB (zG 0)$ zB (zG 1) zT) qH)
 (retG$ zH xM (zG 0)$ zG 1))
noncomputable def kP:List D->Option Ret:=runG rB 2
noncomputable def mF(Φ:Fun2):FS:=(setOG 1$ wP 3 (mH Φ)$ zB (zG 1)$ zB (zG 2)$ zB (zA$ .clo 1000 3 []) zT)
noncomputable def oZ(Φ:Fun2):FS:=(qP (setOG 1$ qM zT)
 (qP (forG (viaA (qB 0) asLT) (zM 2)$ mF Φ)
 (retXG 1)))
noncomputable def gP(Φ:Fun2):List D->Option Ret:=runG (oZ Φ) 3
noncomputable def lD(Φ:Fun2):FS:=(qP (ifG (orT (zN$ zH ltD (zG 1)$ zA$ .int 1)$ zN$ zH gtD (zG 1)$ callB lenD$ zB (mkL$ lvalA$ fldG [(12,0)]$ qB 0) zT) (λ_=>ac) qH)
 (qP (jW 2$ qT 1 (gP Φ)$ zB (mkL$ lvalA$ fldG [(12,0)]$ qB 0) zT)
 (qP (jW 3$ qT 2 (ncF$ fT Φ)$ lamA 11 0 [1]$ zB (zG 2) zT)
 (retOG$ compG (viaA (qB 3) asLT) [ac,ac,ac] (tupG 3$ zR (zM 0)$ zR (zM 1)$ zR (zM 2) tgNil) (λ_=>aa ae)$ mkT$ qM$ zB (qB 0)$ zB (qB 1) zT))))
noncomputable def lF(Φ:Fun2):List D->Option Ret:=runG (lD Φ) 4
noncomputable def cQ(Φ:Fun2):Nat->List D->Option Ret
 |12=>(lF Φ)
 |_=>λ_=>ac
noncomputable def pE:FS:=(qP (ifG (zN$ zH ltD (zG 1)$ callB lenD$ zB (zG 0) zT) (retG$ zH ixD (zG 0)$ zG 1) qH)
 (retG$ zA$ .int 0))
noncomputable def eE:List D->Option Ret:=runG pE 2
noncomputable def pD:FS:=(retG$ andV (isiG "int"$ zG 0)$ notV$ isiG "bool"$ zG 0)
noncomputable def fZ:List D->Option Ret:=runG pD 1
noncomputable def sW:FS:=(qP (jW 1$ zH powD (zH powD (zA$ .int 10)$ zA$ .int 60)$ zA$ .int 8)
 (retG$ zH subD (zH jK (zG 0)$ zH xM (zH wA (zA$ .int 2)$ zG 1)$ zA$ .int 1)$ zG 1))
noncomputable def lW:List D->Option Ret:=runG sW 2
noncomputable def uB:FS:=(retG$ andV (orV (zH isD (zH ixD (zG 0)$ zA$ .int 0)$ zA .non)$ zH leD (zH ixD (zG 0)$ zA$ .int 0)$ zG 1)$ orV (zH isD (zH ixD (zG 0)$ zA$ .int 1)$ zA .non)$ zH ltD (zG 1)$ zH ixD (zG 0)$ zA$ .int 1)
noncomputable def kQ:List D->Option Ret:=runG uB 2
end
namespace FL
abbrev Spn:=Option Int×Option Int
noncomputable def spD(s:Spn):D:=.tup [oi s.1,oi s.2]
noncomputable def oS:Option Spn->D
 |none=>.non
 |some s=>spD s
noncomputable def hasS(s:Spn)(p:Int):Bool:=(match s.1 with|none=>ae|some a=>decide (a<=p))&&(match s.2 with|none=>ae|some b=>decide (p<b))
def okS(s:Spn):Prop:=∀a b,s.1=aa a->s.2=aa b->a<b
@[simp]def spD_0 s:ixD (spD s) (.int 0)=aa (oi s.1):=ixT0 _ _
@[simp]def spD_1 s:ixD (spD s) (.int 1)=aa (oi s.2):=ixT1 _ _ _
@[simp]def spD_flat s:flat (spD s)=ae:=by simp[spD]
@[simp]def spD_isi s:isiD "tuple" (spD s)=aa (.bl ae):=by simp[spD]
@[simp]def spD_len s:lenD [spD s]=aa (.int 2):=by simp[spD]
@[simp] theorem spD_isD s:isD (spD s) .non=aa (.bl ag):=rfl
@[simp] theorem spD_notD s:notD (spD s) .non=aa (.bl ae):=rfl
@[simp] theorem spD_asLT s:asLT (spD s)=aa [oi s.1,oi s.2]:=rfl
@[simp]def oS_isD o:isD (oS o) .non=aa (.bl o.isNone):=by cases o<;>rfl
@[simp]def oS_notD o:notD (oS o) .non=aa (.bl o.isSome):=by cases o<;>rfl
def length_eq s:uV [spD s]=aa (.val$ oi (match s.1,s.2 with|some a,aa b=>aa (b-a)|_,_=>ac)):=by obtain⟨a,b⟩:=s;unfold uV runG uU;cases a<;>cases b<;>simp[args]
noncomputable def lateL:Option Int->Option Int->Option Int
 |none,b=>b
 |a,ac=>a
 |some a,aa b=>aa$ max a b
noncomputable def qO:Option Int->Option Int->Option Int
 |none,b=>b
 |a,ac=>a
 |some a,aa b=>aa$ min a b
noncomputable def rN:Option Int->Option Int->Bool
 |some b,aa l=>decide (b<=l)
 |_,_=>ag
def aFw a b:iG [oi a,oi b]=aa (.val$ oi$ lateL a b):=by unfold iG runG nL;cases a<;>cases b<;>simp[args,lateL]
def NX a b:dQ [oi a,oi b]=aa (.val$ oi$ qO a b):=by unfold dQ runG iN;cases a<;>cases b<;>simp[args,qO]
def aAz a b:gT [oi a,oi b]=aa (.val$ .bl$ rN a b):=by unfold gT runG mR;cases a<;>cases b<;>simp[args,rN]
noncomputable def meetS(s t:Spn):Option Spn:=if rN (qO s.2 t.2) (lateL s.1 t.1)=ae then ac else aa (lateL s.1 t.1,qO s.2 t.2)
def meet_eq s t:nC [spD s,spD t]=aa (.val$ oS$ meetS s t):=by unfold nC runG tZ;cases h:rN (qO s.2 t.2) (lateL s.1 t.1)<;>simp[args,aFw,NX,aAz,h,meetS,oS,spD]
def HasS(s:Spn)(p:Int):Prop:=(∀a,s.1=aa a->a<=p)/\(∀b,s.2=aa b->p<b)
def xZ s p:hasS s p=ae↔HasS s p:=by obtain⟨a,b⟩:=s;cases a<;>cases b<;>simp[hasS,HasS]
def NG:(∀x,lateL a c=aa x->x<=p)↔(∀x,a=aa x->x<=p)/\(∀x,c=aa x->x<=p):=by
 cases a<;>cases c<;>simp[lateL]
 lia
def NW:(∀x,qO a c=aa x->p<x)↔(∀x,a=aa x->p<x)/\(∀x,c=aa x->p<x):=by
 cases a<;>cases c<;>simp[qO]
 lia
def aAy(h:rN b l=ae)(h1:∀x,l=aa x->x<=p)(h2:∀x,b=aa x->p<x):False:=by
 cases b<;>cases l<;>simp[rN]at h
 lia
noncomputable def hasO(o:Option Spn)(p:Int):Bool:=match o with
 |none=>ag
 |some u=>hasS u p
def IH s t p:hasO (meetS s t) p=(hasS s p&&hasS t p):=by
 rw[BW,bY,xZ,xZ];unfold meetS;by_cases h:rN (qO s.2 t.2) (lateL s.1 t.1)=ae
 . rw[if_pos h];refine⟨λz=>by simp[hasO]at z,λz=>(aAy h (NG.mpr ⟨z.1.1,z.2.1⟩)$ NW.mpr ⟨z.1.2,z.2.2⟩).elim⟩
 . rw[if_neg h];show hasS _ p=ae↔_;rw[xZ];show(∀x,lateL s.1 t.1=aa x->x<=p)/\(∀x,qO s.2 t.2=aa x->p<x)↔_;rw[NG,NW];exact⟨λ⟨⟨a,b⟩,c,d⟩=>⟨⟨a,c⟩,b,d⟩,λ⟨⟨a,c⟩,b,d⟩=>⟨⟨a,b⟩,c,d⟩⟩
def aFk(h:meetS s t=aa u):okS u:=by
 unfold meetS at h;split at h
 . cases h
 . rename_i c;cases h;intro a b e d;simp only at e d;simp [rN]at c
   lia
open Builtin.Int (intBits)
noncomputable def cel(ns:List Int)(k:Nat):Int:=ns.getD k 0
def aHp(ns:List Int)(h:0<=k):eE [.lst$ ns.map D.int,.int k]=aa (.val$ .int$ ns.getD k.toNat 0):=by
 unfold eE runG pE;by_cases a:k<(ns.length:Int)
 . have b:k < ((ns.map D.int).length:Int):=by simpa using a
   have e:(ns.map D.int)[k.toNat]?=aa (.int$ ns.getD k.toNat 0):=by
    have:k.toNat<ns.length:=by lia
    simp[this,List.getD]
   simp[args,a,yT _ h b,e]
 . have:ns.getD k.toNat 0=0:=by
    have:ns.length<=k.toNat:=by lia
    simp[List.getD,aX this]
   rw[this];simp[args,a]
def BS ns(k:Nat):eE [.lst$ ns.map D.int,.int (k:Int)]=aa (.val$ .int$ cel ns k):=aHp ns (k:=(k:Int)) (by lia)
def qG(h:a.natAbs<2^m):intBits a<=m:=intBits_le_iff.mpr h
def pow1060:powD (.int$ 10^60) (.int 8)=aa (.int$ (10^60)^8):=US (WF (n:=200) (m:=8) (by decide) (by decide) (by decide)$ by decide)
@[simp]def eqS_put_put:eqD (.str "put") (.str "put")=aa (.bl ae):=by kernel_rfl
@[simp]def neS_put_put:neD (.str "put") (.str "put")=aa (.bl ag):=by kernel_rfl
@[simp]def eqS_put_widen:eqD (.str "put") (.str "widen")=aa (.bl ag):=by kernel_rfl
@[simp]def neS_put_widen:neD (.str "put") (.str "widen")=aa (.bl ae):=by kernel_rfl
@[simp]def aHa:eqD (.str "put") (.str "narrow")=aa (.bl ag):=by kernel_rfl
@[simp]def aFd:neD (.str "put") (.str "narrow")=aa (.bl ae):=by kernel_rfl
@[simp]def eqS_put_move:eqD (.str "put") (.str "move")=aa (.bl ag):=by kernel_rfl
@[simp]def neS_put_move:neD (.str "put") (.str "move")=aa (.bl ae):=by kernel_rfl
@[simp]def aBu:eqD (.str "put") (.str "stretch")=aa (.bl ag):=by kernel_rfl
@[simp]def aBn:neD (.str "put") (.str "stretch")=aa (.bl ae):=by kernel_rfl
@[simp]def aHb:eqD (.str "put") (.str "mirror")=aa (.bl ag):=by kernel_rfl
@[simp]def aFe:neD (.str "put") (.str "mirror")=aa (.bl ae):=by kernel_rfl
@[simp]def eqS_widen_put:eqD (.str "widen") (.str "put")=aa (.bl ag):=by kernel_rfl
@[simp]def neS_widen_put:neD (.str "widen") (.str "put")=aa (.bl ae):=by kernel_rfl
@[simp]def aBs:eqD (.str "widen") (.str "widen")=aa (.bl ae):=by kernel_rfl
@[simp]def aBl:neD (.str "widen") (.str "widen")=aa (.bl ag):=by kernel_rfl
@[simp]def aAe:eqD (.str "widen") (.str "narrow")=aa (.bl ag):=by kernel_rfl
@[simp]def YY:neD (.str "widen") (.str "narrow")=aa (.bl ae):=by kernel_rfl
@[simp]def aGz:eqD (.str "widen") (.str "move")=aa (.bl ag):=by kernel_rfl
@[simp]def aFc:neD (.str "widen") (.str "move")=aa (.bl ae):=by kernel_rfl
@[simp]def VX:eqD (.str "widen") (.str "stretch")=aa (.bl ag):=by kernel_rfl
@[simp]def VB:neD (.str "widen") (.str "stretch")=aa (.bl ae):=by kernel_rfl
@[simp]def aAf:eqD (.str "widen") (.str "mirror")=aa (.bl ag):=by kernel_rfl
@[simp]def YZ:neD (.str "widen") (.str "mirror")=aa (.bl ae):=by kernel_rfl
@[simp]def aHc:eqD (.str "narrow") (.str "put")=aa (.bl ag):=by kernel_rfl
@[simp]def aFf:neD (.str "narrow") (.str "put")=aa (.bl ae):=by kernel_rfl
@[simp]def aAh:eqD (.str "narrow") (.str "widen")=aa (.bl ag):=by kernel_rfl
@[simp]def ZB:neD (.str "narrow") (.str "widen")=aa (.bl ae):=by kernel_rfl
@[simp]def VZ:eqD (.str "narrow") (.str "narrow")=aa (.bl ae):=by kernel_rfl
@[simp]def VD:neD (.str "narrow") (.str "narrow")=aa (.bl ag):=by kernel_rfl
@[simp]def aBv:eqD (.str "narrow") (.str "move")=aa (.bl ag):=by kernel_rfl
@[simp]def aBo:neD (.str "narrow") (.str "move")=aa (.bl ae):=by kernel_rfl
@[simp]def SG:eqD (.str "narrow") (.str "stretch")=aa (.bl ag):=by kernel_rfl
@[simp]def QW:neD (.str "narrow") (.str "stretch")=aa (.bl ae):=by kernel_rfl
@[simp]def WA:eqD (.str "narrow") (.str "mirror")=aa (.bl ag):=by kernel_rfl
@[simp]def VE:neD (.str "narrow") (.str "mirror")=aa (.bl ae):=by kernel_rfl
@[simp]def eqS_move_put:eqD (.str "move") (.str "put")=aa (.bl ag):=by kernel_rfl
@[simp]def neS_move_put:neD (.str "move") (.str "put")=aa (.bl ae):=by kernel_rfl
@[simp]def aHd:eqD (.str "move") (.str "widen")=aa (.bl ag):=by kernel_rfl
@[simp]def aFg:neD (.str "move") (.str "widen")=aa (.bl ae):=by kernel_rfl
@[simp]def aBw:eqD (.str "move") (.str "narrow")=aa (.bl ag):=by kernel_rfl
@[simp]def aBp:neD (.str "move") (.str "narrow")=aa (.bl ae):=by kernel_rfl
@[simp]def eqS_move_move:eqD (.str "move") (.str "move")=aa (.bl ae):=by kernel_rfl
@[simp]def neS_move_move:neD (.str "move") (.str "move")=aa (.bl ag):=by kernel_rfl
@[simp]def aAi:eqD (.str "move") (.str "stretch")=aa (.bl ag):=by kernel_rfl
@[simp]def ZC:neD (.str "move") (.str "stretch")=aa (.bl ae):=by kernel_rfl
@[simp]def aBx:eqD (.str "move") (.str "mirror")=aa (.bl ag):=by kernel_rfl
@[simp]def aBq:neD (.str "move") (.str "mirror")=aa (.bl ae):=by kernel_rfl
@[simp]def aBt:eqD (.str "stretch") (.str "put")=aa (.bl ag):=by kernel_rfl
@[simp]def aBm:neD (.str "stretch") (.str "put")=aa (.bl ae):=by kernel_rfl
@[simp]def VY:eqD (.str "stretch") (.str "widen")=aa (.bl ag):=by kernel_rfl
@[simp]def VC:neD (.str "stretch") (.str "widen")=aa (.bl ae):=by kernel_rfl
@[simp]def SE:eqD (.str "stretch") (.str "narrow")=aa (.bl ag):=by kernel_rfl
@[simp]def QU:neD (.str "stretch") (.str "narrow")=aa (.bl ae):=by kernel_rfl
@[simp]def aAg:eqD (.str "stretch") (.str "move")=aa (.bl ag):=by kernel_rfl
@[simp]def ZA:neD (.str "stretch") (.str "move")=aa (.bl ae):=by kernel_rfl
@[simp]def PB:eqD (.str "stretch") (.str "stretch")=aa (.bl ae):=by kernel_rfl
@[simp]def OZ:neD (.str "stretch") (.str "stretch")=aa (.bl ag):=by kernel_rfl
@[simp]def SF:eqD (.str "stretch") (.str "mirror")=aa (.bl ag):=by kernel_rfl
@[simp]def QV:neD (.str "stretch") (.str "mirror")=aa (.bl ae):=by kernel_rfl
@[simp]def aHe:eqD (.str "mirror") (.str "put")=aa (.bl ag):=by kernel_rfl
@[simp]def aFh:neD (.str "mirror") (.str "put")=aa (.bl ae):=by kernel_rfl
@[simp]def aAj:eqD (.str "mirror") (.str "widen")=aa (.bl ag):=by kernel_rfl
@[simp]def ZD:neD (.str "mirror") (.str "widen")=aa (.bl ae):=by kernel_rfl
@[simp]def WB:eqD (.str "mirror") (.str "narrow")=aa (.bl ag):=by kernel_rfl
@[simp]def VF:neD (.str "mirror") (.str "narrow")=aa (.bl ae):=by kernel_rfl
@[simp]def aBy:eqD (.str "mirror") (.str "move")=aa (.bl ag):=by kernel_rfl
@[simp]def aBr:neD (.str "mirror") (.str "move")=aa (.bl ae):=by kernel_rfl
@[simp]def SH:eqD (.str "mirror") (.str "stretch")=aa (.bl ag):=by kernel_rfl
@[simp]def QX:neD (.str "mirror") (.str "stretch")=aa (.bl ae):=by kernel_rfl
@[simp]def WC:eqD (.str "mirror") (.str "mirror")=aa (.bl ae):=by kernel_rfl
@[simp]def VG:neD (.str "mirror") (.str "mirror")=aa (.bl ag):=by kernel_rfl
@[simp] theorem fldG_eq(z:List (Nat×Nat))(f:FE)(ds:List Sl):fldG z f ds=(f ds).bind (fldD z):=rfl
@[simp] theorem fldD_ins(z:List (Nat×Nat))(t:Nat)(es:List D):fldD z (.ins t es)=(z.lookup t).bind λi=>es[i]?:=rfl
@[simp] theorem methV_eq(n:Nat)(cs:List Nat)(F:Nat->List D->Option Ret)(fo:FE)(g:FA)(ds:List Sl):methV n cs F fo g ds=(fo ds).bind λo=>(g ds).bind λl=>(methR n cs F o l).bind retV:=rfl
@[simp] theorem methF_eq(n:Nat)(cs:List Nat)(F:Nat->List D->Option Ret)(fo:FE)(g:FA)(ds:List Sl):methF n cs F fo g ds=(fo ds).bind λo=>(g ds).bind λl=>(methR n cs F o l).bind retF:=rfl
@[simp] theorem makeG_eq(t n:Nat)(G:List D->Option (List D))(g:FA)(ds:List Sl):makeG t n G g ds=(g ds).bind λl=>if l.length=n/\flats l=ae then (G l).map (D.ins t)else ac:=rfl
@[simp] theorem retDG_eq(f:FE)(ds:List Sl):retDG f ds=(f ds).map λd=>.rt (.val d):=rfl
abbrev Rw:=Option Int×Option Int×Option Int
noncomputable def rwD(r:Rw):D:=.tup [oi r.1,oi r.2.1,oi r.2.2]
noncomputable def has3(r:Rw)(p:Int):Bool:=hasS (r.1,r.2.1) p
def ok3(r:Rw):Prop:=okS (r.1,r.2.1)
@[simp]def rwD_0 r:ixD (rwD r) (.int 0)=aa (oi r.1):=ixT0 _ _
@[simp]def rwD_1 r:ixD (rwD r) (.int 1)=aa (oi r.2.1):=ixT1 _ _ _
@[simp]def rwD_2 r:ixD (rwD r) (.int 2)=aa (oi r.2.2):=ixT2 _ _ _ _
@[simp]def rwD_flat r:flat (rwD r)=ae:=by simp[rwD]
@[simp]def rwD_tupG h r ds:tupG 3 h (rwD r) ds=h [oi r.1,oi r.2.1,oi r.2.2] ds:=by simp[rwD]
def yI(l:List Rw):flats (l.map rwD)=ae:=by
 induction l with
 |nil=>simp
 |cons a r b=>simp[b]
def NJ(h:0<n):ixN n (-1)=aa (n-1):=by
 unfold ixN;rw[if_neg$ by decide,if_pos$ by lia];congr 1
 lia
def ahead(a b:Rw):Prop:=∃x y,a.2.1=aa x/\b.1=aa y/\x<=y
structure Ord(rows:List Rw):Prop where
 ok:∀r∈rows,ok3 r
 pw:rows.Pairwise ahead
def Tel(z:List Rw)(p v:Int):Prop:=∃r∈z,has3 r p=ae/\r.2.2=aa v
noncomputable def knit1(acc:List Rw)(r:Rw):List Rw:=match r.2.2 with
 |none=>acc
 |some v=>match acc with
   |[]=>[r]
   |q::t=>if q.2.1=r.1/\q.2.2=aa v then (q.1,r.2.1,aa v)::t else r::q::t
noncomputable def knitF(rows:List Rw):List Rw:=(rows.foldl knit1 []).reverse
def ZM z r(R a b c:Sl)(J:z.length<16777216):nM [R,.own (z.map rwD).reverse,.v$ oi r.1,.v$ oi r.2.1,.v$ oi r.2.2]=aa (.nx [R,.own ((knit1 z r).map rwD).reverse,.v$ oi r.1,.v$ oi r.2.1,.v$ oi r.2.2]) ∨
  nM [R,.own (z.map rwD).reverse,.v$ oi r.1,.v$ oi r.2.1,.v$ oi r.2.2]=aa (.ct [R,.own ((knit1 z r).map rwD).reverse,.v$ oi r.1,.v$ oi r.2.1,.v$ oi r.2.2]):=by
 obtain⟨lo,d,v⟩:=r;unfold nM;cases v with
 |none=>right;simp[knit1]
 |some v=>
   left;cases z with
   |nil=>have e:D.tup [oi lo,oi d,.int v]=rwD (lo,d,aa v):=rfl;simp[knit1,e]
   |cons q t=>
     have last:ixD (.lst$ (t.map rwD).reverse++[rwD q]) (.int$ -1)=aa (rwD q):=aGd _ _;have le:ixN (t.length+1) (-1)=aa t.length:=by rw[NJ$ by lia];rfl
     have f:t.length+1<16777216:=by simpa using J
     have i:∀x:Option Int,eqD (oi x) (D.int v)=aa (.bl$ decide (x=aa v)):=λx=>eqD_oi x$ aa v;by_cases g:q.2.1=lo
     . by_cases h:q.2.2=aa v
       . have e:D.tup [oi q.1,oi d,.int v]=rwD (q.1,d,aa v):=rfl;simp[knit1,g,h,last,le,i,e]
       . have e:D.tup [oi lo,oi d,.int v]=rwD (lo,d,aa v):=rfl;simp[knit1,g,h,last,le,i,f,e]
     . have e:D.tup [oi lo,oi d,.int v]=rwD (lo,d,aa v):=rfl;simp[knit1,g,last,le,f,e]
def IC z r:(knit1 z r).length<=z.length+1:=by
 unfold knit1;split
 . lia
 . split
   . simp
   . split<;>simp
theorem IA R:∀(z J:List Rw) a b c,J.length+z.length<16777216 →
  ∃a' Y U,jM (tupG 3$ zR (zM 2)$ zR (zM 3)$ zR (zM 4) tgNil) nM (z.map rwD) [R,.own (J.map rwD).reverse,a,b,c]=aa (.nx [R,.own ((z.foldl knit1 J).map rwD).reverse,a',Y,U])
 |[],J,a,b,c,_=>⟨a,b,c,rfl⟩
 |r::z,J,a,b,c,h=>by simp only[aK]at h;have f:=IC J r;obtain⟨a',Y,U,d⟩:=IA R z (knit1 J r) (.v$ oi r.1) (.v$ oi r.2.1) (.v$ oi r.2.2) (by omega);refine⟨a',Y,U,?_⟩;rcases ZM J r R a b c (by omega)with e|e<;>simp[jM,e,d]
def JT z(h:z.length<16777216):gW [.lst$ z.map rwD]=aa (.fresh$ (knitF z).map rwD):=by obtain⟨a,b,c,e⟩:=IA (.v$ .lst$ z.map rwD) z [] .no .no .no (by simpa using h);simp only[List.reverse_nil,dO]at e;unfold gW runG uA;have d:=yI$ knitF z;unfold knitF at d ⊢;rw[aCb]at d ⊢;simp[args,e,d]
def IB z:(knitF z).length<=z.length:=by
 unfold knitF;rw[nI];have:∀(z a:List Rw),(z.foldl knit1 a).length<=a.length+z.length:=by
  intro z;induction z with
  |nil=>intro a;simp
  |cons r t b=>
    intro a;have:=b$ knit1 a r;have:=IC a r;simp only[cK,aK]
    lia
 have:=this z [];simpa using this
noncomputable def adjOk:List Rw->Prop
 |b::a::t=>¬(a.2.1=b.1/\a.2.2=b.2.2)/\adjOk (a::t)
 |_=>True
structure KI(acc:List Rw):Prop where
 ok:∀r∈acc,ok3 r
 pw:acc.Pairwise λb a=>ahead a b
 val:∀r∈acc,r.2.2≠none
 adj:adjOk acc
theorem KI.nil:KI []:=⟨(λ_ h=>nomatch h),List.Pairwise.nil,(λ_ h=>nomatch h),trivial⟩
def jI r p:has3 r p=ae↔(∀a,r.1=aa a->a<=p)/\(∀b,r.2.1=aa b->p<b):=xZ _ _
def RJ(k:KI acc)(ho:ok3 r)(ha:∀a∈acc,ahead a r):KI (knit1 acc r)/\(∀r',ahead r r'->(∀a∈acc,ahead a r')->∀a∈knit1 acc r,ahead a r')/\∀p v,Tel (knit1 acc r) p v↔Tel acc p v\/(has3 r p=ae/\r.2.2=aa v):=by
 obtain⟨lo,bh,w⟩:=r;cases w with
 |none=>refine⟨k,λr' _ h=>h,λp v=>⟨.inl,λh=>h.elim id λz=>by simp at z⟩⟩
 |some w=>
   cases acc with
   |nil=>
     refine⟨⟨?_,?_,?_,trivial⟩,?_,?_⟩
     . intro x hx;simp[knit1]at hx;subst hx;exact ho
     . simp[knit1]
     . intro x hx;simp[knit1]at hx;subst hx;simp
     . intro r' h1 _ a h;simp[knit1]at h;subst h;exact h1
     . intro p v;simp[knit1,Tel]
   |cons q t=>
     obtain⟨x,y,hx,hy,hxy⟩:=ha q aP;simp only at hy;have pw:=bI.mp k.pw;by_cases hm:q.2.1=lo/\q.2.2=aa w
     . have e:knit1 (q::t) (lo,bh,aa w)=(q.1,bh,aa w)::t:=by simp [knit1,hm.1,hm.2]
       rw[e];have hn:∀p,has3 (q.1,bh,aa w) p=ae↔has3 q p=ae\/has3 (lo,bh,aa w) p=ae:=by
        intro p;rw[jI,jI,jI];constructor
        . rintro ⟨h1,h2⟩;by_cases hp:p<x
          . exact .inl ⟨h1,λb hb=>by rw[hx]at hb;cases hb;exact hp⟩
          . exact .inr ⟨λa h=>by rw[hy]at h;cases h;lia,h2⟩
        . rintro (⟨h1,h2⟩|⟨h1,h2⟩)
          . refine ⟨h1,λb hb=>?_⟩;have:=h2 x hx;have:=ho y b hy hb
            lia
          . refine ⟨λa h=>?_,h2⟩;have:=k.ok q aP a x h hx;have:=h1 y hy
            lia
       refine⟨⟨?_,?_,?_,?_⟩,?_,?_⟩
       . intro z hz;rcases aA.mp hz with rfl|hz
         . intro a b h1 h2;have:=k.ok q aP a x h1 hx;have:=ho y b hy h2
           lia
         . exact k.ok z$ aJ _ hz
       . refine bI.mpr ⟨λa h=>?_,pw.2⟩;exact pw.1 a h
       . intro z hz;rcases aA.mp hz with rfl|hz
         . simp
         . exact k.val z$ aJ _ hz
       . have ka:=k.adj;cases t with
         |nil=>trivial
         |cons a t=>refine⟨λh=>ka.1 ⟨h.1,?_⟩,ka.2⟩;rw[hm.2];exact h.2
       . intro r' h1 h2 a h;rcases aA.mp h with rfl|h
         . exact h1
         . exact h2 a$ aJ _ h
       . intro p v;constructor
         . rintro ⟨z,hz,h1,h2⟩;rcases aA.mp hz with rfl|hz
           . rcases (hn p).mp h1 with h3|h3
             . exact .inl ⟨q,aP,h3,hm.2.trans h2⟩
             . exact .inr ⟨h3,h2⟩
           . exact .inl ⟨z,aJ _ hz,h1,h2⟩
         . rintro (⟨z,hz,h1,h2⟩|⟨h1,h2⟩)
           . rcases aA.mp hz with rfl|hz
             . exact⟨_,aP,(hn p).mpr$ .inl h1,by rw[hm.2]at h2;exact h2⟩
             . exact⟨z,aJ _ hz,h1,h2⟩
           . exact⟨_,aP,(hn p).mpr$ .inr h1,h2⟩
     . have e:knit1 (q::t) (lo,bh,aa w)=(lo,bh,aa w)::q::t:=by simp only [knit1];rw [if_neg hm]
       rw[e];refine⟨⟨?_,bI.mpr ⟨ha,k.pw⟩,?_,hm,k.adj⟩,?_,?_⟩
       . intro z hz;rcases aA.mp hz with rfl|hz
         . exact ho
         . exact k.ok z hz
       . intro z hz;rcases aA.mp hz with rfl|hz
         . simp
         . exact k.val z hz
       . intro r' h1 h2 a h;rcases aA.mp h with rfl|h
         . exact h1
         . exact h2 a h
       . intro p v;constructor
         . rintro ⟨z,hz,h1,h2⟩;rcases aA.mp hz with rfl|hz
           . exact .inr ⟨h1,h2⟩
           . exact .inl ⟨z,hz,h1,h2⟩
         . rintro (⟨z,hz,h1,h2⟩|⟨h1,h2⟩)
           . exact⟨z,aJ _ hz,h1,h2⟩
           . exact⟨_,aP,h1,h2⟩
theorem kL:∀J U,KI U->Ord J->(∀a∈U,∀r∈J,ahead a r)->KI (J.foldl knit1 U)/\∀p v,Tel (J.foldl knit1 U) p v↔Tel U p v\/Tel J p v
 |[],U,k,_,_=>⟨k,λp v=>⟨.inl,λh=>h.elim id λ⟨r,Y,_⟩=>nomatch Y⟩⟩
 |r::J,U,k,o,h=>by
   have pw:=bI.mp o.pw;obtain⟨m,q,j⟩:=RJ k (o.ok r aP) λa g=>h a g r aP;obtain⟨l,i⟩:=kL J (knit1 U r) m ⟨λz c=>o.ok z$ aJ _ c,pw.2⟩ λa g f d=>q f (pw.1 f d) (λb n=>h b n f$ aJ _ d) a g;refine⟨l,λp v=>?_⟩;show Tel (J.foldl knit1$ knit1 U r) p v↔_;rw[i,j];constructor
   . rintro ((h|⟨h,e⟩)|⟨z,c,h⟩)
     . exact .inl h
     . exact .inr ⟨r,aP,h,e⟩
     . exact .inr ⟨z,aJ _ c,h⟩
   . rintro (h'|⟨z,c,h'⟩)
     . exact .inl$ .inl h'
     . rcases aA.mp c with rfl|c
       . exact .inl$ .inr h'
       . exact .inr ⟨z,c,h'⟩
structure MapF(ps:List Rw):Prop where
 ord:Ord ps
 val:∀r∈ps,r.2.2≠none
 adj:∀(i:Nat) (a b:Rw),ps[i]?=some a->ps[i+1]?=some b->¬(a.2.1=b.1/\a.2.2=b.2.2)
theorem IT:∀{l:List Rw},adjOk l->∀i b a,l[i]?=aa b->l[i+1]?=aa a->¬(a.2.1=b.1/\a.2.2=b.2.2)
 |[],_,i,b,a,e,_=>by simp at e
 |[x],_,i,b,a,e,z=>by simp at z
 |x::y::t,h,0,b,a,e,z=>by simp at e z;subst e z;exact h.1
 |x::y::t,h,i+1,b,a,e,z=>IT h.2 i b a (by simpa using e) (by simpa using z)
def KI.map(k:KI z):MapF z.reverse:=by
 refine⟨⟨λr c=>k.ok r$ cR.mp c,rF.mpr k.pw⟩,λr c=>k.val r$ cR.mp c,λi a b e d=>?_⟩;have f:=(bC.mp d).1;rw[nI]at f;rw[List.getElem?_reverse$ by lia]at e d;refine IT k.adj (z.length-1-(i+1)) b a d ?_;rw[<-e];congr 1
 lia
def LN:Tel l.reverse p v↔Tel l p v:=⟨λ⟨r,h,q⟩=>⟨r,cR.mp h,q⟩,λ⟨r,h,q⟩=>⟨r,cR.mpr h,q⟩⟩
def vS(o:Ord z):MapF (knitF z):=(kL z [] KI.nil o λ_ h=>nomatch h).1.map
def vW(o:Ord z) p v:Tel (knitF z) p v↔Tel z p v:=by unfold knitF;rw[LN,(kL z [] KI.nil o λ_ h=>nomatch h).2];exact⟨λh=>h.elim (λ⟨r,J,_⟩=>nomatch J) id,.inr⟩
noncomputable def valL(rows:List Rw)(p:Int):Option Int:=rows.foldl (λt r=>if has3 r p=ae then r.2.2 else t) ac
def wG(h:ahead a b)(h1:has3 a p=ae)(h2:has3 b p=ae):False:=by
 obtain⟨x,y,e,c,d⟩:=h;rw[jI]at h1 h2;have:=h1.2 x e;have:=h2.1 y c
 lia
def XH{J:List Rw}(h:∀r∈J,has3 r p=ag) t:J.foldl (λt r=>if has3 r p=ae then r.2.2 else t) t=t:=by
 induction J generalizing t with
 |nil=>rfl
 |cons r J a=>rw[cK,h r aP];exact a (λz b=>h z$ aJ _ b) _
def jJ(o:Ord J) p v:valL J p=aa v↔Tel J p v:=by
 have c:∀(J:List Rw),Ord J->∀t:Option Int,J.foldl (λt r=>if has3 r p=ae then r.2.2 else t) t=(match J.find? (λr=>has3 r p)with|some r=>r.2.2|none=>t):=by
  intro J;induction J with
  |nil=>intro _ t;rfl
  |cons r J m=>
    intro o t;have pw:=bI.mp o.pw;rw[cK];cases h:has3 r p with
    |true=>
      rw[pQ$ by exact h];simp only[if_true];exact XH (λz d=>by
       cases hz':has3 z p with
       |false=>rfl
       |true=>exact(wG (pw.1 z d) h hz').elim) _
    |false=>rw[lI$ by simpa using h];simp only[bV,if_false];exact m ⟨λz d=>o.ok z$ aJ _ d,pw.2⟩ t
 unfold valL;rw[c J o ac];constructor
 . intro h;cases U:J.find? (λr=>has3 r p)with
   |none=>rw[U]at h;cases h
   |some r=>rw[U]at h;exact⟨r,fW U,by simpa using nB U,h⟩
 . rintro ⟨r,g,f,q⟩;cases U:J.find? (λr=>has3 r p)with
   |none=>have:=tL.mp U r g;exact(this f).elim
   |some b=>
     have l:has3 b p=ae:=by simpa using nB U
     have n:=fW U;have:b=r:=by
      by_cases e:b=r
      . exact e
      . exfalso;have pw:=o.pw;rcases mT.mp g with ⟨i,hi,rfl⟩
        rcases mT.mp n with⟨j,k,rfl⟩
        rcases uY i j with a|a|a
        . exact wG (bX.mp pw i j hi k a) f l
        . subst a;exact e rfl
        . exact wG (bX.mp pw j i k hi a) l f
     rw[this];exact q
def GV(z:Ord a)(ob:Ord b)(h:∀v,Tel a p v↔Tel b p v):valL a p=valL b p:=by
 cases J:valL a p with
 |some v=>exact((jJ ob p v).mpr$ (h v).mp$ (jJ z p v).mp J).symm
 |none=>
   cases U:valL b p with
   |none=>rfl
   |some v=>have:=(jJ z p v).mpr$ (h v).mpr$ (jJ ob p v).mp U;rw[J]at this;cases this
open Builtin.Int (intBits)
structure Drawn(rows:List Rw)(s:Int):Prop where
 ord:Ord rows
 fin:∀r∈rows,∃lo bh,r.1=some lo/\r.2.1=some bh/\bh<=s
def ints_at ns(z:0<=k)(h1:k<ns.length):ixD (.lst$ ns.map D.int) (.int k)=aa (.int$ cel ns k.toNat):=by
 have a:k.toNat<ns.length:=by lia
 rw[yT _ z$ by simpa using h1];simp[a,cel,List.getD]
def XF i:fZ [.int i]=aa (.val$ .bl ae):=by unfold fZ runG pD;simp[args]
@[simp] theorem methR_ins(n:Nat)(cs:List Nat)(F:Nat->List D->Option Ret)(t:Nat)(es l:List D):methR n cs F (.ins t es) l=if t∈cs/\l.length=n then F t (.ins t es::l)else ac:=rfl
open Builtin.Str
noncomputable def txS(cs:List Nat):Str:=⟨cs.toArray⟩
@[simp] theorem aFq cs:(txS cs).cps.toList=cs:=rfl
@[simp]def VI cs:(txS cs).length=cs.length:=by simp[txS,Str.length]
def txS_inj:txS a=txS b↔a=b:=⟨λh=>by have:=congrArg (λx:Str=>x.cps.toList) h;simpa using this,λh=>by rw[h]⟩
@[simp]def TN a b:txS a++txS b=txS (a++b):=Str.ext' (by rw[Str.cps_append];simp[txS])
def in_one cs c:inS (.str$ txS [c]) (.str$ txS cs)=aa (.bl$ decide (c∈cs)):=by have a:txS [c]=(⟨#[c]⟩:Str):=rfl;have e:=StrLaws.found_one (txS cs) c;rw[aFq]at e;rw[a];show aa (D.bl _)=_;rw[e]
def len_tx cs(h:cs.length<=16777216):lenD [.str$ txS cs]=aa (.int cs.length):=by simp[lenD,h]
open Builtin.Int (intBits)
theorem yJ{J:Type} f h:∀(xs:List J),(∀x∈xs,∃z,ga (f x) s0=aa z/\fe z=aa (h x))->compL ga (λ_=>aa ae) fe s0 (xs.map f)=aa (xs.map h)
 |[],_=>rfl
 |x::xs,H=>by obtain⟨z,d,c⟩:=H x aP;have a:=yJ (ga:=ga) (fe:=fe) (s0:=s0) f h xs λy b=>H y$ aJ _ b;simp only[aQ,compL,d,c,a,aZ,if_true,cW]
def vJ(o:Ord rows) p:valL rows p=(match rows.find? (λr=>has3 r p)with|some r=>r.2.2|none=>ac):=by
 cases hf:rows.find? (λr=>has3 r p)with
 |none=>
   cases hv:valL rows p with
   |none=>rfl
   |some v=>obtain⟨r,hr,h1,_⟩:=(jJ o p v).mp hv;exact(tL.mp hf r hr h1).elim
 |some r=>
   have hm:=fW hf;have h3:has3 r p=ae:=by simpa using nB hf
   cases hw:r.2.2 with
   |some v=>exact((jJ o p v).mpr ⟨r,hm,h3,hw⟩).trans hw.symm
   |none=>
     cases hv:valL rows p with
     |none=>exact hw.symm
     |some v=>
       obtain⟨r',hr',h1,h2⟩:=(jJ o p v).mp hv;have:r'=r:=by
        by_cases e:r'=r
        . exact e
        . exfalso;rcases mT.mp hr' with ⟨i,hi,rfl⟩
          rcases mT.mp hm with⟨j,hj,rfl⟩
          rcases uY i j with hlt|hlt|hlt
          . exact wG (bX.mp o.pw i j hi hj hlt) h1 h3
          . subst hlt;exact e rfl
          . exact wG (bX.mp o.pw j i hj hi hlt) h3 h1
       rw[this,hw]at h2;cases h2
noncomputable def runsR(here:Option Int)(b:Bool):List Rw->List Rw
 |[]=>if here≠ac\/b=ae then [(here,ac,ac)]else []
 |r::t=>(if r.1≠here then [(here,r.1,ac)]else [])++r::runsR r.2.1 ag t
noncomputable def jA(ps:List Rw):List Rw:=runsR ac ae ps
noncomputable def runsB(here:Option Int):List Rw->List Rw
 |[]=>[]
 |r::t=>(if r.1≠here then [(here,r.1,ac)]else [])++r::runsB r.2.1 t
noncomputable def lastB(here:Option Int):List Rw->Option Int
 |[]=>here
 |r::t=>lastB r.2.1 t
theorem CK:∀ps here b,runsR here b ps=runsB here ps++(if lastB here ps≠ac\/(b=ae/\ps=[])then [(lastB here ps,ac,ac)]else [])
 |[],here,b=>by simp[runsR,runsB,lastB]
 |r::t,here,b=>by rw[runsR,CK t];simp[runsB,lastB]
theorem vV:∀ps here,(runsB here ps).length<=2*ps.length
 |[],here=>by simp[runsB]
 |r::t,here=>by have:=vV t r.2.1;rw[runsB];split<;>simp<;>omega
theorem vK R:∀ps z here a b c,z.length+2*ps.length<16777216->∃Y U J,jM (tupG 3$ zR (zM 3)$ zR (zM 4)$ zR (zM 5) tgNil) gV (ps.map rwD) [R,.own$ z.map rwD,.v$ oi here,a,b,c]=aa (.nx [R,.own$ (z++runsB here ps).map rwD,.v$ oi$ lastB here ps,Y,U,J])
 |[],z,here,a,b,c,_=>⟨a,b,c,by simp[runsB,lastB,jM]⟩
 |r::ps,z,here,a,b,c,h=>by
   simp only[aK]at h;have k:D.tup [oi here,oi r.1,.non]=rwD (here,r.1,ac):=rfl;have i:D.tup [oi r.1,oi r.2.1,oi r.2.2]=rwD r:=rfl;have g:z.length<16777216:=by omega
   have j:z.length+1<16777216:=by omega
   by_cases f:r.1=here
   . subst f;obtain ⟨Y,U,J,e⟩:=vK R ps (z++[r]) r.2.1 (.v (oi r.1)) (.v (oi r.2.1)) (.v (oi r.2.2)) (by simp;omega);refine ⟨Y,U,J,?_⟩;simp only [dC,aQ,dO,bL,dP,dB]at e;have d:gV [R,.own (z.map rwD),.v (oi r.1),.v (oi r.1),.v (oi r.2.1),.v (oi r.2.2)]=aa (.nx [R,.own (z.map rwD++[rwD r]),.v (oi r.2.1),.v (oi r.1),.v (oi r.2.1),.v (oi r.2.2)]):=by simp [gV,g,i]
     simp[jM,d,e,runsB,lastB]
   . obtain ⟨Y,U,J,e⟩:=vK R ps (z++[(here,r.1,ac),r]) r.2.1 (.v (oi r.1)) (.v (oi r.2.1)) (.v (oi r.2.2)) (by simp;omega);refine ⟨Y,U,J,?_⟩;simp only [dC,aQ,dO,bL,dP,dB]at e;have d:gV [R,.own (z.map rwD),.v (oi here),.v (oi r.1),.v (oi r.2.1),.v (oi r.2.2)]=aa (.nx [R,.own (z.map rwD++[rwD (here,r.1,ac),rwD r]),.v (oi r.2.1),.v (oi r.1),.v (oi r.2.1),.v (oi r.2.2)]):=by simp [gV,g,j,k,i,f]
     simp[jM,d,e,runsB,lastB,f]
def JF ps(h:ps.length<=1000000):fH [.lst$ ps.map rwD]=aa (.fresh$ (jA ps).map rwD):=by
 obtain⟨a,b,c,e⟩:=vK (.v$ .lst$ ps.map rwD) ps [] ac .no .no .no (by simp;lia);have g:=vV ps ac;have z:(runsB ac ps).length<16777216:=by lia
 simp only[dO,dB,JQ]at e;have d:=yI$ jA ps;unfold jA at d ⊢;rw[CK]at d ⊢;unfold fH runG pB;have f:D.tup [oi$ lastB ac ps,.non,.non]=rwD (lastB ac ps,ac,ac):=rfl;cases J:lastB ac ps with
 |some x=>rw[J]at e f d;simp at d f;simp[args,e,z,f,d]
 |none=>
   rw[J]at e f d;cases ps with
   |nil=>simp[runsB]at e d;simp[args,e,runsB,rwD]
   |cons r t=>simp at d;simp only[aQ,JQ]at e;simp[args,e,d]
noncomputable def befo(p:Int):Option Int->Bool
 |some a=>decide (p<a)
 |none=>ag
noncomputable def inso(p:Int):Option Int->Bool
 |some b=>decide (p<b)
 |none=>ae
noncomputable def lookF(p:Int)(here:Option Int):List Rw->Rw
 |[]=>(here,ac,ac)
 |r::t=>if befo p r.1=ae then (here,r.1,ac)
   else if inso p r.2.1=ae then r else lookF p r.2.1 t
theorem HY p:∀ps here b,Ord ps->(∀r,ps.head?=aa r->r.1=ac->here=ac)->(∀h,here=aa h->h<=p)->(here≠ac\/b=ae)->(runsR here b ps).find? (λr=>has3 r p)=aa (lookF p here ps)
 |[],here,b,_,_,h,J=>by
   have:has3 (here,ac,ac) p=ae:=by rw[jI];exact⟨h,λb e=>by cases e⟩
   simp[runsR,J,lookF,this]
 |r::t,here,b,o,U,h,J=>by
   obtain⟨lo,j,w⟩:=r;have pw:=bI.mp o.pw;rw[runsR,lookF];simp only;by_cases g:befo p lo=ae
   . rw [if_pos g];cases lo with
     |none=>simp[befo]at g
     |some a=>
       have i:p<a:=by simpa[befo]using g
       have c:(aa a:Option Int)≠here:=λe=>by have:=h a e.symm;omega
       have n:has3 (here,aa a,ac) p=ae:=by rw[jI];exact⟨h,λb e=>by cases e;exact i⟩
       rw[if_pos c];simp[n]
   . rw [if_neg g];have d:∀a,lo=aa a->a<=p:=λa e=>by
      subst e;have:¬p<a:=by simpa[befo]using g
      omega
     have skip:(if lo≠here then [((here,lo,ac):Rw)]else []).find? (λr=>has3 r p)=ac:=by
      split
      . rename_i c;have:has3 (here,lo,ac) p=ag:=by
         rw[oP];intro z;rw[jI]at z;cases lo with
         |none=>
           cases here with
           |none=>exact c rfl
           |some x=>have:=U _ rfl rfl;cases this
         |some a=>have:=z.2 a rfl;have:=d a rfl;omega
        simp[this]
      . rfl
     rw[List.find?_append,skip];simp only[Option.none_or];by_cases f:inso p j=ae
     . rw [if_pos f];have:has3 (lo,j,w) p=ae:=by rw[jI];refine⟨d,λb e=>?_⟩;simp only at e;subst e;simpa[inso]using f
       rw[pQ$ by exact this]
     . rw [if_neg f];cases j with
       |none=>simp[inso]at f
       |some b=>
         have i:b<=p:=by
          have:¬p<b:=by simpa[inso]using f
          omega
         have:has3 (lo,aa b,w) p=ag:=by rw[oP];intro z;rw[jI]at z;have:=z.2 b rfl;omega
         rw[lI$ by simpa using this];exact HY p t (aa b) ag ⟨λz m=>o.ok z$ aJ _ m,pw.2⟩ (λl e q=>by
          obtain⟨x,y,_,k,_⟩:=pw.1 l$ OW e;rw[q]at k
          cases k) (λx e=>by cases e;exact i) (.inl$ by simp)
def aFp(o:Ord ps) p:(jA ps).find? (λr=>has3 r p)=aa (lookF p ac ps):=HY p ps ac ae o (λ_ _ _=>rfl) (λh e=>by cases e)$ .inr rfl
theorem NE p:∀ps here,Ord ps->(lookF p here ps).2.2=(match ps.find? (λr=>has3 r p)with|some r=>r.2.2|none=>ac)
 |[],here,_=>rfl
 |r::t,here,o=>by
   have pw:=bI.mp o.pw;obtain⟨lo,c,w⟩:=r;rw[lookF];simp only;by_cases g:befo p lo=ae
   . rw [if_pos g];cases lo with
     |none=>simp[befo]at g
     |some a=>
       have m:p<a:=by simpa[befo]using g
       have:((aa a,c,w)::t).find? (λr=>has3 r p)=ac:=by
        rw[tL];intro z d i;rw[jI]at i;rcases aA.mp d with rfl|d
        . have:=i.1 a rfl;omega
        . obtain⟨x,y,l,j,k⟩:=pw.1 z d;have:=i.1 y j;have:=o.ok _ aP a x rfl l;omega
       rw[this]
   . rw [if_neg g];have h:∀a,lo=aa a->a<=p:=λa e=>by
      subst e;have:¬p<a:=by simpa[befo]using g
      omega
     by_cases f:inso p c=ae
     . rw [if_pos f];have:has3 (lo,c,w) p=ae:=by rw[jI];refine⟨h,λb e=>?_⟩;simp only at e;subst e;simpa[inso]using f
       rw[pQ$ by exact this]
     . rw [if_neg f];have:has3 (lo,c,w) p=ag:=by
        rw[oP];intro z;rw[jI]at z;cases c with
        |none=>simp[inso]at f
        |some b=>
          have:=z.2 b rfl;have:¬p<b:=by simpa[inso]using f
          omega
       rw[lI$ by simpa using this];exact NE p t c ⟨λz d=>o.ok z$ aJ _ d,pw.2⟩
def xF ps:(jA ps).length<=2*ps.length+1:=by unfold jA;rw[CK];have:=vV ps ac;split<;>simp<;>lia
noncomputable def part1(s:Spn)(r:Rw):Option Rw:=(meetS (r.1,r.2.1) s).map λu=>(u.1,u.2,r.2.2)
noncomputable def qD(ps:List Rw)(s:Spn):List Rw:=ps.filterMap$ part1 s
theorem wL R s:∀ps J a b c d,J.length+ps.length<16777216->∃a' Y U d',jM (tupG 3$ zR (zM 3)$ zR (zM 4)$ zR (zM 5) tgNil) gI (ps.map rwD) [R,.v$ spD s,.own$ J.map rwD,a,b,c,d]=aa (.nx [R,.v$ spD s,.own$ (J++qD ps s).map rwD,a',Y,U,d'])
 |[],J,a,b,c,d,_=>⟨a,b,c,d,by simp[qD,jM]⟩
 |r::ps,J,a,b,c,d,h=>by
   simp only[aK]at h;have g:nC [.tup [oi r.1,oi r.2.1],spD s]=aa (.val$ oS$ meetS (r.1,r.2.1) s):=meet_eq (r.1,r.2.1) s;cases hm:meetS (r.1,r.2.1) s with
   |none=>
     rw[hm]at g;obtain⟨a',Y,U,d',i⟩:=wL R s ps J (.v$ oi r.1) (.v$ oi r.2.1) (.v$ oi r.2.2) (.v .non) (by omega);refine⟨a',Y,U,d',?_⟩;have f:gI [R,.v$ spD s,.own$ J.map rwD,.v$ oi r.1,.v$ oi r.2.1,.v$ oi r.2.2,d]=aa (.nx [R,.v$ spD s,.own$ J.map rwD,.v$ oi r.1,.v$ oi r.2.1,.v$ oi r.2.2,.v .non]):=by simp[gI,g,oS]
     have e:qD (r::ps) s=qD ps s:=by simp[qD,part1,hm]
     rw[e];simp[jM,f,i]
   |some u=>
     rw[hm]at g;obtain⟨a',Y,U,d',i⟩:=wL R s ps (J++[(u.1,u.2,r.2.2)]) (.v$ oi r.1) (.v$ oi r.2.1) (.v$ oi r.2.2) (.v$ spD u) (by simp;omega);refine⟨a',Y,U,d',?_⟩;have z:J.length<16777216:=by omega
     have j:D.tup [oi u.1,oi u.2,oi r.2.2]=rwD (u.1,u.2,r.2.2):=rfl;have f:gI [R,.v$ spD s,.own$ J.map rwD,.v$ oi r.1,.v$ oi r.2.1,.v$ oi r.2.2,d]=aa (.nx [R,.v$ spD s,.own$ J.map rwD++[rwD (u.1,u.2,r.2.2)],.v$ oi r.1,.v$ oi r.2.1,.v$ oi r.2.2,.v$ spD u]):=by simp[gI,g,oS,z,j]
     have e:qD (r::ps) s=(u.1,u.2,r.2.2)::qD ps s:=by simp[qD,part1,hm]
     rw[e];simp only[dC,aQ,dO,bL,dP,dB]at i ⊢;simp[jM,f,i]
def xC ps s:(qD ps s).length<=ps.length:=IZ _ _
def MQ ps s(h:ps.length<16777216):fL [.lst$ ps.map rwD,spD s]=aa (.fresh$ (qD ps s).map rwD):=by obtain⟨a,b,c,d,e⟩:=wL (.v$ .lst$ ps.map rwD) s ps [] .no .no .no .no (by simpa using h);simp only[dO,dB]at e;unfold fL runG oK;simp[args,e,yI]
def qX(h:part1 s r=aa z):ok3 z/\z.2.2=r.2.2/\(∀p,has3 z p=(has3 r p&&hasS s p))/\(∀x,r.2.1=aa x->∃U,z.2.1=aa U/\U<=x)/\(∀y,r.1=aa y->∃J,z.1=aa J/\y<=J)/\(∀x,s.2=aa x->∃U,z.2.1=aa U/\U<=x)/\(∀y,s.1=aa y->∃J,z.1=aa J/\y<=J):=by
 unfold part1 at h;cases hm:meetS (r.1,r.2.1) s with
 |none=>rw[hm]at h;cases h
 |some u=>
   rw[hm]at h;cases h;have c:=λp=>IH (r.1,r.2.1) s p;rw[hm]at c;refine⟨aFk hm,rfl,λp=>c p,?_,?_,?_,?_⟩
   all_goals (unfold meetS at hm;split at hm;(· cases hm);cases hm)
   . intro x b;rw [b];cases s.2 <;> simp [qO]
     lia
   . intro y a;rw [a];cases s.1 <;> simp [lateL]
     lia
   . intro x b;rw [b];cases r.2.1 <;> simp [qO]
     lia
   . intro y a;rw [a];cases r.1 <;> simp [lateL]
     lia
def QQ(h:part1 s r=ac) p:(has3 r p&&hasS s p)=ag:=by
 unfold part1 at h;have a:=IH (r.1,r.2.1) s p;cases hm:meetS (r.1,r.2.1) s with
 |none=>rw[hm]at a;exact a.symm
 |some u=>rw[hm]at h;cases h
def oR:r'∈qD ps s↔∃r∈ps,part1 s r=aa r':=oA
def HP(o:Ord ps) s:Ord (qD ps s):=by
 refine⟨λn h=>?_,?_⟩
 . obtain⟨r,_,h⟩:=oR.mp h;exact(qX h).1
 . unfold qD;rw[List.pairwise_filterMap];refine o.pw.imp λ{a b} c u k t j=>?_;obtain⟨x,y,i,f,g⟩:=c;obtain⟨e,m,q⟩:=(qX k).2.2.2.1 x i;obtain⟨d,l,p⟩:=(qX j).2.2.2.2.1 y f;exact⟨e,d,m,l,by lia⟩
def HN:Tel (qD ps s) p v↔hasS s p=ae/\Tel ps p v:=by
 constructor
 . rintro⟨f,h,a,d⟩;obtain⟨r,b,h⟩:=oR.mp h;obtain⟨_,e,c,_⟩:=qX h;rw[c p,bY]at a;exact⟨a.2,r,b,a.1,e▸d⟩
 . rintro ⟨g,r,b,a,d⟩;cases h:part1 s r with
   |none=>have:=QQ h p;rw[a,g]at this;cases this
   |some f=>obtain⟨_,e,c,_⟩:=qX h;exact⟨f,oR.mpr ⟨r,b,h⟩,by rw[c p,a,g];rfl,e.trans d⟩
noncomputable def loP(ps:List Rw):Option Int->List Rw
 |none=>[]
 |some a=>qD ps (ac,aa a)
noncomputable def hiP(ps:List Rw):Option Int->List Rw
 |none=>[]
 |some b=>qD ps (aa b,ac)
noncomputable def overF(ps:List Rw)(s:Spn)(v:Option Int):List Rw:=loP ps s.1++(s.1,s.2,v)::hiP ps s.2
def YQ(o:Ord ps)(h:a<b):(qD ps (ac,aa a)).length+(qD ps (aa b,ac)).length<=ps.length+1:=by
 induction ps with
 |nil=>simp[qD]
 |cons r t I=>
   have pw:=bI.mp o.pw;have H:Ord t:=⟨λz e=>o.ok z$ aJ _ e,pw.2⟩
   cases h1:part1 (ac,aa a) r with
   |none=>
     have l:qD (r::t) (ac,aa a)=qD t (ac,aa a):=by simp[qD,h1]
     have:(qD (r::t) (aa b,ac)).length<=(qD t (aa b,ac)).length+1:=by unfold qD;rw[gK];split<;>simp
     simp[aK]
     lia
   |some u=>
     have l:qD (r::t) (ac,aa a)=u::qD t (ac,aa a):=by simp[qD,h1]
     rw[l];cases h2:part1 (aa b,ac) r with
     |none=>
       have k:qD (r::t) (aa b,ac)=qD t (aa b,ac):=by simp[qD,h2]
       simp[aK]
       lia
     |some s=>
       have k:qD (r::t) (aa b,ac)=s::qD t (aa b,ac):=by simp[qD,h2]
       have F:qD t (ac,aa a)=[]:=by
        unfold qD;rw[List.filterMap_eq_nil_iff];intro z e;cases hz':part1 (ac,aa a) z with
        |none=>rfl
        |some G=>
          obtain⟨x,y,E,A,B⟩:=pw.1 z e;have d:=qX h2;have c:=qX hz';obtain⟨q,j,D⟩:=d.2.2.2.1 x E;obtain⟨n,g,w⟩:=d.2.2.2.2.2.2 b rfl;have:=d.1 n q g j;obtain⟨m,f,v⟩:=c.2.2.2.2.1 y A;obtain⟨p,i,C⟩:=c.2.2.2.2.2.1 a rfl;have:=c.1 m p f i
          lia
       rw[k,F];have:=xC t (aa b,ac);simp[aK,pX]
       lia
def MV(o:Ord ps) s(z:okS s) v:(overF ps s v).length<=ps.length+2:=by
 obtain⟨lo,c⟩:=s;unfold overF loP hiP;cases lo with
 |none=>
   cases c with
   |none=>simp
   |some b=>
     have:=xC ps (aa b,ac);simp
     lia
 |some a=>
   cases c with
   |none=>
     have:=xC ps (ac,aa a);simp
     lia
   |some b=>
     have:=YQ o$ z a b rfl rfl;simp
     lia
def MU(o:Ord ps) s(z:okS s) v:Ord (overF ps s v):=by
 obtain⟨lo,c⟩:=s;unfold overF;have l:∀r∈(loP ps lo),ok3 r/\∃a x,lo=aa a/\r.2.1=aa x/\x<=a:=by
  cases lo with
  |none=>intro r h;cases h
  |some a=>intro r h;obtain⟨q,_,h⟩:=oR.mp h;obtain⟨x,e,i⟩:=(qX h).2.2.2.2.2.1 a rfl;exact⟨(qX h).1,a,x,rfl,e,i⟩
 have g:∀r∈(hiP ps c),ok3 r/\∃b y,c=aa b/\r.1=aa y/\b<=y:=by
  cases c with
  |none=>intro r h;cases h
  |some b=>intro r h;obtain⟨q,_,h⟩:=oR.mp h;obtain⟨y,e,d⟩:=(qX h).2.2.2.2.2.2 b rfl;exact⟨(qX h).1,b,y,rfl,e,d⟩
 have p:Ord (loP ps lo):=by
  cases lo with
  |none=>exact⟨(λ_ h=>nomatch h),List.Pairwise.nil⟩
  |some a=>exact HP o _
 have n:Ord (hiP ps c):=by
  cases c with
  |none=>exact⟨(λ_ h=>nomatch h),List.Pairwise.nil⟩
  |some b=>exact HP o _
 refine⟨λr h=>?_,?_⟩
 . rcases bE.mp h with h|h
   . exact(l r h).1
   . rcases aA.mp h with rfl|h
     . exact z
     . exact(g r h).1
 . refine rX.mpr ⟨p.pw,bI.mpr ⟨λr h=>?_,n.pw⟩,λa t b j=>?_⟩
   . obtain⟨_,b,y,e,f,d⟩:=g r h;exact⟨b,y,e,f,d⟩
   . obtain ⟨_,x,k,e,f,i⟩:=l a t;rcases aA.mp j with rfl|j
     . exact⟨k,x,f,e,i⟩
     . obtain⟨_,y,m,w,u,d⟩:=g b j;have:=z x y e w;exact⟨k,m,f,u,by lia⟩
def aEr s(Y:okS s) v p w:Tel (overF ps s v) p w↔if hasS s p=ae then v=aa w else Tel ps p w:=by
 obtain⟨lo,f⟩:=s;have n:Tel (loP ps lo) p w↔(∃a,lo=aa a/\p<a)/\Tel ps p w:=by
  cases lo with
  |none=>exact⟨(λ⟨r,h,_⟩=>nomatch h),(λ⟨⟨a,e,_⟩,_⟩=>by cases e)⟩
  |some a=>show Tel (qD ps (ac,aa a)) p w↔_;rw[HN];simp[hasS]
 have m:Tel (hiP ps f) p w↔(∃b,f=aa b/\b<=p)/\Tel ps p w:=by
  cases f with
  |none=>exact⟨(λ⟨r,h,_⟩=>nomatch h),(λ⟨⟨a,e,_⟩,_⟩=>by cases e)⟩
  |some b=>show Tel (qD ps (aa b,ac)) p w↔_;rw[HN];simp[hasS]
 have l:Tel (overF ps (lo,f) v) p w↔Tel (loP ps lo) p w\/(hasS (lo,f) p=ae/\v=aa w)\/Tel (hiP ps f) p w:=by
  unfold overF;constructor
  . rintro ⟨r,h,d,c⟩;rcases bE.mp h with h|h
    . exact .inl ⟨r,h,d,c⟩
    . rcases aA.mp h with rfl|h
      . exact .inr$ .inl ⟨d,c⟩
      . exact .inr$ .inr ⟨r,h,d,c⟩
  . rintro (⟨r,h,d,c⟩|⟨d,c⟩|⟨r,h,d,c⟩)
    . exact⟨r,aY _ h,d,c⟩
    . exact⟨_,aI _ aP,d,c⟩
    . exact⟨r,aI _$ aJ _ h,d,c⟩
 rw[l,n,m];by_cases g:hasS (lo,f) p=ae
 . rw [if_pos g];have i:=(xZ _ _).mp g;constructor
   . rintro (⟨⟨a,e,J⟩,_⟩|⟨_,e⟩|⟨⟨b,e,U⟩,_⟩)
     . have:=i.1 a e;lia
     . exact e
     . have:=i.2 b e;lia
   . exact λe=>.inr$ .inl ⟨g,e⟩
 . rw [if_neg g];constructor
   . rintro (⟨_,h⟩|⟨e,_⟩|⟨_,h⟩)
     . exact h
     . exact(g e).elim
     . exact h
   . intro h;by_cases j:∃a,lo=aa a/\p<a
     . exact .inl ⟨j,h⟩
     . by_cases k:∃ b,f=aa b/\b<=p
       . exact .inr$ .inr ⟨k,h⟩
       . exfalso;apply g;rw [xZ];refine ⟨λa e=>?_,λb e=>?_⟩
         . exact pY.mp λz=>j ⟨a,e,z⟩
         . exact Int.not_le.mp λz=>k ⟨b,e,z⟩
def over_eq s v(h:ps.length<=1000000):gH [.lst$ ps.map rwD,spD s,oi v]=aa (.fresh$ (overF ps s v).map rwD):=by
 obtain⟨lo,e⟩:=s;have j:∀a:Int,fL [.lst$ ps.map rwD,.tup [.non,.int a]]=aa (.fresh$ (qD ps (ac,aa a)).map rwD):=λa=>MQ ps (ac,aa a) (by lia);have i:∀a:Int,fL [.lst$ ps.map rwD,.tup [.int a,.non]]=aa (.fresh$ (qD ps (aa a,ac)).map rwD):=λa=>MQ ps (aa a,ac) (by lia);have d:D.tup [oi lo,oi e,oi v]=rwD (lo,e,v):=rfl;have c:=yI$ overF ps (lo,e) v;unfold overF loP hiP at c ⊢;unfold gH runG nK;cases lo with
 |none=>
   cases e with
   |none=>simp at c d;simp[args,d]
   |some b=>
     have z:=xC ps (aa b,ac);have f:1+(qD ps (aa b,ac)).length<=16777216:=by lia
     simp at c d;simp[args,i,d,f,c]
 |some a=>
   have z:=xC ps (ac,aa a);have g:(qD ps (ac,aa a)).length<=16777216:=by lia
   have f:(qD ps (ac,aa a)).length<16777216:=by lia
   cases e with
   |none=>simp at c d;simp[args,j,d,g,f,c]
   |some b=>
     have l:=xC ps (aa b,ac);have k:(qD ps (ac,aa a)).length+1+(qD ps (aa b,ac)).length<=16777216:=by lia
     simp at c d;simp[args,j,i,d,g,f,k,c]
abbrev Rv:=Spn×Option Int
noncomputable def put1(ps:List Rw)(r:Rv):List Rw:=knitF$ overF ps r.1 r.2
def MF(m:MapF ps)(h:okS r.1):MapF (put1 ps r):=vS$ MU m.ord r.1 h r.2
def aDr(m:MapF ps)(h:okS r.1):(put1 ps r).length<=ps.length+2:=cS (IB _)$ MV m.ord r.1 h r.2
def aDq(m:MapF ps)(h:okS r.1) p w:Tel (put1 ps r) p w↔if hasS r.1 p=ae then r.2=aa w else Tel ps p w:=by unfold put1;rw[vW$ MU m.ord r.1 h r.2,aEr r.1 h r.2]
def put1_eq(m:MapF ps)(z:ps.length<=100000)(h:okS s):(gH [.lst$ ps.map rwD,spD s,oi v]=aa (.fresh$ (overF ps s v).map rwD))/\gW [.lst$ (overF ps s v).map rwD]=aa (.fresh$ (put1 ps (s,v)).map rwD):=
 ⟨over_eq s v$ by lia,JT _$ by have:=MV m.ord s h v;lia⟩
theorem MapF.nil:MapF []:=⟨⟨(λ_ h=>nomatch h),List.Pairwise.nil⟩,(λ_ h=>nomatch h),(λi a b h _=>by simp at h)⟩
theorem EF{U:Type} f p h:∀(xs:List U),(∀x∈xs,∃z,ga (f x) s0=aa z/\tt z=aa (p x)/\(p x=ae->fe z=aa (h x)))->compL ga tt fe s0 (xs.map f)=aa ((xs.filter p).map h)
 |[],_=>rfl
 |x::xs,H=>by
   obtain⟨z,c,b,e⟩:=H x aP;have a:=EF (ga:=ga) (tt:=tt) (fe:=fe) (s0:=s0) f p h xs λy d=>H y$ aJ _ d;cases J:p x with
   |true=>simp[compL,c,b,e J,a,J]
   |false=>simp[compL,c,b,a,J]
noncomputable def Til:Option Int->List Rw->Prop
 |_,[]=>False
 |here,r::rs=>r.1=here/\(∀h x,here=aa h->r.2.1=aa x->h<x)/\(r.2.1=ac->rs=[])/\∀x,r.2.1=aa x->Til (aa x) rs
theorem LL:∀ps here b,Ord ps->(∀r,ps.head?=aa r->(r.1=ac->here=ac)/\∀h l,here=aa h->r.1=aa l->h<=l)->(here≠ac\/b=ae)->Til here (runsR here b ps)
 |[],here,b,_,_,J=>by unfold runsR;rw[if_pos J];exact⟨rfl,(λ_ _ _ e=>nomatch e),λ_=>rfl,(λ_ e=>nomatch e)⟩
 |r::t,here,b,o,U,J=>by
   obtain⟨q,p⟩:=U r rfl;have pw:=bI.mp o.pw;have m:Ord t:=⟨λz n=>o.ok z$ aJ _ n,pw.2⟩
   have ok:=o.ok r aP;have a:Til r.1 (r::runsR r.2.1 ag t):=by
    refine⟨rfl,λh x d c=>ok h x d c,λe=>?_,λx e=>?_⟩
    . cases t with
      |nil=>rw[e];simp[runsR]
      |cons j w=>obtain⟨x,y,g,_⟩:=pw.1 j aP;rw[e]at g;cases g
    . rw[e];refine LL t (aa x) ag m (λj k=>?_) (.inl$ by simp);obtain⟨v,y,g,u,s⟩:=pw.1 j$ OW k;rw[e]at g;cases g;rw[u];exact⟨(λz=>nomatch z),λh l d c=>by cases d;cases c;exact s⟩
   unfold runsR;by_cases f:r.1=here
   . simp only[ne_eq,f,not_true_eq_false,if_false,dB];rw[<-f];exact a
   . simp only [ne_eq,f,not_false_eq_true,if_true,dP,dB];refine ⟨rfl,λh x d c=>?_,λe=>?_,λx e=>?_⟩
     . have:=p h x d c;have:x≠h:=λz=>f (by rw[show r.1=aa x from c,d,z]);omega
     . have i:r.1=ac:=e;exact(f$ by rw[i,q i]).elim
     . have i:r.1=aa x:=e;rw[i]at a;exact a
def jX(o:Ord ps):Til ac (jA ps):=LL ps ac ae o (λr _=>⟨λ_=>rfl,(λh l a=>nomatch a)⟩)$ .inr rfl
noncomputable def befB(p:Int)(r:Rw):Bool:=match r.2.1 with|none=>ae|some x=>decide (p<x)
theorem vB p:∀J here,Til here J->(∀h,here=aa h->h<=p)->J.find? (λr=>has3 r p)=J.find? (befB p)
 |[],_,h,_=>h.elim
 |r::J,here,h,hp=>by
   obtain⟨b,d,c,a⟩:=h;have e:has3 r p=befB p r:=by
    unfold has3 hasS befB;rw[b];cases Y:here with
    |none=>cases r.2.1<;>simp
    |some x=>have:=hp x Y;cases r.2.1<;>simp[this]
   rw[cY,cY,e];cases z:befB p r with
   |true=>rfl
   |false=>
     simp only;cases U:r.2.1 with
     |none=>unfold befB at z;rw[U]at z;cases z
     |some x=>unfold befB at z;rw[U]at z;simp at z;exact vB p J (aa x) (a x U) λh e=>by cases e;exact z
noncomputable def atB(p:Int)(rs:List Rw):Option Int:=match rs.find? (befB p)with|some r=>r.2.2|none=>ac
def KP(o:Ord ps) p:atB p (jA ps)=valL ps p:=by unfold atB;rw[<-vB p _ ac (jX o) (λh e=>nomatch e),aFp o p];simp only;rw[NE p ps ac o,vJ o]
def KQ(h:befB p r=ae):atB p (r::z)=r.2.2:=by unfold atB;rw[cY,h]
def atB_tl(h:befB p r=ag):atB p (r::rs)=atB p rs:=by unfold atB;rw[cY,h]
abbrev R4:=Option Int×Option Int×Option Int×Option Int
noncomputable def r4D(r:R4):D:=.tup [oi r.1,oi r.2.1,oi r.2.2.1,oi r.2.2.2]
noncomputable def Rem:Option Int->List Rw->Prop
 |_,[]=>False
 |here,r::rs=>(∀h x,here=aa h->r.2.1=aa x->h<x)/\(r.2.1=ac->rs=[])/\∀x,r.2.1=aa x->Rem (aa x) rs
theorem Til.rem:∀{z:List Rw}{here:Option Int},Til here z->Rem here z
 |[],_,h=>h.elim
 |r::z,_,⟨_,h2,U,J⟩=>⟨h2,U,λx e=>(J x e).rem⟩
noncomputable def stp(e:Option Int):List Rw->List Rw
 |[]=>[]
 |a::as=>if a.2.1=e then as else a::as
def jS e a as:stp e (a::as)=if a.2.1=e then as else a::as:=rfl
noncomputable def yC:Nat->Option Int->List Rw->List Rw->List R4
 |0,_,_,_=>[]
 |n+1,here,a::as,b::bs=>(here,qO a.2.1 b.2.1,a.2.2,b.2.2)::yC n (qO a.2.1 b.2.1) (stp (qO a.2.1 b.2.1)$ a::as) (stp (qO a.2.1 b.2.1)$ b::bs)
 |_+1,_,_,_=>[]
def Both(here:Option Int)(as bs:List Rw):Prop:=(as=[]/\bs=[])\/(Rem here as/\Rem here bs)
def xO(h:Rem here (a::as))(U:∀y,a.2.1=aa y->x<=y):a.2.1=ac/\stp (aa x) (a::as)=a::as/\Rem (aa x) (stp (aa x)$ a::as)\/a.2.1≠ac/\Rem (aa x) (stp (aa x)$ a::as):=by
 obtain⟨g,d,c⟩:=h;cases J:a.2.1 with
 |none=>
   left;have:stp (aa x) (a::as)=a::as:=by rw[jS,J,if_neg$ by simp]
   rw[this];exact⟨rfl,rfl,(λh y _ e=>by rw[J]at e;cases e),d,c⟩
 |some y=>
   right;refine⟨by simp,?_⟩;rw[jS,J];by_cases b:y=x
   . subst b;rw[if_pos rfl];exact c y J
   . rw [if_neg (by simpa using b)];refine ⟨λh z i f=>?_,d,c⟩;rw [J]at f;have:=U y J
     lia
def EK(U:Rem here (a::as))(J:Rem here (b::bs)):Both (qO a.2.1 b.2.1) (stp (qO a.2.1 b.2.1)$ a::as) (stp (qO a.2.1 b.2.1)$ b::bs):=by
 cases h1:a.2.1 with
 |none=>
   cases h2:b.2.1 with
   |none=>
     left;constructor
     . simp[qO,stp,h1,U.2.1 h1]
     . simp[qO,stp,h2,J.2.1 h2]
   |some y=>
     right;have e:qO ac (aa y)=aa y:=rfl;constructor
     . rcases xO U (by rw [h1];exact λ_ e=>nomatch e)with h|h
       . exact h.2.2
       . exact h.2
     . rcases xO J (x:=y) (by rw [h2];intro z e;cases e;lia)with h|h
       . exact h.2.2
       . exact h.2
 |some x=>
   right;cases h2:b.2.1 with
   |none=>
     have e:qO (aa x) ac=aa x:=rfl;constructor
     . rcases xO U (x:=x) (by rw [h1];intro z e;cases e;lia)with h|h
       . exact h.2.2
       . exact h.2
     . rcases xO J (by rw [h2];exact λ_ e=>nomatch e)with h|h
       . exact h.2.2
       . exact h.2
   |some y=>
     have e:qO (aa x) (aa y)=aa (min x y):=rfl;constructor
     . rcases xO U (x:=min x y) (by rw [h1];intro z e;cases e;lia)with h|h
       . exact h.2.2
       . exact h.2
     . rcases xO J (x:=min x y) (by rw [h2];intro z e;cases e;lia)with h|h
       . exact h.2.2
       . exact h.2
def kG(J:Rem here (a::as))(z:Rem here (b::bs))(h:qO a.2.1 b.2.1=ac):stp ac (a::as)=[]/\stp ac (b::bs)=[]:=by
 cases h1:a.2.1 with
 |some x=>rw[h1]at h;cases h2:b.2.1<;>rw[h2]at h<;>cases h
 |none=>
   cases h2:b.2.1 with
   |some y=>rw[h1,h2]at h;cases h
   |none=>exact⟨by rw[jS,h1,if_pos rfl];exact J.2.1 h1,by rw[jS,h2,if_pos rfl];exact z.2.1 h2⟩
def wF n here bs:yC n here [] bs=[]:=by cases n<;>rfl
theorem MS:∀n here as bs r,Both here as bs->r∈yC n here as bs->here≠ac->r.1=ac->False
 |0,_,_,_,r,_,c,_,_=>by unfold yC at c;cases c
 |n+1,here,[],bs,r,_,c,_,_=>by rw[wF]at c;cases c
 |n+1,here,a::as,[],r,z,c,_,_=>by
   rcases z with⟨h,_⟩|⟨_,h⟩
   . cases h
   . exact h
 |n+1,here,a::as,b::bs,r,z,c,J,h1=>by
   rcases z with⟨h,_⟩|⟨f,e⟩
   . cases h
   . rw [yC]at c;rcases aA.mp c with rfl|c
     . exact J h1
     . by_cases d:qO a.2.1 b.2.1=ac
       . rw[d,(kG f e d).1,wF]at c;cases c
       . exact MS n _ _ _ r (EK f e) c d h1
def QB(h:∀x,e=aa x->x<=p)(z:e=ac->False):atB p (stp e$ a::as)=atB p (a::as):=by
 rw[jS];by_cases b:a.2.1=e
 . rw [if_pos b];symm;apply atB_tl;unfold befB;rw [b];cases e with
   |none=>exact(z rfl).elim
   |some x=>have:=h x rfl;simp;lia
 . rw[if_neg b]
def TV e a as:(stp e$ a::as).length<=as.length+1:=by rw[jS];split<;>simp
def JD a b as bs:(stp (qO a.2.1 b.2.1)$ a::as).length+(stp (qO a.2.1 b.2.1)$ b::bs).length<(as.length+1)+(bs.length+1):=by
 have:qO a.2.1 b.2.1=a.2.1\/qO a.2.1 b.2.1=b.2.1:=by
  cases a.2.1 with
  |none=>right;cases b.2.1<;>rfl
  |some x=>
    cases b.2.1 with
    |none=>left;rfl
    |some y=>
      rcases(by lia:min x y=x\/min x y=y)with h|h
      . left;simp[qO,h]
      . right;simp[qO,h]
 have d:=TV (qO a.2.1 b.2.1) a as;have c:=TV (qO a.2.1 b.2.1) b bs;rcases this with h|h
 . have:(stp (qO a.2.1 b.2.1) (a::as)).length=as.length:=by rw [jS,if_pos h.symm]
   lia
 . have:(stp (qO a.2.1 b.2.1) (b::bs)).length=bs.length:=by rw [jS,if_pos h.symm]
   lia
theorem HQ:∀n here as bs,as.length+bs.length<=n->Both here as bs →
  (∀r∈yC n here as bs,okS (r.1,r.2.1)/\(∀h x,here=aa h->r.1=aa x->h<=x)/\∀p,hasS (r.1,r.2.1) p=ae->(∀h,here=aa h->h<=p)->atB p as=r.2.2.1/\atB p bs=r.2.2.2) ∧
  ∀p,as≠[]->(∀h,here=aa h->h<=p)->∃r∈yC n here as bs,atB p as=r.2.2.1/\atB p bs=r.2.2.2
 |0,here,as,bs,Y,_=>by have:as=[]:=List.eq_nil_of_length_eq_zero (by omega);exact⟨λr k=>(by unfold yC at k;cases k),λp h=>(h this).elim⟩
 |n+1,here,as,bs,Y,hB=>by
   rcases hB with⟨rfl,rfl⟩|⟨A,w⟩
   . exact⟨λr k=>(by unfold yC at k;cases k),λp h=>(h rfl).elim⟩
   . cases as with
     |nil=>exact A.elim
     |cons a as=>
       cases bs with
       |nil=>exact w.elim
       |cons b bs=>
         have H:=JD a b as bs;have s:=EK A w;simp only[aK]at Y;generalize U:qO a.2.1 b.2.1=e at *;have F:=HQ n e (stp e$ a::as) (stp e$ b::bs) (by omega) s;have l:∀h x,here=aa h->e=aa x->h<x:=by
          intro h x g c;rw[<-U]at c;cases j:a.2.1 with
          |none=>
            rw[j]at c;cases i:b.2.1 with
            |none=>rw[i]at c;cases c
            |some y=>rw[i]at c;cases c;exact w.1 h _ g i
          |some z=>
            rw[j]at c;have E:=A.1 h z g j;cases i:b.2.1 with
            |none=>rw[i]at c;cases c;exact E
            |some y=>rw[i]at c;cases c;have D:=w.1 h y g i;omega
         have u:∀p,(∀x,e=aa x->p<x)->befB p a=ae/\befB p b=ae:=by
          intro p f;rw[<-U]at f;unfold befB;cases j:a.2.1 with
          |none=>
            cases i:b.2.1 with
            |none=>exact⟨rfl,rfl⟩
            |some y=>rw[j,i]at f;have:=f y rfl;exact⟨rfl,by simpa using this⟩
          |some z=>
            cases i:b.2.1 with
            |none=>rw[j,i]at f;have:=f z rfl;exact⟨by simpa using this,rfl⟩
            |some y=>rw[j,i]at f;have:=f _ rfl;exact⟨by simp;omega,by simp;omega⟩
         have I:yC (n+1) here (a::as) (b::bs)=(here,e,a.2.2,b.2.2)::yC n e (stp e$ a::as) (stp e$ b::bs):=by rw[yC,U]
         rw[I];refine⟨λr k=>?_,λp _ f=>?_⟩
         . rcases aA.mp k with rfl|k
           . refine ⟨λx y g c=>l x y g c,λh x g c=>?_,λp f _=>?_⟩
             . have c:here=aa x:=c;rw[g]at c;cases c;omega
             . obtain⟨o,m⟩:=u p λx d=>by
                unfold hasS at f;simp only[d,bY,decide_eq_true_eq]at f;exact f.2
               exact⟨KQ o,KQ m⟩
           . obtain ⟨E,D,M⟩:=F.1 r k;have B:e≠ac:=by intro G;rw[G,(kG A w (by rw[U,G])).1,wF]at k;cases k
             obtain⟨x,d⟩:∃x,e=aa x:=by cases e with|none=>exact(B rfl).elim|some x=>exact⟨x,rfl⟩
             have t:∀p,hasS (r.1,r.2.1) p=ae->x<=p:=by
              intro p f;cases J:r.1 with
              |some y=>have:=D x y d J;unfold hasS at f;simp only[J,bY,decide_eq_true_eq]at f;omega
              |none=>exact(MS n e _ _ r s k (by rw[d];simp) J).elim
             refine⟨E,λh y g c=>?_,λp f N=>?_⟩
             . have:=l h x g d;have:=D x y d c;omega
             . have v:=t p f;obtain ⟨o,m⟩:=M p f λh g=>by rw [d]at g;cases g;exact v
               rw[QB (λy g=>by rw[d]at g;cases g;exact v) λz=>B z]at o m;exact⟨o,m⟩
         . by_cases d:∀ x,e=aa x->p < x
           . obtain⟨o,m⟩:=u p d;exact⟨_,aP,KQ o,KQ m⟩
           . obtain ⟨x,d⟩:=Classical.not_forall.mp d;obtain ⟨d,L⟩:=Classical.not_imp.mp d;have B:e=ac->False:=λz=>by rw [z]at d;cases d
             have q:∀y,e=aa y->y<=p:=λy g=>by rw[d]at g;cases g;omega
             have ne:stp e (a::as)≠[]:=by
              rcases s with⟨j,i⟩|⟨j,i⟩
              . exfalso;have K:=QB (a:=a) (as:=as) q B;rw [j]at K;rw [jS]at j i;split at j
                . rename_i C;split at i
                  . have:=A.2.2 x (by rw[C,d]);rw[j]at this;exact this
                  . cases i
                . cases j
              . intro z;rw[z]at j;exact j
             obtain⟨r,k,o,m⟩:=F.2 p ne q;rw[QB q B]at o m;exact⟨r,aJ _ k,o,m⟩
def aGt(l:List R4):flats (l.map r4D)=ae:=by
 induction l with
 |nil=>simp
 |cons a r b=>simp[b,r4D]
def sV{z:Type}{A as:List z}{a:z}(h:A.drop i=a::as):A[i]?=aa a/\A.drop (i+1)=as/\i<A.length:=by
 have hi:i<A.length:=by
  rcases Nat.lt_or_ge i A.length with b|b
  . exact b
  . rw[List.drop_eq_nil_of_le b]at h;cases h
 rw[dR hi]at h;cases h;exact⟨aR hi,rfl,hi⟩
def ix_rw{A:List Rw}{i:Nat}(h:A[i]?=aa a):ixD (.lst$ A.map rwD) (.int (i:Int))=aa (rwD a):=by have hi:=(bC.mp h).1;rw[yT _ (by lia)$ by simp;lia,aCc,bB,h];rfl
theorem AH U R1(A B:List Rw):∀m i j here J x8 x9 x10,(A.drop i).length+(B.drop j).length<=m->Both here (A.drop i) (B.drop j)->J.length+m<16777216->∀n,m<n →
  ∃y5 y6 y7 y8 y9 Y,oM (zN$ zH ltD (zG 6)$ callB lenD$ zB (zG 2) zT) mZ n [U,R1,.v$ .lst$ A.map rwD,.v$ .lst$ B.map rwD,.own$ J.map r4D,.v$ oi here,.v$ .int (i:Int),.v$ .int (j:Int),x8,x9,x10] =
   aa (.nx [U,R1,.v$ .lst$ A.map rwD,.v$ .lst$ B.map rwD,.own$ (J++yC m here (A.drop i) (B.drop j)).map r4D,y5,y6,y7,y8,y9,Y])
 |m,i,j,here,J,x8,x9,x10,hm,hB,hz,0,hn=>by omega
 |m,i,j,here,J,x8,x9,x10,hm,hB,hz,n+1,hn=>by
   cases hA:A.drop i with
   |nil=>
     have hi:A.length<=i:=List.drop_eq_nil_iff.mp hA;have c:¬(i:Int)<(A.length:Int):=by omega
     refine⟨.v$ oi here,.v$ .int (i:Int),.v$ .int (j:Int),x8,x9,x10,?_⟩;have v:(zN$ zH ltD (zG 6)$ callB lenD$ zB (zG 2) zT) [U,R1,.v$ .lst$ A.map rwD,.v$ .lst$ B.map rwD,.own$ J.map r4D,.v$ oi here,.v$ .int (i:Int),.v$ .int (j:Int),x8,x9,x10]=aa ag:=by simp[hi]
     rw[wF,oM,v];simp
   |cons a u=>
     rw[hA]at hB hm;rcases hB with⟨h,_⟩|⟨M,t⟩
     . cases h
     . cases hBd:B.drop j with
       |nil=>rw[hBd]at t;exact t.elim
       |cons b bs=>
         rw[hBd]at t hm;cases m with
         |zero=>simp at hm
         |succ m=>
           obtain⟨ga,T,hi⟩:=sV hA;obtain⟨N,S,V⟩:=sV hBd;have K:=ix_rw ga;have I:=ix_rw N;have G:=JD a b u bs;have C:=EK M t;have Q:=NX a.2.1 b.2.1;simp only[aK]at hm;have H:yC (m+1) here (a::u) (b::bs)=(here,qO a.2.1 b.2.1,a.2.2,b.2.2)::yC m (qO a.2.1 b.2.1) (stp (qO a.2.1 b.2.1)$ a::u) (stp (qO a.2.1 b.2.1)$ b::bs):=by rw[yC]
           rw[H];generalize qO a.2.1 b.2.1=e at *;have z:J.length<16777216:=by omega
           have R:D.tup [oi here,oi e,oi a.2.2,oi b.2.2]=r4D (here,e,a.2.2,b.2.2):=rfl;obtain⟨f,c,P⟩:∃f:Nat,A.drop f=stp e (a::u)/\∀r q p o l k x,(ifG (zN$ zH eqD (zH ixD (zG 8)$ zA$ .int 1)$ zG 10) (augA 6$ zA$ .int 1) qH) [r,q,p,o,l,k,.v$ .int (i:Int),x,.v$ rwD a,.v$ rwD b,.v$ oi e]=aa (.nx [r,q,p,o,l,k,.v$ .int (f:Int),x,.v$ rwD a,.v$ rwD b,.v$ oi e]):=by
            by_cases h:a.2.1=e
            . refine⟨i+1,by rw[jS,if_pos h,T],λ_ _ _ _ _ _ _=>?_⟩;simp[h,augA]
            . refine⟨i,by rw[jS,if_neg h,hA],λ_ _ _ _ _ _ _=>?_⟩;simp[h]
           obtain⟨s,d,O⟩:∃s:Nat,B.drop s=stp e (b::bs)/\∀r q p o l k E,(ifG (zN$ zH eqD (zH ixD (zG 9)$ zA$ .int 1)$ zG 10) (augA 7$ zA$ .int 1) qH) [r,q,p,o,l,k,E,.v$ .int (j:Int),.v$ rwD a,.v$ rwD b,.v$ oi e]=aa (.nx [r,q,p,o,l,k,E,.v$ .int (s:Int),.v$ rwD a,.v$ rwD b,.v$ oi e]):=by
            by_cases h:b.2.1=e
            . refine⟨j+1,by rw[jS,if_pos h,S],λ_ _ _ _ _ _ _=>?_⟩;simp[h,augA]
            . refine⟨j,by rw[jS,if_neg h,hBd],λ_ _ _ _ _ _ _=>?_⟩;simp[h]
           have y:=P U R1 (.v$ .lst$ A.map rwD) (.v$ .lst$ B.map rwD) (.own$ (J++[(here,e,a.2.2,b.2.2)]).map r4D) (.v$ oi here)$ .v$ .int (j:Int);have w:=O U R1 (.v$ .lst$ A.map rwD) (.v$ .lst$ B.map rwD) (.own$ (J++[(here,e,a.2.2,b.2.2)]).map r4D) (.v$ oi here)$ .v$ .int (f:Int);have g:mZ [U,R1,.v$ .lst$ A.map rwD,.v$ .lst$ B.map rwD,.own$ J.map r4D,.v$ oi here,.v$ .int (i:Int),.v$ .int (j:Int),x8,x9,x10]=aa (.nx [U,R1,.v$ .lst$ A.map rwD,.v$ .lst$ B.map rwD,.own$ (J++[(here,e,a.2.2,b.2.2)]).map r4D,.v$ oi e,.v$ .int (f:Int),.v$ .int (s:Int),.v$ rwD a,.v$ rwD b,.v$ oi e]):=by
            unfold mZ
            rw[zQ (ds':=[U,R1,.v$ .lst$ A.map rwD,.v$ .lst$ B.map rwD,.own$ J.map r4D,.v$ oi here,.v$ .int (i:Int),.v$ .int (j:Int),.v$ rwD a,x9,x10])$ by simp[K],
             zQ (ds':=[U,R1,.v$ .lst$ A.map rwD,.v$ .lst$ B.map rwD,.own$ J.map r4D,.v$ oi here,.v$ .int (i:Int),.v$ .int (j:Int),.v$ rwD a,.v$ rwD b,x10]) (by simp[I]),
             zQ (ds':=[U,R1,.v$ .lst$ A.map rwD,.v$ .lst$ B.map rwD,.own$ J.map r4D,.v$ oi here,.v$ .int (i:Int),.v$ .int (j:Int),.v$ rwD a,.v$ rwD b,.v$ oi e]) (by simp[Q]),
             zQ (ds':=[U,R1,.v$ .lst$ A.map rwD,.v$ .lst$ B.map rwD,.own$ (J++[(here,e,a.2.2,b.2.2)]).map r4D,.v$ oi here,.v$ .int (i:Int),.v$ .int (j:Int),.v$ rwD a,.v$ rwD b,.v$ oi e]) (by simp[z,R]),zQ y,zQ w]
            simp
           obtain⟨y5,y6,y7,y8,y9,Y,F⟩:=AH U R1 A B m f s e (J++[(here,e,a.2.2,b.2.2)]) (.v$ rwD a) (.v$ rwD b) (.v$ oi e) (by rw[c,d];omega) (by rw[c,d];exact C) (by simp;omega) n (by omega);refine⟨y5,y6,y7,y8,y9,Y,?_⟩;rw[c,d,bL]at F;have L:(i:Int)<(A.length:Int):=by omega
           have v:(zN$ zH ltD (zG 6)$ callB lenD$ zB (zG 2) zT) [U,R1,.v$ .lst$ A.map rwD,.v$ .lst$ B.map rwD,.own$ J.map r4D,.v$ oi here,.v$ .int (i:Int),.v$ .int (j:Int),x8,x9,x10]=aa ae:=by simp[hi]
           rw[oM,v];simp only[aZ,if_true,g];exact F
def YR(J:Ord ps)(z:Ord qs)(h1:ps.length<=10000)(h2:qs.length<=10000):oC [.lst$ ps.map rwD,.lst$ qs.map rwD]=aa (.fresh$ (yC ((jA ps).length+(jA qs).length) ac (jA ps)$ jA qs).map r4D):=by
 have l:=xF ps;have k:=xF qs;obtain⟨j,i,h,g,f,a,e⟩:=AH (.v$ .lst$ ps.map rwD) (.v$ .lst$ qs.map rwD) (jA ps) (jA qs) ((jA ps).length+(jA qs).length) 0 0 ac [] .no .no .no (by simp) (.inr ⟨(jX J).rem,(jX z).rem⟩) (by simp;lia) 100000 (by lia);have c:=JF ps (by lia);have b:=JF qs (by lia);simp[sB,dO,dB,JQ,show(((0:Nat):Int))=0 from rfl]at e;have d:=aGt$ yC ((jA ps).length+(jA qs).length) ac (jA ps)$ jA qs;generalize jA ps=A at *;generalize jA qs=B at *;refine wD ?_;unfold rC
 rw[zQ (ds':=[.v$ .lst$ ps.map rwD,.v$ .lst$ qs.map rwD,.v$ .lst$ A.map rwD,.no,.no,.no,.no,.no,.no,.no,.no])$ by simp[args,c],
  zQ (ds':=[.v$ .lst$ ps.map rwD,.v$ .lst$ qs.map rwD,.v$ .lst$ A.map rwD,.v$ .lst$ B.map rwD,.no,.no,.no,.no,.no,.no,.no]) (by simp[b]),
  zQ (ds':=[.v$ .lst$ ps.map rwD,.v$ .lst$ qs.map rwD,.v$ .lst$ A.map rwD,.v$ .lst$ B.map rwD,.own [],.no,.no,.no,.no,.no,.no]) (by simp),
  zQ (ds':=[.v$ .lst$ ps.map rwD,.v$ .lst$ qs.map rwD,.v$ .lst$ A.map rwD,.v$ .lst$ B.map rwD,.own [],.v .non,.no,.no,.no,.no,.no]) (by simp),
  zQ (ds':=[.v$ .lst$ ps.map rwD,.v$ .lst$ qs.map rwD,.v$ .lst$ A.map rwD,.v$ .lst$ B.map rwD,.own [],.v .non,.v$ .int 0,.no,.no,.no,.no]) (by simp),
  zQ (ds':=[.v$ .lst$ ps.map rwD,.v$ .lst$ qs.map rwD,.v$ .lst$ A.map rwD,.v$ .lst$ B.map rwD,.own [],.v .non,.v$ .int 0,.v$ .int 0,.no,.no,.no]) (by simp),zQ e]
 simp[d]
def FM s(h:okS s):∃p,hasS s p=ae/\pJ [spD s]=aa (.val$ .int p):=by
 obtain⟨a,b⟩:=s;unfold pJ runG pI;cases a with
 |some x=>
   refine⟨x,?_,by simp[args]⟩;cases b with
   |none=>simp[hasS]
   |some y=>have:=h x y rfl rfl;simp[hasS,this]
 |none=>
   cases b with
   |some y=>exact⟨y-1,by simp[hasS];lia,by simp[args]⟩
   |none=>exact⟨0,by simp[hasS],by simp[args]⟩
def ZX r(h:ok3 r):∃p,has3 r p=ae:=by obtain⟨p,a,_⟩:=FM (r.1,r.2.1) h;exact⟨p,a⟩
def later(o:Ord (r::t))(U:z∈t)(J:has3 z p=ae):∃x y,r.2.1=aa x/\z.1=aa y/\x<=y/\y<=p:=by obtain⟨x,y,c,a,b⟩:=(bI.mp o.pw).1 z U;refine⟨x,y,c,a,b,?_⟩;unfold has3 hasS at J;simp[a,bY,decide_eq_true_eq]at J;exact J.1
def put_eq(m:MapF ps)(z:ps.length<=100000)(h:okS s):lC [.lst$ ps.map rwD,spD s,oi v]=aa (.fresh$ (put1 ps (s,v)).map rwD):=by obtain⟨c,b⟩:=put1_eq m z (v:=v) h;have a:=yI$ put1 ps (s,v);unfold lC runG BU;simp[args,c,b,a]
open Builtin.Int (intBits)
structure DrawM(rows:List Rw)(s:Int):Prop where
 map:MapF rows
 fin:∀r∈rows,∃lo bh,r.1=some lo/\r.2.1=some bh/\bh<=s
 last:∀r,rows.getLast?=some r->r.2.1=some s
theorem DrawM.nil(s:Int):DrawM [] s:=⟨MapF.nil,(λ_ h=>nomatch h),λr h=>by simp at h⟩
theorem wM(P:Nat->List Sl->Prop) N(H:∀k,k<N->∀ds,P k ds->∃ds1 ds2,ga (.int (k:Int)) ds=aa ds1/\body ds1=aa (.nx ds2)/\P (k+1) ds2):∀n k ds,k+n=N->P k ds->∃ds',jM ga body ((List.range' k n).map λ(j:Nat)=>D.int$ 0+(j:Int)) ds=aa (.nx ds')/\P N ds'
 | 0, k, ds, h, hp => ⟨ds, rfl, by have : k = N := by omega
                                   subst this;exact hp⟩
 |n+1,k,ds,h,hp=>by
   obtain⟨ds1,ds2,e1,e2,h2⟩:=H k (by omega) ds hp;obtain⟨ds',e,h'⟩:=wM P N H n (k+1) ds2 (by omega) h2;refine⟨ds',?_,h'⟩;rw[List.range'_succ,aQ,jM];have:(0+(k:Int))=(k:Int):=by omega
   rw[this,e1,aZ,e2,aZ];exact e
def sT n:lG 0 n=(List.range' 0 n).map λ(j:Nat)=>D.int (0+(j:Int)):=by rw[lG,List.range_eq_range']
@[simp] theorem notD_rw r:notD (rwD r) .non=aa (.bl ae):=rfl
open NumText
def kitS:kitF "str" "str"=aa ae/\kitF "int" "str"=aa ag/\kitF "NoneType" "str"=aa ag/\kitF "tuple" "str"=aa ag/\kitF "list" "str"=aa ag/\kitF "str" "tuple"=aa ag/\kitF "str" "bool"=aa ag:=by refine⟨?_,?_,?_,?_,?_,?_,?_⟩<;>decide +kernel
@[simp]def isi_str_str x:isiD "str" (.str x)=aa (.bl ae):=by simp[isiD,tyD,kitS.1]
def t_empty:Str.ofString ""=txS []:=by decide
def Ltr(cs:List Nat):Prop:=∀c∈cs,97<=c/\c<=122
def Nm(cs:List Nat):Prop:=1<=cs.length/\cs.length<=8/\Ltr cs
noncomputable def abcL:List Nat:=[97,98,99,100,101,102,103,104,105,106,107,108,109,110,111,112,113,114,115,116,117,118,119,120,121,122]
def t_abc:Str.ofString "abcdefghijklmnopqrstuvwxyz"=txS abcL:=by decide
def mem_abc(h:97<=c/\c<=122):c∈abcL:=by
 have:abcL=List.range' 97 26:=by decide
 rw[this,List.mem_range'_1]
 lia
def RM(h:Nm cs):fU [.str$ txS cs]=aa (.val$ .bl ae):=by
 obtain⟨m,l,i⟩:=h;have b:=len_tx cs (by lia);have a:compG (viaA (qB 0) asS) [ac] (zM 0) (λ_=>aa ae) (zH inS (zG 0)$ zA$ .str$ Str.ofString "abcdefghijklmnopqrstuvwxyz") [.v$ .str$ txS cs]=aa (cs.map λ_=>D.bl ae):=by rw[t_abc];refine yF (items:=cs.map λc=>D.str$ txS [c]) (by simp;rfl) (by simp;lia) ?_;rw[yJ (λc=>D.str$ txS [c]) (λc=>D.bl ae) cs];intro c g;have:=in_one abcL c;rw[decide_eq_true$ mem_abc$ i c g]at this;exact⟨_,rfl,by simp[jN,this]⟩
 have k:allD [.lst$ cs.map λ_=>D.bl ae]=aa (.bl ae):=by
  have e:(cs.map λ_=>D.bl ae)=(cs.map λ_=>ae).map D.bl:=by simp
  rw[e,OM];simp
 refine wD ?_;unfold pC;have j:args 1 [.str$ txS cs]=[.v$ .str$ txS cs]:=by simp[args]
 have f:¬((cs.length:Int)<1):=by lia
 have d:¬((8:Int)<(cs.length:Int)):=by lia
 rw[j,zQ (ds':=[.v$ .str$ txS cs])$ by simp,zQ (ds':=[.v$ .str$ txS cs])$ by simp[b,f,d]];simp only[retG_eq,aHs,aHl,nilA_eq,mkL_eq,a,cW,aZ,k,flatR];simp
end FL
namespace FL
open Builtin.Int (intBits)
def aGm c:∃v,lW [.int c]=aa (.val$ .int v):=by have d:powD (.int 10) (.int 60)=aa (.int$ 10^60):=pow10 (by decide) (by decide);have b:=pow1060;have e:wA (.int 2) (.int$ (10^60)^8)=aa (.int$ 2*(10^60)^8):=jD (.of_left$ qG$ by decide);have a:jK (.int c) (.int$ 2*(10^60)^8+1)=aa (.int$ c%(2*(10^60)^8+1)):=yY c (by decide);unfold lW runG sW;refine⟨c%(2*(10^60)^8+1)-(10^60)^8,?_⟩;simp[-Int.reducePow,-Nat.reducePow,args,d,b,e,a]
def aCn a b(z:0<=r)(h1:r<=1):∃g,(g=a\/g=b)/\ixD (.lst [.int a,.int b]) (.int r)=aa (.int g):=by
 rcases(by lia:r=0\/r=1)with e|e<;>subst e
 . exact⟨a,.inl rfl,by simp⟩
 . exact⟨b,.inr rfl,by simp⟩
def LG o:fZ [oi o]=aa (.val$ .bl o.isSome):=by
 cases o with
 |some i=>exact XF i
 |none=>unfold fZ runG pD;simp[args]
@[simp] theorem sltW_eq(f:FE)(lo hi:List Sl->Option (Option Int))(ds:List Sl):sltW f lo hi ds=(f ds).bind λd=>(lo ds).bind λa=>(hi ds).bind λb=>match d with
 |.tup l=>aa$ .tup$ cutD l a b
 |_=>ac:=rfl
def aAo(ns:List Int)(z:∀c∈ns,intBits c<=1048576) a b:∃cs:List Int,cs.length<=ns.length/\cs.length<=b-a/\(∀c∈cs,intBits c<=1048576)/\cutD (ns.map D.int) (aa (a:Int)) (aa (b:Int))=cs.map D.int:=by
 refine⟨(ns.drop$ min a ns.length).take$ min b ns.length-min a ns.length,by simp;lia,by simp;lia,λc d=>z c$ sA$ rZ d,?_⟩;have f:HT.sIx (ns.map D.int).length 0 (aa (a:Int))=min a ns.length:=by simp[HT.sIx];lia
 have e:HT.sIx (ns.map D.int).length (ns.map D.int).length (aa (b:Int))=min b ns.length:=by simp[HT.sIx];lia
 unfold cutD;rw[f,e,List.map_take,List.map_drop]
def opt_ext{a b:Option Int}(h:∀w,a=aa w↔b=aa w):a=b:=by
 cases a with
 |none=>
   cases b with
   |none=>rfl
   |some w=>exact((h w).mpr rfl)
 |some v=>exact((h v).mp rfl).symm
def aDp(m:MapF ps)(h:okS r.1) p:valL (put1 ps r) p=if hasS r.1 p=ae then r.2 else valL ps p:=by
 refine opt_ext λw=>?_;rw[jJ (MF m h).ord,aDq m h];split
 . exact Iff.rfl
 . rw[jJ m.ord]
open Builtin.Int (intBits)
noncomputable def ovA:FS:=(ifG (andT (zN$ zH eqD (zH jK (zG 3)$ zA$ .int 4)$ zA$ .int 0)$ zN$ zH neD (getN 2)$ mkL$ qM zT) (jW 5$ zH subD (zH xM (relVO 2$ zH ixD (zG 2)$ zH jK (zH jL (zG 3)$ zA$ .int 4)$ callB lenD$ zB (zG 2) zT)$ zH jK (zH jL (zG 3)$ zA$ .int 1000003)$ zA$ .int 3)$ zA$ .int 1) qH)
noncomputable def ovB:FS:=(ifG (zN$ zH eqD (zH jK (zG 3)$ zA$ .int 4)$ zA$ .int 1) (jW 5$ zH ixD (mkL$ qM$ zB (zH subD (zH jK (zG 0)$ zH xM (zH wA (zA$ .int 2)$ zH powD (zA$ .int 10)$ zA$ .int 60)$ zA$ .int 1)$ zH powD (zA$ .int 10)$ zA$ .int 60)$ zB (qT 1 lW$ zB (zG 0) zT) zT)$ zH jK (zH jL (zG 3)$ zA$ .int 4)$ zA$ .int 2) qH)
noncomputable def ovC:FS:=(jW 6$ zH xM (zH xM (zG 5)$ zA$ .int 1)$ zH ixD (mkL$ qM$ zB (zH jK (zH jL (zG 4)$ zA$ .int 4)$ zA$ .int 3)$ zB (zH jK (zH jL (zG 4)$ zA$ .int 4)$ zA$ .int 40)$ zB (zH jK (zH wA (zG 0)$ zA$ .int 69621)$ zH powD (zA$ .int 10)$ zA$ .int 60)$ zB (zA$ .int 0) zT)$ zH jK (zG 4)$ zA$ .int 4)
noncomputable def ovD:FS:=(ifG (andT (zN$ zH eqD (zH jK (zG 4)$ zA$ .int 4)$ zA$ .int 3)$ zN$ zH neD (getN 2)$ mkL$ qM zT) (jW 6$ callB mxD$ zB (zG 6)$ zB (relVO 2$ zH ixD (zG 2)$ zH jK (zH jL (zG 4)$ zA$ .int 4)$ callB lenD$ zB (zG 2) zT) zT) qH)
noncomputable def overG(p1 p2 p3 q1 q2 q3:Int):FX:=(seqR (jW 3$ zH jK (zH xM (zH xM (zH wA (zG 0)$ zA$ .int p1)$ zH wA (zH wA (zG 1)$ zG 1)$ zA$ .int p2)$ zA$ .int p3)$ zA$ .int 2147483647)
 (seqR (jW 3$ zH jK (zH wA (zG 3)$ zG 3)$ zA$ .int 2147483563)
 (seqR (jW 4$ zH jK (zH xM (zH xM (zH wA (zG 0)$ zA$ .int q1)$ zH wA (zH wA (zG 1)$ zG 1)$ zA$ .int q2)$ zA$ .int q3)$ zA$ .int 2147483629)
 (seqR (jW 4$ zH jK (zH wA (zG 4)$ zG 3)$ zA$ .int 2147483549)
 (seqR (jW 5$ zH subD (zH jK (zH jL (zG 3)$ zA$ .int 4)$ zA$ .int 61)$ zA$ .int 30)
 (seqR ovA
 (seqR ovB
 (seqR ovC
 (seqR ovD
 (seqR (appP (varP 2)$ qB 5)
 (seqR (appP (varP 2)$ qB 6)
 (seqR (ifG (zN$ zH ltD (zH jK (zH jL (zG 4)$ zA$ .int 2003)$ zA$ .int 12)$ zA$ .int 2) (jW 5$ zA .non) qH)
 (seqR (ifG (zN$ zH (inD ag) (zH jK (zH jL (zG 4)$ zA$ .int 2003)$ zA$ .int 12)$ mkT$ qM$ zB (zA$ .int 1)$ zB (zA$ .int 2) zT) (jW 6$ zA .non) qH)
 (vR$ mkT$ qM$ zB (qB 5)$ zB (qB 6) zT))))))))))))))
noncomputable def oT(es:List Int):OT:=.lst$ (es.map D.int).map OT.val
def MW es:otD (oT es)=.lst (es.map D.int):=by unfold oT;rw[otD,kH]
def ref_oT es:refO (oT es)=ae:=rfl
def qI(h:g ds=aa (.nx ds')):seqR g f ds=f ds':=by unfold seqR;rw[h];rfl
def aIb(h:ds[i]?=aa (.ob r$ oT es))(J:f ds=aa (.int x))(z:es.length<16777216):appP (varP i) f ds=aa (.nx$ ds.set i$ .ob r$ oT$ es++[x]):=by unfold appP varP;simp[aZ,J];unfold oT at h ⊢;simp[z,putP,h,putO]
def WD{es:List Int}(z:0<es.length) q:∃e,jK (.int q) (.int (es.length:Int))=aa (.int$ q%(es.length:Int))/\ixD (.lst$ es.map D.int) (.int$ q%(es.length:Int))=aa (.int e):=by have b:=fF q (show(es.length:Int)≠0 by lia);have a:=kY q (show 0<(es.length:Int) by lia);exact⟨_,yY _$ by lia,ints_at es b a⟩
def in2 x p q:inD ag (.int x) (.tup [.int p,.int q])=aa (.bl$ decide (x=p\/x=q)):=by
 unfold inD;have b:decide (p=x)=decide (x=p):=by simp[eq_comm]
 have a:decide (q=x)=decide (x=q):=by simp[eq_comm]
 simp[sclD,b,a]
def aFs(h:g ((args n l).set p$ .ob (aa p) T)=aa (d,ds))(h2:ds[p]?=aa (.ob (aa p) z)):lentR g n p T l=aa (d,z):=by unfold lentR;rw[h];simp[h2,obAt]
def aDe(h:ds[i]?=aa (.ob r$ oT es))(z:f (ds.set i$ .v$ .lst$ es.map D.int)=aa (.int x)):relVO i f ds=aa (.int x):=by unfold relVO relO;rw[h];simp[MW,z,aZ];rfl
def ix4_2 x y z u:ixD (.lst [x,y,z,u]) (.int 2)=aa z:=by rw[yT _ (by decide)$ by simp];rfl
def ix4_3 x y z u:ixD (.lst [x,y,z,u]) (.int 3)=aa u:=by rw[yT _ (by decide)$ by simp];rfl
def low_if(c k m:Int) es(U:0<es.length)(hm:0<=m) x1 J z lo0:∃lo,∀f,seqR ovA (seqR ovB f) [.v$ .int c,x1,.ob (aa 2)$ oT es,.v$ .int m,J,.v$ .int lo0,z]=f [.v$ .int c,x1,.ob (aa 2)$ oT es,.v$ .int m,J,.v$ .int lo,z]:=by
 have l:powD (.int 10) (.int 60)=aa (.int$ 10^60):=pow10 (by decide) (by decide);have s:wA (.int 2) (.int$ 10^60)=aa (.int$ 2*10^60):=jD (.of_left$ qG$ by decide);have j:∀x,jK (.int x) (.int$ 2*10^60+1)=aa (.int$ x%(2*10^60+1)):=λx=>yY x (by decide);have a:neD (.lst$ es.map D.int) (.lst [])=aa (.bl ae):=by rw[VH$ CD 39 es];cases es<;>simp_all
 obtain⟨o,b⟩:=aGm c;unfold ovA ovB;by_cases d:m%4=1
 . obtain⟨g,_,n⟩:=aCn (c%(2*10^60+1)-10^60) o (r:=m/4%2) (by lia) (by lia);exact⟨g,λf=>by rw[qI$ by simp[d];rfl,qI$ by simp[-Int.reducePow,-Nat.reducePow,d,l,s,j,b,n];rfl]⟩
 . by_cases h:m % 4=0
   . obtain⟨e,q,p⟩:=WD (es:=es) U$ m/4;refine⟨e+m/1000003%3-1,λf=>?_⟩;have:=aDe (f:=zH ixD (zG 2)$ zH jK (zH jL (zG 3)$ zA$ .int 4)$ callB lenD$ zB (zG 2) zT) (ds:=[.v$ .int c,x1,.ob (aa 2)$ oT es,.v$ .int m,J,.v$ .int lo0,z]) (i:=2) rfl (x:=e) (by simp[q,p]);rw[qI (ds':=[.v$ .int c,x1,.ob (aa 2)$ oT es,.v$ .int m,J,.v$ .int$ e+m/1000003%3-1,z])$ by simp[h,MW,a,this],qI$ by simp[h];rfl]
   . exact⟨lo0,λf=>by rw[qI$ by simp[h];rfl,qI$ by simp[d];rfl]⟩
def beh_if c w lo es(J:0<es.length)(Y:intBits c<=1048576) x1 z:∃U,lo<U/\∀f,seqR ovC (seqR ovD f) [.v$ .int c,x1,.ob (aa 2)$ oT es,z,.v$ .int w,.v$ .int lo,.no]=f [.v$ .int c,x1,.ob (aa 2)$ oT es,z,.v$ .int w,.v$ .int lo,.v$ .int U]:=by
 have b:powD (.int 10) (.int 60)=aa (.int$ 10^60):=pow10 (by decide) (by decide);have d:fE c 69621:=dY Y (qG (m:=200)$ by decide) (by decide);have a:(0:Int)<10^60:=by decide
 have g:neD (.lst$ es.map D.int) (.lst [])=aa (.bl ae):=by rw[VH$ CD 39 es];cases es<;>simp_all
 have o:0<=w/4%3:=by lia
 have n:0<=w/4%40:=by lia
 have l:=fF (c*69621) (show(10:Int)^60≠0 by decide);unfold ovC ovD;rcases(by lia:w%4=0\/w%4=1\/w%4=2\/w%4=3)with h|h|h|h
 . exact⟨lo+1+w/4%3,by lia,λf=>by rw[qI (ds':=[.v$ .int c,x1,.ob (aa 2)$ oT es,z,.v$ .int w,.v$ .int lo,.v$ .int$ lo+1+w/4%3])$ by simp[-Int.reducePow,-Nat.reducePow,b,jD d,a,h],qI$ by simp[h];rfl]⟩
 . exact⟨lo+1+w/4%40,by lia,λf=>by rw[qI (ds':=[.v$ .int c,x1,.ob (aa 2)$ oT es,z,.v$ .int w,.v$ .int lo,.v$ .int$ lo+1+w/4%40])$ by simp[-Int.reducePow,-Nat.reducePow,b,jD d,a,h],qI$ by simp[h];rfl]⟩
 . exact⟨lo+1+c*69621%10^60,by lia,λf=>by rw[qI (ds':=[.v$ .int c,x1,.ob (aa 2)$ oT es,z,.v$ .int w,.v$ .int lo,.v$ .int$ lo+1+c*69621%10^60])$ by simp[-Int.reducePow,-Nat.reducePow,b,jD d,a,h,ix4_2],qI$ by simp[-Int.reducePow,-Nat.reducePow,h];rfl]⟩
 . obtain⟨e,k,j⟩:=WD (es:=es) J$ w/4;refine⟨max (lo+1) e,by lia,λf=>?_⟩;have:=aDe (f:=zH ixD (zG 2)$ zH jK (zH jL (zG 4)$ zA$ .int 4)$ callB lenD$ zB (zG 2) zT) (ds:=[.v$ .int c,x1,.ob (aa 2)$ oT es,z,.v$ .int w,.v$ .int lo,.v$ .int$ lo+1]) (i:=2) rfl (x:=e) (by simp[k,j]);rw[qI (ds':=[.v$ .int c,x1,.ob (aa 2)$ oT es,z,.v$ .int w,.v$ .int lo,.v$ .int$ lo+1])$ by simp[-Int.reducePow,-Nat.reducePow,b,jD d,a,h,ix4_3],qI (ds':=[.v$ .int c,x1,.ob (aa 2)$ oT es,z,.v$ .int w,.v$ .int lo,.v$ .int$ max (lo+1) e])$ by simp[h,MW,g,this]]
def span_if w lo z(J:lo<z) x0 x1 Y U:∃s,okS s/\∀f,seqR (ifG (zN$ zH ltD (zH jK (zH jL (zG 4)$ zA$ .int 2003)$ zA$ .int 12)$ zA$ .int 2) (jW 5$ zA .non) qH) (seqR (ifG (zN$ zH (inD ag) (zH jK (zH jL (zG 4)$ zA$ .int 2003)$ zA$ .int 12)$ mkT$ qM$ zB (zA$ .int 1)$ zB (zA$ .int 2) zT) (jW 6$ zA .non) qH) f) [x0,x1,Y,U,.v$ .int w,.v$ .int lo,.v$ .int z]=f [x0,x1,Y,U,.v$ .int w,.v$ oi s.1,.v$ oi s.2]:=by
 rcases(by lia:w/2003%12=0\/w/2003%12=1\/w/2003%12=2\/2<w/2003%12)with h|h|h|h
 . exact⟨(ac,aa z),(λx y a _=>nomatch a),λf=>by rw[qI$ by simp[h];rfl,qI$ by simp[h];rfl];rfl⟩
 . exact⟨(ac,ac),(λx y a _=>nomatch a),λf=>by rw[qI$ by simp[h];rfl,qI$ by simp[h];rfl];rfl⟩
 . exact⟨(aa lo,ac),(λx y _ b=>nomatch b),λf=>by rw[qI$ by simp[h];rfl,qI$ by simp[h];rfl];rfl⟩
 . have e:¬ w / 2003 % 12 < 2:=by lia
   have d:w/2003%12≠1:=by lia
   have c:w/2003%12≠2:=by lia
   exact⟨(aa lo,aa z),(λx y a b=>by cases a;cases b;exact J),λf=>by rw[qI$ by simp[e];rfl,qI$ by simp[in2,d,c];rfl];rfl⟩
def over_ex p1 p2 p3 q1 q2 q3(hp:(0<=p1/\p1<2^40)/\(0<=p2/\p2<2^40)/\(0<=q1/\q1<2^40)/\(0<=q2/\q2<2^40)) c k es(J:0<es.length)(hc:intBits c<=1048576)(hk:0<=k)(U:k<=1000)(hl:es.length+2<16777216):∃s a b,okS s/\lentR (overG p1 p2 p3 q1 q2 q3) 7 2 (oT es) [.int c,.int k,.non]=aa (spD s,oT$ es++[a,b]):=by
 obtain⟨⟨I,H⟩,⟨G,F⟩,⟨E,C⟩,⟨B,A⟩⟩:=hp;have r:fE c p1:=dY hc (qG (m:=200)$ by lia) (by decide);have q:fE c q1:=dY hc (qG (m:=200)$ by lia) (by decide);have j:fE k k:=dY (qG (m:=64)$ by lia) (qG (m:=64)$ by lia) (by decide);have K:0<=k*k/\k*k<=1000000:=⟨Int.mul_nonneg hk hk,GN U U hk$ by decide⟩
 have u:fE (k*k) p2:=dY (qG (m:=64)$ by lia) (qG (m:=64)$ by lia) (by decide);have t:fE (k*k) q2:=dY (qG (m:=64)$ by lia) (qG (m:=64)$ by lia) (by decide);generalize Y:(c*p1+k*k*p2+p3)%2147483647=m';have n:0<=m'/\m'<2147483647:=by lia
 have p:fE m' m':=dY (qG (m:=64)$ by lia) (qG (m:=64)$ by lia) (by decide);generalize hm:m'*m'%2147483563=m;have e:0<=m/\m<2147483563:=by lia
 generalize hw1:(c*q1+k*k*q2+q3)%2147483629=z;have l:0<=z/\z<2147483629:=by lia
 have o:fE z m:=dY (qG (m:=64)$ by lia) (qG (m:=64)$ by lia) (by decide);generalize hw:z*m%2147483549=w;obtain⟨lo,h⟩:=low_if c k m es J e.1 (.v$ .int k) (.v$ .int w) .no$ m/4%61-30;obtain⟨d,f,i⟩:=beh_if c w lo es J hc (.v$ .int k)$ .v$ .int m;obtain⟨s,v,g⟩:=span_if w lo d f (.v$ .int c) (.v$ .int k) (.ob (aa 2)$ oT$ es++[lo]++[d])$ .v$ .int m;refine⟨s,lo,d,v,aFs (ds:=[.v$ .int c,.v$ .int k,.ob (aa 2)$ oT$ es++[lo]++[d],.v$ .int m,.v$ .int w,.v$ oi s.1,.v$ oi s.2]) ?_$ by simp⟩;unfold overG
 rw[qI (ds':=[.v$ .int c,.v$ .int k,.ob (aa 2)$ oT es,.v$ .int m',.no,.no,.no])$ by simp[args,jD r,jD j,jD u,Y],
  qI (ds':=[.v$ .int c,.v$ .int k,.ob (aa 2)$ oT es,.v$ .int m,.no,.no,.no]) (by simp[jD p,hm]),
  qI (ds':=[.v$ .int c,.v$ .int k,.ob (aa 2)$ oT es,.v$ .int m,.v$ .int z,.no,.no]) (by simp[jD q,jD j,jD t,hw1]),
  qI (ds':=[.v$ .int c,.v$ .int k,.ob (aa 2)$ oT es,.v$ .int m,.v$ .int w,.no,.no]) (by simp[jD o,hw]),
  qI (ds':=[.v$ .int c,.v$ .int k,.ob (aa 2)$ oT es,.v$ .int m,.v$ .int w,.v$ .int$ m/4%61-30,.no]) (by simp),h,i,
  qI (aIb (es:=es) (x:=lo) rfl (by simp) (by lia)),qI$ aIb (es:=es++[lo]) (x:=d) (by rfl) (by simp)$ by simp;lia]
 simp only[fP,eQ];rw[g];have y:D.tup [oi s.1,oi s.2]=spD s:=rfl;simp[vR,y]
open Builtin.Int (intBits)
noncomputable def putDs(k:Key)(d:D):List Key->List D->List D
 |k'::ks,x::xs=>(if k'=k then d else x)::putDs k d ks xs
 |_,xs=>xs
noncomputable def putKD(k:Key)(d:D)(ks:List Key)(l:List D):List Key×List D:=if hasK k ks=ae then (ks,putDs k d ks l)else (ks++[k],l++[d])
theorem HK k d:∀ks l,putTs k (.val d) ks (l.map OT.val)=(putDs k d ks l).map OT.val
 |[],l=>by cases l<;>simp[putTs,putDs]
 |_::_,[]=>by simp[putTs,putDs]
 |k'::ks,x::l=>by simp only[aQ,putTs,putDs,HK k d ks l];split<;>rfl
def YF k d ks l:putKT k (.val d) ks (l.map OT.val)=.dct (putKD k d ks l).1 ((putKD k d ks l).2.map OT.val):=by
 unfold putKT putKD;split
 . rw[HK]
 . simp
theorem GR:∀l,valsO (l.map OT.val)=aa l
 |[]=>rfl
 |d::l=>by simp[valsO,GR l]
theorem VT:∀{ks:List Key},k∉ks->hasK k ks=ag
 |[],_=>rfl
 |k'::ks,h=>by have a:k'≠k:=λz=>h (by rw[z];exact .head _);have:=VT (k:=k) (ks:=ks) λz=>h$ .tail _ z;unfold hasK at this ⊢;simp[a,this]
def NO(h:k∈ks):hasK k ks=ae:=by unfold hasK;rw[List.any_eq_true];exact⟨k,h,by simp⟩
open Builtin.Int (intBits)
abbrev Mks:=List$ List Nat×Option Int
noncomputable def putM(n:List Nat)(v:Option Int)(mk:Mks):Mks:=if n∈mk.map (·.1)then mk.map λp=>if p.1=n then (p.1,v)else p else mk++[(n,v)]
structure MkOk(mk:Mks):Prop where
 nd:(mk.map (·.1)).Nodup
 nm:∀p∈mk,Nm p.1
def MkOk.nil:MkOk []:=⟨rY,λ_ h=>nomatch h⟩
def MkOk.put{J:Mks}(h:MkOk J)(U:Nm n) v:MkOk (putM n v J):=by
 unfold putM;split
 . have e:(J.map λp=>if p.1=n then (p.1,v)else p).map (·.1)=J.map (·.1):=by
    rw[eI];refine iU λp _=>?_;simp only[Function.comp];split<;>rfl
   refine⟨by rw[e];exact h.nd,λp c=>?_⟩;have:p.1∈(J.map λp=>if p.1=n then (p.1,v)else p).map (·.1):=TC c;rw[e]at this;obtain⟨q,f,e⟩:=bQ.mp this;rw[<-e];exact h.nm q f
 . rename_i d;refine ⟨?_,λp c=>?_⟩
   . rw [dC,cH];refine ⟨h.nd,by simp,λa i b g=>?_⟩;have:b=n:=by simpa using g
     subst this;exact λz=>d$ z▸i
   . rcases bE.mp c with c|c
     . exact h.nm p c
     . rw[aS.mp c];exact U
open Builtin.Int (intBits)
abbrev Bs:=List$ Str×List Rw
noncomputable def bkN(b:Bs):List Key:=b.map λq=>.inr q.1
noncomputable def bkV(b:Bs):List D:=b.map λq=>.lst$ q.2.map rwD
def BT(T:OT)(b:Bs):Prop:=∃a,T=.ins 12 [.dct (bkN b) a]/\otDs a=bkV b
def NmS(x:Str):Prop:=∃a,Nm a/\x=txS a
structure BOk(b:Bs)(m:Nat):Prop where
 nd:(b.map (·.1)).Nodup
 nm:∀q∈b,NmS q.1
 mp:∀q∈b,MapF q.2
 ln:∀q∈b,q.2.length<=m
def aGh(h:NmS x):fU [.str x]=aa (.val$ .bl ae):=by obtain⟨a,h,rfl⟩:=h;exact RM h
theorem wE:∀l,strsD (l.map D.str)=aa l
 |[]=>rfl
 |x::r=>by simp[strsD,wE r]
def aHo{ns:List Str}(h1:1<=ns.length)(U:ns.length<=60)(J:∀x∈ns,NmS x)(nd:ns.Nodup):gJ [.lst$ ns.map D.str]=aa (.val .non):=by
 have f:¬((ns.length:Int)<1):=by lia
 have d:¬((60:Int)<(ns.length:Int)):=by lia
 have a:compG (viaA (qB 0) asLT) [ac] (zM 0) (λ_=>aa ae) (qT 1 fU$ zB (zG 0) zT) [.v$ .lst$ ns.map D.str]=aa (ns.map λ_=>D.bl ae):=by refine yF (items:=ns.map D.str) (by simp) (by simp;lia) ?_;rw[yJ D.str (λ_=>D.bl ae) ns];intro x g;exact⟨_,rfl,by simp[jN,aGh$ J x g]⟩
 have j:allD [.lst$ ns.map λ_=>D.bl ae]=aa (.bl ae):=by
  have e:(ns.map λ_=>D.bl ae)=(ns.map λ_=>ae).map D.bl:=by simp
  rw[e,OM];simp
 have b:lsetE (zG 0) [.v$ .lst$ ns.map D.str]=aa (.int (ns.length:Nat)):=by
  have z:ns.length<1000:=by lia
  have c:=EH ns.reverse$ rF.mpr$ nd.imp λh=>Ne.symm h;unfold lsetE;simp[wE,z,c]
 have i:args 1 [.lst$ ns.map D.str]=[.v$ .lst$ ns.map D.str]:=by simp[args]
 unfold gJ runG lT;rw[i,zQ (ds':=[.v$ .lst$ ns.map D.str])$ by simp[f,d],zQ (ds':=[.v$ .lst$ ns.map D.str])$ by simp[a,j]];simp[b]
def aGb{l:List Str}(h:k∉l):hasK (.inr k) (l.map Sum.inr)=ag:=VT λz=>by obtain⟨x,a,e⟩:=bQ.mp z;cases e;exact h a
theorem IG N:∀(rest done:List Str) x,(done++rest).Nodup->done.length+rest.length<=1000->∃J,jM (zM 2) eM (rest.map D.str) [.ob (aa 0)$ .ins 12 [.dct (done.map Sum.inr)$ done.map λ_=>.lst []],N,x]=aa (.nx [.ob (aa 0)$ .ins 12 [.dct ((done++rest).map Sum.inr)$ (done++rest).map λ_=>.lst []],N,J])
 |[],done,x,_,_=>⟨x,by simp[jM]⟩
 |k::rest,done,x,nd,U=>by
   simp only[aK]at U;have b:(done++[k]++rest).Nodup:=by simpa using nd
   obtain⟨J,e⟩:=IG N rest (done++[k]) (.v$ .str k) b (by simp;omega);refine⟨J,?_⟩;have d:hasK (.inr k) (done.map Sum.inr)=ag:=aGb λz=>by have:=(cH.mp nd).2.2 k z k$ .head _;exact this rfl
   have z:done.length<16777216:=by omega
   have c:(0:Nat)<=sizeLine:=cI _;have a:eM [.ob (aa 0)$ .ins 12 [.dct (done.map Sum.inr)$ done.map λ_=>.lst []],N,.v$ .str k]=aa (.nx [.ob (aa 0)$ .ins 12 [.dct ((done++[k]).map Sum.inr)$ (done++[k]).map λ_=>.lst []],N,.v$ .str k]):=by simp[eM,dputN,sO,nilO,atP,varP,List.lookup,keyD,d,z,c,putP,putO,List.modify]
   simp only[aQ,jM,zM,aZ,fP,eQ,a];rw[show done++k::rest=done++[k]++rest by simp];exact e
def aHu(h1:1<=ns.length)(J:ns.length<=60)(U:∀x∈ns,NmS x)(nd:ns.Nodup):dW (.ins 24 []) [.lst$ ns.map D.str]=aa (.ins 12 [.dct ((srtT ns).map Sum.inr)$ (srtT ns).map λ_=>.lst []]):=by
 have a:=srtT_perm ns;have f:=aHo h1 J U nd;obtain⟨b,e⟩:=IG (.v$ .lst$ ns.map D.str) (srtT ns) [] .no (by rw[dB];exact a.nodup_iff.mpr nd) (by rw[a.length_eq];simp;lia);have st:srtTA (zG 1) [.ob (aa 0)$ .ins 12 [.dct [] []],.v$ .lst$ ns.map D.str,.no]=aa ((srtT ns).map D.str):=by
  have z:ns.length<64:=by lia
  unfold srtTA;simp[wE,z]
 have d:∀T l,dW T l=match fV (argsL 3 T l)with|some (.nx ds)=>ob0 ds[0]?|_=>ac:=λ_ _=>rfl
 rw[d];unfold fV;have g:argsL 3 (.ins 24 []) [.lst$ ns.map D.str]=[.ob (aa 0)$ .ins 24 [],.v$ .lst$ ns.map D.str,.no]:=by simp[argsL,args]
 rw[g,zQ (ds':=[.ob (aa 0)$ .ins 24 [],.v$ .lst$ ns.map D.str,.no])$ by simp[dropG,f],zQ (ds':=[.ob (aa 0)$ .ins 12 [.dct [] []],.v$ .lst$ ns.map D.str,.no])$ by simp[setNw,varP,dO0,putP,putO]];simp[dO,dB]at e;have c:forG (viaA (mkL$ srtTA$ zG 1) asLT) (zM 2) eM [.ob (aa 0)$ .ins 12 [.dct [] []],.v$ .lst$ ns.map D.str,.no]=aa (.nx [.ob (aa 0)$ .ins 12 [.dct ((srtT ns).map Sum.inr)$ (srtT ns).map λ_=>.lst []],.v$ .lst$ ns.map D.str,b]):=by simp[st,e]
 rw[c];rfl
def bt_new(l:List Str):BT (.ins 12 [.dct (l.map Sum.inr)$ l.map λ_=>.lst []]) (l.map λx=>(x,[])):=by
 refine⟨l.map λ_=>.lst [],by simp[bkN],?_⟩;induction l with
 |nil=>simp[otDs,bkV]
 |cons x r a=>simp only[aQ,otDs,otD,a,bkV];rfl
theorem VV:∀{b:Bs},(b.map (·.1)).Nodup->(x,ps)∈b->getKD (.inr x) (bkN b) (bkV b)=aa (.lst$ ps.map rwD)
 |[],_,h=>nomatch h
 |q::b,nd,h=>by
   rw[aQ,bK]at nd;simp only[bkN,bkV,aQ,getKD];rcases aA.mp h with e|h
   . rw[<-e];simp
   . have ne:q.1≠x:=λz=>nd.1$ z▸bQ.mpr ⟨(x,ps),h,rfl⟩;rw[if_neg λz=>ne$ by cases z;rfl];exact VV nd.2 h
def aGl(h:(x,ps)∈b):hasK (.inr x) (bkN b)=ae:=NO$ bQ.mpr ⟨(x,ps),h,rfl⟩
def only_eq(ok:BOk b m)(h:(x,ps)∈b)(z:kdD M=aa (bkN b,bkV b)):iJ [.ins 12 [M],.str x]=aa (.fresh$ ps.map rwD):=by
 have nm:=aGh$ ok.nm _ h;have g:=VV ok.nd h;have d:=aGl h;have e:=yI ps;unfold iJ runG lU;have f:args 2 [.ins 12 [M],.str x]=[.v$ .ins 12 [M],.v$ .str x]:=by simp[args]
 have c:∀a:List Sl,a[0]?=aa (.v$ .ins 12 [M])->fldG [(12,0)] (qB 0) a=aa M:=λa hd=>by simp[fldG,qB,hd,fldD,List.lookup]
 rw[f,zQ (ds':=[.v$ .ins 12 [M],.v$ .str x])$ by simp[nm,dnotG,dinG,c,keyD,z,d]];simp[lisA,dgetG,c,keyD,z,g,asLT,e]
noncomputable def updB(x:Str)(f:List Rw->List Rw)(b:Bs):Bs:=b.map λq=>if q.1=x then (q.1,f q.2)else q
def bkN_upd x f b:bkN (updB x f b)=bkN b:=by unfold bkN updB;rw[eI];refine iU λq _=>?_;simp only[Function.comp_apply];split<;>rfl
theorem CY k d:∀ks ts,otDs (putTs k (.val d) ks ts)=putDs k d ks (otDs ts)
 |[],ts=>by cases ts<;>simp[putTs,putDs]
 |_::_,[]=>by simp[putTs,putDs,otDs]
 |k'::ks,t::ts=>by simp only[putTs,putDs,otDs,CY k d ks ts];split<;>simp[otD]
theorem UN f:∀{b:Bs},(b.map (·.1)).Nodup->(x,ps)∈b->putDs (.inr x) (.lst$ (f ps).map rwD) (bkN b) (bkV b)=bkV (updB x f b)
 |[],_,h=>nomatch h
 |q::b,nd,h=>by
   rw[aQ,bK]at nd;have c:∀{b:Bs},x∉b.map (·.1)->putDs (.inr x) (.lst$ (f ps).map rwD) (bkN b) (bkV b)=bkV (updB x f b):=by
    intro b;induction b with
    |nil=>intro _;rfl
    |cons r b d=>intro a;simp only[aQ,aA,not_or]at a;simp only[bkN,bkV,updB,aQ,putDs];rw[if_neg (λz=>a.1$ by cases z;rfl),if_neg λz=>a.1 z.symm];congr 1;exact d a.2
   rcases aA.mp h with e|h
   . subst e;have:=c nd.1;simp only[bkN,bkV,updB,aQ,putDs,if_true];congr 1
   . have ne:q.1≠x:=λz=>nd.1$ z▸bQ.mpr ⟨(x,ps),h,rfl⟩;have:=UN f nd.2 h;simp only[bkN,bkV,updB,aQ,putDs];rw[if_neg (λz=>ne$ by cases z;rfl),if_neg ne];congr 1
def put_b(ok:BOk b m)(hm:m<=1000)(hb:b.length<=1000)(Y:BT T b)(h:(x,ps)∈b)(U:okS s) v :
  ∃J,BT J (updB x (λps=>put1 ps (s,v)) b)/\dputG (atP [(12,0)]$ varP 0) (qB 1) (ofO$ relGO 0$ lO$ wP 3 lC$ zB (methV 1 [12] dU (qB 0)$ zB (zG 1) zT)$ zB (zG 2)$ zB (zA$ oi v) zT) [.ob (aa 0) T,.v$ .str x,.v$ spD s]=aa (.nx [.ob (aa 0) J,.v$ .str x,.v$ spD s]):=by
 obtain⟨a,rfl,d⟩:=Y;have g:=put_eq (ok.mp _ h) (cS (ok.ln _ h)$ by lia) (v:=v) U;have on:=only_eq ok h (M:=.dct (bkN b)$ bkV b) rfl;have i:=aGl h;have e:=UN (λps=>put1 ps (s,v)) ok.nd h;have j:=yI$ put1 ps (s,v);have z:(bkN b).length<16777216:=by simp[bkN];lia
 have f:otD (.ins 12 [.dct (bkN b) a])=.ins 12 [.dct (bkN b)$ bkV b]:=by simp[otD,otDs,d]
 have k:(ofO$ relGO 0$ lO$ wP 3 lC$ zB (methV 1 [12] dU (qB 0)$ zB (zG 1) zT)$ zB (zG 2)$ zB (zA$ oi v) zT) [.ob (aa 0)$ .ins 12 [.dct (bkN b) a],.v$ .str x,.v$ spD s]=aa (.lst$ (put1 ps (s,v)).map rwD):=by generalize hq:(put1 ps (s,v)).map rwD=q at *;have c:dU 12 [.ins 12 [.dct (bkN b)$ bkV b],.str x]=aa (.fresh$ ps.map rwD):=on;unfold ofO relGO relO;simp only[dA,f,eQ];simp[methV,methR,c,g,flatO,AO,j,otD,kH]
 refine⟨.ins 12 [.dct (bkN b)$ putTs (.inr x) (.val$ .lst$ (put1 ps (s,v)).map rwD) (bkN b) a],⟨_,by rw[bkN_upd],by rw[CY,d,e]⟩,?_⟩;unfold dputG;rw[k];simp[atP,varP,List.lookup,keyD,z,putP,putO,putKT,i,List.modify]
def lay_eq(ok:BOk b m)(hm:m<=1000)(J:b.length<=1000)(U:BT T b)(h:(x,ps)∈b)(z:okS s):∃T',BT T' (updB x (λps=>put1 ps (s,aa 1)) b)/\eY T [.str x,spD s]=aa T':=by
 obtain⟨T',c,a⟩:=put_b ok hm J U h z$ aa 1;refine⟨T',c,?_⟩;have d:∀T l,eY T l=match iW (argsL 3 T l)with|some (.nx ds)=>ob0 ds[0]?|_=>ac:=λ_ _=>rfl
 have e:argsL 3 T [.str x,spD s]=[.ob (aa 0) T,.v$ .str x,.v$ spD s]:=by simp[argsL,args]
 rw[d,e];unfold iW;rw[show(D.int 1)=oi (aa 1) from rfl,a];rfl
def lift_eq(ok:BOk b m)(hm:m<=1000)(J:b.length<=1000)(U:BT T b)(h:(x,ps)∈b)(z:okS s):∃T',BT T' (updB x (λps=>put1 ps (s,ac)) b)/\eO T [.str x,spD s]=aa T':=by
 obtain⟨T',c,a⟩:=put_b ok hm J U h z ac;refine⟨T',c,?_⟩;have d:∀T l,eO T l=match iK (argsL 3 T l)with|some (.nx ds)=>ob0 ds[0]?|_=>ac:=λ_ _=>rfl
 have e:argsL 3 T [.str x,spD s]=[.ob (aa 0) T,.v$ .str x,.v$ spD s]:=by simp[argsL,args]
 rw[d,e];unfold iK;rw[show(D.non)=oi ac from rfl,a];rfl
noncomputable def ltrB(n:Int):Nat:=(97+n%26).toNat
def ltr_ok n:97<=ltrB n/\ltrB n<=122:=by unfold ltrB;lia
def aFm(h:ltrB a=ltrB b):a%26=b%26:=by unfold ltrB at h;lia
def abc_at n:ixD (.str$ Str.ofString "abcdefghijklmnopqrstuvwxyz") (.int$ n%26)=aa (.str$ txS [ltrB n]):=by
 have b:=fF n (show(26:Int)≠0 by decide);have a:=kY n (show(0:Int)<26 by decide);unfold ltrB;generalize n%26=i at *;have e:ixD (.str$ txS abcL) (.int i)=(abcL[i.toNat]?).map λc=>D.str (txS [c]):=by show(if (txS abcL).length<=sizeLine then (atI abcL i).map λc=>D.str ⟨#[c]⟩else ac)=_;rw[VI,if_pos$ by decide];unfold atI;rw[JW b$ by show i<26;exact a];rfl
 have g:i.toNat<abcL.length:=by show i.toNat<26;lia
 have f:abcL=List.range' 97 26:=by decide
 have d:abcL[i.toNat]?=aa (97+i.toNat):=by rw[f,List.getElem?_range'$ by lia];simp
 rw[t_abc,e,d,show(97+i).toNat=97+i.toNat by lia];rfl
theorem VM:∀ps:List (List Nat),Str.join (txS []) (ps.map txS)=txS ps.flatten
 |[]=>rfl
 |[p]=>by simp[Str.join]
 |p::q::r=>by have a:=VM$ q::r;show txS p++txS []++Str.join (txS []) ((q::r).map txS)=_;rw[a,TN,TN];simp
def ZO cs(z:cs.length<=1000):joinD (.str$ Str.ofString "") (.lst$ cs.map λc=>.str$ txS [c])=aa (.str$ txS cs):=by
 have st:strsD (cs.map λc=>D.str$ txS [c])=aa (cs.map λc=>txS [c]):=by have:=wE$ cs.map λc=>txS [c];rwa [eI]at this
 have b:((cs.map λc=>txS [c]).map (·.length)).sum=cs.length:=by
  clear z st;induction cs with
  |nil=>rfl
  |cons c r a=>simp only[aQ,mM,a,VI,aK,pX];lia
 unfold joinD;simp only[st,aZ];rw[if_pos ⟨by decide,by rw[b,bS];lia⟩];have:Txt.join (Str.ofString "") (cs.map λc=>txS [c])=Str.join (txS []) ((cs.map λc=>[c]).map txS):=by show Builtin.Str.glued _ _=_;rw[StrLaws.glued_eq_join,t_empty,eI];rfl
 rw[this,VM];congr 3;clear z st b this;induction cs with
 |nil=>rfl
 |cons c r a=>simp[a]
noncomputable def stepN(d core r:Int):Int:=if r=0 then core else if r=1 then core/d else 0
def step_at d z r(h:0<=r):ixD (.lst [.int z,.int$ z/d,.int 0]) (.int$ if 2<r then 2 else r)=aa (.int$ stepN d z r):=by
 unfold stepN;rcases(by lia:r=0\/r=1\/r=2\/2<r)with e|e|e|e
 . subst e;rfl
 . subst e;rfl
 . subst e;rfl
 . rw[if_pos e,if_neg$ by lia,if_neg$ by lia];rfl
noncomputable def baseN(A:Nat->Int)(e:Int)(size:Nat)(core:Int):List Nat:=(List.range size).map λj=>ltrB$ A j+stepN 26 core (((j:Int)+e)%(size:Int))
def EQ A e size z:(baseN A e size z).length=size:=by simp[baseN]
def aHw A e size z:Ltr (baseN A e size z):=λc a=>by obtain⟨j,_,rfl⟩:=bQ.mp a;exact ltr_ok _
def aEc e{size:Nat}(h:0<size) r(z:r<size):∃j,j<size/\((j:Int)+e)%(size:Int)=r:=by
 refine⟨(((r:Int)-e)%(size:Int)).toNat,?_,?_⟩
 . have:=kY ((r:Int) - e) (show 0 < (size:Int) by lia);have:=fF ((r:Int) - e) (show (size:Int)≠0 by lia)
   lia
 . have:=fF ((r:Int)-e) (show(size:Int)≠0 by lia);rw[tI this,Int.emod_add_emod,show(r:Int)-e+e=r by lia];exact Int.emod_eq_of_lt (by lia) (by lia)
def aHx(h1:1<=size)(z:0<=a/\a<676/\(size=1->a<26))(J:0<=b/\b<676/\(size=1->b<26))(h:baseN A e size a=baseN A e size b):a=b:=by
 have at':∀j,j<size->ltrB (A j+stepN 26 a (((j:Int)+e)%(size:Int)))=ltrB (A j+stepN 26 b (((j:Int)+e)%(size:Int))):=λj n=>by have:=congrArg (λl=>l[j]?) h;simpa[baseN,n]using this
 obtain⟨k,g,r⟩:=aEc e (size:=size) (by lia) 0 (by lia);have d:=aFm$ at' k g;simp[stepN,Int.natCast_zero,if_true]at d;by_cases m:size=1
 . have:=z.2.2 m
   lia
 . obtain ⟨i,f,o⟩:=aEc e (size:=size) (by lia) 1 (by lia);have c:=aFm (at' i f);rw [o]at c;simp only [stepN]at c;have q:¬ ((1:Nat):Int)=0:=by decide
   have p:((1:Nat):Int)=1:=rfl
   lia
abbrev Dds:=List$ Str×Spn×Bool
noncomputable def ddD(d:Str×Spn×Bool):D:=.tup [.str d.1,spD d.2.1,.bl d.2.2]
noncomputable def layV(l:Bool):Option Int:=if l=ae then aa 1 else ac
def VU s p:kQ [spD s,.int p]=aa (.val$ .bl$ hasS s p):=by
 obtain⟨a,b⟩:=s;unfold kQ runG uB;cases a with
 |none=>
   cases b with
   |none=>simp[args,hasS,spD]
   |some b=>by_cases d:p<b<;>simp[args,hasS,spD,d]
 |some a=>
   cases b with
   |none=>by_cases c:a<=p<;>simp[args,hasS,spD,c]
   |some b=>
     by_cases c:a<=p
     . by_cases d:p<b<;>simp[args,hasS,spD,c,d]
     . simp[args,hasS,spD,c]
theorem LM:∀{J:List Rw}{x:Int},Til (aa x) J->∀r∈J,∃y,r.1=aa y/\x<=y
 |[],_,h,_,_=>h.elim
 |r0::J,x,⟨h1,h2,Y,U⟩,r,a=>by
   rcases aA.mp a with rfl|a
   . exact⟨x,h1,dS _⟩
   . cases e:r0.2.1 with
     |none=>rw[Y e]at a;cases a
     |some z=>obtain⟨y,b,c⟩:=LM (U z e) r a;have:=h2 x z rfl e;exact⟨y,b,by omega⟩
theorem xL:∀{J:List Rw}{here:Option Int},Til here J->Ord J
 |[],_,h=>h.elim
 |r::J,here,⟨h1,h2,Y,U⟩=>by
   have ok:ok3 r:=λa b f d=>h2 a b (h1.symm.trans f) d;cases e:r.2.1 with
   |none=>rw[Y e];exact⟨λz c=>by rw[aS.mp c];exact ok,eA _ _⟩
   |some x=>have o:=xL$ U x e;refine⟨λz c=>(aA.mp c).elim (λe=>e▸ok)$ o.ok z,bI.mpr ⟨λz c=>?_,o.pw⟩⟩;obtain⟨y,f,d⟩:=LM (U x e) z c;exact⟨x,y,e,f,d⟩
theorem PZ p:∀{z:List Rw}{here:Option Int},Til here z->∃r,z.find? (befB p)=aa r
 |[],_,h=>h.elim
 |r::z,here,⟨h1,h2,Y,U⟩=>by
   rw[cY];cases J:befB p r with
   |true=>exact⟨r,rfl⟩
   |false=>
     cases e:r.2.1 with
     |none=>unfold befB at J;rw[e]at J;cases J
     |some x=>exact PZ p$ U x e
def aCq(h:Til ac rs) p:valL rs p=atB p rs:=by rw[vJ$ xL h,vB p rs ac h λ_ e=>nomatch e];rfl
noncomputable def mapR(W:Option Int->Option Int)(rs:List Rw):List Rw:=rs.map λr=>(r.1,r.2.1,W r.2.2)
theorem JB W:∀{z:List Rw}{here:Option Int},Til here z->Til here (mapR W z)
 |[],_,h=>h
 |r::z,here,⟨h1,h2,U,J⟩=>⟨h1,h2,λe=>by rw[U e];rfl,λx e=>JB W$ J x e⟩
def atB_map W(h:∃r,z.find? (befB p)=aa r):atB p (mapR W z)=W (atB p z):=by
 obtain⟨r,a⟩:=h;have e:(mapR W z).find? (befB p)=aa (r.1,r.2.1,W r.2.2):=by unfold mapR;rw[List.find?_map];have:(befB p ∘ λr:Rw=>((r.1,r.2.1,W r.2.2):Rw))=befB p:=rfl;rw[this,a];rfl
 unfold atB;rw[a,e]
noncomputable def turnF(W:Option Int->Option Int)(ps:List Rw):List Rw:=knitF$ mapR W$ jA ps
def GX W(o:Ord ps):MapF (turnF W ps):=vS$ xL$ JB W$ jX o
def turn_at W(o:Ord ps) p:valL (turnF W ps) p=W (valL ps p):=by have t:=JB W$ jX o;rw[show valL (turnF W ps) p=valL (mapR W$ jA ps) p from GV (GX W o).ord (xL t) λv=>vW (xL t) p v,aCq t,atB_map W$ PZ p$ jX o,KP o]
def aCo W ps:(turnF W ps).length<=2*ps.length+1:=cS (IB _) (by unfold mapR;rw[bS];exact xF ps)
def aEz o:noclo (oi o)=ae:=by cases o<;>simp[noclo]
theorem HU:∀l:List Rw,nR (l.map rwD)=ae
 |[]=>rfl
 |r::l=>by simp[nR,noclo,rwD,aEz,HU l]
theorem AC(hW:∀v,U c [oi v]=aa (.val$ oi$ W v)) s0 x y z(Y:s0=[x,y,z,.v c]):∀J,
  compL (tupG 3$ zR (zM 0)$ zR (zM 1)$ zR (zM 2) tgNil) (λ_=>aa ae) (mkT$ qM$ zB (qB 0)$ zB (qB 1)$ zB (callW U 3$ zB (zG 2) zT) zT) s0 (J.map rwD)=aa ((mapR W J).map rwD)
 |[]=>by simp[compL,mapR]
 |r::J=>by
   have a:=AC hW s0 x y z Y J;subst Y;have b:=hW r.2.2;rw[aQ,compL];have e:tupG 3 (zR (zM 0)$ zR (zM 1)$ zR (zM 2) tgNil) (rwD r) [x,y,z,.v c]=aa [.v$ oi r.1,.v$ oi r.2.1,.v$ oi r.2.2,.v c]:=by simp[rwD]
   have d:mkT (qM$ zB (qB 0)$ zB (qB 1)$ zB (callW U 3$ zB (zG 2) zT) zT) [.v$ oi r.1,.v$ oi r.2.1,.v$ oi r.2.2,.v c]=aa (rwD (r.1,r.2.1,W r.2.2)):=by simp[callW,b,rwD,retV]
   rw[e];simp only[aZ,if_true,d,a,cW];rfl
def XO(J:∀v,z c [oi v]=aa (.val$ oi$ W v))(U:ps.length<=100000):fT z [.lst$ ps.map rwD,c]=aa (.fresh$ (turnF W ps).map rwD):=by
 have f:=JF ps (by lia);have d:=xF ps;have e:=JT (mapR W$ jA ps) (by unfold mapR;rw[bS];lia);have b:=yI$ turnF W ps;have a:compG (viaA (qT 1 fH$ zB (zG 0) zT) asLT) [ac,ac,ac,aa 1] (tupG 3$ zR (zM 0)$ zR (zM 1)$ zR (zM 2) tgNil) (λ_=>aa ae) (mkT$ qM$ zB (qB 0)$ zB (qB 1)$ zB (callW z 3$ zB (zG 2) zT) zT) [.v$ .lst$ ps.map rwD,.v c]=aa ((mapR W$ jA ps).map rwD):=by refine yF (items:=(jA ps).map rwD) (by simp[f,retV]) (by simp;lia) ?_;exact AC J _ .no .no .no rfl _
 unfold turnF at b ⊢;unfold fT runG pZ;simp[args,a,e,b]
def XM(U:∀v,z c [oi v]=aa (.val$ oi$ W v))(J:ps.length<=100000):ncF (fT z) [.lst$ ps.map rwD,c]=aa (.fresh$ (turnF W ps).map rwD):=by unfold ncF;rw[XO U J];simp[ncR,HU]
open Builtin.Int (intBits)
noncomputable def joinR(W:Option Int->Option Int->Option Int)(L:List R4):List Rw:=L.map λr=>(r.1,r.2.1,W r.2.2.1 r.2.2.2)
theorem MR W:∀n here as bs,as.length+bs.length<=n->Rem here as->Rem here bs->Til here (joinR W$ yC n here as bs)
 |_,_,[],_,_,h,_=>h.elim
 |_,_,_::_,[],_,_,h=>h.elim
 |0,_,_::_,_::_,h,_,_=>by simp at h
 |n+1,here,a::as,b::bs,Y,U,J=>by
   have i:=JD a b as bs;simp only[aK]at Y;show Til here ((here,qO a.2.1 b.2.1,W a.2.2 b.2.2)::joinR W (yC n (qO a.2.1 b.2.1) (stp (qO a.2.1 b.2.1)$ a::as)$ stp (qO a.2.1 b.2.1)$ b::bs));refine⟨rfl,λh x g d=>?_,λe=>?_,λx e=>?_⟩
   . have d:qO a.2.1 b.2.1=aa x:=d;cases f:a.2.1 with
     |none=>
       rw[f]at d;cases c:b.2.1 with
       |none=>rw[c]at d;cases d
       |some y=>rw[c]at d;cases d;exact J.1 h _ g c
     |some y=>
       rw[f]at d;cases c:b.2.1 with
       |none=>rw[c]at d;cases d;exact U.1 h _ g f
       |some z=>rw[c]at d;have j:min y z=x:=Option.some.inj d;have:=U.1 h _ g f;have:=J.1 h _ g c;omega
   . have e:qO a.2.1 b.2.1=ac:=e;rw[e,(kG U J e).1,wF];rfl
   . have e:qO a.2.1 b.2.1=aa x:=e;rw [e]at i ⊢;have xa:∀y,a.2.1=aa y->x<=y:=λy f=>by
      rw[f]at e;cases c:b.2.1 with
      |none=>rw[c]at e;cases e;exact dS _
      |some z=>rw[c]at e;have j:min y z=x:=Option.some.inj e;omega
     have k:∀y,b.2.1=aa y->x<=y:=λy c=>by
      rw[c]at e;cases f:a.2.1 with
      |none=>rw[f]at e;cases e;exact dS _
      |some z=>rw[f]at e;have j:min z y=x:=Option.some.inj e;omega
     refine MR W n (aa x) _ _ (by omega) ?_ ?_
     . rcases xO U xa with h|h
       . exact h.2.2
       . exact h.2
     . rcases xO J k with h|h
       . exact h.2.2
       . exact h.2
theorem MT:∀n here as bs,(yC n here as bs).length<=n
 |0,_,_,_=>by simp[yC]
 |n+1,_,[],_=>by simp[yC]
 |n+1,_,_::_,[]=>by simp[yC]
 |n+1,here,a::as,b::bs=>by have:=MT n (qO a.2.1 b.2.1) (stp (qO a.2.1 b.2.1)$ a::as)$ stp (qO a.2.1 b.2.1)$ b::bs;rw[yC,aK];omega
noncomputable abbrev pairR(ps qs:List Rw):List R4:=yC ((jA ps).length+(jA qs).length) ac (jA ps)$ jA qs
noncomputable def wC(W:Option Int->Option Int->Option Int)(ps qs:List Rw):List Rw:=knitF$ joinR W$ pairR ps qs
section
variable(W:Option Int->Option Int->Option Int){ps qs:List Rw}
def NI(J:Ord ps)(z:Ord qs):Til ac (joinR W$ pairR ps qs):=MR W _ ac _ _ (aL _) (jX J).rem (jX z).rem
def kB(J:Ord ps)(z:Ord qs):MapF (wC W ps qs):=vS$ xL$ NI W J z
def VN(J:Ord ps)(z:Ord qs)(p:Int):valL (wC W ps qs) p=W (valL ps p) (valL qs p):=by
 have t:=NI W J z;rw[show valL (wC W ps qs) p=valL (joinR W$ pairR ps qs) p from GV (kB W J z).ord (xL t) λv=>vW (xL t) p v,vJ$ xL t];obtain⟨r,a⟩:=PZ p t;rw[<-vB p _ ac t (λ_ e=>nomatch e)]at a;rw[a];have h:has3 r p=ae:=by simpa using nB a
 obtain⟨f,g,rfl⟩:=bQ.mp$ fW a;have d:=(HQ _ ac _ _ (aL _)$ .inr ⟨(jX J).rem,(jX z).rem⟩).1 f g;obtain⟨c,b⟩:=d.2.2 p h λ_ e=>nomatch e;rw[KP J]at c;rw[KP z]at b;simp[c,b]
end
theorem AM(Y:∀u v,J c [oi u,oi v]=aa (.val$ oi$ W u v)) s0 x y z t(U:s0=[x,y,z,t,.v c]):∀L,
  compL (tupG 4$ zR (zM 0)$ zR (zM 1)$ zR (zM 2)$ zR (zM 3) tgNil) (λ_=>aa ae) (mkT$ qM$ zB (qB 0)$ zB (qB 1)$ zB (callW J 4$ zB (zG 2)$ zB (zG 3) zT) zT) s0 (L.map r4D)=aa ((joinR W L).map rwD)
 |[]=>by simp[compL,joinR]
 |r::L=>by
   have a:=AM Y s0 x y z t U L;subst U;have b:=Y r.2.2.1 r.2.2.2;rw[aQ,compL];have e:tupG 4 (zR (zM 0)$ zR (zM 1)$ zR (zM 2)$ zR (zM 3) tgNil) (r4D r) [x,y,z,t,.v c]=aa [.v$ oi r.1,.v$ oi r.2.1,.v$ oi r.2.2.1,.v$ oi r.2.2.2,.v c]:=by simp[r4D]
   have d:mkT (qM$ zB (qB 0)$ zB (qB 1)$ zB (callW J 4$ zB (zG 2)$ zB (zG 3) zT) zT) [.v$ oi r.1,.v$ oi r.2.1,.v$ oi r.2.2.1,.v$ oi r.2.2.2,.v c]=aa (rwD (r.1,r.2.1,W r.2.2.1 r.2.2.2)):=by simp[callW,b,rwD,retV]
   rw[e];simp only[aZ,if_true,d,a,cW];rfl
def ZN(Y:∀u v,z c [oi u,oi v]=aa (.val$ oi$ W u v))(U:Ord ps)(J:Ord qs)(h1:ps.length<=10000)(h2:qs.length<=10000):mH z [.lst$ ps.map rwD,.lst$ qs.map rwD,c]=aa (.fresh$ (wC W ps qs).map rwD):=by
 have f:=YR U J h1 h2;have j:=xF ps;have i:=xF qs;have h:=MT ((jA ps).length+(jA qs).length) ac (jA ps)$ jA qs;have k:(joinR W$ pairR ps qs).length=(yC ((jA ps).length+(jA qs).length) ac (jA ps)$ jA qs).length:=bS _;have g:=JT (joinR W$ pairR ps qs) (by lia);have e:=yI$ wC W ps qs;have d:∀(a b:Sl),compG (viaA (qB 3) asLT) [ac,ac,ac,ac,aa 2] (tupG 4$ zR (zM 0)$ zR (zM 1)$ zR (zM 2)$ zR (zM 3) tgNil) (λ_=>aa ae) (mkT$ qM$ zB (qB 0)$ zB (qB 1)$ zB (callW z 4$ zB (zG 2)$ zB (zG 3) zT) zT) [a,b,.v c,.v$ .lst$ (pairR ps qs).map r4D]=aa ((joinR W$ pairR ps qs).map rwD):=λa b=>by refine yF (items:=(pairR ps qs).map r4D) (by simp) (by simp;lia) ?_;exact AM Y _ .no .no .no .no rfl _
 unfold wC at e ⊢;unfold mH runG rD;simp[args,f,d,g,e]
open Builtin.Int (intBits)
abbrev Dvs:=List$ Str×Rv
noncomputable def mstep(y:Str)(ps:List Rw)(d:Str×Rv):List Rw:=if d.1=y then put1 ps d.2 else ps
noncomputable def mapOf(ds:Dvs)(y:Str):List Rw:=ds.foldl (mstep y) []
noncomputable def vstep(y:Str)(p:Int)(b:Option Int)(d:Str×Rv):Option Int:=if d.1=y/\hasS d.2.1 p=ae then d.2.2 else b
noncomputable def vF(ds:Dvs)(y:Str)(p:Int):Option Int:=ds.foldl (vstep y p) ac
theorem BN y:∀(ds:Dvs) m,MapF m->(∀d∈ds,okS d.2.1)->MapF (ds.foldl (mstep y) m)/\(ds.foldl (mstep y) m).length<=m.length+2*ds.length/\∀p,valL (ds.foldl (mstep y) m) p=ds.foldl (vstep y p) (valL m p)
 |[],m,hm,_=>⟨hm,by simp,λp=>rfl⟩
 |d::ds,m,hm,J=>by
   have f:MapF (mstep y m d)/\(mstep y m d).length<=m.length+2/\∀p,valL (mstep y m d) p=vstep y p (valL m p) d:=by
    have hd:=J d$ .head _;unfold mstep vstep;by_cases h:d.1=y
    . rw[if_pos h];refine⟨MF hm hd,aDr hm hd,λp=>?_⟩;rw[aDp hm hd];simp[h]
    . rw[if_neg h];exact⟨hm,by omega,λp=>by rw[if_neg λz=>h z.1]⟩
   obtain⟨a,b,c⟩:=BN y ds (mstep y m d) f.1 λe g=>J e$ .tail _ g;rw[cK,aK];refine⟨a,by omega,λp=>?_⟩;rw[c p,f.2.2 p,cK]
def vN(z:∀d∈ds,okS d.2.1) y:MapF (mapOf ds y):=(BN y ds [] MapF.nil z).1
def HX(z:∀d∈ds,okS d.2.1) y:(mapOf ds y).length<=2*ds.length:=by have:=(BN y ds [] MapF.nil z).2.1;rw[pX,OU]at this;exact this
def uN(z:∀d∈ds,okS d.2.1) y p:valL (mapOf ds y) p=vF ds y p:=(BN y ds [] MapF.nil z).2.2 p
def RD ds d y:mapOf (ds++[d]) y=mstep y (mapOf ds y) d:=by simp[mapOf]
noncomputable def bOf(ns:List Str)(ds:Dvs):Bs:=(srtT ns).map λx=>(x,mapOf ds x)
def OK ns ds:(bOf ns ds).map (·.1)=srtT ns:=by unfold bOf;rw[eI];exact List.map_id _
def bOf_upd ns ds x r:updB x (λps=>put1 ps r) (bOf ns ds)=bOf ns (ds++[(x,r)]):=by
 unfold updB bOf;rw[eI];refine iU λy _=>?_;simp only[Function.comp_apply,RD,mstep];by_cases h:y=x
 . subst h;simp
 . rw[if_neg h,if_neg λz=>h z.symm]
def aHy(J:∀x∈ns,NmS x)(nd:ns.Nodup)(z:∀d∈ds,okS d.2.1):BOk (bOf ns ds) (2*ds.length):=by
 have b:=srtT_perm ns;refine⟨by rw[OK];exact b.nodup_iff.mpr nd,λq a=>?_,λq a=>?_,λq a=>?_⟩
 all_goals obtain⟨x,c,rfl⟩:=bQ.mp a
 . exact J x$ b.mem_iff.mp c
 . exact vN z x
 . exact HX z x
def WJ ns ds:(bOf ns ds).length=ns.length:=by have:=congrArg List.length$ OK ns ds;rw[bS,(srtT_perm ns).length_eq]at this;exact this
def WI(h:x∈ns) ds:(x,mapOf ds x)∈bOf ns ds:=bQ.mpr ⟨x,(srtT_perm ns).mem_iff.mpr h,rfl⟩
noncomputable def endsV(ds:Dvs):List Int:=ds.flatMap λd=>d.2.1.1.toList++d.2.1.2.toList
theorem vZ:∀ds,(endsV ds).length<=2*ds.length
 |[]=>by simp[endsV]
 |⟨x,⟨a,b⟩,v⟩::ds=>by have:=vZ ds;unfold endsV at this ⊢;rw[aBj,cD,cD,aK];generalize (List.flatMap (λd:Str×Rv=>d.2.1.1.toList++d.2.1.2.toList) ds).length=n at *;cases a<;>cases b<;>simp<;>omega
def ZY(h1:s.1≠aa p)(h2:s.2≠aa p):hasS s p=hasS s (p-1):=by
 obtain⟨a,b⟩:=s;unfold hasS;cases a with
 |none=>
   cases b with
   |none=>rfl
   |some b=>
     have:b≠p:=λz=>h2 (by rw[z])
     lia
 |some a=>
   have e:a≠p:=λz=>h1 (by rw[z]);have c:decide (a<=p)=decide (a<=p-1):=by rw[decide_eq_decide];lia
   cases b with
   |none=>simp[c]
   |some b=>
     have d:b≠p:=λz=>h2 (by rw[z]);have f:decide (p<b)=decide (p-1<b):=by rw[decide_eq_decide];lia
     simp[c,f]
def vF_same(h:p∉endsV ds):vF ds y p=vF ds y (p-1):=by
 unfold vF;generalize (ac:Option Int)=b;induction ds generalizing b with
 |nil=>rfl
 |cons d ds a=>unfold endsV at h;rw[aBj,bE,not_or]at h;have e:hasS d.2.1 p=hasS d.2.1 (p-1):=ZY (λz=>h.1$ by rw[z];simp) (λz=>h.1$ by rw[z];simp);rw[cK,cK,a h.2];unfold vstep;rw[e]
def aCl(hm:MapF m):valL m p=ac↔∀r∈m,has3 r p=ag:=by
 constructor
 . intro h r a;cases b:has3 r p with
   |false=>rfl
   |true=>
     cases z:r.2.2 with
     |none=>exact absurd z$ hm.val r a
     |some v=>have:=(jJ hm.ord p v).mpr ⟨r,a,b,z⟩;rw[h]at this;cases this
 . intro h;cases z:valL m p with
   |none=>rfl
   |some v=>obtain⟨r,a,b,_⟩:=(jJ hm.ord p v).mp z;rw[h r a]at b;cases b
def RG(hm:MapF m){lo:Int}(U:r∈m)(J:r.1=aa lo):valL m lo≠valL m (lo-1):=by
 intro e;obtain⟨v,B⟩:∃v,r.2.2=aa v:=by
  cases h:r.2.2 with
  |none=>exact absurd h$ hm.val r U
  |some v=>exact⟨v,rfl⟩
 have u:has3 r lo=ae:=by
  rw[jI];refine⟨λx b=>?_,λy d=>?_⟩
  . rw[J]at b;cases b;lia
  . exact hm.ord.ok r U lo y J d
 have G:=(jJ hm.ord lo v).mpr ⟨r,U,u,B⟩;rw[G]at e;obtain⟨a,D,c,A⟩:=(jJ hm.ord (lo-1) v).mp e.symm;obtain⟨i,hi,g⟩:=fJ D;obtain⟨j,k,f⟩:=fJ U;have pw:=bX.mp hm.ord.pw;rw[jI]at c;have l:i≠j:=λz=>by
  subst z;rw[g]at f;subst f;have:=c.1 lo J
  lia
 rcases Nat.lt_or_gt_of_ne l with lt|gt
 . obtain ⟨x,y,b,d,p⟩:=pw i j hi k lt;rw [g]at b;rw [f,J]at d;have E:=c.2 x b;have t:x=lo:=by lia
   by_cases F:j=i+1
   . subst F;refine hm.adj i a r (by rw [aR hi,g]) (by rw [aR k,f]) ⟨?_,?_⟩
     . rw[b,J,t]
     . rw[A,B]
   . have w:i+1 < m.length:=by lia
     obtain⟨x1,y1,s,o,K⟩:=pw i (i+1) hi w (by lia);obtain⟨C,H,q,n,I⟩:=pw (i+1) j w k (by lia);rw[g,b]at s;rw[f,J]at n;have:=hm.ord.ok _ (iQ w) y1 C o q
     lia
 . obtain ⟨x,y,b,d,p⟩:=pw j i k hi gt;rw [f]at b;rw [g]at d;have E:=c.1 y d;have:=hm.ord.ok r U lo x J b
   lia
theorem HS{J:Type}:∀(l E:List J),l.Nodup->(∀x∈l,x∈E)->l.length<=E.length
 |[],E,_,_=>cI _
 |a::l,E,nd,h=>by
   obtain⟨e,d,rfl⟩:=WZ$ h a$ .head _;rw[bK]at nd;have:=HS l (e++d) nd.2 λx c=>by
    have b:=h x$ .tail _ c;rw[bE,aA]at b;rcases b with z|z|z
    . exact aY _ z
    . subst z;exact absurd c nd.1
    . exact aI _ z
   simp at this ⊢;omega
def Stab(E:List Int)(m:List Rw):Prop:=∀p,p∉E->valL m p=valL m (p-1)
def LQ(hm:MapF m)(h:Stab E m):m.length<=E.length+1:=by
 cases m with
 |nil=>simp
 |cons r0 t=>
   have pw:=hm.ord.pw;rw[bI]at pw;have d:∀r∈t,∃lo,r.1=aa lo/\lo∈E:=λr g=>by
    obtain⟨x,y,_,f,_⟩:=pw.1 r g;refine⟨y,f,?_⟩;by_cases i:y∈E
    . exact i
    . exact absurd (h y i)$ RG hm (.tail _ g) f
   have nd:(t.map (·.1)).Nodup:=by
    rw[List.Nodup,aBh];refine tW ?_ pw.2;intro a b l o k e;obtain⟨x,y,j,f,n⟩:=k;obtain⟨lo,c,_⟩:=d a l;have:=hm.ord.ok a (.tail _ l) lo x c j;rw[c,f]at e
    lia
   have:=HS (t.map (·.1)) (E.map aa) nd λx j=>by obtain⟨r,g,rfl⟩:=bQ.mp j;obtain⟨lo,c,i⟩:=d r g;exact bQ.mpr ⟨lo,i,c.symm⟩
   simp at this ⊢
   lia
noncomputable def sumW:Option Int->Option Int->Option Int
 |some a,aa b=>aa$ a+b
 |some a,ac=>aa a
 |none,b=>b
def XU u v:kP [oi u,oi v]=aa (.val$ oi$ sumW u v):=by
 have b:∀u v:Option Int,mI [oi u,oi v]=aa (.val$ oi$ match u with|some a=>aa a|none=>v):=λu v=>by unfold mI runG rE;cases u<;>cases v<;>simp[args]
 have:=b u v;unfold kP runG rB;cases u<;>cases v<;>simp_all [args,sumW]
noncomputable def pG(L:List (List Rw))(acc:List Rw):List Rw:=L.foldl (wC sumW) acc
theorem GZ:∀L z,MapF z->Stab E z->(∀m∈L,Ord m/\Stab E m)->MapF (pG L z)/\Stab E (pG L z)/\∀p,valL (pG L z) p=L.foldl (λt m=>sumW t$ valL m p) (valL z p)
 |[],z,h1,h2,_=>⟨h1,h2,λp=>rfl⟩
 |m::L,z,h1,h2,h=>by
   obtain⟨o,st⟩:=h m$ .head _;have g:=kB sumW h1.ord o;have d:∀p,valL (wC sumW z m) p=sumW (valL z p) (valL m p):=VN sumW h1.ord o;have f:Stab E (wC sumW z m):=λp e=>by rw[d,d,h2 p e,st p e]
   obtain⟨a,b,c⟩:=GZ L (wC sumW z m) g f λx i=>h x$ .tail _ i;refine⟨a,b,λp=>?_⟩;show valL (pG L$ wC sumW z m) p=_;rw[c p,d p,cK]
noncomputable def lstsD(L:List (List Rw)):List D:=L.map λm=>.lst$ m.map rwD
theorem tM(Y:∀u v,U (.clo 1000 3 []) [oi u,oi v]=aa (.val$ oi$ sumW u v))(hE:E.length<=5000) N:∀L z x,MapF z->Stab E z->(∀m∈L,Ord m/\Stab E m/\m.length<=10000) →
  ∃J,jM (zM 2) (mF U) (lstsD L) [N,.own$ z.map rwD,x]=aa (.nx [N,.own$ (pG L z).map rwD,J])
 |[],z,x,_,_,_=>⟨x,rfl⟩
 |m::L,z,x,h1,h2,h=>by
   obtain⟨o,st,j⟩:=h m$ .head _;have f:=kB sumW h1.ord o;have c:∀p,valL (wC sumW z m) p=sumW (valL z p) (valL m p):=VN sumW h1.ord o;have d:Stab E (wC sumW z m):=λp b=>by rw[c,c,h2 p b,st p b]
   have k:=LQ h1 h2;have g:=ZN Y h1.ord o (by omega) j;obtain⟨J,e⟩:=tM Y hE N L (wC sumW z m) (.v$ .lst$ m.map rwD) f d λx i=>h x$ .tail _ i;refine⟨J,?_⟩;have a:mF U [N,.own$ z.map rwD,.v$ .lst$ m.map rwD]=aa (.nx [N,.own$ (wC sumW z m).map rwD,.v$ .lst$ m.map rwD]):=by unfold mF;simp[g]
   simp only[lstsD,aQ,jM,zM,aZ,fP,eQ,a];exact e
def QC(J:∀u v,z (.clo 1000 3 []) [oi u,oi v]=aa (.val$ oi$ sumW u v))(U:E.length<=5000)(h:∀m∈L,Ord m/\Stab E m/\m.length<=10000):gP z [.lst$ lstsD L]=aa (.fresh$ (pG L []).map rwD):=by
 obtain⟨a,e⟩:=tM J U (.v$ .lst$ lstsD L) L [] .no MapF.nil (λp _=>rfl) h;have b:=yI$ pG L [];refine wD ?_;unfold oZ;rw[zQ (ds':=[.v$ .lst$ lstsD L,.own [],.no])$ by simp[args],zQ (ds':=[.v$ .lst$ lstsD L,.own$ (pG L []).map rwD,a]) (by
  simp[dO]at e
  simp[e])]
 simp[retXG,flatF,b]
theorem TR{J:Type}(g:J->Int):∀(K N:List J),K.Nodup->N.Nodup->(∀y∈K,y∈N)->(∀y∈N,y∉K->g y=0)->(K.map g).sum=(N.map g).sum
 |[],N,_,_,_,h=>by
   have:∀N:List J,(∀y∈N,g y=0)->(N.map g).sum=0:=by
    intro N;induction N with
    |nil=>intro _;rfl
    |cons a r d=>intro h;rw[aQ,mM,h a$ .head _,d λy b=>h y$ .tail _ b];rfl
   rw[this N λy b=>h y b λz=>nomatch z];rfl
 |a::K,N,nk,Y,U,h=>by
   obtain⟨i,N2,rfl⟩:=WZ$ U a$ .head _;rw[bK]at nk;have c:=cH.mp Y;have j:=bK.mp c.2.1;have nd:(i++N2).Nodup:=cH.mpr ⟨c.1,j.2,λx k y b=>c.2.2 x k y$ .tail _ b⟩;have d:=TR g K (i++N2) nk.2 nd (λy b=>by
    have:=U y$ .tail _ b;rw[bE,aA]at this;rcases this with z|z|z
    . exact aY _ z
    . subst z;exact absurd b nk.1
    . exact aI _ z) λy b l=>by
    have f:y∈i++a::N2:=by
     rcases bE.mp b with z|z
     . exact aY _ z
     . exact aI _$ .tail _ z
    refine h y f λz=>?_;rcases aA.mp z with e|e
    . subst e;rcases bE.mp b with q|q
      . exact c.2.2 y q y (.head _) rfl
      . exact j.1 q
    . exact l e
   rw[aQ,mM,d];simp only[dC,aQ,List.sum_append,mM];omega
noncomputable def lieV(K:List Str)(V:Str->Option Int):List D:=K.map λy=>oi$ V y
def lie_put K V n v(nd:K.Nodup):putKD (.inr n) (oi v) (K.map Sum.inr) (lieV K V)=((if n∈K then K else K++[n]).map Sum.inr,lieV (if n∈K then K else K++[n]) λy=>if y=n then v else V y):=by
 have i:∀K:List Str,n∉K->lieV K (λy=>if y=n then v else V y)=lieV K V:=λK h=>iU λy l=>by have k:¬y=n:=λz=>h (by rw[<-z];exact l);simp only[if_neg k]
 unfold putKD;by_cases h:n∈K
 . have c:hasK (.inr n) (K.map Sum.inr)=ae:=NO (bQ.mpr ⟨n,h,rfl⟩);rw [if_pos c,if_pos h];congr 1;clear c;induction K with
   |nil=>cases h
   |cons a K j=>
     rw[bK]at nd;simp only[lieV,aQ,putDs];by_cases e:a=n
     . subst e;have:=i K nd.1;simp only [lieV]at this;rw [this];simp only [if_true];congr 1;have d:∀K:List Str,a∉K->putDs (.inr a) (oi v) (K.map Sum.inr) (K.map λy=>oi (V y))=K.map λy=>oi (V y):=by
        intro K;induction K with
        |nil=>intro _;rfl
        |cons b K f=>intro g;simp only[aA,not_or]at g;simp only[aQ,putDs];rw[if_neg (λz=>g.1$ by cases z;rfl),f g.2]
       exact d K nd.1
     . have m:¬ (Sum.inr a:Key)=.inr n:=λz=>e (by cases z;rfl);rw [if_neg m,if_neg e];congr 1;refine j nd.2 ?_;rcases aA.mp h with z|z
       . exact absurd z.symm e
       . exact z
 . have c:¬ hasK (.inr n) (K.map Sum.inr)=ae:=by rw [aGb h];simp
   rw[if_neg c,if_neg h];have:=i K h;simp only[lieV]at this ⊢;simp[this]
def lie_get{V:Str->Option Int}{K:List Str}(h:y∈K):getKD (.inr y) (K.map Sum.inr) (lieV K V)=aa (oi$ V y):=by
 induction K with
 |nil=>cases h
 |cons a K b=>
   simp[lieV,aQ,getKD];by_cases e:a=y
   . subst e;simp
   . rw [if_neg (λz=>e (by cases z;rfl))];rcases aA.mp h with z|z
     . exact absurd z.symm e
     . exact b z
end FL
section
open FL
noncomputable def eD:FE:=(ifV (andT (zN$ zH notD (zG 0)$ zA .non)$ zN$ zH geD (zG 0)$ zG 1) (zA$ .int 1)$ zA .non)
noncomputable def cP:Fun2:=phiOf [((1000,3),fnF 2 kP),((11,0),lamF 1 eD)]
noncomputable def fG:List Sl->Bool:=(ifX (orT (zN$ zH ltD (zG 1)$ zA$ .int 1)$ zN$ zH gtD (zG 1)$ callB lenD$ zB (mkL$ lvalA$ fldG [(12,0)]$ qB 0) zT) WN aFb)
noncomputable def cO:List D->Bool:=runX fG 4
noncomputable def iF:FS:=(qP (jW 9$ zH ixD (mkL$ qM$ zB (qB 6)$ zB (zH jL (zG 6)$ zA$ .int 26)$ zB (zA$ .int 0) zT)$ callB mnD$ zB (zH jK (zH xM (zG 8)$ zH jL (zG 1)$ zA$ .int 8)$ zG 3)$ zB (zA$ .int 2) zT)
 (appG 7$ zH ixD (zG 2)$ zH jK (zH xM (zH xM (zH jL (zG 1)$ zH xM (zG 8)$ zA$ .int 5)$ zH wA (zH wA (zG 8)$ zG 8)$ zA$ .int 3)$ zG 9)$ zA$ .int 26))
noncomputable def iE:FS:=(qP (setOG 7$ qM zT)
 (qP (forG (rng1$ qB 3) (zM 8) iF)
 (appG 5$ zH joinD (zA$ .str "")$ zG 7)))
noncomputable def oJ:FS:=(qP (jW 2$ zA$ .str "abcdefghijklmnopqrstuvwxyz")
 (qP (jW 3$ zH xM (zA$ .int 1)$ zH jK (zG 1)$ zA$ .int 8)
 (qP (jW 4$ zH xM (zA$ .int 1)$ zH ixD (mkL$ qM$ zB (zH jK (zH jL (zG 0)$ zA$ .int 4)$ zA$ .int 5)$ zB (zH jK (zH jL (zG 0)$ zA$ .int 4)$ zA$ .int 60) zT)$ zH jL (zH jK (zG 0)$ zA$ .int 4)$ zA$ .int 3)
 (qP (ifG (zN$ zH eqD (zG 3)$ zA$ .int 1) (jW 4$ callB mnD$ zB (zG 4)$ zB (zA$ .int 26) zT) qH)
 (qP (setOG 5$ qM zT)
 (qP (forG (rng1$ qB 4) (zM 6) iE)
 (retXG 5)))))))
noncomputable def mE:List D->Option Ret:=runG oJ 10
noncomputable def tK:FX:=(seqR (jW 3$ zH jK (zH xM (zH xM (zH wA (zG 0)$ zA$ .int 39373)$ zH wA (zH wA (zG 1)$ zG 1)$ zA$ .int 48271)$ zA$ .int 1299709)$ zA$ .int 2147483647)
 (seqR (jW 3$ zH jK (zH wA (zG 3)$ zG 3)$ zA$ .int 2147483563)
 (seqR (jW 4$ zH jK (zH xM (zH xM (zH wA (zG 0)$ zA$ .int 69621)$ zH wA (zH wA (zG 1)$ zG 1)$ zA$ .int 16807)$ zA$ .int 32452843)$ zA$ .int 2147483629)
 (seqR (jW 4$ zH jK (zH wA (zG 4)$ zG 3)$ zA$ .int 2147483549)
 (seqR (jW 5$ zH subD (zH jK (zH jL (zG 3)$ zA$ .int 4)$ zA$ .int 61)$ zA$ .int 30)
 (seqR (ifG (andT (zN$ zH eqD (zH jK (zG 3)$ zA$ .int 4)$ zA$ .int 0)$ zN$ zH neD (getN 2)$ mkL$ qM zT) (jW 5$ zH subD (zH xM (relVO 2$ zH ixD (zG 2)$ zH jK (zH jL (zG 3)$ zA$ .int 4)$ callB lenD$ zB (zG 2) zT)$ zH jK (zH jL (zG 3)$ zA$ .int 1000003)$ zA$ .int 3)$ zA$ .int 1) qH)
 (seqR (ifG (zN$ zH eqD (zH jK (zG 3)$ zA$ .int 4)$ zA$ .int 1) (jW 5$ zH ixD (mkL$ qM$ zB (zH subD (zH jK (zG 0)$ zH xM (zH wA (zA$ .int 2)$ zH powD (zA$ .int 10)$ zA$ .int 60)$ zA$ .int 1)$ zH powD (zA$ .int 10)$ zA$ .int 60)$ zB (qT 1 lW$ zB (zG 0) zT) zT)$ zH jK (zH jL (zG 3)$ zA$ .int 4)$ zA$ .int 2) qH)
 (seqR (jW 6$ zH xM (zH xM (zG 5)$ zA$ .int 1)$ zH ixD (mkL$ qM$ zB (zH jK (zH jL (zG 4)$ zA$ .int 4)$ zA$ .int 3)$ zB (zH jK (zH jL (zG 4)$ zA$ .int 4)$ zA$ .int 40)$ zB (zH jK (zH wA (zG 0)$ zA$ .int 69621)$ zH powD (zA$ .int 10)$ zA$ .int 60)$ zB (zA$ .int 0) zT)$ zH jK (zG 4)$ zA$ .int 4)
 (seqR (ifG (andT (zN$ zH eqD (zH jK (zG 4)$ zA$ .int 4)$ zA$ .int 3)$ zN$ zH neD (getN 2)$ mkL$ qM zT) (jW 6$ callB mxD$ zB (zG 6)$ zB (relVO 2$ zH ixD (zG 2)$ zH jK (zH jL (zG 4)$ zA$ .int 4)$ callB lenD$ zB (zG 2) zT) zT) qH)
 (seqR (appP (varP 2)$ qB 5)
 (seqR (appP (varP 2)$ qB 6)
 (seqR (ifG (zN$ zH ltD (zH jK (zH jL (zG 4)$ zA$ .int 2003)$ zA$ .int 12)$ zA$ .int 2) (jW 5$ zA .non) qH)
 (seqR (ifG (zN$ zH (inD ag) (zH jK (zH jL (zG 4)$ zA$ .int 2003)$ zA$ .int 12)$ mkT$ qM$ zB (zA$ .int 1)$ zB (zA$ .int 2) zT) (jW 6$ zA .non) qH)
 (vR$ mkT$ qM$ zB (qB 5)$ zB (qB 6) zT))))))))))))))
noncomputable def mX:OT->List D->Option (D×OT):=lentR tK 7 2
noncomputable def fY:FS:=(ifG (testT$ qT 2 kQ$ zB (zG 4)$ zB (zG 1) zT) (dputG (varP 2) (qB 3)$ callB int1D$ zB (zG 5) zT) qH)
noncomputable def oY:FS:=(qP (setB 2 dO0)
 (qP (forG (viaA (qB 0) asLT) (tupG 3$ zR (zM 3)$ zR (zM 4)$ zR (zM 5) tgNil) fY)
 (frzDG 2$ retG$ callB sumD$ zB (mkL$ compG (keysA$ qB 2)  [ac,aa 2] (zM 0) (λ_=>aa ae)$ dgetG (qB 1)$ qB 0) zT)))
noncomputable def mY:List D->Option Ret:=runG oY 6
noncomputable def gY:FS:=(qP (ifG (orT (notT$ testT$ isiG "tuple"$ zH ixD (zG 0)$ zG 1)$ zN$ zH neD (callB lenD$ zB (zH ixD (zG 0)$ zG 1) zT)$ zA$ .int 2) (retG$ zA$ .bl ag) qH)
 (qP (asgG (tupG 2$ zR (zM 2)$ zR (zM 3) tgNil)$ zH ixD (zG 0)$ zG 1)
 (qP (ifG (andT (notT$ testT$ qT 1 fZ$ zB (zG 2) zT)$ orT (zN$ zH notD (zG 2)$ zA .non)$ zN$ zH gtD (zG 1)$ zA$ .int 0) (retG$ zA$ .bl ag) qH)
 (qP (ifG (andT (notT$ testT$ qT 1 fZ$ zB (zG 3) zT)$ orT (zN$ zH notD (zG 3)$ zA .non)$ zN$ zH ltD (zG 1)$ zH subD (callB lenD$ zB (zG 0) zT)$ zA$ .int 1) (retG$ zA$ .bl ag) qH)
 (qP (ifG (andT (zN$ zH notD (zG 2)$ zA .non)$ andT (zN$ zH notD (zG 3)$ zA .non)$ zN$ zH geD (zG 2)$ zG 3) (retG$ zA$ .bl ag) qH)
 (ifG (andT (zN$ zH gtD (zG 1)$ zA$ .int 0)$ zN$ zH geD (zH ixD (zH ixD (zG 0)$ zH subD (zG 1)$ zA$ .int 1)$ zA$ .int 1)$ zG 2) (retG$ zA$ .bl ag) qH))))))
noncomputable def lQ:FS:=(qP (ifG (notT$ testT$ isiG "list"$ zG 0) (retG$ zA$ .bl ag) qH)
 (qP (forG (rng1$ callB lenD$ zB (zG 0) zT) (zM 1) gY)
 (retG$ zA$ .bl ae)))
noncomputable def gG:List D->Option Ret:=runG lQ 4
noncomputable def kZ:FS:=(ifG (zN$ zH neD (callB anyD$ zB (mkL$ compG (viaA (qB 0) asLT) [ac,aa 5] (zM 0) (λ_=>aa ae)$ qT 2 kQ$ zB (zG 0)$ zB (zG 1) zT) zT)$ zH geD (qT 2 mY$ zB (zG 1)$ zB (zG 5) zT)$ zG 3) (retG$ zA$ .bl ag) qH)
noncomputable def oH:FS:=(qP (ifG (notT$ testT$ qT 1 gG$ zB (zG 0) zT) (retG$ zA$ .bl ag) qH)
 (qP (jW 4$ mkL$ catA (mkL$ catA (zG 2)$ mkL$ compG (viaA (qB 0) asLT) [ac] (zM 0) (λ_=>aa ae)$ zH ixD (zG 0)$ zA$ .int 0)$ mkL$ compG (viaA (qB 0) asLT) [ac] (zM 0) (λ_=>aa ae)$ zH ixD (zG 0)$ zA$ .int 1)
 (qP (jW 4$ mkL$ compG (viaA (qB 4) asLT) [ac] (zM 0) (zN$ zH notD (zG 0)$ zA .non)$ qB 0)
 (qP (forG (viaA (mkL$ srtSA$ mkL$ catA (zG 4)$ mkL$ compG (viaA (qB 4) asLT) [ac] (zM 0) (λ_=>aa ae)$ zH subD (zG 0)$ zA$ .int 1) asLT) (zM 5) kZ)
 (retG$ zA$ .bl ae)))))
noncomputable def fK:List D->Option Ret:=runG oH 6
noncomputable def mQ:FS:=(qP (tryG 2 4 (dropG$ methV 1 [12] (cQ cP) (qB 0)$ zB (zG 1) zT) (methX 12 1 cO (qB 0)$ zB (zG 1) zT)
 (qP (jW 3$ isxG 2 [(4,ag)])
 (retG$ andV (isxG 2 [(4,ae)])$ andV (isxG 2 [(4,ae)])$ notV$ qB 3)))
 (retG$ zA$ .bl ag))
noncomputable def gS:List D->Option Ret:=runG mQ 4
noncomputable def oX:FS:=(qP (setR 6$ callR 3 4 mX$ zB (qB 5)$ zB (callB lenD$ zB (zG 3) zT)$ hereA zT)
 (qP (jW 7$ zH jK (zH xM (zH xM (zH wA (zG 5)$ zA$ .int 50021)$ zH wA (callB lenD$ zB (zG 3) zT)$ zA$ .int 7919)$ zA$ .int 27644437)$ zA$ .int 2147483587)
 (qP (jW 7$ zH jK (zH wA (zG 7)$ zG 7)$ zA$ .int 2147483563)
 (qP (appG 3$ mkT$ qM$ zB (zH ixD (zG 1)$ zH jK (zH jL (zG 7)$ zA$ .int 4)$ callB lenD$ zB (zG 1) zT)$ zB (qB 6)$ zB (zH gtD (zH jK (zG 7)$ zA$ .int 4)$ zA$ .int 0) zT)
 (qP (ifG (zN$ zH gtD (zH jK (zG 7)$ zA$ .int 4)$ zA$ .int 0) (lentG 2 [12] (λ_=>eY) (varP 2)$ zB (zH ixD (zH ixD (zG 3)$ un1 negD$ zA$ .int 1)$ zA$ .int 0)$ zB (qB 6) zT)$ lentG 2 [12] (λ_=>eO) (varP 2)$ zB (zH ixD (zH ixD (zG 3)$ un1 negD$ zA$ .int 1)$ zA$ .int 0)$ zB (qB 6) zT)
 (qP (jW 8$ zH xM (zA$ .int 1)$ zH jK (zH jL (zG 7)$ zA$ .int 1009)$ callB lenD$ zB (zG 1) zT)
 (ifG (relTO 4$ relTV 2$ andT (zN$ zH eqD (zH jK (callB lenD$ zB (zG 3) zT)$ zA$ .int 6)$ zA$ .int 1)$ notT$ testT$ qT 4 fK$ zB (methV 1 [12] (cQ cP) (qB 2)$ zB (zG 8) zT)$ zB (zG 3)$ zB (zG 4)$ zB (zG 8) zT) (retG$ zA$ .bl ag) qH)))))))
noncomputable def oW:FS:=(ifG (orT (zN$ zH ltD (zG 8)$ zA$ .int 1)$ zN$ zH gtD (zG 8)$ callB lenD$ zB (zG 1) zT) (ifG (relTV 2$ notT$ testT$ qT 2 gS$ zB (zG 2)$ zB (zG 8) zT) (retG$ zA$ .bl ag) qH)$ ifG (relTO 4$ relTV 2$ notT$ testT$ qT 4 fK$ zB (methV 1 [12] (cQ cP) (qB 2)$ zB (zG 8) zT)$ zB (zG 3)$ zB (zG 4)$ zB (zG 8) zT) (retG$ zA$ .bl ag) qH)
noncomputable def tX:FS:=(qP (jW 1$ qT 2 mE$ zB (qT 2 eE$ zB (zG 0)$ zB (zA$ .int 0) zT)$ zB (qT 2 eE$ zB (zG 0)$ zB (zA$ .int 1) zT) zT)
 (qP (setB 2$ makeO 24 1 0 dW$ zB (mkL$ lisA$ zG 1) zT)
 (qP (setOG 3$ qM zT)
 (qP (setB 4$ sO$ consO (vO$ zH subD (zH jK (qT 2 eE$ zB (zG 0)$ zB (zA$ .int 2) zT)$ zA$ .int 61)$ zA$ .int 30) nilO)
 (qP (forG (viaA (mkL$ sliA (zG 0) (soP$ zA$ .int 4)$ soP$ zA$ .int 30) asLT) (zM 5) oX)
 (qP (jW 5$ qT 2 eE$ zB (zG 0)$ zB (zA$ .int 3) zT)
 (qP (jW 9$ zH jK (zH jL (zG 5)$ zA$ .int 3)$ zH powD (zA$ .int 10)$ zA$ .int 30)
 (qP (jW 10$ mkL$ qM$ zB (zA$ .int 1)$ zB (callB lenD$ zB (zG 1) zT)$ zB (zH xM (zA$ .int 1)$ zH jK (zG 9)$ callB lenD$ zB (zG 1) zT) zT)
 (qP (ifG (zN$ zH eqD (zH jK (zG 5)$ zA$ .int 3)$ zA$ .int 1) (jW 10$ mkL$ qM$ zB (un1 negD$ qB 9)$ zB (zH xM (zA$ .int 1)$ zH jK (zG 9)$ callB lenD$ zB (zG 1) zT) zT) qH)
 (qP (ifG (zN$ zH eqD (zH jK (zG 5)$ zA$ .int 3)$ zA$ .int 2) (jW 10$ mkL$ qM$ zB (zH xM (zH xM (callB lenD$ zB (zG 1) zT)$ zA$ .int 1)$ zG 9)$ zB (zH xM (zA$ .int 1)$ zH jK (zG 9)$ callB lenD$ zB (zG 1) zT) zT) qH)
 (qP (forG (viaA (qB 10) asLT) (zM 8) oW)
 (retG$ zA$ .bl ae))))))))))))
noncomputable def tY:List D->Option Ret:=runG tX 11
end
namespace K75
open FL
noncomputable def top(i:Nat):Stmt:=PySem.Challenge.pw_spanmap_k75_crowd.main.body.getD i$ .Pass ⟨0,0,0,0⟩
structure Glb(K:Frag)(mg:Str->Option Value):Prop where
 b_ValueError:mg "ValueError"=none
 b_all:mg "all"=none
 b_any:mg "any"=none
 b_bool:mg "bool"=none
 b_int:mg "int"=none
 b_isinstance:mg "isinstance"=none
 b_len:mg "len"=none
 b_list:mg "list"=none
 b_max:mg "max"=none
 b_min:mg "min"=none
 b_range:mg "range"=none
 b_set:mg "set"=none
 b_sorted:mg "sorted"=none
 b_str:mg "str"=none
 b_sum:mg "sum"=none
 b_tuple:mg "tuple"=none
 c_LETTERS:∃t,mg "LETTERS"=some (.str "abcdefghijklmnopqrstuvwxyz" t)
 c_MOST_LETTERS:∃t,mg "MOST_LETTERS"=some (.int 8 t)
 c_MOST_NAMES:∃t,mg "MOST_NAMES"=some (.int 60 t)
 fl_lying:FldOk K "lying" [(12,0)]
 nw_lying:∀C,aH K mainGlobals (eL 24)=some (some (.ref C))->Cls K C/\NoAttr K C "lying"
 isx_NoCount_4:∃D,mg "NoCount"=some (.ref D)/\IsxOk K (.ref D) [(4,true)]
 isxB_ValueError_4:IsxOk K (.type "ValueError") [(4,true)]
 isxT_0:∃D3 D1 D8 D2 D7 D6 D12 D9 D5 D11 D10:aF,mg "Clash"=some (.ref D3)/\mg "Empty"=some (.ref D1)/\mg "NoDeed"=some (.ref D8)/\mg "NoEnd"=some (.ref D2)/\mg "NoMark"=some (.ref D7)/\mg "NoName"=some (.ref D6)/\mg "NoRow"=some (.ref D12)/\mg "NoRule"=some (.ref D9)/\mg "NoShare"=some (.ref D5)/\mg "NoText"=some (.ref D11)/\mg "TooMuch"=some (.ref D10)/\SO K [.ref D3,.ref D1,.ref D8,.ref D2,.ref D7,.ref D6,.ref D12,.ref D9,.ref D5,.ref D11,.ref D10] [(4,false)]
 fv_3:FnV K mg 3
def pwI{i:Int}{k:Nat}{p:Pos}: PVw X (.Constant (.int i) k p) (zA$ .int i):=PV.w yB
def pnI{i:Int}{k:Nat}{p:Pos}: PVn X (.Constant (.int i) k p) (zA$ .int i):=PV.n yB
def pnV(i:Nat){x:Str}{pos:Pos}(U:X.N[i]?=aa x:=by rfl)(J:Vis X.env.scope x:=by first|exact Or.inl rfl|exact Or.inr (Or.inl rfl)|exact Or.inr (Or.inr rfl))(hd:(2:)=ag:=by decide)(z:(x==("__classdict__":Str))=ag:=by decide):PVn X (.Name x pos) (zG i):=(zD i U J hd z).n
section
variable{P:bW}{w:cT}{K:Frag}{mg:Str->Option Value}{base:Heap}
def tP:FnScope ["one","other"] ["one","other"] (zJ$ top 18):={}
def FU{f:aF}{fd:bR}(z:Fun K "later_low" "later_low" (top 18) f fd)(T:Glb K mg): FnOk P w K mg base CX0 1 f fd ["one","other"] (spF K 2 iG):=by
 have nd:=tP.nd;refine qV (k:=0) (g:=nL) z tP (λa A outer s H E b=>?_) λd r c e=>zZ e
 exact(zC (qC (AF (pnV 0)$ PV.n qN) (zE$ zY$ zD 1) zL)
  (zC (qC (AF (pnV 1)$ PV.n qN) (zE$ zY$ zD 0) zL)
  (zE$ zY$ PV.w$ UI rfl T.b_max (zP (zD 0)$ zP (zD 1) qE))))
def oE:FnScope ["one","other"] ["one","other"] (zJ$ top 19):={}
def tE{f:aF}{fd:bR}(z:Fun K "earlier_behind" "earlier_behind" (top 19) f fd)(T:Glb K mg): FnOk P w K mg base CX0 1 f fd ["one","other"] (spF K 2 dQ):=by
 have nd:=oE.nd;refine qV (k:=0) (g:=iN) z oE (λa A outer s H E b=>?_) λd r c e=>zZ e
 exact(zC (qC (AF (pnV 0)$ PV.n qN) (zE$ zY$ zD 1) zL)
  (zC (qC (AF (pnV 1)$ PV.n qN) (zE$ zY$ zD 0) zL)
  (zE$ zY$ PV.w$ JJ rfl T.b_min (zP (zD 0)$ zP (zD 1) qE))))
def sL:FnScope ["behind","low"] ["behind","low"] (zJ$ top 17):={}
def DS{f:aF}{fd:bR}(z:Fun K "ends_ahead" "ends_ahead" (top 17) f fd)(T:Glb K mg): FnOk P w K mg base CX0 1 f fd ["behind","low"] (spF K 2 gT):=by have nd:=sL.nd;refine qV (k:=0) (g:=mR) z sL (λa A outer s H E b=>?_) λd r c e=>zZ e;exact(zE$ zY$ PV.w$ uM (MB (pnV 0)$ PV.n qN)$ uM (MB (pnV 1)$ PV.n qN)$ uK$ pv_le (zD 0)$ zD 1)
def UB:FnScope ["one","other","low","behind"] ["one","other"] (zJ$ top 16):={}
def aGq{f:aF}{fd:bR}(Y:Fun K "meet" "meet" (top 16) f fd)(T:Glb K mg)(U:Cal P w K mg base "later_low" 1 2 iG)(z:Cal P w K mg base "earlier_behind" 1 2 dQ)(J:Cal P w K mg base "ends_ahead" 1 2 gT):FnOk P w K mg base CX0 2 f fd ["one","other"] (spF K 2 nC):=by
 have nd:=UB.nd;refine qV (k:=1) (g:=tZ) Y UB (λb A outer s H E a=>?_) λd r c e=>zZ e
 exact(zC (zU (i:=2) nd$ zX U a$ zF (PV.n$ qQ (zD 0) pwI)$ zF (PV.n$ qQ (zD 1) pwI) zS)
  (zC (zU (i:=3) nd$ zX z a$ zF (PV.n$ qQ (zD 0) pwI)$ zF (PV.n$ qQ (zD 1) pwI) zS)
  (zC (qC (PVn.t$ PV.n$ zX J a$ zF (pnV 3)$ zF (pnV 2) zS) (zE$ zY$ PV.w qN) zL)
  (zE$ zY$ PV.w$ yA$ zI (zK 2)$ zI (zK 3) zW))))
def UC:FnScope ["rows","pieces","low","behind","value"] ["rows"] (zJ$ top 21):={}
def aGr{f:aF}{fd:bR}(z:Fun K "knit" "knit" (top 21) f fd)(T:Glb K mg): FnOk P w K mg base CX0 1 f fd ["rows"] (spF K 1 gW):=by
 have nd:=UC.nd;refine qV (k:=0) (g:=uA) z UC (λb A outer s H E a=>?_) λd r c e=>zZ e
 exact(zC (yG (i:=1) nd$ jF zW)
  (zC (yL WX.never rfl (jG$ zK 0) (xP (n:=3) rfl$ qA (zO (i:=2) nd)$ qA (zO (i:=3) nd)$ qA (zO (i:=4) nd) yX) (zC (qC (AF (pnV 4)$ PV.n qN) (zE JL) zL)
  (zE$ qC (PWv.t$ yU (PVn.t$ pnV 1)$ yU (kA a (PV.n$ qQ (PV.w$ qQ (zD 1)$ PV.w$ vU yB) pwI)$ pnV 2)$ yP$ kA a (PV.n$ qQ (PV.w$ qQ (zD 1)$ PV.w$ vU yB) pwI)$ pnV 4) (zE$ psv_put (i:=1) (yA$ zI (qQ (PV.w$ qQ (zD 1)$ PV.w$ vU yB) pwI)$ zI (zK 3)$ zI (zK 4) zW)$ vU yB)$ zE$ xA (i:=1)$ yA$ zI (zK 2)$ zI (zK 3)$ zI (zK 4) zW)))
  (zE$ xI 1)))
def AD:FnScope ["pieces","within","parts","low","behind","value","common"] ["pieces","within"] (zJ$ top 22):={}
def JZ{f:aF}{fd:bR}(J:Fun K "parts_in" "parts_in" (top 22) f fd)(T:Glb K mg)(z:Cal P w K mg base "meet" 2 2 nC):FnOk P w K mg base CX0 3 f fd ["pieces","within"] (spF K 2 fL):=by
 have nd:=AD.nd;refine qV (k:=2) (g:=oK) J AD (λb A outer s H E a=>?_) λd r c e=>zZ e
 exact(zC (yG (i:=2) nd$ jF zW)
  (zC (yL WX.never rfl (jG$ zK 0) (xP (n:=3) rfl$ qA (zO (i:=3) nd)$ qA (zO (i:=4) nd)$ qA (zO (i:=5) nd) yX) (zC (zU (i:=6) nd$ zX z a$ zF (PV.n$ yA$ zI (zK 3)$ zI (zK 4) zW)$ zF (pnV 1) zS)
  (zE$ qC (yE (pnV 6)$ PV.n qN) (zE$ xA (i:=2)$ yA$ zI (qQ (zD 6) pwI)$ zI (qQ (zD 6) pwI)$ zI (zK 5) zW) zL)))
  (zE$ xI 2)))
def tN:FnScope ["pieces","over","value","rows"] ["pieces","over","value"] (zJ$ top 23):={}
def FR{f:aF}{fd:bR}(J:Fun K "rows_over" "rows_over" (top 23) f fd)(T:Glb K mg)(z:Cal P w K mg base "parts_in" 3 2 fL):FnOk P w K mg base CX0 4 f fd ["pieces","over","value"] (spF K 3 gH):=by
 have nd:=tN.nd;refine qV (k:=3) (g:=nK) J tN (λb A outer s H E a=>?_) λd r c e=>zZ e
 exact(zC (yG (i:=3) nd$ jF zW)
  (zC (qC (yE (PV.n$ qQ (zD 1) pwI)$ PV.n qN) (zE$ UP (i:=3)$ yK z a$ zF (pnV 0)$ zF (PV.n$ yA$ zI qN$ zI (qQ (zD 1) pwI) zW) zS) zL)
  (zC (xA (i:=3)$ yA$ zI (qQ (zD 1) pwI)$ zI (qQ (zD 1) pwI)$ zI (zK 2) zW)
  (zC (qC (yE (PV.n$ qQ (zD 1) pwI)$ PV.n qN) (zE$ UP (i:=3)$ yK z a$ zF (pnV 0)$ zF (PV.n$ yA$ zI (qQ (zD 1) pwI)$ zI qN zW) zS) zL)
  (zE$ xI 3)))))
def CH:FnScope ["pieces","runs","here","low","behind","value"] ["pieces"] (zJ$ top 24):={}
def NT{f:aF}{fd:bR}(z:Fun K "runs_of" "runs_of" (top 24) f fd)(T:Glb K mg): FnOk P w K mg base CX0 1 f fd ["pieces"] (spF K 1 fH):=by
 have nd:=CH.nd;refine qV (k:=0) (g:=pB) z CH (λb A outer s H E a=>?_) λd r c e=>zZ e
 exact(zC (yG (i:=1) nd$ jF zW)
  (zC (zU (i:=2) nd qN)
  (zC (yL WX.never rfl (jG$ zK 0) (xP (n:=3) rfl$ qA (zO (i:=3) nd)$ qA (zO (i:=4) nd)$ qA (zO (i:=5) nd) yX) (zC (qC (MH a (pnV 3)$ pnV 2) (zE$ xA (i:=1)$ yA$ zI (zK 2)$ zI (zK 3)$ zI qN zW) zL)
  (zC (xA (i:=1)$ yA$ zI (zK 3)$ zI (zK 4)$ zI (zK 5) zW)
  (zE$ zU (i:=2) nd$ zK 4))))
  (zC (qC (PWv.t$ xU (yE (pnV 2)$ PV.n qN)$ yR$ yM$ PVn.t$ pnV 0) (zE$ xA (i:=1)$ yA$ zI (zK 2)$ zI qN$ zI qN zW) zL)
  (zE$ xI 1)))))
def HC:FnScope ["one","other","runs","other_runs","rows","here","at","other_at","run","other_run","behind"] ["one","other"] (zJ$ top 25):={}
def RW{f:aF}{fd:bR}(U:Fun K "paired" "paired" (top 25) f fd)(T:Glb K mg)(J:Cal P w K mg base "runs_of" 1 1 fH)(z:Cal P w K mg base "earlier_behind" 1 2 dQ):FnOk P w K mg base CX0 2 f fd ["one","other"] (spF K 2 oC):=by
 have nd:=HC.nd;refine qV (k:=1) (g:=rC) U HC (λb A outer s H E a=>?_) λd r c e=>zZ e
 exact(zC (zU (i:=2) nd$ zX J a$ zF (pnV 0) zS)
  (zC (zU (i:=3) nd$ zX J a$ zF (pnV 1) zS)
  (zC (yG (i:=4) nd$ jF zW)
  (zC (zU (i:=5) nd qN)
  (zC (zU (i:=6) nd yB)
  (zC (zU (i:=7) nd yB)
  (zC (YH 100000 WX.never (sU (zD 6)$ PV.w$ jO T.b_len$ zP (zD 2) qE) (zC (zU (i:=8) nd$ qQ (zD 2)$ zD 6)
  (zC (zU (i:=9) nd$ qQ (zD 3)$ zD 7)
  (zC (zU (i:=10) nd$ zX z a$ zF (PV.n$ qQ (zD 8) pwI)$ zF (PV.n$ qQ (zD 9) pwI) zS)
  (zC (xA (i:=4)$ yA$ zI (zK 5)$ zI (zK 10)$ zI (qQ (zD 8) pwI)$ zI (qQ (zD 9) pwI) zW)
  (zC (qC (kA a (PV.n$ qQ (zD 8) pwI)$ pnV 10) (zE$ MK (i:=6) nd yB) zL)
  (zC (qC (kA a (PV.n$ qQ (zD 9) pwI)$ pnV 10) (zE$ MK (i:=7) nd yB) zL)
  (zE$ zU (i:=5) nd$ zK 10))))))))
  (zE$ xI 4))))))))
def HE:FnScope ["value","other_value"] ["value","other_value"] (zJ$ top 27):={}
def RY{f:aF}{fd:bR}(z:Fun K "either" "either" (top 27) f fd)(T:Glb K mg): FnOk P w K mg base CX0 1 f fd ["value","other_value"] (spF K 2 mI):=by have nd:=HE.nd;refine qV (k:=0) (g:=rE) z HE (λa A outer s H E b=>?_) λd r c e=>zZ e;exact(zE$ zY$ PV.w$ pv_if (AF (pnV 0)$ PV.n qN) (zK 1)$ zK 0)
def HB:FnScope ["value","other_value"] ["value","other_value"] (zJ$ top 28):={}
def RV{f:aF}{fd:bR}(J:Fun K "summed" "summed" (top 28) f fd)(T:Glb K mg)(z:Cal P w K mg base "either" 1 2 mI):FnOk P w K mg base CX0 2 f fd ["value","other_value"] (spF K 2 kP):=by
 have nd:=HB.nd;refine qV (k:=1) (g:=rB) J HB (λb A outer s H E a=>?_) λd r c e=>zZ e
 exact(zC (qC (PWv.t$ xU (AF (pnV 0)$ PV.n qN)$ yR$ AF (pnV 1)$ PV.n qN) (zE$ zY$ PV.w$ zX z a$ zF (pnV 0)$ zF (pnV 1) zS) zL)
  (zE$ zY$ PV.w$ qR (zD 0)$ zD 1))
def sD{f mc mp:aF}(T:Glb K mg)(M:Mkr K "Bundle.crowd" 11 (dG (top 40) 6) f mc mp): oG P w K mg base 2 11 0 (lamF 1 eD):=by
 refine aFx (k:=1) (ps:=["number"]) (t:=(laT "Bundle.crowd"$ exA 1$ stE$ stN 2$ qJ$ dG (top 40) 6)) ((M.tx 0).trans$ by kernel_rfl) (ZL$ by kernel_rfl) rfl ?_ ?_
 . intro g e d c a b;cases g;cases e;cases d;cases c;exact match a,b with|[_],_=>rfl
 . intro i cd cl A outer s H h;exact(PV.n$ pv_if (PWv.t$ yU (yE (pnV 0)$ PV.n qN)$ yP$ aDu (zD 0)$ zD 1) yB qN)
def clo_ok(T:Glb K mg) {U J z:aF}(Y:Mkr K "Bundle.crowd" 11 (dG (top 40) 6) U J z)(V_summed:CalV P w K mg base 3 2 2 kP):CloOk P w K mg base 2 cP:=by
 refine clo_of (λp a=>?_) λp a b=>?_
 . rcases aA.mp a with rfl|a
   . exact(oG.mono (k:=2) (fn_good V_summed)$ by decide)
   rcases aA.mp a with rfl|a
   . exact(sD T Y  )
   cases a
 . rcases aA.mp a with rfl|a
   . exact V_summed.fin
   rcases aA.mp a with rfl|a
   . exact absurd (show(11:Nat)=1000 from b) (by decide)
   cases a
def HD:FnScope ["one","other","way","rows"] ["one","other","way"] (zJ$ top 30):={}
def RX{f:aF}{fd:bR}(U:Fun K "joined" "joined" (top 30) f fd)(T:Glb K mg)(z:Cal P w K mg base "paired" 2 2 oC)(J:Cal P w K mg base "knit" 1 1 gW)(Y:CloOk P w K mg base 2 cP):FnOk P w K mg base CX0 3 f fd ["one","other","way"] (spF K 3$ mH cP):=by
 have nd:=HD.nd;have a:(["low","behind","value","other_value","way"]:List Str).Nodup:=by decide +kernel
 refine qV (k:=2) (g:=(rD cP)) U HD (λd A outer s H E b=>?_) λj r h e=>zZ e
 exact(zC (zU (i:=3) nd$ zX z b$ zF (pnV 0)$ zF (pnV 1) zS)
  (zE$ wH$ yK J b$ zF (PV.n$ PVf.s$ yO (NY:=["low","behind","value","other_value","way"]) (mp:=[ac,ac,ac,ac,aa 2]) (qY$ by kernel_rfl) rfl (jG$ zK 3) (λc=>(xP (n:=4) rfl$ qA (zO (i:=0) a)$ qA (zO (i:=1) a)$ qA (zO (i:=2) a)$ qA (zO (i:=3) a) yX)) (λc=>yZ) (λc=>(yA$ zI (zK 0)$ zI (zK 1)$ zI (MD (i:=4) Y b$ zF (pnV 2)$ zF (pnV 3) zS) zW))) zS))
def HA:FnScope ["pieces","way"] ["pieces","way"] (zJ$ top 31):={}
def RU{f:aF}{fd:bR}(U:Fun K "turned" "turned" (top 31) f fd)(T:Glb K mg)(J:Cal P w K mg base "knit" 1 1 gW)(z:Cal P w K mg base "runs_of" 1 1 fH)(Y:CloOk P w K mg base 2 cP):FnOk P w K mg base CX0 3 f fd ["pieces","way"] (spF K 2$ fT cP):=by
 have nd:=HA.nd;have a:(["low","behind","value","way"]:List Str).Nodup:=by decide +kernel
 refine qV (k:=2) (g:=(pZ cP)) U HA (λd A outer s H E b=>?_) λj r h e=>zZ e;exact(zE$ wH$ yK J b$ zF (PV.n$ PVf.s$ yO (NY:=["low","behind","value","way"]) (mp:=[ac,ac,ac,aa 1]) (qY$ by kernel_rfl) rfl (jG$ zX z b$ zF (pnV 0) zS) (λc=>(xP (n:=3) rfl$ qA (zO (i:=0) a)$ qA (zO (i:=1) a)$ qA (zO (i:=2) a) yX)) (λc=>yZ) (λc=>(yA$ zI (zK 0)$ zI (zK 1)$ zI (MD (i:=3) Y b$ zF (pnV 2) zS) zW))) zS)
def CJ:FnScope ["thing"] ["thing"] (zJ$ top 35):={}
def NU{f:aF}{fd:bR}(z:Fun K "is_name" "is_name" (top 35) f fd)(T:Glb K mg): FnOk P w K mg base CX0 1 f fd ["thing"] (spF K 1 fU):=by
 have nd:=CJ.nd;have a:(["sign"]:List Str).Nodup:=by decide +kernel
 refine qV (k:=0) (g:=pC) z CJ (λb A outer s H E d=>?_) λj r h e=>zZ e
 exact(zC (qC (yM$ PVn.t$ PV.n$ CL T.b_isinstance T.b_str (3:)$ zD 0) (zE$ zY$ PV.w xR) zL)
  (zC (qC (PWv.t$ xU (sU (PV.w$ jO T.b_len$ zP (zD 0) qE) pwI)$ yR$ AG (PV.w$ jO T.b_len$ zP (zD 0) qE)$ PV.w$ MC T.c_MOST_LETTERS) (zE$ zY$ PV.w xR) zL)
  (zE$ zY$ PV.w$ aDn rfl T.b_all (zP (PV.w$ PVf.s$ yO (NY:=["sign"]) (mp:=[ac]) (qY$ by kernel_rfl) rfl (piv_str$ zK 0) (λc=>(zO (i:=0) a)) (λc=>yZ) (λc=>(CP YS os_inS (zD 0) (PV.w$ aDk T.c_LETTERS) rfl))) qE))))
def aCz:FnScope ["pieces","span","value"] ["pieces","span","value"] (zJ$ top 37):={}
def fok_put{f:aF}{fd:bR}(U:Fun K "put" "put" (top 37) f fd)(T:Glb K mg)(J:Cal P w K mg base "knit" 1 1 gW)(z:Cal P w K mg base "rows_over" 4 3 gH):FnOk P w K mg base CX0 5 f fd ["pieces","span","value"] (spF K 3 lC):=by have nd:=aCz.nd;refine qV (k:=4) (g:=BU) U aCz (λb A outer s H E a=>?_) λd r c e=>zZ e;exact(zE$ wH$ yK J a$ zF (PV.n$ zX z a$ zF (pnV 0)$ zF (pnV 1)$ zF (pnV 2) zS) zS)
def rK:FnScope ["names"] ["names"] (zJ$ top 41):={}
def AV{f:aF}{fd:bR}(J:Fun K "check_names" "check_names" (top 41) f fd)(T:Glb K mg)(z:Cal P w K mg base "is_name" 1 1 fU):FnOk P w K mg base CX0 2 f fd ["names"] (spF K 1 gJ):=by
 have nd:=rK.nd;have a:(["name"]:List Str).Nodup:=by decide +kernel
 refine qV (k:=1) (g:=lT) J rK (λd A outer s H E b=>?_) λj r h e=>zZ e
 exact(zC (qC (PWv.t$ xU (sU (PV.w$ jO T.b_len$ zP (zD 0) qE) pwI)$ yR$ AG (PV.w$ jO T.b_len$ zP (zD 0) qE)$ PV.w$ MC T.c_MOST_NAMES) (zE xQ) zL)
  (zC (qC (yM$ PVn.t$ PV.n$ aDn rfl T.b_all (zP (PV.w$ PVf.s$ yO (NY:=["name"]) (mp:=[ac]) (qY$ by kernel_rfl) rfl (jG$ zK 0) (λc=>(zO (i:=0) a)) (λc=>yZ) (λc=>(zX z b$ zF (pnV 0) zS))) qE)) (zE xQ) zL)
  (zE$ qC (sU (PV.w$ pv_lset rfl T.b_len T.b_set (zD 0))$ PV.w$ jO T.b_len$ zP (zD 0) qE) (zE xQ) zL)))
def nQ:FnScope ["self","names","name"] ["self","names"] (zJ$ dG (top 40) 0):={}
def sF{f:aF}{fd:bR}(J:Fun K "__init__" "Bundle.__init__" (dG (top 40) 0) f fd)(T:Glb K mg)(z:Cal P w K mg base "check_names" 2 1 gJ):FnOk P w K mg base CX0 3 f fd ["self","names"] (spL K 1 dW):=by
 have nd:=nQ.nd;refine JY (k:=2) (n:=1) (g:=fV) J nQ (λb A outer s H E a=>?_) λ_ _ _ _ e=>e
 exact(zC (MJ$ zX z a$ zF (pnV 1) zS)
  (zC (QO T.nw_lying (xJ 0) LY)
  (zE$ yL WX.never rfl (jG$ PVf.s$ LZ T.b_sorted$ zD 1) (zO (i:=2) nd) (zE$ YI a (QN T.fl_lying$ xJ 0) (zK 2)$ pvo_s UY))))
def rL:FnScope ["self","name"] ["self","name"] (zJ$ dG (top 40) 4):={}
def AW{f:aF}{fd:bR}(J:Fun K "only" "Bundle.only" (dG (top 40) 4) f fd)(T:Glb K mg)(z:Cal P w K mg base "is_name" 1 1 fU):FnOk P w K mg base CX0 2 f fd ["self","name"] (spF K 2 iJ):=by
 have nd:=rL.nd;refine qV (k:=1) (g:=lU) J rL (λb A outer s H E a=>?_) λd r c e=>zZ e
 exact(zC (qC (PWv.t$ xU (yM$ PVn.t$ PV.n$ zX z a$ zF (pnV 1) zS)$ yR$ aDs a (pnV 1)$ PV.n$ CM T.fl_lying$ zK 0) (zE xQ) zL)
  (zE$ wH$ MA T.b_list$ PV.w$ UL a (CM T.fl_lying$ zK 0)$ zK 1))
def sS:FnScope ["self","name","span"] ["self","name","span"] (zJ$ dG (top 40) 1):={}
def DX{f:aF}{fd:bR}(U:Fun K "lay" "Bundle.lay" (dG (top 40) 1) f fd)(T:Glb K mg)(J:Cal P w K mg base "put" 5 3 lC)(z:MCal P w K mg base "only" 2 1 [12] dU):FnOk P w K mg base CX0 6 f fd ["self","name","span"] (spL K 2 eY):=by have nd:=sS.nd;refine JY (k:=5) (n:=2) (g:=iW) U sS (λb A outer s H E a=>?_) λ_ _ _ _ e=>e;exact(zE$ CT a (QN T.fl_lying$ xJ 0) (zK 1)$ aDi$ LX 0$ pvo_l$ yK J a$ zF (PV.n$ vP z a (zK 0)$ zF (pnV 1) zS)$ zF (pnV 2)$ zF pnI zS)
def rM:FnScope ["self","name","span"] ["self","name","span"] (zJ$ dG (top 40) 2):={}
def AX{f:aF}{fd:bR}(U:Fun K "lift" "Bundle.lift" (dG (top 40) 2) f fd)(T:Glb K mg)(J:Cal P w K mg base "put" 5 3 lC)(z:MCal P w K mg base "only" 2 1 [12] dU):FnOk P w K mg base CX0 6 f fd ["self","name","span"] (spL K 2 eO):=by have nd:=rM.nd;refine JY (k:=5) (n:=2) (g:=iK) U rM (λb A outer s H E a=>?_) λ_ _ _ _ e=>e;exact(zE$ CT a (QN T.fl_lying$ xJ 0) (zK 1)$ aDi$ LX 0$ pvo_l$ yK J a$ zF (PV.n$ vP z a (zK 0)$ zF (pnV 1) zS)$ zF (pnV 2)$ zF (PV.n qN) zS)
def CG:FnScope ["maps","together","pieces"] ["maps"] (zJ$ top 42):={}
def NR{f:aF}{fd:bR}(J:Fun K "stacked" "stacked" (top 42) f fd)(T:Glb K mg)(z:Cal P w K mg base "joined" 3 3 (mH cP)):FnOk P w K mg base CX0 4 f fd ["maps"] (spF K 1$ gP cP):=by
 have nd:=CG.nd;refine qV (k:=3) (g:=(oZ cP)) J CG (λb A outer s H E a=>?_) λd r c e=>zZ e
 exact(zC (yG (i:=1) nd$ jF zW)
  (zC (yL WX.never rfl (jG$ zK 0) (zO (i:=2) nd) (zE$ yG (i:=1) nd$ yK z a$ zF (pnV 1)$ zF (pnV 2)$ zF (PV.n$ pv_fn T.fv_3) zS))
  (zE$ xI 1)))
def kM:FnScope ["self","many","numbers","crowded"] ["self","many"] (zJ$ dG (top 40) 6):={}
def uQ{f:aF}{fd:bR}(U:Fun K "crowd" "Bundle.crowd" (dG (top 40) 6) f fd)(T:Glb K mg)(z:Cal P w K mg base "stacked" 4 1 (gP cP))(J:Cal P w K mg base "turned" 3 2 (fT cP)){mc mp:aF}(M:Mkr K "Bundle.crowd" 11 (dG (top 40) 6) f mc mp):FnOk P w K mg base CX0 5 f fd ["self","many"] (spF K 2$ lF cP):=by
 have nd:=kM.nd;have a:(["low","behind","value"]:List Str).Nodup:=by decide +kernel
 refine fun_okM (k:=4) (g:=(lD cP)) U kM M (λA outer s H E b=>?_) λh r d e=>zZ e
 exact(zC (qC (PWv.t$ xU (sU (zD 1) pwI)$ yR$ AG (zD 1)$ PV.w$ UK T.b_len$ CM T.fl_lying$ zK 0) (zE xQ) zL)
  (zC (zU (i:=2) nd$ zX z b$ zF (PV.n$ PVf.s$ YB rfl T.b_list (CM T.fl_lying$ zK 0)) zS)
  (zC (zU (i:=3) nd$ aDm (t:=laT "Bundle.crowd"$ exA 1$ stE$ stN 2$ qJ$ dG (top 40) 6) (j:=0) (is:=[1]) J b M (aEq (pnV 2)$ aEp (is:=[1]) M$ by kernel_rfl) (by kernel_rfl)$ by kernel_rfl)
  (zE$ wH$ yO (NY:=["low","behind","value"]) (mp:=[ac,ac,ac]) (qY$ by kernel_rfl) rfl (jG$ zK 3) (λc=>(xP (n:=3) rfl$ qA (zO (i:=0) a)$ qA (zO (i:=1) a)$ qA (zO (i:=2) a) yX)) (λc=>yZ) (λc=>(yA$ zI (zK 0)$ zI (zK 1) zW))))))
def sG{f U:aF}(T:Glb K mg)(z:Cal P w K mg base "stacked" 4 1 (gP cP))(J:Cal P w K mg base "turned" 3 2 (fT cP)){mc mp:aF}(M:Mkr K "Bundle.crowd" 11 (dG (top 40) 6) f mc mp)(R:XR K mg 4 U)(A:dF)(outer:List Env)(s:aW)(H:Hp)(E:XK)(Y:Room 4 (A.deeper$ iM "Bundle.crowd" (zJ$ dG (top 40) 6) s.heap.objs.size f$ .ref mc)):PSsy (cxOf (CXM P w) P w K mg base ["self","many","numbers","crowded"] "Bundle.crowd" (zJ$ dG (top 40) 6) f (.ref mc) A outer s H E) E U (qJ$ dG (top 40) 6) fG:=by
 have nd:(["self","many","numbers","crowded"]:List Str).Nodup:=kM.nd
 exact(HM (psy_if (PWv.t$ xU (sU (zD 1) pwI)$ yR$ AG (zD 1)$ PV.w$ UK T.b_len$ CM T.fl_lying$ zK 0) (HM (PSx.y$ YG R.cls R.gl)
  JM)$ QP JM)
  JM)
def sE{f U:aF}{fd:bR}(Y:Fun K "crowd" "Bundle.crowd" (dG (top 40) 6) f fd)(T:Glb K mg)(z:Cal P w K mg base "stacked" 4 1 (gP cP))(J:Cal P w K mg base "turned" 3 2 (fT cP)){mc mp:aF}(M:Mkr K "Bundle.crowd" 11 (dG (top 40) 6) f mc mp)(R:XR K mg 4 U):FnOk P w K mg base (CXM P w) 5 f fd ["self","many"] (spX K 2 cO U):=
 aGo (k:=4) (g:=fG) Y kM M (λA outer s H E a=>sG T z J M R A outer s H E a) (λc b e=>e)
def pO:FnScope ["_law_script","_law_k"] ["_law_script","_law_k"] (zJ$ top 44):={}
def uP{f:aF}{fd:bR}(z:Fun K "_law_cell_at" "_law_cell_at" (top 44) f fd)(T:Glb K mg): FnOk P w K mg base CX0 1 f fd ["_law_script","_law_k"] (spF K 2 eE):=by
 have nd:=pO.nd;refine qV (k:=0) (g:=pE) z pO (λa A outer s H E b=>?_) λd r c e=>zZ e
 exact(zC (qC (sU (zD 1)$ PV.w$ jO T.b_len$ zP (zD 0) qE) (zE$ zY$ PV.w$ qQ (zD 0)$ zD 1) zL)
  (zE$ zY pwI))
def sM:FnScope ["_law_found"] ["_law_found"] (zJ$ top 45):={}
def DT{f:aF}{fd:bR}(z:Fun K "_law_whole" "_law_whole" (top 45) f fd)(T:Glb K mg): FnOk P w K mg base CX0 1 f fd ["_law_found"] (spF K 1 fZ):=by have nd:=sM.nd;refine qV (k:=0) (g:=pD) z sM (λa A outer s H E b=>?_) λd r c e=>zZ e;exact(zE$ zY$ PV.w$ uM (CL T.b_isinstance T.b_int (3:)$ zD 0)$ uK$ aDj$ CL T.b_isinstance T.b_bool (3:)$ zD 0)
def sP:FnScope ["_law_head","_law_cell","_law_letters","_law_size","_law_many_here","_law_names_here","_law_k","_law_signs","_law_j","_law_step"] ["_law_head","_law_cell"] (zJ$ top 46):={}
def DV{f:aF}{fd:bR}(z:Fun K "_law_names" "_law_names" (top 46) f fd)(T:Glb K mg): FnOk P w K mg base CX0 1 f fd ["_law_head","_law_cell"] (spF K 2 mE):=by
 have nd:=sP.nd;refine qV (k:=0) (g:=oJ) z sP (λb A outer s H E a=>?_) λd r c e=>zZ e
 exact(zC (zU (i:=2) nd aDh)
  (zC (zU (i:=3) nd$ qR pwI$ PV.w$ zV (zD 1) pwI)
  (zC (zU (i:=4) nd$ qR pwI$ PV.w$ qQ (PV.w$ PVf.s$ jF$ zI (zV (PV.w$ jH (zD 0) pwI) pwI)$ zI (zV (PV.w$ jH (zD 0) pwI) pwI) zW)$ PV.w$ jH (PV.w$ zV (zD 0) pwI) pwI)
  (zC (qC (kA a (pnV 3) pnI) (zE$ zU (i:=4) nd$ JJ rfl T.b_min (zP (zD 4)$ zP pwI qE)) zL)
  (zC (yG (i:=5) nd$ jF zW)
  (zC (yL WX.never rfl (wO T.b_range$ zK 4) (zO (i:=6) nd) (zC (yG (i:=7) nd$ jF zW)
  (zC (yL WX.never rfl (wO T.b_range$ zK 3) (zO (i:=8) nd) (zC (zU (i:=9) nd$ qQ (PV.w$ PVf.s$ jF$ zI (zK 6)$ zI (jH (zD 6) pwI)$ zI yB zW)$ PV.w$ JJ rfl T.b_min (zP (PV.w$ zV (PV.w$ qR (zD 8)$ PV.w$ jH (zD 1) pwI)$ zD 3)$ zP pwI qE))
  (zE$ xA (i:=7)$ qQ (zD 2)$ PV.w$ zV (PV.w$ qR (PV.w$ qR (PV.w$ jH (zD 1)$ PV.w$ qR (zD 8) pwI)$ PV.w$ jT (PV.w$ jT (zD 8)$ zD 8) pwI)$ zD 9) pwI)))
  (zE$ xA (i:=5)$ pv_join (PV.w aDh)$ zD 7))))
  (zE$ xI 5)))))))
def sQ:FnScope ["_law_cell","_law_great_here"] ["_law_cell"] (zJ$ top 47):={}
def DW{f:aF}{fd:bR}(z:Fun K "_law_great" "_law_great" (top 47) f fd)(T:Glb K mg): FnOk P w K mg base CX0 1 f fd ["_law_cell"] (spF K 1 lW):=by
 have nd:=sQ.nd;refine qV (k:=0) (g:=sW) z sQ (λa A outer s H E b=>?_) λd r c e=>zZ e
 exact(zC (zU (i:=1) nd$ wS (PV.w$ wS pwI pwI) pwI)
  (zE$ zY$ PV.w$ xT (PV.w$ zV (zD 0)$ PV.w$ qR (PV.w$ jT pwI$ zD 1) pwI)$ zD 1))
def tQ:FnScope ["_law_cell","_law_k","_law_ends","_law_mixed","_law_more","_law_low","_law_behind"] ["_law_cell","_law_k","_law_ends"] (zJ$ top 48):={}
def FV{f:aF}{fd:bR}(J:Fun K "_law_over" "_law_over" (top 48) f fd)(T:Glb K mg)(z:Cal P w K mg base "_law_great" 1 1 lW):FnOk P w K mg base CX0 2 f fd ["_law_cell","_law_k","_law_ends"] (spR K 3 2 mX):=by
 have nd:=tQ.nd;refine fun_okR (k:=1) (p:=2) (g:=tK) J tQ (λb A outer s H E a=>?_) λ_ _ _ _ e=>e
 exact(jR (zU (i:=3) nd$ zV (PV.w$ qR (PV.w$ qR (PV.w$ jT (zD 0) pwI)$ PV.w$ jT (PV.w$ jT (zD 1)$ zD 1) pwI) pwI) pwI)
  (jR (zU (i:=3) nd$ zV (PV.w$ jT (zD 3)$ zD 3) pwI)
  (jR (zU (i:=4) nd$ zV (PV.w$ qR (PV.w$ qR (PV.w$ jT (zD 0) pwI)$ PV.w$ jT (PV.w$ jT (zD 1)$ zD 1) pwI) pwI) pwI)
  (jR (zU (i:=4) nd$ zV (PV.w$ jT (zD 4)$ zD 3) pwI)
  (jR (zU (i:=5) nd$ xT (PV.w$ zV (PV.w$ jH (zD 3) pwI) pwI) pwI)
  (jR (qC (PWv.t$ yU (kA a (PV.n$ zV (zD 3) pwI) pnI)$ yP$ MH a (UF 2)$ PV.n$ PVf.s$ jF zW) (zE$ zU (i:=5) nd$ xT (PV.w$ qR (PV.w$ UH 2$ qQ (zD 2)$ PV.w$ zV (PV.w$ jH (zD 3) pwI)$ PV.w$ jO T.b_len$ zP (zD 2) qE)$ PV.w$ zV (PV.w$ jH (zD 3) pwI) pwI) pwI) zL)
  (jR (qC (kA a (PV.n$ zV (zD 3) pwI) pnI) (zE$ zU (i:=5) nd$ qQ (PV.w$ PVf.s$ jF$ zI (xT (PV.w$ zV (zD 0)$ PV.w$ qR (PV.w$ jT pwI$ PV.w$ wS pwI pwI) pwI)$ PV.w$ wS pwI pwI)$ zI (zX z a$ zF (pnV 0) zS) zW)$ PV.w$ zV (PV.w$ jH (zD 3) pwI) pwI) zL)
  (jR (zU (i:=6) nd$ qR (PV.w$ qR (zD 5) pwI)$ PV.w$ qQ (PV.w$ PVf.s$ jF$ zI (zV (PV.w$ jH (zD 4) pwI) pwI)$ zI (zV (PV.w$ jH (zD 4) pwI) pwI)$ zI (zV (PV.w$ jT (zD 0) pwI)$ PV.w$ wS pwI pwI)$ zI yB zW)$ PV.w$ zV (zD 4) pwI)
  (jR (qC (PWv.t$ yU (kA a (PV.n$ zV (zD 4) pwI) pnI)$ yP$ MH a (UF 2)$ PV.n$ PVf.s$ jF zW) (zE$ zU (i:=6) nd$ UI rfl T.b_max (zP (zD 6)$ zP (PV.w$ UH 2$ qQ (zD 2)$ PV.w$ zV (PV.w$ jH (zD 4) pwI)$ PV.w$ jO T.b_len$ zP (zD 2) qE) qE)) zL)
  (jR (ML (xJ 2)$ zK 5)
  (jR (ML (xJ 2)$ zK 6)
  (jR (qC (sU (PV.w$ zV (PV.w$ jH (zD 4) pwI) pwI) pwI) (zE$ zU (i:=5) nd qN) zL)
  (jR (qC (pt_in (PV.n$ zV (PV.w$ jH (zD 4) pwI) pwI)$ PV.n$ yA$ zI yB$ zI yB zW) (zE$ zU (i:=6) nd qN) zL)
  (prv_ret$ pvx_v$ yA$ zI (zK 5)$ zI (zK 6) zW))))))))))))))
def AE:FnScope ["_law_over_here","_law_place"] ["_law_over_here","_law_place"] (zJ$ top 49):={}
def KA{f:aF}{fd:bR}(z:Fun K "_law_has" "_law_has" (top 49) f fd)(T:Glb K mg): FnOk P w K mg base CX0 1 f fd ["_law_over_here","_law_place"] (spF K 2 kQ):=by have nd:=AE.nd;refine qV (k:=0) (g:=uB) z AE (λa A outer s H E b=>?_) λd r c e=>zZ e;exact(zE$ zY$ PV.w$ uM (pv_or (pv_is (PV.n$ qQ (zD 0) pwI)$ PV.n qN)$ uK$ pv_le (PV.w$ qQ (zD 0) pwI)$ zD 1)$ uK$ pv_or (pv_is (PV.n$ qQ (zD 0) pwI)$ PV.n qN)$ uK$ pv_lt (zD 1)$ PV.w$ qQ (zD 0) pwI)
def tR:FnScope ["_law_deeds","_law_place","_law_lies","_law_name","_law_over_here","_law_laid_there"] ["_law_deeds","_law_place"] (zJ$ top 50):={}
def FW{f:aF}{fd:bR}(J:Fun K "_law_many" "_law_many" (top 50) f fd)(T:Glb K mg)(z:Cal P w K mg base "_law_has" 1 2 kQ):FnOk P w K mg base CX0 2 f fd ["_law_deeds","_law_place"] (spF K 2 mY):=by
 have nd:=tR.nd;have a:(["_law_name","_law_lies"]:List Str).Nodup:=by decide +kernel
 refine qV (k:=1) (g:=oY) J tR (λd A outer s H E b=>?_) λj r h e=>zZ e
 exact(zC (CS (i:=2) nd LY)
  (zC (yL WX.never rfl (jG$ zK 0) (xP (n:=3) rfl$ qA (zO (i:=3) nd)$ qA (zO (i:=4) nd)$ qA (zO (i:=5) nd) yX) (zE$ qC (PVn.t$ PV.n$ zX z b$ zF (pnV 4)$ zF (pnV 1) zS) (zE$ CT b (xJ 2) (zK 3)$ pv_int1 T.b_int$ zP (zD 5) qE) zL))
  (zE$ aDw (i:=2)$ zY$ PV.w$ pv_sum rfl T.b_sum (zP (PV.w$ PVf.s$ YC (NY:=["_law_name","_law_lies"]) (mp:=[ac,aa 2]) (qY$ by kernel_rfl) rfl (aEd$ zK 2) (λc=>(zO (i:=0) a)) (λc=>yZ) (λc=>(UL b (zK 1)$ zK 0))) qE))))
def oQ:FnScope ["_law_told","_law_k","_law_low","_law_behind"] ["_law_told"] (zJ$ top 51):={}
def tS{f:aF}{fd:bR}(J:Fun K "_law_in_order" "_law_in_order" (top 51) f fd)(T:Glb K mg)(z:Cal P w K mg base "_law_whole" 1 1 fZ):FnOk P w K mg base CX0 2 f fd ["_law_told"] (spF K 1 gG):=by
 have nd:=oQ.nd;refine qV (k:=1) (g:=lQ) J oQ (λb A outer s H E a=>?_) λd r c e=>zZ e
 exact(zC (qC (yM$ PVn.t$ PV.n$ CL T.b_isinstance T.b_list (3:)$ zD 0) (zE$ zY$ PV.w xR) zL)
  (zC (yL WX.never rfl (wO T.b_range$ jO T.b_len$ zP (zD 0) qE) (zO (i:=1) nd) (zC (qC (PWv.t$ xU (yM$ PVn.t$ PV.n$ CL T.b_isinstance T.b_tuple (3:)$ PV.w$ qQ (zD 0)$ zD 1)$ yR$ MH a (PV.n$ jO T.b_len$ zP (PV.w$ qQ (zD 0)$ zD 1) qE) pnI) (zE$ zY$ PV.w xR) zL)
  (zC (psv_asg (qQ (zD 0)$ zD 1)$ xP (n:=2) rfl$ qA (zO (i:=2) nd)$ qA (zO (i:=3) nd) yX)
  (zC (qC (PWv.t$ yU (yM$ PVn.t$ PV.n$ zX z a$ zF (pnV 2) zS)$ yP$ PWv.t$ xU (yE (pnV 2)$ PV.n qN)$ yR$ AG (zD 1) pwI) (zE$ zY$ PV.w xR) zL)
  (zC (qC (PWv.t$ yU (yM$ PVn.t$ PV.n$ zX z a$ zF (pnV 3) zS)$ yP$ PWv.t$ xU (yE (pnV 3)$ PV.n qN)$ yR$ sU (zD 1)$ PV.w$ xT (PV.w$ jO T.b_len$ zP (zD 0) qE) pwI) (zE$ zY$ PV.w xR) zL)
  (zC (qC (PWv.t$ yU (yE (pnV 2)$ PV.n qN)$ yU (yE (pnV 3)$ PV.n qN)$ yP$ aDu (zD 2)$ zD 3) (zE$ zY$ PV.w xR) zL)
  (zE$ qC (PWv.t$ yU (AG (zD 1) pwI)$ yP$ aDu (PV.w$ qQ (PV.w$ qQ (zD 0)$ PV.w$ xT (zD 1) pwI) pwI)$ zD 2) (zE$ zY$ PV.w xR) zL)))))))
  (zE$ zY$ PV.w xR)))
def sN:FnScope ["_law_told","_law_deeds","_law_ends","_law_many_here","_law_places","_law_place"] ["_law_told","_law_deeds","_law_ends","_law_many_here"] (zJ$ top 52):={}
def DU{f:aF}{fd:bR}(Y:Fun K "_law_right" "_law_right" (top 52) f fd)(T:Glb K mg)(z:Cal P w K mg base "_law_in_order" 2 1 gG)(J:Cal P w K mg base "_law_many" 2 2 mY)(U:Cal P w K mg base "_law_has" 1 2 kQ):FnOk P w K mg base CX0 3 f fd ["_law_told","_law_deeds","_law_ends","_law_many_here"] (spF K 4 fK):=by
 have nd:=sN.nd;have l:(["_law_one"]:List Str).Nodup:=by decide +kernel
 have j:(["_law_one"]:List Str).Nodup:=by decide +kernel
 have h:(["_law_place"]:List Str).Nodup:=by decide +kernel
 have d:(["_law_place"]:List Str).Nodup:=by decide +kernel
 have b:(["_law_one","_law_place"]:List Str).Nodup:=by decide +kernel
 refine qV (k:=2) (g:=oH) Y sN (λm A outer s H E a=>?_) λo r n e=>zZ e
 exact(zC (qC (yM$ PVn.t$ PV.n$ zX z a$ zF (pnV 0) zS) (zE$ zY$ PV.w xR) zL)
  (zC (zU (i:=4) nd$ PVf.s$ JH (PV.w$ PVf.s$ JH (zD 2)$ PV.w$ PVf.s$ yO (NY:=["_law_one"]) (mp:=[ac]) (qY$ by kernel_rfl) rfl (jG$ zK 0) (λc=>(zO (i:=0) l)) (λc=>yZ) (λc=>(qQ (zD 0) pwI)))$ PV.w$ PVf.s$ yO (NY:=["_law_one"]) (mp:=[ac]) (qY$ by kernel_rfl) rfl (jG$ zK 0) (λc=>(zO (i:=0) j)) (λc=>yZ) (λc=>(qQ (zD 0) pwI)))
  (zC (YJ (i:=4) nd (NY:=["_law_place"]) (mp:=[ac]) (qY$ by kernel_rfl) rfl (jG$ zK 4) (λc=>(zO (i:=0) h)) (λc=>(pfv_one$ yE (pnV 0)$ PV.n qN)) (λc=>(zK 0)))
  (zC (yL WX.never rfl (jG$ PVf.s$ FQ rfl T.b_sorted T.b_set (PV.w$ PVf.s$ JH (zD 4)$ PV.w$ PVf.s$ yO (NY:=["_law_place"]) (mp:=[ac]) (qY$ by kernel_rfl) rfl (jG$ zK 4) (λc=>(zO (i:=0) d)) (λc=>yZ) (λc=>(xT (zD 0) pwI)))) (zO (i:=5) nd) (zE$ qC (MH a (PV.n$ pv_any rfl T.b_any (zP (PV.w$ PVf.s$ yO (NY:=["_law_one","_law_place"]) (mp:=[ac,aa 5]) (qY$ by kernel_rfl) rfl (jG$ zK 0) (λc=>(zO (i:=0) b)) (λc=>yZ) (λc=>(zX U a$ zF (pnV 0)$ zF (pnV 1) zS))) qE))$ PV.n$ pv_ge (PV.w$ zX J a$ zF (pnV 1)$ zF (pnV 5) zS)$ zD 3) (zE$ zY$ PV.w xR) zL))
  (zE$ zY$ PV.w xR)))))
def pN:FnScope ["_law_bundle","_law_many_here","e","_law_other"] ["_law_bundle","_law_many_here"] (zJ$ top 53):={}
def uO{f:aF}{fd:bR}(Fn:Fun K "_law_refused" "_law_refused" (top 53) f fd)(T:Glb K mg)(J:MCal P w K mg base "crowd" 5 1 [12] (cQ cP)){Y:aF}{U:aF}(XT_4:XT K mg 4 "SpanError" U Y)(z:MCalX P w K mg base "crowd" 12 5 1 cO U):FnOk P w K mg base CX0 6 f fd ["_law_bundle","_law_many_here"] (spF K 2 gS):=by
 have nd:=pN.nd;obtain⟨D0_3,D0_1,D0_8,D0_2,D0_7,D0_6,D0_12,D0_9,D0_5,D0_11,D0_10,n,p,h,o,j,l,a,d,m,b,c,q⟩:=T.isxT_0;refine qV (k:=5) (g:=mQ) Fn pN (λv A outer s H E u=>?_) λD r y e=>zZ e
 exact(zC (psv_try (i:=2) (t:=4) nd XT_4.gl XT_4.cat XT_4.nm (λW=>(MJ$ vP J u (zK 0)$ zF (pnV 1) zS))
  (λW=>aCr z u (zK 0)$ zF (pnV 1) zS)
  (λC x xe B=>(zC (zU (i:=3) nd$ pv_isxT (i:=2) T.b_isinstance (jY n$ jY p$ jY h$ jY o$ jY j$ jY l$ jY a$ jY d$ jY m$ jY b$ jY c pac_nil) q)
  (zE$ zY$ PV.w$ uM (pv_isx (i:=2) T.b_isinstance T.isx_NoCount_4)$ uM (pv_isxB (i:=2) T.b_isinstance T.b_ValueError T.isxB_ValueError_4)$ uK$ aDj$ zK 3))))
  (zE$ zY$ PV.w xR))
def aDa:FnScope ["_law_script","_law_names_here","_law_bundle","_law_deeds","_law_ends","_law_cell","_law_over_here","_law_mixed","_law_many_here","_law_far","_law_asked"] ["_law_script"] (zJ$ top 54):={}
def fok_law{f:aF}{fd:bR}(Fn:Fun K "law" "law" (top 54) f fd)(T:Glb K mg)(Y:Cal P w K mg base "_law_names" 1 2 mE)(z:Cal P w K mg base "_law_cell_at" 1 2 eE)(C__law_over:CalR P w K mg base "_law_over" 2 3 2 mX)(J:Cal P w K mg base "_law_right" 3 4 fK)(U:Cal P w K mg base "_law_refused" 6 2 gS)(M_lay:LCal P w K mg base "lay" 6 2 [12] (λ_=>eY))(M_lift:LCal P w K mg base "lift" 6 2 [12] (λ_=>eO))(M_crowd:MCal P w K mg base "crowd" 5 1 [12] (cQ cP))(Mk_Bundle_0:LMk P w K mg base 24 3 1 0 dW):FnOk P w K mg base CX0 7 f fd ["_law_script"] (spF K 1 tY):=by
 have nd:=aDa.nd;refine qV (k:=6) (g:=tX) Fn aDa (λb A outer s H E a=>?_) λd r c e=>zZ e
 exact(zC (zU (i:=1) nd$ zX Y a$ zF (PV.n$ zX z a$ zF (pnV 0)$ zF pnI zS)$ zF (PV.n$ zX z a$ zF (pnV 0)$ zF pnI zS) zS)
  (zC (CS (i:=2) nd$ aDg Mk_Bundle_0 a$ zI (PVf.s$ MA T.b_list$ zD 1) zW)
  (zC (yG (i:=3) nd$ jF zW)
  (zC (CS (i:=4) nd$ pvo_s$ aEo (pvo_v$ xT (PV.w$ zV (PV.w$ zX z a$ zF (pnV 0)$ zF pnI zS) pwI) pwI) UY)
  (zC (yL WX.never rfl (jG$ PVf.s$ YA (zD 0) (aEb pwI)$ aEb pwI) (zO (i:=5) nd) (zC (aDv (i:=6) nd$ XZ C__law_over a$ MP (zK 5)$ MP (jO T.b_len$ zP (zD 3) qE)$ aEn (i:=4) zW)
  (zC (zU (i:=7) nd$ zV (PV.w$ qR (PV.w$ qR (PV.w$ jT (zD 5) pwI)$ PV.w$ jT (PV.w$ jO T.b_len$ zP (zD 3) qE) pwI) pwI) pwI)
  (zC (zU (i:=7) nd$ zV (PV.w$ jT (zD 7)$ zD 7) pwI)
  (zC (xA (i:=3)$ yA$ zI (qQ (zD 1)$ PV.w$ zV (PV.w$ jH (zD 7) pwI)$ PV.w$ jO T.b_len$ zP (zD 1) qE)$ zI (zK 6)$ zI (pv_gt (PV.w$ zV (zD 7) pwI) pwI) zW)
  (zC (qC (AG (PV.w$ zV (zD 7) pwI) pwI) (zE$ MI M_lay a (xJ 2)$ zI (qQ (PV.w$ qQ (zD 3)$ PV.w$ vU yB) pwI)$ zI (zK 6) zW)$ zE$ MI M_lift a (xJ 2)$ zI (qQ (PV.w$ qQ (zD 3)$ PV.w$ vU yB) pwI)$ zI (zK 6) zW)
  (zC (zU (i:=8) nd$ qR pwI$ PV.w$ zV (PV.w$ jH (zD 7) pwI)$ PV.w$ jO T.b_len$ zP (zD 1) qE)
  (zE$ qC (MG 4$ CQ 2$ PWv.t$ yU (kA a (PV.n$ zV (PV.w$ jO T.b_len$ zP (zD 3) qE) pwI) pnI)$ yP$ yM$ PVn.t$ PV.n$ zX J a$ zF (PV.n$ vP M_crowd a (zK 2)$ zF (pnV 8) zS)$ zF (pnV 3)$ zF (pnV 4)$ zF (pnV 8) zS) (zE$ zY$ PV.w xR) zL))))))))
  (zC (zU (i:=5) nd$ zX z a$ zF (pnV 0)$ zF pnI zS)
  (zC (zU (i:=9) nd$ zV (PV.w$ jH (zD 5) pwI)$ PV.w$ wS pwI pwI)
  (zC (zU (i:=10) nd$ PVf.s$ jF$ zI yB$ zI (jO T.b_len$ zP (zD 1) qE)$ zI (qR pwI$ PV.w$ zV (zD 9)$ PV.w$ jO T.b_len$ zP (zD 1) qE) zW)
  (zC (qC (kA a (PV.n$ zV (zD 5) pwI) pnI) (zE$ zU (i:=10) nd$ PVf.s$ jF$ zI (vU$ zK 9)$ zI (qR pwI$ PV.w$ zV (zD 9)$ PV.w$ jO T.b_len$ zP (zD 1) qE) zW) zL)
  (zC (qC (kA a (PV.n$ zV (zD 5) pwI) pnI) (zE$ zU (i:=10) nd$ PVf.s$ jF$ zI (qR (PV.w$ qR (PV.w$ jO T.b_len$ zP (zD 1) qE) pwI)$ zD 9)$ zI (qR pwI$ PV.w$ zV (zD 9)$ PV.w$ jO T.b_len$ zP (zD 1) qE) zW) zL)
  (zC (yL WX.never rfl (jG$ zK 10) (zO (i:=8) nd) (zE$ qC (PWv.t$ xU (sU (zD 8) pwI)$ yR$ AG (zD 8)$ PV.w$ jO T.b_len$ zP (zD 1) qE) (zE$ qC (CQ 2$ yM$ PVn.t$ PV.n$ zX U a$ zF (pnV 2)$ zF (pnV 8) zS) (zE$ zY$ PV.w xR) zL)$ zE$ qC (MG 4$ CQ 2$ yM$ PVn.t$ PV.n$ zX J a$ zF (PV.n$ vP M_crowd a (zK 2)$ zF (pnV 8) zS)$ zF (pnV 3)$ zF (pnV 4)$ zF (pnV 8) zS) (zE$ zY$ PV.w xR) zL))
  (zE$ zY$ PV.w xR))))))))))))
end
open FL
open Builtin.Int (intBits)
noncomputable def An(c:Int)(j:Nat):Int:=c/((j:Int)+5)+(j:Int)*(j:Int)*3
def innerNQ c J(sz:Nat)(h1:1<=sz)(h8:sz<=8) x0 x4 x5 x8 x9:∃Y U:Sl,forG (rng1$ qB 3) (zM 8) iF [x0,.v$ .int c,.v$ .str$ Str.ofString "abcdefghijklmnopqrstuvwxyz",.v$ .int (sz:Int),x4,x5,.v$ .int J,.own [],x8,x9] =
  aa (.nx [x0,.v$ .int c,.v$ .str$ Str.ofString "abcdefghijklmnopqrstuvwxyz",.v$ .int (sz:Int),x4,x5,.v$ .int J,.own$ (baseN (An c) (c/8) sz J).map λq=>.str$ txS [q],Y,U]):=by
 have H:∀k,k<sz->∀a,(λj a=>∃Y U:Sl,a=(6:)) k a->∃b ds2,zM 8 (.int (k:Int)) a=aa b/\iF b=aa (.nx ds2)/\(λj a=>∃Y U:Sl,a=(6:)) (k+1) ds2:=by
  intro k p a d;obtain⟨Y,U,rfl⟩:=d;have i:fE (k:Int) (k:Int):=dY (qG (m:=64)$ by lia) (qG (m:=64)$ by lia) (by decide);have o:(0:Int)<=(k:Int)*k/\(k:Int)*k<=64:=⟨Int.mul_nonneg (by lia)$ by lia,fO (GN (show(k:Int)<=8 by lia) (show(k:Int)<=8 by lia) (by lia)$ by lia)$ by decide⟩
  have l:fE ((k:Int)*k) 3:=dY (qG (m:=64)$ by lia) (qG (m:=64)$ by decide) (by decide);have g:=yY ((k:Int)+c/8) (show 0<(sz:Int) by lia);have r0:=fF ((k:Int)+c/8) (show(sz:Int)≠0 by lia);have st:=step_at 26 J (((k:Int)+c/8)%(sz:Int)) r0;have n:=NV c (show 0<(k:Int)+5 by lia) (by lia);have f:=abc_at$ An c k+stepN 26 J (((k:Int)+c/8)%(sz:Int));generalize hst:stepN 26 J (((k:Int)+c/8)%(sz:Int))=sv at *;generalize hr:((k:Int)+c/8)%(sz:Int)=r at *;refine⟨_,_,rfl,?_,.v$ .int (k:Int),.v$ .int sv,rfl⟩;have z:k<16777216:=by lia
  unfold An at f;rw[pV,dC,dC];simp only[aQ,dO,hr,hst];generalize hR:(List.map (λq=>D.str$ txS [q])$ List.map (λj:Nat=>ltrB$ An c j+stepN 26 J (((j:Int)+c/8)%(sz:Int)))$ List.range k)=R;have h:R.length=k:=by rw[<-hR];simp
  unfold An;generalize hL:D.str (Str.ofString "abcdefghijklmnopqrstuvwxyz")=L at *;unfold iF;rw[zQ (ds':=[x0,.v$ .int c,.v L,.v$ .int (sz:Int),x4,x5,.v$ .int J,.own R,.v$ .int (k:Int),.v$ .int sv])$ by simp[g,mnD,st]];simp[n,jD i,jD l,f,h,z]
 obtain⟨ds',e,Y,U,d⟩:=wM (ga:=zM 8) (body:=iF) (λj a=>∃Y U:Sl,a=(6:)) sz H sz 0 _ (by lia) ⟨x8,x9,rfl⟩;subst d;refine⟨Y,U,?_⟩;rw[<-sT]at e;have ok:okR (sz:Int):=kD (by lia) (by lia);rw[wQ];simp only[List.range_zero,dO]at e;simp[ok,e,baseN]
noncomputable def nmK(c:Int)(sz:Nat)(i:Nat):List Nat:=baseN (An c) (c/8) sz (i:Int)
def outer c(sz many:Nat)(h1:1<=sz)(h8:sz<=8)(hn:many<=60) x0:∃y6 Y U J:Sl,forG (rng1$ qB 4) (zM 6) iE [x0,.v$ .int c,.v$ .str$ Str.ofString "abcdefghijklmnopqrstuvwxyz",.v$ .int (sz:Int),.v$ .int (many:Int),.own [],.no,.no,.no,.no] =
  aa (.nx [x0,.v$ .int c,.v$ .str$ Str.ofString "abcdefghijklmnopqrstuvwxyz",.v$ .int (sz:Int),.v$ .int (many:Int),.own$ ((List.range many).map λi=>txS$ nmK c sz i).map D.str,y6,Y,U,J]):=by
 have H:∀k,k<many->∀a,(λj a=>∃y6 Y U J:Sl,a=[x0,.v$ .int c,.v$ .str$ Str.ofString "abcdefghijklmnopqrstuvwxyz",.v$ .int (sz:Int),.v$ .int (many:Int),.own$ ((List.range j).map λi=>txS$ nmK c sz i).map D.str,y6,Y,U,J]) k a->∃b ds2,zM 6 (.int (k:Int)) a=aa b/\iE b=aa (.nx ds2)/\(λj a=>∃y6 Y U J:Sl,a=[x0,.v$ .int c,.v$ .str$ Str.ofString "abcdefghijklmnopqrstuvwxyz",.v$ .int (sz:Int),.v$ .int (many:Int),.own$ ((List.range j).map λi=>txS$ nmK c sz i).map D.str,y6,Y,U,J]) (k+1) ds2:=by
  intro k o a d;obtain⟨y6,Y,U,J,rfl⟩:=d;dsimp only;rw[pV,dC,dC];simp only[aQ,dO];generalize hR:(List.map D.str$ List.map (λi=>txS$ nmK c sz i)$ List.range k)=R;have h:R.length=k:=by rw[<-hR];simp
  have z:k<16777216:=by lia
  obtain⟨g,f,m⟩:=innerNQ c (k:Int) sz h1 h8 x0 (.v$ .int (many:Int)) (.own R) U J;unfold nmK;have n:=EQ (An c) (c/8) sz (k:Int);have l:=ZO (baseN (An c) (c/8) sz (k:Int)) (by lia);generalize hB:baseN (An c) (c/8) sz (k:Int)=B at *;refine⟨_,[x0,.v$ .int c,.v$ .str$ Str.ofString "abcdefghijklmnopqrstuvwxyz",.v$ .int (sz:Int),.v$ .int (many:Int),.own$ R++[D.str$ txS B],.v$ .int (k:Int),.own$ B.map λq=>.str$ txS [q],g,f],rfl,?_,_,_,_,_,rfl⟩;simp only[fP,eQ];unfold iE;generalize hL:D.str (Str.ofString "abcdefghijklmnopqrstuvwxyz")=L at *
  rw[zQ (ds':=[x0,.v$ .int c,.v L,.v$ .int (sz:Int),.v$ .int (many:Int),.own R,.v$ .int (k:Int),.own [],U,J])$ by simp,
   zQ m]
  simp[l,h,z]
 obtain⟨ds',e,y6,Y,U,J,d⟩:=wM (ga:=zM 6) (body:=iE) (λj a=>∃y6 Y U J:Sl,a=[x0,.v$ .int c,.v$ .str$ Str.ofString "abcdefghijklmnopqrstuvwxyz",.v$ .int (sz:Int),.v$ .int (many:Int),.own$ ((List.range j).map λi=>txS$ nmK c sz i).map D.str,y6,Y,U,J]) many H many 0 _ (by lia) ⟨.no,.no,.no,.no,rfl⟩;subst d;refine⟨y6,Y,U,J,?_⟩;rw[<-sT]at e;have ok:okR (many:Int):=kD (by lia) (by lia);rw[wQ];simp only[List.range_zero,dO]at e;simp[ok,e]
def nm_ok1 c sz i(h1:1<=sz)(z:sz<=8):NmS (txS$ nmK c sz i):=by
 refine⟨_,⟨?_,?_,aHw _ _ _ _⟩,rfl⟩
 . rw[EQ];lia
 . rw[EQ];lia
def nm_inj c sz many(h1:1<=sz)(U:many<=60)(J:sz=1->many<=26):((List.range many).map λi=>txS$ nmK c sz i).Nodup:=by
 rw[List.Nodup,aBh];refine tW ?_ List.nodup_range;intro i j hi f d e;rw[nZ]at hi f;have g:=aHx h1 (a:=(i:Int)) (b:=(j:Int)) ⟨by lia,by lia,λz=>by have:=J z;lia⟩ ⟨by lia,by lia,λz=>by have:=J z;lia⟩$ txS_inj.mp e
 lia
def aFi h c:∃ns:List Str,1<=ns.length/\ns.length<=60/\(∀x∈ns,NmS x)/\ns.Nodup/\mE [.int h,.int c]=aa (.fresh$ ns.map D.str):=by
 obtain⟨sz,m,o,B⟩:∃sz:Nat,1+c%8=(sz:Int)/\1<=sz/\sz<=8:=⟨(1+c%8).toNat,by lia,by lia,by lia⟩
 obtain⟨d,n,P,C⟩:∃d:Int,ixD (.lst [.int$ h/4%5,.int$ h/4%60]) (.int$ h%4/3)=aa (.int d)/\0<=d/\d<60:=by obtain⟨g,Q,e⟩:=aCn (h/4%5) (h/4%60) (r:=h%4/3) (by lia) (by lia);exact⟨g,e,by lia,by lia⟩
 obtain⟨b,j,E,f,k⟩:∃b:Nat,(∀y x1 w v u t s p:Sl,ifG (zN$ zH eqD (zG 3)$ zA$ .int 1) (jW 4$ callB mnD$ zB (zG 4)$ zB (zA$ .int 26) zT) qH [y,x1,w,.v$ .int (sz:Int),.v$ .int$ 1+d,v,u,t,s,p]=aa (.nx [y,x1,w,.v$ .int (sz:Int),.v$ .int (b:Int),v,u,t,s,p]))/\1<=b/\b<=60/\(sz=1->b<=26):=by
  by_cases q:(sz:Int)=1
  . by_cases A:26 < 1+d
    . exact⟨26,λ_ _ _ _ _ _ _ _=>by simp[q,mnD,A],by lia,by lia,λ_=>by lia⟩
    . exact⟨(1+d).toNat,λ_ _ _ _ _ _ _ _=>by rw[tI$ by lia];simp[q,mnD,A],by lia,by lia,λ_=>by lia⟩
  . exact⟨(1+d).toNat,λ_ _ _ _ _ _ _ _=>by rw[tI$ by lia];simp[q],by lia,by lia,λz=>by lia⟩
 obtain⟨O,N,M,K,I⟩:=outer c sz b o B f$ .v$ .int h;have H:flats (((List.range b).map λi=>txS$ nmK c sz i).map D.str)=ae:=by
  generalize (List.range b).map (λi=>txS$ nmK c sz i)=l;induction l with
  |nil=>simp
  |cons a r F=>simp[F,flat]
 refine⟨(List.range b).map λi=>txS$ nmK c sz i,by simpa using E,by simpa using f,λx G=>?_,nm_inj c sz b o f k,wD ?_⟩
 . obtain⟨i,_,rfl⟩:=bQ.mp G;exact nm_ok1 c sz i o B
 . unfold oJ;generalize U:((List.range b).map λi=>txS (nmK c sz i)).map D.str=R at *;generalize J:D.str (Str.ofString "abcdefghijklmnopqrstuvwxyz")=L at *
   rw[zQ (ds':=[.v$ .int h,.v$ .int c,.v L,.no,.no,.no,.no,.no,.no,.no])$ by simp[args,J],
    zQ (ds':=[.v$ .int h,.v$ .int c,.v L,.v$ .int (sz:Int),.no,.no,.no,.no,.no,.no]) (by simp[m]),
    zQ (ds':=[.v$ .int h,.v$ .int c,.v L,.v$ .int (sz:Int),.v$ .int$ 1+d,.no,.no,.no,.no,.no]) (by simp[n]),
    zQ (j _ _ _ _ _ _ _ _),
    zQ (ds':=[.v$ .int h,.v$ .int c,.v L,.v$ .int (sz:Int),.v$ .int (b:Int),.own [],.no,.no,.no,.no]) (by simp),
    zQ I]
   simp[retXG,flatF,H]
def aEs c k es(z:0<es.length)(hc:intBits c<=1048576)(Y:0<=k)(J:k<=1000)(U:es.length+2<16777216):∃s a b,okS s/\mX (oT es) [.int c,.int k,.non]=aa (spD s,oT$ es++[a,b]):=
 over_ex 39373 48271 1299709 69621 16807 32452843 (by decide) c k es z hc Y J U
def phi_sum u v:cP (.clo 1000 3 []) [oi u,oi v]=aa (.val$ oi$ sumW u v):=by have:=XU u v;unfold cP phiOf;simp[fnF,List.lookup,this]
noncomputable def Wc(many:Int):Option Int->Option Int
 |some n=>if many<=n then aa 1 else ac
 |none=>ac
def phi_lam many v:cP (.clo 11 0 [.int many]) [oi v]=aa (.val$ oi$ Wc many v):=by
 show lamF 1 eD [.int many] [oi v]=_;cases v with
 |none=>simp[lamF,lamR,eD,Wc]
 |some n=>by_cases h:many<=n<;>simp[lamF,lamR,eD,Wc,h]
def V1(ds:Dvs):Prop:=∀d∈ds,okS d.2.1/\(d.2.2=aa 1\/d.2.2=ac)
def V1.ok(h:V1 ds):∀d∈ds,okS d.2.1:=λd hd=>(h d hd).1
def vF_one(h:V1 ds) y p:vF ds y p=aa 1\/vF ds y p=ac:=by
 unfold vF;have:∀(ds:Dvs) (b:Option Int),V1 ds->(b=aa 1\/b=ac)->(ds.foldl (vstep y p) b=aa 1\/ds.foldl (vstep y p) b=ac):=by
  intro ds;induction ds with
  |nil=>intro b _ a;exact a
  |cons d ds c=>
    intro b h a;rw[cK];refine c _ (λe f=>h e$ .tail _ f) ?_;unfold vstep;split
    . exact(h d$ .head _).2
    . exact a
 exact this ds ac h$ .inr rfl
def ND(h:V1 ds) y:Stab (endsV ds) (mapOf ds y):=λp a=>by rw[uN h.ok,uN h.ok,vF_same a]
def aHz ns ds:(bOf ns ds).map (·.2)=(srtT ns).map (mapOf ds):=by unfold bOf;rw[eI];rfl
noncomputable def oneQ(ds:Dvs)(p:Int)(y:Str):Int:=if vF ds y p=aa 1 then 1 else 0
noncomputable def cnt(ns:List Str)(ds:Dvs)(p:Int):Int:=((srtT ns).map$ oneQ ds p).sum
theorem EG ds p:∀S:List Str,0<=(S.map$ oneQ ds p).sum
 |[]=>dS _
 |y::S=>by have:=EG ds p S;rw[aQ,mM];unfold oneQ at this ⊢;split<;>lia
theorem NQ(h:V1 ds) p:∀(S:List Str) (t:Option Int),(S.map$ mapOf ds).foldl (λt m=>sumW t$ valL m p) t=match t with
  |none=>if (S.map$ oneQ ds p).sum=0 then ac else aa (S.map$ oneQ ds p).sum
  |some a=>aa$ a+(S.map$ oneQ ds p).sum
 |[],t=>by cases t<;>simp
 |y::S,t=>by
   have b:=EG ds p S;simp only[cK,aQ,mM];rw[NQ h p S,uN h.ok];have e:oneQ ds p y=if vF ds y p=aa 1 then 1 else 0:=rfl
   rw[e];generalize (S.map$ oneQ ds p).sum=z at *;rcases vF_one h y p with q|q
   . cases t with
     |none=>
       have:¬(1+z=0):=by lia
       simp[q,sumW,this]
     |some a=>simp[q,sumW];lia
   . cases t<;>simp[q,sumW]
noncomputable def stk(ns:List Str)(ds:Dvs):List Rw:=pG ((srtT ns).map$ mapOf ds) []
noncomputable def iS(ns:List Str)(ds:Dvs)(many:Int):List Rw:=turnF (Wc many)$ stk ns ds
def TW(h:V1 ds):MapF (stk ns ds)/\(stk ns ds).length<=2*ds.length+1/\∀p,valL (stk ns ds) p=if cnt ns ds p=0 then ac else aa (cnt ns ds p):=by
 obtain⟨a,b,e⟩:=GZ (E:=endsV ds) ((srtT ns).map$ mapOf ds) [] MapF.nil (λp _=>rfl) λm c=>by obtain⟨y,_,rfl⟩:=bQ.mp c;exact⟨(vN h.ok y).ord,ND h y⟩
 have d:=LQ a b;have le:=vZ ds;unfold stk;refine⟨a,by lia,λp=>?_⟩;rw[e p,show valL [] p=ac from rfl,NQ h p];rfl
def vY(h:V1 ds)(hm:1<=many):MapF (iS ns ds many)/\(iS ns ds many).length<=4*ds.length+3/\∀p,valL (iS ns ds many) p=if many<=cnt ns ds p then aa 1 else ac:=by
 obtain⟨a,b,e⟩:=TW (ns:=ns) h;have:=aCo (Wc many)$ stk ns ds;unfold iS;refine⟨GX _ a.ord,by lia,λp=>?_⟩;rw[turn_at _ a.ord,e p];by_cases z:cnt ns ds p=0
 . have:¬ many<=0:=by lia
   simp[z,Wc,this]
 . simp[z,Wc]
def aAm(h:V1 ds)(hm:1<=many)(z:r∈iS ns ds many):r.2.2=aa 1:=by
 obtain⟨a,b,e⟩:=vY (ns:=ns) h hm;obtain⟨p,c⟩:=ZX r$ a.ord.ok r z;cases J:r.2.2 with
 |none=>exact absurd J$ a.val r z
 |some v=>
   have:=(jJ a.ord p v).mpr ⟨r,z,c,J⟩;rw[e p]at this;split at this
   . exact this.symm
   . cases this
noncomputable def spRQ(r:Rw):D:=spD (r.1,r.2.1)
theorem IJ:∀l:List Rw,flats (l.map spRQ)=ae
 |[]=>by simp
 |r::l=>by simp[IJ l,spRQ]
def aHk(h1:1<=ns.length)(U:ns.length<=60)(J:∀x∈ns,NmS x)(nd:ns.Nodup)(h:V1 ds)(hd:ds.length<=900)(z:1<=many)(Y:many<=ns.length):cQ cP 12 [.ins 12 [.dcf (bkN$ bOf ns ds)$ bkV$ bOf ns ds],.int many]=aa (.fresh$ (iS ns ds many).map spRQ):=by
 have ok:=aHy J nd h.ok;have f:bkV (bOf ns ds)=lstsD ((srtT ns).map$ mapOf ds):=by rw[<-aHz];unfold bkV lstsD;rw[eI];rfl
 have j:(bkV$ bOf ns ds).length=ns.length:=by rw[f];simp[lstsD,(srtT_perm ns).length_eq]
 have i:=QC phi_sum (E:=endsV ds) (L:=(srtT ns).map$ mapOf ds) (by have:=vZ ds;lia) λm n=>by obtain⟨y,_,rfl⟩:=bQ.mp n;have:=HX h.ok y;exact⟨(vN h.ok y).ord,ND h y,by lia⟩
 obtain⟨_,sl,_⟩:=TW (ns:=ns) h;have g:=XM (ps:=stk ns ds) (phi_lam many) (by lia);obtain⟨_,cl,_⟩:=vY (ns:=ns) h z;have a:∀e x1 d:Sl,compG (viaA (qB 3) asLT) [ac,ac,ac] (tupG 3$ zR (zM 0)$ zR (zM 1)$ zR (zM 2) tgNil) (λ_=>aa ae) (mkT$ qM$ zB (qB 0)$ zB (qB 1) zT) [e,x1,d,.v$ .lst$ (iS ns ds many).map rwD]=aa ((iS ns ds many).map spRQ):=λe x1 d=>by refine yF (items:=(iS ns ds many).map rwD) (by simp) (by simp;lia) ?_;rw[yJ rwD spRQ];intro r p;exact⟨_,rfl,by simp[jN,rwD,spRQ,spD]⟩
 have o:=IJ$ iS ns ds many;have l:¬many<1:=by lia
 have k:¬(ns.length:Int)<many:=by lia
 have b:ncF (fT cP) [.lst$ (stk ns ds).map rwD,.clo 11 0 [.int many]]=aa (.fresh$ (iS ns ds many).map rwD):=g;have c:gP cP [.lst$ bkV$ bOf ns ds]=aa (.fresh$ (stk ns ds).map rwD):=by rw[f];exact i
 show lF cP _=_;refine wD ?_;unfold lD;generalize bkN (bOf ns ds)=KN at *;generalize bkV (bOf ns ds)=KV at *;generalize (stk ns ds).map rwD=SK at *;generalize hC:(iS ns ds many).map spRQ=CR at *;generalize (iS ns ds many).map rwD=CW at *
 rw[zQ (ds':=[.v$ .ins 12 [.dcf KN KV],.v$ .int many,.no,.no])$ by simp[args,fldG,fldD,List.lookup,lvalA,kdD,j,l,k],
  zQ (ds':=[.v$ .ins 12 [.dcf KN KV],.v$ .int many,.v$ .lst SK,.no]) (by simp[fldG,fldD,List.lookup,lvalA,kdD,c]),
  zQ (ds':=[.v$ .ins 12 [.dcf KN KV],.v$ .int many,.v$ .lst SK,.v$ .lst CW]) (by simp[lamA,capsA,b])]
 unfold retOG;simp[a,flatF,o]
def aHj{n:Nat}(z:b.length=n)(h:many<1\/(n:Int)<many):cO [.ins 12 [.dcf (bkN b)$ bkV b],.int many]=ae:=by
 have a:(bkV b).length=n:=by unfold bkV;rw[bS];exact z
 unfold cO runX fG ifX;have:(orT (zN$ zH ltD (zG 1)$ zA$ .int 1)$ zN$ zH gtD (zG 1)$ callB lenD$ zB (mkL$ lvalA$ fldG [(12,0)]$ qB 0) zT) (args 4 [.ins 12 [.dcf (bkN b)$ bkV b],.int many])=aa ae:=by
  by_cases k:many<1
  . simp[args,k]
  . have c:(n:Int)<many:=h.resolve_left k;simp[args,k,fldG,fldD,List.lookup,lvalA,kdD,a,c]
 rw[this];rfl
def QM{n:Nat}(z:b.length=n)(h:many<1\/(n:Int)<many):gS [.ins 12 [.dcf (bkN b)$ bkV b],.int many]=aa (.val$ .bl ae):=by
 have a:=aHj z h;refine wD ?_;unfold mQ;generalize D.dcf (bkN b) (bkV b)=M at *
 have e:(tryG 2 4 (dropG$ methV 1 [12] (cQ cP) (qB 0)$ zB (zG 1) zT) (methX 12 1 cO (qB 0)$ zB (zG 1) zT)
   (qP (jW 3$ isxG 2 [(4,ag)])$ retG$ andV (isxG 2 [(4,ae)])$ andV (isxG 2 [(4,ae)])$ notV$ qB 3)) (args 4 [.ins 12 [M],.int many])=aa (.rt$ .val$ .bl ae):=by
  have t:methX 12 1 cO (qB 0) (zB (zG 1) zT) (args 4 [.ins 12 [M],.int many])=ae:=by unfold methX;simp[args,isT,a]
  unfold tryG;rw[if_pos t];simp[args,isxG,goneO]
 unfold qP at *;rw[e];rfl
def aGc{ps:List Rw}{k:Nat}{r:Rw}(h:ps[k]?=aa r):ixD (.lst$ ps.map spRQ) (.int (k:Int))=aa (spD (r.1,r.2.1)):=by
 have a:k<ps.length:=by
  rcases Nat.lt_or_ge k ps.length with z|z
  . exact z
  . rw[aX z]at h;cases h
 rw[yT _ (by lia)$ by simpa using a];simp[h,spRQ]
def QR(ps:List Rw)(h:MapF ps)(h1:∀r∈ps,r.2.2=aa 1) k(J:k<ps.length) b c:∃Y U,gY [.v$ .lst$ ps.map spRQ,.v$ .int (k:Int),b,c]=aa (.nx [.v$ .lst$ ps.map spRQ,.v$ .int (k:Int),Y,U]):=by
 have d:k-1<ps.length:=by lia
 have n:=aGc$ aR J;have m:=aGc$ aR d;have ok:=h.ord.ok _$ iQ J;have l:ps[k].2.1=ac->¬((k:Int)<(ps.length:Int)-1):=by
  intro o;by_cases e:k+1<ps.length
  . obtain⟨x,y,h1,_⟩:=bX.mp h.ord.pw k (k+1) J e (by lia);rw[o]at h1;cases h1
  . lia
 have j:ps[k].1=ac->k=0:=by
  intro o;by_cases e:0<k
  . obtain⟨x,y,_,h1,_⟩:=bX.mp h.ord.pw 0 k (by lia) J e;rw[o]at h1;cases h1
  . lia
 have adj:0<k->∃x y,(ps[k-1]'d).2.1=aa x/\ps[k].1=aa y/\x<y:=by
  intro i;obtain⟨x,y,q,p,G⟩:=bX.mp h.ord.pw (k-1) k d J (by lia);refine⟨x,y,q,p,?_⟩;have:=h.adj (k-1) _ ps[k] (aR d) (by rw[show k-1+1=k by lia];exact aR J);rw[q,p,h1 _$ iQ J,h1 _$ iQ d]at this;have ne:x≠y:=λz=>this ⟨by rw[z],rfl⟩
  lia
 generalize hR:ps[k]=r at *;generalize hA:(ps[k-1]'d)=a at *;obtain⟨lo,f,w⟩:=r;obtain⟨D,E,H⟩:=a;simp only at l j adj n m;have s:(ps.map spRQ).length=ps.length:=by simp
 generalize ps.map spRQ=PP at *;refine⟨.v$ oi lo,.v$ oi f,?_⟩;unfold gY;have C:(ifG (andT (notT$ testT$ qT 1 fZ$ zB (zG 2) zT)$ orT (zN$ zH notD (zG 2)$ zA .non)$ zN$ zH gtD (zG 1)$ zA$ .int 0) (retG$ zA$ .bl ag) qH) [.v$ .lst PP,.v$ .int (k:Int),.v$ oi lo,.v$ oi f]=aa (.nx [.v$ .lst PP,.v$ .int (k:Int),.v$ oi lo,.v$ oi f]):=by
  have g:=LG lo;cases lo with
  |none=>have:=j rfl;subst this;simp at g;simp[g]
  |some x=>simp at g;simp[g]
 have B:(ifG (andT (notT$ testT$ qT 1 fZ$ zB (zG 3) zT)$ orT (zN$ zH notD (zG 3)$ zA .non)$ zN$ zH ltD (zG 1)$ zH subD (callB lenD$ zB (zG 0) zT)$ zA$ .int 1) (retG$ zA$ .bl ag) qH) [.v$ .lst PP,.v$ .int (k:Int),.v$ oi lo,.v$ oi f]=aa (.nx [.v$ .lst PP,.v$ .int (k:Int),.v$ oi lo,.v$ oi f]):=by
  have g:=LG f;cases f with
  |none=>have:=l rfl;simp at g;simp[g,this,s]
  |some x=>simp at g;simp[g]
 have A:(ifG (andT (zN$ zH notD (zG 2)$ zA .non)$ andT (zN$ zH notD (zG 3)$ zA .non)$ zN$ zH geD (zG 2)$ zG 3) (retG$ zA$ .bl ag) qH) [.v$ .lst PP,.v$ .int (k:Int),.v$ oi lo,.v$ oi f]=aa (.nx [.v$ .lst PP,.v$ .int (k:Int),.v$ oi lo,.v$ oi f]):=by
  cases lo with
  |none=>simp
  |some x=>
    cases f with
    |none=>simp
    |some y=>
      have:¬y<=x:=by have:=ok x y rfl rfl;lia
      simp[this]
 have v:(ifG (andT (zN$ zH gtD (zG 1)$ zA$ .int 0)$ zN$ zH geD (zH ixD (zH ixD (zG 0)$ zH subD (zG 1)$ zA$ .int 1)$ zA$ .int 1)$ zG 2) (retG$ zA$ .bl ag) qH) [.v$ .lst PP,.v$ .int (k:Int),.v$ oi lo,.v$ oi f]=aa (.nx [.v$ .lst PP,.v$ .int (k:Int),.v$ oi lo,.v$ oi f]):=by
  by_cases i:0<k
  . obtain ⟨x,y,h1,t,F⟩:=adj i;subst h1 t;have u:¬ y<=x:=by lia
    rw[show((k-1:Nat):Int)=(k:Int)-1 by lia]at m;simp[i,m,u]
  . simp[i]
 rw[zQ (ds':=[.v$ .lst PP,.v$ .int (k:Int),b,c])$ by simp[n],zQ (ds':=[.v$ .lst PP,.v$ .int (k:Int),.v$ oi lo,.v$ oi f])$ by simp[n,spD],zQ C,zQ B,zQ A,v]
def aEt ps(h:MapF ps)(h1:∀r∈ps,r.2.2=aa 1)(z:ps.length<=10000):gG [.lst$ ps.map spRQ]=aa (.val$ .bl ae):=by
 obtain⟨g,f,m,l,j,rfl⟩:=DG (ga:=zM 1) (body:=gY) (λi=>∃a b c,i=[.v$ .lst$ ps.map spRQ,a,b,c]) (lG 0 ps.length) [.v$ .lst$ ps.map spRQ,.no,.no,.no] ⟨_,_,_,rfl⟩ (by
  rintro _ hd _ ⟨a,b,c,rfl⟩;obtain⟨k,d,rfl⟩:=RB hd;obtain⟨l,j,e⟩:=QR ps h h1 k d b c;rw[show(0+(k:Int))=(k:Int) by lia]
  exact⟨_,_,rfl,.inl e,_,_,_,rfl⟩)
 have ok:okR (ps.length:Int):=kD (by lia) (by lia);unfold gG runG lQ;simp[args,ok,f]
noncomputable def toV(ds:Dds):Dvs:=ds.map λd=>(d.1,d.2.1,layV d.2.2)
noncomputable def iV(b:Bool):Option Int:=aa$ if b=ae then 1 else 0
noncomputable def istep(y:Str)(p:Int)(b:Option Int)(d:Str×Spn×Bool):Option Int:=if d.1=y/\hasS d.2.1 p=ae then iV d.2.2 else b
noncomputable abbrev tg3:D->List Sl->Option (List Sl):=tupG 3$ zR (zM 3)$ zR (zM 4)$ zR (zM 5) tgNil
theorem DH p U:∀(ds:Dds) K V x3 x4 x5,K.Nodup->K.length+ds.length<=1000->(∀y,y∉K->V y=ac)->(∀y∈K,V y≠ac) →
  ∃(J:List Str) (y3 y4 Y:Sl),J.Nodup/\J.length<=K.length+ds.length/\(∀y∈J,y∈K\/y∈ds.map (·.1))/\(∀y,y∉J->ds.foldl (istep y p) (V y)=ac)/\(∀y∈J,ds.foldl (istep y p) (V y)≠ac) ∧
   jM tg3 fY (ds.map ddD) [U,.v$ .int p,.ob ac$ .dct (K.map Sum.inr)$ (lieV K V).map OT.val,x3,x4,x5]=aa (.nx [U,.v$ .int p,.ob ac$ .dct (J.map Sum.inr)$ (lieV J λy=>ds.foldl (istep y p)$ V y).map OT.val,y3,y4,Y])
 |[],K,V,x3,x4,x5,nd,_,hV,hW=>⟨K,x3,x4,x5,nd,by simp,λy c=>.inl c,hV,hW,rfl⟩
 |d::ds,K,V,x3,x4,x5,nd,hl,hV,hW=>by
   obtain⟨n,s,v⟩:=d;simp only[aK]at hl;have q:tg3 (ddD (n,s,v)) [U,.v$ .int p,.ob ac$ .dct (K.map Sum.inr)$ (lieV K V).map OT.val,x3,x4,x5]=aa [U,.v$ .int p,.ob ac$ .dct (K.map Sum.inr)$ (lieV K V).map OT.val,.v$ .str n,.v$ spD s,.v$ .bl v]:=by simp[tg3,ddD]
   have t:=VU s p;by_cases i:hasS s p=ae
   . have ln:(if n∈K then K else K++[n]).length<=K.length+1:=by split <;> simp
     have j:(if n∈K then K else K++[n]).Nodup:=by
      split
      . exact nd
      . rename_i h;exact cH.mpr ⟨nd,by simp,λa x b w e=>h$ by rw[aS.mp w]at e;rw[<-e];exact x⟩
     have mem:∀y,y∈(if n∈K then K else K++[n])↔y∈K\/y=n:=λy=>by
      split
      . rename_i h;exact⟨.inl,λz=>z.elim id λe=>by rw[e];exact h⟩
      . simp
     obtain⟨J,y3,y4,Y,o,A,m,l,g,k⟩:=DH p U ds (if n∈K then K else K++[n]) (λy=>if y=n then iV v else V y) (.v$ .str n) (.v$ spD s) (.v$ .bl v) j (by omega) (λy c=>by
      have:=mt (mem y).mpr c;rw[not_or]at this;rw[if_neg this.2]
      exact hV y this.1) (λy c=>by
      by_cases e:y=n
      . rw[if_pos e];exact λz=>nomatch z
      . rw[if_neg e];exact hW y$ ((mem y).mp c).resolve_right e)
     have st:∀y,istep y p (V y) (n,s,v)=if y=n then iV v else V y:=λy=>by
      unfold istep;by_cases e:y=n
      . subst e;simp[i]
      . rw[if_neg λz=>e z.1.symm,if_neg e]
     refine⟨J,y3,y4,Y,o,by simp;omega,λy c=>?_,λy c=>?_,λy c=>?_,?_⟩
     . rcases m y c with z|z
       . rcases (mem y).mp z with z|z
         . exact .inl z
         . exact .inr (by rw[z];exact .head _)
       . exact .inr$ .tail _ z
     . rw[cK,st];exact l y c
     . rw[cK,st];exact g y c
     . have z:(K.map (Sum.inr:Str->Key)).length < 16777216:=by simp;omega
       have f:fY [U,.v$ .int p,.ob ac$ .dct (K.map Sum.inr)$ (lieV K V).map OT.val,.v$ .str n,.v$ spD s,.v$ .bl v]=aa (.nx [U,.v$ .int p,.ob ac$ .dct ((if n∈K then K else K++[n]).map Sum.inr)$ (lieV (if n∈K then K else K++[n]) λy=>if y=n then iV v else V y).map OT.val,.v$ .str n,.v$ spD s,.v$ .bl v]):=by
        have r:=YF (.inr n) (oi$ iV v) (K.map Sum.inr)$ lieV K V;rw[lie_put K V n (iV v) nd]at r;have u:int1D [.bl v]=aa (oi$ iV v):=by cases v<;>simp[int1D,iV]
        generalize hKK:(if n∈K then K else K++[n])=KK at *;generalize lieV K V=LV at *;generalize K.map (Sum.inr:Str->Key)=KM at *;unfold fY dputG;simp[t,i,u,varP,keyD,z,putP,putO,r]
       simp only[aQ,jM,q,aZ,f];rw[k];simp only[cK,st]
   . have st:∀y,istep y p (V y) (n,s,v)=V y:=λy=>by
      unfold istep;rw[if_neg λz=>i z.2]
     obtain⟨J,y3,y4,Y,o,A,m,l,g,k⟩:=DH p U ds K V (.v$ .str n) (.v$ spD s) (.v$ .bl v) nd (by omega) hV hW;refine⟨J,y3,y4,Y,o,by simp;omega,λy c=>?_,λy c=>?_,λy c=>?_,?_⟩
     . rcases m y c with z|z
       . exact .inl z
       . exact .inr$ .tail _ z
     . rw[cK,st];exact l y c
     . rw[cK,st];exact g y c
     . have f:fY [U,.v (.int p),.ob ac (.dct (K.map Sum.inr) ((lieV K V).map OT.val)),.v (.str n),.v (spD s),.v (.bl v)]=aa (.nx [U,.v (.int p),.ob ac (.dct (K.map Sum.inr) ((lieV K V).map OT.val)),.v (.str n),.v (spD s),.v (.bl v)]):=by
        unfold fY;simp[t,i]
       simp only[aQ,jM,q,aZ,f];rw[k];simp only[cK,st]
theorem aGk y p:∀(ds:Dds) (a b:Option Int),a.getD 0=(if b=aa 1 then 1 else 0)->(ds.foldl (istep y p) a).getD 0=if (toV ds).foldl (vstep y p) b=aa 1 then 1 else 0
 |[],a,b,h=>h
 |(n,s,v)::ds,a,b,h=>by
   simp only[toV,aQ,cK];refine aGk y p ds _ _ ?_;unfold istep vstep;by_cases q:n=y/\hasS s p=ae
   . rw[if_pos q,if_pos q];cases v<;>simp[iV,layV]
   . rw[if_neg q,if_neg q];exact h
def many_eq(U:ns.Nodup)(hd:ds.length<=900)(h1:∀d∈ds,d.1∈ns) p:mY [.lst$ ds.map ddD,.int p]=aa (.val$ .int$ cnt ns (toV ds) p):=by
 obtain⟨K,f,e,c,x,w,u,t,j,s⟩:=DH p (.v$ .lst$ ds.map ddD) ds [] (λ_=>ac) .no .no .no rY (by simp;lia) (λ_ _=>rfl) λ_ h=>nomatch h;have k:∀y,(ds.foldl (istep y p) ac).getD 0=oneQ (toV ds) p y:=λy=>aGk y p ds ac ac rfl;have i:jM tg3 fY (ds.map ddD) [.v$ .lst$ ds.map ddD,.v$ .int p,.ob ac$ .dct [] [],.no,.no,.no]=aa (.nx [.v$ .lst$ ds.map ddD,.v$ .int p,.ob ac$ .dct (K.map Sum.inr)$ (lieV K λy=>ds.foldl (istep y p) ac).map OT.val,f,e,c]):=s;have n:(K.map$ oneQ (toV ds) p).sum=cnt ns (toV ds) p:=by
  unfold cnt;have l:=srtT_perm ns;refine TR _ K (srtT ns) x (l.nodup_iff.mpr U) (λy b=>?_) λy _ r=>?_
  . rcases u y b with z|z
    . cases z
    . obtain⟨d,hd,rfl⟩:=bQ.mp z;exact l.mem_iff.mpr$ h1 d hd
  . rw[<-k y,t y r];rfl
 have a:compG (keysA$ qB 2) [ac,aa 2] (zM 0) (λ_=>aa ae) (dgetG (qB 1)$ qB 0) [.v$ .lst$ ds.map ddD,.v$ .int p,.v$ .dcf (K.map Sum.inr)$ lieV K λy=>ds.foldl (istep y p) ac,f,e,c]=aa ((K.map$ oneQ (toV ds) p).map D.int):=by
  refine yF (items:=K.map D.str) (by simp[keysA,keyDD]) (by simp;simp at w;lia) ?_;rw[yJ D.str λy=>D.int$ oneQ (toV ds) p y,eI]
  . rfl
  . intro y b;have g:=lie_get (V:=λy=>ds.foldl (istep y p) ac) b;have ne:=j y b;have v:=k y;refine ⟨_,rfl,?_⟩;cases J:ds.foldl (istep y p) ac with
    |none=>exact absurd J ne
    |some q=>rw[J]at g v;simp only[iL]at v;subst v;simp[jN,dgetG,keyD,kdD,g]
 have m:=GR$ lieV K λy=>ds.foldl (istep y p) ac;have o:=vM$ K.map$ oneQ (toV ds) p;refine wD ?_;unfold oY;generalize hDD:ds.map ddD=DD at *;generalize hLV:(lieV K λy=>ds.foldl (istep y p) ac)=LV at *;generalize hKM:K.map (Sum.inr:Str->Key)=KM at *;generalize hFL:K.map (oneQ (toV ds) p)=FF at *;generalize compG (keysA$ qB 2) [ac,aa 2] (zM 0) (λ_=>aa ae) (dgetG (qB 1)$ qB 0)=C at *
 rw[zQ (ds':=[.v$ .lst DD,.v$ .int p,.ob ac$ .dct [] [],.no,.no,.no])$ by simp[args,dO0],
  zQ (ds':=[.v$ .lst DD,.v$ .int p,.ob ac$ .dct KM$ LV.map OT.val,f,e,c]) (by
   rw[wQ]
   simp[i])]
 unfold frzDG;simp[m,a,sumD,o,n]
def neD_blQ a b:neD (.bl a) (.bl b)=aa (.bl$ !decide (a=b)):=by cases a<;>cases b<;>rfl
def aDd(nd:ns.Nodup)(h:V1 (toV ds))(hd:ds.length<=100)(hm:∀d∈ds,d.1∈ns)(J:1<=many)(es:List Int)(he:es.length<=500):fK [.lst$ (iS ns (toV ds) many).map spRQ,.lst$ ds.map ddD,.lst$ es.map D.int,.int many]=aa (.val$ .bl ae):=by
 obtain⟨u,lf,K⟩:=vY (ns:=ns) h J;have lt:(toV ds).length=ds.length:=by simp[toV]
 have V:=aEt _ u (λr a=>aAm h J a) (by lia);generalize iS ns (toV ds) many=ps at *;have k:∀(j:Int) (g:Rw->Option Int),(∀r:Rw,ixD (spRQ r) (.int j)=aa (oi$ g r))->(compG (viaA (qB 0) asLT) [ac] (zM 0) (λ_=>aa ae)$ zH ixD (zG 0)$ zA$ .int j) [.v$ .lst$ ps.map spRQ,.v$ .lst$ ds.map ddD,.v$ .lst$ es.map D.int,.v$ .int many,.no,.no]=aa ((ps.map g).map oi):=by
  intro j g Z;refine yF (items:=ps.map spRQ) (by simp) (by simp;lia) ?_;rw[yJ spRQ λr=>oi$ g r,eI]
  . rfl
  . intro r a;exact⟨_,rfl,by simp[jN,Z]⟩
 have T:=k 0 (λr=>r.1) (λr=>by simp[spRQ]);have R:=k 1 (λr=>r.2.1) (λr=>by simp[spRQ]);obtain⟨os,f⟩:∃os,os=es.map aa++ps.map (λr=>r.1)++ps.map (λr=>r.2.1):=⟨_,rfl⟩
 have N:os.length<=1500:=by rw[f];simp;lia
 have U:es.map D.int++(ps.map λr=>r.1).map oi++(ps.map λr=>r.2.1).map oi=os.map oi:=by rw[f];simp
 have s:∀os:List (Option Int),(os.filter Option.isSome).map oi=(os.filterMap id).map D.int:=by
  intro os;induction os with
  |nil=>rfl
  |cons o r W=>cases o<;>simp[W]
 have cf:∀b:Sl,compG (viaA (qB 4) asLT) [ac] (zM 0) (zN$ zH notD (zG 0)$ zA .non) (qB 0) [.v$ .lst$ ps.map spRQ,.v$ .lst$ ds.map ddD,.v$ .lst$ es.map D.int,.v$ .int many,.v$ .lst$ os.map oi,b]=aa ((os.filterMap id).map D.int):=by intro b;refine yF (items:=os.map oi) (by simp) (by simp;lia) ?_;rw[EF oi (λo=>o.isSome) λo=>oi o,s];intro o ho;exact⟨_,rfl,by cases o<;>simp[jN],λ_=>by simp[jN]⟩
 have lz:(os.filterMap id).length<=1500:=by have:=IZ id os;lia
 generalize hzz:os.filterMap id=zz at *;have cm:∀b:Sl,compG (viaA (qB 4) asLT) [ac] (zM 0) (λ_=>aa ae) (zH subD (zG 0)$ zA$ .int 1) [.v$ .lst$ ps.map spRQ,.v$ .lst$ ds.map ddD,.v$ .lst$ es.map D.int,.v$ .int many,.v$ .lst$ zz.map D.int,b]=aa ((zz.map λv=>v-1).map D.int):=by
  intro b;refine yF (items:=zz.map D.int) (by simp) (by simp;lia) ?_;rw[yJ D.int λv=>D.int$ v-1,eI]
  . rfl
  . intro v hv;exact⟨_,rfl,by simp[jN]⟩
 have L:viaA (mkL$ srtSA$ mkL$ catA (zG 4)$ mkL$ compG (viaA (qB 4) asLT) [ac] (zM 0) (λ_=>aa ae)$ zH subD (zG 0)$ zA$ .int 1) asLT [.v$ .lst$ ps.map spRQ,.v$ .lst$ ds.map ddD,.v$ .lst$ es.map D.int,.v$ .int many,.v$ .lst$ zz.map D.int,.no]=aa ((srtU$ zz++zz.map λv=>v-1).map D.int):=by
  have c:=cm .no;have hi:=vM$ zz++zz.map λv=>v-1;have F:(zz++zz.map λv=>v-1).length+1<4096:=by simp;lia
  have l:(zz.map D.int).length=zz.length:=by simp
  have i:((zz.map λv=>v-1).map D.int).length=zz.length:=by simp
  have E:zz.length+zz.length<=16777216:=by lia
  rw[dC]at hi;generalize compG (viaA (qB 4) asLT) [ac] (zM 0) (λ_=>aa ae) (zH subD (zG 0)$ zA$ .int 1)=C at *;generalize (zz.map λv=>v-1).map D.int=Z2 at *;generalize zz.map D.int=Z1 at *;generalize zz++zz.map (λv=>v-1)=ZZ at *;unfold srtSA;simp[c,l,i,E,hi,F]
 have bd:∀(q:Int),kZ [.v$ .lst$ ps.map spRQ,.v$ .lst$ ds.map ddD,.v$ .lst$ es.map D.int,.v$ .int many,.v$ .lst$ zz.map D.int,.v$ .int q]=aa (.nx [.v$ .lst$ ps.map spRQ,.v$ .lst$ ds.map ddD,.v$ .lst$ es.map D.int,.v$ .int many,.v$ .lst$ zz.map D.int,.v$ .int q]):=by
  intro q;have M:=many_eq nd (by lia) hm q;have ca:compG (viaA (qB 0) asLT) [ac,aa 5] (zM 0) (λ_=>aa ae) (qT 2 kQ$ zB (zG 0)$ zB (zG 1) zT) [.v$ .lst$ ps.map spRQ,.v$ .lst$ ds.map ddD,.v$ .lst$ es.map D.int,.v$ .int many,.v$ .lst$ zz.map D.int,.v$ .int q]=aa ((ps.map λr=>has3 r q).map D.bl):=by
   refine yF (items:=ps.map spRQ) (by simp) (by simp;lia) ?_;rw[yJ spRQ λr=>D.bl$ has3 r q,eI]
   . rfl
   . intro r a;have:=VU (r.1,r.2.1) q;exact⟨_,rfl,by simp[jN,spRQ,this,has3]⟩
  have w:=aIc$ ps.map λr=>has3 r q;have Y:(ps.map λr=>has3 r q).any id=decide (many<=cnt ns (toV ds) q):=by
   have e:=aCl (p:=q) u;rw[K q]at e;by_cases z:many<=cnt ns (toV ds) q
   . rw [decide_eq_true z];rw [if_pos z]at e;have:¬ ∀ r∈ps,has3 r q=ag:=λy=>by have:=e.mpr y;cases this
     cases m:(ps.map λr=>has3 r q).any id with
     |true=>rfl
     |false=>refine absurd (λr a=>?_) this;rw[uF]at m;have:=m _$ bQ.mpr ⟨r,a,rfl⟩;simpa using this
   . rw[decide_eq_false z];rw[if_neg z]at e;rw[uF];intro x X;obtain⟨r,a,rfl⟩:=bQ.mp X;simp[e.mp rfl r a]
  rw[Y]at w;generalize ((ps.map λr=>has3 r q).map D.bl)=BB at *;generalize ps.map spRQ=PP at *;generalize ds.map ddD=DD at *;generalize es.map D.int=EE at *;generalize zz.map D.int=ZZ at *;generalize cnt ns (toV ds) q=cn at *;unfold kZ;simp[ca,w,M,neD_blQ]
 obtain⟨ds',e1,x,rfl⟩:=DG (ga:=zM 5) (body:=kZ) (λS=>∃x,S=[.v$ .lst$ ps.map spRQ,.v$ .lst$ ds.map ddD,.v$ .lst$ es.map D.int,.v$ .int many,.v$ .lst$ zz.map D.int,x]) ((srtU$ zz++zz.map λv=>v-1).map D.int) _ ⟨.no,rfl⟩ (by
  rintro d n _ ⟨x,rfl⟩;obtain⟨q,m,rfl⟩:=bQ.mp n
  exact⟨_,_,rfl,.inl$ bd q,_,rfl⟩)
 refine wD ?_;unfold oH;have Q:((ps.map λr=>r.1).map oi).length=ps.length:=by simp
 have P:((ps.map λr=>r.2.1).map oi).length=ps.length:=by simp
 have O:(es.map D.int).length=es.length:=by simp
 have I:es.length+ps.length<=16777216:=by lia
 have H:es.length+ps.length+ps.length<=16777216:=by lia
 have G:es.length+(ps.length+ps.length)<=16777216:=by lia
 generalize (ps.map λr=>r.1).map oi=A at *;generalize (ps.map λr=>r.2.1).map oi=B at *;generalize ps.map spRQ=PP at *;generalize ds.map ddD=DD at *;generalize hE:es.map D.int=EE at *;generalize zz.map D.int=ZZ at *;generalize (srtU$ zz++zz.map λv=>v-1).map D.int=SS at *;have t:EE++(A++B)=os.map oi:=by rw[<-U,bL]
 have c4:=cf .no
 rw[zQ (ds':=[.v$ .lst PP,.v$ .lst DD,.v$ .lst EE,.v$ .int many,.no,.no])$ by simp[args,V],
  zQ (ds':=[.v$ .lst PP,.v$ .lst DD,.v$ .lst EE,.v$ .int many,.v$ .lst$ os.map oi,.no]) (by simp[T,R,Q,P,O,I,H,G,t]),
  zQ (ds':=[.v$ .lst PP,.v$ .lst DD,.v$ .lst EE,.v$ .int many,.v$ .lst ZZ,.no]) (by
   generalize compG (viaA (qB 4) asLT) [ac] (zM 0) (zN$ zH notD (zG 0)$ zA .non) (qB 0)=C at *
   simp[c4]),
  zQ (by rw[wQ,L];exact e1)]
 simp
def last_of:ixD (.lst$ l++[d]) (.int$ -1)=aa d:=by show(atI (l++[d])$ -1)=aa d;unfold atI;rw[NJ$ by simp];simp
structure StQ(ns:List Str)(N:Sl)(ds:Dds)(S:List Sl)(x8 x9 x10:Sl):Prop where
 ex:∃(T:OT) (es:List Int) (x5 x6 x7:Sl),S=[N,.v (.lst (ns.map D.str)),.ob none T,.own (ds.map ddD),.ob none (oT es),x5,x6,x7,x8,x9,x10]/\BT T (bOf ns (toV ds))/\es.length=1+2*ds.length
 ok:∀d∈ds,okS d.2.1
 mem:∀d∈ds,d.1∈ns
def aCp(h:∀d∈ds,okS d.2.1):V1 (toV ds):=λd hd=>by obtain⟨e,a,rfl⟩:=bQ.mp hd;exact⟨h e a,by cases z:e.2.2<;>simp[layV,z]⟩
def VS{es:List Int}(h1:1<=ns.length)(z:ns.length<=60)(hn:∀x∈ns,NmS x)(nd:ns.Nodup)(ok:∀d∈ds,okS d.2.1)(mem:∀d∈ds,d.1∈ns)(hd:ds.length<=30)(el:es.length=1+2*ds.length)(J:1<=many)(m2:many<=ns.length) x0 x1 x5 Y U x9 x10 :
  (notT$ testT$ qT 4 fK$ zB (methV 1 [12] (cQ cP) (qB 2)$ zB (zG 8) zT)$ zB (zG 3)$ zB (zG 4)$ zB (zG 8) zT) [x0,x1,.v$ .ins 12 [.dcf (bkN$ bOf ns$ toV ds)$ bkV$ bOf ns$ toV ds],.own$ ds.map ddD,.v$ .lst$ es.map D.int,x5,Y,U,.v$ .int many,x9,x10]=aa ag:=by
 have a:=aCp ok;have c:=aHk h1 z hn nd a (by simp[toV];lia) J m2;have b:=aDd nd a (by lia) mem J es (by lia);generalize (iS ns (toV ds) many).map spRQ=CC at *;generalize D.dcf (bkN$ bOf ns$ toV ds) (bkV$ bOf ns$ toV ds)=M at *;generalize ds.map ddD=DD at *;generalize es.map D.int=EE at *;unfold notT;simp[methV,methR,c,b]
def turn1(h1:1<=ns.length)(h60:ns.length<=60)(hn:∀x∈ns,NmS x)(nd:ns.Nodup)(U:StQ ns N ds S J x9 x10)(hc:intBits c<=1048576)(hd:ds.length<30):∃S1 S2 ds' y8,zM 5 (.int c) S=aa S1/\oX S1=aa (.nx S2)/\ds'.length=ds.length+1/\StQ ns N ds' S2 y8 x9 x10:=by
 obtain⟨⟨T,b,x5,x6,H,rfl,B,el⟩,ok,mem⟩:=U;obtain⟨s,u,w,y,X⟩:=aEs c (ds.length:Int) b (by lia) hc (by lia) (by lia) (by lia);have Q:fE c 50021:=dY hc (qG (m:=64)$ by decide) (by decide);have P:fE (ds.length:Int) 7919:=dY (qG (m:=64)$ by lia) (qG (m:=64)$ by decide) (by decide);generalize Y:(c*50021+(ds.length:Int)*7919+27644437)%2147483587=m';have O:fE m' m':=dY (qG (m:=64)$ by lia) (qG (m:=64)$ by lia) (by decide);generalize hm:m'*m'%2147483563=mx;have V:=fF (mx/4) (show(ns.length:Int)≠0 by lia);have R:=kY (mx/4) (show 0<(ns.length:Int) by lia);have K:=yY (mx/4) (show 0<(ns.length:Int) by lia);have I:=yY (mx/1009) (show 0<(ns.length:Int) by lia);have j0:=fF (mx/1009) (show(ns.length:Int)≠0 by lia);have j1:=kY (mx/1009) (show 0<(ns.length:Int) by lia);obtain⟨x,v,ex⟩:∃x,x∈ns/\ixD (.lst$ ns.map D.str) (.int$ mx/4%(ns.length:Int))=aa (.str x):=by
  have A:(mx/4%(ns.length:Int)).toNat<ns.length:=by lia
  rw[yT _ V$ by simpa using R];simp[A]
 have q:=aHy hn nd (aCp ok).ok;have lb:=WJ ns$ toV ds;have lt:(toV ds).length=ds.length:=by simp[toV]
 obtain⟨a,f⟩:∃a:Bool,a=decide (0<mx%4):=⟨_,rfl⟩
 obtain⟨T',g,r⟩:∃T',BT T' (updB x (λL=>put1 L (s,layV a))$ bOf ns$ toV ds)/\(if a=ae then eY else eO) T [.str x,spD s]=aa T':=by
  cases a with
  |true=>exact lay_eq q (by lia) (by lia) B (WI v _) y
  |false=>exact lift_eq q (by lia) (by lia) B (WI v _) y
 rw[bOf_upd]at g;have W:toV ds++[(x,(s,layV a))]=toV (ds++[(x,s,a)]):=by simp[toV]
 rw[W]at g;have j:∀d∈ds++[(x,s,a)],okS d.2.1:=λd hd=>by
  rcases bE.mp hd with z|z
  . exact ok d z
  . rw[aS.mp z];exact y
 have e:∀d∈ds++[(x,s,a)],d.1∈ns:=λd hd=>by
  rcases bE.mp hd with z|z
  . exact mem d z
  . rw[aS.mp z];exact v
 have p:(b++[u,w]).length=1+2*(ds++[(x,s,a)]).length:=by simp;lia
 have C:=VS h1 h60 hn nd j e (by simp;lia) p (many:=1+mx/1009%(ns.length:Int)) (by lia) (by lia) N (.v$ .lst$ ns.map D.str) (.v$ .int c) (.v$ spD s) (.v$ .int mx) x9 x10;obtain⟨i,rfl,o⟩:=id g;have M:=MW$ b++[u,w];have ld:(ds.map ddD).length=ds.length:=by simp
 have Z:(ds++[(x,s,a)]).map ddD=ds.map ddD++[ddD (x,s,a)]:=by simp
 refine⟨_,[N,.v$ .lst$ ns.map D.str,.ob ac$ .ins 12 [.dct (bkN$ bOf ns$ toV$ ds++[(x,s,a)]) i],.own$ (ds++[(x,s,a)]).map ddD,.ob ac$ oT$ b++[u,w],.v$ .int c,.v$ spD s,.v$ .int mx,.v$ .int$ 1+mx/1009%(ns.length:Int),x9,x10],ds++[(x,s,a)],.v$ .int$ 1+mx/1009%(ns.length:Int),rfl,?_,by simp,⟨⟨_,b++[u,w],_,_,_,rfl,⟨i,rfl,o⟩,p⟩,j,e⟩⟩;rw[Z]at C ⊢;have E:(ns.map D.str).length=ns.length:=by simp
 have G:ds.length<16777216:=by lia
 have n:=last_of (l:=ds.map ddD) (d:=ddD (x,s,a));have k:ixD (ddD (x,s,a)) (.int 0)=aa (.str x):=rfl;have F:((ds.map ddD)++[ddD (x,s,a)]).length=ds.length+1:=by simp
 generalize hNS:ns.map D.str=NS at *;generalize hDL:ds.map ddD=DL at *;generalize bkN (bOf ns$ toV$ ds++[(x,s,a)])=BK at *;generalize bkV (bOf ns$ toV$ ds++[(x,s,a)])=BV at *;have e0:ddD (x,s,a)=.tup [.str x,spD s,.bl a]:=rfl;unfold oX;rw[zQ (ds':=[N,.v$ .lst NS,.ob ac T,.own DL,.ob ac$ oT$ b++[u,w],.v$ .int c,.v$ spD s,H,J,x9,x10]) (by
   unfold setR callR
   simp[hereA,ld,X,ref_oT]),
  zQ (ds':=[N,.v$ .lst NS,.ob ac T,.own DL,.ob ac$ oT$ b++[u,w],.v$ .int c,.v$ spD s,.v$ .int m',J,x9,x10]) (by simp[jD Q,jD P,ld,Y]),
  zQ (ds':=[N,.v$ .lst NS,.ob ac T,.own DL,.ob ac$ oT$ b++[u,w],.v$ .int c,.v$ spD s,.v$ .int mx,J,x9,x10]) (by simp[jD O,hm]),
  zQ (ds':=[N,.v$ .lst NS,.ob ac T,.own$ DL++[ddD (x,s,a)],.ob ac$ oT$ b++[u,w],.v$ .int c,.v$ spD s,.v$ .int mx,J,x9,x10]) (by simp[E,K,ex,ld,G,f];rfl),
  zQ (ds':=[N,.v$ .lst NS,.ob ac$ .ins 12 [.dct BK i],.own$ DL++[ddD (x,s,a)],.ob ac$ oT$ b++[u,w],.v$ .int c,.v$ spD s,.v$ .int mx,J,x9,x10]) (by
   obtain⟨tt,rfl,_⟩:=B;generalize DL++[ddD (x,s,a)]=DM at *;cases a with
   |true=>have h:=of_decide_eq_true f.symm;simp[if_true]at r;simp[h,n,k,lentG,varP,r,putP,putO]
   |false=>
     have h:=of_decide_eq_false f.symm;simp[bV,if_false]at r
     simp[h,n,k,lentG,varP,r,putP,putO]),
  zQ (ds':=[N,.v$ .lst NS,.ob ac$ .ins 12 [.dct BK i],.own$ DL++[ddD (x,s,a)],.ob ac$ oT$ b++[u,w],.v$ .int c,.v$ spD s,.v$ .int mx,.v$ .int$ 1+mx/1009%(ns.length:Int),x9,x10]) (by simp[E,I])]
 generalize DL++[ddD (x,s,a)]=DM at *;generalize oT (b++[u,w])=OE at *;generalize (b++[u,w]).map D.int=EL at *;have t:(relTO 4$ relTV 2$ andT (zN$ zH eqD (zH jK (callB lenD$ zB (zG 3) zT)$ zA$ .int 6)$ zA$ .int 1)$ notT$ testT$ qT 4 fK$ zB (methV 1 [12] (cQ cP) (qB 2)$ zB (zG 8) zT)$ zB (zG 3)$ zB (zG 4)$ zB (zG 8) zT) [N,.v$ .lst NS,.ob ac$ .ins 12 [.dct BK i],.own DM,.ob ac OE,.v$ .int c,.v$ spD s,.v$ .int mx,.v$ .int$ 1+mx/1009%(ns.length:Int),x9,x10]=aa ag:=by
  unfold relTO relO relTV insV andT;simp only[fC,dA,fP,eQ,M,aZ,o,C];by_cases h:((ds.length:Int)+1)%6=1
  . simp[F,h]
  . simp[F,h]
 unfold ifG;rw[t];rfl
theorem loop1(h1:1<=ns.length)(z:ns.length<=60)(hn:∀x∈ns,NmS x)(nd:ns.Nodup):∀(cs:List Int) ds S J,StQ ns N ds S J x9 x10->(∀c∈cs,intBits c<=1048576)->ds.length+cs.length<=30 →
  ∃(ds':Dds) (U:List Sl) (Y:Sl),jM (zM 5) oX (cs.map D.int) S=aa (.nx U)/\ds'.length<=30/\StQ ns N ds' U Y x9 x10
 |[],ds,S,J,st,_,hl=>⟨ds,S,J,rfl,by simpa using hl,st⟩
 |c::cs,ds,S,J,st,hc,hl=>by simp only[aK]at hl;obtain⟨m,k,g,Y,j,i,l,a⟩:=turn1 h1 z hn nd st (hc c$ .head _) (by omega);obtain⟨ds',U,h,e,f,b⟩:=loop1 h1 z hn nd cs g k Y a (λd hd=>hc d$ .tail _ hd) (by omega);refine⟨ds',U,h,?_,f,b⟩;simp only[aQ,jM,j,aZ,i];exact e
def turn2(h1:1<=ns.length)(J:ns.length<=60)(hn:∀x∈ns,NmS x)(nd:ns.Nodup)(z:StQ ns N ds S x8 x9 x10) q(hd:ds.length<=30):∃Y U,zM 8 (.int q) S=aa Y/\oW Y=aa (.nx U)/\StQ ns N ds U (.v$ .int q) x9 x10:=by
 obtain⟨⟨T,d,c,b,a,rfl,m,n⟩,ok,mem⟩:=z;refine⟨_,[N,.v$ .lst$ ns.map D.str,.ob ac T,.own$ ds.map ddD,.ob ac$ oT d,c,b,a,.v$ .int q,x9,x10],rfl,?_,⟨⟨T,d,c,b,a,rfl,m,n⟩,ok,mem⟩⟩;simp only[fP,eQ];obtain⟨g,rfl,e⟩:=m;have s:=WJ ns$ toV ds;have j:(ns.map D.str).length=ns.length:=by simp
 have r:=MW d;unfold oW;by_cases l:q<1\/(ns.length:Int)<q
 . have p:=QM s l;generalize bkN (bOf ns (toV ds))=BK at *;generalize bkV (bOf ns (toV ds))=BV at *;generalize ns.map D.str=NS at *;have i:(orT (zN (zH ltD (zG 8) (zA (.int 1)))) (zN (zH gtD (zG 8) (callB lenD (zB (zG 1) zT))))) [N,.v (.lst NS),.ob ac (.ins 12 [.dct BK g]),.own (ds.map ddD),.ob ac (oT d),c,b,a,.v (.int q),x9,x10]=aa ae:=by
    by_cases k:q<1
    . simp[k]
    . have:=l.resolve_left k;simp[k,j,this]
   have h:(relTV 2$ notT$ testT$ qT 2 gS$ zB (zG 2)$ zB (zG 8) zT) [N,.v$ .lst NS,.ob ac$ .ins 12 [.dct BK g],.own$ ds.map ddD,.ob ac$ oT d,c,b,a,.v$ .int q,x9,x10]=aa ag:=by unfold relTV insV notT;simp[e,p]
   unfold ifG;rw[i];simp only[aZ,if_true];rw[h];rfl
 . have f:1<=q/\q<=ns.length:=by lia
   have o:=VS h1 J hn nd ok mem hd n f.1 f.2 N (.v$ .lst$ ns.map D.str) c b a x9 x10;generalize bkN (bOf ns$ toV ds)=BK at *;generalize bkV (bOf ns$ toV ds)=BV at *;generalize ns.map D.str=NS at *;generalize ds.map ddD=DD at *;generalize oT d=OE at *;generalize d.map D.int=EE at *;have i:(orT (zN$ zH ltD (zG 8)$ zA$ .int 1)$ zN$ zH gtD (zG 8)$ callB lenD$ zB (zG 1) zT) [N,.v$ .lst NS,.ob ac$ .ins 12 [.dct BK g],.own DD,.ob ac OE,c,b,a,.v$ .int q,x9,x10]=aa ag:=by
    have u:¬q<1:=by lia
    have t:¬(ns.length:Int)<q:=by lia
    simp[u,j,t]
   have h:(relTO 4$ relTV 2$ notT$ testT$ qT 4 fK$ zB (methV 1 [12] (cQ cP) (qB 2)$ zB (zG 8) zT)$ zB (zG 3)$ zB (zG 4)$ zB (zG 8) zT) [N,.v$ .lst NS,.ob ac$ .ins 12 [.dct BK g],.own DD,.ob ac OE,c,b,a,.v$ .int q,x9,x10]=aa ag:=by unfold relTO relO relTV insV;simp only[fC,dA,fP,eQ,r,aZ,e,o]
   unfold ifG;rw[i];simp only[aZ,bV,if_false];rw[h];rfl
theorem loop2(h1:1<=ns.length)(z:ns.length<=60)(Y:∀x∈ns,NmS x)(nd:ns.Nodup)(hd:ds.length<=30):∀(qs:List Int) S J,StQ ns N ds S J x9 x10->∃U,jM (zM 8) oW (qs.map D.int) S=aa (.nx U)
 |[],S,J,st=>⟨S,rfl⟩
 |q::qs,S,J,st=>by obtain⟨f,d,c,b,a⟩:=turn2 h1 z Y nd st q hd;obtain⟨U,e⟩:=loop2 h1 z Y nd hd qs d _ a;refine⟨U,?_⟩;simp only[aQ,jM,c,aZ,b];exact e
def run_law(z:List Int)(U:z.length<=63)(J:∀c∈z,intBits c<=1048576):tY [.lst$ z.map D.int]=aa (.val$ .bl ae):=by
 obtain⟨ns,t,g,o,nd,F⟩:=aFi (cel z 0)$ cel z 1;have y:=BS z 0;have x:=BS z 1;have L:eE [.lst$ z.map D.int,.int 2]=aa (.val$ .int$ cel z 2):=BS z 2;have K:eE [.lst$ z.map D.int,.int 3]=aa (.val$ .int$ cel z 3):=BS z 3;simp[Int.natCast_zero,Int.natCast_one]at y x;have M:=aHu t g o nd;have A:=bt_new$ srtT ns;obtain⟨w,Q,P,r,h⟩:=aAo z J 4 30;have h:cutD (z.map D.int) (aa 4) (aa 30)=w.map D.int:=h;generalize hT:OT.ins 12 [.dct ((srtT ns).map Sum.inr)$ (srtT ns).map λ_=>.lst []]=T at *
 obtain⟨v,S,b,I,p,k⟩:=loop1 (N:=.v$ .lst$ z.map D.int) (x9:=.no) (x10:=.no) t g o nd w [] [.v$ .lst$ z.map D.int,.v$ .lst$ ns.map D.str,.ob ac T,.own [],.ob ac$ oT [cel z 2%61-30],.no,.no,.no,.no,.no,.no] .no
  ⟨⟨T,[cel z 2%61-30],.no,.no,.no,rfl,A,rfl⟩,(λd hd=>nomatch hd),(λd hd=>nomatch hd)⟩ r (by simp;lia)
 obtain⟨⟨i,u,O,f,e,E,s,G⟩,ok,mem⟩:=k;generalize Y:cel z 3=c at *;obtain⟨far,a⟩:∃far,far=c/3%10^30:=⟨_,rfl⟩
 have R:0<=far:=by rw[a];exact fF _ (by decide)
 have l:=yY far (show 0<(ns.length:Int) by lia);have pw:powD (.int 10) (.int 30)=aa (.int$ 10^30):=by first|rfl|simp|decide
 have B:jK (.int$ c/3) (.int$ 10^30)=aa (.int far):=by rw[a];exact yY _ (by decide)
 obtain⟨j,n⟩:∃j:List Int,j=if c%3=2 then [(ns.length:Int)+1+far,1+far%(ns.length:Int)]else if c%3=1 then [-far,1+far%(ns.length:Int)]else [1,(ns.length:Int),1+far%(ns.length:Int)]:=⟨_,rfl⟩
 obtain⟨V,H⟩:=loop2 (N:=.v$ .lst$ z.map D.int) (x9:=.v$ .int far) (x10:=.v$ .lst$ j.map D.int) t g o nd p j [.v$ .lst$ z.map D.int,.v$ .lst$ ns.map D.str,.ob ac i,.own$ v.map ddD,.ob ac$ oT u,.v$ .int c,f,e,b,.v$ .int far,.v$ .lst$ j.map D.int] b ⟨⟨i,u,_,f,e,rfl,s,G⟩,ok,mem⟩;have m:(ns.map D.str).length=ns.length:=by simp
 refine wD ?_;unfold tX;generalize hZ:z.map D.int=Z at *;generalize hNS:ns.map D.str=NS at *
 rw[zQ (ds':=[.v$ .lst Z,.v$ .lst NS,.no,.no,.no,.no,.no,.no,.no,.no,.no])$ by simp[args,y,x,F],
  zQ (ds':=[.v$ .lst Z,.v$ .lst NS,.ob ac T,.no,.no,.no,.no,.no,.no,.no,.no]) (by
   unfold makeO
   simp[lisA,M]),
  zQ (ds':=[.v$ .lst Z,.v$ .lst NS,.ob ac T,.own [],.no,.no,.no,.no,.no,.no,.no]) (by simp),
  zQ (ds':=[.v$ .lst Z,.v$ .lst NS,.ob ac T,.own [],.ob ac$ oT [cel z 2%61-30],.no,.no,.no,.no,.no,.no]) (by simp[L,sO,oT]),
  zQ (by rw[wQ];simp[h,I];rfl)]
 rw[E];generalize v.map ddD=DD at *;generalize oT u=OE at *
 rw[zQ (ds':=[.v$ .lst Z,.v$ .lst NS,.ob ac i,.own DD,.ob ac OE,.v$ .int c,f,e,b,.no,.no])$ by simp[K],
  zQ (ds':=[.v$ .lst Z,.v$ .lst NS,.ob ac i,.own DD,.ob ac OE,.v$ .int c,f,e,b,.v$ .int far,.no]) (by simp[-Int.reducePow,pw,B]),
  zQ (ds':=[.v$ .lst Z,.v$ .lst NS,.ob ac i,.own DD,.ob ac OE,.v$ .int c,f,e,b,.v$ .int far,.v$ .lst [.int 1,.int (ns.length:Int),.int$ 1+far%(ns.length:Int)]]) (by simp[m,l]),
  zQ (ds':=[.v$ .lst Z,.v$ .lst NS,.ob ac i,.own DD,.ob ac OE,.v$ .int c,f,e,b,.v$ .int far,.v$ .lst$ if c%3=1 then [.int$ -far,.int$ 1+far%(ns.length:Int)]else [.int 1,.int (ns.length:Int),.int$ 1+far%(ns.length:Int)]]) (by by_cases q:c%3=1<;>simp[q,m,l]),
  zQ (ds':=[.v$ .lst Z,.v$ .lst NS,.ob ac i,.own DD,.ob ac OE,.v$ .int c,f,e,b,.v$ .int far,.v$ .lst$ j.map D.int]) (by
   rw[n];by_cases q:c%3=2
   . simp[q,m,l]
   . by_cases C:c%3=1<;>simp[q,C]),
  zQ (by rw[wQ];simp[H];rfl)]
 simp
open FL
set_option maxHeartbeats 0 in
def all_mk{l:WV}{w:cT}{K:aM}{h:Heap}{mg:Str->Option Value}{fa:aF}(X:K.In h)(G:h.Ns mainGlobals mg)(hfa:mg "law"=aa (.ref fa)){U f0 f1 f2 f3 f4 f5 f6 f7 f8 f9 f11 f12 f13 f14 f15 f16 f17 f18 f19 f20 f22 f23 f24 f25 f26 f27 f28 f29 f30 f31 E0 E1 E2 E3 E4 E5 E6 E7 E8 E9 E10 E11 E12:aF}{t0 t1 t2:Tok}{mc21 mq21:aF}{mo21:Value}{md21:Option aF}{mv21:Array Value}{ms21:Array (Option Value)}{f10 f21 f32:aF}{od10 an10 od21 an21 od32 an32:Option aF}{sl10 sl21 sl32:Array (Option Value)}{oc10 kV10 dc10 pm10 cd10 ct10 oc21 kV21 dc21 pm21 cd21 ct21 oc32 kV32 dc32 pm32 cd32 ct32:Value}(q12:CN K "Bundle" U)(z:NoAttr K U "lying")(d0:DefM K "later_low" (top 18) f0)(d1:DefM K "earlier_behind" (top 19) f1)(d2:DefM K "ends_ahead" (top 17) f2)(d3:DefM K "meet" (top 16) f3)(d4:DefM K "knit" (top 21) f4)(d5:DefM K "parts_in" (top 22) f5)(d6:DefM K "rows_over" (top 23) f6)(d7:DefM K "runs_of" (top 24) f7)(d8:DefM K "paired" (top 25) f8)(d9:DefM K "either" (top 27) f9)(a10:aH K mainGlobals "summed"=aa (aa$ .ref f10))(l10:LkF K f10 oc10 od10 "summed" "summed" (top 28) .none kV10 dc10 pm10 an10 cd10 ct10 sl10)(c10:fN K cd10 "summed"=ae)(k10:cC K (.ref f10)=ae)(d11:DefM K "joined" (top 30) f11)(d12:DefM K "turned" (top 31) f12)(d13:DefM K "is_name" (top 35) f13)(d14:DefM K "put" (top 37) f14)(d15:DefM K "check_names" (top 41) f15)(d16:DefC K U "__init__" "Bundle.__init__" (dG (top 40) 0) f16)(d17:DefC K U "only" "Bundle.only" (dG (top 40) 4) f17)(d18:DefC K U "lay" "Bundle.lay" (dG (top 40) 1) f18)(d19:DefC K U "lift" "Bundle.lift" (dG (top 40) 2) f19)(d20:DefM K "stacked" (top 42) f20)(a21:cG K (.ref U) "crowd"=aa (aa$ .ref f21))(l21:LkF K f21 oc21 od21 "crowd" "Bundle.crowd" (dG (top 40) 6) .none kV21 dc21 pm21 an21 cd21 ct21 sl21)(c21:fN K cd21 "Bundle.crowd"=ae)(k21:cC K (.ref f21)=ae)(mt21:cd21=.ref mc21)(ml21:K.lookup mc21=aa ⟨mo21,md21,.fields mv21,ms21⟩)(mp21:(mv21[11]?:Option Value)=aa (.ref mq21))(i21:mU K (.ref f21)=ae)(d22:DefM K "_law_cell_at" (top 44) f22)(d23:DefM K "_law_whole" (top 45) f23)(d24:DefM K "_law_names" (top 46) f24)(d25:DefM K "_law_great" (top 47) f25)(d26:DefM K "_law_over" (top 48) f26)(d27:DefM K "_law_has" (top 49) f27)(d28:DefM K "_law_many" (top 50) f28)(d29:DefM K "_law_in_order" (top 51) f29)(d30:DefM K "_law_right" (top 52) f30)(d31:DefM K "_law_refused" (top 53) f31)(a32:aH K mainGlobals "law"=aa (aa$ .ref f32))(l32:LkF K f32 oc32 od32 "law" "law" (top 54) .none kV32 dc32 pm32 an32 cd32 ct32 sl32)(c32:fN K cd32 "law"=ae)(k32:cC K (.ref f32)=ae)(mk12:uX K U=ae)(kc12:cC K (.ref U)=ae)(xn0:aH K mainGlobals "SpanError"=aa (aa$ .ref E0))(xn1:aH K mainGlobals "Empty"=aa (aa$ .ref E1))(xn2:aH K mainGlobals "NoEnd"=aa (aa$ .ref E2))(xn3:aH K mainGlobals "Clash"=aa (aa$ .ref E3))(Y:XI K "NoCount" E4)(xn5:aH K mainGlobals "NoShare"=aa (aa$ .ref E5))(xn6:aH K mainGlobals "NoName"=aa (aa$ .ref E6))(xn7:aH K mainGlobals "NoMark"=aa (aa$ .ref E7))(xn8:aH K mainGlobals "NoDeed"=aa (aa$ .ref E8))(xn9:aH K mainGlobals "NoRule"=aa (aa$ .ref E9))(xn10:aH K mainGlobals "TooMuch"=aa (aa$ .ref E10))(xn11:aH K mainGlobals "NoText"=aa (aa$ .ref E11))(xn12:aH K mainGlobals "NoRow"=aa (aa$ .ref E12))(xe4:PySem.W.excIn K E4 [.type "ValueError",.type "Exception",.type "BaseException",.type "object"] "ValueError.__new__"=ae)(xb0:rV K E0 (.type "BaseException")=aa ae)(xu0:pF K E0=ae)(xy0:nE K (.ref E0)=aa (.type "type"))(xs4_0:lZ K (.ref E4) (.ref E0)=aa ae)(x4_1:XN K E4 E1)(x4_2:XN K E4 E2)(x4_3:XN K E4 E3)(x4_5:XN K E4 E5)(x4_6:XN K E4 E6)(x4_7:XN K E4 E7)(x4_8:XN K E4 E8)(x4_9:XN K E4 E9)(x4_10:XN K E4 E10)(x4_11:XN K E4 E11)(x4_12:XN K E4 E12)(J:lZ K (.ref E4) (.type "ValueError")=aa ae)(z0:aH K mainGlobals "ValueError"=aa ac)(z1:aH K mainGlobals "all"=aa ac)(z2:aH K mainGlobals "any"=aa ac)(z3:aH K mainGlobals "bool"=aa ac)(z4:aH K mainGlobals "int"=aa ac)(z5:aH K mainGlobals "isinstance"=aa ac)(z6:aH K mainGlobals "len"=aa ac)(z7:aH K mainGlobals "list"=aa ac)(z8:aH K mainGlobals "max"=aa ac)(z9:aH K mainGlobals "min"=aa ac)(z10:aH K mainGlobals "range"=aa ac)(z11:aH K mainGlobals "set"=aa ac)(z12:aH K mainGlobals "sorted"=aa ac)(z13:aH K mainGlobals "str"=aa ac)(z14:aH K mainGlobals "sum"=aa ac)(z15:aH K mainGlobals "tuple"=aa ac)(v0:aH K mainGlobals "LETTERS"=aa (aa$ .str "abcdefghijklmnopqrstuvwxyz" t0))(v1:aH K mainGlobals "MOST_LETTERS"=aa (aa$ .int 8 t1))(v2:aH K mainGlobals "MOST_NAMES"=aa (aa$ .int 60 t2)):∃fd:bR,(∀(s:aW) (v:Value),aBk s fd ⟨[v],[]⟩ [("_law_script",v)])/\∀base:Heap,K.In base->base.Ns mainGlobals mg->FnOk l.prog w K mg base CX0 7 fa fd ["_law_script"] (QD K 63):=by
 have e:=hfa.symm.trans$ bZ X G a32;cases e;obtain⟨o,i⟩:=q12.get;have Y:XI K (xName 4) E4:=Y;have T:Glb K mg:=⟨cB X G z0,cB X G z1,cB X G z2,cB X G z3,cB X G z4,cB X G z5,cB X G z6,cB X G z7,cB X G z8,cB X G z9,cB X G z10,cB X G z11,cB X G z12,cB X G z13,cB X G z14,cB X G z15,⟨_,bZ X G v0⟩,⟨_,bZ X G v1⟩,⟨_,bZ X G v2⟩,(fldOk_c o i z aAc),(newOk (t:=24) (by exact o) i z),⟨E4,bZ X G Y.1,(isx_c Y (aFz E4) VP)⟩,(isx_c Y (aGa (3:) J) VP),⟨E3,E1,E8,E2,E7,E6,E12,E9,E5,E11,E10,bZ X G xn3,bZ X G xn1,bZ X G xn8,bZ X G xn2,bZ X G xn7,bZ X G xn6,bZ X G xn12,bZ X G xn9,bZ X G xn5,bZ X G xn11,bZ X G xn10,(aGf (t:=4) (by exact Y.1) Y.i (jQ x4_3.k$ jQ x4_1.k$ jQ x4_8.k$ jQ x4_2.k$ jQ x4_7.k$ jQ x4_6.k$ jQ x4_12.k$ jQ x4_9.k$ jQ x4_5.k$ jQ x4_11.k$ jQ x4_10.k RL) )⟩,⟨f10,by exact a10,by exact bZ X G a10⟩⟩
 have XR_4:XR K mg 4 E4:=⟨by exact Y.1,by exact bZ X G Y.1,⟨xe4,Y.i⟩⟩
 have XT_4:XT K mg 4 "SpanError" E4 E0:=⟨by exact Y.1,bZ X G xn0,⟨RK xu0 xy0 xs4_0,xb0⟩⟩
 have F10:=DQ (st:=(top 28)) l10 c10 k10;have b10:=F10.binds (ps:=["value","other_value"]) λ_ _ _ _ _ _=>len2 λ_ _=>rfl;obtain⟨_,F16,a16,k16,i16⟩:=d16.get;have b16:=F16.binds (ps:=["self","names"]) λ_ _ _ _ _ _=>len2 λ_ _=>rfl;have F21:=DQ (st:=(dG (top 40) 6)) l21 c21 k21;have a:Mkr K "Bundle.crowd" 11 (dG (top 40) 6) _ mc21 mq21:=mkr_met rfl rfl o a21 l21 mt21 ml21 mp21;have b21:=F21.binds (ps:=["self","many"]) λ_ _ _ _ _ _=>len2 λ_ _=>rfl;have F32:=DQ (st:=(top 54)) l32 c32 k32;refine⟨dL "law" "law" (yD$ top 54) (qJ$ top 54) (zJ$ top 54) .none kV32 dc32 pm32 an32 cd32 ct32,λs v=>.of_eq rfl,λbase _ _=>?_⟩;have S:SysAt l.prog w base K mg:=⟨h,X,G⟩
 have C:=d0.cal S λF=>FU F T;have b:=d1.cal S λF=>tE F T;have p:=d2.cal S λF=>DS F T;have Z:=d3.cal S λF=>aGq F T C b p;have D:=d4.cal S λF=>aGr F T;have M:=d5.cal S λF=>JZ F T Z;have B:=d6.cal S λF=>FR F T M;have k:=d7.cal S λF=>NT F T;have O:=d8.cal S λF=>RW F T k b;have R:=d9.cal S λF=>RY F T;have G10:=RV F10 T R;have V_summed:CalV l.prog w K mg base 3 2 2 kP:=⟨f10,_,_,_,_,_,G10,b10,by exact a10,l10⟩
 have C_summed:=aHt G10 b10 k10$ bZ X G a10;have CO:=clo_ok (P:=l.prog) (w:=w) (base:=base) T a V_summed;have Q:=d11.cal S λF=>RX F T O D CO;have y:=d12.cal S λF=>RU F T D k CO;have m:=d13.cal S λF=>NU F T;have V:=d14.cal S λF=>fok_put F T D B;have n:=d15.cal S λF=>AV F T m;have G16:=sF F16 T n;have N:MCal l.prog w K mg base "only" 2 1 [12] dU:=(d17.mc o i (λF=>AW F T m) NC)
 have j:=d20.cal S λF=>NR F T Q;have GX21_4:=sE (P:=l.prog) (w:=w) (base:=base) F21 T j y a XR_4;have L:MCalX l.prog w K mg base "crowd" 12 5 1 cO E4:=⟨by decide +kernel,U,f21,_,_,o,i,⟨a21,i21,k21⟩,GX21_4,b21⟩
 have G21:=uQ F21 T j y a;have g:=d22.cal S λF=>uP F T;have q:=d23.cal S λF=>DT F T;have u:=d24.cal S λF=>DV F T;have x:=d25.cal S λF=>DW F T;have E:=d26.calR S λF=>FV F T x;have d:=d27.cal S λF=>KA F T;have H:=d28.cal S λF=>FW F T d;have c:=d29.cal S λF=>tS F T q;have r:=d30.cal S λF=>DU F T c H d;have I:MCal l.prog w K mg base "crowd" 5 1 [12] (cQ cP):=(HW o i ⟨a21,i21,k21⟩ G21 (by decide) b21 (3:) NC)
 have f:=d31.cal S λF=>uO F T I XT_4 L;have M_lay:LCal l.prog w K mg base "lay" 6 2 [12] (λ_=>eY):=(d18.lc o i (λF=>DX F T V N) NF)
 have W:LCal l.prog w K mg base "lift" 6 2 [12] (λ_=>eO):=(d19.lc o i (λF=>AX F T V N) NF)
 have A:LMk l.prog w K mg base 24 3 1 0 dW:=⟨⟨U,f16,_,_,by exact o,bZ X G o,⟨mk12,a16,i16,kc12⟩,G16,b16⟩⟩
 exact law_ofB (F:=tY) (fok_law F32 T u g E r f M_lay W I A) run_law
end K75
namespace PySem.W.Fast
def tw17216358485949126680:=Nat
def tw7111540213905960365:=Nat
def tw1688373598980216287:=Nat
def tw10126304403847510259:=Nat
def tw15617057037863807640:=Nat
def tw5020474782925882066:=Nat
def tw9423651748795794032:=Nat
def tw3571008451574890827:=Nat
def tw17139069541920367395:=Nat
def tw9161174527639787437:=Nat
def tw6284248097551108030:=Nat
def tw10362427691815708169:=Nat
def tw2549733589784837076:=Nat
def tw14207514829040214827:=Nat
def tw13678286519131544566:=Nat
def tw17238770325721754227:=Nat
def tw8810010200184475968:=Nat
def tw14631221541140022564:=Nat
def tw10689396500248663721:=Nat
def tw2444481905986622135:=Nat
def tw1277725386263576829:=Nat
def tw8612841081089977188:=Nat
def tw16572095374127925893:=Nat
def tw17507095058260955788:=Nat
def tw12260413547459358577:=Nat
def tw3281110067210016750:=Nat
def tw1949839532603244992:=Nat
def tw8696887999415235754:=Nat
def tw4557230418759145715:=Nat
def tw2320216605703799089:=Nat
def tw16386819391956377249:=Nat
def tw10912093395390820360:=Nat
def tw12105318492903500355:=Nat
def tw13949261868503931101:=Nat
def tw7266229247823586051:=Nat
def tw4170725170811599119:=Nat
def tw313024514324039837:=Nat
def tw13663440845705029938:=Nat
def tw11278050096514230122:=Nat
def tw6649724179253174178:=Nat
def tw17821272761825158130:=Nat
def tw16041272177991400770:=Nat
def tw14477588382402826491:=Nat
def tw13392650682449165004:=Nat
def tw613773188639576521:=Nat
def tw6245129205326511603:=Nat
def tw15571719140951189708:=Nat
def tw5383810934811923492:=Nat
def tw7510265623811649930:=Nat
def tw5328030984846325667:=Nat
def tw16984702409236411771:=Nat
def tw15988338027534326628:=Nat
def tw11597634363429724314:=Nat
def tw3579771400557424136:=Nat
def tw17186142372609291314:=Nat
def tw8750209913092205958:=Nat
def tw11039499737949739360:=Nat
def tw18059087319764850100:=Nat
def tw1551029964278008499:=Nat
def tw9391498469231557145:=Nat
def tw15126633481156723786:=Nat
def tw8943549826999853887:=Nat
def tw6185649088445994336:=Nat
def tw1654561556014735690:=Nat
def tw16221204281372396958:=Nat
def tw14393823637919446737:=Nat
def tw14985984709641204622:=Nat
def tw1644172534245886367:=Nat
def tw1924969804202081210:=Nat
def tw1097857664792085732:=Nat
def tw7516132735037647934:=Nat
def tw8612088349481155562:=Nat
def tw9093601743196172369:=Nat
def tw14443563206791368929:=Nat
def tw2405076494890130613:=Nat
def tw17824072977403944623:=Nat
def tw11042678111427524219:=Nat
def tw227729322616100504:=Nat
def tw6311731615091633717:=Nat
def tw11542309191526160181:=Nat
def tw4962361735118919967:=Nat
def tw7913758527262654898:=Nat
def tw2657461803932566317:=Nat
def tw2122976654109244266:=Nat
def tw1454602599218907871:=Nat
def tw11465886612017988858:=Nat
def tw2996290795772118121:=Nat
def tw8156347648485352769:=Nat
def tw16044342704962467845:=Nat
def tw13987005109064175752:=Nat
def tw10122394067196522853:=Nat
def tw4931539920458080811:=Nat
def tw2778164023234346521:=Nat
def tw13244360033804999850:=Nat
def tw8198643145611144182:=Nat
def tw10490929816268046006:=Nat
def tw6336947701268743746:=Nat
def tw9317338691320072459:=Nat
def tw7165471703347433669:=Nat
def tw7827514425562111739:=Nat
def tw3000187518597376330:=Nat
def tw9496876585278112315:=Nat
def tw5774409743306201946:=Nat
def tw6038073077830778131:=Nat
def tw17126718646876074067:=Nat
def tw8636112943554412456:=Nat
def tw624050275847103268:=Nat
def tw2682446334166718668:=Nat
def tw9730398830997566815:=Nat
def tw8943920110575774455:=Nat
def tw7180718766966015492:=Nat
def tw11450250860846073554:=Nat
def tw6062729109432275474:=Nat
def tw10247424473689434003:=Nat
def tw15000466681738041607:=Nat
def tw16496246127599983517:=Nat
def tw14939726094609948195:=Nat
def tw10591608862344078712:=Nat
def tw13863446458802541971:=Nat
def tw13131539391979380511:=Nat
def tw18355937859029521581:=Nat
def tw11431045406576058958:=Nat
def tw2873787306108880056:=Nat
def tw17122860450858022949:=Nat
def tw2655254438953225278:=Nat
def tw4908892989387335345:=Nat
def tw2415782612324900267:=Nat
def tw3880736130933033409:=Nat
def tw16344887947270257758:=Nat
def tw6547526407849446243:=Nat
def tw2930128031052507860:=Nat
def tw4767230537090076921:=Nat
def tw12675358893407867063:=Nat
def tw421524451779604915:=Nat
def tw15200673033391735523:=Nat
def tw10493203070746644626:=Nat
def tw2714739023788627170:=Nat
def tw3376603711086878819:=Nat
def tw18360853672057317463:=Nat
def tw7892734410363778864:=Nat
def tw2808016830548688624:=Nat
def tw7625645943503780585:=Nat
def tw13915966703839254216:=Nat
def tw11622581369932686614:=Nat
def tw2173779475386155945:=Nat
def tw13559103397009930828:=Nat
def tw12961507074006263884:=Nat
def tw12773692597887544084:=Nat
def tw7674007334715798723:=Nat
def tw3168632877457745012:=Nat
def tw9700870430989100971:=Nat
def tw7201930989553936540:=Nat
def tw5476257209781773706:=Nat
def tw11681835662108834009:=Nat
def tw6069594325203213978:=Nat
def tw3355999601227404816:=Nat
def tw13780297710871859887:=Nat
def tw18198519701810824463:=Nat
def tw11407465492633285851:=Nat
def tw12853944465099004923:=Nat
def tw14875847716559491641:=Nat
def tw17361990081379624639:=Nat
def tw7305237157944479871:=Nat
def tw15286769751033525094:=Nat
def tw8256555776601541255:=Nat
def tw3339027313862715535:=Nat
def tw8502665749861143205:=Nat
def tw14176316824073143099:=Nat
def tw9056803848822484555:=Nat
def tw11940885694506998778:=Nat
def tw13848815301970753129:=Nat
def tw1787808456093113048:=Nat
def tw17923127968968387683:=Nat
def tw13284305408700473485:=Nat
def tw2233369998825495037:=Nat
def tw6042744063891918323:=Nat
def tw10931358273835537506:=Nat
def tw14293861140824119755:=Nat
def tw5582129525043819791:=Nat
def tw7357600926575036587:=Nat
def tw9876494173817925040:=Nat
def tw4431821559721712427:=Nat
def tw9427025350136553325:=Nat
def tw12253925959897543602:=Nat
def tw7825063309542639778:=Nat
def tw13784448455853059298:=Nat
def tw3447130246070871214:=Nat
def tw7640397624974898429:=Nat
def tw4180368558154643357:=Nat
def tw11387725509293762509:=Nat
def tw7951273270838479754:=Nat
def tw4750210741188474322:=Nat
def tw5942177402379475397:=Nat
def tw12843935915751431018:=Nat
def tw6887245634961222398:=Nat
def tw3479197064149404833:=Nat
def tw6235739772028573971:=Nat
def tw8294547919937840020:=Nat
def tw9133121522297450246:=Nat
def tw6391463078927385642:=Nat
def tw1500449097613749014:=Nat
def tw8875435065360956874:=Nat
def tw10470600809639347053:=Nat
def tw12790928831025952144:=Nat
def tw16660662989494359599:=Nat
def tw6404189565146747343:=Nat
def tw18310996136714317599:=Nat
def tw10409952934552418439:=Nat
def tw17501694034243995379:=Nat
def tw2484074510557841691:=Nat
def tw10782635510739333504:=Nat
def tw16337716656641890850:=Nat
end PySem.W.Fast
def PySem.W.Fast.tw16040463002665399870:Unit:=()
def PySem.W.Fast.tw6060676583628383296:Unit:=()
def PySem.W.Fast.tw17772540045428966719:Unit:=()
def PySem.W.Fast.tw11989659070568645823:Unit:=()
def PySem.W.Fast.tw1814101941196369839:Unit:=()
def PySem.W.Fast.tw15090269076629116723:Unit:=()
def PySem.W.Fast.tw1808794016439527699:Unit:=()
def PySem.W.Fast.tw3223874137164466249:Unit:=()
def PySem.W.Fast.tw17776154134856452274:Unit:=()
def PySem.W.Fast.tw9719607457402218591:Unit:=()
def PySem.W.Fast.tw13953690470812439205:Unit:=()
def PySem.W.Fast.tw18380362179086465038:Unit:=()
def PySem.W.Fast.tw5339479651582258565:Unit:=()
def PySem.W.Fast.tw15448571597756264874:Unit:=()
def PySem.W.Fast.tw10755478517936868955:Unit:=()
def PySem.W.Fast.tw13587881320335633383:Unit:=()
def PySem.W.Fast.tw17319859640965859442:Unit:=()
def PySem.W.Fast.tw13005351729716431818:Unit:=()
def PySem.W.Fast.tw11344172587253698913:Unit:=()
def PySem.W.Fast.tw4949328766996833373:Unit:=()
def PySem.W.Fast.tw1250584895922709776:Unit:=()
def PySem.W.Fast.tw12375851789968939914:Unit:=()
def PySem.W.Fast.tw7844556626191143063:Unit:=()
def PySem.W.Fast.tw215578979072562147:Unit:=()
open PySem.W
set_option maxRecDepth 100000 in
set_option maxHeartbeats 0 in
theorem PySem.Challenge.cw_spanmap_k75_crowd_holds : PySem.Challenge.rw_spanmap_k75_crowd.Holds := by
 w_on; o_law; k_head; (case hw=>w_witness2)
 k_fill
 refine' FL.walkB (l:=PySem.Challenge.rw_spanmap_k75_crowd) (k:=7) rfl rfl ⟨rfl,by decide,by decide⟩ (fun w h Y=>⟨PySem.W.km_in_of Y,PySem.W.km_tabs_of Y⟩) (fun w=>by kernel_rfl) ?T ?F
 case T =>
  intro w;dsimp only [L2.makers]
  repeat (first
   | exact FL.TabL.nil
   | (apply FL.tabL_noM (x:="Bundle.crowd") (C:="Bundle") (m:="crowd") (hm:=rfl); k_is)
   | (apply FL.tabL_met (x:="Bundle.crowd") (C:="Bundle") (m:="crowd") (hm:=rfl); k_is; k_is; k_is; exact rfl; k_is; exact rfl; kernel_rfl; decide)
   | (apply FL.tabL_no; k_is)
   | (apply FL.tabL_yes; k_is; k_is; exact rfl; k_is; exact rfl; kernel_rfl))
  all_goals decide
 case F =>
  intro w mg fa h KX G hmg;refine' K75.all_mk KX G hmg ..
  all_goals first | ((first | unfold FL.DefM | unfold FL.DefC); iterate 9 (apply Exists.intro); repeat' (first | (unfold FL.LkF; k_is) | k_is | apply And.intro)) | ((first | unfold FL.CN | unfold FL.XN | unfold FL.XI); repeat' (first | k_is | apply And.intro | decide)) | (unfold L2.NoAttr; k_is) | (unfold FL.LkF; k_is) | k_is | k_exc | decide | exact rfl | kernel_rfl | skip
#print axioms PySem.Challenge.cw_spanmap_k75_crowd_holds
