import PyProof.Rows.All
import Wide.All
import OpenK.AllK
import Wide.FinOn
import Lean
import PyProof.EqAt
import PyProof.DictItems
import PyProof.DictWalks
import PyProof.Rows.SortStr
import PyProof.Rows.SortShellK
import PyProof.Rows.SortWalk
import KE.KRevIter
import KE.KDictList
import PyProof.CollectIter
import PyProof.DictValues
import KE.KDictSum
import PyProof.EqKinds
import PyProof.TupleCall
import PyProof.ListRange
import PyProof.P3In
import PyProof.NeData
import PyProof.NsDelKeeps
import PyProof.SliceList
import KE.KLam
import KE.KIntText
import PySem.Challenge.RW_spanmap_k79_whole_names_and_sets
set_option compiler.extract_closed false
set_option bootstrap.genMatcherCode false
set_option Elab.async false
set_option linter.all false
set_option maxRecDepth 100000
open List renaming mem_cons→aA,getElem?_set_ne→aB,mem_cons_self→aE,length_cons→aG,mem_cons_of_mem→aH,map_cons→aK,mem_append_right→aL,getElem?_set_self→aM,getElem?_map→aP,mem_singleton→aR,getElem?_eq_getElem→aU,getElem?_eq_some_iff→aV,size_toArray→aX,getElem?_append_left→bA,mem_append_left→bB,nodup_cons→bC,getElem?_eq_none→bF,mem_map→bG,pairwise_cons→bH,mem_append→bQ,length_append→bS,getElem?_append_right→bZ,length_map→cA,lookup_cons→cC,getElem?_cons_zero→cE,foldl_cons→cH,nodup_append→cI,nil_append→cM,find?_cons→cN,append_nil→cO,getElem?_replicate→cP,map_nil→cS,mem_filter→cT,set_cons_zero→dE,cons_append→dF,map_append→dJ,set_cons_succ→dM,map_map→dU,drop_eq_getElem_cons→eA,all_eq_true→eE,mem_of_getElem?→eM,getElem?_cons_succ→eP,pairwise_iff_getElem→fK,mem_of_find?_eq_some→fL,append_assoc→fN,mem_reverse→fV,map_congr_left→hG,length_reverse→hJ,any_cons→iC,find?_cons_of_neg→iT,length_replicate→kT,length_filter_le→kU,getElem_mem→kY,filter_cons→kZ,drop_length→lA,sum_cons→lG,mem_iff_getElem→lJ,length_nil→lY,find?_some→lZ,filterMap_cons→mF,reverse_cons→nG,all_cons→nJ,pairwise_singleton→nW,find?_cons_of_pos→oK,of_mem_zip→oP,length_set→oQ,pairwise_reverse→pB,length_singleton→pC,getElem?_range→rN,mem_filterMap→sD,find?_eq_none→sE,pairwise_map→tM,map_reverse→AT,range_succ→CA,mem_range→FC,getD_eq_getElem?_getD→FD,take_of_length_le→LN,drop_of_length_le→LO,mem_of_mem_head?→OI,getElem?_reverse→OJ,mem_of_mem_take→OP,mem_of_mem_drop→OQ,replicate_succ→RN,mem_map_of_mem→RO,getElem_of_mem→RQ,filter_filter→VN,reverse_perm→YS,flatMap_cons→YT,not_mem_nil→ZO,length_take→ZP,any_eq_true→ZQ
open PySem renaming Addr→aD,starEach→aF,Value→aI,Shared→aY,wpAny_bind→aZ,FuncData→bE,model→bK,wpAny→bP,eval→bU,wpAny_pure→bV,Program→bY,mem_of_lookup→cL,World→cU,backTo→cY,attributeBase→dB,behindInMarks→dH,Around→dP,compareOp→dS,foldedSetIterable→dZ,IntMulOk→eB,swapsWith→eC,wpAny_mono→eN,wpAny_Call_Name_kw→eO,bootBuiltins→eZ,keywordEach→fA,wpAny_truthy_bool→fU,assignEach→fW,holding→gC,wpAny_passesOwn→gS,codeAny→gW,NameKind→hV,codeAny_mono→iF,wpAny_holding→iR,backToKw→iS,sysModules→iV,standAt→lD,binaryOp→lE,getMethod→mC,sliceBounds→mO,wpAny_specialOf→mS,sizeLine_eq→oJ,Keyword→oM,wpAny_Call_method0_late→pL,bindArgs→pM,evalArgs_none→pW,wpAny_execs_nil→rM,callWith→sZ,codeAmong→tJ,PassesOwn→tK,wpAny_call→BA,tupleKind_room_in1→BC,builtinsNs→BD,assign→BE,wpAny_pyIter_list→ER,callerA→ES,tupleKind→FQ,revObj→FU,isTrue→FV,Paired→FY,subscripted→IH,letOwnedTupleGo→LH,codeAny_builtin→LI,valueAt→LK,getItem→LM,typeLookup→OG,GenState→OL,swapsWithSole→RH,swappedStores→RI,plainId_quiet→RJ,scanBound→VG,bindL→VH,bindC→VI,atKey→VJ,seqIndex_neg→YN,OsState→YR,BindsTo→YX
open PySem.Heap renaming get?_push_of_some→aJ,get?_push_size→aS,lt_size→aW,get?_update_other→iU,size_push→FF,get?_update_self→OK
open PySem.W renaming Frag→aN,nsIn→aQ,keepIn→bO,findIn→cB,mg_none_of→cJ,kia_one→cK,fnOf→cV,mg_of→dD,codeIn→dI,emptyDict→eK,instObj→fB,plainGet→iX,isFn→lQ,tabObj→mD,callWith_K→mE,hasDictIn→mP,lookIn→oN,plainGet_of→pN,tabIn→pO,kitx_tuple→pX,plainOver→rZ,kitx_list→sA,codeHdIn→tD,takerIn→uS,makesIn→uT,noTabs→BF,kitOne→BG,mroIn→EU,cellsFrom_some→FW,methodCall_KW→II,kitx_dict→OO,handedIn→RK,OpenLaw→VL,typeIn→YO,CodeHd→YQ
open Option renaming bind_some→aO,map_some→bW,join_some→tL,isSome_iff_exists→EZ,map_eq_some_iff→IJ,isSome_map→RL,getD_none→VM
open Nat renaming le_refl→aT,lt_of_lt_of_le→bL,ne_of_lt→bM,le_trans→cD,zero_le→cR,lt_irrefl→cW,lt_of_le_of_lt→gF,lt_succ_self→lF,ne_of_gt→oO,lt_succ_of_lt→uU,le_of_lt→uV,le_of_eq→uW,le_succ→RM,lt_trichotomy→ZM,le_succ_of_le→ZN
open Bool renaming and_eq_true→bJ,false_ne_true→dO,eq_iff_iff→iG,false_or→nK,false_eq_true→sF,eq_false_iff→tN,not_eq_true'→YW
open PyProof.Rows renaming mulOk_of_bits→cZ,callWith_type1→eL,envOfC→iW,callWith_builtin1→pP,AllBare→pZ,StrsAre→ET,IntsAre→YU
open Int renaming emod_nonneg→fO,emod_lt_of_pos→iH,le_refl→pY,cast_ofNat_Int→tF,pow_succ→uY,mul_sub→CB,mul_le_mul→FZ,mul_assoc→LJ,mul_right_comm→YV,toNat_natCast→ZR
open Array renaming length_toList→fS,getElem?_toList→kP,toList_append→OS
open PySem.F renaming slot_NoneType_hash→gJ,slot_dict_values→gX,plainAttrs_list→iB,args_dict_values_1→BH,entry_dict_values→BZ,type_list_append→EV,type_dict_values→EW,slot_list_append→EX,plainAttrs_dict→EY,called_set→OH
open List.Pairwise renaming imp_of_mem→tE
open List.Perm renaming refl→uX
namespace HT
noncomputable def sIx(n d:Nat):Option Int->Nat
 |none=>d
 |some v=>if v<0 then (v+(n:Int)).toNat else min v.toNat n
end HT
namespace L2
open PySem
abbrev Key:=Sum (Option Int) Str
noncomputable def ixN(n:Nat)(i:Int):Option Nat:=if 0<=i then (if i<n then some i.toNat else none)else if -(n:Int)<=i then some (i+n).toNat else none
noncomputable def atI{α:Type}(xs:List α)(i:Int):Option α:=(ixN xs.length i).bind λj=>xs[j]?
end L2
namespace FL
open PySem PySem.Spec PyProof.Rows L2
def bnd{α β:Type}{o:Option α}{f:α->Option β}{b:β}(h:o.bind f=some b):∃a,o=some a/\f a=some b:=Option.bind_eq_some_iff.mp h
def mpd{α β:Type}{o:Option α}{f:α->β}{b:β}(h:o.map f=some b):∃a,o=some a/\f a=b:=IJ.mp h
noncomputable def eF:Nat->Str
 |0=>"Put" | 1=>"Widen" | 2=>"Narrow" | 3=>"Move" | 4=>"Stretch" | 5=>"Mirror" | 6=>"Deed" | 7=>"Shut" | 8=>"Open" | 9=>"Endless" | 10=>"End" | 11=>"Line" | 12=>"Bundle" | 13=>"Desk"
 |20=>"Line" | 21=>"Line" | 22=>"Line" | 23=>"Line" | 24=>"Bundle" | 25=>"Desk" | _=>""
noncomputable def eU:Nat->List Str
 |0=>["span","fill"]|1=>["fill","at","many"]|2=>["fill","at","many"]|3=>["fill","far"]|4=>["fill","top","bottom"]|5=>["fill"]|6=>["fill"]|7=>["place"]|8=>["place"]|11=>["pieces","places","earlier","later"]|12=>["lying"]|13=>["lines"]
 |21=>["pieces"]|22=>["pieces","places"]|23=>["pieces","places","earlier"]|_=>[]
noncomputable def uM:Nat->Str
 |0=>"either" | 1=>"if_both" | 2=>"if_alone" | 3=>"summed" | 4=>"_law_first" | 5=>"_law_both" | 6=>"_law_left" | 7=>"_law_sum" | 8=>"_law_none" | _=>""
inductive D where
 |non|bl (b:Bool)|int (i:Int)|str (x:Str)|tup (ds:List D)|lst (ds:List D)
 |dct (ks:List Key) (ds:List D)|ins (t:Nat) (ds:List D)|clo (m n:Nat) (ds:List D)
 |dcf (ks:List Key) (ds:List D)
mutual
noncomputable def flat:D->Bool
 |.non|.bl _|.int _|.str _=>true
 |.tup ds=>flats ds
 |_=>false
noncomputable def flats:List D->Bool
 |[]=>true
 |d::r=>flat d&&flats r
end
noncomputable def xName:Nat->Str
 |0=>"SpanError" | 1=>"Empty" | 2=>"NoEnd" | 3=>"Clash" | 4=>"NoCount" | 5=>"NoShare" | 6=>"NoName" | 7=>"NoMark" | 8=>"NoDeed" | 9=>"NoRule" | 10=>"TooMuch" | 11=>"NoText" | _=>"NoRow"
inductive OT where
 |val (d:D)|lst (l:List OT)|tup (l:List OT)|dct (ks:List Key) (l:List OT)|ins (t:Nat) (l:List OT)
mutual
noncomputable def otD:OT->D
 |.val d=>d
 |.lst l=>.lst (otDs l)
 |.tup l=>.tup (otDs l)
 |.dct ks l=>.dct ks (otDs l)
 |.ins t l=>.ins t (otDs l)
noncomputable def otDs:List OT->List D
 |[]=>[]
 |t::r=>otD t::otDs r
end
inductive Sl where
 |no|v (d:D)|own (l:List D)|exc (t:Nat)|exf (t:Nat) (fs:List (Str×Int))|fr (l:List D)|ob (r:Option Nat) (t:OT)
abbrev FE:=List Sl->Option D
abbrev FT:=List Sl->Option Bool
abbrev FA:=List Sl->Option (List D)
noncomputable def mkL(f:FA):FE:=λds=>(f ds).map D.lst
noncomputable def zW(i:Nat):FE:=λds=>match ds[i]? with|some (.v d)=>some d|_=>none
noncomputable def zJ(i:Nat):FE:=λds=>match ds[i]? with|some (.v d)=>some d|some (.own l)=>some (.lst l)|_=>none
noncomputable def zB(d:D):FE:=λ_=>some d
noncomputable def zH(op:D->D->Option D)(fa fb:FE):FE:=λds=>(fa ds).bind λx=>(fb ds).bind λy=>op x y
noncomputable def isB:D->Option Bool
 |.bl b=>some b
 |_=>none
noncomputable def qC(f:FE):FT:=λds=>(f ds).bind isB
noncomputable def xB:D->D->Option D
 |.int i,.int j=>some (.int (i+j))
 |.str x,.str y=>if x.length+y.length<=sizeLine then some (.str (x++y))else none
 |_,_=>none
noncomputable def subD:D->D->Option D
 |.int i,.int j=>some (.int (i-j))
 |_,_=>none
def divOk(j:Int):Prop:=0<j/\j.natAbs.log2<9000
noncomputable instance divOkD(j:Int):Decidable (divOk j):=Classical.propDecidable _
noncomputable def qR:D->D->Option D
 |.int i,.int j=>if divOk j then some (.int (i/j))else none
 |_,_=>none
noncomputable def jG:D->D->Option D
 |.int i,.int j=>if 0<j then some (.int (i%j))else none
 |_,_=>none
noncomputable def cmpI(p:Int->Int->Bool):D->D->Option D
 |.int i,.int j=>some (.bl (p i j))
 |_,_=>none
noncomputable def andT(c d:FT):FT:=λds=>(c ds).bind λb=>if b=true then d ds else some false
noncomputable def orT(c d:FT):FT:=λds=>(c ds).bind λb=>if b=true then some true else d ds
noncomputable def notT(c:FT):FT:=λds=>(c ds).map not
noncomputable def andV(f g:FE):FE:=λds=>(f ds).bind λd=>match d with|.bl true=>g ds|.bl false=>some (.bl false)|_=>none
noncomputable def orV(f g:FE):FE:=λds=>(f ds).bind λd=>match d with|.bl true=>some (.bl true)|.bl false=>g ds|_=>none
noncomputable def notV(f:FE):FE:=λds=>(f ds).bind λd=>match d with|.bl b=>some (.bl (!b))|_=>none
noncomputable def ifV(c:FT)(f g:FE):FE:=λds=>(c ds).bind λb=>if b=true then f ds else g ds
noncomputable def chain(op op':D->D->Option D)(fa fb fc:FE):FE:=λds=>(fa ds).bind λx=>(fb ds).bind λy=>(op x y).bind λz=>match z with
 |.bl true=>(fc ds).bind λw=>op' y w
 |.bl false=>some (.bl false)
 |_=>none
noncomputable def zA(f:FE)(g:FA):FA:=λds=>(f ds).bind λx=>(g ds).map λr=>x::r
noncomputable def zS:FA:=λ_=>some []
noncomputable def qD(f:FA):FA:=λds=>(f ds).bind λl=>if l.length<=sizeLine then some l else none
noncomputable def mkT(f:FA):FE:=λds=>(f ds).map D.tup
noncomputable def ixD:D->D->Option D
 |.lst l,.int i=>atI l i
 |.tup l,.int i=>atI l i
 |.str x,.int i=>if x.length<=sizeLine then (atI x.cps.toList i).map λc=>.str ⟨#[c]⟩else none
 |_,_=>none
inductive Ret where
 |val (d:D)|fresh (l:List D)|any (d:D)|obj (t:OT)
noncomputable def retV:Ret->Option D
 |.val d=>some d
 |.fresh l=>some (.lst l)
 |.any _=>none
 |.obj t=>some (otD t)
noncomputable def retF:Ret->Option (List D)
 |.fresh l=>some l
 |_=>none
noncomputable def retA:Ret->Option D
 |.any d=>some d
 |_=>none
noncomputable def callA(n:Nat)(F:List D->Option Ret)(g:List Sl->Option (List D)):List Sl->Option D:=λds=>(g ds).bind λl=>if l.length=n then (F l).bind retA else none
noncomputable def qZ(n:Nat)(F:List D->Option Ret)(g:FA):FE:=λds=>(g ds).bind λl=>if l.length=n then (F l).bind retV else none
noncomputable def yY(n:Nat)(F:List D->Option Ret)(g:FA):FA:=λds=>(g ds).bind λl=>if l.length=n then (F l).bind retF else none
noncomputable def callB(F:List D->Option D)(g:FA):FE:=λds=>(g ds).bind F
noncomputable def lenD:List D->Option D
 |[.lst l]=>some (.int l.length)
 |[.tup l]=>some (.int l.length)
 |[.str x]=>if x.length<=sizeLine then some (.int x.length)else none
 |_=>none
inductive Out where
 |nx (ds:List Sl)|rt (r:Ret)|bk (ds:List Sl)|ct (ds:List Sl)
abbrev FS:=List Sl->Option Out
noncomputable def qW:FS:=λds=>some (.nx ds)
noncomputable def qQ(f g:FS):FS:=λds=>(f ds).bind λo=>match o with|.nx ds'=>g ds'|o=>some o
noncomputable def ifG(c:FT)(f g:FS):FS:=λds=>(c ds).bind λb=>if b=true then f ds else g ds
noncomputable def jM(i:Nat)(f:FE):FS:=λds=>(f ds).map λd=>.nx (ds.set i (.v d))
noncomputable def setOG(i:Nat)(f:FA):FS:=λds=>(f ds).map λl=>.nx (ds.set i (.own l))
noncomputable def flatR(d:D):Option Out:=if flat d=true then some (.rt (.val d))else none
noncomputable def retG(f:FE):FS:=λds=>(f ds).bind flatR
noncomputable def flatF(l:List D):Option Out:=if flats l=true then some (.rt (.fresh l))else none
noncomputable def retOG(f:FA):FS:=λds=>(f ds).bind flatF
noncomputable def retXG(i:Nat):FS:=λds=>match ds[i]? with|some (.own l)=>flatF l|_=>none
noncomputable def putG(i:Nat)(fk fe:FE):FS:=λds=>match ds[i]? with
 |some (.own l)=>(fe ds).bind λd=>(fk ds).bind λk=>match k with
   |.int n=>(ixN l.length n).map λj=>.nx (ds.set i (.own (l.set j d)))
   |_=>none
 |_=>none
noncomputable def appG(i:Nat)(fe:FE):FS:=λds=>match ds[i]? with
 |some (.own l)=>(fe ds).bind λd=>if l.length<sizeLine then some (.nx (ds.set i (.own (l++[d]))))else none
 |_=>none
noncomputable def args(n:Nat)(ds:List D):List Sl:=ds.map Sl.v++List.replicate (n-ds.length) Sl.no
noncomputable def sgns(x:Str):List D:=x.cps.toList.map λc=>D.str ⟨#[c]⟩
noncomputable def asS:D->Option (List D)
 |.str x=>some (sgns x)
 |_=>none
noncomputable def viaA(f:FE)(k:D->Option (List D)):FA:=λds=>(f ds).bind k
noncomputable def fT(lo:Int)(n:Nat):List D:=(List.range n).map λ(k:Nat)=>D.int (lo+(k:Int))
def okR(j:Int):Prop:=-(2^62)<=j/\j<2^62
noncomputable instance okRD(j:Int):Decidable (okR j):=Classical.propDecidable _
noncomputable def rng1(f:FE):FA:=λds=>(f ds).bind λd=>match d with|.int j=>if okR j then some (fT 0 j.toNat)else none|_=>none
noncomputable def zL(i:Nat):D->List Sl->Option (List Sl):=λd ds=>some (ds.set i (.v d))
noncomputable def tgNil:List D->List Sl->Option (List Sl)
 |[],ds=>some ds
 |_,_=>none
noncomputable def zM(g:D->List Sl->Option (List Sl))(h:List D->List Sl->Option (List Sl)):List D->List Sl->Option (List Sl)
 |d::r,ds=>(g d ds).bind λds'=>h r ds'
 |_,_=>none
noncomputable def tupG(n:Nat)(h:List D->List Sl->Option (List Sl)):D->List Sl->Option (List Sl)
 |.tup l,ds=>if l.length=n then h l ds else none
 |_,_=>none
noncomputable def qP(ga:D->List Sl->Option (List Sl))(body:FS):List D->List Sl->Option Out
 |[],ds=>some (.nx ds)
 |d::r,ds=>(ga d ds).bind λds1=>(body ds1).bind λo=>match o with
   |.nx ds2=>qP ga body r ds2
   |.ct ds2=>qP ga body r ds2
   |.bk ds2=>some (.nx ds2)
   |.rt r=>some (.rt r)
noncomputable def forG(fi:FA)(ga:D->List Sl->Option (List Sl))(body:FS):FS:=λds=>(fi ds).bind λitems=>qP ga body items ds
noncomputable def compL(ga:D->List Sl->Option (List Sl))(tt:FT)(fe:FE)(s0:List Sl):List D->Option (List D)
 |[]=>some []
 |d::r=>(ga d s0).bind λds1=>(tt ds1).bind λb=>if b=true then (fe ds1).bind λy=>(compL ga tt fe s0 r).map λys=>y::ys else compL ga tt fe s0 r
noncomputable def qY(mp:List (Option Nat))(ds:List Sl):List Sl:=mp.map λo=>match o with
 |some j=>(match ds[j]? with|some (.v d)=>.v d|_=>.no)
 |none=>.no
noncomputable def compG(fi:FA)(mp:List (Option Nat))(ga:D->List Sl->Option (List Sl))(tt:FT)(fe:FE):FA:=λds=>(fi ds).bind λitems=>if items.length<=sizeLine then compL ga tt fe (qY mp ds) items else none
noncomputable def tyD:D->Option String
 |.non=>some "NoneType"
 |.bl _=>some "bool"
 |.int _=>some "int"
 |.str _=>some "str"
 |.tup _=>some "tuple"
 |.lst _=>some "list"
 |.dct _ _=>some "dict"
 |.ins _ _=>none
 |.clo _ _ _=>none
 |.dcf _ _=>none
noncomputable def kitN:List String:=["NoneType","bool","int","str","tuple","list","dict"]
noncomputable def kitT:List String:=["bool","int","str","tuple","list","dict"]
noncomputable def kitF(t T:String):Option Bool:=if t∈kitN/\T∈kitT then some (t==T||(t=="bool"&&T=="int"))else none
noncomputable def isiD(T:String)(d:D):Option D:=(tyD d).bind λt=>(kitF t T).map D.bl
noncomputable def isiG(T:String)(f:FE):FE:=λds=>(f ds).bind (isiD T)
noncomputable def blsD:List D->Option (List Bool)
 |[]=>some []
 |.bl b::r=>(blsD r).map λbs=>b::bs
 |_=>none
noncomputable def allD:List D->Option D
 |[.lst l]=>(blsD l).map λbs=>.bl (bs.all id)
 |_=>none
noncomputable def strsD:List D->Option (List Str)
 |[]=>some []
 |.str b::r=>(strsD r).map λbs=>b::bs
 |_=>none
noncomputable def joinD:D->D->Option D
 |.str z,.lst l=>(strsD l).bind λts=>if z.length<=16/\(ts.map (·.length)).sum+ts.length<=1048576 then some (.str (Txt.join z ts))else none
 |_,_=>none
noncomputable def negD:D->Option D
 |.int i=>some (.int (-i))
 |_=>none
noncomputable def un1(op:D->Option D)(f:FE):FE:=λds=>(f ds).bind op
noncomputable def inS:D->D->Option D
 |.str i,.str j=>some (.bl (!(Builtin.Str.occurrences j i 0 j.length 1).isEmpty))
 |_,_=>none
noncomputable def retDG(f:FE):FS:=λds=>(f ds).map λd=>.rt (.val d)
noncomputable def runG(g:FS)(n:Nat):List D->Option Ret:=λds=>match g (args n ds)with
 |some (.rt r)=>some r
 |some (.nx _)=>some (.val .non)
 |_=>none
def CPowB(i j:Int):Prop:=0<=j/\(Builtin.Int.intBits i:Int)*j<=2^27
mutual
noncomputable def toPy:D->PyData
 |.non=>.none
 |.bl b=>.bool b
 |.int i=>.int i
 |.str x=>.str x
 |.tup ds=>.tuple (toPys ds)
 |.lst ds=>.list (toPys ds)
 |.dct _ _=>.none
 |.ins _ _=>.none
 |.clo _ _ _=>.none
 |.dcf _ _=>.none
noncomputable def toPys:List D->List PyData
 |[]=>[]
 |d::r=>toPy d::toPys r
end
mutual
noncomputable def shal:Nat->D->Bool
 |_,.non=>true
 |_,.bl _=>true
 |_,.int _=>true
 |_,.str x=>PyData.strOk x
 |n,.tup ds=>shals n ds
 |n,.lst ds=>shals n ds
 |_,.dct _ _=>false
 |_,.ins _ _=>false
 |_,.clo _ _ _=>false
 |_,.dcf _ _=>false
noncomputable def shals:Nat->List D->Bool
 |_,[]=>true
 |0,_::_=>false
 |n+1,d::r=>shal n d&&shals (n+1) r
end
noncomputable def eqvD(x y:D):Bool:=PyData.eqv (toPy x) (toPy y)
noncomputable def eqvs(x y:List D):Bool:=PyData.eqvAll (toPys x) (toPys y)
noncomputable def eqD(x y:D):Option D:=if shal 40 x=true/\shal 40 y=true then some (.bl (eqvD x y))else none
noncomputable def neD(x y:D):Option D:=if shal 40 x=true/\shal 40 y=true then some (.bl (!eqvD x y))else none
noncomputable def isD:D->D->Option D
 |.non,.non=>some (.bl true)
 |_,.non=>some (.bl false)
 |_,_=>none
noncomputable def notD:D->D->Option D
 |.non,.non=>some (.bl false)
 |_,.non=>some (.bl true)
 |_,_=>none
noncomputable def sclD:D->Bool
 |.non|.bl _|.int _|.str _=>true
 |_=>false
noncomputable def asLT:D->Option (List D)
 |.lst l=>some l
 |.tup l=>some l
 |_=>none
noncomputable def inD(neg:Bool)(x y:D):Option D:=(asLT y).bind λl=>if sclD x=true/\l.all sclD=true then some (.bl (if neg then !l.any (λz=>eqvD z x)else l.any λz=>eqvD z x))else none
noncomputable instance mulOkD(i j:Int):Decidable (eB i j):=Classical.propDecidable _
noncomputable instance powOkD(i j:Int):Decidable (CPowB i j):=Classical.propDecidable _
noncomputable def xF:D->D->Option D
 |.int i,.int j=>if eB i j then some (.int (i*j))else none
 |_,_=>none
noncomputable def powD:D->D->Option D
 |.int i,.int j=>if CPowB i j then some (.int (i^j.toNat))else none
 |_,_=>none
noncomputable def catA(fa fb:FE):FA:=λds=>(fa ds).bind λx=>(fb ds).bind λy=>match x,y with
 |.lst a,.lst b=>if a.length+b.length<=sizeLine then some (a++b)else none
 |_,_=>none
noncomputable def noP:List Sl->Option (Option Int):=λ_=>some none
noncomputable def soP(f:FE):List Sl->Option (Option Int):=λds=>(f ds).bind λd=>match d with|.int i=>some (some i)|_=>none
noncomputable def cutD(l:List D)(lo hi:Option Int):List D:=(l.drop (HT.sIx l.length 0 lo)).take (HT.sIx l.length l.length hi-HT.sIx l.length 0 lo)
noncomputable def sliA(f:FE)(lo hi:List Sl->Option (Option Int)):FA:=λds=>(f ds).bind λd=>(lo ds).bind λa=>(hi ds).bind λb=>match d with
 |.lst l=>some (cutD l a b)
 |_=>none
noncomputable def lisA(f:FE):FA:=λds=>(f ds).bind asLT
noncomputable def mxD:List D->Option D
 |[.int i,.int j]=>some (.int (if j>i then j else i))
 |_=>none
noncomputable def mnD:List D->Option D
 |[.int i,.int j]=>some (.int (if j<i then j else i))
 |_=>none
noncomputable def absD:List D->Option D
 |[.int i]=>some (.int (if i<0 then -i else i))
 |_=>none
noncomputable def truD:D->Option Bool
 |.non=>some false
 |.bl b=>some b
 |.int i=>some (i != 0)
 |.str x=>if x.length<=sizeLine then some ((x.length:Int) != 0)else none
 |.tup l=>some (!l.isEmpty)
 |.lst l=>some (!l.isEmpty)
 |_=>none
noncomputable def testT(f:FE):FT:=λds=>(f ds).bind truD
noncomputable def relS(i:Nat)(ds:List Sl):List Sl:=match ds[i]? with|some (.own l)=>ds.set i (.v (.lst l))|_=>ds
noncomputable def nD(c:FT)(b:FS):Nat->FS
 |0,_=>none
 |n+1,ds=>(c ds).bind λk=>if k=true then (b ds).bind λo=>match o with
   |.nx ds2=>nD c b n ds2
   |.ct ds2=>nD c b n ds2
   |.bk ds2=>some (.nx ds2)
   |.rt r=>some (.rt r)else some (.nx ds)
noncomputable def asgG(ga:D->List Sl->Option (List Sl))(f:FE):FS:=λds=>(f ds).bind λd=>(ga d ds).map .nx
noncomputable def extG(i:Nat)(fe:FA):FS:=λds=>match ds[i]? with
 |some (.own l)=>(fe ds).bind λd=>if l.length+d.length<=sizeLine then some (.nx (ds.set i (.own (l++d))))else none
 |_=>none
noncomputable def clrG(i:Nat):FS:=λds=>match ds[i]? with
 |some (.own l)=>some (.nx (ds.set i (.own [])))
 |_=>none
noncomputable def ltD:D->D->Option D:=cmpI λi j=>decide (i<j)
noncomputable def leD:D->D->Option D:=cmpI λi j=>decide (i<=j)
noncomputable def gtD:D->D->Option D:=cmpI λi j=>decide (j<i)
noncomputable def geD:D->D->Option D:=cmpI λi j=>decide (j<=i)
noncomputable def rng2(fa fb:FE):FA:=λds=>(fa ds).bind λx=>(fb ds).bind λy=>match x,y with
 |.int i,.int j=>if okR i/\okR j then some (fT i (j-i).toNat)else none
 |_,_=>none
noncomputable def SF(lo c:Int)(n:Nat):List D:=(List.range n).map λ(k:Nat)=>D.int (lo+(k:Int)*c)
noncomputable def aAa(i j c:Int):Nat:=if i<j then ((j-i-1)/c+1).toNat else 0
def okR3(i j c:Int):Prop:=-(2^61)<=i/\i<2^61/\-(2^61)<=j/\j<2^61/\0<c/\c<1000000
noncomputable instance okR3D(i j c:Int):Decidable (okR3 i j c):=Classical.propDecidable _
noncomputable def rng3(fa fb fc:FE):FA:=λds=>(fa ds).bind λx=>(fb ds).bind λy=>(fc ds).bind λz=>match x,y,z with
 |.int i,.int j,.int c=>if okR3 i j c then some (SF i c (aAa i j c))else none
 |_,_,_=>none
noncomputable def revA(f:FE):FA:=λds=>(f ds).bind λd=>match d with
 |.lst l=>some l.reverse
 |_=>none
noncomputable def augA(i:Nat)(f:FE):FS:=λds=>(zW i ds).bind λx=>(f ds).bind λy=>match x,y with
 |.int a,.int b=>some (.nx (ds.set i (.v (.int (a+b)))))
 |_,_=>none
noncomputable def parG(i j:Nat)(f:FA):FS:=λds=>(f ds).bind λl=>match l with
 |[a,b]=>some (.nx ((ds.set i (.v a)).set j (.v b)))
 |_=>none
noncomputable def int1D:List D->Option D
 |[.int i]=>some (.int i)
 |[.bl b]=>some (.int (if b then 1 else 0))
 |_=>none
abbrev Fun2:=D->List D->Option Ret
mutual
noncomputable def noclo:D->Bool
 |.tup ds=>nF ds
 |.lst ds=>nF ds
 |.dct _ ds=>nF ds
 |.ins _ ds=>nF ds
 |.clo _ _ _=>false
 |.dcf _ _=>false
 |_=>true
noncomputable def nF:List D->Bool
 |[]=>true
 |d::r=>noclo d&&nF r
end
noncomputable def capsA:List Nat->FA
 |[]=>λ_=>some []
 |i::r=>λds=>(zW i ds).bind λd=>(capsA r ds).map λl=>d::l
noncomputable def lamA(m n:Nat)(is:List Nat)(g:FA):FA:=λds=>(g ds).bind λl=>(capsA is ds).map λcs=>l++[.clo m n cs]
noncomputable def callW(Φ:Fun2)(i:Nat)(g:FA):FE:=λds=>(zW i ds).bind λf=>(g ds).bind λl=>(Φ f l).bind retV
noncomputable def lamR(g:FE)(caps as:List D):Option Ret:=(g ((as++caps).map Sl.v)).bind λd=>if flat d=true then some (.val d)else none
noncomputable def ncR:Ret->Bool
 |.val d=>noclo d
 |.fresh l=>nF l
 |.any d=>noclo d
 |.obj _=>false
noncomputable def ncF(F:List D->Option Ret):List D->Option Ret:=λl=>(F l).bind λr=>if ncR r=true then some r else none
open PySem PyProof.Rows L2
noncomputable def fldD(ix:List (Nat×Nat)):D->Option D
 |.ins t ds=>(ix.lookup t).bind λi=>ds[i]?
 |_=>none
noncomputable def fldG(ix:List (Nat×Nat))(f:FE):FE:=λds=>(f ds).bind (fldD ix)
noncomputable def methR(n:Nat)(cs:List Nat)(F:Nat->List D->Option Ret)(o:D)(l:List D):Option Ret:=match o with
 |.ins t es=>if t∈cs/\l.length=n then F t (.ins t es::l)else none
 |_=>none
noncomputable def methV(n:Nat)(cs:List Nat)(F:Nat->List D->Option Ret)(fo:FE)(g:FA):FE:=λds=>(fo ds).bind λo=>(g ds).bind λl=>(methR n cs F o l).bind retV
noncomputable def methF(n:Nat)(cs:List Nat)(F:Nat->List D->Option Ret)(fo:FE)(g:FA):FA:=λds=>(fo ds).bind λo=>(g ds).bind λl=>(methR n cs F o l).bind retF
noncomputable def makeG(t n:Nat)(G:List D->Option (List D))(g:FA):FE:=λds=>(g ds).bind λl=>if l.length=n/\flats l=true then (G l).map (D.ins t)else none
open PySem
noncomputable def dropG(f:FE):FS:=λds=>(f ds).map λ_=>.nx ds
def okRB(i j:Int):Prop:=-(2^61)<=i/\i<2^61/\-(2^61)<=j/\j<2^61
noncomputable instance okRBD(i j:Int):Decidable (okRB i j):=Classical.propDecidable _
noncomputable def sltW(f:FE)(lo hi:List Sl->Option (Option Int)):FE:=λds=>(f ds).bind λd=>(lo ds).bind λa=>(hi ds).bind λb=>match d with
 |.tup l=>some (.tup (cutD l a b))
 |_=>none
open PySem PyProof.Rows L2
noncomputable def lamF(n:Nat)(g:FE)(caps as:List D):Option Ret:=if as.length=n then lamR g caps as else none
noncomputable def fnF(n:Nat)(F:List D->Option Ret)(_ as:List D):Option Ret:=if as.length=n then F as else none
noncomputable def phiOf(l:List ((Nat×Nat)×(List D->List D->Option Ret))):Fun2:=λf as=>match f with
 |.clo m n caps=>(l.lookup (m,n)).bind λF=>F caps as
 |_=>none
noncomputable def rngL(fa fb:FE):FA:=λds=>(fa ds).bind λx=>(fb ds).bind λy=>match x,y with
 |.int i,.int j=>some (fT i (j-i).toNat)
 |_,_=>none
@[simp]theorem rngL_eq(fa fb:FE)(ds:List Sl):rngL fa fb ds=(fa ds).bind λx=>(fb ds).bind λy=>match x,y with
 |.int i,.int j=>some (fT i (j-i).toNat)
 |_,_=>none:=rfl
noncomputable instance mulOkSD(x:Str)(n:Int):Decidable (MulOk x n):=Classical.propDecidable _
abbrev FO:=List Sl->Option OT
abbrev FOs:=List Sl->Option (List OT)
noncomputable def getN(i:Nat):FE:=λds=>match ds[i]? with
 |some (.v d)=>some d
 |some (.own l)=>some (.lst l)
 |some (.ob _ t)=>some (otD t)
 |_=>none
noncomputable def vO(f:FE):FO:=λds=>(f ds).map OT.val
noncomputable def lO(f:FA):FO:=λds=>(f ds).map λl=>.lst (l.map OT.val)
noncomputable def nilO:FOs:=λ_=>some []
noncomputable def consO(f:FO)(g:FOs):FOs:=λds=>(f ds).bind λx=>(g ds).map λr=>x::r
noncomputable def tO(f:FOs):FO:=λds=>(f ds).bind λl=>if l.length<=sizeLine then some (.tup l)else none
noncomputable def sO(f:FOs):FO:=λds=>(f ds).bind λl=>if l.length<=sizeLine then some (.lst l)else none
noncomputable def setB(i:Nat)(f:FO):FS:=λds=>(f ds).map λt=>.nx (ds.set i (.ob none t))
mutual
noncomputable def flatO:OT->Bool
 |.val d=>flat d
 |.lst l=>iP l
 |.tup l=>iP l
 |.dct _ l=>iP l
 |.ins _ l=>iP l
noncomputable def iP:List OT->Bool
 |[]=>true
 |t::r=>flatO t&&iP r
end
noncomputable def subO:List Nat->OT->Option OT
 |[],t=>some t
 |k::p,.tup l=>(l[k]?).bind (subO p)
 |k::p,.lst l=>(l[k]?).bind (subO p)
 |k::p,.dct _ l=>(l[k]?).bind (subO p)
 |k::p,.ins _ l=>(l[k]?).bind (subO p)
 |_::_,.val _=>none
noncomputable def isL:OT->Bool
 |.lst _=>true
 |_=>false
noncomputable def putO(u:OT):List Nat->OT->OT
 |[],_=>u
 |k::p,.tup l=>.tup (l.modify k (putO u p))
 |k::p,.lst l=>.lst (l.modify k (putO u p))
 |k::p,.dct ks l=>.dct ks (l.modify k (putO u p))
 |k::p,.ins t l=>.ins t (l.modify k (putO u p))
 |_::_,.val d=>.val d
abbrev FP:=List Sl->Option (Nat×List Nat×OT)
noncomputable def varP(i:Nat):FP:=λds=>match ds[i]? with
 |some (.ob _ t)=>some (i,[],t)
 |_=>none
noncomputable def kidsI:OT->Option (List OT)
 |.tup l=>some l
 |.lst l=>some l
 |_=>none
noncomputable def ixP(k:Nat)(f:FP):FP:=λds=>(f ds).bind λq=>(kidsI q.2.2).bind λl=>(l[k]?).map λt=>(q.1,q.2.1++[k],t)
noncomputable def atP(ix:List (Nat×Nat))(f:FP):FP:=λds=>(f ds).bind λq=>match q.2.2 with
 |.ins t l=>(ix.lookup t).bind λk=>(l[k]?).map λu=>(q.1,q.2.1++[k],u)
 |_=>none
noncomputable def putP(q:Nat×List Nat×OT)(u:OT)(ds:List Sl):List Sl:=match ds[q.1]? with
 |some (.ob r t)=>ds.set q.1 (.ob r (putO u q.2.1 t))
 |_=>ds
@[simp]theorem getN_eq(i:Nat)(ds:List Sl):getN i ds=match ds[i]? with
 |some (.v d)=>some d
 |some (.own l)=>some (.lst l)
 |some (.ob _ t)=>some (otD t)
 |_=>none:=rfl
@[simp]theorem vO_eq f ds:vO f ds=(f ds).map OT.val:=rfl
@[simp]theorem lO_eq f ds:lO f ds=(f ds).map λl=>.lst (l.map OT.val):=rfl
@[simp]theorem nilO_eq ds:nilO ds=some []:=rfl
@[simp]theorem consO_eq f g ds:consO f g ds=(f ds).bind λx=>(g ds).map λr=>x::r:=rfl
@[simp]theorem tO_eq f ds:tO f ds=(f ds).bind λl=>if l.length<=sizeLine then some (.tup l)else none:=rfl
@[simp]theorem setB_eq i f ds:setB i f ds=(f ds).map λt=>.nx (ds.set i (.ob none t)):=rfl
theorem xJ:∀l,otDs (l.map OT.val)=l
 |[]=>by simp[otDs]
 |d::r=>by simp[otDs,otD,xJ r]
theorem AN:∀l,iP (l.map OT.val)=flats l
 |[]=>by simp[iP,flats]
 |d::r=>by simp[iP,flatO,flats,AN r]
noncomputable def appP(f:FP)(g:FE):FS:=λds=>(f ds).bind λq=>(g ds).bind λd=>match q.2.2 with
 |.lst l=>if l.length<sizeLine then some (.nx (putP q (.lst (l++[.val d])) ds))else none
 |_=>none
noncomputable def keyD:D->Option Key
 |.int i=>some (.inl (some i))
 |.non=>some (.inl none)
 |.str x=>some (.inr x)
 |_=>none
noncomputable def putTs(k:Key)(T:OT):List Key->List OT->List OT
 |k'::ks,t::ts=>(if k'=k then T else t)::putTs k T ks ts
 |_,ts=>ts
noncomputable def hasK(k:Key)(ks:List Key):Bool:=ks.any λk'=>decide (k'=k)
noncomputable def putKT(k:Key)(T:OT)(ks:List Key)(ts:List OT):OT:=if hasK k ks=true then .dct ks (putTs k T ks ts)else .dct (ks++[k]) (ts++[T])
noncomputable def getKD(k:Key):List Key->List D->Option D
 |k'::ks,d::ds=>if k'=k then some d else getKD k ks ds
 |_,_=>none
noncomputable def kdD:D->Option (List Key×List D)
 |.dct ks l=>some (ks,l)
 |.dcf ks l=>some (ks,l)
 |_=>none
noncomputable def dO0:FO:=λ_=>some (.dct [] [])
noncomputable def dputG(f:FP)(fk fv:FE):FS:=λds=>(fv ds).bind λd=>(f ds).bind λq=>(fk ds).bind λy=>(keyD y).bind λk=>match q.2.2 with
 |.dct ks ts=>if ks.length<sizeLine then some (.nx (putP q (putKT k (.val d) ks ts) ds))else none
 |_=>none
noncomputable def dgetG(fd fk:FE):FE:=λds=>(fd ds).bind λx=>(fk ds).bind λy=>(keyD y).bind λk=>(kdD x).bind λp=>getKD k p.1 p.2
noncomputable def dinG(fk fd:FE):FT:=λds=>(fk ds).bind λy=>(keyD y).bind λk=>(fd ds).bind λx=>(kdD x).map λp=>hasK k p.1
noncomputable def dnotG(fk fd:FE):FT:=λds=>(dinG fk fd ds).map λb=>!b
noncomputable def keyDD:Key->D
 |.inl (some i)=>.int i
 |.inl none=>.non
 |.inr x=>.str x
noncomputable def argsL(n:Nat)(T:OT)(l:List D):List Sl:=.ob (some 0) T::args (n-1) l
noncomputable def ob0:Option Sl->Option OT
 |some (.ob (some 0) T)=>some T
 |_=>none
noncomputable def lentF(g:FS)(n:Nat)(T:OT)(l:List D):Option OT:=match g (argsL n T l)with
 |some (.nx ds)=>ob0 ds[0]?
 |_=>none
noncomputable def lentG(n:Nat)(cs:List Nat)(F:Nat->OT->List D->Option OT)(f:FP)(g:FA):FS:=λds=>(f ds).bind λq=>(g ds).bind λl=>match q.2.2 with
 |.ins t ts=>if t∈cs/\l.length=n then (F t (.ins t ts) l).map λT'=>.nx (putP q T' ds)else none
 |_=>none
noncomputable def setNw(t t':Nat)(f:FP)(g:FO):FS:=λds=>(g ds).bind λT=>(f ds).bind λq=>match q.2.2 with
 |.ins c l=>if c=t/\l.length<900 then some (.nx (putP q (.ins t' (l++[T])) ds))else none
 |_=>none
noncomputable def makeO(t n m:Nat)(F:OT->List D->Option OT)(g:FA):FO:=λds=>(g ds).bind λl=>if l.length+m=n then F (.ins t []) (l++List.replicate m .non)else none
abbrev FX:=List Sl->Option (D×List Sl)
def leT(a b:Str):Prop:=¬b.cps.toList<a.cps.toList
def HN(h1:leT a b)(h2:leT b c):leT a c:=λh=>by
 rcases strKind.negTrans c.cps.toList b.cps.toList a.cps.toList (decide_eq_true h)with q|q
 . exact h2 (of_decide_eq_true q)
 . exact h1 (of_decide_eq_true q)
def XC(h:a.cps.toList<b.cps.toList):leT a b:=λq=>List.lt_irrefl _ (List.lt_trans h q)
def JT(h1:leT a b)(h2:leT b a):a=b:=by have:=List.le_antisymm (List.not_lt.mp h1) (List.not_lt.mp h2);cases a;cases b;simp[Str.mk.injEq];exact Array.toList_inj.mp this
noncomputable def insT(k:Str):List Str->List Str
 |[]=>[k]
 |a::l=>if a.cps.toList<k.cps.toList then a::insT k l else k::a::l
noncomputable def srtT(ns:List Str):List Str:=ns.foldr insT []
theorem uH k:∀l,(insT k l).Perm (k::l)
 |[]=>uX _
 |a::l=>by
   unfold insT;split
   . exact(List.Perm.cons a (uH k l)).trans (List.Perm.swap _ _ _)
   . exact uX _
theorem srtT_perm:∀ns,(srtT ns).Perm ns
 |[]=>uX _
 |k::ns=>(uH k _).trans (List.Perm.cons k (srtT_perm ns))
theorem UK k:∀l,l.Pairwise leT->(insT k l).Pairwise leT
 |[],_=>nW _ _
 |a::l,h=>by
   obtain⟨h1,h2⟩:=bH.mp h;unfold insT;split
   . rename_i hk;refine bH.mpr ⟨λb hb=>?_,UK k l h2⟩;rcases aA.mp ((uH k l).mem_iff.mp hb)with e|hb
     . rw[e];exact XC hk
     . exact h1 b hb
   . rename_i hk;refine bH.mpr ⟨λb hb=>?_,h⟩;rcases aA.mp hb with e|hb
     . rw[e];exact hk
     . exact HN hk (h1 b hb)
theorem srtT_le:∀ns,(srtT ns).Pairwise leT
 |[]=>List.Pairwise.nil
 |k::ns=>UK k _ (srtT_le ns)
theorem leT_unique:∀(l m:List Str),l.Perm m->l.Pairwise leT->m.Pairwise leT->l=m
 |[],m,hp,_,_=>(List.Perm.nil_eq hp)
 |a::l,[],hp,_,_=>by have:=hp.length_eq;simp at this
 |a::l,b::m,hp,h1,h2=>by
   obtain⟨p1,p2⟩:=bH.mp h1;obtain⟨q1,q2⟩:=bH.mp h2;have e:a=b:=by
    have ha:a∈b::m:=hp.mem_iff.mp (.head _);have hb:b∈a::l:=hp.mem_iff.mpr (.head _);rcases aA.mp ha with e|ha
    . exact e
    . rcases aA.mp hb with e|hb
      . exact e.symm
      . exact JT (p1 b hb) (q1 a ha)
   subst e;rw[leT_unique l m hp.cons_inv p2 q2]
theorem GU:∀l p,risingS p l=true->(p::l).Pairwise leT
 |[],p,_=>nW _ _
 |x::r,p,h=>by
   simp only[risingS,bJ,YW,ltCps_eq,decide_eq_false_iff_not]at h;have ih:=GU r x h.2;obtain⟨i1,i2⟩:=bH.mp ih;refine bH.mpr ⟨λb hb=>?_,ih⟩;rcases aA.mp hb with e|hb
   . rw[e];exact h.1
   . exact HN h.1 (i1 b hb)
theorem sortedS_le:∀{l:List Str},sortedS l=true->l.Pairwise leT
 |[],_=>List.Pairwise.nil
 |p::l,h=>GU l p h
noncomputable def relO(i:Nat)(ds:List Sl):List Sl:=match ds[i]? with|some (.ob _ T)=>ds.set i (.v (otD T))|_=>ds
noncomputable def flV'(d:D):Option D:=if flat d=true then some d else none
noncomputable def relVO(i:Nat)(f:FE):FE:=λds=>(f (relO i ds)).bind flV'
noncomputable def relTO(i:Nat)(c:FT):FT:=λds=>c (relO i ds)
noncomputable def valsA(f:FE):FA:=λds=>(f ds).bind λx=>match x with
 |.dcf _ l=>some l
 |_=>none
noncomputable def seeO(f:FO):FE:=λds=>(f ds).map otD
noncomputable def refO:OT->Bool
 |.lst _=>true
 |.dct _ _=>true
 |.ins _ _=>true
 |_=>false
noncomputable def seqR(g:FS)(f:FX):FX:=λds=>(g ds).bind λo=>match o with
 |.nx ds'=>f ds'
 |_=>none
noncomputable def vR(f:FE):FX:=λds=>(f ds).map λd=>(d,ds)
noncomputable def obAt(p:Nat):Option Sl->Option OT
 |some (.ob (some q) T)=>if q=p then some T else none
 |_=>none
noncomputable def lentR(g:FX)(n p:Nat)(T:OT)(l:List D):Option (D×OT):=(g ((args n l).set p (.ob (some p) T))).bind λq=>(obAt p (q.2[p]?)).map λT'=>(q.1,T')
noncomputable def hereA(g:FA):FA:=λds=>(g ds).map λl=>D.non::l
noncomputable def callR(n i:Nat)(F:OT->List D->Option (D×OT))(g:FA):FX:=λds=>(g ds).bind λl=>match ds[i]? with
 |some (.ob r T)=>if refO T=true/\l.length=n then (F T l).map λq=>(q.1,ds.set i (.ob r q.2))else none
 |_=>none
noncomputable def setR(j:Nat)(f:FX):FS:=λds=>(f ds).map λq=>.nx (q.2.set j (.v q.1))
noncomputable def oB(ga:D->List Sl->Option (List Sl))(fe:FX)(S:OT->List Sl)(p:Nat):OT->List D->Option (List D×OT)
 |T,[]=>some ([],T)
 |T,x::r=>(ga x (S T)).bind λds1=>(fe ds1).bind λq=>(obAt p (q.2[p]?)).bind λT'=>(oB ga fe S p T' r).map λz=>(q.1::z.1,z.2)
noncomputable def compR(fi:FA)(mp:List (Option Nat))(i p:Nat)(ga:D->List Sl->Option (List Sl))(fe:FX):FX:=λds=>(fi ds).bind λitems=>match ds[i]? with
 |some (.ob r T)=>if items.length<=sizeLine/\refO T=true then (oB ga fe (λT=>(qY mp ds).set p (.ob (some p) T)) p T items).map λz=>(.lst z.1,ds.set i (.ob r z.2))else none
 |_=>none
noncomputable def relGO(i:Nat)(f:FO):FO:=λds=>(f (relO i ds)).bind λT=>if flatO T=true then some T else none
noncomputable def ofO(f:FO):FE:=λds=>(f ds).map otD
open PySem
open PySem L2
noncomputable def keysA(f:FE):FA:=λds=>(f ds).bind λx=>match x with
 |.dcf ks _=>some (ks.map keyDD)
 |_=>none
noncomputable def cntT:List Str->Nat
 |[]=>0
 |x::r=>if x∈r then cntT r else cntT r+1
noncomputable def lsetE(f:FE):FE:=λds=>(f ds).bind λx=>match x with
 |.lst l=>(strsD l).bind λts=>if ts.length<1000 then some (.int (cntT ts.reverse:Nat))else none
 |_=>none
noncomputable def srtTA(f:FE):FA:=λds=>(f ds).bind λx=>match x with
 |.lst l=>(strsD l).bind λts=>if ts.length<64 then some ((srtT ts).map D.str)else none
 |_=>none
theorem cntT_le:∀l,cntT l<=l.length
 |[]=>aT _
 |x::r=>by have:=cntT_le r;unfold cntT;split<;>simp<;>omega
theorem EJ:∀l,l.Nodup->cntT l=l.length
 |[],_=>rfl
 |x::r,h=>by rw[bC]at h;unfold cntT;rw[if_neg h.1,EJ r h.2];rfl
noncomputable def dputN(f:FP)(fk:FE)(g:FO):FS:=λds=>(g ds).bind λT=>(f ds).bind λq=>(fk ds).bind λy=>(keyD y).bind λk=>match q.2.2 with
 |.dct ks ts=>if ks.length<sizeLine/\hasK k ks=false then some (.nx (putP q (.dct (ks++[k]) (ts++[T])) ds))else none
 |_=>none
noncomputable def insV(s:Option Sl):Option D:=match s with
 |some (.ob _ (.ins t [.dct ks ts]))=>some (.ins t [.dcf ks (otDs ts)])
 |_=>none
noncomputable def relGV(i:Nat)(f:FO):FO:=λds=>(insV ds[i]?).bind λd=>(f (ds.set i (.v d))).bind λT=>if flatO T=true then some T else none
open PySem PyProof.Rows L2
abbrev Fls:=List (Str×Int)
noncomputable def ixPV(j:Nat)(f:FP):FP:=λds=>match ds[j]? with
 |some (.v (.int n))=>if 0<=n then ixP n.toNat f ds else none
 |_=>none
noncomputable def lvalA(f:FE):FA:=λds=>(f ds).bind λd=>(kdD d).map λp=>p.2
noncomputable def thwS(i:Nat)(p:List Nat)(ds:List Sl):Option (List Sl):=match ds[i]? with
 |some (.ob r T)=>match subO p T with
   |some (.dct ks ts)=>some (ds.set i (.ob r (putO (.val (.dcf ks (otDs ts))) p T)))
   |_=>none
 |_=>none
noncomputable def thwT(i:Nat)(p:List Nat)(c:FT):FT:=λds=>(thwS i p ds).bind c
noncomputable def thwG(i:Nat)(p:List Nat)(f:FO):FO:=λds=>(thwS i p ds).bind λds'=>(f ds').bind λT=>if flatO T=true then some T else none
noncomputable def lentN(g:FS)(n p:Nat)(T:OT)(l:List D):Option (D×OT):=(g ((args n l).set p (.ob (some p) T))).bind λo=>match o with
 |.nx ds=>(obAt p (ds[p]?)).map λT'=>(.non,T')
 |_=>none
noncomputable def QP(i:Nat)(f:FO):FS:=λds=>(f ds).bind λT=>match T with
 |.lst ts=>if ts.all isL=true/\i<ds.length then some (.nx (ds.set i .no))else none
 |_=>none
noncomputable def ret3(i:Nat)(fa:FE)(f:FX):FS:=λds=>(fa ds).bind λda=>(f ds).bind λq=>match q.2[i]? with
 |some (.ob _ T)=>some (.rt (.any (.tup [da,q.1,otD T])))
 |_=>none
noncomputable def doP(n:Nat)(F:OT->List D->Option (D×OT))(f:FP)(g:FA):FS:=λds=>(f ds).bind λq=>(g ds).bind λl=>if refO q.2.2=true/\l.length+1=n then (F q.2.2 (.non::l)).map λz=>.nx (putP q z.2 ds)else none
end FL
namespace L2
open PySem PySem.Spec PyProof.Rows
noncomputable def isN0:aI->Bool
 |.none=>true
 |_=>false
noncomputable def keyIs:Key->aI->Bool:=λk v=>match k with
 |.inl (some n)=>aI.isInt n v
 |.inl none=>isN0 v
 |.inr x=>aI.isStrOf x v
noncomputable def keyH(w:cU):Key->Int:=λk=>match k with
 |.inl (some n)=>hashInt n
 |.inl none=>4238894112
 |.inr x=>hashStr w x
def jV(h:keyIs k v=true):(∃i t,k=Sum.inl (some i)/\v=aI.int i t)\/(∃x t,k=Sum.inr x/\v=aI.str x t)\/(k=Sum.inl none/\v=aI.none):=by
 rcases k with(_|i)|x
 . refine .inr (.inr ⟨rfl,?_⟩);cases v<;>first|rfl|cases h
 . obtain⟨t,e⟩:=aI.isInt_shape h;exact .inl ⟨i,t,rfl,e⟩
 . obtain⟨t,e⟩:=aI.isStrOf_shape h;exact .inr (.inl ⟨x,t,rfl,e⟩)
def XQ(h:Q 4238894112 {s with toks:=s.toks+1}):bP (bK prog w) A (PySem.pyHash .none) Q E s:=by
 have ht:s.TypeIs .none "NoneType":=rfl;have hv:[aI.none].any aI.onHeap=false:=rfl;refine aZ ?_;refine bV ?_;refine aZ (mS ht gJ.lookup ?_);refine aZ (mS ht gJ.lookup ?_)
 refine aZ (wpAny_callSpecialIfBoundUnlessNone?_slot ht gJ
  (wpAny_call_entry gJ ht PySem.F.entry_NoneType_hash
    (wpAny_ret_mkInt ?_) (PySem.F.args_NoneType_hash_1 _)))
 exact bV h
noncomputable def eY(prog:bY)(w:cU):PySem.KeyKind prog w Key where
 is:=keyIs
 hash:=keyH w
 inj:=λv a b ha hb=>by rcases jV ha with⟨i,t,rfl,rfl⟩|⟨x,t,rfl,rfl⟩|⟨rfl,rfl⟩<;>rcases jV hb with⟨j,u,rfl,e⟩|⟨y,u,rfl,e⟩|⟨rfl,e⟩<;>cases e<;>rfl
 byValue:=λk v h=>by rcases jV h with⟨i,t,rfl,rfl⟩|⟨x,t,rfl,rfl⟩|⟨rfl,rfl⟩<;>rfl
 pyHash:=λhv h=>by
  rcases jV hv with⟨i,t,rfl,rfl⟩|⟨x,t,rfl,rfl⟩|⟨rfl,rfl⟩
  . exact wpAny_pyHash_int h
  . exact wpAny_pyHash_str h
  . exact XQ h
 eqBool:=λhu hv h=>by
  rcases jV hu with⟨i,t,rfl,rfl⟩|⟨x,t,rfl,rfl⟩|⟨rfl,rfl⟩<;>rcases jV hv with⟨j,u,rfl,rfl⟩|⟨y,u,rfl,rfl⟩|⟨rfl,rfl⟩
  . exact wpAny_eqBool_int (by simp only[Sum.inl.injEq,Option.some.injEq]at h;exact h)
  . exact SeqAt.EqAt.int_str i t y u _ _ _ _ (by simpa using h)
  . exact SeqAt.EqAt.int_none i t _ _ _ _ (by simpa using h)
  . exact SeqAt.EqAt.str_int x t j u _ _ _ _ (by simpa using h)
  . exact wpAny_eqBool_str (by simpa using h)
  . exact SeqAt.EqAt.str_none x t _ _ _ _ (by simpa using h)
  . exact SeqAt.EqAt.none_int j u _ _ _ _ (by simpa using h)
  . exact SeqAt.EqAt.none_str y u _ _ _ _ (by simpa using h)
  . exact SeqAt.EqAt.same .none _ _ _ _ (by simpa using h)
 «strs»:=λk x t v h=>by
  rcases jV h with⟨i,u,rfl,e⟩|⟨y,u,rfl,e⟩|⟨rfl,e⟩<;>cases e
  cases v<;>rfl
inductive V where
 |non|bl (b:Bool)|int (i:Int)|str (x:Str)|byt (b:Array UInt8)|flt (b:UInt64)|ref (a:aD)|ty (n:String)
 deriving DecidableEq
noncomputable def RelV:V->aI->Prop
 |.non,u=>u=aI.none
 |.bl b,u=>u=aI.bool b
 |.int i,u=>∃t,u=aI.int i t
 |.str x,u=>∃t,u=aI.str x t
 |.byt b,u=>∃t,u=aI.bytes b t
 |.flt b,u=>∃t,u=aI.float b t
 |.ref a,u=>u=aI.ref a
 |.ty n,u=>u=aI.type n
abbrev Vals:List V->List aI->Prop:=FY RelV
theorem Vals.length(r:Vals xs us):xs.length=us.length:=FY.length r
theorem Vals.get:∀{xs:List V}{us:List aI}{i:Nat}{x:V},Vals xs us->xs[i]?=some x->∃u,us[i]?=some u/\RelV x u
 |_,_,_,_,.nil,e=>by simp at e
 |_,_,0,_,.cons r _,e=>by simp at e;subst e;exact⟨_,rfl,r⟩
 |_,_,i+1,x,.cons _ t,e=>by obtain⟨u,h1,h2⟩:=Vals.get (i:=i) (x:=x) t (by simpa using e);exact⟨u,by simpa using h1,h2⟩
theorem Vals.set(r:RelV x u):∀{xs:List V}{us:List aI} (i:Nat),Vals xs us->Vals (xs.set i x) (us.set i u)
 |_,_,_,.nil=>.nil
 |_,_,0,.cons _ t=>.cons r t
 |_,_,i+1,.cons q t=>.cons q (Vals.set r i t)
theorem Vals.append:∀{xs ys:List V}{us ws:List aI},Vals xs us->Vals ys ws->Vals (xs++ys) (us++ws)
 |_,_,_,_,.nil,s=>s
 |_,_,_,_,.cons r t,s=>.cons r (Vals.append t s)
theorem Vals.take:∀{xs:List V}{us:List aI} (n:Nat),Vals xs us->Vals (xs.take n) (us.take n)
 |_,_,0,_=>.nil
 |_,_,_+1,.nil=>.nil
 |_,_,n+1,.cons r t=>.cons r (Vals.take n t)
theorem Vals.drop:∀{xs:List V}{us:List aI} (n:Nat),Vals xs us->Vals (xs.drop n) (us.drop n)
 |_,_,0,r=>r
 |_,_,_+1,.nil=>.nil
 |_,_,n+1,.cons _ t=>Vals.drop n t
noncomputable def RelO:Option V->Option aI->Prop
 |some v,some u=>RelV v u
 |none,none=>True
 |_,_=>False
def KV{κ:Type}: List (κ×V)->List (κ×aI)->Prop:=FY λ(p:κ×V) (q:κ×aI)=>p.1=q.1/\RelV p.2 q.2
noncomputable def kV:Key->V:=λk=>match k with
 |.inl (some n)=>.int n
 |.inl none=>.non
 |.inr x=>.str x
inductive HO where
 |lst (xs:List V)
 |tup (xs:List V)
 |dK (kvs:List (Key×V))|dT (kvs:List (List Key×V))
 |set (S:Int->Bool) (n:Nat)
 |ins (C dx:aD) (fs:List (Str×V))
 |own (x:aD)
 |xd (fs:List (Str×V))
 |met (f x:aD)
 |rng (lo hi:Int)
 |frz (o:Obj) (u:HO)
 |tbl (q:Nat->Nat->Str)
 |ext (φ:Heap->Prop)
abbrev Hp:=aD->Option HO
noncomputable def upd(H:Hp)(a:aD)(o:HO):Hp:=λb=>if b=a then some o else H b
def zO:upd H a o a=some o:=by unfold upd;rw[if_pos rfl]
def upd_ne(h:b≠a):upd H a o b=H b:=by unfold upd;rw[if_neg h]
def ne_of{H:Hp}(h:H a=some o)(h':H b=some u)(d:o≠u):a≠b:=by intro e;subst e;rw[h]at h';exact d (Option.some.inj h')
def jK{H:Hp}(h:H a=some o)(h':H b=none):a≠b:=by intro e;subst e;rw[h]at h';cases h'
def TblOk(H:Hp)(q:Nat->Nat->Str)(ps:Array aI):Prop:=TriplesOk ps.toList/\∀pos v,tJ pos ps.toList=some v->∃c o u vs t,v=.ref c/\H c=some (.frz o u)/\o.data=.fields vs/\vs[1]?=some (.str (q pos.line pos.col) t)
noncomputable def Fixed:HO->Prop
 |.tup _=>True
 |.frz o _=>∃vs,o.data=.fields vs
 |_=>False
noncomputable def Fx:={u:HO // Fixed u}
section
variable(P:bY)(w:cU)
noncomputable def ObjOk(H:Hp)(h:Heap)(a:aD):HO->Prop
 |.lst xs=>xs.length<=sizeLine/\∃(its:List aI) (n:Nat),Vals xs its/\h.get? a=some {cls:=.type "list",data:=.seq its.toArray n}
 |.tup xs=>xs.length<=sizeLine/\∃its:List aI,Vals xs its/\IsTup h a its.toArray
 |.dK kvs=>kvs.length<=sizeLine/\(a==iV)=false/\∃vs,KV kvs vs/\h.DictOf (eY P w) a vs
 |.dT kvs=>kvs.length<=sizeLine/\(a==iV)=false/\∃xs:List (List Key×aD×aI),
    FY (λ(p:List Key×V) (q:List Key×aD×aI)=>p.1=q.1/\H q.2.1=some (.tup (p.1.map kV))/\RelV p.2 q.2.2) kvs xs ∧
    ∃o es ep,h.get? a=some o/\o.ExactDict/\o.data=.dict es ep/\es.toList=xs.map (entryOfKey (FQ (eY P w)))/\(xs.map (·.1)).Nodup
 |.set S n=>h.SetOf (intKind P w) a S n
 |.ins C dx fs=>H dx=some (.own a)/\fs.length<=1000/\dx≠a/\h.get? a=some (fB C dx) ∧
    ∃mA,h.Ns1 dx mA/\(∀f,RelO (fs.lookup f) (mA f))/\PySem.Within mA (fs.map (·.1))
 |.own _=>∃o,h.get? a=some o
 |.xd fs=>∃mA,h.Ns1 a mA/\∀f,RelO (fs.lookup f) (mA f)
 |.rng lo hi=>∃t u v,h.get? a=some {cls:=.type "range",data:=.fields #[.int lo t,.int hi u,.int 1 v]}
 |.frz o u=>h.get? a=some o/\ObjOk H h a u
 |.tbl q=>∃ps,h.get? a=some (mD ps)/\TblOk H q ps
 |.met f x=>h.get? a=some (PySem.W.methodObj (.ref f) (.ref x))
 |.ext φ=>φ h/\(∃o,h.get? a=some o)/\∀h1 h2:Heap,φ h1->(∀o,h1.get? a=some o->h2.get? a=some o)->φ h2
def HOk(H:Hp)(h:Heap):Prop:=∀a o,H a=some o->ObjOk P w H h a o
end
theorem ObjOk.lt(x:ObjOk P w H h a o):a<h.objs.size:=by
 cases o with
 |lst xs=>obtain⟨_,_,_,_,e⟩:=x;exact aW e
 |tup xs=>obtain⟨_,_,_,p⟩:=x;exact p.lt
 |dK kvs=>obtain⟨_,_,_,_,o,_,_,e,_⟩:=x;exact aW e
 |dT kvs=>obtain⟨_,_,_,_,o,_,_,e,_⟩:=x;exact aW e
 |set S n=>obtain⟨o,_,_,_,e,_⟩:=x;exact aW e
 |ins C dx fs=>obtain⟨_,_,_,e,_⟩:=x;exact aW e
 |own y=>obtain⟨_,e⟩:=x;exact aW e
 |xd fs=>obtain⟨_,⟨_,_,_,e,_⟩,_⟩:=x;exact aW e
 |rng lo hi=>obtain⟨_,_,_,e⟩:=x;exact aW e
 |frz ob u=>obtain⟨e,_⟩:=x;exact aW e
 |tbl q=>obtain⟨_,e,_⟩:=x;exact aW e
 |met f y=>exact aW (show h.get? a=some _ from x)
 |ext φ=>obtain⟨_,⟨_,e⟩,_⟩:=x;exact aW e
theorem FY.mapP:∀{l₁:List α}{l₂:List β},FY F l₁ l₂->(∀a b,F a b->G a b)->FY G l₁ l₂
 |_,_,.nil,_=>.nil
 |_,_,.cons r t,f=>.cons (f _ _ r) (FY.mapP t f)
def ObjOk.stay(x:ObjOk P w H h a o)(k:∀b u,(b=a\/H b=some (.own a))->h.get? b=some u->h'.get? b=some u)(ho:∀b,H b=some (.own a)->H' b=some (.own a))(ht:∀b (xs:Fx),H b=some xs.1->H' b=some xs.1):ObjOk P w H' h' a o:=by
 induction o with
 |lst xs=>obtain⟨z,its,n,r,e⟩:=x;exact⟨z,its,n,r,k _ _ (.inl rfl) e⟩
 |tup xs=>obtain⟨z,its,r,ob,e,c⟩:=x;exact⟨z,its,r,ob,k _ _ (.inl rfl) e,c⟩
 |dK kvs=>obtain⟨z,y,vs,r,ob,es,ep,e,c⟩:=x;exact⟨z,y,vs,r,ob,es,ep,k _ _ (.inl rfl) e,c⟩
 |dT kvs=>obtain⟨z,y,xs,r,ob,es,ep,e,c⟩:=x;exact⟨z,y,xs,FY.mapP r λp q z=>⟨z.1,ht _ ⟨.tup _,trivial⟩ z.2.1,z.2.2⟩,ob,es,ep,k _ _ (.inl rfl) e,c⟩
 |set S n=>obtain⟨ob,es,ep,t,e,c⟩:=x;exact⟨ob,es,ep,t,k _ _ (.inl rfl) e,c⟩
 |ins C dx fs=>obtain⟨d,z,ne,e,mA,⟨od,es,ep,e2,c⟩,r⟩:=x;exact⟨ho _ d,z,ne,k _ _ (.inl rfl) e,mA,⟨od,es,ep,k _ _ (.inr d) e2,c⟩,r⟩
 |own y=>obtain⟨ob,e⟩:=x;exact⟨ob,k _ _ (.inl rfl) e⟩
 |xd fs=>obtain⟨mA,⟨od,es,ep,e,c⟩,r⟩:=x;exact⟨mA,⟨od,es,ep,k _ _ (.inl rfl) e,c⟩,r⟩
 |rng lo hi=>obtain⟨t,u,v,e⟩:=x;exact⟨t,u,v,k _ _ (.inl rfl) e⟩
 |frz ob u ih=>obtain⟨e,q⟩:=x;exact⟨k _ _ (.inl rfl) e,ih q⟩
 |tbl q=>obtain⟨ps,e,t1,t2⟩:=x;refine⟨ps,k a _ (.inl rfl) e,t1,λpos v z=>?_⟩;obtain⟨c,o,u,vs,t,h1,h2,h3,h4⟩:=t2 pos v z;exact⟨c,o,u,vs,t,h1,ht c ⟨.frz o u,vs,h3⟩ h2,h3,h4⟩
 |met f y=>have e:=x;exact k a _ (.inl rfl) e
 |ext φ=>obtain⟨p,⟨o,e⟩,st⟩:=x;exact⟨st _ _ p λo q=>k _ _ (.inl rfl) q,⟨o,k _ _ (.inl rfl) e⟩,st⟩
theorem HOk.lt(x:HOk P w H h)(e:H a=some o):a<h.objs.size:=(x a o e).lt
def HOk.fresh(x:HOk P w H h)(e:h.objs.size<=a):H a=none:=by
 cases q:H a with
 |none=>rfl
 |some u=>exact absurd (bL (x.lt q) e) (cW _)
def HOk.kept(x:HOk P w H h)(k:∀b u,h.get? b=some u->h'.get? b=some u):HOk P w H h':=λa o e=>(x a o e).stay (λb u _ q=>k b u q) (λ_ q=>q) λ_ _ q=>q
def HOk.laid(x:HOk P w H h)(k:∀b u,h.get? b=some u->h'.get? b=some u)(hp:h.objs.size<=a)(new:ObjOk P w (upd H a o) h' a o):HOk P w (upd H a o) h':=λb u e=>by
 have hn:=x.fresh hp;by_cases hb:b=a
 . subst hb;rw[zO]at e;cases e;exact new
 . rw[upd_ne hb]at e;exact(x b u e).stay (λc v _ q=>k c v q) (λc q=>by rw[upd_ne (jK q hn)];exact q) λc xs q=>by rw[upd_ne (jK q hn)];exact q
def Rd(H:Hp)(a:aD)(u:HO):Prop:=H a=some u\/∃o,H a=some (.frz o u)
def Rd.of(h:H a=some u):Rd H a u:=.inl h
def Rd.ok(r:Rd H a u)(x:HOk P w H h):ObjOk P w H h a u:=by
 rcases r with r|⟨o,r⟩
 . exact x a u r
 . obtain⟨_,q⟩:=x a _ r;exact q
noncomputable def Mut:Option HO->Prop
 |some (.lst _)=>True
 |some (.dK _)=>True
 |some (.dT _)=>True
 |some (.set _ _)=>True
 |some (.ins _ _ _)=>True
 |some (.ext _)=>True
 |_=>False
def HOk.write(ok:HOk P w H h)(mu:Mut (H x))(he:e=x\/H e=some (.own x))(k:∀b u,b≠e->h.get? b=some u->h'.get? b=some u)(heo:∃u,h'.get? e=some u)(new:ObjOk P w (upd H x o') h' x o'):HOk P w (upd H x o') h':=λb u q=>by
 have nown:∀c y,H c=some (.own y)->c≠x:=λc y r z=>by subst z;rw[r]at mu;exact mu
 have ntup:∀c (xs:Fx),H c=some xs.1->c≠x:=λc xs r z=>by subst z;rw[r]at mu;obtain⟨u,hu⟩:=xs;cases u<;>first|exact False.elim mu|exact False.elim hu
 by_cases hb:b=x
 . subst hb;rw[zO]at q;cases q;exact new
 . rw [upd_ne hb]at q;by_cases hbe:b=e
   . have q':H b=some (.own x):=by
      rcases he with z|z
      . exact absurd (hbe.trans z) hb
      . rw[hbe];exact z
     rw[q]at q';cases q';obtain⟨v,hv⟩:=heo;exact⟨v,by rw[hbe];exact hv⟩
   . refine (ok b u q).stay (λc v hc r=>k c v ?_ r) (λc r=>by rw [upd_ne (nown c b r)];exact r) λc xs r=>by rw [upd_ne (ntup c xs r)];exact r
     rcases hc with rfl|hc
     . exact hbe
     . rintro rfl;rcases he with z|z
       . exact nown c b hc z
       . rw[hc]at z;cases z;exact hb rfl
structure Un(fs ex:List aD)(H H':Hp)(h h':Heap):Prop where
 keep:∀b o,h.get? b=some o->H b=none->b∉fs->b∉ex->h'.get? b=some o
 slot:∀b o,h.get? b=some o->H b=none->b∈fs->b∉ex->∃sl,h'.get? b=some {o with slots:=sl}
 free:∀b o,h.get? b=some o->H b=none->b∉ex->H' b=none
 there:∀b o,h.get? b=some o->b∉ex->∃o',h'.get? b=some o'
 tups:∀b xs,H b=some (.tup xs)->H' b=some (.tup xs)
 frzs:∀b o u,H b=some (.frz o u)->H' b=some (.frz o u)
 tbls:∀b ps,H b=some (.tbl ps)->H' b=some (.tbl ps)
section
variable{fs fs' ex ex':List aD}{H H1 H2:Hp}{h h1 h2 h':Heap}{a x e:aD}{o:HO}
def Un.any(u:Un fs ex H H1 h h1)(q:h.get? b=some ob)(n:H b=none)(hx:b∉ex):∃sl,h1.get? b=some {ob with slots:=sl}:=by
 by_cases hb:b∈fs
 . exact u.slot b ob q n hb hx
 . exact⟨ob.slots,u.keep b ob q n hb hx⟩
def Un.trans(a:Un fs ex H H1 h h1)(b:Un fs ex H1 H2 h1 h2):Un fs ex H H2 h h2 where
 keep:=λc ob q n hc hx=>b.keep c ob (a.keep c ob q n hc hx) (a.free c ob q n hx) hc hx
 slot:=λc ob q n hc hx=>by obtain⟨sl,e1⟩:=a.slot c ob q n hc hx;obtain⟨sl',e2⟩:=b.slot c _ e1 (a.free c ob q n hx) hc hx;exact⟨sl',e2⟩
 free:=λc ob q n hx=>by obtain⟨o',e1⟩:=a.there c ob q hx;exact b.free c o' e1 (a.free c ob q n hx) hx
 there:=λc ob q hx=>by obtain⟨o',e1⟩:=a.there c ob q hx;exact b.there c o' e1 hx
 tups:=λc xs q=>b.tups c xs (a.tups c xs q)
 frzs:=λc ob xs q=>b.frzs c ob xs (a.frzs c ob xs q)
 tbls:=λc ps q=>b.tbls c ps (a.tbls c ps q)
def Un.kept(k:∀b u,h.get? b=some u->h'.get? b=some u):Un fs ex H H h h':=
 ⟨λb ob q _ _ _=>k b ob q,λb ob q _ _ _=>⟨ob.slots,k b ob q⟩,λ_ _ _ n _=>n,λb ob q _=>⟨ob,k b ob q⟩,λ_ _ q=>q,λ_ _ _ q=>q,λ_ _ q=>q⟩
def Un.refl:Un fs ex H H h h:=Un.kept λ_ _ q=>q
def Un.laid(k:∀b u,h.get? b=some u->h'.get? b=some u)(hp:h.objs.size<=a)(hn:H a=none):Un fs ex H (upd H a o) h h' where
 keep:=λb u q _ _ _=>k b u q
 slot:=λb u q _ _ _=>⟨u.slots,k b u q⟩
 free:=λb u q n _=>by rw[upd_ne (bM (bL (aW q) hp))];exact n
 there:=λb u q _=>⟨u,k b u q⟩
 tups:=λb xs q=>by rw[upd_ne (jK q hn)];exact q
 frzs:=λb u xs q=>by rw[upd_ne (jK q hn)];exact q
 tbls:=λb ps q=>by rw[upd_ne (jK q hn)];exact q
def Un.write(mu:Mut (H x))(he:e=x\/H e=some (.own x))(k:∀b u,b≠e->h.get? b=some u->h'.get? b=some u)(heo:∃u,h'.get? e=some u):Un fs ex H (upd H x o) h h':=by
 have hx:∀b,H b=none->b≠x:=λb n z=>by subst z;rw[n]at mu;exact mu
 have hb:∀b,H b=none->b≠e:=λb n z=>by
  subst z;rcases he with r|r
  . exact hx b n r
  . rw[n]at r;cases r
 have hm:∀b u,H b=some u->¬Mut (some u)->b≠x:=λb u q nm z=>by subst z;rw[q]at mu;exact nm mu
 refine⟨λb u q n _ _=>k b u (hb b n) q,λb u q n _ _=>⟨u.slots,k b u (hb b n) q⟩,λb u q n _=>by rw[upd_ne (hx b n)];exact n,λb u q _=>?_,
  λb xs q=>by rw[upd_ne (hm b _ q λz=>z)];exact q,λb u xs q=>by rw[upd_ne (hm b _ q λz=>z)];exact q,λb ps q=>by rw[upd_ne (hm b _ q λz=>z)];exact q⟩
 by_cases hbe:b=e
 . subst hbe;exact heo
 . exact⟨u,k b u hbe q⟩
def Un.mono(u:Un fs ex H H1 h h1)(hs:∀b∈fs,b∈fs')(hx:∀b∈ex,b∈ex'):Un fs' ex' H H1 h h1:=
 ⟨λb ob q n hb he=>u.keep b ob q n (λz=>hb (hs b z)) λz=>he (hx b z),λ_ _ q n _ he=>u.any q n λz=>he (hx _ z),λb ob q n he=>u.free b ob q n λz=>he (hx b z),λb ob q he=>u.there b ob q λz=>he (hx b z),u.tups,u.frzs,u.tbls⟩
end
noncomputable def trk(h:Heap)(H:Hp):List aD:=(List.range h.objs.size).filter λa=>(H a).isSome
noncomputable def hidT(h:Heap)(H:Hp):Heap:=PySem.W.hideAll h (trk h H)
def XO h H:(hidT h H).objs.size=h.objs.size:=PySem.W.hideAll_size _ _
def NE(e:h.get? b=some o)(n:H b=none):(hidT h H).get? b=some o:=
 PySem.W.hideAll_get _ e λhm=>by have q:=(cT.mp hm).2;rw[n]at q;simp at q
def of_hidT(e:(hidT h H).get? b=some o):h.get? b=some o/\H b=none:=by
 have e':=PySem.W.of_hideAll (trk h H) e;refine⟨e',?_⟩;cases q:H b with
 |none=>rfl
 |some x=>have hm:b∈trk h H:=cT.mpr ⟨FC.mpr (aW e'),by simp[q]⟩;have z:(hidT h H).get? b=none:=PySem.W.hideAll_none (trk h H) hm;rw[z]at e;cases e
noncomputable def allNews(g h:Heap)(L:aD):List (aD×Obj):=(List.range h.objs.size).filterMap λa=>if a=L\/(g.get? a).isSome=true then none else (h.get? a).map λo=>(a,o)
noncomputable def rest(g h:Heap)(L d:aD):List (aD×Obj):=(allNews g h L).filter λp=>decide (p.1≠d)
structure Mod(K:aN)(mg:Str->Option aI)(base:Heap):Prop where
 kin:K.In base
 glob:base.Ns mainGlobals mg
 blt:∃mb,base.Ns BD mb/\∀x:Str,x≠"__name__"->mb x=eZ x
 nolimit:base.NoLimit
structure Cx where
 prog:bY
 w:cU
 K:aN
 mg:Str->Option aI
 base:Heap
 A:dP
 N:List Str
 s₀:aY
 H₀:Hp
 env:Env
 outer:List Env
 stack:List Env
 ex:List aD
 fn:Str->Bool
 calm:Bool
 pn:List (aD×Obj)
 xe:aI->aY->Prop
noncomputable def frs(l:List Env):List aD:=l.filterMap (·.frame)
noncomputable abbrev Cx.fs(X:Cx):List aD:=frs X.outer
def Vis(sc:Scope)(x:Str):Prop:=sc.names.lookup x=some .local\/sc.names.lookup x=some .cell\/sc.names.lookup x=some .free
def Loc(sc:Scope)(x:Str):Prop:=sc.names.lookup x=some .local\/sc.names.lookup x=some .cell
def Look(env:Env)(h:Heap)(m:Str->Option aI)(x:Str)(u:aI):Prop:=
 (env.kindOf x=some .local/\m x=some u)\/((env.kindOf x=some .cell\/env.kindOf x=some .free)/\∃c,env.cells.lookup x=some c/\h.IsCell c (some u))
noncomputable def makers:List Str:=["law","_law_with_itself","_law_ways","_law_way","holding","_law_any_test","_law_test","_law_turned","_law_right","wheel_run","answer_run","Bundle.crowd"]
noncomputable def DY:List Stmt->Nat->Nat->Str
 |[],_,_=>"<lambda>"
 |.FunctionDef n _ _ _ _ _ _ _ _ pos::r,l,c=>if pos.line=l/\pos.col=c then n else DY r l c
 |_::r,l,c=>DY r l c
noncomputable def meths:List (Str×Str×Str):=[("Bundle.crowd","Bundle","crowd")]
noncomputable def fnAt(K:aN)(x:Str):Option (Option aI):=match meths.lookup x with
 |none=>aQ K mainGlobals x
 |some (C,m)=>(match aQ K mainGlobals C with
   |some (some v)=>cB K v m
   |some none=>some none
   |none=>none)
noncomputable def tabM(K:aN)(x:Str):Option (aD×aD):=match fnAt K x with
 | some (some (.ref f)) => (match K.lookup f with
   |some ⟨_,_,.func fd,_⟩=>(match fd.code with
     |.ref c=>(match K.lookup c with
       |some ⟨_,_,.fields vs,_⟩=>(match (vs[11]?:Option aI)with
         |some (.ref P)=>some (c,P)
         |_=>none)
       |_=>none)
     |_=>none)
   |_=>none)
 |_=>none
def IQ{K:aN}{x:Str}(h:meths.lookup x=none):tabM K x=pO K x:=by unfold tabM fnAt pO;rw[h];rfl
noncomputable def lP(K:aN)(x:Str)(l c:Nat):Str:=match fnAt K x with
 |some (some (.ref f))=>(match K.lookup f with
   |some ⟨_,_,.func fd,_⟩=>(match fd.body with
     |.stmts b=>x++".<locals>."++DY b l c
     |_=>x)
   |_=>x)
 |_=>x
structure TabsK(K:aN)(mg:Str->Option aI)(base:Heap)(H:Hp):Prop where
 bm:∃bm ob,mg "__builtins__" = some (.ref bm)/\bm≠BD/\base.get? bm=some ob/\ob.cls=.type "module"/\ob.dict=some BD/\ob.data=.plain
 tab:∀x c P,x∈makers->tabM K x=some (c,P)->YQ base c P/\H P=some (.tbl (lP K x))
def Bsz(K:aN)(mg:Str->Option aI)(base h:Heap)(H:Hp):Prop:=base.objs.size<=h.objs.size/\TabsK K mg base H
def FreeC(X:Cx)(H:Hp)(x:Str)(c:aD):Prop:=H c=none\/(X.fn x=false/\∃o u,H c=some (.frz o u))
def FreeC.now(h:FreeC X H x c)(hf:X.fn x=true):H c=none:=h.elim id λz=>by rw[hf]at z;cases z.1
structure Cx.Ok(X:Cx):Prop where
 mod:Mod X.K X.mg X.base
 kind:X.env.scope.kind=.function
 glob:X.env.globals=mainGlobals
 blt:X.env.builtins=BD
 above:X.s₀.heap.objs.size<=X.env.locals
 inj:∀x y c,X.env.cells.lookup x=some c->X.env.cells.lookup y=some c->x=y
 has:∀x,(X.env.kindOf x=some .cell\/X.env.kindOf x=some .free)->∃c,X.env.cells.lookup x=some c
 cab:∀x c,X.fn x=true->X.env.cells.lookup x=some c->X.s₀.heap.objs.size<=c
 hd:X.calm=true->X.A.handled=none
 frames:X.A.frames=some X.stack
 stk:X.stack=X.outer\/(X.stack=X.env::X.outer/\X.env.frame=some X.env.locals)
 exf:∀b∈X.ex,b≠X.env.locals/\∀x c,X.env.cells.lookup x=some c->c≠b
 bs:∀b o,X.base.get? b=some o->X.s₀.heap.get? b=some o/\X.H₀ b=none
 bsz:Bsz X.K X.mg X.base X.s₀.heap X.H₀
 noex:∀b o,X.base.get? b=some o->b∉X.ex
 exfs:∀b∈X.ex,b∉X.fs
 funs:X.s₀.heap.FunFrames X.base X.outer
 frf:∀b∈X.fs,X.H₀ b=none
structure Inv(X:Cx)(aC:List (aD×Obj))(σ:List (Option V))(H:Hp)(s:aY):Prop where
 ok:X.Ok
 os:s.os=X.s₀.os
 bare:pZ s.gens
 base:Un X.fs X.ex X.H₀ H X.s₀.heap s.heap
 loc:∃m,s.heap.Ns X.env.locals m/\∀(i:Nat) (x:Str) (v:V),X.N[i]?=some x->σ[i]?=some (some v)->Vis X.env.scope x->∃u,RelV v u/\Look X.env s.heap m x u
 cell:∀x c,X.env.cells.lookup x=some c->∃v,s.heap.IsCell c v
 free:H X.env.locals=none
 freeC:∀x c,X.env.cells.lookup x=some c->FreeC X H x c
 pin:∀p∈X.pn++aC,s.heap.get? p.1=some p.2/\H p.1=none/\p.1≠X.env.locals/\p.1∉X.fs/\∀v,p.2.data≠.cell v
 hok:HOk X.prog X.w H s.heap
 len:σ.length=X.N.length
section
variable{X:Cx}
def Cx.Ok.nofr(ok:X.Ok)(e:X.base.get? b=some o):b∉X.fs:=λhb=>by have:=(ok.funs.mem hb).1;rw[e]at this;cases this
theorem Inv.bs(I:Inv X aC σ H s):∀b o,X.base.get? b=some o->s.heap.get? b=some o/\H b=none:=λb o e=>⟨I.base.keep b o (I.ok.bs b o e).1 (I.ok.bs b o e).2 (I.ok.nofr e) (I.ok.noex b o e),I.base.free b o (I.ok.bs b o e).1 (I.ok.bs b o e).2 (I.ok.noex b o e)⟩
def Inv.bk(I:Inv X aC σ H s):∀b o,X.base.get? b=some o->s.heap.get? b=some o:=λb o e=>(I.bs b o e).1
theorem Inv.mod(I:Inv X aC σ H s):Mod X.K X.mg X.base:=I.ok.mod
def Inv.kIn(I:Inv X aC σ H s):X.K.In s.heap:=I.ok.mod.kin.keeps I.bk
theorem Inv.lt(I:Inv X aC σ H s):X.env.locals<s.heap.objs.size:=let ⟨_,hn,_⟩:=I.loc;hn.lt
def Inv.sz(I:Inv X aC σ H s):X.s₀.heap.objs.size<=s.heap.objs.size:=cD I.ok.above (uV I.lt)
def Inv.nofs(I:Inv X aC σ H s)(h:s.heap.objs.size<=a):a∉X.fs:=λhb=>by obtain⟨_,o,ho,_⟩:=I.ok.funs.mem hb;exact absurd (bL (aW ho) (cD I.sz h)) (cW _)
def Inv.cne(I:Inv X aC σ H s):∀x c,X.env.cells.lookup x=some c->c≠X.env.locals:=λx c e z=>by obtain⟨v,o,ho,hd⟩:=I.cell x c e;obtain⟨m,⟨o',es,ep,ho',hd',_⟩,_⟩:=I.loc;rw[z,ho']at ho;cases ho;rw[hd']at hd;cases hd
theorem Inv.funs(I:Inv X aC σ H s):s.heap.FunFrames X.base X.outer:=by
 have all:∀(l:List Env),(∀b∈frs l,b∈X.fs)->X.s₀.heap.FunFrames X.base l->s.heap.FunFrames X.base l:=by
  intro l;induction l with
  |nil=>intro _ _;trivial
  |cons env r ih=>intro hs hl;obtain⟨hk,⟨L,o,hf,hn,ho,hd⟩,hr⟩:=hl;have hL:L∈X.fs:=hs L (by unfold frs;rw[mF,hf];exact aE);obtain⟨sl,e⟩:=I.base.slot L o ho (I.ok.frf L hL) hL λz=>I.ok.exfs L z hL;exact⟨hk,⟨L,_,hf,hn,e,hd⟩,ih (λb hb=>hs b (by unfold frs;rw[mF,hf];exact aH _ hb)) hr⟩
 exact all X.outer (λ_ hb=>hb) I.ok.funs
theorem Inv.stack(I:Inv X aC σ H s):s.heap.FunFrames X.base X.stack:=by
 rcases I.ok.stk with e|⟨e,hf⟩
 . rw[e];exact I.funs
 . rw[e];obtain⟨m,hn,_⟩:=I.loc;refine .cons (by rw[I.ok.kind];decide) hf hn ?_ I.funs;exact Heap.get?_none_of_le (cD I.ok.bsz.1 I.ok.above)
def Inv.stkSub(I:Inv X aC σ H s):∀b∈frs X.stack,b∈X.env.locals::X.fs:=λb hb=>by
 rcases I.ok.stk with e|⟨e,hf⟩
 . rw[e]at hb;exact aH _ hb
 . rw[e]at hb;unfold frs at hb;rw[mF,hf]at hb;exact hb
def Inv.stkFree(I:Inv X aC σ H s):∀b∈frs X.stack,H b=none:=λb hb=>by
 rcases aA.mp (I.stkSub b hb)with e|hb
 . rw[e];exact I.free
 . obtain⟨_,o,ho,_⟩:=I.ok.funs.mem hb;exact I.base.free b o ho (I.ok.frf b hb) λz=>I.ok.exfs b z hb
def Inv.step{ch:List aD}(I:Inv X aC σ H s)(hch:∀b∈ch,(b∈X.ex\/X.s₀.heap.objs.size<=b)/\b≠X.env.locals/\(∀x c,X.env.cells.lookup x=some c->c≠b)/\∀p∈X.pn++aC,p.1≠b)(keep:∀b o,b≠X.env.locals->b∉X.fs->b∉ch->s.heap.get? b=some o->H b=none->h'.get? b=some o)(slot:∀b o,b≠X.env.locals->b∈X.fs->b∉ch->s.heap.get? b=some o->H b=none->∃sl,h'.get? b=some {o with slots:=sl})(free:∀b o,b∉ch->s.heap.get? b=some o->H b=none->H' b=none)(there:∀b o,b∉ch->s.heap.get? b=some o->∃o',h'.get? b=some o')(tups:∀b xs,H b=some (.tup xs)->H' b=some (.tup xs))(frzs:∀b o u,H b=some (.frz o u)->H' b=some (.frz o u))(tbls:∀b ps,H b=some (.tbl ps)->H' b=some (.tbl ps))(ns:∀m,s.heap.Ns X.env.locals m->h'.Ns X.env.locals m)(hok:HOk X.prog X.w H' h')(hg:pZ g') :
  Inv X aC σ H' {s with heap:=h',gens:=g',drawn:=d',toks:=t'}:=by
 have neL:∀b o,X.s₀.heap.get? b=some o->b≠X.env.locals:=λb o e=>bM (bL (aW e) I.ok.above);have neC:∀b o,X.s₀.heap.get? b=some o->b∉X.ex->b∉ch:=λb o e hx hb=>by
  rcases(hch b hb).1 with z|z
  . exact hx z
  . exact absurd (bL (aW e) z) (cW _)
 have cellK:∀x c,X.env.cells.lookup x=some c->∀v,s.heap.IsCell c v->h'.IsCell c v:=λx c e v ⟨o,ho,hd⟩=>by
  have nch:=λz=>(hch c z).2.2.1 x c e rfl;rcases I.freeC x c e with fr|⟨_,of,uf,fr⟩
  . by_cases hc:c∈X.fs
    . obtain⟨sl,q⟩:=slot c o (I.cne x c e) hc nch ho fr;exact⟨_,q,hd⟩
    . exact⟨o,keep c o (I.cne x c e) hc nch ho fr,hd⟩
  . obtain⟨e1,_⟩:=I.hok c _ fr;obtain⟨e2,_⟩:=hok c _ (frzs c of uf fr);rw[ho]at e1;cases e1;exact⟨o,e2,hd⟩
 refine⟨I.ok,I.os,hg,⟨λb o e n hb hx=>?_,λb o e n hb hx=>?_,λb o e n hx=>?_,λb o e hx=>?_,λb xs e=>tups b xs (I.base.tups b xs e),λb o xs e=>frzs b o xs (I.base.frzs b o xs e),λb ps e=>?_⟩,?_,λx c e=>?_,?_,λx c e=>?_,λp hp=>?_,hok,I.len⟩
 . exact keep b o (neL b o e) hb (neC b o e hx) (I.base.keep b o e n hb hx) (I.base.free b o e n hx)
 . obtain⟨sl,e1⟩:=I.base.slot b o e n hb hx;obtain⟨sl',e2⟩:=slot b _ (neL b o e) hb (neC b o e hx) e1 (I.base.free b o e n hx);exact⟨sl',e2⟩
 . obtain⟨o',e1⟩:=I.base.there b o e hx;exact free b o' (neC b o e hx) e1 (I.base.free b o e n hx)
 . obtain⟨o',e1⟩:=I.base.there b o e hx;exact there b o' (neC b o e hx) e1
 . exact tbls b ps (I.base.tbls b ps e)
 . obtain ⟨m,hn,hl⟩:=I.loc;refine ⟨m,ns m hn,λi x v e1 e2 e3=>?_⟩;obtain ⟨u,r,l⟩:=hl i x v e1 e2 e3;refine ⟨u,r,?_⟩;rcases l with l|⟨k,c,e,z⟩
   . exact .inl l
   . exact .inr ⟨k,c,e,cellK x c e _ z⟩
 . obtain⟨v,z⟩:=I.cell x c e;exact⟨v,cellK x c e v z⟩
 . obtain⟨m,⟨o,_,_,ho,_⟩,_⟩:=I.loc;exact free _ o (λz=>(hch _ z).2.1 rfl) ho I.free
 . obtain⟨v,o,ho,hd⟩:=I.cell x c e;exact(I.freeC x c e).elim (λfr=>.inl (free c o (λz=>(hch c z).2.2.1 x c e rfl) ho fr)) λ⟨h1,of,uf,fr⟩=>.inr ⟨h1,of,uf,frzs c of uf fr⟩
 . obtain⟨e,n,ne,nf,d⟩:=I.pin p hp;have nch:=λz=>(hch p.1 z).2.2.2 p hp rfl;exact⟨keep p.1 p.2 ne nf nch e n,free p.1 p.2 nch e n,ne,nf,d⟩
def Inv.un(I:Inv X aC σ H s)(u:Un X.fs [] H H' s.heap h')(hok:HOk X.prog X.w H' h'):Inv X aC σ H' {s with heap:=h',toks:=t'}:=by
 obtain⟨m,⟨o,es,ep,ho,r⟩,_⟩:=id I.loc;obtain⟨sl,hL⟩:=u.any ho I.free (by simp);exact I.step (ch:=[]) (λ_ z=>nomatch z) (λb o _ hb _ e n=>u.keep b o e n hb (by simp)) (λb o _ hb _ e n=>u.slot b o e n hb (by simp)) (λb o _ e n=>u.free b o e n (by simp)) (λb o _ e=>u.there b o e (by simp)) u.tups u.frzs u.tbls (λm' hm=>by
  obtain⟨o',es',ep',ho',r'⟩:=hm;rw[ho]at ho';cases ho'
  exact⟨_,es',ep',hL,r'⟩) hok I.bare
def Inv.call(I:Inv X aC σ H s)(u:Un (frs X.stack) ch H H' s.heap h')(hok:HOk X.prog X.w H' h')(hg:pZ g')(hch:∀b∈ch,(b∈X.ex\/X.s₀.heap.objs.size<=b)/\b≠X.env.locals/\(∀x c,X.env.cells.lookup x=some c->c≠b)/\∀p∈X.pn++aC,p.1≠b) :
  Inv X aC σ H' {s with heap:=h',gens:=g',drawn:=d',toks:=t'}:=by
 obtain⟨m,⟨o,es,ep,ho,r⟩,_⟩:=id I.loc;obtain⟨sl,hL⟩:=u.any ho I.free λz=>(hch _ z).2.1 rfl;exact I.step hch (λb o hL hb hc e n=>u.keep b o e n (λz=>(aA.mp (I.stkSub b z)).elim hL hb) hc) (λb o _ _ hc e n=>u.any e n hc) (λb o hc e n=>u.free b o e n hc) (λb o hc e=>u.there b o e hc) u.tups u.frzs u.tbls (λm' hm=>by
  obtain⟨o',es',ep',ho',r'⟩:=hm;rw[ho]at ho';cases ho'
  exact⟨_,es',ep',hL,r'⟩) hok hg
def Inv.turned(I:Inv X aC σ H s)(k:∀b o,b≠it->s.heap.get? b=some o->h'.get? b=some o)(hn:H it=none)(hL:it≠X.env.locals)(h1:it∈X.ex\/X.s₀.heap.objs.size<=it)(h2:∀x c,X.env.cells.lookup x=some c->c≠it)(h3:∀p∈X.pn++aC,p.1≠it):Inv X aC σ H {s with heap:=h',toks:=t'}:=by
 have nit:∀b u,H b=some u->b≠it:=λb u e z=>by rw[z,hn]at e;cases e
 refine I.step (ch:=[it]) (λb hb=>?_) (λb o _ _ hc e _=>k b o (λz=>hc (by simp[z])) e) (λb o _ _ hc e _=>⟨o.slots,k b o (λz=>hc (by simp[z])) e⟩) (λ_ _ _ _ n=>n)
  (λb o hc e=>⟨o,k b o (λz=>hc (by simp[z])) e⟩) (λ_ _ e=>e) (λ_ _ _ e=>e) (λ_ _ e=>e) (λm hm=>?_) (λb u e=>?_) I.bare
 . have e:b=it:=by simpa using hb
   subst e;exact⟨h1,hL,h2,h3⟩
 . obtain⟨o,es,ep,ho,r⟩:=hm;exact⟨o,es,ep,k _ o (Ne.symm hL) ho,r⟩
 . refine (I.hok b u e).stay (λc v hc q=>k c v ?_ q) (λ_ q=>q) λ_ _ q=>q;rcases hc with z|z
   . rw[z];exact nit b u e
   . exact nit c _ z
def Inv.tok(I:Inv X aC σ H s) t:Inv X aC σ H {s with toks:=t}:=I.un (h':=s.heap) (t':=t) Un.refl I.hok
theorem Inv.kept(I:Inv X aC σ H s)(k:∀b u,s.heap.get? b=some u->h'.get? b=some u):Inv X aC σ H {s with heap:=h',toks:=t'}:=I.un (Un.kept k) (I.hok.kept k)
theorem Inv.laid(I:Inv X aC σ H s)(k:∀b u,s.heap.get? b=some u->h'.get? b=some u)(hp:s.heap.objs.size<=a)(new:ObjOk X.prog X.w (upd H a o) h' a o) :
  Inv X aC σ (upd H a o) {s with heap:=h',toks:=t'}:=I.un (Un.laid k hp (I.hok.fresh hp)) (I.hok.laid k hp new)
theorem Inv.write(I:Inv X aC σ H s)(mu:Mut (H x))(he:e=x\/H e=some (.own x))(k:∀b u,b≠e->s.heap.get? b=some u->h'.get? b=some u)(heo:∃u,h'.get? e=some u)(new:ObjOk X.prog X.w (upd H x o) h' x o):Inv X aC σ (upd H x o) {s with heap:=h',toks:=t'}:=I.un (Un.write mu he k heo) (I.hok.write mu he k heo new)
def Inv.pins_of(I:Inv X aC σ H s)(h:∀p∈pins',s.heap.get? p.1=some p.2/\H p.1=none/\p.1≠X.env.locals/\p.1∉X.fs/\∀v,p.2.data≠.cell v):Inv X pins' σ H s:=
 ⟨I.ok,I.os,I.bare,I.base,I.loc,I.cell,I.free,I.freeC,λp hp=>(bQ.mp hp).elim (λz=>I.pin p (bB _ z)) (h p),I.hok,I.len⟩
def MV{N:List Str}(hN:N.Nodup){i j:Nat}(a:N[i]?=some x)(b:N[j]?=some x):i=j:=by obtain⟨h1,e1⟩:=aV.mp a;obtain⟨h2,e2⟩:=aV.mp b;exact(List.getElem_inj hN).mp (e1.trans e2.symm)
def VW(I:Inv X aC σ H s)(hN:X.N.Nodup)(hi:X.N[i]?=some x)(hx:Loc X.env.scope x)(r:RelV v u)(h:∀s',Inv X aC (σ.set i (some v)) H s'->(∃a,Heap.SameBut a s.heap s'.heap/\(a=X.env.locals\/X.env.cells.lookup x=some a))->Q () s')(hf:X.fn x=true\/X.env.scope.names.lookup x=some .local:=by first | exact .inl rfl | exact .inr rfl | assumption):bP M A (storeName X.env x u) Q E s:=by
 obtain⟨m,hn,hl⟩:=id I.loc;have hcls:(X.env.scope.kind==.class||(X.env.scope.kind==.module&&X.env.locals != X.env.globals))=false:=by rw[I.ok.kind];rfl
 have hiσ:i<σ.length:=by rw[I.len];exact(aV.mp hi).1
 have cne:=I.cne;have tracked:∀{a:aD}{h':Heap},(∃o,s.heap.get? a=some o/\H a=none)->Heap.SameBut a s.heap h'->HOk X.prog X.w H h':=λ{a h'} ha hs b ob e=>by
  obtain⟨_,_,hfree⟩:=ha;refine(I.hok b ob e).stay (λc w' hc q=>(hs.2 c ?_).trans q) (λ_ q=>q) λ_ _ q=>q;rintro rfl;rcases hc with rfl|hc
  . rw[hfree]at e;cases e
  . rw[hfree]at hc;cases hc
 rcases hx with hk|hk
 . refine wpAny_storeName_local hk hn (λh' hn' hs=>?_) hcls;obtain ⟨oL,_,_,hoL,_⟩:=id hn;refine h _ ⟨I.ok,I.os,I.bare,⟨λb o e n hb hx=>?_,λb o e n hb hx=>?_,I.base.free,λb o e hx=>?_,I.base.tups,I.base.frzs,I.base.tbls⟩,⟨_,hn',λj y v' e1 e2 e3=>?_⟩,λy c e=>?_,I.free,I.freeC,λp hp=>?_,tracked ⟨oL,hoL,I.free⟩ hs,by simpa using I.len⟩ ⟨_,hs,.inl rfl⟩
   . exact(hs.2 b (bM (bL (aW e) I.ok.above))).trans (I.base.keep b o e n hb hx)
   . obtain⟨sl,e1⟩:=I.base.slot b o e n hb hx;exact⟨sl,(hs.2 b (bM (bL (aW e) I.ok.above))).trans e1⟩
   . obtain⟨o',e1⟩:=I.base.there b o e hx;exact⟨o',(hs.2 b (bM (bL (aW e) I.ok.above))).trans e1⟩
   . by_cases hj:j=i
     . subst hj;rw[hi]at e1;cases e1;rw[aM hiσ]at e2;cases e2;exact⟨u,r,.inl ⟨hk,by simp⟩⟩
     . rw [aB (Ne.symm hj)]at e2;obtain ⟨u',r',q⟩:=hl j y v' e1 e2 e3;refine ⟨u',r',?_⟩;rcases q with ⟨k,e⟩|⟨k,c,e,z⟩
       . refine .inl ⟨k,?_⟩;have:y≠x:=λe=>hj (MV hN e1 (e▸hi));simp[this,e]
       . exact .inr ⟨k,c,e,z.sameBut hs (cne y c e)⟩
   . obtain⟨w',z⟩:=I.cell y c e;exact⟨w',z.sameBut hs (cne y c e)⟩
   . obtain⟨e,n,ne,nf,d⟩:=I.pin p hp;exact⟨(hs.2 p.1 ne).trans e,n,ne,nf,d⟩
 . have hfn:X.fn x=true:=by
    rcases hf with z|z
    . exact z
    . rw[z]at hk;cases hk
   obtain⟨c,hc⟩:=I.ok.has x (.inl hk);obtain⟨w',z⟩:=I.cell x c hc;refine wpAny_storeName_cell I.ok.kind hk hc z (λh' hc' hs=>?_);obtain⟨oc,hoc,hocd⟩:=id z;refine h {s with heap:=h'} ⟨I.ok,I.os,I.bare,⟨λb o e n hb hx=>?_,λb o e n hb hx=>?_,I.base.free,λb o e hx=>?_,I.base.tups,I.base.frzs,I.base.tbls⟩,⟨m,hn.sameBut hs (Ne.symm (cne x c hc)),λj y v' e1 e2 e3=>?_⟩,λy c' e=>?_,I.free,I.freeC,λp hp=>?_,tracked ⟨oc,hoc,(I.freeC x c hc).now hfn⟩ hs,by simpa using I.len⟩ ⟨c,hs,.inr hc⟩
   . exact(hs.2 b (bM (bL (aW e) (I.ok.cab x c hfn hc)))).trans (I.base.keep b o e n hb hx)
   . obtain⟨sl,e1⟩:=I.base.slot b o e n hb hx;exact⟨sl,(hs.2 b (bM (bL (aW e) (I.ok.cab x c hfn hc)))).trans e1⟩
   . obtain⟨o',e1⟩:=I.base.there b o e hx;exact⟨o',(hs.2 b (bM (bL (aW e) (I.ok.cab x c hfn hc)))).trans e1⟩
   . by_cases hj:j=i
     . subst hj;rw[hi]at e1;cases e1;rw[aM hiσ]at e2;cases e2;exact⟨u,r,.inr ⟨.inl hk,c,hc,hc'⟩⟩
     . rw [aB (Ne.symm hj)]at e2;obtain ⟨u',r',q⟩:=hl j y v' e1 e2 e3;refine ⟨u',r',?_⟩;rcases q with q|⟨k,c',e,z'⟩
       . exact .inl q
       . refine .inr ⟨k,c',e,z'.sameBut hs ?_⟩;rintro rfl;exact hj (MV hN e1 (I.ok.inj _ _ _ e hc▸hi))
   . by_cases hcc:c'=c
     . subst hcc;exact⟨_,hc'⟩
     . obtain⟨w2,z2⟩:=I.cell y c' e;exact⟨w2,z2.sameBut hs hcc⟩
   . obtain⟨e,n,ne,nf,d⟩:=I.pin p hp;refine⟨(hs.2 p.1 ?_).trans e,n,ne,nf,d⟩;intro q;rw[q,hoc]at e;have q':=Option.some.inj e;exact d w' (by rw[<-q'];exact hocd)
def CM(I:Inv X aC σ H s)(hN:X.N.Nodup)(hi:X.N[i]?=some x)(hx:Loc X.env.scope x)(r:RelV v u)(h:∀s',Inv X aC (σ.set i (some v)) H s'->Q () s')(hf:X.fn x=true\/X.env.scope.names.lookup x=some .local:=by first|exact .inl rfl|exact .inr rfl|assumption):bP M A (storeName X.env x u) Q E s:=
 VW I hN hi hx r (λs' I' _=>h s' I') hf
def Inv.call'(I:Inv X aC σ H s)(ho:s'.os=s.os)(u:Un (frs X.stack) ch H H' s.heap s'.heap)(hok:HOk X.prog X.w H' s'.heap)(hg:pZ s'.gens)(hch:∀b∈ch,(b∈X.ex\/X.s₀.heap.objs.size<=b)/\b≠X.env.locals/\(∀x c,X.env.cells.lookup x=some c->c≠b)/\∀p∈X.pn++aC,p.1≠b):Inv X aC σ H' s':=by obtain⟨h',g',d',t',o'⟩:=s';have e:=ho;subst e;exact I.call u hok hg hch
end
abbrev XK:=aI->Option aD->Hp->Prop
abbrev St:=List (Option V)
abbrev VK:=V->Hp->Prop
abbrev TE:=St->Hp->VK->Prop
abbrev TT:=St->Hp->(Bool->Hp->Prop)->Prop
abbrev TA:=St->Hp->(List V->Hp->Prop)->Prop
structure Ends where
 nx:St->Hp->Prop
 rt:VK
 bk:St->Hp->Prop:=λ_ _=>False
 ct:St->Hp->Prop:=λ_ _=>False
abbrev TS:=Ends->St->Hp->Prop
def EP(X:Cx)(aC:List (aD×Obj))(σ:St)(Q:VK)(u:aI)(s':aY):Prop:=∃v H',Inv X aC σ H' s'/\RelV v u/\Q v H'
def TP(X:Cx)(aC:List (aD×Obj))(σ:St)(Q:Bool->Hp->Prop)(b:Bool)(s':aY):Prop:=∃H',Inv X aC σ H' s'/\Q b H'
def AP(X:Cx)(aC:List (aD×Obj))(σ:St)(Q:List V->Hp->Prop)(us:List aI)(s':aY):Prop:=∃vs H',Inv X aC σ H' s'/\Vals vs us/\Q vs H'
def SP(X:Cx)(aC:List (aD×Obj))(D:Ends)(f:Flow)(s':aY):Prop:=
 match f with
 |.next=>∃σ' H',Inv X aC σ' H' s'/\D.nx σ' H'
 |.brk=>∃σ' H',Inv X aC σ' H' s'/\D.bk σ' H'
 |.cont=>∃σ' H',Inv X aC σ' H' s'/\D.ct σ' H'
 |.ret u=>∃v σ' H',Inv X aC σ' H' s'/\RelV v u/\D.rt v H'
def PE(X:Cx)(e:Expr)(t:TE):Prop:=
 ∀(aC:List (aD×Obj)) (s:aY) (σ:St) (H:Hp) (Q:VK),Inv X aC σ H s->t σ H Q->bP (bK X.prog X.w) X.A (bU e X.env) (EP X aC σ Q) X.xe s
def PT(X:Cx)(e:Expr)(t:TT):Prop:=
 ∀(aC:List (aD×Obj)) (s:aY) (σ:St) (H:Hp) (Q:Bool->Hp->Prop),Inv X aC σ H s->t σ H Q->bP (bK X.prog X.w) X.A (FV e X.env (bU e X.env)) (TP X aC σ Q) X.xe s
def PW(X:Cx)(e:Expr)(t:TT):Prop:=
 ∀(whole:Sem aI) (aC:List (aD×Obj)) (s:aY) (σ:St) (H:Hp) (Q:Bool->Hp->Prop),Inv X aC σ H s->t σ H Q->bP (bK X.prog X.w) X.A (FV e X.env whole) (TP X aC σ Q) X.xe s
def PW.pt(h:PW X e t):PT X e t:=h _
def PA(X:Cx)(es:List Expr)(t:TA):Prop:=
 ∀(pos:Pos) (aC:List (aD×Obj)) (s:aY) (σ:St) (H:Hp) (Q:List V->Hp->Prop),Inv X aC σ H s->t σ H Q->bP (bK X.prog X.w) X.A (spliced (cY pos (aF es X.env))) (AP X aC σ Q) X.xe s
def PS(X:Cx)(st:Stmt)(t:TS):Prop:=
 ∀(aC:List (aD×Obj)) (s:aY) (σ:St) (H:Hp) (D:Ends),Inv X aC σ H s->t D σ H->bP (bK X.prog X.w) X.A (exec st X.env) (SP X aC D) X.xe s
def PSs(X:Cx)(st:List Stmt)(t:TS):Prop:=
 ∀(aC:List (aD×Obj)) (s:aY) (σ:St) (H:Hp) (D:Ends),Inv X aC σ H s->t D σ H->bP (bK X.prog X.w) X.A (execs st X.env) (SP X aC D) X.xe s
def thn(h:bP M A t Q E s)(hQ:∀a s,Q a s->Q' a s):bP M A t Q' E s:=eN h hQ λ_ _ x=>x
section
variable{X:Cx}
def tVar(i:Nat):TE:=λσ H Q=>∃v,σ[i]?=some (some v)/\Q v H
def tC(v:V):TE:=λ_ H Q=>Q v H
def xC(hN:X.N[i]?=some x)(hv:Vis X.env.scope x)(hd:(x==("__debug__" : Str))=false:=by decide)(hcd:(x==("__classdict__" : Str))=false:=by decide):PE X (.Name x pos) (tVar i):=by
 intro aC s σ H Q I h;obtain⟨v,e,h⟩:=h;obtain⟨m,hn,hl⟩:=I.loc;obtain⟨u,r,l⟩:=hl i x v hN e hv;have fin:EP X aC σ Q u s:=⟨v,H,I,r,h⟩
 rcases l with⟨hk,hm⟩|⟨hk,c,hc,hcell⟩
 . exact wpAny_Name (wpAny_loadName_local I.ok.kind hk hn hm fin) hd
 . rcases hk with hk|hk
   . exact wpAny_Name (wpAny_loadName_cell I.ok.kind hk hc hcell fin) hd
   . exact wpAny_Name (wpAny_loadName_free I.ok.kind hk hc hcell fin hcd) hd
def pe_int{i j pos}: PE X (.Constant (.int i) j pos) (tC (.int i)):=λ_ _ _ H _ I h=>wpAny_Constant_int ⟨.int i,H,I.tok _,⟨_,rfl⟩,h⟩
def pe_bl{b j pos}: PE X (.Constant (.bool b) j pos) (tC (.bl b)):=λ_ _ _ H _ I h=>Constant_bool ⟨.bl b,H,I,rfl,h⟩
def pe_non{j pos}: PE X (.Constant .none j pos) (tC .non):=λ_ _ _ H _ I h=>Constant_none ⟨.non,H,I,rfl,h⟩
def pe_str{x j pos}: PE X (.Constant (.str x) j pos) (tC (.str x)):=λ_ _ _ H _ I h=>Calls.Constant_str ⟨.str x,H,I.tok _,⟨_,rfl⟩,h⟩
def Gl(X:Cx)(x:Str):Prop:=X.env.kindOf x=some .globalImplicit
def BP(I:Inv X aC σ H s)(hg:Gl X x)(hm:X.mg x=some u)(h:Q u s)(hd:(x==("__debug__" : Str))=false:=by decide):bP (bK X.prog X.w) X.A (bU (.Name x pos) X.env) Q E s:=
 Calls.Name_function_global I.ok.kind hg (Calls.loadGlobal_global (by rw[I.ok.glob];exact I.mod.glob.keeps I.bk) hm h) hd
def vS(I:Inv X aC σ H s)(hg:Gl X x)(hm:X.mg x=none)(hv:eZ x=some u)(h:Q u s)(hn:x≠"__name__":=by decide)(hd:(x==("__debug__" : Str))=false:=by decide):bP (bK X.prog X.w) X.A (bU (.Name x pos) X.env) Q E s:=by obtain⟨mb,h1,h2⟩:=I.mod.blt;exact Calls.Name_function_global I.ok.kind hg (Calls.loadGlobal_builtin (by rw[I.ok.glob];exact I.mod.glob.keeps I.bk) hm (by rw[I.ok.blt];exact h1.keeps I.bk) ((h2 x hn).trans hv) h) hd
def TL(hg:Gl X x)(hm:X.mg x=some u)(r:RelV v u)(hd:(x==("__debug__" : Str))=false:=by decide):PE X (.Name x pos) (tC v):=
 λ_ _ _ H _ I h=>BP I hg hm ⟨v,H,I,r,h⟩ hd
def pe_bltn(hg:Gl X x)(hm:X.mg x=none)(hv:eZ x=some u)(r:RelV v u)(hn:x≠"__name__":=by decide)(hd:(x==("__debug__" : Str))=false:=by decide):PE X (.Name x pos) (tC v):=
 λ_ _ _ H _ I h=>vS I hg hm hv ⟨v,H,I,r,h⟩ hn hd
variable{a b:Expr}{ta tb:TE}
def PC(X:Cx)(op:CmpOp)(a b:Expr)(t:TE):Prop:=
 ∀(aC:List (aD×Obj)) (s:aY) (σ:St) (H:Hp) (Q:VK),Inv X aC σ H s->t σ H Q →
  bP (bK X.prog X.w) X.A (bU a X.env) (λv s₁=>bP (bK X.prog X.w) X.A (bU b X.env) (λu s₂=>bP (bK X.prog X.w) X.A (dS op v u) (EP X aC σ Q) X.xe s₂) X.xe s₁) X.xe s
def aCh b(h:op≠.In)(h2:op≠.NotIn):dH op b=false:=by
 have e1:(op==CmpOp.In)=false:=by cases op<;>first|rfl|exact absurd rfl h
 have e2:(op==CmpOp.NotIn)=false:=by cases op<;>first|rfl|exact absurd rfl h2
 cases b<;>simp[dH,e1,e2]
def tB(t:TE):TT:=λσ H Q=>t σ H λx H1=>∃c,x=.bl c/\Q c H1
def pt_cmp(h:PC X op a b t)(h1:dH op b=false:=by first|exact aCh _ (by decide) (by decide)|rfl):PT X (.Compare a [op] [b] pos) (tB t):=by intro aC s σ H Q I hw;refine wpAny_isTrue_Compare1 (thn (h aC s σ H _ I hw) λv s1 h1=>thn h1 λu s2 h2=>thn h2 λc s3 zq=>?_) h1;obtain⟨x,H1,I1,r1,q1⟩:=zq;obtain⟨d,rfl,q⟩:=q1;cases r1;exact fU ⟨H1,I1,q⟩
def pt_val(h:PE X e t)(he:∀whole,FV e X.env whole=(do let v <- whole;lD e.pos;gC [v] (truthy v)):=by intro _;rfl):PT X e (tB t):=by intro aC s σ H Q I hw;refine isTrue_plain (thn (h aC s σ H _ I hw) λv s1 zq=>?_) (he _);obtain⟨x,H1,I1,r1,q1⟩:=zq;obtain⟨d,rfl,q⟩:=q1;cases r1;exact fU ⟨H1,I1,q⟩
variable{rest:List Expr}
def tAnd(t u:TT):TT:=λσ H Q=>t σ H λc H1=>if c=true then u σ H1 Q else Q false H1
def tOr(t u:TT):TT:=λσ H Q=>t σ H λc H1=>if c=true then Q true H1 else u σ H1 Q
def tNot(t:TT):TT:=λσ H Q=>t σ H λc H1=>Q (!c) H1
def pw_and1(ha:PT X a tA):PW X (.BoolOp .And [a] pos) tA:=by
 intro wh aC s σ H Q I h;refine isTrue_and (thn (ha aC s σ H Q I h) λc s1 e=>?_);cases c with
 |true=>exact isTrue_and_nil e
 |false=>exact e
def pw_or1(ha:PT X a tA):PW X (.BoolOp .Or [a] pos) tA:=by
 intro wh aC s σ H Q I h;refine isTrue_or (thn (ha aC s σ H Q I h) λc s1 e=>?_);cases c with
 |false=>exact isTrue_or_nil e
 |true=>exact e
def pw_and(ha:PT X a tA)(hb:PW X (.BoolOp .And (b::rest) pos) tB'):PW X (.BoolOp .And (a::b::rest) pos) (tAnd tA tB'):=by
 intro wh aC s σ H Q I h;refine isTrue_and (thn (ha aC s σ H _ I h) λc s1 zq=>?_);obtain⟨H1,I1,q1⟩:=zq;cases c with
 |true=>exact hb wh aC s1 σ H1 Q I1 q1
 |false=>exact⟨H1,I1,q1⟩
def pw_or(ha:PT X a tA)(hb:PW X (.BoolOp .Or (b::rest) pos) tB'):PW X (.BoolOp .Or (a::b::rest) pos) (tOr tA tB'):=by
 intro wh aC s σ H Q I h;refine isTrue_or (thn (ha aC s σ H _ I h) λc s1 zq=>?_);obtain⟨H1,I1,q1⟩:=zq;cases c with
 |true=>exact⟨H1,I1,q1⟩
 |false=>exact hb wh aC s1 σ H1 Q I1 q1
def pt_not(ha:PT X a tA):PT X (.UnaryOp .Not a pos) (tNot tA):=by intro aC s σ H Q I h;exact isTrue_not (ha aC s σ H (λc H1=>Q (!c) H1) I h)
def tAndV(ta tb:TE):TE:=λσ H Q=>ta σ H λx H1=>∃c,x=.bl c/\if c=true then tb σ H1 Q else Q (.bl false) H1
def tOrV(ta tb:TE):TE:=λσ H Q=>ta σ H λx H1=>∃c,x=.bl c/\if c=true then Q (.bl true) H1 else tb σ H1 Q
def pe_one{op}(h:PE X a t):PE X (.BoolOp op [a] pos) t:=λaC s σ H Q I hw=>BoolOp_one (h aC s σ H Q I hw)
def pe_and(ha:PE X a ta)(hb:PE X (.BoolOp .And (b::rest) pos) tb):PE X (.BoolOp .And (a::b::rest) pos) (tAndV ta tb):=by
 intro aC s σ H Q I h;refine BoolOp_and (thn (ha aC s σ H _ I h) λv s1 zq=>?_);obtain⟨x,H1,I1,r1,q1⟩:=zq;obtain⟨c,rfl,q1⟩:=q1;cases r1;refine fU ?_;cases c with
 |true=>exact hb aC s1 σ H1 Q I1 q1
 |false=>exact⟨.bl false,H1,I1,rfl,q1⟩
def pe_or(ha:PE X a ta)(hb:PE X (.BoolOp .Or (b::rest) pos) tb):PE X (.BoolOp .Or (a::b::rest) pos) (tOrV ta tb):=by
 intro aC s σ H Q I h;refine BoolOp_or (thn (ha aC s σ H _ I h) λv s1 zq=>?_);obtain⟨x,H1,I1,r1,q1⟩:=zq;obtain⟨c,rfl,q1⟩:=q1;cases r1;refine fU ?_;cases c with
 |false=>exact hb aC s1 σ H1 Q I1 q1
 |true=>exact⟨.bl true,H1,I1,rfl,q1⟩
def tIf(t:TT)(ta tb:TE):TE:=λσ H Q=>t σ H λc H1=>if c=true then ta σ H1 Q else tb σ H1 Q
def aBt(hc:PT X c tA)(ha:PE X a ta)(hb:PE X b tb):PE X (.IfExp c a b pos) (tIf tA ta tb):=by
 intro aC s σ H Q I h;refine wpAny_IfExp (thn (hc aC s σ H _ I h) λd s1 zq=>?_);obtain⟨H1,I1,q1⟩:=zq;cases d with
 |true=>exact ha aC s1 σ H1 Q I1 q1
 |false=>exact hb aC s1 σ H1 Q I1 q1
end
def SqL(K:aN)(H:Hp)(a:aD)(xs:List V):Prop:=
 Rd H a (.lst xs) ∨
  ∃(o:Obj) (its:Array aI) (n:Nat),K.lookup a=some o/\o.cls=.type "list"/\o.dict=none/\o.data=.seq its n/\its.size<=sizeLine/\Vals xs its.toList
def SqT(K:aN)(H:Hp)(a:aD)(xs:List V):Prop:=
 Rd H a (.tup xs) ∨
  ∃(o:Obj) (its:Array aI) (n:Nat),K.lookup a=some o/\o.cls=.type "tuple"/\o.data=.seq its n/\its.size<=sizeLine/\Vals xs its.toList
noncomputable def absV:aI->Option V
 |.none=>some .non
 |.bool b=>some (.bl b)
 |.int i _=>some (.int i)
 |.str x _=>some (.str x)
 |.bytes b _=>some (.byt b)
 |.float b _=>some (.flt b)
 |.ref a=>some (.ref a)
 |.type n=>some (.ty n)
 |_=>none
def RelV.abs(r:RelV x u):absV u=some x:=by
 cases x with
 |non=>cases r;rfl
 |bl _=>cases r;rfl
 |int _=>obtain⟨t,rfl⟩:=r;rfl
 |str _=>obtain⟨t,rfl⟩:=r;rfl
 |byt _=>obtain⟨t,rfl⟩:=r;rfl
 |flt _=>obtain⟨t,rfl⟩:=r;rfl
 |ref _=>cases r;rfl
 |ty _=>cases r;rfl
theorem RelV.inj(r:RelV x u)(q:RelV y u):x=y:=Option.some.inj (r.abs.symm.trans q.abs)
theorem Vals.inj:∀{xs ys:List V}{us:List aI},Vals xs us->Vals ys us->xs=ys
 |_,_,_,.nil,.nil=>rfl
 |_,_,_,.cons r t,.cons r' t'=>by rw[r.inj r',Vals.inj t t']
def SqL.of{K:aN}(h:H a=some (.lst xs)):SqL K H a xs:=.inl (.inl h)
def SqT.of{K:aN}(h:H a=some (.tup xs)):SqT K H a xs:=.inl (.inl h)
def Inv.list(I:Inv X aC σ H s)(h:SqL X.K H a xs):∃its:List aI,Vals xs its/\PlainL s.heap a its.toArray/\xs.length<=sizeLine:=by
 rcases h with h|⟨o,its,n,hk,hc,hd,hs,hz,r⟩
 . obtain⟨z,its,n,r,e⟩:=h.ok I.hok;exact⟨its,r,⟨_,n,e,rfl,rfl,rfl⟩,z⟩
 . refine ⟨its.toList,r,⟨o,n,I.kIn a o hk,hc,hd,by simpa using hs⟩,?_⟩;have e:=r.length;simp [fS]at e
   lia
def Inv.tuple(I:Inv X aC σ H s)(h:SqT X.K H a xs):∃its,Vals xs its/\IsTup s.heap a its.toArray/\xs.length<=sizeLine:=by
 rcases h with h|⟨o,its,n,hk,hc,hs,hz,r⟩
 . obtain⟨z,its,r,p⟩:=h.ok I.hok;exact⟨its,r,p,z⟩
 . refine ⟨its.toList,r,⟨o,I.kIn a o hk,hc,n,by simpa using hs⟩,?_⟩;have e:=r.length;simp [fS]at e
   lia
def Inv.list_inj(I:Inv X aC σ H s)(h:SqL X.K H a xs)(h':SqL X.K H a ys):xs=ys:=by
 obtain⟨its,r,⟨o,n,e,_,_,d⟩,_⟩:=I.list h;obtain⟨its',r',⟨o',n',e',_,_,d'⟩,_⟩:=I.list h';rw[e]at e';cases e';rw[d]at d';injection d' with d1 _
 have:its=its':=by simpa using congrArg Array.toList d1
 subst this;exact r.inj r'
def Inv.tuple_inj(I:Inv X aC σ H s)(h:SqT X.K H a xs)(h':SqT X.K H a ys):xs=ys:=by
 obtain⟨its,r,⟨o,e,_,n,d⟩,_⟩:=I.tuple h;obtain⟨its',r',⟨o',e',_,n',d'⟩,_⟩:=I.tuple h';rw[e]at e';cases e';rw[d]at d';injection d' with d1 _
 have:its=its':=by simpa using congrArg Array.toList d1
 subst this;exact r.inj r'
noncomputable abbrev Cx.wish(X:Cx)(E:aI->aY->Prop):Cx:={X with xe:=E}
noncomputable abbrev Cx.nox(X:Cx):Cx:=X.wish λ_ _=>False
theorem Cx.Ok.wish{X:Cx}(ok:X.Ok) E:(X.wish E).Ok:=
 ⟨ok.mod,ok.kind,ok.glob,ok.blt,ok.above,ok.inj,ok.has,ok.cab,ok.hd,ok.frames,ok.stk,ok.exf,ok.bs,ok.bsz,ok.noex,ok.exfs,ok.funs,ok.frf⟩
def Cx.Ok.unwish{X:Cx}(ok:(X.wish E).Ok):X.Ok:=
 ⟨ok.mod,ok.kind,ok.glob,ok.blt,ok.above,ok.inj,ok.has,ok.cab,ok.hd,ok.frames,ok.stk,ok.exf,ok.bs,ok.bsz,ok.noex,ok.exfs,ok.funs,ok.frf⟩
theorem Inv.wish(I:Inv X aC σ H s) E:Inv (X.wish E) aC σ H s:=⟨I.ok.wish E,I.os,I.bare,I.base,I.loc,I.cell,I.free,I.freeC,I.pin,I.hok,I.len⟩
theorem Inv.unwish(I:Inv (X.wish E) aC σ H s):Inv X aC σ H s:=⟨I.ok.unwish,I.os,I.bare,I.base,I.loc,I.cell,I.free,I.freeC,I.pin,I.hok,I.len⟩
theorem SP.unwish(h:SP (X.wish E) aC D f s'):SP X aC D f s':=by
 cases f with
 |next=>obtain⟨σ',H',I,q⟩:=h;exact⟨σ',H',I.unwish,q⟩
 |brk=>obtain⟨σ',H',I,q⟩:=h;exact⟨σ',H',I.unwish,q⟩
 |cont=>obtain⟨σ',H',I,q⟩:=h;exact⟨σ',H',I.unwish,q⟩
 |ret u=>obtain⟨v,σ',H',I,r,q⟩:=h;exact⟨v,σ',H',I.unwish,r,q⟩
theorem PSs.nox{st:List Stmt}(h:PSs X.nox st t):PSs X st t:=λaC s σ H D I hw=>eN (h aC s σ H D (I.wish _) hw) (λ_ _ q=>q.unwish) λ_ _ z=>False.elim z
section
variable{st:Stmt}{rest:List Stmt}{t u:TS}{te:TE}
def tNext:TS:=λD σ H=>D.nx σ H
def tSeq(t u:TS):TS:=λD σ H=>t {D with nx:=u D} σ H
def pss_nil:PSs X [] tNext:=λ_ _ σ H _ I h=>rM ⟨σ,H,I,h⟩
def MM(h1:PS X st t)(h2:PSs X rest u):PSs X (st::rest) (tSeq t u):=by
 intro aC s σ H D I h;refine wpAny_execs_cons (thn (h1 aC s σ H {D with nx:=u D} I h) λf s1 q=>?_);cases f with
 |next=>obtain⟨σ',H',I',q⟩:=q;exact h2 aC s1 σ' H' D I' q
 |ret v=>exact q
 |brk=>exact q
 |cont=>exact q
def JG(h1:PS X st t):PSs X [st] t:=by
 intro aC s σ H D I h;refine wpAny_execs_cons (thn (h1 aC s σ H D I h) λf s1 q=>?_);cases f with
 |next=>exact rM q
 |ret v=>exact q
 |brk=>exact q
 |cont=>exact q
def tCont:TS:=λD σ H=>D.ct σ H
def MN:PS X (.Continue pos) tCont:=λ_ _ σ H _ I h=>wpAny_Continue ⟨σ,H,I,h⟩
def Inv.quiet(I:Inv X aC σ H s):interactive X.env=false:=by simp[interactive,I.ok.kind]
def tDrop(te:TE):TS:=λD σ H=>te σ H λ_ H1=>D.nx σ H1
def wT(he:PE X e te)(hs:eC e none pos.line X.env=pure false:=by rfl):PS X (.Expr e pos) (tDrop te):=by intro aC s σ H D I h;exact wpAny_Expr_any (thn (he aC s σ H _ I h) λv s1 ⟨x,H1,I1,r1,q1⟩=>⟨σ,H1,I1,q1⟩) I.quiet hs
def tRet(te:TE):TS:=λD σ H=>te σ H D.rt
def DI(he:PE X e te):PS X (.Return (some e) pos) (tRet te):=by intro aC s σ H D I h;exact wpAny_Return_some (thn (he aC s σ H _ I h) λv s1 ⟨x,H1,I1,r1,q1⟩=>⟨x,σ,H1,I1,r1,q1⟩)
def tIfS(c:TT)(t u:TS):TS:=λD σ H=>c σ H λb H1=>if b=true then t D σ H1 else u D σ H1
def ps_if(hc:PT X c tc)(ha:PSs X a t)(hb:PSs X b u):PS X (.If c a b pos) (tIfS tc t u):=by
 intro aC s σ H D I h;refine wpAny_If (thn (hc aC s σ H _ I h) λd s1 zq=>?_);obtain⟨H1,I1,q1⟩:=zq;cases d with
 |true=>exact ha aC s1 σ H1 D I1 q1
 |false=>exact hb aC s1 σ H1 D I1 q1
def tNever:TS:=λ_ _ _=>False
def aBe:PS X st tNever:=λ_ _ _ _ _ _ h=>h.elim
end
abbrev TG:=V->St->Hp->(St->Hp->Prop)->Prop
abbrev TGs:=List V->St->Hp->(St->Hp->Prop)->Prop
def PG(X:Cx)(target:Expr)(t:TG):Prop:=
 ∀(aC:List (aD×Obj)) (s:aY) (σ:St) (H:Hp) (v:V) (u:aI) (Q:St->Hp->Prop),Inv X aC σ H s->RelV v u->t v σ H Q →
  bP (bK X.prog X.w) X.A (BE target X.env u) (λ_ s'=>∃σ' H',Inv X aC σ' H' s'/\Q σ' H') X.xe s
def PGs(X:Cx)(ts:List Expr)(t:TGs):Prop:=
 ∀(aC:List (aD×Obj)) (s:aY) (σ:St) (H:Hp) (vs:List V) (us:List aI) (Q:St->Hp->Prop),Inv X aC σ H s->Vals vs us->t vs σ H Q →
  bP (bK X.prog X.w) X.A (assignInOrder ((fW ts X.env).map (·.2)) us) (λ_ s'=>∃σ' H',Inv X aC σ' H' s'/\Q σ' H') X.xe s
abbrev TSet:=V->V->V->Hp->(Hp->Prop)->Prop
def PSet(X:Cx)(t:TSet):Prop:=
 ∀(aC:List (aD×Obj)) (s:aY) (σ:St) (H:Hp) (o i v:V) (ov iv u:aI) (Q:Hp->Prop),Inv X aC σ H s->RelV o ov->RelV i iv->RelV v u->t o i v H Q →
  bP (bK X.prog X.w) X.A (setItem ov iv u) (λ_ s'=>∃H',Inv X aC σ H' s'/\Q H') X.xe s
abbrev TIp:=V->V->Hp->VK->Prop
def PIp(X:Cx)(op:Operator)(t:TIp):Prop:=
 ∀(aC:List (aD×Obj)) (s:aY) (σ:St) (H:Hp) (x y:V) (v u:aI) (Q:VK),Inv X aC σ H s->RelV x v->RelV y u->t x y H Q →
  bP (bK X.prog X.w) X.A (inplaceOp op v u) (EP X aC σ Q) X.xe s
section
variable{X:Cx}
def gName(i:Nat):TG:=λv σ H Q=>Q (σ.set i (some v)) H
def TJ(hN:X.N.Nodup)(hi:X.N[i]?=some x)(hx:Loc X.env.scope x)(hf:X.fn x=true\/X.env.scope.names.lookup x=some .local:=by first|exact .inl rfl|exact .inr rfl|assumption):PG X (.Name x pos) (gName i):=by intro aC s σ H v u Q I r h;exact wpAny_assign_Name (CM I hN hi hx r (λs' I'=>⟨_,H,I',h⟩) hf)
def gNil:TGs:=λvs σ H Q=>vs=[]/\Q σ H
def gCons(t:TG)(u:TGs):TGs:=λvs σ H Q=>∃v r,vs=v::r/\t v σ H λσ' H'=>u r σ' H' Q
def pgs_nil:PGs X [] gNil:=by intro aC s σ H vs us Q I r h;obtain⟨e,h⟩:=h;subst e;exact assignInOrder_nil ⟨σ,H,I,h⟩
def aBm(h1:PG X e t)(h2:PGs X es u)(hs:(fW (e::es) X.env).map (·.2)=BE e X.env::(fW es X.env).map (·.2):=by rfl):PGs X (e::es) (gCons t u):=by
 intro aC s σ H vs us Q I r h;obtain⟨v,vr,e1,h⟩:=h;subst e1;cases r with
 |cons r rr=>rw[hs];refine assignInOrder_cons (thn (h1 aC s σ H _ _ _ I r h) λ_ s1 zq=>?_);obtain⟨σ1,H1,I1,q1⟩:=zq;exact h2 aC s1 σ1 H1 _ _ Q I1 rr q1
def gTup(K:aN)(n:Nat)(t:TGs):TG:=λv σ H Q=>∃a xs,v=.ref a/\SqT K H a xs/\xs.length=n/\t xs σ H Q
def pg_tup(hc:X.calm=true)(h:PGs X es t)(hn:(fW es X.env).length=n:=by rfl)(hst:(fW es X.env).findIdx? (·.1)=none:=by rfl):PG X (.Tuple es k pos) (gTup X.K n t):=by intro aC s σ H v u Q I r hw;obtain⟨a,xs,e1,hq,hl,hw⟩:=hw;subst e1;cases r;obtain⟨its,rv,ht,hz⟩:=I.tuple hq;refine assign_Tuple_tuple (I.ok.hd hc) ht (by simp[hn,<-hl,rv.length]) hst λh' hx=>?_;have I1:=I.kept (t':=s.toks) λb o e=>hx b o (bM (aW e)) e;exact h aC _ σ H xs _ Q I1 (by simpa using rv) hw
def gSub(to ti:TE)(t:TSet):TG:=λv σ H Q=>to σ H λo H1=>ti σ H1 λi H2=>t o i v H2 λH3=>Q σ H3
def pg_sub(ho:PE X o to)(hi:PE X i ti)(hs:PSet X t)(ha:∀v,BE (.Subscript o i pos) X.env v=(do
    let ov <- gC [v] (bU o X.env)
    let iv <- gC [v,ov] (bU i X.env)
    lD pos
    gC [v,ov,iv] (setItem ov iv v)
    release [v,ov,iv] []):=by intro _;rfl):PG X (.Subscript o i pos) (gSub to ti t):=by
 intro aC s σ H v u Q I r h;refine aZ (iR (thn (ho aC s σ H _ I h) λov s1 zq=>?_));obtain⟨x,H1,I1,r1,q1⟩:=zq;refine aZ (iR (thn (hi aC s1 σ H1 _ I1 q1) λiv s2 zq=>?_));obtain⟨y,H2,I2,r2,q2⟩:=zq;refine aZ (wpAny_standAt (aZ (iR (thn (hs aC s2 σ H2 x y v ov iv u _ I2 r1 r2 r q2) λ_ s3 zq=>?_))));obtain⟨H3,I3,q3⟩:=zq;exact wpAny_release ⟨σ,H3,I3,q3⟩
def tAsg(te:TE)(g:TG):TS:=λD σ H=>te σ H λx H1=>g x σ H1 D.nx
def aBf(he:PE X e te)(hg:PG X tg g)(hs:RH [tg] e pos.line X.env=pure false:=by rfl)(hw:RI [tg] e X.env=pure none:=by rfl)(h1:(fW [tg] X.env).map (·.2)=[BE tg X.env]:=by rfl):PS X (.Assign [tg] e pos) (tAsg te g):=by intro aC s σ H D I h;refine wpAny_Assign_stores (thn (he aC s σ H _ I h) λv s1 zq=>?_) hs hw;obtain⟨x,H1,I1,r1,q1⟩:=zq;rw[h1];exact thn (hg aC s1 σ H1 x v _ I1 r1 q1) λ_ s2 q=>q
def JH(hN:X.N.Nodup)(hi:X.N[i]?=some x)(hx:Loc X.env.scope x)(he:PE X e te)(hs:eC e (some (.Name x pos')) pos.line X.env=pure false:=by rfl)(hf:X.fn x=true\/X.env.scope.names.lookup x=some .local:=by first|exact .inl rfl|exact .inr rfl|assumption) :
  PS X (.Assign [.Name x pos'] e pos) (tAsg te (gName i)):=by
 intro aC s σ H D I h;refine wpAny_Assign_Name (thn (he aC s σ H _ I h) λv s1 zq=>?_) hs;obtain⟨y,H1,I1,r1,q1⟩:=zq;exact CM I1 hN hi hx r1 (λs2 I2=>⟨_,H1,I2,q1⟩) hf
def tAug(i:Nat)(te:TE)(ti:TIp):TS:=λD σ H=>∃x,σ[i]?=some (some x)/\te σ H λy H1=>ti x y H1 λz H2=>D.nx (σ.set i (some z)) H2
def ps_aug(hN:X.N.Nodup)(hi:X.N[i]?=some x)(hx:Loc X.env.scope x)(he:PE X e te)(ho:PIp X op ti)(hf:X.fn x=true\/X.env.scope.names.lookup x=some .local:=by first|exact .inl rfl|exact .inr rfl|assumption) :
  PS X (.AugAssign (.Name x pos') op e pos) (tAug i te ti):=by
 intro aC s σ H D I h;obtain⟨v,e1,h⟩:=h;obtain⟨m,hn,hl⟩:=I.loc;have vis:Vis X.env.scope x:=by rcases hx with k|k;exact .inl k;exact .inr (.inl k)
 obtain⟨u,r,l⟩:=hl i x v hi e1 vis;refine wpAny_AugAssign_Name ?_;have go:bP (bK X.prog X.w) X.A (bU e X.env) (λw s₂=>bP (bK X.prog X.w) X.A (inplaceOp op u w) (λr s₃=>bP (bK X.prog X.w) X.A (storeName X.env x r) (λ_=>SP X aC D .next) X.xe s₃) X.xe s₂) X.xe s:=by refine thn (he aC s σ H _ I h) λw s1 zq=>?_;obtain⟨y,H1,I1,r1,q1⟩:=zq;refine thn (ho aC s1 σ H1 v y u w _ I1 r r1 q1) λz s2 zq=>?_;obtain⟨zv,H2,I2,r2,q2⟩:=zq;exact CM I2 hN hi hx r2 (λs3 I3=>⟨_,H2,I3,q2⟩) hf
 rcases l with⟨hk,hm⟩|⟨hk,c,hc,hcell⟩
 . exact wpAny_loadName_local I.ok.kind hk hn hm go
 . rcases hk with hk|hk
   . exact wpAny_loadName_cell I.ok.kind hk hc hcell go
   . rcases hx with k|k
     . have:X.env.scope.names.lookup x=some .free:=hk;rw[k]at this;cases this
     . have:X.env.scope.names.lookup x=some .free:=hk;rw[k]at this;cases this
def ipI(f:Int->Int->Int):TIp:=λx y H Q=>∃i j,x=.int i/\y=.int j/\Q (.int (f i j)) H
def ip_add:PIp X .Add (ipI λi j=>i+j):=by intro aC s σ H x y v u Q I r1 r2 h;obtain⟨i,j,e1,e2,q⟩:=h;subst e1;subst e2;obtain⟨t,rfl⟩:=r1;obtain⟨t',rfl⟩:=r2;exact iadd_int ⟨.int _,H,I.tok _,⟨_,rfl⟩,q⟩
end
def tWhile(c:TT)(tb:TS):TS:=λD σ H=>∃W:Nat->St->Hp->Prop,(∃m,W m σ H)/\∀m σ H,W m σ H →
 c σ H λb H1=>if b=true then ∃N:St->Hp->Prop,(∀σ' H',N σ' H'->∃m',m'<m/\W m' σ' H')/\tb {D with nx:=N,ct:=N,bk:=D.nx} σ H1 else D.nx σ H1
def aBd(hp:tK (bK X.prog X.w) X.A X.env X.xe)(hc:PT X c tc)(hb:PSs X body tb):PS X (.While c body [] pos) (tWhile tc tb):=by
 intro aC s σ H D I h;obtain⟨W,⟨m0,w0⟩,turn⟩:=h;refine wpAny_While (codeAny_whileLoop (λn s'=>∃σ' H',Inv X aC σ' H' s'/\W n σ' H') ?_ m0 ⟨σ,H,I,w0⟩);rintro n s1 ⟨σ1,H1,I1,w1⟩;refine gS hp (thn (hc aC s1 σ1 H1 _ I1 (turn n σ1 H1 w1)) λb s2 zq=>?_);obtain⟨H2,I2,q2⟩:=zq;cases b with
 |true=>
   obtain⟨N,hN,q2⟩:=q2;refine gS hp (thn (hb aC s2 σ1 H2 _ I2 q2) λf s3 q3=>?_);cases f with
   |next=>obtain⟨σ3,H3,I3,n3⟩:=q3;obtain⟨m',hm,w3⟩:=hN σ3 H3 n3;exact⟨m',hm,σ3,H3,I3,w3⟩
   |cont=>obtain⟨σ3,H3,I3,n3⟩:=q3;obtain⟨m',hm,w3⟩:=hN σ3 H3 n3;exact⟨m',hm,σ3,H3,I3,w3⟩
   |brk=>exact q3
   |ret v=>exact q3
 |false=>exact rM ⟨σ1,H2,I2,q2⟩
structure It where
 go:Nat->Hp->Prop
 yld:Nat->Hp->V->Hp->Prop
 stop:Nat->Hp->Prop
def FpOk(X:Cx)(aC:List (aD×Obj))(H:Hp)(b:aD):Prop:=
 H b=none/\b≠X.env.locals/\b∉X.fs/\(b∈X.ex\/X.s₀.heap.objs.size<=b)/\(∀x c,X.env.cells.lookup x=some c->c≠b)/\∀p∈X.pn++aC,p.1≠b
def Inv.fpOk(I:Inv X aC σ H s)(hb:s.heap.objs.size<=b)(hn:H' b=none):FpOk X aC H' b:=by
 refine⟨hn,oO (bL I.lt hb),I.nofs hb,.inr (cD I.sz hb),λx c e z=>?_,λp hp z=>?_⟩
 . obtain⟨v,q⟩:=I.cell x c e;exact absurd (bL q.lt (by rw[z];exact hb)) (cW _)
 . exact absurd (bL (aW (I.pin p hp).1) (by rw[z];exact hb)) (cW _)
structure Turn(P:bY)(w:cU)(K:aN)(tg:Expr)(J:It)(fp:List aD)(it:aD)(tn:Nat->Heap->Prop)(cm:Cx->Prop:=λX=>X.calm=true):Prop where
 mem:it∈fp
 obj:∀i h,tn i h->∀b∈fp,∃o,h.get? b=some o/\∀v,o.data≠.cell v
 keep:∀i h h',tn i h->(∀b∈fp,∀o,h.get? b=some o->h'.get? b=some o)->tn i h'
 item:∀(X:Cx),X.prog=P->X.w=w->X.K=K->cm X->∀(i:Nat) (aC:List (aD×Obj)) (s:aY) (σ:St) (H:Hp) (E:aI->aY->Prop),Inv X aC σ H s->(∀b∈fp,FpOk X aC H b)->tn i s.heap->J.go i H →
  bP (bK P w) X.A (pyNext (.ref it)) (λr s1=>∃u,r=some u ∧
   bP (bK P w) X.A (LH tg (.ref it) u) (λ_ s2=>∃x H',Inv X aC σ H' s2/\RelV x u/\J.yld i H x H'/\tn (i+1) s2.heap/\∀b∈fp,H' b=none) E s1) E s
 done:∀(X:Cx),X.prog=P->X.w=w->X.K=K->cm X->∀(i:Nat) (aC:List (aD×Obj)) (s:aY) (σ:St) (H:Hp) (E:aI->aY->Prop),Inv X aC σ H s->(∀b∈fp,FpOk X aC H b)->tn i s.heap->J.stop i H →
  bP (bK P w) X.A (pyNext (.ref it)) (λr s1=>r=none/\Inv X aC σ H s1) E s
 self:∀(A:dP) (i:Nat) (s:aY) (Q:aI->aY->Prop) (E:aI->aY->Prop),tn i s.heap->Q (.ref it) s->bP (bK P w) A (pyIter (.ref it)) Q E s
abbrev TI:=St->Hp->(It->Hp->Prop)->Prop
def PIE(X:Cx)(aC:List (aD×Obj))(σ:St)(tg:Expr)(R:It->Hp->Prop)(cm:Cx->Prop:=λX=>X.calm=true)(itv:aI)(s2:aY):Prop:=
 ∃(it:aD) (fp:List aD) (tn:Nat->Heap->Prop) (J:It) (H':Hp),itv=.ref it/\Inv X aC σ H' s2/\Turn X.prog X.w X.K tg J fp it tn cm/\tn 0 s2.heap/\(∀b∈fp,FpOk X aC H' b)/\R J H'
def PI(X:Cx)(tg iter:Expr)(wi:TI)(cm:Cx->Prop:=λX=>X.calm=true):Prop:=
 ∀(aC:List (aD×Obj)) (s:aY) (σ:St) (H:Hp) (R:It->Hp->Prop),Inv X aC σ H s->wi σ H R →
  bP (bK X.prog X.w) X.A (bU iter X.env) (λv s1=>bP (bK X.prog X.w) X.A (pyIter v) (PIE X aC σ tg R cm) X.xe s1) X.xe s
def HX(ho:s.heap.get? it=some o)(hc:o.cls=.type n)(hd:o.data=.fields vs)(hn:["enumerate","zip","dict_itemiterator","dict_reverseitemiterator","odict_iterator","itertools.zip_longest","itertools.pairwise"].contains n=false)(hQ:Q () s):bP M A (LH tg (.ref it) u) Q E s:=by
 cases tg<;>first
  |exact bV hQ
  |(cases u<;>first
      |exact bV hQ
      | (refine aZ (wpAny_load ho ?_)
         rw[hc,hd];show bP M A (if (["enumerate","zip","dict_itemiterator","dict_reverseitemiterator","odict_iterator","itertools.zip_longest","itertools.pairwise"].contains n&&vs[0]?==some (rawInt _))=true then _ else _) Q E s;rw[if_neg (by intro h;rw[hn,Bool.false_and]at h;cases h)]
         exact bV hQ))
noncomputable def Itl(K:aN)(a:aD):It:=
 ⟨λi H=>∃xs x,SqL K H a xs/\xs[i]?=some x,λi H x H'=>H'=H/\∀xs,SqL K H a xs->xs[i]?=some x,λi H=>∃xs,SqL K H a xs/\xs.length<=i⟩
noncomputable def Itt(K:aN)(a:aD):It:=
 ⟨λi H=>∃xs x,SqT K H a xs/\xs[i]?=some x,λi H x H'=>H'=H/\∀xs,SqT K H a xs->xs[i]?=some x,λi H=>∃xs,SqT K H a xs/\xs.length<=i⟩
noncomputable def Itr(lo:Int)(n:Nat):It:=⟨λi _=>i<n,λi H x H'=>H'=H/\x=.int (lo+i),λi _=>n<=i⟩
def VU{P:bY}{w:cU}{K:aN}{tg:Expr}(a it:aD):Turn P w K tg (Itl K a) [it] it (λi h=>h.IsListIter it a i) where
 mem:=by simp
 obj:=λi h st b hb=>by
  have e:b=it:=by simpa using hb
  subst e;obtain⟨o,e,c,d⟩:=st;exact⟨o,e,λv z=>by rw[d]at z;cases z⟩
 keep:=λi h h' st k=>st.at λo e=>k it (by simp) o e
 item:=by intro X hP hw hK hc i aC s σ H E I hf st hg;subst hP hw hK;obtain⟨xs,x,hq,hx⟩:=hg;obtain⟨its,rv,p,hz⟩:=I.list hq;obtain⟨u,hu,ru⟩:=rv.get hx;obtain⟨f0,f1,f2,f3,f4,f5⟩:=hf it (by simp);refine wpAny_pyNext_list_item st p.isList (by simpa using hu) λh' st' sb=>?_;have I1:=I.turned (t':=s.toks) (λb o hb e=>(sb.2 b hb).trans e) f0 f1 f3 f4 f5;obtain⟨o,e,c,d⟩:=id st';exact⟨u,rfl,HX e c d (by decide) ⟨x,H,I1,ru,⟨rfl,λys hy=>by rw[I.list_inj hy hq];exact hx⟩,st',λb hb=>(hf b hb).1⟩⟩
 done:=by intro X hP hw hK hc i aC s σ H E I hf st hg;subst hP hw hK;obtain⟨xs,hq,hx⟩:=hg;obtain⟨its,rv,p,hz⟩:=I.list hq;obtain⟨f0,f1,f2,f3,f4,f5⟩:=hf it (by simp);have hl:=rv.length;exact wpAny_pyNext_list_end (I.ok.hd hc) st p.isList (by simp;lia) λh' eb=>⟨rfl,I.turned (λb o hb e=>eb b o hb e) f0 f1 f3 f4 f5⟩
 self:=λ_ _ _ _ _ st h=>wpAny_pyIter_listiter st h
def OV{P:bY}{w:cU}{K:aN}{tg:Expr}(a it:aD):Turn P w K tg (Itt K a) [it] it (λi h=>h.IsTupleIter it a i) where
 mem:=by simp
 obj:=λi h st b hb=>by
  have e:b=it:=by simpa using hb
  subst e;obtain⟨o,e,c,d⟩:=st;exact⟨o,e,λv z=>by rw[d]at z;cases z⟩
 keep:=λi h h' st k=>st.at λo e=>k it (by simp) o e
 item:=by intro X hP hw hK hc i aC s σ H E I hf st hg;subst hP hw hK;obtain⟨xs,x,hq,hx⟩:=hg;obtain⟨its,rv,p,hz⟩:=I.tuple hq;obtain⟨u,hu,ru⟩:=rv.get hx;obtain⟨f0,f1,f2,f3,f4,f5⟩:=hf it (by simp);refine wpAny_pyNext_tuple_item st (p) (by simpa using hu) λh' st' sb=>?_;have I1:=I.turned (t':=s.toks) (λb o hb e=>(sb.2 b hb).trans e) f0 f1 f3 f4 f5;obtain⟨o,e,c,d⟩:=id st';exact⟨u,rfl,HX e c d (by decide) ⟨x,H,I1,ru,⟨rfl,λys hy=>by rw[I.tuple_inj hy hq];exact hx⟩,st',λb hb=>(hf b hb).1⟩⟩
 done:=by intro X hP hw hK hc i aC s σ H E I hf st hg;subst hP hw hK;obtain⟨xs,hq,hx⟩:=hg;obtain⟨its,rv,p,hz⟩:=I.tuple hq;obtain⟨f0,f1,f2,f3,f4,f5⟩:=hf it (by simp);have hl:=rv.length;exact wpAny_pyNext_tuple_end (I.ok.hd hc) st (p) (by simp;lia) λh' eb=>⟨rfl,I.turned (λb o hb e=>eb b o hb e) f0 f1 f3 f4 f5⟩
 self:=λ_ _ _ _ _ st h=>wpAny_pyIter_tupleiter st h
def OW{P:bY}{w:cU}{K:aN}{tg:Expr}(it:aD)(lo:Int)(n:Nat):Turn P w K tg (Itr lo n) [it] it (λi h=>IsRangeIter h it (lo+(i:Nat)*1) ((n:Int)-(i:Nat)) 1) where
 mem:=by simp
 obj:=λi h st b hb=>by
  have e:b=it:=by simpa using hb
  subst e;exact⟨_,st,λv z=>by
   have z':=z
   cases z'⟩
 keep:=λi h h' st k=>k it (by simp) _ st
 item:=by intro X hP hw hK hc i aC s σ H E I hf st hg;subst hP hw hK;obtain⟨f0,f1,f2,f3,f4,f5⟩:=hf it (by simp);have W:=Walks.range (prog:=X.prog) (w:=X.w) (I.ok.hd hc) it lo 1 n;refine W.item i s _ _ hg st λv h' tk hv st' kk=>?_;obtain⟨t,rfl⟩:=hv;have I1:Inv X aC σ H {s with heap:=h',toks:=tk}:=I.turned (λb o hb e=>kk b o (by simpa using hb) e) f0 f1 f3 f4 f5;refine⟨_,rfl,HX st' rfl rfl (by decide) ⟨.int (lo+i),H,I1,⟨t,?_⟩,⟨rfl,rfl⟩,st',λb hb=>(hf b hb).1⟩⟩;rw[Int.mul_one]
 done:=by intro X hP hw hK hc i aC s σ H E I hf st hg;obtain⟨f0,f1,f2,f3,f4,f5⟩:=hf it (by simp);exact wpAny_pyNext_range_end (I.ok.hd hc) st (by have:n<=i:=hg;lia) λh' eb=>⟨rfl,I.turned (λb o hb e=>eb b o hb e) f0 f1 f3 f4 f5⟩
 self:=λ_ _ _ _ _ st h=>wpAny_pyIter_rangeiter st h
def iList(K:aN)(tl:TE):TI:=λσ H R=>tl σ H λx H1=>∃a,x=.ref a/\(∃xs,SqL K H1 a xs)/\R (Itl K a) H1
def iTup(K:aN)(tl:TE):TI:=λσ H R=>tl σ H λx H1=>∃a,x=.ref a/\(∃xs,SqT K H1 a xs)/\R (Itt K a) H1
def TF(hl:PE X l tl):PI X tg l (iList X.K tl):=by
 intro aC s σ H R I h;refine thn (hl aC s σ H _ I h) λv s1 zq=>?_;obtain⟨x,H1,I1,r1,q1⟩:=zq;obtain⟨a,e,⟨xs,hq⟩,q⟩:=q1;subst e;cases r1;obtain⟨its,rv,p,hz⟩:=I1.list hq;refine ER p.isList ?_;refine⟨s1.heap.objs.size,[s1.heap.objs.size],_,_,H1,rfl,I1.kept λb o e=>aJ _ e,VU a _,⟨_,aS _ rfl,rfl,rfl⟩,λb hb=>?_,q⟩;have e:b=s1.heap.objs.size:=by simpa using hb
 subst e;exact I1.fpOk (aT _) (I1.hok.fresh (aT _))
def pi_tup(hl:PE X l tl):PI X tg l (iTup X.K tl):=by
 intro aC s σ H R I h;refine thn (hl aC s σ H _ I h) λv s1 zq=>?_;obtain⟨x,H1,I1,r1,q1⟩:=zq;obtain⟨a,e,⟨xs,hq⟩,q⟩:=q1;subst e;cases r1;obtain⟨its,rv,p,hz⟩:=I1.tuple hq;refine wpAny_pyIter_tuple (p) ?_;refine⟨s1.heap.objs.size,[s1.heap.objs.size],_,_,H1,rfl,I1.kept λb o e=>aJ _ e,OV a _,⟨_,aS _ rfl,rfl,rfl⟩,λb hb=>?_,q⟩;have e:b=s1.heap.objs.size:=by simpa using hb
 subst e;exact I1.fpOk (aT _) (I1.hok.fresh (aT _))
def aAk{lo hi:Int}(I:Inv X aC σ H s)(h1 : -(2^62)<=lo)(h2:lo<2^62)(h3 : -(2^62)<=hi)(h4:hi<2^62)(q:R (Itr lo (hi-lo).toNat) H):bP (bK X.prog X.w) X.A (pyIter (.ref s.heap.objs.size)) (PIE X aC σ tg R) E {s with heap:=s.heap.push {cls:=.type "range",data:=.fields #[.int lo t,.int hi u,.int 1 v]},toks:=tk}:=by
 refine wpAny_pyIter_range (IsRange.new ..) (small_one h1 h2 h3 h4) ?_;have I1:Inv X aC σ H {s with heap:=s.heap.push {cls:=.type "range",data:=.fields #[.int lo t,.int hi u,.int 1 v]},toks:=tk}:=I.kept λb o e=>aJ _ e
 refine⟨(s.heap.push {cls:=.type "range",data:=.fields #[.int lo t,.int hi u,.int 1 v]}).objs.size,[(s.heap.push {cls:=.type "range",data:=.fields #[.int lo t,.int hi u,.int 1 v]}).objs.size],_,_,H,rfl,
  I1.kept λb o e=>aJ _ e,OW _ lo (hi-lo).toNat,?_,λb hb=>?_,q⟩
 . have e1:lo+((0:Nat):Int)*1=lo:=by simp
   have e2:(((hi-lo).toNat:Nat):Int)-((0:Nat):Int)=Builtin.Range.rangeSize lo hi 1:=by rw[rangeSize_one];split<;>lia
   rw[e1,e2];exact aS _ rfl
 . have e:b=(s.heap.push {cls:=.type "range",data:=.fields #[.int lo t,.int hi u,.int 1 v]}).objs.size:=by simpa using hb
   subst e;exact I1.fpOk (aT _) (I1.hok.fresh (aT _))
def iRng1(ta:TA):TI:=λσ H R=>ta σ H λvs H1=>∃j:Int,vs=[.int j]/\-(2^62)<=j/\j<2^62/\R (Itr 0 j.toNat) H1
def WH(hg:Gl X "range")(hm:X.mg "range" = none)(ha:PA X [a] ta)(hs:aF [a] X.env=[(false,bU a X.env)]:=by rfl):PI X tg (.Call (.Name "range" p) [a] [] pos) (iRng1 ta):=by
 intro aC s σ H R I h;refine Call_ (vS I hg hm boot_range (eL (thn (ha pos aC s σ H _ I h) λus s1 zq=>?_) hs rfl));obtain⟨vs,H1,I1,r1,q1⟩:=zq;obtain⟨j,e,q1,q2,q⟩:=q1;subst e;cases r1 with
 |cons r rr=>cases rr;obtain⟨t,rfl⟩:=r;exact call_range_1 (aAk I1 (by lia) (by lia) q1 q2 (by simpa using q))
def tFor(wi:TI)(g:TG)(tb:TS):TS:=λD σ H=>wi σ H λJ H1=>∃W:Nat->Nat->St->Hp->Prop,(∃m,W 0 m σ H1)/\∀i m σ H,W i m σ H →
 (J.stop i H/\D.nx σ H)\/(J.go i H/\∃N:St->Hp->Prop,(∀σ' H',N σ' H'->∃m',m'<m/\W (i+1) m' σ' H')/\∀x H',J.yld i H x H'->g x σ H' λσ2 H2=>tb {D with nx:=N,ct:=N,bk:=D.nx} σ2 H2)
noncomputable def DJ(fp:List aD)(h:Heap):List (aD×Obj):=fp.filterMap λb=>(h.get? b).map λo=>(b,o)
def wG(hb:b∈fp)(e:h.get? b=some o):(b,o)∈DJ fp h:=sD.mpr ⟨b,hb,by rw[e];rfl⟩
def WP(hp:p∈DJ fp h):p.1∈fp/\h.get? p.1=some p.2:=by
 obtain⟨b,hb,e⟩:=sD.mp hp;cases q:h.get? b with
 |none=>rw[q]at e;cases e
 |some o=>rw[q]at e;have e':=Option.some.inj e;subst e';exact⟨hb,q⟩
def Inv.pinned(I:Inv X aC σ H s)(hf:∀b∈fp,FpOk X aC H b)(ho:∀b∈fp,∃o,s.heap.get? b=some o/\∀v,o.data≠.cell v):Inv X (aC++DJ fp s.heap) σ H s:=
 I.pins_of λp hp=>(bQ.mp hp).elim (λz=>I.pin p (aL _ z)) λz=>by obtain⟨hb,e⟩:=WP z;obtain⟨f0,f1,f2,_⟩:=hf p.1 hb;obtain⟨o,e',d⟩:=ho p.1 hb;rw[e]at e';cases e';exact⟨e,f0,f1,f2,d⟩
def Inv.unpinned(I:Inv X (aC++pl) σ H s):Inv X aC σ H s:=I.pins_of λp hp=>I.pin p (aL _ (bB _ hp))
def PU{iter:Expr}(hp:tK (bK X.prog X.w) X.A X.env X.xe)(hc:X.calm=true)(hi:PI X tg iter wi)(hg:PG X tg g)(hb:PSs X body tb)(hs:∀x,dZ iter X.env x=pure x:=by intro _;rfl):PS X (.For tg iter body [] pos) (tFor wi g tb):=by
 intro aC s σ H D I h;refine wpAny_For (thn (hi aC s σ H _ I h) λv s1 h1=>thn h1 λitv s2 h2=>?_) hs;obtain⟨it,fp,tn,J,H2,e,I2,T,st2,f2,W,⟨m0,w0⟩,turn⟩:=h2;subst e;have stat:∀{H':Hp},(∀b∈fp,H' b=none)->∀b∈fp,FpOk X aC H' b:=λhn b hb=>⟨hn b hb,(f2 b hb).2⟩
 refine codeAny_forLoop_any (λn s'=>∃i σ' H',Inv X aC σ' H' s'/\tn i s'.heap/\(∀b∈fp,H' b=none)/\W i n σ' H') ?_ m0 ⟨0,σ,H2,I2,st2,λb hb=>(f2 b hb).1,w0⟩;rintro n s3 ⟨i,σ3,H3,I3,st3,fr3,w3⟩;rcases turn i n σ3 H3 w3 with⟨stop,qn⟩|⟨go,N,hN,step⟩
 . refine gS hp (thn (T.done X rfl rfl rfl hc i aC s3 σ3 H3 X.xe I3 (stat fr3) st3 stop) λr s4 zq=>?_);obtain⟨hr,I4⟩:=zq;subst hr;exact rM ⟨σ3,H3,I4,qn⟩
 . refine gS hp (thn (T.item X rfl rfl rfl hc i aC s3 σ3 H3 X.xe I3 (stat fr3) st3 go) λr s4 zq=>?_);obtain ⟨u,hr,h4⟩:=zq;subst hr;refine gS hp (thn h4 λ_ s5 zq=>?_);obtain ⟨x,H5,I5,r5,y5,st5,fr5⟩:=zq;have I5':=I5.pinned (stat fr5) (T.obj _ _ st5);refine gS hp (thn (hg _ s5 σ3 H5 x u _ I5' r5 (step x H5 y5)) λ_ s6 zq=>?_);obtain ⟨σ6,H6,I6,q6⟩:=zq;refine gS hp (thn (hb _ s6 σ6 H6 _ I6 q6) λf s7 q7=>?_);have again:∀{σ7:St}{H7:Hp},Inv X (aC++DJ fp s5.heap) σ7 H7 s7->N σ7 H7->∃m,m<n/\∃i σ' H',Inv X aC σ' H' s7/\tn i s7.heap/\(∀b∈fp,H' b=none)/\W i m σ' H':=λ{σ7 H7} I7 n7=>by obtain⟨m',hm,w7⟩:=hN σ7 H7 n7;refine⟨m',hm,i+1,σ7,H7,I7.unpinned,T.keep _ _ _ st5 λb hb o e=>(I7.pin (b,o) (aL _ (aL _ (wG hb e)))).1,λb hb=>?_,w7⟩;obtain⟨o,e,d⟩:=T.obj _ _ st5 b hb;exact(I7.pin (b,o) (aL _ (aL _ (wG hb e)))).2.1
   cases f with
   |next=>obtain⟨σ7,H7,I7,n7⟩:=q7;exact again I7 n7
   |cont=>obtain⟨σ7,H7,I7,n7⟩:=q7;exact again I7 n7
   |brk=>obtain⟨σ7,H7,I7,q7⟩:=q7;exact⟨σ7,H7,I7.unpinned,q7⟩
   |ret v=>obtain⟨x7,σ7,H7,I7,r7,q7⟩:=q7;exact⟨x7,σ7,H7,I7.unpinned,r7,q7⟩
abbrev R2:=V->V->Hp->VK->Prop
def OpR(X:Cx)(f:aI->aI->Sem aI)(r:R2):Prop:=
 ∀(aC:List (aD×Obj)) (s:aY) (σ:St) (H:Hp) (x y:V) (v u:aI) (Q:VK),Inv X aC σ H s->RelV x v->RelV y u->r x y H Q →
  bP (bK X.prog X.w) X.A (f v u) (EP X aC σ Q) X.xe s
def UnR(X:Cx)(f:aI->Sem aI)(r:V->Hp->VK->Prop):Prop:=
 ∀(aC:List (aD×Obj)) (s:aY) (σ:St) (H:Hp) (x:V) (v:aI) (Q:VK),Inv X aC σ H s->RelV x v->r x H Q →
  bP (bK X.prog X.w) X.A (f v) (EP X aC σ Q) X.xe s
def CallR(X:Cx)(f:aI)(r:List V->Hp->VK->Prop):Prop:=
 ∀(aC:List (aD×Obj)) (s:aY) (σ:St) (H:Hp) (xs:List V) (us:List aI) (Q:VK),Inv X aC σ H s->Vals xs us->r xs H Q →
  bP (bK X.prog X.w) X.A (call f us) (EP X aC σ Q) X.xe s
def TruR(X:Cx)(r:V->Hp->(Bool->Hp->Prop)->Prop):Prop:=
 ∀(aC:List (aD×Obj)) (s:aY) (σ:St) (H:Hp) (x:V) (v:aI) (Q:Bool->Hp->Prop),Inv X aC σ H s->RelV x v->r x H Q →
  bP (bK X.prog X.w) X.A (truthy v) (TP X aC σ Q) X.xe s
def tOp(r:R2)(ta tb:TE):TE:=λσ H Q=>ta σ H λx H1=>tb σ H1 λy H2=>r x y H2 Q
def tUn(r:V->Hp->VK->Prop)(ta:TE):TE:=λσ H Q=>ta σ H λx H1=>r x H1 Q
noncomputable def rI(C:Int->Int->Prop)(g:Int->Int->V):R2:=λx y H Q=>∃i j,x=.int i/\y=.int j/\C i j/\Q (g i j) H
noncomputable def rI0(g:Int->Int->V):R2:=λx y H Q=>∃i j,x=.int i/\y=.int j/\Q (g i j) H
def rU(g:Int->V):V->Hp->VK->Prop:=λx H Q=>∃i,x=.int i/\Q (g i) H
def binT(ha:PE X a ta)(hb:PE X b tb){R:V->V->Hp->Prop}(I:Inv X aC σ H s)(h:ta σ H λx H1=>tb σ H1 λy H2=>R x y H2){f:aI->aI->Sem aI}(hf:∀v u s2 x y H2,Inv X aC σ H2 s2->RelV x v->RelV y u->R x y H2->bP (bK X.prog X.w) X.A (f v u) Q X.xe s2) :
  bP (bK X.prog X.w) X.A (bU a X.env) (λv s₁=>bP (bK X.prog X.w) X.A (bU b X.env) (λu s₂=>bP (bK X.prog X.w) X.A (f v u) Q X.xe s₂) X.xe s₁) X.xe s:=by
 refine thn (ha aC s σ H _ I h) λv s1 zq=>?_;obtain⟨x,H1,I1,r1,q1⟩:=zq;refine thn (hb aC s1 σ H1 _ I1 q1) λu s2 zq=>?_;obtain⟨y,H2,I2,r2,q2⟩:=zq;exact hf v u s2 x y H2 I2 r1 r2 q2
def pe_op(ho:OpR X (lE op) r)(ha:PE X a ta)(hb:PE X b tb):PE X (.BinOp a op b pos) (tOp r ta tb):=by intro aC s σ H Q I h;exact wpAny_BinOp (binT ha hb I h λv u s2 x y H2 I2 rx ry q=>ho aC s2 σ H2 x y v u Q I2 rx ry q)
def pe_un(ho:UnR X (unaryOp op) r)(ha:PE X a ta):PE X (.UnaryOp op a pos) (tUn r ta):=by intro aC s σ H Q I h;exact UnaryOp_ (thn (ha aC s σ H _ I h) λv s1 ⟨x,H1,I1,r1,q1⟩=>ho aC s1 σ H1 x v Q I1 r1 q1)
def opI{g:Int->Int->Int}(rule:∀i j t u s Q E,C i j->Q (.int (g i j) s.toks) {s with toks:=s.toks+1}->bP (bK X.prog X.w) X.A (f (.int i t) (.int j u)) Q E s) :
  OpR X f (rI C λi j=>.int (g i j)):=by
 intro aC s σ H x y v u Q I rx ry h;obtain⟨i,j,rfl,rfl,hc,q⟩:=h;obtain⟨t,rfl⟩:=rx;obtain⟨t',rfl⟩:=ry;exact rule i j t t' s _ _ hc ⟨.int (g i j),H,I.tok _,⟨_,rfl⟩,q⟩
def opI0{g:Int->Int->Int}(rule:∀i j t u s Q E,Q (.int (g i j) s.toks) {s with toks:=s.toks+1}->bP (bK X.prog X.w) X.A (f (.int i t) (.int j u)) Q E s) :
  OpR X f (rI0 λi j=>.int (g i j)):=by
 intro aC s σ H x y v u Q I rx ry h;obtain⟨i,j,rfl,rfl,q⟩:=h;obtain⟨t,rfl⟩:=rx;obtain⟨t',rfl⟩:=ry;exact rule i j t t' s _ _ ⟨.int (g i j),H,I.tok _,⟨_,rfl⟩,q⟩
def opB0{g:Int->Int->Bool}(rule:∀i j t u s Q E,Q (.bool (g i j)) s->bP (bK X.prog X.w) X.A (f (.int i t) (.int j u)) Q E s) :
  OpR X f (rI0 λi j=>.bl (g i j)):=by
 intro aC s σ H x y v u Q I rx ry h;obtain⟨i,j,rfl,rfl,q⟩:=h;obtain⟨t,rfl⟩:=rx;obtain⟨t',rfl⟩:=ry;exact rule i j t t' s _ _ ⟨.bl (g i j),H,I,rfl,q⟩
def CMul(i j:Int):Prop:=(-(2^64)<i/\i<2^64)\/(-(2^64)<j/\j<2^64)
def CMul.ok(h:CMul i j):eB i j:=by
 rcases h with⟨h1,h2⟩|⟨h1,h2⟩
 . exact .of_left (intBits_le_64 h1 h2)
 . exact .of_right (intBits_le_64 h1 h2)
def op_add:OpR X (lE .Add) (rI0 λi j=>.int (i+j)):=opI0 λ_ _ _ _ _ _ _ q=>add_int q
def op_sub:OpR X (lE .Sub) (rI0 λi j=>.int (i-j)):=opI0 λ_ _ _ _ _ _ _ q=>sub_int q
def op_mod:OpR X (lE .Mod) (rI (λ_ j=>0<j) λi j=>.int (i%j)):=opI λi j _ _ _ _ _ hc q=>by exact mod_int' (by lia) (by rw[Int.fmod_eq_emod_of_nonneg i (by lia)];exact q)
def unI{g:Int->Int}(rule:∀i t s Q E,Q (.int (g i) s.toks) {s with toks:=s.toks+1}->bP (bK X.prog X.w) X.A (f (.int i t)) Q E s) :
  UnR X f (rU λi=>.int (g i)):=by
 intro aC s σ H x v Q I rx h;obtain⟨i,rfl,q⟩:=h;obtain⟨t,rfl⟩:=rx;exact rule i t s _ _ ⟨.int (g i),H,I.tok _,⟨_,rfl⟩,q⟩
def un_neg:UnR X (unaryOp .USub) (rU λi=>.int (-i)):=unI λ_ _ _ _ _ q=>neg_int q
section
variable{a b c:Expr}{ta tb tc:TE}
def QX(I:Inv X aC σ H s)(q:Q (.bl k) H)(e:k=k'):EP X aC σ Q (.bool k') s:=by subst e;exact⟨.bl k,H,I,rfl,q⟩
def op_lt:OpR X (dS .Lt) (rI0 λi j=>.bl (decide (i<j))):=opB0 λ_ _ _ _ _ _ _ q=>lt_int q
def op_le:OpR X (dS .LtE) (rI0 λi j=>.bl (decide (i<=j))):=opB0 λ_ _ _ _ _ _ _ q=>le_int q
def op_gt:OpR X (dS .Gt) (rI0 λi j=>.bl (decide (j<i))):=opB0 λ_ _ _ _ _ _ _ q=>gt_int q
def op_ge:OpR X (dS .GtE) (rI0 λi j=>.bl (decide (j<=i))):=opB0 λ_ _ _ _ _ _ _ q=>ge_int q
def WL:OpR X (dS .In) (λx y H Q=>∃i j,x=.str i/\y=.str j/\Q (.bl (!(Builtin.Str.occurrences j i 0 j.length 1).isEmpty)) H):=by intro aC s σ H x y v u Q I rx ry h;obtain⟨i,j,rfl,rfl,q⟩:=h;obtain⟨t,rfl⟩:=rx;obtain⟨t',rfl⟩:=ry;exact in_str (QX I q rfl)
def aCa:OpR X (dS .Is) (λx y H Q=>y=.non/\Q (.bl (decide (x=.non))) H):=by
 intro aC s σ H x y v u Q I rx ry h;obtain⟨rfl,q⟩:=h;cases ry;refine is_none_gen (QX I q ?_)
 cases x<;>first
  |(cases rx;rfl)
  |(obtain⟨t,rfl⟩:=rx;rfl)
def TV:OpR X (dS .IsNot) (λx y H Q=>y=.non/\Q (.bl (!decide (x=.non))) H):=by
 intro aC s σ H x y v u Q I rx ry h;obtain⟨rfl,q⟩:=h;cases ry;refine isnot_none_gen (QX I q ?_)
 cases x<;>first
  |(cases rx;rfl)
  |(obtain⟨t,rfl⟩:=rx;rfl)
def OpR.or(h:OpR X f r)(h':OpR X f r'):OpR X f (λx y H Q=>r x y H Q\/r' x y H Q):=by
 intro aC s σ H x y v u Q I rx ry q;rcases q with q|q
 . exact h aC s σ H x y v u Q I rx ry q
 . exact h' aC s σ H x y v u Q I rx ry q
def lM b(h:op≠.In:=by decide)(h2:op≠.NotIn:=by decide):dH op b=false:=by
 have e1:(op==CmpOp.In)=false:=by cases op<;>first|rfl|exact absurd rfl h
 have e2:(op==CmpOp.NotIn)=false:=by cases op<;>first|rfl|exact absurd rfl h2
 cases b<;>simp[dH,e1,e2]
def TM(ho:OpR X (dS op) r)(ha:PE X a ta)(hb:PE X b tb)(hm:dH op b=false):PE X (.Compare a [op] [b] pos) (tOp r ta tb):=by intro aC s σ H Q I h;exact wpAny_Compare1 (binT ha hb I h λv u s2 x y H2 I2 rx ry q=>ho aC s2 σ H2 x y v u Q I2 rx ry q) hm
def tTest(t:TE):TT:=λσ H Q=>t σ H λx H'=>∃k,x=.bl k/\Q k H'
def SW(ho:OpR X (dS op) r)(ha:PE X a ta)(hb:PE X b tb)(hm:dH op b=false):PT X (.Compare a [op] [b] pos) (tTest (tOp r ta tb)):=by intro aC s σ H Q I h;refine wpAny_isTrue_Compare1 (thn (ha aC s σ H _ I h) λv s1 ⟨x,H1,I1,r1,q1⟩=>thn (hb aC s1 σ H1 _ I1 q1) λu s2 ⟨y,H2,I2,r2,q2⟩=>thn (ho aC s2 σ H2 x y v u _ I2 r1 r2 q2) λc s3 ⟨z,H3,I3,r3,k,e,q3⟩=>?_) hm;subst e;cases r3;exact fU ⟨H3,I3,q3⟩
def TruV(K:aN)(x:V)(H:Hp)(k:Bool):Prop:=
 match x with
 |.non=>k=false
 |.bl b=>k=b
 |.int i=>k=(i != 0)
 |.str y=>y.length<=sizeLine/\k=((y.length:Int) != 0)
 |.byt y=>y.size<=sizeLine/\k=((y.size:Int) != 0)
 |.ref p=>(∃xs,SqL K H p xs/\k=!xs.isEmpty)\/(∃xs,SqT K H p xs/\k=!xs.isEmpty)\/∃kvs,H p=some (.dK kvs)/\k=!kvs.isEmpty
 |_=>False
def QL(r:KV kvs vs):(!vs.isEmpty)=!kvs.isEmpty:=by cases r<;>rfl
def DX(r:Vals xs its):(!its.toArray.isEmpty)=!xs.isEmpty:=by cases r<;>simp
def rQ:(sizeLine:Nat)<2^63:=by rw[oJ];decide
def tru_ok:TruR X (λx H Q=>∃k,TruV X.K x H k/\Q k H):=by
 intro aC s σ H x v Q I rx h;obtain⟨k,e,q⟩:=h;have hs:=oJ;cases x with
 |non=>cases rx;have e':=e;subst e';exact truthy_none ⟨H,I,q⟩
 |bl b=>cases rx;have e':=e;subst e';exact fU ⟨H,I,q⟩
 |int i=>obtain⟨t,rfl⟩:=rx;have e':=e;subst e';exact PySem.P.truthy_int ⟨H,I,q⟩
 |str y=>obtain⟨t,rfl⟩:=rx;obtain⟨hy,e'⟩:=e;subst e';exact PySem.P.truthy_str (by lia) ⟨H,I.tok _,q⟩
 |byt y=>obtain⟨t,rfl⟩:=rx;obtain⟨hy,e'⟩:=e;subst e';exact PySem.W.truthy_bytes (by lia) ⟨H,I.tok _,q⟩
 |ref p=>
   cases rx;have e':=e;rcases e' with⟨xs,hx,e'⟩|⟨xs,hx,e'⟩|⟨kvs,hx,e'⟩
   . subst e';obtain⟨its,r,pl,hz⟩:=I.list hx;have hlen:=r.length;exact wpAny_truthy_list pl.isList (by simp[aX];lia) ⟨H,I.tok _,by rw[DX r];exact q⟩
   . subst e';obtain⟨its,r,pl,hz⟩:=I.tuple hx;have hlen:=r.length;exact truthy_tuple pl (by simp[aX];lia) ⟨H,I.tok _,by rw[DX r];exact q⟩
   . subst e';obtain⟨hz,hS,vs,r,m⟩:=I.hok p _ hx;have hlen:=FY.length r;exact wpAny_truthy_dict hS m (by lia) ⟨H,I.tok _,by rw[QL r];exact q⟩
 |_=>exact(e).elim
def aAx(ha:PE X a ta)(he:∀whole,FV a X.env whole=(do let v <- whole;lD a.pos;gC [v] (truthy v))) :
  PT X a (λσ H Q=>ta σ H λx H'=>∃k,TruV X.K x H' k/\Q k H'):=by
 intro aC s σ H Q I h;exact isTrue_plain (thn (ha aC s σ H _ I h) λv s1 ⟨x,H1,I1,r1,q1⟩=>tru_ok aC s1 σ H1 x v Q I1 r1 q1) (he _)
def PY:OpR X (lE .Add) (λx y H Q=>∃i j,x=.str i/\y=.str j/\i.length+j.length<=sizeLine/\Q (.str (i++j)) H):=by intro aC s σ H x y v u Q I rx ry h;obtain⟨i,j,rfl,rfl,hz,q⟩:=h;obtain⟨t,rfl⟩:=rx;obtain⟨t',rfl⟩:=ry;exact add_str (λt' tk=>⟨.str (i++j),H,I.tok _,⟨_,rfl⟩,q⟩) hz
def vals1(r:Vals [x] us):∃u,us=[u]/\RelV x u:=by
 cases r with
 |cons r1 r2=>cases r2;exact⟨_,rfl,r1⟩
def vals2(r:Vals [x,y] us):∃u w',us=[u,w']/\RelV x u/\RelV y w':=by
 cases r with
 |cons r1 r2=>
   cases r2 with
   |cons r3 r4=>cases r4;exact⟨_,_,rfl,r1,r3⟩
def YG(hc:X.calm=true):CallR X (.builtin "max") (λxs H Q=>∃i j,xs=[.int i,.int j]/\Q (.int (if j>i then j else i)) H):=by
 intro aC s σ H xs us Q I r h;obtain⟨i,j,rfl,q⟩:=h;obtain⟨u,w',rfl,⟨t,rfl⟩,⟨t',rfl⟩⟩:=vals2 r;refine max_two_ints (I.ok.hd hc) λh' tk k=>⟨_,H,I.kept k,?_,q⟩
 by_cases hj:j>i
 . rw[if_pos hj,if_pos hj];exact⟨_,rfl⟩
 . rw[if_neg hj,if_neg hj];exact⟨_,rfl⟩
def YF(hc:X.calm=true):CallR X (.builtin "min") (λxs H Q=>∃i j,xs=[.int i,.int j]/\Q (.int (if j<i then j else i)) H):=by
 intro aC s σ H xs us Q I r h;obtain⟨i,j,rfl,q⟩:=h;obtain⟨u,w',rfl,⟨t,rfl⟩,⟨t',rfl⟩⟩:=vals2 r;refine min_two_ints (I.ok.hd hc) λh' tk k=>⟨_,H,I.kept k,?_,q⟩
 by_cases hj:j<i
 . rw[if_pos hj,if_pos hj];exact⟨_,rfl⟩
 . rw[if_neg hj,if_neg hj];exact⟨_,rfl⟩
def YJ:CallR X (.type "int") (λxs H Q=>(∃i,xs=[.int i]/\Q (.int i) H)\/∃k,xs=[.bl k]/\Q (.int (if k then 1 else 0)) H):=by
 intro aC s σ H xs us Q I r h;rcases h with⟨i,rfl,q⟩|⟨k,rfl,q⟩
 . obtain⟨u,rfl,t,rfl⟩:=vals1 r;exact call_int_int ⟨.int i,H,I,⟨_,rfl⟩,q⟩
 . obtain⟨u,rfl,r1⟩:=vals1 r;cases r1;exact call_int_bool ⟨.int (if k then 1 else 0),H,I.tok _,⟨_,rfl⟩,q⟩
end
structure ObjM(h:Heap)(x dx C:aD)(mA:Str->Option aI):Prop where
 obj:h.get? x=some (fB C dx)
 ns:h.Ns1 dx mA
 ne:dx≠x
def XA{h:Heap}(n:h.Ns1 dx mA):∃od,h.get? dx=some od/\∀name,oN name od=some (mA name):=by
 obtain⟨o,es,ep,ho,hd,hk,_,hm⟩:=n;refine⟨o,ho,λname=>?_⟩;have e:=hm name;unfold nsFind findBy at e;rw[<-Array.find?_toList]at e;unfold oN;rw[hd];dsimp only;split
 . rename_i y q;rw[q]at e;exact congrArg some e
 . rename_i q;rw [q]at e;have a:es.toList.any (·.refKey)=false:=by rw[List.any_eq_false];intro y hy;obtain⟨z,t,hkey⟩:=hk y (Array.mem_toList_iff.mp hy);simp[DictEntry.refKey,hkey]
   have a':¬es.toList.any (·.refKey)=true:=by rw[a];exact dO
   rw[if_neg a'];exact congrArg some e
def ObjM.look(I:ObjM h x dx C mA):∃od,PySem.W.InstAt h x (fB C dx) C (some od)/\∀name,oN name od=some (mA name):=
 let ⟨od,ho,hl⟩:=XA I.ns
 ⟨od,⟨I.obj,rfl,rfl,ho⟩,hl⟩
section
variable{K:aN}
def get_map(X:K.In s.heap)(I:ObjM s.heap x dx C mA)(hg:iX K C name=true)(hh:mP K C=true)(ha:cB K (.ref C) name=some none)(hv:mA name=some v)(hv':RK v=true)(h:Q v {s with toks:=s.toks+1}) :
  bP (bK prog w) A (getAttr (.ref x) name expr) Q E s:=by
 obtain⟨od,J,hl⟩:=I.look;exact PySem.W.get_value X J (pN hg).1 (PySem.W.findObj_own hh ha rfl (by rw[hl,hv])) hv' h
def aDk(X:K.In s.heap)(I:ObjM s.heap x dx C mA)(hg:iX K C name=true)(hf:cB K (.ref C) name=some (some (.ref f)))(ht:lQ K (.ref f)=true)(hv:mA name=none)(h:Q (.ref f,[.ref x]) s) :
  bP (bK prog w) A (mC (.ref x) name pl) Q E s:=by
 obtain⟨od,J,hl⟩:=I.look;exact PySem.W.method_fn X J (pN hg).1 (pN hg).2 hf (beq_iff_eq.mp ht) (by show(oN name od).map (·.isSome)=some false;rw[hl,hv];rfl) h
def set_map(X:K.In s.heap)(I:ObjM s.heap x dx C mA)(hs:cB K (.ref C) "__setattr__" = some (some (.builtin "object.__setattr__")))(hp:rZ K C=true)(ht:uS K C name=some none)(hh:mP K C=true)(hw:PySem.Within mA ns)(hsz:ns.length<=sizeLine)(h:∀h',ObjM h' x dx C (λy=>if y=name then some v else mA y)->Heap.SameBut dx s.heap h'->Q () {s with heap:=h',toks:=s.toks+2}) :
  bP (bK prog w) A (setAttr (.ref x) name v) Q E s:=by
 obtain⟨od,J,hl⟩:=I.look;refine PySem.W.set_plain X J hs (PySem.W.osa_open X J hp ht λb=>?_);obtain⟨cd,hc,hd'⟩:=PySem.W.any_some hh;have hx:=I.obj;refine aZ (bV (aZ (aZ (wpAny_loadPart hx (aZ (PySem.W.Looks.here (PySem.W.looks_clsIn X hc) ?_))))));rw[hd'];refine bV (aZ (bV (aZ ?_)));refine wpAny_nsSet1 I.ns λh' hn2 hs2=>?_;obtain⟨oD,esD,epD,hoD,hdD,hcD⟩:=hn2.count (PySem.Within.cons name v hw);refine aZ (wpAny_lookBehind hoD (by rw[hdD];exact pastItsLine_dict (cD hcD (by rw[aG];lia))) ?_);exact bV (h _ ⟨(hs2.2 _ (Ne.symm I.ne)).trans I.obj,hn2,I.ne⟩ hs2)
def aCw(X:K.In s.heap)(hm:uT K C=true)(hi:cB K (.ref C) "__init__" = some (some (.ref f)))(hf:YO K (.ref f)=some (.type "function"))(h:gW (bK prog w) (A.under (.builtin "type.__call__" ⟨.ref C::vs,kw⟩)) (.call (.ref f) ⟨.ref (s.heap.objs.size+1)::vs,kw⟩) (PySem.W.InitBack (s.heap.objs.size+1) R)
    {s with heap:=(s.heap.push eK).push (fB C s.heap.objs.size)}) :
  gW (bK prog w) A (.call (.ref C) ⟨vs,kw⟩) R s:=by
 exact PySem.W.make_core (PySem.W.makes_of X hm) (PySem.W.looks_findIn X hi) (λself=>PySem.W.bind_fn X self hf) (.inl rfl) h
end
noncomputable def putF(f:Str)(v:V):List (Str×V)->List (Str×V)
 |[]=>[(f,v)]
 |(g,x)::r=>if g=f then (g,v)::r else (g,x)::putF f v r
theorem AH f g v:∀fs,(putF f v fs).lookup g=if g=f then some v else fs.lookup g
 |[]=>by
   show List.lookup g [(f,v)]=_;by_cases h:g=f
   . have hb:(g==f)=true:=beq_iff_eq.mpr h;simp only[List.lookup,hb,if_pos h]
   . have hb:(g==f)=false:=beq_eq_false_iff_ne.mpr h;simp only[List.lookup,hb,if_neg h]
 |(k,x)::r=>by
   have ih:=AH f g v r;rw[show putF f v ((k,x)::r)=(if k=f then (k,v)::r else (k,x)::putF f v r) from rfl];by_cases hk:k=f
   . rw [if_pos hk];by_cases h:g=k
     . have hb:(g==k)=true:=beq_iff_eq.mpr h;simp only[List.lookup,hb,if_pos (h.trans hk)]
     . have hb:(g==k)=false:=beq_eq_false_iff_ne.mpr h;simp only[List.lookup,hb,if_neg (λe:g=f=>h (e.trans hk.symm))]
   . rw [if_neg hk];by_cases h:g=k
     . have hb:(g==k)=true:=beq_iff_eq.mpr h;simp only[List.lookup,hb,if_neg (λe:g=f=>hk (h.symm.trans e))]
     . have hb:(g==k)=false:=beq_eq_false_iff_ne.mpr h;simp only[List.lookup,hb];exact ih
theorem uG f v:∀fs,f∈(putF f v fs).map (·.1)/\∀g,g∈fs.map (·.1)->g∈(putF f v fs).map (·.1)
 |[]=>⟨by simp[putF],λg h=>by simp at h⟩
 |(k,x)::r=>by
   obtain⟨i1,i2⟩:=uG f v r;rw[show putF f v ((k,x)::r)=(if k=f then (k,v)::r else (k,x)::putF f v r) from rfl];by_cases hk:k=f
   . rw[if_pos hk];subst hk;exact⟨by simp,λg h=>by simpa using h⟩
   . rw [if_neg hk];refine ⟨?_,λg h=>?_⟩
     . rw[aK];exact aH _ i1
     . rw [aK]at h ⊢;rcases aA.mp h with e|e
       . exact aA.mpr (.inl e)
       . exact aH _ (i2 g e)
theorem AJ f v:∀fs,(putF f v fs).length<=fs.length+1
 |[]=>by simp[putF]
 |(k,x)::r=>by
   have ih:=AJ f v r;rw[show putF f v ((k,x)::r)=(if k=f then (k,v)::r else (k,x)::putF f v r) from rfl];by_cases hk:k=f
   . rw[if_pos hk,aG,aG];omega
   . rw[if_neg hk,aG,aG];omega
def RelO.some_of(r:RelO (some v) o):∃u,o=some u/\RelV v u:=by
 cases o with
 |none=>exact(r).elim
 |some u=>exact⟨u,rfl,r⟩
def RelO.none_of(r:RelO none o):o=none:=by
 cases o with
 |none=>rfl
 |some u=>exact(r).elim
def XS(r:RelV v u):RK u=true:=by
 cases v with
 |non=>cases(r);rfl
 |bl b=>cases(r);rfl
 |int i=>obtain⟨t,e⟩:=(r);cases e;rfl
 |str x=>obtain⟨t,e⟩:=(r);cases e;rfl
 |byt b=>obtain⟨t,e⟩:=(r);cases e;rfl
 |flt b=>obtain⟨t,e⟩:=(r);cases e;rfl
 |ref a=>cases(r);rfl
 |ty n=>cases(r);rfl
def BS(hok:HOk P w H h)(e:H a=some (.ins C dx fs)):∃mA,ObjM h a dx C mA/\(∀f,RelO (fs.lookup f) (mA f))/\PySem.Within mA (fs.map (·.1))/\fs.length<=1000/\H dx=some (.own a):=by
 obtain⟨d,z,ne,ob,mA,n,r,q⟩:=(hok a _ e)
 exact⟨mA,⟨ob,n,ne⟩,r,q,z,d⟩
structure Cls(K:aN)(C:aD):Prop where
 pg:iX K C Str.empty=true
 hd:mP K C=true
 po:rZ K C=true
 sa:cB K (.ref C) "__setattr__" = some (some (.builtin "object.__setattr__"))
def Cls.get{K:aN}(c:Cls K C) f:iX K C f=true:=c.pg
def NoAttr(K:aN)(C:aD)(f:Str):Prop:=cB K (.ref C) f=some none
def NoAttr.taker{K:aN}(n:NoAttr K C f):uS K C f=some none:=by unfold uS;rw[show cB K (.ref C) f=some none from n];rfl
structure Meth(K:aN)(C:aD)(m:Str)(f:aD):Prop where
 at_:cB K (.ref C) m=some (some (.ref f))
 fn:lQ K (.ref f)=true
 kp:bO K (.ref f)=true
def QN(I:Inv X aC σ H s)(e:H a=some (.ins C dx fs))(c:Cls X.K C)(n:NoAttr X.K C f)(l:fs.lookup f=some v)(h:∀u s',Inv X aC σ H s'->RelV v u->Q u s'):bP (bK X.prog X.w) A (getAttr (.ref a) f b) Q E s:=by obtain⟨mA,O,r,_,_,_⟩:=BS I.hok e;obtain⟨u,hu,ru⟩:=RelO.some_of (by rw[<-l];exact r f);exact get_map I.kIn O (c.get f) c.hd n hu (XS ru) (h u _ (I.tok _) ru)
def DZ(I:Inv X aC σ H s)(e:H a=some (.ins C dx fs))(c:Cls X.K C)(k:Meth X.K C m g)(l:fs.lookup m=none)(h:Q (.ref g,[.ref a]) s):bP (bK X.prog X.w) A (mC (.ref a) m pl) Q E s:=by obtain⟨mA,O,r,_,_,_⟩:=BS I.hok e;have hn:=RelO.none_of (by rw[<-l];exact r m);exact aDk I.kIn O (c.get m) k.at_ k.fn hn h
def PJ(I:Inv X aC σ H s)(e:H a=some (.ins C dx fs))(c:Cls X.K C)(n:NoAttr X.K C f)(hl:fs.length<1000)(ry:RelV y u)(h:∀s',Inv X aC σ (upd H a (.ins C dx (putF f y fs))) s'->Q () s'):bP (bK X.prog X.w) A (setAttr (.ref a) f u) Q E s:=by
 obtain⟨mA,O,r,wi,_,ho⟩:=BS I.hok e;have hz:(fs.map (·.1)).length<=sizeLine:=by rw[cA,oJ];lia
 refine set_map I.kIn O c.sa c.po n.taker c.hd wi hz λh' O' sb=>h _ ?_;have hd:∃o,h'.get? dx=some o:=let ⟨o,_,_,e',_⟩:=O'.ns;⟨o,e'⟩;refine I.write (by rw[e];exact True.intro) (.inr ho) (λb q hb z=>(sb.2 b hb).trans z) hd ?_;refine⟨by rw[upd_ne O.ne];exact ho,?_,O.ne,O'.obj,_,O'.ns,λg=>?_,λg hg=>?_⟩
 . have:=AJ f y fs;lia
 . show RelO ((putF f y fs).lookup g) (if g=f then some u else mA g);rw [AH];by_cases q:g=f
   . rw[if_pos q,if_pos q];exact ry
   . rw[if_neg q,if_neg q];exact r g
 . by_cases q:g=f
   . rw[q];exact(uG f y fs).1
   . refine(uG f y fs).2 g (wi g λz=>hg ?_);show(if g=f then some u else mA g)=none;rw[if_neg q];exact z
def Inv.made(I:Inv X aC σ H s):Inv X aC σ (upd (upd H s.heap.objs.size (.own (s.heap.objs.size+1))) (s.heap.objs.size+1) (.ins C s.heap.objs.size []))
  {s with heap:=(s.heap.push eK).push (fB C s.heap.objs.size)}:=by
 have e1:(s.heap.push eK).get? s.heap.objs.size=some eK:=aS s.heap rfl;have e2:((s.heap.push eK).push (fB C s.heap.objs.size)).get? (s.heap.objs.size+1)=some (fB C s.heap.objs.size):=by have:=aS (s.heap.push eK) (o:=fB C s.heap.objs.size) rfl;rwa [FF]at this
 have e3:(s.heap.push eK).Ns s.heap.objs.size (λ_=>none):=⟨eK,#[],_,e1,rfl,(λe he=>absurd he (by simp)),λ_=>rfl⟩
 have I1:=I.laid (o:=.own (s.heap.objs.size+1)) (t':=s.toks) (λb u q=>aJ _ q) (aT _) ⟨_,e1⟩;refine I1.laid (λb u q=>aJ _ q) (uW (FF _ _)) ?_;have ne:s.heap.objs.size≠s.heap.objs.size+1:=bM (lF _);refine⟨by rw[upd_ne ne,zO],cR _,ne,e2,λ_=>none,(Heap.Ns1.of_empty e3).at λo q=>aJ _ q,λ_=>True.intro,λy hy=>absurd rfl hy⟩
def attr_of(hb:dB e f env (bU e env)=bU e env)(h:bP (bK prog w) A (bU e env) (λo s₁=>bP (bK prog w) A (getAttr o f true) Q E s₁) E s):bP (bK prog w) A (bU (.Attribute e f pos) env) Q E s:=
 Attribute_any_ h (by rw[arm_eval_Attribute,hb])
def tFld(K:aN)(ta:TE)(f:Str):TE:=λσ H Q=>ta σ H λx H1=>∃a C dx fs v,x=.ref a/\H1 a=some (.ins C dx fs)/\Cls K C/\NoAttr K C f/\fs.lookup f=some v/\Q v H1
def sFld(K:aN)(ta tv:TE)(f:Str):TS:=λD σ H=>tv σ H λy H1=>ta σ H1 λx H2=>∃a C dx fs,x=.ref a/\H2 a=some (.ins C dx fs)/\Cls K C/\NoAttr K C f/\fs.length<1000 ∧
 D.nx σ (upd H2 a (.ins C dx (putF f y fs)))
def aBu(he:PE X e ta)(hb:dB e f X.env (bU e X.env)=bU e X.env):PE X (.Attribute e f pos) (tFld X.K ta f):=by intro aC s σ H Q I h;refine attr_of hb (thn (he aC s σ H _ I h) λu s1 zq=>?_);obtain⟨x,H1,I1,rx,a,C,dx,fs,v,ex,ea,c,n,l,q⟩:=zq;subst ex;obtain rfl:u=aI.ref a:=rx;exact QN I1 ea c n l λu' s2 I2 ru=>⟨v,H1,I2,ru,q⟩
def ps_fld(ha:PE X o ta)(hv:PE X value tv)(hs:eC value (some (.Attribute o f pos')) pos.line X.env=pure false):PS X (.Assign [.Attribute o f pos'] value pos) (sFld X.K ta tv f):=by intro aC s σ H D I h;refine plainObj_wpAny_Assign_Attribute (thn (hv aC s σ H _ I h) λu s1 ⟨y,H1,I1,ry,q⟩=>thn (ha aC s1 σ H1 _ I1 q) λov s2 zq=>?_) hs;obtain⟨x,H2,I2,rx,a,C,dx,fs,ex,ea,c,n,l,q2⟩:=zq;subst ex;obtain rfl:ov=aI.ref a:=rx;exact PJ I2 ea c n l ry λs3 I3=>⟨σ,_,I3,q2⟩
section
variable{H:Hp}
inductive TyOf(K:aN)(H:Hp):V->aI->Prop where
 |non:TyOf K H .non (.type "NoneType")
 |bl (x:Bool):TyOf K H (.bl x) (.type "bool")
 |int (i:Int):TyOf K H (.int i) (.type "int")
 |str (x:Str):TyOf K H (.str x) (.type "str")
 |flt (x:UInt64):TyOf K H (.flt x) (.type "float")
 |lst {a:aD}{xs:List V} (e:H a=some (.lst xs)):TyOf K H (.ref a) (.type "list")
 |frz {a:aD}{o:Obj}{xs:List V} (e:H a=some (.frz o (.lst xs))):TyOf K H (.ref a) (.type "list")
 |tup {a:aD}{xs:List V} (e:H a=some (.tup xs)):TyOf K H (.ref a) (.type "tuple")
 |dK {a:aD}{kvs:List (Key×V)} (e:H a=some (.dK kvs)):TyOf K H (.ref a) (.type "dict")
 |dT {a:aD}{kvs:List (List Key×V)} (e:H a=some (.dT kvs)):TyOf K H (.ref a) (.type "dict")
 |ins {a C dx:aD}{fs:List (Str×V)} (e:H a=some (.ins C dx fs)) (cl:Cls K C) (ha:cB K (.ref C) "__class__" = some (some (.builtin "object.__class__")))
    (hn:PySem.W.specialIn K (.builtin "object.__class__") "__get__" = some (some (.builtin "getset_descriptor.__get__"))) (htk:PySem.W.takesIn K (.builtin "object.__class__")=some true)
    (hm:EU K C (.type "object")=some true):TyOf K H (.ref a) (.ref C)
def XH(I:Inv X aC σ H s)(rx:RelV x u)(ty:TyOf X.K H x t)(e:BG X.K t c=some b)(h:∀tk,Q (.bool b) {s with toks:=tk}) :
  bP (bK X.prog X.w) A (call (.builtin "isinstance") [u,c]) Q E s:=by
 cases ty with
 |non=>cases(rx);exact cK PySem.W.kitx_none I.kIn True.intro e (λz=>nomatch z) h
 |bl y=>cases(rx);exact cK PySem.W.kitx_bool I.kIn True.intro e (λz=>nomatch z) h
 |int i=>obtain⟨t,q⟩:=(rx);cases q;exact cK PySem.W.kitx_int I.kIn True.intro e (λz=>nomatch z) h
 |str y=>obtain⟨t,q⟩:=(rx);cases q;exact cK PySem.W.kitx_str I.kIn True.intro e (λz=>nomatch z) h
 |flt y=>obtain⟨t,q⟩:=(rx);cases q;exact cK PySem.W.kitx_float I.kIn True.intro e (λz=>nomatch z) h
 |@lst a xs ea=>
   cases(rx);obtain⟨_,_,n,_,h1⟩:=(I.hok a _ ea)
   exact cK sA I.kIn ⟨_,h1,rfl⟩ e (λz=>nomatch z) h
 |@frz a ob xs ea=>
   cases(rx);obtain⟨_,_,_,n,_,h1⟩:=(I.hok a _ ea)
   exact cK sA I.kIn ⟨_,h1,rfl⟩ e (λz=>nomatch z) h
 |@tup a xs ea=>
   cases(rx);obtain⟨_,_,_,p⟩:=(I.hok a _ ea)
   obtain⟨o,h1,h2,_⟩:=p;exact cK pX I.kIn ⟨o,h1,h2⟩ e (λz=>nomatch z) h
 |@dK a kvs ea=>
   cases(rx);obtain⟨_,_,vs,_,p⟩:=(I.hok a _ ea)
   obtain⟨o,es,ep,h1,h2,_⟩:=p;exact cK OO I.kIn ⟨o,h1,h2.1⟩ e (λz=>nomatch z) h
 |@dT a kvs ea=>
   cases(rx);obtain⟨_,_,xs,_,o,es,ep,h1,h2,_⟩:=(I.hok a _ ea)
   exact cK OO I.kIn ⟨o,h1,h2.1⟩ e (λz=>nomatch z) h
 |@ins a C dx fs ea cl ha hn htk hm=>cases(rx);obtain⟨mA,O,_⟩:=BS I.hok ea;obtain⟨od,J,_⟩:=O.look;exact cK (PySem.W.kitx_own (cl.get _) cl.hd ha hn htk hm) I.kIn J e (λz=>nomatch z) h
end
structure Room(k:Nat)(A:dP):Prop where
 hd:A.handled=none
 dp:A.depth+3*k+5<recursionLimit
 un:A.units+16*k+200<cLine
def Room.mono(r:Room k A)(h:j<=k):Room j A:=⟨r.hd,by have:=r.dp;lia,by have:=r.un;lia⟩
theorem Room.deeper(r:Room (k+1) A) env:Room k (A.deeper env):=
 ⟨r.hd,by have:=r.dp;show A.depth+1+3*k+5<_;omega,by have:=r.un;show A.units+3+16*k+200<_;omega⟩
def QG{A:dP}:(A.under (.builtin "type.__call__" ⟨.ref C::us,kw⟩)).depth=A.depth+1:=by first|rfl|simp[dP.under,Code.weight,Code.isCreation,Code.isGuard,Code.isCaller,Code.frames,Code.isFrame,guardIds]
def QF{A:dP}:(A.under (.builtin "type.__call__" ⟨.ref C::us,kw⟩)).units=A.units+1:=by first|rfl|simp[dP.under,Code.cUnits,Code.frames,Code.isFrame]
def Room.make(r:Room (k+1) A) C us kw:Room k (A.under (.builtin "type.__call__" ⟨.ref C::us,kw⟩)):=
 ⟨r.hd,by have:=r.dp;rw[QG];lia,by have:=r.un;rw[QF];lia⟩
theorem Room.depth(r:Room k A):A.depth<recursionLimit:=by have:=r.dp;lia
theorem Room.units(r:Room k A):A.units+64<cLine:=by have:=r.un;lia
def tNil:TA:=λ_ H Q=>Q [] H
def tCons(ta:TE)(tr:TA):TA:=λσ H Q=>ta σ H λx H1=>tr σ H1 λxs H2=>Q (x::xs) H2
section
variable{t:TA}
def yP:PA X [] tNil:=λ_ _ _ _ H Q I h=>Calls.spliced_nil ⟨[],H,I,.nil,h⟩
def jA(ha:PE X e te)(hr:PA X es t)(hs:aF (e::es) X.env=(false,bU e X.env)::aF es X.env:=by rfl):PA X (e::es) (tCons te t):=by intro pos aC s σ H Q I h;rw[hs];refine Calls.spliced_cons (thn (ha aC s σ H _ I h) λu s1 zq=>?_);obtain⟨x,H1,I1,r1,q1⟩:=zq;exact thn (hr pos aC s1 σ H1 _ I1 q1) λus s2 ⟨xs,H2,I2,r2,q2⟩=>⟨x::xs,H2,I2,.cons r1 r2,q2⟩
def tTup(t:TA):TE:=λσ H Q=>t σ H λxs H1=>xs.length<=sizeLine/\∀p,H1 p=none->Q (.ref p) (upd H1 p (.tup xs))
def tLst(t:TA):TE:=λσ H Q=>t σ H λxs H1=>xs.length<=sizeLine/\∀p,H1 p=none->Q (.ref p) (upd H1 p (.lst xs))
def aBo{x1}(h:PA X es t):PE X (.Tuple es x1 pos) (tTup t):=by intro aC s σ H Q I hq;refine wpAny_Tuple_spliced (thn (h pos aC s σ H _ I hq) λus s1 ⟨xs,H1,I1,r,z,q⟩=>⟨by rw[<-r.length];exact z,?_⟩);have hf:=I1.hok.fresh (aT _);refine⟨.ref s1.heap.objs.size,upd H1 s1.heap.objs.size (.tup xs),I1.laid (λb u e=>aJ _ e) (aT _) ?_,rfl,q _ hf⟩;exact⟨z,us,r,⟨_,aS _ rfl,rfl,_,rfl⟩⟩
def aBr(h:PA X es t):PE X (.List es pos) (tLst t):=by intro aC s σ H Q I hq;refine wpAny_List_spliced (thn (h pos aC s σ H _ I hq) λus s1 ⟨xs,H1,I1,r,z,q⟩=>⟨by rw[<-r.length];exact z,?_⟩);have hf:=I1.hok.fresh (aT _);refine⟨.ref s1.heap.objs.size,upd H1 s1.heap.objs.size (.lst xs),I1.laid (λb u e=>aJ _ e) (aT _) ?_,rfl,q _ hf⟩;exact⟨z,us,0,r,aS _ rfl⟩
end
abbrev Sp:=List V->Hp->VK->XK->Prop
abbrev CXT:=List Env->Hp->aY->XK->aI->aY->Prop
structure Env0(P:bY)(w:cU)(K:aN)(mg:Str->Option aI)(base:Heap)(A:dP)(outer:List Env)(s:aY)(H:Hp):Prop where
 frames:A.frames=some outer
 mod:Mod K mg base
 bs:∀b o,base.get? b=some o->s.heap.get? b=some o/\H b=none
 bsz:Bsz K mg base s.heap H
 funs:s.heap.FunFrames base outer
 frf:∀b∈frs outer,H b=none
 hok:HOk P w H s.heap
 bare:pZ s.gens
def CE(outer:List Env)(P:bY)(w:cU)(H:Hp)(s:aY)(Q:VK)(u:aI)(s':aY):Prop:=
 ∃v H',s'.os=s.os/\pZ s'.gens/\Un (frs outer) [] H H' s.heap s'.heap/\HOk P w H' s'.heap/\RelV v u/\Q v H'
def CR(CX:CXT)(outer:List Env)(P:bY)(w:cU)(H:Hp)(s:aY)(Q:VK)(E:XK)(r:Result)(s':aY):Prop:=
 match r with
 |.ok (.ret u)=>CE outer P w H s Q u s'
 |.ok _=>False
 |.error e=>CX outer H s E e s'
structure FnOk(P:bY)(w:cU)(K:aN)(mg:Str->Option aI)(base:Heap)(CX:CXT)(k:Nat)(f:aD)(fd:bE)(ps:List Str)(sp:Sp):Prop where
 len:∀vs H Q E,sp vs H Q E->vs.length=ps.length
 run:∀(A:dP) (outer:List Env) (s:aY) (H:Hp) (args:Args) (us:List aI) (vs:List V) (Q:VK) (E:XK),Room k A->Env0 P w K mg base A outer s H->YX s fd args (ps.zip us)->Vals vs us->sp vs H Q E →
  gW (bK P w) A (.call (.ref f) args) (CR CX outer P w H s Q E) s
theorem FnOk.mono{K:aN}(F:FnOk P w K mg base CX j f fd ps sp)(h:j<=k) :
  FnOk P w K mg base CX k f fd ps sp:=⟨F.len,λA outer s H args us vs Q E hr=>F.run A outer s H args us vs Q E (hr.mono h)⟩
def FnOk.imp{K:aN}(F:FnOk P w K mg base CX k f fd ps sp)(h:∀vs H Q E,sp' vs H Q E->sp vs H Q E):FnOk P w K mg base CX k f fd ps sp':=
 ⟨λvs H Q E q=>F.len vs H Q E (h _ _ _ _ q),λA outer s H args us vs Q E hr he hb hv hs=>F.run A outer s H args us vs Q E hr he hb hv (h _ _ _ _ hs)⟩
def Env0.make{K:aN}(e:Env0 P w K mg base A outer s H) C us kw :
  Env0 P w K mg base (A.under (.builtin "type.__call__" ⟨.ref C::us,kw⟩)) outer s H:=⟨by first|exact e.frames|(simpa[dP.under,Code.envs,Code.isFrame,pushEnvs]using e.frames),e.mod,e.bs,e.bsz,e.funs,e.frf,e.hok,e.bare⟩
def Inv.tabsH(I:Inv X aC σ H s):TabsK X.K X.mg X.base H:=⟨I.ok.bsz.2.bm,λx c P hx ht=>⟨(I.ok.bsz.2.tab x c P hx ht).1,I.base.tbls _ _ (I.ok.bsz.2.tab x c P hx ht).2⟩⟩
def Inv.env0(I:Inv X aC σ H s):Env0 X.prog X.w X.K X.mg X.base X.A X.stack s H:=
 ⟨I.ok.frames,I.ok.mod,I.bs,⟨cD I.ok.bsz.1 I.sz,I.tabsH⟩,I.stack,I.stkFree,I.hok,I.bare⟩
def Inv.after(I:Inv X aC σ H s)(h:CE X.stack X.prog X.w H s Q u s'):EP X aC σ Q u s':=by obtain⟨v,H',os,bare,un,hok,r,q⟩:=h;obtain⟨hh,g,d,t,os'⟩:=s';obtain rfl:os'=s.os:=os;exact⟨v,H',I.call un hok bare (λb z=>absurd z (by simp)),r,q⟩
def tCall(sp:Sp)(dvs:List V)(E:XK)(t:TA):TE:=λσ H Q=>t σ H λvs H1=>sp (vs++dvs) H1 Q E
def tMake(C:aD)(sp:Sp)(dvs:List V)(E:XK)(t:TA):TE:=λσ H Q=>t σ H λvs H1=>∀x dx,H1 x=none->H1 dx=none->dx≠x →
 sp (.ref x::(vs++dvs)) (upd (upd H1 dx (.own x)) x (.ins C dx [])) (λv H2=>v=.non/\Q (.ref x) H2) E
def Binds(K:aN)(fd:bE)(ps:List Str)(ds:List aI):Prop:=
 ∀(s:aY) (us:List aI),K.In s.heap->(us++ds).length=ps.length->YX s fd ⟨us,[]⟩ (ps.zip (us++ds))
def Binds.all{K:aN}(h:∀us,us.length=ps.length->pM fd ⟨us,[]⟩=pure (ps.zip us)):Binds K fd ps []:=λs us _ hl=>by rw[cO]at hl ⊢;exact .of_eq (h us hl)
def EQ(CX:CXT)(X:Cx)(E:XK):Prop:=∀(aC:List (aD×Obj)) (σ:St) (H:Hp) (s:aY) (e:aI) (s':aY),Inv X aC σ H s->CX X.stack H s E e s'->X.xe e s'
section
variable{f C:aD}
def PK(F:FnOk X.prog X.w X.K X.mg X.base CX k f fd ps sp)(hr:Room k X.A)(hb:Binds X.K fd ps ds)(hd:Vals dvs ds)(hx:EQ CX X E)(I:Inv X aC σ H s)(r:Vals vs us)(h:sp (vs++dvs) H Q E):bP (bK X.prog X.w) X.A (call (.ref f) us) (EP X aC σ Q) X.xe s:=by
 have r2:=r.append hd;have hl:(us++ds).length=ps.length:=by rw[<-r2.length];exact F.len _ _ _ _ h
 refine BA (iF (F.run X.A X.stack s H ⟨us,[]⟩ (us++ds) (vs++dvs) Q E hr I.env0 (hb s us I.kIn hl) r2 h) λr s' hq=>?_);cases r with
 |error e=>exact hx aC σ H s e s' I hq
 |ok fl=>
   cases fl with
   |ret u=>exact I.after hq
   |next=>exact False.elim hq
   |brk=>exact False.elim hq
   |cont=>exact False.elim hq
def sT(F:FnOk X.prog X.w X.K X.mg X.base CX k f fd ps sp)(hr:Room k X.A)(hg:Gl X x)(hm:X.mg x=some (.ref f))(hk:bO X.K (.ref f)=true)(hb:Binds X.K fd ps ds)(hd:Vals dvs ds)(hx:EQ CX X E)(ha:PA X (e::es) t)(hdb:(x==("__debug__" : Str))=false:=by decide)(he:aF (e::es) X.env=(false,bU e X.env)::aF es X.env:=by rfl)(hpl:(cY pos (aF es X.env)).any (·.1)=false:=by rfl) :
  PE X (.Call (.Name x p) (e::es) [] pos) (tCall sp dvs E t):=by
 intro aC s σ H Q I h;refine eO (BP I hg hm ?_ hdb);refine mE I.ok.mod.kin hk (thn (ha pos aC s σ H _ I h) λus s1 ⟨vs,H1,I1,r,q⟩=>⟨I1.kIn,?_⟩) he hpl;exact PK F hr hb hd hx I1 r q
structure Mk(K:aN)(C f:aD):Prop where
 makes:uT K C=true
 init:cB K (.ref C) "__init__" = some (some (.ref f))
 fn:lQ K (.ref f)=true
 kp:bO K (.ref C)=true
def aAg(M:Mk X.K C f)(F:FnOk X.prog X.w X.K X.mg X.base CX k f fd ps sp)(hr:Room (k+1) X.A)(hb:Binds X.K fd ps ds)(hd:Vals dvs ds)(hx:EQ CX X E)(I:Inv X aC σ H s)(r:Vals vs us)(h:∀x dx,H x=none->H dx=none->dx≠x->sp (.ref x::(vs++dvs)) (upd (upd H dx (.own x)) x (.ins C dx [])) (λv H2=>v=.non/\Q (.ref x) H2) E) :
  bP (bK X.prog X.w) X.A (call (.ref C) us) (EP X aC σ Q) X.xe s:=by
 have hq:=h (s.heap.objs.size+1) s.heap.objs.size (I.hok.fresh (RM _)) (I.hok.fresh (aT _)) (bM (lF _));have I2:=Inv.made (C:=C) I;have r2:Vals (V.ref (s.heap.objs.size+1)::(vs++dvs)) (aI.ref (s.heap.objs.size+1)::(us++ds)):=.cons rfl (r.append hd);have hl:(aI.ref (s.heap.objs.size+1)::us++ds).length=ps.length:=by have e:=r2.length;rw[F.len _ _ _ _ hq]at e;exact e.symm
 refine BA (aCw I.kIn M.makes M.init (beq_iff_eq.mp M.fn) (iF (F.run _ X.stack _ _ ⟨aI.ref (s.heap.objs.size+1)::us,[]⟩ (aI.ref (s.heap.objs.size+1)::(us++ds)) _ _ E (hr.make C us [])
  (I2.env0.make C us []) (hb _ (aI.ref (s.heap.objs.size+1)::us) I2.kIn hl) r2 hq) λr s' hq'=>?_))
 cases r with
 |error e=>exact hx aC σ _ _ e s' I2 hq'
 |ok fl=>
   cases fl with
   |ret u=>obtain⟨v,H',I3,rv,ev,q3⟩:=I2.after hq';subst ev;exact⟨rv,⟨V.ref (s.heap.objs.size+1),H',I3,rfl,q3⟩⟩
   |next=>exact False.elim hq'
   |brk=>exact False.elim hq'
   |cont=>exact False.elim hq'
def pe_make(M:Mk X.K C f)(F:FnOk X.prog X.w X.K X.mg X.base CX k f fd ps sp)(hr:Room (k+1) X.A)(hg:Gl X x)(hm:X.mg x=some (.ref C))(hb:Binds X.K fd ps ds)(hd:Vals dvs ds)(hx:EQ CX X E)(ha:PA X (e::es) t)(hdb:(x==("__debug__" : Str))=false:=by decide)(he:aF (e::es) X.env=(false,bU e X.env)::aF es X.env:=by rfl)(hpl:(cY pos (aF es X.env)).any (·.1)=false:=by rfl) :
  PE X (.Call (.Name x p) (e::es) [] pos) (tMake C sp dvs E t):=by
 intro aC s σ H Q I h;refine eO (BP I hg hm ?_ hdb);refine mE I.ok.mod.kin M.kp (thn (ha pos aC s σ H _ I h) λus s1 ⟨vs,H1,I1,r,q⟩=>⟨I1.kIn,?_⟩) he hpl;exact aAg M F hr hb hd hx I1 r q
end
section
variable{fd:bE}{ps ks:List Str}{sp:Sp}{E:XK}{t tk:TA}
end
structure FnScope(N P:List Str)(sc:Scope):Prop where
 kind:sc.kind=.function:=by rfl
 co:sc.isCoroutine=false:=by rfl
 gen:sc.isGenerator=false:=by rfl
 nd:N.Nodup:=by decide +kernel
 pre:N.take P.length=P:=by rfl
 par:∀x∈P,sc.names.lookup x=some .local\/sc.names.lookup x=some .cell:=by decide +kernel
 nofree:∀y∈sc.names,y.2≠.free:=by decide +kernel
theorem IB{kindOf:Str->Option hV}:∀{binds:List (Str×aI)}{m:Str->Option aI},(∀v,(x,v)∉binds)->VH kindOf binds m x=m x
 |[],_,_=>rfl
 |(n,v)::r,m,h=>by
   unfold VH;rw[IB λw hw=>h w (aH _ hw)];split
   . have:x≠n:=by rintro rfl;exact h v aE
     simp[this]
   . rfl
theorem ID{kindOf:Str->Option hV}:∀{binds:List (Str×aI)}{m:Str->Option aI},(∀v,(x,v)∉binds)->VI kindOf binds m x=m x
 |[],_,_=>rfl
 |(n,v)::r,m,h=>by
   unfold VI;rw[ID λw hw=>h w (aH _ hw)];split
   . rfl
   . have:x≠n:=by rintro rfl;exact h v aE
     simp[this]
theorem IC{kindOf:Str->Option hV}:∀{P:List Str}{vs:List aI}{i:Nat}{m:Str->Option aI},P.Nodup->P[i]?=some x->vs[i]?=some v->kindOf x=some .local →
  VH kindOf (P.zip vs) m x=some v
 |[],_,_,_,_,h,_,_=>by simp at h
 |_::_,[],_,_,_,_,h,_=>by simp at h
 |p::P,w::vs,0,m,nd,h1,h2,hk=>by simp at h1 h2;subst h1;subst h2;show VH kindOf ((p,w)::P.zip vs) m p=_;unfold VH;rw[IB λv hv=>(bC.mp nd).1 (oP hv).1,if_pos hk];simp
 |p::P,w::vs,i+1,m,nd,h1,h2,hk=>by show VH kindOf ((p,w)::P.zip vs) m x=_;unfold VH;exact IC (i:=i) (bC.mp nd).2 (by simpa using h1) (by simpa using h2) hk
theorem IE{kindOf:Str->Option hV}:∀{P:List Str}{vs:List aI}{i:Nat}{m:Str->Option aI},P.Nodup->P[i]?=some x->vs[i]?=some v->kindOf x≠some .local →
  VI kindOf (P.zip vs) m x=some v
 |[],_,_,_,_,h,_,_=>by simp at h
 |_::_,[],_,_,_,_,h,_=>by simp at h
 |p::P,w::vs,0,m,nd,h1,h2,hk=>by simp at h1 h2;subst h1;subst h2;show VI kindOf ((p,w)::P.zip vs) m p=_;unfold VI;rw[ID λv hv=>(bC.mp nd).1 (oP hv).1,if_neg hk];simp
 |p::P,w::vs,i+1,m,nd,h1,h2,hk=>by show VI kindOf ((p,w)::P.zip vs) m x=_;unfold VI;exact IE (i:=i) (bC.mp nd).2 (by simpa using h1) (by simpa using h2) hk
noncomputable def start(N:List Str)(vs:List V):St:=vs.map some++List.replicate (N.length-vs.length) none
noncomputable def cxOf(CX:CXT)(P:bY)(w:cU)(K:aN)(mg:Str->Option aI)(base:Heap)(N:List Str)(qual:Str)(scope:Scope)(f:aD)(cd:aI)(A:dP)(outer:List Env)(s:aY)(H:Hp)(E:XK):Cx where
 prog:=P
 w:=w
 K:=K
 mg:=mg
 base:=base
 A:=A.deeper (iW qual scope s.heap.objs.size f cd)
 N:=N
 s₀:=s
 H₀:=H
 env:=iW qual scope s.heap.objs.size f cd
 outer:=outer
 stack:=iW qual scope s.heap.objs.size f cd::outer
 ex:=[]
 calm:=true
 fn:=λ_=>true
 pn:=[]
 xe:=λe s'=>bP (bK P w) (A.deeper (iW qual scope s.heap.objs.size f cd)) (leaving (iW qual scope s.heap.objs.size f cd) e) (λ_ s''=>CX outer H s E e s'') (λe' s''=>CX outer H s E e' s'') s'
def NX{sc:Scope}(h:sc.names.lookup x=some .cell):∃c,(cellsFrom n sc.names []).lookup x=some c:=by have q:=FW sc.names n [] (.inl h);exact EZ.mp q
def XJ{K:aN}(S:FnScope N ps scope)(hd:A.handled=none)(e0:Env0 P w K mg base A outer s H)(hl:vs.length=ps.length)(r:Vals vs us)(x:InCallC s s.heap.objs.size (VH (iW qual scope s.heap.objs.size f cd).kindOf (ps.zip us) λ_=>none) (cellsFrom (s.heap.objs.size+1) scope.names []) (VI (iW qual scope s.heap.objs.size f cd).kindOf (ps.zip us) λ_=>none) s1) :
  Inv (cxOf CX P w K mg base N qual scope f cd A outer s H E) [] (start N vs) H s1:=by
 have hpl:ps.length<=N.length:=by have:=congrArg List.length S.pre;rw[ZP]at this;lia
 obtain⟨h1,tk,rfl,hk⟩:=x.done;have noA:∀b:aD,b∉(cxOf CX P w K mg base N qual scope f cd A outer s H E).ex:=λb z=>absurd (show b∈([]:List aD) from z) (by simp)
 refine⟨⟨e0.mod,S.kind,rfl,rfl,aT _,λy z c h1 h2=>?_,λy hy=>?_,λy c _ h=>?_,λ_=>hd,dP.frames_deeper e0.frames,.inr ⟨rfl,rfl⟩,λb z=>absurd z (noA b),e0.bs,e0.bsz,λb _ _=>noA b,λb z=>absurd z (noA b),e0.funs,e0.frf⟩,
  rfl,e0.bare,Un.kept hk,⟨_,x.toInCall.ns,λi y v h1 h2 h3=>?_⟩,λy c h=>⟨_,x.cell y c h⟩,e0.hok.fresh (aT _),λy c h=>?_,λp hp=>absurd (show p∈([]:List (aD×Obj)) from hp) (by simp),e0.hok.kept hk,?_⟩
 . exact name_of_addr x.apart (cL h1) (cL h2)
 . have hy:scope.names.lookup y=some .cell\/scope.names.lookup y=some .free:=hy;rcases hy with hy|hy
   . exact NX hy
   . exact absurd rfl (S.nofree _ (cL hy))
 . exact uV (x.above y c (cL h))
 . have hi:i<vs.length:=by
    unfold start at h2;by_cases hi:i<vs.length
    . exact hi
    . rw [bZ (by simpa using hi)]at h2;rw [cP]at h2;split at h2<;>cases h2
   have ha:vs[i]?=some v:=by
    unfold start at h2;rw[bA (by simpa using hi),aP]at h2;cases e:vs[i]? with
    |none=>rw[e]at h2;cases h2
    |some a=>rw[e]at h2;cases h2;rfl
   obtain⟨u,hu,rv⟩:=r.get ha;have hp:ps[i]?=some y:=by rw[<-S.pre,List.getElem?_take_of_lt (by lia)];exact h1
   have ndP:ps.Nodup:=by rw[<-S.pre];exact S.nd.sublist (List.take_sublist _ _)
   refine⟨u,rv,?_⟩;rcases S.par y (eM hp)with k|k
   . exact .inl ⟨k,IC ndP hp hu k⟩
   . obtain⟨c,e⟩:=NX k;refine .inr ⟨.inl k,c,e,?_⟩;have q:=x.cell y c e;rw[IE ndP hp hu (by show scope.names.lookup y≠_;rw[k];decide)]at q;exact q
 . exact .inl (e0.hok.fresh (uV (x.above y c (cL h))))
 . unfold start;show _=N.length;rw [bS,cA,kT]
   lia
def fn_of{K:aN}{dV kV doc pm cdv ct oc:aI}(lk:K.lookup f=some ⟨oc,od,.func (cV name qual params body scope dV kV doc pm an cdv ct),osl⟩)(hcd:dI K cdv qual=true)(S:FnScope N ps scope)(len:∀vs H Q E,sp vs H Q E->vs.length=ps.length)(hbody:∀A outer s H vs Q E,Room k (A.deeper (iW qual scope s.heap.objs.size f cdv))->sp vs H Q E →
    ∃t,PSs (cxOf CX P w K mg base N qual scope f cdv A outer s H E) body t/\t {nx:=λ_ H'=>Q .non H',rt:=Q} (start N vs) H) :
  FnOk P w K mg base CX (k+1) f (cV name qual params body scope dV kV doc pm an cdv ct) ps sp:=by
 refine⟨len,λA outer s H args us vs Q E hr e0 hb r hsp=>?_⟩;have hl:=len _ _ _ _ hsp;have KX:=e0.mod.kin.keeps λb o e=>(e0.bs b o e).1;have lim:=e0.mod.nolimit.keeps λb o e=>(e0.bs b o e).1;have hkind:∀y∈ps.zip us,scope.names.lookup y.1=some .local\/(scope.names.lookup y.1=some .cell/\((cellsFrom (s.heap.objs.size+1) scope.names []).lookup y.1).isSome=true):=λ⟨n,v⟩ hy=>by
  rcases S.par n (oP hy).1 with q|q
  . exact .inl q
  . exact .inr ⟨q,FW _ _ _ (.inl q)⟩
 refine codeAny_call_function hr.depth (KX _ _ lk) rfl S.co S.gen rfl (PySem.W.codeRec_of KX hcd) (hb _ _ _ _ ?_);refine wpAny_newFunctionEnv_cells S.kind hkind λenv he s1 x=>?_;subst he;refine⟨lim.keeps x.toInCall.keep,codeAny_func ?_⟩;obtain⟨t,ht,hq⟩:=hbody A outer s H vs Q E (hr.deeper _) hsp;have I:Inv (cxOf CX P w K mg base N qual scope f cdv A outer s H E) [] (start N vs) H s1:=XJ S hr.hd e0 hl r x;refine eN (ht [] s1 (start N vs) H _ I hq) (λfl s' hs=>?_) λe s' hs=>hs
 have fin:∀{σ':St}{H':Hp}{v:V}{u:aI},Inv (cxOf CX P w K mg base N qual scope f cdv A outer s H E) [] σ' H' s'->RelV v u->Q v H'->CE outer P w H s Q u s':=
  λ{σ' H' v u} J rv q=>⟨v,H',J.os,J.bare,J.base,J.hok,rv,q⟩
 cases fl with
 |ret u=>obtain⟨v,σ',H',J,rv,q⟩:=hs;exact fin J rv q
 |next=>obtain⟨σ',H',J,q⟩:=hs;exact fin (v:=V.non) J rfl q
 |brk=>obtain⟨_,_,_,q⟩:=hs;exact False.elim q
 |cont=>obtain⟨_,_,_,q⟩:=hs;exact False.elim q
section
variable{t:TA}{id T:String}{r:List V->Hp->VK->Prop}
def tCB(r:List V->Hp->VK->Prop)(t:TA):TE:=λσ H Q=>t σ H λvs H1=>r vs H1 Q
def sS(hc:CallR X (.builtin id) r)(hg:Gl X x)(hm:X.mg x=none)(hv:eZ x=some (.builtin id))(ha:PA X (e::es) t)(hn:x≠"__name__":=by decide)(hdb:(x==("__debug__" : Str))=false:=by decide)(he:aF (e::es) X.env=(false,bU e X.env)::aF es X.env:=by rfl)(hpl:(cY pos (aF es X.env)).any (·.1)=false:=by rfl):PE X (.Call (.Name x p) (e::es) [] pos) (tCB r t):=by intro aC s σ H Q I h;refine eO (vS I hg hm hv ?_ hn hdb);exact pP (thn (ha pos aC s σ H _ I h) λus s1 ⟨vs,H1,I1,r1,q1⟩=>hc aC s1 σ H1 vs us Q I1 r1 q1) he hpl
def tY(hc:CallR X (.type T) r)(hg:Gl X x)(hm:X.mg x=none)(hv:eZ x=some (.type T))(ha:PA X (e::es) t)(hn:x≠"__name__":=by decide)(hdb:(x==("__debug__" : Str))=false:=by decide)(he:aF (e::es) X.env=(false,bU e X.env)::aF es X.env:=by rfl)(hpl:(cY pos (aF es X.env)).any (·.1)=false:=by rfl):PE X (.Call (.Name x p) (e::es) [] pos) (tCB r t):=by intro aC s σ H Q I h;refine eO (vS I hg hm hv ?_ hn hdb);exact eL (thn (ha pos aC s σ H _ I h) λus s1 ⟨vs,H1,I1,r1,q1⟩=>hc aC s1 σ H1 vs us Q I1 r1 q1) he hpl
end
end L2
namespace HT
open PySem PyProof.Rows
section
open PySem.SeqAt
open PySem.AutoSeq1 (wpAny_loadPart')
open PySem.MeetsSeq PySem.MeetsSeq2 PySem.MeetsSeq3
end
end HT
namespace L2
open PySem PySem.Spec PyProof.Rows
abbrev TO:=St->Hp->(Option Int->Hp->Prop)->Prop
def PO(X:Cx)(e:Option Expr)(t:TO):Prop:=
 ∀(aC:List (aD×Obj)) (s:aY) (σ:St) (H:Hp) (Q:Option Int->Hp->Prop),Inv X aC σ H s->t σ H Q →
  bP (bK X.prog X.w) X.A (evalPart e X.env) (λu s'=>∃o H',Inv X aC σ H' s'/\IsPart u o/\Q o H') X.xe s
def tNoPart:TO:=λ_ H Q=>Q none H
def tPart(t:TE):TO:=λσ H Q=>t σ H λx H1=>∃i,x=.int i/\Q (some i) H1
section
variable{X:Cx}{te:TE}{lo hi:Option Expr}{tl th:TO}
def po_none:PO X none tNoPart:=by intro aC s σ H Q I h;exact bV ⟨none,H,I,.none,h⟩
def po_some(h:PE X e te):PO X (some e) (tPart te):=by intro aC s σ H Q I hw;refine thn (h aC s σ H _ I hw) λu s1 zq=>?_;obtain⟨x,H1,I1,r1,q1⟩:=zq;obtain⟨i,rfl,q⟩:=q1;obtain⟨t,rfl⟩:=r1;exact⟨some i,H1,I1,.int i t,q⟩
def SlR(X:Cx)(r:V->Option Int->Option Int->Hp->VK->Prop):Prop:=
 ∀(aC:List (aD×Obj)) (s:aY) (σ:St) (H:Hp) (x:V) (v vl vu:aI) (lo hi:Option Int) (sl:aD) (Q:VK),Inv X aC σ H s->RelV x v->s.heap.IsSliceOf sl vl vu .none->IsPart vl lo->IsPart vu hi->r x lo hi H Q →
  ∃T id,OG (.type T) "__getitem__" = pure (some (.builtin id))/\s.TypeIs v T/\bP (bK X.prog X.w) X.A (LM v (.ref sl)) (EP X aC σ Q) X.xe s
def tSl(r:V->Option Int->Option Int->Hp->VK->Prop)(te:TE)(tl th:TO):TE:=λσ H Q=>te σ H λx H1=>tl σ H1 λl H2=>th σ H2 λu H3=>r x l u H3 Q
def aBq(hr:SlR X r)(he:PE X e te)(hl:PO X lo tl)(hu:PO X hi th):PE X (.Subscript e (.Slice lo hi none p2) pos) (tSl r te tl th):=by intro aC s σ H Q I h;refine Subscript_ (thn (he aC s σ H _ I h) λv s1 zq=>?_);obtain⟨x,H1,I1,r1,q1⟩:=zq;refine wpAny_Slice (thn (hl aC s1 σ H1 _ I1 q1) λvl s2 ⟨l,H2,I2,pl,q2⟩=>thn (hu aC s2 σ H2 _ I2 q2) λvu s3 zq=>?_);obtain⟨u,H3,I3,pu,q3⟩:=zq;refine bV ?_;have I4:Inv X aC σ H3 {s3 with heap:=s3.heap.push {cls:=.type "slice",data:=.fields #[vl,vu,.none]} }:=I3.kept λb ob q=>aJ _ q;obtain⟨T,id,hT,ht,hg⟩:=hr aC {s3 with heap:=s3.heap.push {cls:=.type "slice",data:=.fields #[vl,vu,.none]} } σ H3 x v vl vu l u s3.heap.objs.size Q I4 r1 (Heap.IsSliceOf.new ..) pl pu q3;exact tail_any ht hT hg (by with_unfolding_all rfl)
noncomputable def cutV(xs:List V)(lo hi:Option Int):List V:=(xs.drop (HT.sIx xs.length 0 lo)).take (HT.sIx xs.length xs.length hi-HT.sIx xs.length 0 lo)
def NW xs lo hi:(cutV xs lo hi).length<=xs.length:=by
 unfold cutV;rw[ZP,List.length_drop]
 lia
end
def UJ(h:ixN n i=some j):seqIndex? i n=some j/\j<n/\-(n:Int)<=i/\i<n:=by
 unfold ixN at h;by_cases h0:0<=i
 . rw [if_pos h0]at h;by_cases h1:i<n
   . rw[if_pos h1]at h;have e:=Option.some.inj h;exact⟨by rw[seqIndex_of h0 h1,e],by lia,by lia,h1⟩
   . rw[if_neg h1]at h;cases h
 . rw [if_neg h0]at h;by_cases h1 : -(n:Int)<=i
   . rw[if_pos h1]at h;have e:=Option.some.inj h;exact⟨by rw[YN (by lia) h1,e],by lia,h1,by lia⟩
   . rw[if_neg h1]at h;cases h
def LB(h:atI xs i=some v):∃j,seqIndex? i xs.length=some j/\xs[j]?=some v/\j<xs.length/\-(xs.length:Int)<=i/\i<xs.length:=by
 unfold atI at h;cases e:ixN xs.length i with
 |none=>rw[e]at h;cases h
 |some j=>rw[e]at h;obtain⟨h1,h2,h3,h4⟩:=UJ e;exact⟨j,h1,h,h2,h3,h4⟩
def atI_nat{xs:List α}{j:Nat}{v:α}(h:xs[j]?=some v):atI xs (j:Int)=some v:=by
 have hj:=(aV.mp h).1;have e:ixN xs.length (j:Int)=some j:=by unfold ixN;rw[if_pos (by lia),if_pos (by lia)];simp
 unfold atI;rw[e];exact h
def BW(b:Expr):Prop:=∀o i,IH b false o i=operate [o,i] (LM o i)
def IxR(X:Cx)(r:R2):Prop:=
 ∀(value slice:Expr) (aC:List (aD×Obj)) (s:aY) (σ:St) (H:Hp) (x y:V) (v u:aI) (Q:VK),Inv X aC σ H s->RelV x v->RelV y u->r x y H Q →
  IH slice false v u=operate [v,u] (LM v u)->bP (bK X.prog X.w) X.A (subscriptTail value slice v u) (EP X aC σ Q) X.xe s
def MtR(X:Cx)(id:String)(r:V->List V->Hp->VK->Prop):Prop:=
 ∀(aC:List (aD×Obj)) (s:aY) (σ:St) (H:Hp) (x:V) (xs:List V) (v:aI) (us:List aI) (Q:VK),Inv X aC σ H s->RelV x v->Vals xs us->r x xs H Q →
  bP (bK X.prog X.w) X.A (call (.builtin id) (v::us)) (EP X aC σ Q) X.xe s
section
variable{a b:Expr}
def IxR.or(h:IxR X r)(h':IxR X r'):IxR X (λx y H Q=>r x y H Q\/r' x y H Q):=by
 intro value slice aC s σ H x y v u Q I rx ry q hs;rcases q with q|q
 . exact h value slice aC s σ H x y v u Q I rx ry q hs
 . exact h' value slice aC s σ H x y v u Q I rx ry q hs
def aBs(hr:IxR X r)(ha:PE X a ta)(hb:PE X b tb)(hs:BW b):PE X (.Subscript a b pos) (tOp r ta tb):=by intro aC s σ H Q I h;exact Subscript_ (binT ha hb I h λv u s2 x y H2 I2 rx ry q=>hr a b aC s2 σ H2 x y v u Q I2 rx ry q (hs _ _))
noncomputable def rIxL(K:aN):R2:=λx y H Q=>∃p xs i v,x=.ref p/\y=.int i/\SqL K H p xs/\atI xs i=some v/\Q v H
noncomputable def rIxT(K:aN):R2:=λx y H Q=>∃p xs i v,x=.ref p/\y=.int i/\SqT K H p xs/\atI xs i=some v/\Q v H
noncomputable def rIxS:R2:=λx y H Q=>∃z i c,x=.str z/\y=.int i/\z.length<=sizeLine/\atI z.cps.toList i=some c/\Q (.str ⟨#[c]⟩) H
def ix_list:IxR X (rIxL X.K):=by
 intro value slice aC s σ H x y v u Q I rx ry h hs;obtain⟨p,xs,i,z,rfl,rfl,hq,he,q⟩:=h;cases rx;obtain⟨t,rfl⟩:=ry;obtain⟨its,r,pl,hz⟩:=I.list hq;obtain⟨j,h1,h2,h3,h4,h5⟩:=LB he;obtain⟨w,ew,rw'⟩:=r.get h2;have hl:=r.length;have hn:=rQ;have fin:EP X aC σ Q w s:=⟨z,H,I,rw',q⟩
 by_cases h0:0<=i
 . have hj:i.toNat=j:=by
    rw[seqIndex_of h0 h5]at h1;exact Option.some.inj h1
   exact item_listR pl.isList h0 (by lia) (by rw[hj];simpa using ew) fin hs
 . have hj:(i+(its.toArray.size:Int)).toNat=j:=by
    rw[YN (by lia) h4]at h1;rw[aX,<-hl];exact Option.some.inj h1
   exact subscriptTail_builtinR pl.isList.typeIs slot_list_getitem.lookup
    (wpAny_getItem_list_neg pl.isList (by lia) (by rw[aX]<;>lia) (by lia) (by rw[hj];simpa using ew) ⟨rfl,fin⟩) hs
def ix_tup:IxR X (rIxT X.K):=by
 intro value slice aC s σ H x y v u Q I rx ry h hs;obtain⟨p,xs,i,z,rfl,rfl,hq,he,q⟩:=h;cases rx;obtain⟨t,rfl⟩:=ry;obtain⟨its,r,pl,hz⟩:=I.tuple hq;obtain⟨j,h1,h2,h3,h4,h5⟩:=LB he;obtain⟨w,ew,rw'⟩:=r.get h2;have hl:=r.length;have hn:=rQ;have fin:EP X aC σ Q w s:=⟨z,H,I,rw',q⟩
 exact subscriptTail_builtinR pl.typeIs slot_tuple_getitem.lookup
  (getItem_tuple pl (by lia) (by lia) (by rw[aX,<-hl];exact h1) (by simpa using ew) ⟨rfl,fin⟩) hs
def ix_str:IxR X rIxS:=by
 intro value slice aC s σ H x y v u Q I rx ry h hs;obtain⟨z,i,c,rfl,rfl,hz,he,q⟩:=h;obtain⟨t,rfl⟩:=rx;obtain⟨t',rfl⟩:=ry;obtain⟨j,h1,h2,h3,h4,h5⟩:=LB he;have hl:z.cps.toList.length=z.length:=by simp[Str.length]
 rw[hl]at h1 h4 h5;have hn:=rQ;exact tail_any (typeIs_str s z t) slot_str_getitem.lookup (getItem_str (by
  have e1:decide (i < -(2^63:Int))=false:=decide_eq_false (by lia);have e2:decide (i≥2^63)=false:=decide_eq_false (by lia)
  rw[e1,e2,Bool.or_false]) (by rw[h1];simpa using h2) ⟨.str ⟨#[c]⟩,H,I.tok _,⟨_,rfl⟩,q⟩) hs
noncomputable def rIx(K:aN):R2:=λx y H Q=>rIxL K x y H Q\/rIxT K x y H Q\/rIxS x y H Q
def QJ:IxR X (rIx X.K):=ix_list.or (ix_tup.or ix_str)
def QD(its:List aI) n j u:Obj.mapSeq (·.setIfInBounds j u) {cls:=.type "list",data:=.seq its.toArray n}={cls:=.type "list",data:=.seq (its.set j u).toArray n}:=by simp[Obj.mapSeq]
theorem Inv.lst{aC:List (aD×Obj)}{σ:St}{H:Hp}{s:aY}{p:aD}{xs:List V}(I:Inv X aC σ H s)(h:H p=some (.lst xs)) :
  ∃(its:List aI) (n:Nat),Vals xs its/\s.heap.get? p=some {cls:=.type "list",data:=.seq its.toArray n}/\xs.length<=sizeLine:=by
 obtain⟨z,its,n,r,e⟩:=I.hok p _ h;exact⟨its,n,r,e,z⟩
def Inv.lstUpd{its its':List aI}(I:Inv X aC σ H s)(h:H p=some (.lst xs))(ho:s.heap.get? p=some {cls:=.type "list",data:=.seq its.toArray n})(hf:f {cls:=.type "list",data:=.seq its.toArray n}={cls:=.type "list",data:=.seq its'.toArray n'})(r:Vals ys its')(hz:ys.length<=sizeLine) t :
  Inv X aC σ (upd H p (.lst ys)) {s with heap:=s.heap.update p f,toks:=t}:=by
 have e:(s.heap.update p f).get? p=some {cls:=.type "list",data:=.seq its'.toArray n'}:=by rw[OK f ho (by rw[hf]<;>rfl),hf]
 refine I.write (x:=p) (e:=p) (by rw[h];trivial) (.inl rfl) (λb u hb q=>(iU _ _ (Ne.symm hb)).trans q) ⟨_,e⟩ ?_;exact⟨hz,its',n',r,e⟩
def rSetL:V->V->V->Hp->(Hp->Prop)->Prop:=λo i v H Q=>∃p xs k j,o=.ref p/\i=.int k/\H p=some (.lst xs)/\ixN xs.length k=some j/\Q (upd H p (.lst (xs.set j v)))
def aAb:PSet X rSetL:=by
 intro aC s σ H o i v ov iv u Q I ro ri rv h;obtain⟨p,xs,k,j,rfl,rfl,hp,hj,q⟩:=h;cases ro;obtain⟨t,rfl⟩:=ri;obtain⟨its,n,r,ho,hz⟩:=I.lst hp;obtain⟨h1,h2,h3,h4⟩:=UJ hj;have hl:=r.length;have hn:=rQ
 have I':Inv X aC σ (upd H p (.lst (xs.set j v))) {s with heap:=s.heap.update p (Obj.mapSeq (·.setIfInBounds j u))}:=
  I.lstUpd hp ho (QD its n j u) (r.set rv j) (by rw[oQ];exact hz) s.toks
 by_cases h0:0<=k
 . have hk:k.toNat=j:=by
    rw[seqIndex_of h0 h4]at h1;exact Option.some.inj h1
   exact PySem.W.ki_setAt ho h0 (by lia) (by rw[aX,<-hl];exact h4) (by rw[hk];exact⟨_,I',q⟩)
 . have hk:(k+(its.toArray.size:Int)).toNat=j:=by
    rw[YN (by lia) h3]at h1;rw[aX,<-hl];exact Option.some.inj h1
   exact PySem.W.ki_setBack ho (by lia) (by rw[aX,<-hl];exact h3) (by lia) (by rw[hk];exact⟨_,I',q⟩)
def IU lo hi n:(mO lo hi none n).1=((HT.sIx n 0 lo:Nat):Int)/\(mO lo hi none n).2.1=((HT.sIx n n hi:Nat):Int)/\(mO lo hi none n).2.2=1:=by
 refine⟨?_,?_,rfl⟩
 . cases lo with
   |none=>simp[mO,HT.sIx]
   |some i=>
     simp only[mO,HT.sIx,VM,show(1:Int)>0 by decide,if_true];by_cases h:i<0
     . simp only[h,if_true]<;>lia
     . simp only[h,if_false]<;>lia
 . cases hi with
   |none=>simp[mO,HT.sIx]
   |some i=>
     simp only[mO,HT.sIx,VM,show(1:Int)>0 by decide,if_true];by_cases h:i<0
     . simp only[h,if_true]<;>lia
     . simp only[h,if_false]<;>lia
def FH(its:List aI) lo hi:slicePick its.toArray lo hi none=((its.drop (HT.sIx its.length 0 lo)).take (HT.sIx its.length its.length hi-HT.sIx its.length 0 lo)).toArray:=by obtain⟨h1,h2,h3⟩:=IU lo hi its.toArray.size;unfold slicePick;rw[h1,h2,h3];simp only[sliceRange_one,pick_run,aX]<;>rfl
def rSlL(K:aN):V->Option Int->Option Int->Hp->VK->Prop:=λx lo hi H Q=>∃a xs,x=.ref a/\SqL K H a xs/\∀p,H p=none->Q (.ref p) (upd H p (.lst (cutV xs lo hi)))
def sl_list:SlR X (rSlL X.K):=by intro aC s σ H x v vl vu lo hi sl Q I rx hs pl pu h;obtain⟨a,xs,rfl,hx,q⟩:=h;cases rx;obtain⟨its,r,ht,hz⟩:=I.list hx;have hlen:=r.length;refine⟨"list",_,slot_list_getitem.lookup,ht.isList.typeIs,?_⟩;refine wpAny_getItem_list_slice ht.isList hs pl pu .none (by simp) ?_ (by rw[aX]<;>lia);rw[FH,<-hlen];refine⟨.ref s.heap.objs.size,_,I.laid (λb ob q=>aJ _ q) (aT _) ?_,rfl,q _ (I.hok.fresh (aT _))⟩;exact⟨cD (NW xs lo hi) hz,_,0,(r.drop (HT.sIx xs.length 0 lo)).take (HT.sIx xs.length xs.length hi-HT.sIx xs.length 0 lo),aS _ rfl⟩
noncomputable def flatV:V->Bool
 |.non=>true
 |.bl _=>true
 |.int _=>true
 |.str _=>true
 |_=>false
noncomputable def eqV:V->V->Bool
 |.non,.non=>true
 |.bl a,.bl b=>a==b
 |.bl a,.int b=>(if a then 1 else 0)==b
 |.int a,.bl b=>a==(if b then 1 else 0)
 |.int a,.int b=>a==b
 |.str a,.str b=>a==b
 |_,_=>false
def eqAt_V(ry:RelV y u)(rx:RelV x v)(fy:flatV y=true)(fx:flatV x=true):SeqAt.EqAt A s u v (eqV y x):=by
 cases y with
 |non=>
   cases ry;cases x with
   |non=>cases rx;exact SeqAt.EqAt.same _
   |bl b=>cases rx;exact SeqAt.EqAt.none_bool b
   |int b=>obtain⟨t,rfl⟩:=rx;exact SeqAt.EqAt.none_int b t
   |str b=>obtain⟨t,rfl⟩:=rx;exact SeqAt.EqAt.none_str b t
   |_=>exact absurd (fx) dO
 |bl a=>
   cases ry;cases x with
   |non=>cases rx;exact SeqAt.EqAt.bool_none a
   |bl b=>cases rx;exact SeqAt.EqAt.bool_bool a b
   |int b=>obtain⟨t,rfl⟩:=rx;exact SeqAt.EqAt.bool_int a b t
   |str b=>obtain⟨t,rfl⟩:=rx;exact SeqAt.EqAt.bool_str a b t
   |_=>exact absurd (fx) dO
 |int a=>
   obtain⟨t',rfl⟩:=ry;cases x with
   |non=>cases rx;exact SeqAt.EqAt.int_none a t'
   |bl b=>cases rx;exact SeqAt.EqAt.int_bool a t' b
   |int b=>obtain⟨t,rfl⟩:=rx;exact SeqAt.EqAt.int_int a t' b t
   |str b=>obtain⟨t,rfl⟩:=rx;exact SeqAt.EqAt.int_str a t' b t
   |_=>exact absurd (fx) dO
 |str a=>
   obtain⟨t',rfl⟩:=ry;cases x with
   |non=>cases rx;exact SeqAt.EqAt.str_none a t'
   |bl b=>cases rx;exact SeqAt.EqAt.str_bool a t' b
   |int b=>obtain⟨t,rfl⟩:=rx;exact SeqAt.EqAt.str_int a t' b t
   |str b=>obtain⟨t,rfl⟩:=rx;exact SeqAt.EqAt.str_str a t' b t
   |_=>exact absurd (fx) dO
 |_=>exact absurd (fy) dO
noncomputable def eqU(x:V)(u:aI):Bool:=match u with
 |.none=>eqV .non x
 |.bool b=>eqV (.bl b) x
 |.int i _=>eqV (.int i) x
 |.str z _=>eqV (.str z) x
 |_=>false
def aDr(r:RelV y u)(f:flatV y=true):eqU x u=eqV y x:=by
 cases y with
 |non=>cases r;rfl
 |bl b=>cases r;rfl
 |int i=>obtain⟨t,rfl⟩:=r;rfl
 |str z=>obtain⟨t,rfl⟩:=r;rfl
 |_=>exact absurd (f) dO
theorem sY:∀{xs:List V}{us:List aI},Vals xs us->xs.all flatV=true->us.any (eqU x)=xs.any λy=>eqV y x
 |_,_,.nil,_=>rfl
 |y::xs,u::us,.cons r t,f=>by rw[nJ,bJ]at f;rw[iC,iC,aDr r f.1,sY t f.2]
theorem vA(rx:RelV x v)(fx:flatV x=true):∀{xs:List V}{us:List aI},Vals xs us->xs.all flatV=true->∀u∈us,SeqAt.EqAt A s u v (eqU x u)
 |_,_,.nil,_=>λu hu=>by cases hu
 |y::xs,u::us,.cons r t,f=>λu' hu=>by
   rw[nJ,bJ]at f;rcases aA.mp hu with rfl|hu
   . rw[aDr r f.1];exact eqAt_V r rx f.1 fx
   . exact vA rx fx t f.2 u' hu
noncomputable def inV(x:V)(xs:List V):Bool:=xs.any λy=>eqV y x
noncomputable def rIn(K:aN)(neg:Bool):R2:=λx y H Q=>∃p xs,y=.ref p/\(SqL K H p xs\/SqT K H p xs)/\flatV x=true/\xs.all flatV=true/\Q (.bl (if neg then !inV x xs else inV x xs)) H
def WM:OpR X (dS .In) (rIn X.K false):=by
 intro aC s σ H x y v u Q I rx ry h;obtain⟨p,xs,rfl,hq,fx,fs,q⟩:=h;cases ry;rcases hq with hq|hq
 . obtain⟨its,r,pl,hz⟩:=I.list hq;refine SeqAt.in_listAt (eqU x) pl.isList (λw hw=>vA rx fx r fs w (by simpa using hw)) ⟨.bl _,H,I,rfl,?_⟩;rw[show its.toArray.any (eqU x)=its.any (eqU x) by simp,sY r fs];exact q
 . obtain⟨its,r,pl,hz⟩:=I.tuple hq;refine SeqAt.in_tupleAt (eqU x) pl (λw hw=>vA rx fx r fs w (by simpa using hw)) ⟨.bl _,H,I,rfl,?_⟩;rw[show its.toArray.any (eqU x)=its.any (eqU x) by simp,sY r fs];exact q
def JL:OpR X (dS .NotIn) (rIn X.K true):=by
 intro aC s σ H x y v u Q I rx ry h;obtain⟨p,xs,rfl,hq,fx,fs,q⟩:=h;cases ry;rcases hq with hq|hq
 . obtain⟨its,r,pl,hz⟩:=I.list hq;refine SeqAt.notIn_listAt (eqU x) pl.isList (λw hw=>vA rx fx r fs w (by simpa using hw)) ⟨.bl _,H,I,rfl,?_⟩;rw[show its.toArray.any (eqU x)=its.any (eqU x) by simp,sY r fs];exact q
 . obtain⟨its,r,pl,hz⟩:=I.tuple hq;refine SeqAt.notIn_tupleAt (eqU x) pl (λw hw=>vA rx fx r fs w (by simpa using hw)) ⟨.bl _,H,I,rfl,?_⟩;rw[show its.toArray.any (eqU x)=its.any (eqU x) by simp,sY r fs];exact q
def KZ:CallR X (.builtin "len") (λxs H Q=>∃p ys,xs=[.ref p]/\(SqL X.K H p ys\/SqT X.K H p ys)/\Q (.int ys.length) H):=by
 intro aC s σ H xs us Q I r h;obtain⟨p,ys,rfl,hq,q⟩:=h;obtain⟨u,rfl,rx⟩:=vals1 r;cases rx;have hn:=rQ;rcases hq with hq|hq
 . obtain⟨its,r',pl,hz⟩:=I.list hq;have hlen:=r'.length;exact Calls.call_len_list pl.isList (by simp[aX]<;>lia) ⟨.int ys.length,H,I.tok _,⟨s.toks+1,by rw[aX,hlen]⟩,q⟩
 . obtain⟨its,r',pl,hz⟩:=I.tuple hq;have hlen:=r'.length;exact len_tuple pl (by simp[aX]<;>lia) ⟨.int ys.length,H,I.tok _,⟨s.toks+1,by rw[aX,hlen]⟩,q⟩
def KY:CallR X (.builtin "len") (λxs H Q=>∃z,xs=[.str z]/\z.length<=sizeLine/\Q (.int z.length) H):=by intro aC s σ H xs us Q I r h;obtain⟨z,rfl,hz,q⟩:=h;obtain⟨u,rfl,t,rfl⟩:=vals1 r;have hn:=rQ;exact len_str (by lia) ⟨.int z.length,H,I.tok _,⟨_,rfl⟩,q⟩
def CallR.or(h:CallR X f r)(h':CallR X f r'):CallR X f (λxs H Q=>r xs H Q\/r' xs H Q):=by
 intro aC s σ H xs us Q I rs q;rcases q with q|q
 . exact h aC s σ H xs us Q I rs q
 . exact h' aC s σ H xs us Q I rs q
def KW:CallR X (.type "list") (λxs H Q=>∃p ys,xs=[.ref p]/\(SqL X.K H p ys\/SqT X.K H p ys)/\∀l,H l=none->Q (.ref l) (upd H l (.lst ys))):=by
 intro aC s σ H xs us Q I r h;obtain⟨p,ys,rfl,hq,q⟩:=h;obtain⟨u,rfl,rx⟩:=vals1 r;cases rx
 have fin:∀(its:List aI),Vals ys its->ys.length<=sizeLine->∀(h':Heap) (c':Nat),(∀b o',s.heap.get? b=some o'->h'.get? b=some o') →
   h'.get? s.heap.objs.size=some {cls:=.type "list",dict:=none,data:=.seq its.toArray c',slots:=#[]}->EP X aC σ Q (.ref s.heap.objs.size) {s with heap:=h'}:=λits r' hz h' c' kp e =>
  ⟨.ref s.heap.objs.size,_,I.laid kp (aT _) (show ObjOk X.prog X.w _ h' _ (.lst ys) from ⟨hz,its,c',r',e⟩),rfl,q _ (I.hok.fresh (aT _))⟩
 rcases hq with hq|hq
 . obtain⟨its,r',pl,hz⟩:=I.list hq;have hlen:=r'.length;obtain⟨o,ho,hc,n,hd⟩:=pl.isList;exact call_list_seq p (.inl rfl) ho hc hd (λh' c' kp e=>fin its r' hz h' c' kp e) (by simp[aX]<;>lia)
 . obtain⟨its,r',pl,hz⟩:=I.tuple hq;have hlen:=r'.length;obtain⟨o,ho,hc,n,hd⟩:=pl;exact call_list_seq p (.inr rfl) ho hc hd (λh' c' kp e=>fin its r' hz h' c' kp e) (by simp[aX]<;>lia)
def tyV(K:aN)(T:String)(x:V)(H:Hp):Prop:=match x with
 |.str _=>T = "str"
 |.int _=>T = "int"
 |.ref p=>(T = "list"/\∃xs,SqL K H p xs)\/(T = "tuple"/\∃o,K.lookup p=some o/\o.cls=.type "tuple"/\o.dict=none) ∨
    (T = "dict"/\((∃kvs,H p=some (.dK kvs))\/∃kvs,H p=some (.dT kvs)))\/(T = "set"/\∃S n,H p=some (.set S n))
 |_=>False
def ZT(I:Inv X aC σ H s)(r:RelV x v)(ty:tyV X.K T x H) :
  s.TypeIs v T/\∀a,v=.ref a->∃ob,s.heap.get? a=some ob/\ob.dict=none:=by
 cases x with
 |str z=>obtain⟨t,rfl⟩:=r;cases(ty);exact⟨typeIs_str s z t,λ_ e=>nomatch e⟩
 |int i=>obtain⟨t,rfl⟩:=r;cases(ty);exact⟨typeIs_int s i t,λ_ e=>nomatch e⟩
 |ref p=>
   cases r;rcases ty with⟨rfl,xs,hq⟩|⟨rfl,o,hk,hc,hd⟩|⟨rfl,hk⟩|⟨rfl,S,n,hk⟩
   . obtain⟨its,_,pl,_⟩:=I.list hq;refine⟨pl.isList.typeIs,λa e=>?_⟩;cases e;obtain⟨o,n,e,c,hd,_⟩:=pl;exact⟨o,e,hd⟩
   . refine⟨⟨o,I.kIn p o hk,hc⟩,λa e=>?_⟩;cases e;exact⟨o,I.kIn _ o hk,hd⟩
   . have z:∃o,s.heap.get? p=some o/\o.ExactDict:=by
      rcases hk with⟨kvs,hk⟩|⟨kvs,hk⟩
      . obtain⟨_,_,_,_,o,_,_,e,ex,_⟩:=I.hok p _ hk;exact⟨o,e,ex⟩
      . obtain⟨_,_,_,_,o,_,_,e,ex,_⟩:=I.hok p _ hk;exact⟨o,e,ex⟩
     obtain⟨o,e,ex⟩:=z;refine⟨⟨o,e,ex.1⟩,λa e2=>?_⟩;cases e2;exact⟨o,e,ex.2.1⟩
   . obtain⟨o,_,_,_,e,ex,_⟩:=I.hok p _ hk;refine⟨⟨o,e,ex.1⟩,λa e2=>?_⟩;cases e2;exact⟨o,e,ex.2.1⟩
 |_=>exact False.elim ty
def tBM0(K:aN)(T:String)(r:V->List V->Hp->VK->Prop)(to:TE):TE:=λσ H Q=>to σ H λx H1=>tyV K T x H1/\r x [] H1 Q
def tBM(K:aN)(T:String)(r:V->List V->Hp->VK->Prop)(to:TE)(t:TA):TE:=λσ H Q=>to σ H λx H1=>tyV K T x H1/\t σ H1 λxs H2=>r x xs H2 Q
variable{T id:String}
def pe_bm0(pa:PlainAttrs T)(slot:Slot T name id)(hty:typeOf (.builtin id)=pure (.type "method_descriptor"))(hm:MtR X id r)(ho:PE X o to)(hbase:dB o name X.env (bU o X.env)=bU o X.env:=by rfl)(hline:(apos.endLine==cpos.line)=true:=by rfl):PE X (.Call (.Attribute o name apos) [] [] cpos) (tBM0 X.K T r to):=by intro aC s σ H Q I h;refine pL hbase hline (thn (ho aC s σ H _ I h) λv s1 zq=>?_);obtain⟨x,H1,I1,r1,ty,q1⟩:=zq;obtain⟨h1,h2⟩:=ZT I1 r1 ty;exact⟨T,id,pa,slot,hty,h1,h2,Calls.callWith_builtin rfl (pW (hm aC s1 σ H1 x [] v [] Q I1 r1 .nil q1))⟩
def TN(pa:PlainAttrs T)(slot:Slot T name id)(hty:typeOf (.builtin id)=pure (.type "method_descriptor"))(hm:MtR X id r)(ho:PE X o to)(ha:PA X (e::es) t)(hbase:dB o name X.env (bU o X.env)=bU o X.env:=by rfl)(hfew:((cY cpos (aF (e::es) X.env)).all (λx=>!x.1)&&(iS cpos (fA [] X.env)).all (λx=>x.1.isSome)
    && decide ((e::es).length+([]:List oM).length+(if ([]:List oM).isEmpty then 0 else 1)<30))=true:=by rfl)(hline:(apos.endLine==cpos.line)=true:=by rfl)(hs:aF (e::es) X.env=(false,bU e X.env)::aF es X.env:=by rfl)(hplain:(cY cpos (aF es X.env)).any (·.1)=false:=by rfl) :
  PE X (.Call (.Attribute o name apos) (e::es) [] cpos) (tBM X.K T r to t):=by
 intro aC s σ H Q I h;refine wpAny_Call_method_late hbase hfew hline rfl (thn (ho aC s σ H _ I h) λv s1 zq=>?_);obtain⟨x,H1,I1,r1,ty,q1⟩:=zq;obtain⟨h1,h2⟩:=ZT I1 r1 ty;refine⟨T,id,pa,slot,hty,h1,h2,?_⟩;have hA:=ha cpos aC s1 σ H1 _ I1 q1;rw[hs]at hA ⊢;refine Calls.callWith_builtin (by show(false||(cY cpos (aF es X.env)).any (·.1))=false;rw[hplain]<;>rfl) (Calls.evalArgs_plain ?_);exact thn hA λus s2 ⟨vs,H2,I2,r2,q2⟩=>hm aC s2 σ H2 x vs v us Q I2 r1 r2 q2
/- xs.append(e),list.index on a module's tuple .. are MtR facts of 06m -/
end
def MtM(X:Cx)(id:String)(r:V->List V->Hp->VK->Prop):Prop:=
 ∀(aC:List (aD×Obj)) (s:aY) (σ:St) (H:Hp) (x:V) (xs:List V) (v:aI) (us:List aI) (Q:VK),Inv X aC σ H s->RelV x v->Vals xs us->r x xs H Q →
  bP (bK X.prog X.w) X.A (call (.builtin id) (v::us)) (EP X aC σ Q) X.xe s
theorem Vals.one:∀{x:V}{us:List aI},Vals [x] us->∃u,us=[u]/\RelV x u
 |_,_,.cons r .nil=>⟨_,rfl,r⟩
theorem Vals.zero:∀{us:List aI},Vals [] us->us=[]
 |_,.nil=>rfl
theorem Vals.reverse(h:Vals xs us):Vals xs.reverse us.reverse:=by
 induction h with
 |nil=>exact .nil
 |cons r t ih=>rw[nG,nG];exact Vals.append ih (.cons r .nil)
def Inv.lset{its its':List aI}(I:Inv X aC σ H s)(hH:H l=some (.lst xs))(e:s.heap.get? l=some {cls:=.type "list",data:=.seq its.toArray n})(hf:f its.toArray=its'.toArray)(hv:Vals ys its')(hz:ys.length<=sizeLine) :
  Inv X aC σ (upd H l (.lst ys)) {s with heap:=s.heap.update l (Obj.mapSeq f),toks:=t'}:=by
 have q:=PySem.IsL.update e f;rw[hf]at q;refine I.write (by rw[hH];exact trivial) (.inl rfl) (λb' u hb hu=>(iU s.heap (Obj.mapSeq f) (Ne.symm hb)).trans hu) ⟨_,q⟩ ?_;exact⟨hz,its',_,hv,q⟩
def Inv.lnew(I:Inv X aC σ H s)(hv:Vals ys its)(hz:ys.length<=sizeLine) :
  Inv X aC σ (upd H s.heap.objs.size (.lst ys)) {s with heap:=s.heap.push {cls:=.type "list",data:=.seq its.toArray},toks:=t'}:=
 I.laid (λ_ _ q=>aJ _ q) (aT _) ⟨hz,its,0,hv,aS _ rfl⟩
theorem Inv.fresh(I:Inv X aC σ H s):H s.heap.objs.size=none:=I.hok.fresh (aT _)
def Inv.lstM(I:Inv X aC σ H s)(hH:H l=some (.lst xs)):xs.length<=sizeLine/\∃its n,Vals xs its/\xs.length=its.length/\s.heap.get? l=some {cls:=.type "list",data:=.seq its.toArray n}:=by obtain⟨z,its,n,r,e⟩:=I.hok l _ hH;exact⟨z,its,n,r,r.length,e⟩
def aCf(h:n<=sizeLine):Builtin.List.listTooLong n=false:=by exact decide_eq_false (by lia)
def rAppend:V->List V->Hp->VK->Prop:=λx vs H Q=>∃l xs y,x=.ref l/\vs=[y]/\H l=some (.lst xs)/\xs.length<sizeLine/\Q .non (upd H l (.lst (xs++[y])))
def HK:MtM X "list.append" rAppend:=by
 intro aC s σ H x vs v us Q I rx rv h;obtain⟨l,xs,y,rfl,rfl,hH,hz,q⟩:=h;cases rx;obtain⟨u,rfl,ru⟩:=rv.one;obtain⟨z,its,n,r,hl,e⟩:=I.lstM hH;refine call_meets F.slot_list_append ⟨_,e,rfl⟩ F.entry_list_append (F.args_list_append_2 _ _) (PySem.list_append l its.toArray n u (by rw[aX];lia)) ⟨e,?_⟩;refine⟨.non,_,I.lset hH e (by simp) (r.append (.cons ru .nil)) ?_,rfl,q⟩;rw[bS,pC]
 lia
def rExtend:V->List V->Hp->VK->Prop:=λx vs H Q=>∃l b xs zs,x=.ref l/\vs=[.ref b]/\H l=some (.lst xs)/\H b=some (.lst zs)/\xs.length+zs.length<=sizeLine/\Q .non (upd H l (.lst (xs++zs)))
def WY:MtM X "list.extend" rExtend:=by
 intro aC s σ H x vs v us Q I rx rv h;obtain⟨l,b,xs,zs,rfl,rfl,hH,hB,hz,q⟩:=h;cases rx;obtain⟨u,rfl,ru⟩:=rv.one;cases ru;obtain⟨z,its,n,r,hl,e⟩:=I.lstM hH;obtain⟨z2,its2,n2,r2,hl2,e2⟩:=I.lstM hB;have hsz:its.toArray.size+its2.toArray.size<=sizeLine:=by rw[aX,aX];lia
 have hlong:¬(!its.toArray.isEmpty&&Builtin.List.listTooLong (its.toArray.size+its2.toArray.size))=true:=by rw[aCf hsz,Bool.and_false];exact dO
 refine call_meets F.slot_list_extend ⟨_,e,rfl⟩ F.entry_list_extend (F.args_list_extend_2 _ _)
  (AutoSeq1.list_extend_list_list_0 l its.toArray n b its2.toArray n2 hlong (by rw[aX];lia) (by lia)) ⟨e,e2,?_⟩
 refine⟨.non,_,I.lset hH e (by simp) (r.append r2) ?_,rfl,q⟩;rw[bS]
 lia
def rClear:V->List V->Hp->VK->Prop:=λx vs H Q=>∃l xs,x=.ref l/\vs=[]/\H l=some (.lst xs)/\Q .non (upd H l (.lst []))
def aCt:MtM X "list.clear" rClear:=by intro aC s σ H x vs v us Q I rx rv h;obtain⟨l,xs,rfl,rfl,hH,q⟩:=h;cases rx;have hus:=rv.zero;subst hus;obtain⟨z,its,n,r,hl,e⟩:=I.lstM hH;refine call_meets F.slot_list_clear ⟨_,e,rfl⟩ F.entry_list_clear (F.args_list_clear_1 _) (AutoSeq1.list_clear_list_0 l its.toArray n (by rw[aX];lia)) ⟨e,?_⟩;exact⟨.non,_,I.lset hH e rfl .nil (cR _),rfl,q⟩
section
variable{κ:Type}[DecidableEq κ]
noncomputable def valV(kvs:List (κ×V))(k:κ):Option V:=(kvs.find? λkv=>decide (kv.1=k)).map (·.2)
noncomputable def putK(kvs:List (κ×V))(k:κ)(v:V):List (κ×V):=
 if (kvs.any λkv=>decide (kv.1=k))=true then kvs.map (λkv=>if kv.1=k then (kv.1,v)else kv)else kvs++[(k,v)]
noncomputable def dropK(kvs:List (κ×V))(k:κ):List (κ×V):=kvs.filter λkv=>decide (kv.1≠k)
def sG{k:κ}(e:p.1=k):valV (p::r) k=some p.2:=by simp[valV,cN,e]
def CG{k:κ}(e:¬p.1=k):valV (p::r) k=valV r k:=by simp[valV,cN,e]
theorem CH(k:κ):∀kvs,(kvs.any λkv=>decide (kv.1=k))=(valV kvs k).isSome
 |[]=>rfl
 |p::r=>by
   rw[iC];by_cases e:p.1=k
   . simp only[sG e,decide_eq_true e,Bool.true_or,Option.isSome_some]
   . rw[CG e,decide_eq_false e,nK];exact CH k r
def AI kvs(k:κ) v:(putK kvs k v).length<=kvs.length+1:=by
 unfold putK;split
 . rw[cA];lia
 . rw[bS,aG,lY];lia
def kD{k:κ} v(h:valV kvs k=none):putK kvs k v=kvs++[(k,v)]:=by unfold putK;rw[CH,h];exact if_neg (by decide)
def RelO.isSome_eq(r:RelO o u):o.isSome=u.isSome:=by
 cases o with
 |none=>cases u with
   |none=>rfl
   |some _=>exact(r).elim
 |some _=>cases u with
   |none=>exact(r).elim
   |some _=>rfl
theorem RelO.getD(r:RelO o u)(rd:RelV d d'):RelV (o.getD d) (u.getD d'):=by
 cases o with
 |none=>cases u with
   |none=>exact rd
   |some _=>exact(r).elim
 |some _=>cases u with
   |none=>exact(r).elim
   |some _=>exact r
def KV.val(r:KV kvs vs)(k:κ):RelO (valV kvs k) (LK vs k):=by
 induction r with
 |nil=>exact True.intro
 |@cons p q ps qs h t ih=>
   obtain⟨h1,h2⟩:=h;by_cases e:p.1=k
   . have e':q.1=k:=h1.symm.trans e;have b:LK (q::qs) k=some q.2:=by simp [LK,cN,e']
     rw[sG e,b];exact h2
   . have e':¬ q.1=k:=λz=>e (h1.trans z);have b:LK (q::qs) k=LK qs k:=by simp [LK,cN,e']
     rw[CG e,b];exact ih
theorem KV.any(r:KV kvs vs)(k:κ):(kvs.any λkv=>decide (kv.1=k))=vs.any λkv=>decide (kv.1=k):=by
 induction r with
 |nil=>rfl
 |cons h t ih=>rw[iC,iC,ih,h.1]
def KV.repl(r:KV kvs vs)(k:κ)(ry:RelV y u) :
  KV (kvs.map λkv=>if kv.1=k then (kv.1,y)else kv) (vs.map λkv=>if kv.1=k then (kv.1,u)else kv):=by
 induction r with
 |nil=>exact .nil
 |@cons p q ps qs h t ih=>
   rw[aK,aK];refine .cons ?_ ih;obtain⟨h1,h2⟩:=h;by_cases e:p.1=k
   . rw[if_pos e,if_pos (h1.symm.trans e)];exact⟨h1,ry⟩
   . rw[if_neg e,if_neg (λz=>e (h1.trans z))];exact⟨h1,h2⟩
def KV.put(r:KV kvs vs)(k:κ)(ry:RelV y u):KV (putK kvs k y) (stored vs k u):=by
 unfold putK stored;rw[r.any k];by_cases e:(vs.any λkv=>decide (kv.1=k))=true
 . rw[if_pos e,if_pos e];exact r.repl k ry
 . rw[if_neg e,if_neg e];exact FY.snoc r ⟨rfl,ry⟩
def KV.drop(r:KV kvs vs)(k:κ):KV (dropK kvs k) (without vs k):=by
 unfold dropK without;induction r with
 |nil=>exact .nil
 |@cons p q ps qs h t ih=>
   obtain⟨h1,h2⟩:=h;rw[kZ,kZ];by_cases e:p.1=k
   . have a:¬ decide (p.1≠k)=true:=by simp [e]
     have b:¬decide (q.1≠k)=true:=by simp[h1.symm.trans e]
     rw[if_neg a,if_neg b];exact ih
   . have e':¬ q.1=k:=λz=>e (h1.trans z);have a:decide (p.1≠k)=true:=by simp [e]
     have b:decide (q.1≠k)=true:=by simp[e']
     rw[if_pos a,if_pos b];exact .cons ⟨h1,h2⟩ ih
theorem KV.length{kvs:List (κ×V)}(r:KV kvs vs):kvs.length=vs.length:=FY.length r
end
def UH(r:RelV (kV k) u):(eY P w).is k u=true:=by
 rcases k with(_|i)|x
 . cases(r);rfl
 . obtain⟨t,rfl⟩:=(r);simp[eY,keyIs,aI.isInt]
 . obtain⟨t,rfl⟩:=(r);simp[eY,keyIs,aI.isStrOf]
theorem HU:∀{ks:List Key}{us:List aI},Vals (ks.map kV) us->ItemsAre (eY P w) ks us
 |[],_,r=>by rw[cS]at r;cases r;exact .nil
 |k::ks,_,r=>by
   rw[aK]at r;cases r with
   |cons h t=>exact .cons (UH h) (HU t)
abbrev KT(H:Hp):List (List Key×V)->List (List Key×aD×aI)->Prop:=FY λp q=>p.1=q.1/\H q.2.1=some (.tup (p.1.map kV))/\RelV p.2 q.2.2
def KT.val(r:KT H kvs xs) k:RelO (valV kvs k) ((VJ xs k).map (·.2)):=by
 induction r with
 |nil=>exact True.intro
 |@cons p q ps qs h t ih=>
   obtain⟨h1,_,h2⟩:=h;by_cases e:p.1=k
   . have e':q.1=k:=h1.symm.trans e;have b:VJ (q::qs) k=some q.2:=by simp [VJ,cN,e']
     rw[sG e,b];exact h2
   . have e':¬ q.1=k:=λz=>e (h1.trans z);have b:VJ (q::qs) k=VJ qs k:=by simp [VJ,cN,e']
     rw[CG e,b];exact ih
def KT.repl(r:KT H kvs xs) k(ry:RelV y u) :
  KT H (kvs.map λkv=>if kv.1=k then (kv.1,y)else kv) (xs.map (putAt k u)):=by
 induction r with
 |nil=>exact .nil
 |@cons p q ps qs h t ih=>
   rw[aK,aK];refine .cons ?_ ih;obtain⟨h1,h2,h3⟩:=h;unfold putAt;by_cases e:p.1=k
   . rw[if_pos e,if_pos (h1.symm.trans e)];exact⟨h1,h2,ry⟩
   . rw[if_neg e,if_neg (λz=>e (h1.trans z))];exact⟨h1,h2,h3⟩
def KT.put(r:KT H kvs xs) k(hb:H b=some (.tup (k.map kV)))(ry:RelV y u) :
  KT H (putK kvs k y) (storedH xs k b u):=by
 have e:(kvs.any λkv=>decide (kv.1=k))=(VJ xs k).isSome:=by rw[CH,(r.val k).isSome_eq,RL]
 unfold putK storedH;rw[e];by_cases q:(VJ xs k).isSome=true
 . rw[if_pos q,if_pos q];exact r.repl k ry
 . rw[if_neg q,if_neg q];exact FY.snoc r ⟨rfl,hb,ry⟩
def KT.keeps(r:KT H kvs xs)(ht:∀b ys,H b=some (.tup ys)->H' b=some (.tup ys)):KT H' kvs xs:=
 FY.mapP r λ_ _ z=>⟨z.1,ht _ _ z.2.1,z.2.2⟩
def rd_of(ok:HOk P w H h)(e:Rd H a u):ObjOk P w H h a u:=e.ok ok
def EI(ok:HOk P w H h)(e:Rd H a (.dK kvs)):kvs.length<=sizeLine/\(a==iV)=false/\∃vs,KV kvs vs/\h.DictOf (eY P w) a vs:=
 show ObjOk P w H h a (.dK kvs) from rd_of ok e
def dk_of(ok:HOk P w H h)(e:H a=some (.dK kvs)):kvs.length<=sizeLine/\(a==iV)=false/\∃vs,KV kvs vs/\h.DictOf (eY P w) a vs:=EI ok (.inl e)
def JW(ok:HOk P w H h)(e:H a=some (.tup (ks.map kV))):(FQ (eY P w)).is h ks a:=by
 obtain⟨_,its,r,o,h1,h2,n,h3⟩:=(ok a _ e)
 exact⟨o,its.toArray,n,h1,h2,h3,by simpa using HU r⟩
def UX(ok:HOk P w H h)(e:Rd H a (.dT kvs)):kvs.length<=sizeLine/\(a==iV)=false ∧
  ∃xs,KT H kvs xs/\h.DictOfH (FQ (eY P w)) a xs:=by
 obtain⟨z,y,xs,r,o,es,ep,h1,h2,h3,h4,h5⟩:=(rd_of ok e)
 refine⟨z,y,xs,r,o,es,ep,h1,h2,h3,h4,λx hx=>?_,h5⟩;have all:∀{l:List (List Key×V)}{m:List (List Key×aD×aI)},KT H l m->∀x∈m,(FQ (eY P w)).is h x.1 x.2.1:=by
  intro l m q;induction q with
  |nil=>intro x hx;exact nomatch hx
  |@cons p q ps qs hq t ih=>
    intro x hx;rcases aA.mp hx with e|hx
    . subst e;exact JW ok (by rw[<-hq.1];exact hq.2.1)
    . exact ih x hx
 exact all r x hx
def dt_of(ok:HOk P w H h)(e:H a=some (.dT kvs)):kvs.length<=sizeLine/\(a==iV)=false ∧
  ∃xs,KT H kvs xs/\h.DictOfH (FQ (eY P w)) a xs:=UX ok (.inl e)
def DGet(H:Hp)(a:aD)(y:V)(r:Option V):Prop:=
 (∃kvs k,Rd H a (.dK kvs)/\y=kV k/\r=valV kvs k)\/∃kvs k b,Rd H a (.dT kvs)/\y=.ref b/\H b=some (.tup (k.map kV))/\r=valV kvs k
def DPut(H:Hp)(a:aD)(y v:V)(H':Hp):Prop:=
 (∃kvs k,H a=some (.dK kvs)/\y=kV k/\kvs.length<sizeLine/\H'=upd H a (.dK (putK kvs k v))) ∨
 ∃kvs k b,H a=some (.dT kvs)/\y=.ref b/\H b=some (.tup (k.map kV))/\kvs.length<sizeLine/\H'=upd H a (.dT (putK kvs k v))
def DGet.t{k:List Key}(e:H a=some (.dT kvs))(eb:H b=some (.tup (k.map kV))):DGet H a (.ref b) (valV kvs k):=.inr ⟨kvs,k,b,.inl e,rfl,eb,rfl⟩
theorem DPut.k{k:Key}(e:H a=some (.dK kvs))(hl:kvs.length<sizeLine):DPut H a (kV k) v (upd H a (.dK (putK kvs k v))):=.inl ⟨kvs,k,e,rfl,hl,rfl⟩
def DPut.t{k:List Key}(e:H a=some (.dT kvs))(eb:H b=some (.tup (k.map kV)))(hl:kvs.length<sizeLine) :
  DPut H a (.ref b) v (upd H a (.dT (putK kvs k v))):=.inr ⟨kvs,k,b,e,rfl,eb,hl,rfl⟩
def Inv.big(I:Inv X aC σ H s):iV<s.heap.objs.size:=by have h:=(I.mod.glob.keeps I.bk).lt;exact Nat.lt_trans (by decide) h
def YD(hu:A.units+1<cLine)(I:Inv X aC σ H s)(g:DGet H a y (some v))(ry:RelV y u)(h:∀w' s',Inv X aC σ H s'->RelV v w'->Q w' s') :
  bP (bK X.prog X.w) A (LM (.ref a) u) Q E s:=by
 rcases g with⟨kvs,k,e,ey,l⟩|⟨kvs,k,b,e,ey,eb,l⟩
 . subst ey;obtain⟨z,hd,vs,rel,dd⟩:=EI I.hok e;obtain⟨w',hw,rw'⟩:=RelO.some_of (by rw[l];exact rel.val k);exact wpAny_getItem_of (UH ry) dd.mapOf hw (h w' _ (I.tok _) rw')
 . subst ey;cases(ry);obtain⟨z,hd,xs,rel,dd⟩:=UX I.hok e;obtain⟨w',hw,rw'⟩:=RelO.some_of (by rw[l];exact rel.val k);obtain⟨p,hp,hp2⟩:=IJ.mp hw;refine wpAny_getItem_heap (BC hu) (JW I.hok eb) dd hp ?_;rw[hp2];exact h w' _ (I.tok _) rw'
def d_notIn(hu:A.units+1<cLine)(I:Inv X aC σ H s)(g:DGet H a y o)(ry:RelV y u)(h:∀s',Inv X aC σ H s'->Q (.bool (!o.isSome)) s') :
  bP (bK X.prog X.w) A (dS .NotIn u (.ref a)) Q E s:=by
 rcases g with⟨kvs,k,e,ey,l⟩|⟨kvs,k,b,e,ey,eb,l⟩
 . subst ey;obtain⟨z,hd,vs,rel,dd⟩:=EI I.hok e;refine wpAny_notIn_of (UH ry) hd dd.mapOf ?_;rw[<-(rel.val k).isSome_eq,<-l];exact h _ (I.tok _)
 . subst ey;cases(ry);obtain⟨z,hd,xs,rel,dd⟩:=UX I.hok e;refine wpAny_notIn_heap (BC hu) (JW I.hok eb) hd dd ?_;have q:=(rel.val k).isSome_eq;rw[RL]at q;rw[<-q,<-l];exact h _ (I.tok _)
def KO(I:Inv X aC σ H s)(mu:Mut (H a))(hs:Heap.SameBut a s.heap h')(he:∃q,h'.get? a=some q)(new:ObjOk X.prog X.w (upd H a ob) h' a ob) :
  Inv X aC σ (upd H a ob) {s with heap:=h',toks:=t'}:=
 I.write mu (.inl rfl) (λb q hb z=>(hs.2 b hb).trans z) he new
def dk_new(z:kvs.length<=sizeLine)(hd:(a==iV)=false)(rel:KV kvs vs)(dd:h'.DictOf (eY P w) a vs) :
  ObjOk P w H' h' a (.dK kvs):=⟨z,hd,vs,rel,dd⟩
def YC(hu:A.units+1<cLine)(I:Inv X aC σ H s)(g:DPut H a y v H')(ry:RelV y u)(rv:RelV v r)(h:∀s',Inv X aC σ H' s'->Q () s') :
  bP (bK X.prog X.w) A (setItem (.ref a) u r) Q E s:=by
 rcases g with⟨kvs,k,e,ey,l,eH⟩|⟨kvs,k,b,e,ey,eb,l,eH⟩
 . subst ey eH;obtain ⟨z,hd,vs,rel,dd⟩:=dk_of I.hok e;have hz:vs.length<=sizeLine:=by rw [<-rel.length];exact z
   have hl:(putK kvs k v).length<=sizeLine:=by have:=AI kvs k v;lia
   refine wpAny_setItem_pairs (UH ry) dd λh' dd' hs=>h _ ?_;have he:∃q,h'.get? a=some q:=let ⟨q,_,_,hq,_⟩:=dd';⟨q,hq⟩;exact KO I (by rw[e];exact True.intro) hs he (dk_new hl hd (rel.put k rv) dd')
 . subst ey eH;cases (ry);obtain ⟨z,hd,xs,rel,dd⟩:=dt_of I.hok e;have hz:xs.length<=sizeLine:=by rw [<-FY.length rel];exact z
   have hl:(putK kvs k v).length<=sizeLine:=by have:=AI kvs k v;lia
   refine wpAny_setItem_heap (BC hu) (JW I.hok eb) dd λh' dd' hs=>h _ ?_;obtain⟨q,es,ep,hq,h2,h3,h4,_,h5⟩:=dd';refine KO I (by rw[e];exact True.intro) hs ⟨q,hq⟩ ⟨hl,hd,_,(rel.put k eb rv).keeps λc ys ec=>?_,q,es,ep,hq,h2,h3,h4,h5⟩;rw[upd_ne (ne_of ec e (λz=>nomatch z))];exact ec
def NoSl(i:Expr):Prop:=∀ov iv,IH i false ov iv=operate [ov,iv] (LM ov iv)
def subD_of{T id:String}(hl:OG (.type T) "__getitem__" = pure (some (.builtin id)))(hs:NoSl slice)(h:bP (bK prog w) A (bU value env) (λo s₁=>bP (bK prog w) A (bU slice env) (λi s₂=>s₂.TypeIs o T/\bP (bK prog w) A (LM o i) Q E s₂) E s₁) E s) :
  bP (bK prog w) A (bU (.Subscript value slice pos) env) Q E s:=by
 refine Subscript_ (eN h (λo s₁ h₁=>eN h₁ (λi s₂ h₂=>?_) λ_ _ x=>x) λ_ _ x=>x);obtain⟨hT,h₂⟩:=h₂;refine aZ ?_;refine aZ (mS hT hl ?_);have fin:bP (bK prog w) A (IH slice false o i) (λr s₃=>bP (bK prog w) A (letTemporaryGo value o r >>= λ_=>pure r) Q E s₃) E s₂:=by rw[hs o i];exact wpAny_operating (eN h₂ (λr s₃ h₃=>aZ (wpAny_letTemporaryGo (bV h₃))) λ_ _ x=>x)
 first
  |exact bV (aZ fin)
  |exact aZ (bV (aZ fin))
  |exact aZ fin
def NV(I:Inv X aC σ H s)(g:DGet H a y o):s.TypeIs (.ref a) "dict":=by
 rcases g with⟨kvs,k,e,_,_⟩|⟨kvs,k,b,e,_,_,_⟩
 . obtain⟨_,_,vs,_,dd⟩:=EI I.hok e;exact dd.typeIs
 . obtain⟨_,_,xs,_,dd⟩:=UX I.hok e;exact dd.typeIs
def tDGet(td ty:TE):TE:=λσ H Q=>td σ H λx H1=>ty σ H1 λy H2=>∃a v,x=.ref a/\DGet H2 a y (some v)/\Q v H2
def tDNotIn(ty td:TE):TE:=λσ H Q=>ty σ H λy H1=>td σ H1 λx H2=>∃a o,x=.ref a/\DGet H2 a y o/\Q (.bl (!o.isSome)) H2
def sDPut(td ty tv:TE):TS:=λD σ H=>tv σ H λv H1=>td σ H1 λx H2=>ty σ H2 λy H3=>∃a H4,x=.ref a/\DPut H3 a y v H4/\D.nx σ H4
def pe_dget(hu:X.A.units+1<cLine)(ho:PE X o td)(hi:PE X i ty)(hs:NoSl i):PE X (.Subscript o i pos) (tDGet td ty):=by intro aC s σ H Q I h;refine subD_of PySem.F.slot_dict_getitem.lookup hs (thn (ho aC s σ H _ I h) λu s1 ⟨x,H1,I1,rx,q1⟩=>thn (hi aC s1 σ H1 _ I1 q1) λiv s2 zq=>?_);obtain⟨y,H2,I2,ry,a,v,ex,g,q2⟩:=zq;subst ex;obtain rfl:u=aI.ref a:=rx;exact⟨NV I2 g,YD hu I2 g ry λw' s3 I3 rw'=>⟨v,H2,I3,rw',q2⟩⟩
def WI(hu:X.A.units+1<cLine)(hi:PE X i ty)(ho:PE X o td):PC X .NotIn i o (tDNotIn ty td):=by intro aC s σ H Q I h;refine thn (hi aC s σ H _ I h) λiv s1 ⟨y,H1,I1,ry,q1⟩=>thn (ho aC s1 σ H1 _ I1 q1) λu s2 zq=>?_;obtain⟨x,H2,I2,rx,a,ov,ex,g,q2⟩:=zq;subst ex;obtain rfl:u=aI.ref a:=rx;exact d_notIn hu I2 g ry λs3 I3=>⟨.bl (!ov.isSome),H2,I3,rfl,q2⟩
def TC(hu:X.A.units+1<cLine)(ho:PE X o td)(hi:PE X i ty)(hv:PE X value tv)(hs:eC value (some (.Subscript o i pos')) pos.line X.env=pure false) :
  PS X (.Assign [.Subscript o i pos'] value pos) (sDPut td ty tv):=by
 intro aC s σ H D I h;refine wpAny_Assign_Subscript (thn (hv aC s σ H _ I h) λr s1 ⟨v,H1,I1,rv,q1⟩=>thn (ho aC s1 σ H1 _ I1 q1) λu s2 ⟨x,H2,I2,rx,q2⟩=>thn (hi aC s2 σ H2 _ I2 q2) λiv s3 zq=>?_) hs;obtain⟨y,H3,I3,ry,a,H4,ex,g,q3⟩:=zq;subst ex;obtain rfl:u=aI.ref a:=rx;exact YC hu I3 g ry rv λs4 I4=>⟨σ,H4,I4,q3⟩
def aEa(h:Heap)(hb:iV<h.objs.size):ObjOk P w H (h.push {cls:=.type "dict",data:=.dict #[]}) h.objs.size (.dK []):=
 ⟨cR _,beq_eq_false_iff_ne.mpr (Ne.symm (bM hb)),[],.nil,Heap.DictOf.new h⟩
def tDNewK:TE:=λ_ H Q=>∀p,H p=none->Q (.ref p) (upd H p (.dK []))
def aBv:PE X (.Dict [] [] pos) tDNewK:=λaC s σ H Q I h=>wpAny_Dict_empty ⟨.ref s.heap.objs.size,_,I.laid (λ_ _ q=>aJ _ q) (aT _) (aEa s.heap I.big),rfl,h _ (I.hok.fresh (aT _))⟩
end L2
namespace Att
open PySem PySem.W PySem.Calls PyProof.Rows
def AU:∀ns vs,WellAll P h vs (ns.map WData.int)->YU vs ns:=by
 intro ns;induction ns with
 |nil=>intro vs w;cases w;exact .nil
 |cons n ns ih=>
   intro vs w;cases w with
   |cons a b=>cases a;exact .cons _ _ (ih _ b)
def VX{l:OpenLaw}(hn:l.most=some n)(hpre:l.row.toRowW.claim.pre args=true)(hwl:WellAll P h vals args) :
  ∃a vs ns,vals=[aI.ref a]/\args=[WData.list (ns.map WData.int)]/\h.get? a=some {cls:=.type "list",data:=.seq vs.toArray}/\YU vs ns/\ns.length<=n:=by
 have hsh:=(pre_splitW hpre).1;have hc:l.pre.holds [] {args:=args}=true:=(pre_splitW hpre).2;obtain⟨d,r,rfl,h1,h2⟩:=hasAllW_cons hsh;obtain rfl:=hasAllW_nil h2;obtain⟨xs,rfl,h3⟩:=hasW_list h1;obtain⟨ns,rfl⟩:=items_int h3;have hlen:ns.length<=n:=by
  have h4:(WTm.not (.lt (.lit (.int (n:Int))) (.len (.arg 0)))).holds [] {args:=[.list (ns.map .int)]}=true:=by have h4:=(holds_andW hc).1;rw[hn]at h4;exact h4
  have h5:=condW_of h4 (w_not (w_lt w_lit (w_len_list (w_arg rfl))));refine Nat.le_of_not_lt λq=>?_
  first
   |(rw[decide_eq_true q']at h5;exact absurd h5 (by decide))
   |(simp at h5;lia)
 cases hwl with
 |cons w1 w2=>
   cases w2;cases w1 with
   |list ho hall=>exact⟨_,_,ns,rfl,rfl,ho,AU ns _ hall,hlen⟩
def WG(l:OpenLaw) args:l.row.toRowW.claim.post args (.bool true) args=true:=
 postW_of (r:=l.row.toRowW) (X:=(true==true))
  (show WShape.has [] (.bool true) .bool=true by first|rfl|decide|simp[WShape.has,WShape.arms,WShape.armsAll])
  (show(WTm.eq .res (.lit (.bool true))).value [] {args:=args,res:=some (.bool true),after:=args}=some (.bool (true==true)) from w_eq_bool (w_res rfl) w_lit) rfl
section
variable{K:Frag}
end
end Att
namespace L2
open PySem PySem.Spec PyProof.Rows
theorem GD:∀{vs:List aI}{ns:List Int},YU vs ns->Vals (ns.map V.int) vs
 |_,_,.nil=>.nil
 |_,_,.cons n t h=>.cons ⟨t,rfl⟩ (GD h)
noncomputable def dC(s:Stmt)(j:Nat):Stmt:=match s with
 |.ClassDef _ _ _ body _ _ _ _ _ _ _=>body.getD j (.Pass ⟨0,0,0,0⟩)
 |_=>.Pass ⟨0,0,0,0⟩
noncomputable def yF(s:Stmt):Arguments:=match s with
 |.FunctionDef _ a _ _ _ _ _ _ _ _=>a
 |_=>{posonlyargs:=[],args:=[],vararg:=none,kwonlyargs:=[],kw_defaults:=[],kwarg:=none,defaults:=[]}
noncomputable def qG(s:Stmt):List Stmt:=match s with
 |.FunctionDef _ _ b _ _ _ _ _ _ _=>b
 |_=>[]
noncomputable def zI(s:Stmt):Scope:=match s with
 |.FunctionDef _ _ _ _ _ _ sc _ _ _=>sc
 |_=>{kind:=.function,names:=[],isGenerator:=false,isCoroutine:=false}
abbrev CX0:CXT:=λ_ _ _ _ _ _=>False
abbrev E0:XK:=λ_ _ _=>False
def pass0:EQ CX0 X E0:=λ_ _ _ _ _ _ _ h=>h.elim
structure Fun(K:aN)(x qual:Str)(st:Stmt)(f:aD)(fd:bE):Prop where
 ex:∃(oc:aI) (od:Option aD) (kV doc pm:aI) (an:Option aD) (cdv ct:aI) (osl:Array (Option aI)),
  fd=cV x qual (yF st) (qG st) (zI st) .none kV doc pm an cdv ct/\K.lookup f=some ⟨oc,od,.func fd,osl⟩/\dI K cdv qual=true
 kp:bO K (.ref f)=true
section
variable{K:aN}
def Fun.ok{st:Stmt}(F:Fun K x qual st f fd)(S:FnScope N ps (zI st))(len:∀vs H Q E,sp vs H Q E->vs.length=ps.length)(hbody:∀cdv A outer s H vs Q E,Room k (A.deeper (iW qual (zI st) s.heap.objs.size f cdv))->sp vs H Q E →
    ∃t,PSs (cxOf CX0 P w K mg base N qual (zI st) f cdv A outer s H E).nox (qG st) t/\t {nx:=λ_ H'=>Q .non H',rt:=Q} (start N vs) H):FnOk P w K mg base CX0 (k+1) f fd ps sp:=by
 obtain⟨oc,od,kV,doc,pm,an,cdv,ct,osl,rfl,lk,hcd⟩:=F.ex;refine fn_of lk hcd S len λA outer s H vs Q E hr hsp=>?_;obtain⟨t,h,q⟩:=hbody cdv A outer s H vs Q E hr hsp;exact⟨t,h.nox,q⟩
def Fun.binds{st:Stmt}(F:Fun K x qual st f fd)(h:∀kV doc pm an cdv ct us,us.length=ps.length->pM (cV x qual (yF st) (qG st) (zI st) .none kV doc pm an cdv ct) ⟨us,[]⟩=pure (ps.zip us)):Binds K fd ps []:=by obtain⟨oc,od,kV,doc,pm,an,cdv,ct,osl,rfl,lk,hcd⟩:=F.ex;exact .all (h kV doc pm an cdv ct)
def vT{st:Stmt}{kV doc pm cdv ct:aI}(l:K.lookup f=some ⟨oc,od,.func (cV x qual (yF st) (qG st) (zI st) .none kV doc pm an cdv ct),osl⟩)(c:dI K cdv qual=true)(k:bO K (.ref f)=true):Fun K x qual st f (cV x qual (yF st) (qG st) (zI st) .none kV doc pm an cdv ct):=⟨⟨oc,od,kV,doc,pm,an,cdv,ct,osl,rfl,l,c⟩,k⟩
end
def pv i(hN:X.N[i]?=some x:=by rfl)(hv:Vis X.env.scope x:=by first|exact Or.inl rfl|exact Or.inr (Or.inl rfl)|exact Or.inr (Or.inr rfl))(hd:(x==("__debug__" : Str))=false:=by decide)(hcd:(x==("__classdict__" : Str))=false:=by decide):PE X (.Name x pos) (tVar i):=xC hN hv hd hcd
def iteF{A B:Prop}(h:B):if false=true then A else B:=by exact h
def iteT{A B:Prop}(h:A):if true=true then A else B:=by exact h
def Same(H H':Hp):Prop:=∀b o,H b=some o->H' b=some o
def Same.refl H:Same H H:=λ_ _ h=>h
def Same.trans(a:Same H H1)(b:Same H1 H2):Same H H2:=λc o h=>b c o (a c o h)
def Same.free(e:Same H H')(h:H' l=Option.none):H l=Option.none:=by
 cases q:H l with
 |none=>rfl
 |some o=>rw[e l o q]at h;cases h
def Same.seq{K:aN}(e:Same H H')(h:SqL K H a xs):SqL K H' a xs:=by
 rcases h with(h|⟨o,h⟩)|h
 . exact .inl (.inl (e _ _ h))
 . exact .inl (.inr ⟨o,e _ _ h⟩)
 . exact .inr h
section
variable{κ:Type}[DecidableEq κ]
end
noncomputable def jL(env:Env):List (Str×hV)->List (Str×aD)->List (Str×aD)
 |[],cs=>cs
 |(n,k)::r,cs=>jL env r (if k==hV.free then (match env.cells.lookup n with|some c=>(n,c)::cs|none=>cs)else cs)
def rK(h:∀y∈scope.names,y.2=hV.free->∃c,env.cells.lookup y.1=some c):closureFor scope env=pure (jL env scope.names []):=by
 simp only[closureFor];generalize ([]:List (Str×aD))=cs;revert h cs;generalize scope.names=l;intro h;induction l with
 |nil=>intro cs;rfl
 |cons y r ih=>
   intro cs;obtain⟨n,k⟩:=y;have ihr:=ih λz hz=>h z (aH _ hz);simp only[List.forIn_cons,jL];by_cases hk:k=hV.free
   . obtain ⟨c,hc⟩:=h (n,k) aE hk;have hc':=hc;have hcell:cellOf env n=pure c:=by unfold cellOf;rw [hc']
     subst hk;simp[hcell,hc',beq_self_eq_true,if_true,pure_bind,bind_pure_comp,map_pure,bind_assoc]
     first
      |exact ihr _
      |simpa using ihr _
   . have hb:(k == hV.free)=false:=by simpa using hk
     simp[hb,sF,if_false,pure_bind]
     first
      |exact ihr _
      |simpa using ihr _
theorem EL:∀l cs,(∀x c,cs.lookup x=some c->env.cells.lookup x=some c)->∀x c,(jL env l cs).lookup x=some c->env.cells.lookup x=some c
 |[],_,h=>h
 |(n,k)::r,cs,h=>by
   unfold jL;refine EL r _ λx c e=>?_;split at e
   . cases hc:env.cells.lookup n with
     |none=>rw[hc]at e;exact h x c e
     |some c'=>
       rw[hc]at e;simp only[cC]at e;by_cases hx:x==n
       . rw[hx]at e;cases e;rw[beq_iff_eq]at hx;rw[hx];exact hc
       . have hx':(x == n)=false:=by simpa using hx
         rw[hx']at e;exact h x c e
   . exact h x c e
theorem EK:∀l cs x,(∃c,cs.lookup x=some c)->∃c,(jL env l cs).lookup x=some c
 |[],_,_,h=>h
 |(n,k)::r,cs,x,h=>by
   unfold jL;refine EK r _ x ?_;split
   . cases hc:env.cells.lookup n with
     |none=>exact h
     |some c'=>
       simp only[cC];by_cases hx:x==n
       . rw[hx];exact⟨_,rfl⟩
       . have hx':(x == n)=false:=by simpa using hx
         rw[hx'];exact h
   . exact h
theorem uN:∀l cs x c,(x,hV.free)∈l->env.cells.lookup x=some c->∃c,(jL env l cs).lookup x=some c
 |[],_,_,_,h,_=>nomatch h
 |(n,k)::r,cs,x,c,h,hc=>by
   unfold jL;rcases aA.mp h with e|e
   . cases e;refine EK r _ _ ?_;simp only[beq_self_eq_true,if_true,hc,cC];exact⟨_,rfl⟩
   . exact uN r _ x c e hc
theorem lT{env:Env}:∀{names:List (Str×hV)}{x:Str},names.lookup x=some hV.free →
  (names.map λ(n,k)=>if (k==hV.free&&env.scope.kind==.function&&env.kindOf n==some .cell)then (n,hV.cell)else (n,k)).lookup x=some hV.cell ∨
  (names.map λ(n,k)=>if (k==hV.free&&env.scope.kind==.function&&env.kindOf n==some .cell)then (n,hV.cell)else (n,k)).lookup x=some hV.free
 |[],_,h=>by simp at h
 |(n,k)::r,x,h=>by
   have ih:=@lT env r x;simp only[aK];cases hx:x==n with
   |true=>
     simp only[cC,hx]at h;cases h
     by_cases hc:(hV.free==hV.free&&env.scope.kind==.function&&env.kindOf n==some .cell)=true
     . rw[if_pos hc];left;simp only[cC,hx]
     . rw[if_neg hc];right;simp only[cC,hx]
   |false=>
     simp only[cC,hx]at h;by_cases hc:(k==hV.free&&env.scope.kind==.function&&env.kindOf n==some .cell)=true
     . rw[if_pos hc];simp only[cC,hx];exact ih h
     . rw[if_neg hc];simp only[cC,hx];exact ih h
theorem vN{env:Env}:∀{names:List (Str×hV)}{x:Str}{k':hV},(∀y∈names,y.2≠hV.cell) →
  (names.map λ(n,k)=>if (k==hV.free&&env.scope.kind==.function&&env.kindOf n==some .cell)then (n,hV.cell)else (n,k)).lookup x=some k'->(k'=hV.cell\/k'=hV.free)->(x,hV.free)∈names
 |[],_,_,_,h,_=>by simp at h
 |(n,k)::r,x,k',hn,h,hk=>by
   have ih:=@vN env r x k' λy hy=>hn y (aH _ hy);simp only[aK]at h;cases hx:x==n with
   |true=>
     have ex:x=n:=by simpa using hx
     by_cases hc:(k==hV.free&&env.scope.kind==.function&&env.kindOf n==some .cell)=true
     . have:k=hV.free:=by
        simp only[bJ,beq_iff_eq]at hc;exact hc.1.1
       subst this;subst ex;exact aE
     . rw [if_neg hc]at h;simp only [cC,hx]at h;cases h;rcases hk with hk|hk
       . exact absurd hk (hn (n,k) aE)
       . subst hk;subst ex;exact aE
   |false=>
     by_cases hc:(k==hV.free&&env.scope.kind==.function&&env.kindOf n==some .cell)=true
     . rw[if_pos hc]at h;simp only[cC,hx]at h;exact aH _ (ih h hk)
     . rw[if_neg hc]at h;simp only[cC,hx]at h;exact aH _ (ih h hk)
section
variable{X:Cx}
structure CI where
 C:aD
 s:aY
 H:Hp
 ex:List aD
noncomputable def jY(X:Cx)(scope:Scope)(NY:List Str)(c:CI):Cx where
 prog:=X.prog
 w:=X.w
 K:=X.K
 mg:=X.mg
 base:=X.base
 A:=X.A
 N:=NY
 s₀:=c.s
 H₀:=c.H
 env:=compEnvC scope (jL X.env scope.names []) c.C X.env
 outer:=X.stack
 stack:=X.stack
 ex:=c.ex
 fn:=λ_=>false
 calm:=X.calm
 pn:=[]
 xe:=λ_ _=>False
def Inv.adopt(I:Inv X aC σ H s)(hn:H a=none)(young:X.s₀.heap.objs.size<=a)(hL:a≠X.env.locals)(hc:∀x c,X.env.cells.lookup x=some c->c≠a)(hp:∀p∈X.pn++aC,p.1≠a)(new:ObjOk X.prog X.w (upd H a o) s.heap a o):Inv X aC σ (upd H a o) s:=by
 have ne:∀{b:aD}{u:HO},H b=some u->b≠a:=λe z=>by rw[z,hn]at e;cases e
 refine⟨I.ok,I.os,I.bare,⟨I.base.keep,I.base.slot,λb ob q n hx=>?_,I.base.there,λb xs q=>?_,λb ob u q=>?_,λb ps q=>?_⟩,I.loc,I.cell,?_,λx c e=>?_,λp hpm=>?_,λb u e=>?_,I.len⟩
 . rw[upd_ne (bM (bL (aW q) young))];exact I.base.free b ob q n hx
 . have:=I.base.tups b xs q;rw[upd_ne (ne this)];exact this
 . have:=I.base.frzs b ob u q;rw[upd_ne (ne this)];exact this
 . have:=I.base.tbls b ps q;rw[upd_ne (ne this)];exact this
 . rw[upd_ne (Ne.symm hL)];exact I.free
 . have:=I.freeC x c e;unfold FreeC at this ⊢;rw[upd_ne (hc x c e)];exact this
 . obtain⟨h1,h2,h3⟩:=I.pin p hpm;exact⟨h1,by rw[upd_ne (hp p hpm)];exact h2,h3⟩
 . by_cases hb:b=a
   . subst hb;rw[zO]at e;cases e;exact new
   . rw[upd_ne hb]at e;exact(I.hok b u e).stay (λc v _ q=>q) (λc q=>by rw[upd_ne (ne q)];exact q) λc xs q=>by rw[upd_ne (ne q)];exact q
def PF(X:Cx)(ifs:List Expr)(t:TT):Prop:=
 ∀(aC:List (aD×Obj)) (s:aY) (σ:St) (H:Hp) (Q:Bool->Hp->Prop),Inv X aC σ H s->t σ H Q →
  bP (bK X.prog X.w) X.A (forIn ifs true λc r=>if r=true then do let ok <- FV c X.env (bU c X.env);pure (ForInStep.yield ok) else pure (ForInStep.yield r)) (TP X aC σ Q) X.xe s
def tNoIf:TT:=λ_ H Q=>Q true H
def aBn:PF X [] tNoIf:=λ_ _ _ H _ I h=>wpAny_tests_nil ⟨H,I,h⟩
def pf_one(h:PT X c t):PF X [c] t:=λaC s σ H Q I q=>wpAny_tests_one (h aC s σ H Q I q)
noncomputable def gR(mp:List (Option Nat))(σ:St):St:=mp.map λo=>o.bind λj=>σ[j]?.join
def ZW(J:It)(mp:List (Option Nat))(g:CI->TG)(tt:CI->TT)(te:CI->TE)(σ:St)(H1:Hp)(R:List V->Hp->Prop):Prop:=
 ∀c:CI,∃W:Nat->Nat->List V->Hp->Prop,(∃m,W 0 m [] H1)/\∀i m ys H,W i m ys H →
  (J.stop i H/\R ys H) ∨
  (J.go i H/\ys.length<sizeLine/\∀x H',J.yld i H x H'->g c x (gR mp σ) H' λσ2 H2=>tt c σ2 H2 λb H3=>if b=true then te c σ2 H3 λy H4=>∃m',m'<m/\W (i+1) m' (ys++[y]) H4 else ∃m',m'<m/\W (i+1) m' ys H3)
def tComp(wi:TI)(mp:List (Option Nat))(g:CI->TG)(tt:CI->TT)(te:CI->TE):TE:=λσ H Q=>wi σ H λJ H1 =>
 ZW J mp g tt te σ H1 λys H'=>ys.length<=sizeLine/\∀p,H' p=none->Q (.ref p) (upd H' p (.lst ys))
structure CompScope(X:Cx)(scope:Scope)(NY:List Str)(mp:List (Option Nat)):Prop where
 kind:scope.kind=.function
 nocell:∀y∈scope.names,y.2≠.cell
 names:∀y∈scope.names,y.2=.local->scope.names.lookup y.1=some .local
 free:∀y∈scope.names,y.2=.free->(X.env.kindOf y.1=some .cell\/X.env.kindOf y.1=some .free)
 len:mp.length=NY.length
 map:∀(i:Nat) (x:Str) (j:Nat),NY[i]?=some x->mp[i]?=some (some j)->X.N[j]?=some x/\scope.names.lookup x=some .free
theorem KS(hZ:∀e s,Z e s->notedBy (bK prog w) A env (λx s'=>R (.error x) s') e s)(I:Nat->aY->Prop)(turn:∀n s,I n s->bP (bK prog w) A (pyNext it) (λr s₁=>match r with
    |none=>R (.ok .next) s₁
    |some v=>bP (bK prog w) A (LH target it v) (λ_ s₁'=>bP (bK prog w) A (BE target env v) (λ_ s₂ =>
       bP (bK prog w) A (forIn ifs true λc r=>if r=true then do let ok <- FV c env (bU c env);pure (ForInStep.yield ok) else pure (ForInStep.yield r)) (λok s₃ =>
        if ok=true then bP (bK prog w) A (bU elt env) (λx s₄=>bP (bK prog w) A (call (.builtin "list.append") [acc,x]) (λ_ s₅=>∃m,m<n/\I m s₅) (λ_ _=>False) s₄) Z s₃
        else ∃m,m<n/\I m s₃) (λ_ _=>False) s₂) (λ_ _=>False) s₁') (λ_ _=>False) s₁) (λ_ _=>False) s)
  n (h:I n s) :
  gW (bK prog w) A (.compLoop (.ListComp elt [⟨target,iter,ifs,0⟩] scope pos) 0 it acc env) R s:=by
 refine codeAny_loop rfl I (λn s hI=>?_) n h;show bP _ A ((compTurn (.ListComp elt [⟨target,iter,ifs,0⟩] scope pos) 0 it acc env).onRaise (λx=>do noteFrame x env;theTreesLotGoes x)) _ _ s;refine wpAny_noted ?_;rw[compTurn_list];refine aZ (wpAny_standAt (aZ (eN (turn n s hI) (λr s₁ h₁=>?_) λ_ _ h'=>h'.elim)));cases r with
 |none=>exact bV h₁
 |some v=>
   refine aZ (eN h₁ (λ_ s₁' h₁'=>?_) λ_ _ h'=>h'.elim);refine aZ (eN h₁' (λ_ s₂ h₂=>aZ (eN h₂ (λok s₃ h₃=>?_) λ_ _ h'=>h'.elim)) λ_ _ h'=>h'.elim);cases ok with
   |false=>exact bV ⟨rfl,h₃⟩
   |true=>exact aZ (aZ (eN h₃ (λx s₄ h₄=>aZ (eN h₄ (λ_ s₅ h₅=>bV (bV ⟨rfl,h₅⟩)) λ_ _ h'=>h'.elim)) λe s' h'=>hZ e s' h'))
def RE{iter:Expr}{RR:aI->aD->Result->aY->Prop}{WW:CI->aI->aY->Prop}(S:CompScope X scope NY mp)(hc:∀c,c.H=H->cm (jY X scope NY c))(I:Inv X aC σ H s₂)(T:Turn X.prog X.w X.K tg J fp it tn cm)(st:tn 0 s₂.heap)(hf:∀b∈fp,FpOk X aC H b)(hg:∀c,PG (jY X scope NY c) tg (g c))(ht:∀c,PF (jY X scope NY c) ifs (tt c))(he:∀c,PE ((jY X scope NY c).wish (WW c)) elt (te c))(err:∀c,X.s₀.heap.objs.size<=c.C->c.C∉frs X.stack->(∀pl σ' H' s1,Inv (jY X scope NY c) pl σ' H' s1->Inv X aC σ H' s1)->∀e s',WW c e s'->notedBy (bK X.prog X.w) X.A (jY X scope NY c).env (λx s''=>RR (.ref s₂.heap.objs.size) c.C (.error x) s'') e s')(h:ZW J mp g tt te σ H R)(fin:∀s' C m ys H',R ys H'->H' s₂.heap.objs.size=none->H' C=none->C≠s₂.heap.objs.size->s'.heap.Ns C m →
    (ys.length<=sizeLine->Inv X aC σ (upd H' s₂.heap.objs.size (.lst ys)) s') →
    (C≠X.env.locals/\X.s₀.heap.objs.size<=C/\(∀x c,X.env.cells.lookup x=some c->c≠C)/\∀p∈X.pn++aC,p.1≠C)->RR (.ref s₂.heap.objs.size) C (.ok .next) s') :
  bP (bK X.prog X.w) X.A (newList []) (λacc s₃=>bP (bK X.prog X.w) X.A (newFunctionEnv scope X.env.globals (jL X.env scope.names []) [] X.env.qual none .none (some X.env)) (λcenv s₄ =>
   gW (bK X.prog X.w) X.A (.compStart (.ListComp elt [⟨tg,iter,ifs,0⟩] scope pos) 0 (.ref it) acc {cenv with scope:=relabel scope X.env}) (RR acc cenv.locals) s₄) E s₃) E s₂:=by
 refine wpAny_newObj_type (wpAny_newFunctionEnv S.nocell (by intro y hy;simp at hy) (λh₁ hns₁ hsb₁=>?_) S.kind);generalize hH2:s₂.heap.push {cls:=.type "list",dict:=none,data:=.seq ([]:List aI).toArray}=H2 at hns₁ hsb₁ ⊢;have hC:(H2.objs.size:Nat)=s₂.heap.objs.size+1:=by rw[<-hH2,FF]
 generalize hDd:s₂.heap.objs.size=D at fin err hC ⊢;generalize hCC:H2.objs.size=C at hns₁ hsb₁ hC ⊢;have hDC:D≠C:=λz=>absurd (z.trans hC) (bM (lF _));have ltC:∀{b:aD},b<D->b≠C:=λ{b} h=>bM (Nat.lt_of_lt_of_eq (uU h) hC.symm);have ltD:∀{b:aD},b<D->b≠D:=λ{b} h=>bM h;have hlt:∀{b:aD}{o:Obj},s₂.heap.get? b=some o->(b:Nat)<D:=λe=>hDd▸aW e;have k2:∀b o,s₂.heap.get? b=some o->H2.get? b=some o:=λb o e=>hH2▸aJ _ e;have k1:∀b o,H2.get? b=some o->h₁.get? b=some o:=λb o e=>by have hb:=hCC▸aW e;exact hsb₁.extBut b o (bM hb) (aJ _ e)
 have fr:∀a,D<=a->H a=none:=λa ha=>I.hok.fresh (hDd▸ha);have accP:h₁.PlainList D #[]:=⟨_,k1 _ _ (by rw[<-hH2,<-hDd];exact aS _ rfl)⟩
 have fpo:=λb hb=>let ⟨o,e,_⟩:=T.obj 0 _ st b hb;hlt e;have clF:∀x c,(jL X.env scope.names []).lookup x=some c->X.env.cells.lookup x=some c:=EL _ _ λx c e=>nomatch e;have cellLt:∀x c,X.env.cells.lookup x=some c->(c:Nat)<D:=λx c e=>by obtain⟨v,o,ho,_⟩:=I.cell x c e;exact hlt ho
 have locLt:=hDd▸I.lt;have stkLt:∀b∈frs X.stack,(b:Nat)<D:=λb hb=>by obtain⟨_,o,ho,_⟩:=I.stack.mem hb;exact hlt ho
 have fpStk:∀b∈fp,b∉frs X.stack:=λb hb z=>by
  obtain⟨_,f1,f2,_⟩:=hf b hb;rcases aA.mp (I.stkSub b z)with q|q
  . exact f1 q
  . exact f2 q
 have pinLt:=λp hp=>hlt (I.pin p hp).1
 let Y:Cx:=jY X scope NY ⟨C,{s₂ with heap:=H2},H,D::fp⟩
 obtain⟨W,⟨m0,w0⟩,turn⟩:=h ⟨C,{s₂ with heap:=H2},H,D::fp⟩;have okY:Y.Ok:=by
  refine⟨I.ok.mod,S.kind,I.ok.glob,I.ok.blt,uW hCC,λx y c h1 h2=>I.ok.inj x y c (clF _ _ h1) (clF _ _ h2),λx hx=>?_,λx c hfn=>absurd hfn (by intro z;cases z),I.ok.hd,I.ok.frames,.inl rfl,λb hb=>?_,λb o e=>?_,?_,λb o e=>?_,λb hb=>?_,?_,I.stkFree⟩
  . have hx':(x,hV.free)∈scope.names:=by
     rcases hx with hx|hx
     . exact vN S.nocell hx (.inl rfl)
     . exact vN S.nocell hx (.inr rfl)
    obtain⟨c,e⟩:=I.ok.has x (S.free _ hx' rfl);exact uN _ _ x c hx' e
  . rcases aA.mp hb with z|z
    . subst z;exact⟨hDC,λx c e q=>absurd (cellLt x c (clF x c e)) (by rw[q];exact cW _)⟩
    . have:=fpo b z;exact⟨ltC this,λx c e q=>(hf b z).2.2.2.2.1 x c (clF x c e) q⟩
  . have:=I.bs b o e;exact⟨k2 b o this.1,this.2⟩
  . refine ⟨?_,I.tabsH⟩;show (X.base.objs.size:Nat)<=H2.objs.size;have h1:=cD I.ok.bsz.1 I.sz
    lia
  . have hb:=I.bs b o e;have hb':=hlt hb.1;intro z;rcases aA.mp z with z|z
    . rw[z]at hb';exact cW _ hb'
    . rcases (hf b z).2.2.2.1 with q|q
      . exact I.ok.noex b o e q
      . exact absurd (bL (aW (I.ok.bs b o e).1) q) (cW _)
  . rcases aA.mp hb with z|z
    . subst z;exact λq=>absurd (stkLt _ q) (cW _)
    . exact fpStk b z
  . exact I.stack.of_keeps λb o e _=>⟨o,k2 b o e,rfl⟩
 have capt:∀(i:Nat) (x:Str) (v:V),NY[i]?=some x->(gR mp σ)[i]?=some (some v)->∃u c,RelV v u/\(Y.env.kindOf x=some .cell\/Y.env.kindOf x=some .free)/\Y.env.cells.lookup x=some c/\H2.IsCell c (some u)/\(H c=none\/∃o u,H c=some (.frz o u))/\c∉D::fp:=by
  intro i x v e1 e2;have e2':(mp[i]?.map λo=>o.bind λj=>σ[j]?.join)=some (some v):=by unfold gR at e2;rwa [aP]at e2
  cases hm:mp[i]? with
  |none=>rw[hm]at e2';cases e2'
  |some o=>
    rw[hm]at e2';cases o with
    |none=>simp at e2'
    |some j=>
      simp only[bW,aO,Option.some.injEq]at e2';have e4:σ[j]?=some (some v):=by
       cases hs:σ[j]? with
       |none=>rw[hs]at e2';cases e2'
       |some q=>rw[hs]at e2';simp at e2';rw[e2']
      obtain⟨hXj,hfr⟩:=S.map i x j e1 hm;have hmem:=cL hfr;have hk:=S.free _ hmem rfl;obtain⟨m,hn,hl⟩:=I.loc;obtain⟨u,ru,l⟩:=hl j x v hXj e4 (hk.elim (λz=>.inr (.inl z)) λz=>.inr (.inr z));have hlook:∃c,X.env.cells.lookup x=some c/\s₂.heap.IsCell c (some u):=by
       rcases l with⟨kl,_⟩|⟨_,c,ec,hcell⟩
       . rcases hk with q|q
         . exact absurd (kl.symm.trans q) (by intro z;cases z)
         . exact absurd (kl.symm.trans q) (by intro z;cases z)
       . exact⟨c,ec,hcell⟩
      obtain⟨c,ec,oc,hoc,hocd⟩:=hlook;obtain⟨c',ec'⟩:=uN (env:=X.env) scope.names [] x c hmem ec;have:=Option.some.inj ((clF x c' ec').symm.trans ec);subst this;refine⟨u,c',ru,lT hfr,ec',⟨oc,k2 _ _ hoc,hocd⟩,(I.freeC x c' ec).imp id And.right,λz=>?_⟩;rcases aA.mp z with z|z
      . have:=cellLt x c' ec;rw[z]at this;exact cW _ this
      . exact(hf c' z).2.2.2.2.1 x c' ec rfl
 have lenY:(gR mp σ).length=NY.length:=by unfold gR;rw[cA];exact S.len
 have I0:∀tk,Inv Y [] (gR mp σ) H {s₂ with heap:=h₁,toks:=tk}:=by
  intro tk;refine⟨okY,rfl,I.bare,Un.kept k1,⟨_,hns₁,λi x v e1 e2 e3=>?_⟩,λx c e=>?_,fr C (by show(D:Nat)<=C;lia),λx c e=>(I.freeC x c (clF x c e)).imp id λz=>⟨rfl,z.2⟩,λp hp=>absurd (show p∈([]:List (aD×Obj)) from hp) (by simp),I.hok.kept λb o e=>k1 b o (k2 b o e),lenY⟩
  . obtain⟨u,c,ru,hk,ec,⟨oc,hoc,hocd⟩,_⟩:=capt i x v e1 e2;exact⟨u,ru,.inr ⟨hk,c,ec,oc,k1 _ _ hoc,hocd⟩⟩
  . obtain⟨v,o,ho,hd⟩:=I.cell x c (clF x c e);exact⟨v,o,k1 _ _ (k2 _ _ ho),hd⟩
 have stat:∀{H':Hp}{pl:List (aD×Obj)},(∀p∈pl,p.1∉fp)->(∀b∈fp,H' b=none)->∀b∈fp,FpOk Y pl H' b:=λhpl hn b hb=>by have hbD:=fpo b hb;refine⟨hn b hb,ltC hbD,fpStk b hb,.inl (aH _ hb),λx c e=>(hf b hb).2.2.2.2.1 x c (clF x c e),λp hp z=>hpl p (show p∈_ from hp) (z▸hb)⟩
 have dN:D∉Y.fs:=λq=>absurd (stkLt _ q) (cW _);have dFp:D∉fp:=λq=>absurd (fpo _ q) (cW _);have plD:∀(o:Obj),∀p∈[(D,o)],p.1∉fp:=λo p hp=>by
  have e:p=(D,o):=by simpa using hp
  rw[e];exact dFp
 have toX:∀pl σ' H3 s4,Inv Y pl σ' H3 s4->Inv X aC σ H3 s4:=λpl σ' H3 s4 I4=>by
  have u:Un (frs X.stack) fp H H3 s₂.heap s4.heap:=by
   have B:=I4.base;have nx:∀{b:aD}{o:Obj},s₂.heap.get? b=some o->b∉fp->b∉D::fp:=λe hb z=>by
    rcases aA.mp z with z|z
    . have:=hlt e;rw[z]at this;exact cW _ this
    . exact hb z
   exact⟨λb o q n hb hx=>B.keep b o (k2 b o q) n hb (nx q hx),λb o q n hb hx=>B.slot b o (k2 b o q) n hb (nx q hx),λb o q n hx=>B.free b o (k2 b o q) n (nx q hx),λb o q hx=>B.there b o (k2 b o q) (nx q hx),B.tups,B.frzs,B.tbls⟩
  exact I.call' I4.os u I4.hok I4.bare λb hb=>⟨(hf b hb).2.2.2.1,(hf b hb).2.1,(hf b hb).2.2.2.2.1,(hf b hb).2.2.2.2.2⟩
 have keyC:∀(tk:Nat) (it':aI),it'=.ref it->gW (bK X.prog X.w) X.A (.compLoop (.ListComp elt [⟨tg,iter,ifs,0⟩] scope pos) 0 it' (.ref D) Y.env) (RR (.ref D) C) {s₂ with heap:=h₁,toks:=tk}:=by
  rintro tk _ rfl
  refine KS (Z:=WW ⟨C,{s₂ with heap:=H2},H,D::fp⟩) (λe s' z=>err ⟨C,{s₂ with heap:=H2},H,D::fp⟩ (by have:(X.s₀.heap.objs.size:Nat)<=D:=hDd▸I.sz;show(X.s₀.heap.objs.size:Nat)<=C;lia) (λq=>absurd (stkLt _ q) (by show ¬(C:Nat)<D;lia)) toX e s' z) (λn s'=>∃i ys H' its,Inv Y [] (gR mp σ) H' s'/\tn i s'.heap/\(∀b∈fp,H' b=none)/\H' D=none/\s'.heap.PlainList D its/\Vals ys its.toList/\W i n ys H') ?_ m0
   ⟨0,[],H,#[],I0 tk,T.keep 0 _ _ st λb _ o e=>k1 b o (k2 b o e),λb hb=>(hf b hb).1,fr D (aT _),accP,.nil,w0⟩
  rintro n s3 ⟨i,ys,H3,its,I3,st3,fr3,d3,⟨kk,pl3⟩,rv3,w3⟩;have I3':Inv Y [(D,{cls:=.type "list",data:=.seq its kk})] (gR mp σ) H3 s3:=I3.pins_of λp hp=>by
   have e:p=(D,{cls:=.type "list",data:=.seq its kk}):=by simpa using hp
   subst e;exact⟨pl3,d3,hDC,dN,λv z=>nomatch (show Data.seq its kk=Data.cell v from z)⟩
  rcases turn i n ys H3 w3 with⟨stop,qn⟩|⟨go,hsz,step⟩
  . refine thn (T.done Y rfl rfl rfl (hc ⟨C,{s₂ with heap:=H2},H,D::fp⟩ rfl) i _ s3 _ H3 _ I3' (stat (plD _) fr3) st3 stop) λr s4 zq=>?_;obtain ⟨hr,I4⟩:=zq;subst hr;have hD4:s4.heap.get? D=some {cls:=.type "list",data:=.seq its kk}:=(I4.pin (D,_) (by simp)).1;have J4:Inv X aC σ H3 s4:=toX _ _ _ _ I4;obtain ⟨m4,hn4,_⟩:=I4.loc;refine fin s4 C m4 ys H3 qn d3 I4.free (Ne.symm hDC) hn4 (λhz=>?_) ⟨(ltC locLt).symm,?_,λx c e=>?_,λp hp=>?_⟩
    . refine J4.adopt d3 ?_ (ltD locLt).symm (λx c e=>?_) (λp hp=>?_) ⟨hz,its.toList,kk,rv3,hD4⟩
      . exact hDd▸I.sz
      . exact ltD (cellLt x c e)
      . exact ltD (pinLt p hp)
    . have:(X.s₀.heap.objs.size:Nat)<=D:=hDd ▸ I.sz;show (X.s₀.heap.objs.size:Nat)<=C
      lia
    . exact ltC (cellLt x c e)
    . exact ltC (pinLt p hp)
  . refine thn (T.item Y rfl rfl rfl (hc ⟨C,{s₂ with heap:=H2},H,D::fp⟩ rfl) i _ s3 _ H3 _ I3' (stat (plD _) fr3) st3 go) λr s4 zq=>?_;obtain ⟨u,hr,h4⟩:=zq;subst hr;refine thn h4 λ_ s5 zq=>?_;obtain ⟨x,H5,I5,r5,y5,st5,fr5⟩:=zq;have I5':=I5.pinned (stat (plD _) fr5) (T.obj _ _ st5);refine thn (hg _ _ s5 _ H5 x u _ I5' r5 (step x H5 y5)) λ_ s6 zq=>?_;obtain ⟨σ6,H6,I6,q6⟩:=zq;refine thn (ht _ _ s6 σ6 H6 _ I6 q6) λok s7 zq=>?_;obtain ⟨H7,I7,q7⟩:=zq
    have back:∀{s8:aY}{σ8:St}{H8:Hp},Inv Y ([(D,{cls:=.type "list",data:=.seq its kk})]++DJ fp s5.heap) σ8 H8 s8 →
      tn (i+1) s8.heap/\(∀b∈fp,H8 b=none)/\H8 D=none/\s8.heap.get? D=some {cls:=.type "list",data:=.seq its kk}:=λ{s8 σ8 H8} I8=>by
     refine⟨T.keep _ _ _ st5 λb hb o e=>(I8.pin (b,o) (aL _ (aL _ (wG hb e)))).1,λb hb=>?_,?_,?_⟩
     . obtain⟨o,e,d⟩:=T.obj _ _ st5 b hb;exact(I8.pin (b,o) (aL _ (aL _ (wG hb e)))).2.1
     . exact(I8.pin (D,_) (aL _ (bB _ (aR.mpr rfl)))).2.1
     . exact(I8.pin (D,_) (aL _ (bB _ (aR.mpr rfl)))).1
    have drop:∀{s8:aY}{σ8:St}{H8:Hp}{pl:List (aD×Obj)},Inv Y pl σ8 H8 s8->Inv Y [] (gR mp σ) H8 s8:=λ{s8 σ8 H8 pl} I8=>by
     obtain⟨m8,hn8,_⟩:=I8.loc;refine⟨I8.ok,I8.os,I8.bare,I8.base,⟨m8,hn8,λi x v e1 e2 e3=>?_⟩,I8.cell,I8.free,I8.freeC,λp hp=>absurd (show p∈([]:List (aD×Obj)) from hp) (by simp),I8.hok,lenY⟩;obtain⟨u,c,ru,hk,ec,⟨oc,hoc,hocd⟩,hn,hx⟩:=capt i x v e1 e2;rcases hn with hn|⟨ob,ub,hn⟩
     . obtain⟨sl,e⟩:=I8.base.any hoc hn hx;exact⟨u,ru,.inr ⟨hk,c,ec,_,e,hocd⟩⟩
     . obtain⟨e1,_⟩:=I.hok c _ hn;obtain⟨e2,_⟩:=I8.hok c _ (I8.base.frzs c ob ub hn);have e3:=k2 _ _ e1;rw[hoc]at e3;cases e3;exact⟨u,ru,.inr ⟨hk,c,ec,oc,e2,hocd⟩⟩
    cases ok with
    |false=>obtain⟨m',hm',w'⟩:=q7;obtain⟨b1,b2,b3,b4⟩:=back I7;exact⟨m',hm',i+1,ys,H7,its,drop I7,b1,b2,b3,⟨kk,b4⟩,rv3,w'⟩
    |true=>
      refine thn (he _ _ s7 σ6 H7 _ (I7.wish _) q7) λy s8 zq=>?_;obtain⟨yv,H8,I8w,r8,q8⟩:=zq;have I8:=I8w.unwish;obtain⟨b1,b2,b3,b4⟩:=back I8;have hl:ys.length=its.size:=by simpa using rv3.length
      refine wpAny_list_append_plain (items:=its) ⟨kk,b4⟩ (λh' pl' sb=>?_) (by lia);obtain⟨m',hm',w'⟩:=q8;have I9:Inv Y [] (gR mp σ) H8 {s8 with heap:=h'}:=(drop I8).turned (it:=D) (t':=s8.toks) (λb o hb e=>(sb.2 b hb).trans e) b3 hDC (.inl aE) (λx c e=>ltD (cellLt x c (clF x c e))) λp hp=>absurd (show p∈([]:List (aD×Obj)) from hp) (by simp);refine⟨m',hm',i+1,ys++[yv],H8,its.push y,I9,?_,b2,b3,pl',?_,w'⟩
      . exact T.keep _ _ _ b1 λb hb o e=>(sb.2 b (λz=>dFp (z▸hb))).trans e
      . rw[Array.toList_push];exact rv3.append (.cons r8 .nil)
 exact codeAny_compStart_list (keyC _ _ rfl) (T.self _ 0 _ _ _ (T.keep 0 _ _ st λb _ o e=>k1 b o (k2 b o e)) (keyC _ _ rfl))
def aBw{iter:Expr}(S:CompScope X scope NY mp)(hc:∀aC σ H s,Inv X aC σ H s->∀c,c.H=H->cm (jY X scope NY c))(hi:PI X tg iter wi cm)(hg:∀c,PG (jY X scope NY c) tg (g c))(ht:∀c,PF (jY X scope NY c) ifs (tt c))(he:∀c,PE (jY X scope NY c) elt (te c))(hs:∀x,dZ iter X.env x=pure x:=by intro _;rfl):PE X (.ListComp elt [⟨tg,iter,ifs,0⟩] scope pos) (tComp wi mp g tt te):=by intro aC s σ H Q I h;refine wpAny_comprehension_free rfl hs (rK λy hy hk=>I.ok.has y.1 (S.free y hy hk)) S.kind S.names (thn (hi aC s σ H _ I h) λv s1 h1=>thn h1 λitv s2 h2=>?_);obtain⟨it,fp,tn,J,H2,e,I2,T,st2,f2,hk⟩:=h2;subst e;refine RE S (hc _ _ _ _ I2) I2 T st2 f2 hg ht he (λ_ _ _ _ _ _ z=>z.elim) hk ?_;intro s' C m ys H' q hD hC hCD hn hI hct;refine⟨m,hn,λh' sb=>?_⟩;have J':=hI q.1;refine⟨.ref s2.heap.objs.size,_,J'.turned (λb o hb e=>(sb.2 b hb).trans e) (by rw[upd_ne hCD];exact hC) hct.1 (.inr hct.2.1) hct.2.2.1 hct.2.2.2,rfl,q.2 _ hD⟩
def JK{iter:Expr}(S:CompScope X scope NY mp)(hc:X.calm=true)(hi:PI X tg iter wi)(hg:∀c,PG (jY X scope NY c) tg (g c))(ht:∀c,PF (jY X scope NY c) ifs (tt c))(he:∀c,PE (jY X scope NY c) elt (te c))(hs:∀x,dZ iter X.env x=pure x:=by intro _;rfl):PE X (.ListComp elt [⟨tg,iter,ifs,0⟩] scope pos) (tComp wi mp g tt te):=aBw S (λ_ _ _ _ _ _ _=>hc) hi hg ht he hs
end
end L2
namespace TS
open PySem PyProof.Rows
section
variable{prog:bY}{w:cU}
noncomputable def bt(w:cU):Bool:=w.params.followText "set-order"
end
section
variable{prog:bY}{w:cU}
theorem LS(h:bP (bK prog w) A.in1 (pyNext (.ref J)) (λr z'=>match r with
   |none=>R (.ok (.ret .none)) z'
   |some v=>bP (bK prog w) A.in1 (setAdd c v) (λ_ z2=>gW (bK prog w) A (.builtin "set.update.loop" ⟨[.ref c,.ref J],[]⟩) R z2) (λe z2=>R (.error e) z2) z') (λe z2=>R (.error e) z2) z) :
  gW (bK prog w) A (.builtin "set.update.loop" ⟨[.ref c,.ref J],[]⟩) R z:=by
 have pl:=F.plain_set_update_loop;refine LI F.entry_set_update_loop (Eq.mpr (congrArg (λB=>bP _ B _ _ _ z) (dP.under_plainId pl _)) ?_);refine aZ (eN h (λr z' q=>?_) λ_ _ q=>q);cases r with
 |none=>exact bV q
 |some v=>exact aZ (iR (eN q (λ_ z2 q2=>bV ⟨RJ pl _,q2⟩) λ_ _ q2=>q2))
section
variable{s:aY}
abbrev nset(led:Bool):Obj:={cls:=.type "set",dict:=none,data:=.set #[] 0 (.fresh 0 0 led)}
def aCj x(h:Q (.ref s.heap.objs.size) {s with heap:=s.heap.push (nset (!bt w))}) :
  gW (bK prog w) A (.call (.builtin "set.__new__") ⟨[.type "set",x],[]⟩) (wants Q E) s:=by
 have own:=sub_set_self;have pl:=PySem.F.plain_set_new;refine codeAny_of_tree ?_;show bP _ A.in1 (checkBuiltinCall "set.__new__" ⟨[.type "set",x],[]⟩ >>= λ_=>again (.builtin "set.__new__" ⟨[.type "set",x],[]⟩)) _ _ s;refine aZ (wpAny_of_eq (PySem.F.newCall_set_1 x) (bV ⟨RJ pl _,LI PySem.F.entry_set_new ?_⟩));rw[dP.under_plainId pl _];obtain⟨hp,gens,dr,toks,sys⟩:=s;unfold Builtin.«set.__new__»;unfold Builtin.Frozenset.newClass
 wp_walk
 exact wpAny_askSetting (bV (aZ (wpAny_alloc (bV (bV h)))))
end
end
end TS
namespace TU
open PySem PyProof.Rows
variable{A:dP}
def sorted_endS{Q:aI->aY->Prop}(hI:ET vs ss)(h64:vs.length<64)(h:∀h2 vs' ns' e,(∀b o,s.heap.get? b=some o->h2.get? b=some o)->h2.get? s.heap.objs.size=some (seqObj "list" vs'.toArray e)->ET vs' ns'->ns'.Perm ss->sortedS ns'=true →
    Q (.ref s.heap.objs.size) {s with heap:=h2}) :
  bP (bK prog w) A.in1 (do
   let l <- newList vs
   let _ <- gC [l] (call (.builtin "list.sort") [l] [])
   ret l) (λr z=>∃v,r=.done (.ret v)/\Q v z) E s:=by
 refine aZ (wpAny_newList ?_);have hoL:(s.heap.push (seqObj "list" vs.toArray 0)).get? s.heap.objs.size=some (seqObj "list" vs.toArray 0):=aS _ rfl;refine aZ (iR (wpAny_call_entry slot_list_sort ⟨_,hoL,rfl⟩ entry_list_sort (list_sort_treeK strKind_oneLt hoL hI.keysOf (λv₁ v₂ rest e=>keyKind_strs (by rw[<-e];exact hI)) h64 λst' hp hs=>⟨_,rfl,?_⟩) (args_list_sort _)));obtain⟨ns',a1,a2,a3⟩:=sorted_out_str hI hp hs;generalize (arrOf st').map (·.2)=out at *;obtain⟨e,he⟩:=sortedHeap_at hoL;refine bV ⟨_,rfl,h _ out.toList ns' e (λb o q=>?_) (by simpa using he) a1 a2 a3⟩;have hb:=aW q;have q1:=aJ (seqObj "list" vs.toArray 0) q;rw[sortedHeap_old (bM hb) (by rw[size_push'];exact uU hb)];exact q1
end TU
open PySem PySem.Spec PyProof.Rows L2
variable{X:Cx}
namespace FL
abbrev Frag:=aN
def KLst(K:Frag)(a:aD)(xs:List V):Prop:=∃(o:Obj) (its:Array aI) (n:Nat),K.lookup a=some o/\o.cls=.type "list"/\o.dict=none/\o.data=.seq its n/\its.size<=sizeLine/\Vals xs its.toList
def KTup(K:Frag)(a:aD)(xs:List V):Prop:=∃(o:Obj) (its:Array aI) (n:Nat),K.lookup a=some o/\o.cls=.type "tuple"/\o.data=.seq its n/\its.size<=sizeLine/\Vals xs its.toList
structure LamT where
 qual:Str
 params:Arguments
 body:FuncBody
 scope:Scope
noncomputable def lamsE(q:Str):Nat->Expr->List LamT
 |0,_=>[]
 |n+1,e=>match e with
   |.Lambda a b sc _=>[⟨q++"<lambda>",a,.expr b,sc⟩]
   |.Call _ as _ _=>as.flatMap (lamsE q n)
   |.Compare l _ cs _=>lamsE q n l++cs.flatMap (lamsE q n)
   |.BoolOp _ vs _=>vs.flatMap (lamsE q n)
   |.UnaryOp _ o _=>lamsE q n o
   |.BinOp l _ r _=>lamsE q n l++lamsE q n r
   |.IfExp t b o _=>lamsE q n t++(lamsE q n b++lamsE q n o)
   |.List es _=>es.flatMap (lamsE q n)
   |.Tuple es _ _=>es.flatMap (lamsE q n)
   |.Subscript v i _=>lamsE q n v++lamsE q n i
   |_=>[]
noncomputable def lamsS(q:Str):Nat->Stmt->List LamT
 |0,_=>[]
 |n+1,s=>match s with
   |.FunctionDef x a b _ _ _ sc _ _ _=>[⟨q++x,a,.stmts b,sc⟩]
   |.Assign _ e _=>lamsE q 12 e
   |.Return (some e) _=>lamsE q 12 e
   |.Expr e _=>lamsE q 12 e
   |.If t a b _=>lamsE q 12 t++(a.flatMap (lamsS q n)++b.flatMap (lamsS q n))
   |.For _ _ a _ _=>a.flatMap (lamsS q n)
   |.While _ a _ _=>a.flatMap (lamsS q n)
   |_=>[]
noncomputable def JU(x:Str)(b:List Stmt):List LamT:=b.flatMap (lamsS (x++".<locals>.") 8)
noncomputable def nX(K:aN)(m n:Nat):Option LamT:=(makers[m]?).bind λx=>match fnAt K x with
 |some (some (.ref f))=>(match K.lookup f with
   |some ⟨_,_,.func fd,_⟩=>(match fd.body with
     |.stmts b=>(JU x b)[n]?
     |_=>none)
   |_=>none)
 |_=>none
noncomputable def freeR(l:List (Str×hV)):List Str:=((l.filter λy=>y.2==hV.free).map (·.1)).reverse
inductive ClosOk(H:Hp)(O:aD->Prop):List (Str×aD)->List V->Prop
 |nil:ClosOk H O [] []
 |cons {n:Str}{c:aD}{o:Obj}{u:HO}{w:aI}{x:V}{cl:List (Str×aD)}{xs:List V} (no:¬O c) (h:H c=some (.frz o u)) (d:o.data=.cell (some w)) (r:RelV x w) (t:ClosOk H O cl xs):ClosOk H O ((n,c)::cl) (x::xs)
def LamAt(H:Hp)(O:aD->Prop)(f:aD)(t:LamT)(cl:List (Str×aD)):Prop:=¬O f/\∃(o oc:Obj) (u uc:HO) (fd:bE) (c:aD) (vs:Array aI) (tq:Tok),
 H f=some (.frz o u)/\o.cls=.type "function"/\o.data=.func fd/\fd.qualname=t.qual/\fd.params=t.params/\fd.body=t.body/\fd.scope=t.scope/\fd.globals=mainGlobals/\fd.closure=cl/\fd.defaults=.none/\fd.kwdefaults=.none/\fd.code=.ref c/\fd.builtins=BD ∧
 ¬O c/\H c=some (.frz oc uc)/\oc.data=.fields vs/\vs[1]?=some (.str t.qual tq)
mutual
inductive Rep(K:Frag)(H:Hp)(O:aD->Prop):V->D->Prop
 |non:Rep K H O .non .non
 |bl (b:Bool):Rep K H O (.bl b) (.bl b)
 |int (i:Int):Rep K H O (.int i) (.int i)
 |str (x:Str):Rep K H O (.str x) (.str x)
 |tup {a:aD}{xs:List V}{ds:List D} (n:¬O a) (h:Rd H a (.tup xs)) (r:Reps K H O xs ds):Rep K H O (.ref a) (.tup ds)
 |tupK {a:aD}{xs:List V}{ds:List D} (h:KTup K a xs) (r:Reps K H O xs ds):Rep K H O (.ref a) (.tup ds)
 |lst {a:aD}{xs:List V}{ds:List D} (n:¬O a) (h:Rd H a (.lst xs)) (r:Reps K H O xs ds):Rep K H O (.ref a) (.lst ds)
 |lstK {a:aD}{xs:List V}{ds:List D} (h:KLst K a xs) (r:Reps K H O xs ds):Rep K H O (.ref a) (.lst ds)
 |dct {a:aD}{kvs:List (Key×V)}{ks:List Key}{ds:List D} (n:¬O a) (h:H a=some (.dK kvs)) (e:kvs.map (·.1)=ks) (r:Reps K H O (kvs.map (·.2)) ds):Rep K H O (.ref a) (.dct ks ds)
 |dcf {a:aD}{o:Obj}{kvs:List (Key×V)}{ks:List Key}{ds:List D} (n:¬O a) (h:H a=some (.frz o (.dK kvs))) (e:kvs.map (·.1)=ks) (r:Reps K H O (kvs.map (·.2)) ds):Rep K H O (.ref a) (.dcf ks ds)
 |ins {a C dx:aD}{t:Nat}{kvs:List (Str×V)}{ds:List D} (c:aQ K mainGlobals (eF t)=some (some (.ref C))) (n:¬O a) (h:H a=some (.ins C dx kvs)) (e:kvs.map (·.1)=eU t) (r:Reps K H O (kvs.map (·.2)) ds):Rep K H O (.ref a) (.ins t ds)
 |clo {f:aD}{m n:Nat}{t:LamT}{cl:List (Str×aD)}{xs:List V}{ds:List D} (tx:nX K m n=some t) (h:LamAt H O f t cl) (e:cl.map (·.1)=freeR t.scope.names) (nd:(cl.map (·.2)).Nodup) (c:ClosOk H O cl xs) (r:Reps K H O xs ds):Rep K H O (.ref f) (.clo m n ds)
 |fnK {f:aD}{k:Nat} (h:aQ K mainGlobals (uM k)=some (some (.ref f))):Rep K H O (.ref f) (.clo 1000 k [])
inductive Reps(K:Frag)(H:Hp)(O:aD->Prop):List V->List D->Prop
 |nil:Reps K H O [] []
 |cons {x:V}{d:D}{xs:List V}{ds:List D} (h:Rep K H O x d) (t:Reps K H O xs ds):Reps K H O (x::xs) (d::ds)
end
section
variable{K:Frag}{H H':Hp}{O O':aD->Prop}
def Keep(O:aD->Prop)(H H':Hp):Prop:=∀b o,¬O b->H b=some o->H' b=some o
def Keep.of_same(h:Same H H'):Keep O H H':=λb o _ e=>h b o e
def Keep.rd(k:Keep O H H')(n:¬O a)(h:Rd H a u):Rd H' a u:=by
 rcases h with h|⟨o,h⟩
 . exact .inl (k _ _ n h)
 . exact .inr ⟨o,k _ _ n h⟩
def Kp(O O':aD->Prop)(H H':Hp):Prop:=∀b o,¬O b->H b=some o->¬O' b/\H' b=some o
def Kp.rd(k:Kp O O' H H')(n:¬O a)(h:Rd H a u):¬O' a/\Rd H' a u:=by
 rcases h with h|⟨o,h⟩
 . exact⟨(k _ _ n h).1,.inl (k _ _ n h).2⟩
 . exact⟨(k _ _ n h).1,.inr ⟨o,(k _ _ n h).2⟩⟩
def ClosOk.gen(k:Kp O O' H H')(h:ClosOk H O cl xs):ClosOk H' O' cl xs:=by
 induction h with
 |nil=>exact .nil
 |cons no h d r _ ih=>exact .cons (k _ _ no h).1 (k _ _ no h).2 d r ih
def LamAt.gen(k:Kp O O' H H')(h:LamAt H O f t cl):LamAt H' O' f t cl:=by obtain⟨n,o,oc,u,uc,fd,c,vs,tq,h1,h2,h3,h4,h5,h6,h7,h8,h9,h10,h11,h12,h13,h14,h15,h16,h17⟩:=h;exact⟨(k _ _ n h1).1,o,oc,u,uc,fd,c,vs,tq,(k _ _ n h1).2,h2,h3,h4,h5,h6,h7,h8,h9,h10,h11,h12,h13,(k _ _ h14 h15).1,(k _ _ h14 h15).2,h16,h17⟩
def Kp.of(k:Keep O H H'):Kp O O H H':=λb o n e=>⟨n,k b o n e⟩
def Kp.less(k:∀a,O' a->O a):Kp O O' H H:=λb o n e=>⟨λz=>n (k _ z),e⟩
def ClosOk.keep(k:Keep O H H')(h:ClosOk H O cl xs):ClosOk H' O cl xs:=h.gen (.of k)
def LamAt.keep(k:Keep O H H')(h:LamAt H O f t cl):LamAt H' O f t cl:=h.gen (.of k)
theorem ClosOk.of(k:∀a o u,H a=some (.frz o u)->¬O' a):∀{cl:List (Str×aD)}{xs:List V},ClosOk H O cl xs->ClosOk H O' cl xs
 |_,_,.nil=>.nil
 |_,_,.cons no h d r t=>.cons (k _ _ _ h) h d r (ClosOk.of k t)
def LamAt.of(k:∀a o u,H a=some (.frz o u)->¬O' a)(h:LamAt H O f t cl):LamAt H O' f t cl:=by obtain⟨n,o,oc,u,uc,fd,c,vs,tq,h1,h2,h3,h4,h5,h6,h7,h8,h9,h10,h11,h12,h13,h14,h15,h16,h17⟩:=h;exact⟨k _ _ _ h1,o,oc,u,uc,fd,c,vs,tq,h1,h2,h3,h4,h5,h6,h7,h8,h9,h10,h11,h12,h13,k _ _ _ h15,h15,h16,h17⟩
def ins1(p:aD)(O:aD->Prop):aD->Prop:=λb=>b=p\/O b
def Kp.ins{p:aD}(hp:H p=none):Kp O (ins1 p O) H H:=λb o n e=>⟨λz=>z.elim (λq=>by rw[q,hp]at e;cases e) n,e⟩
mutual
theorem Rep.gen(k:Kp O O' H H'):∀{v:V}{d:D},Rep K H O v d->Rep K H' O' v d
 |_,_,.non=>.non
 |_,_,.bl b=>.bl b
 |_,_,.int i=>.int i
 |_,_,.str x=>.str x
 |_,_,.tup n h r=>.tup (k.rd n h).1 (k.rd n h).2 (Reps.gen k r)
 |_,_,.tupK h r=>.tupK h (Reps.gen k r)
 |_,_,.lst n h r=>.lst (k.rd n h).1 (k.rd n h).2 (Reps.gen k r)
 |_,_,.lstK h r=>.lstK h (Reps.gen k r)
 |_,_,.dct n h e r=>.dct (k _ _ n h).1 (k _ _ n h).2 e (Reps.gen k r)
 |_,_,.dcf n h e r=>.dcf (k _ _ n h).1 (k _ _ n h).2 e (Reps.gen k r)
 |_,_,.ins c n h e r=>.ins c (k _ _ n h).1 (k _ _ n h).2 e (Reps.gen k r)
 |_,_,.clo tx h e nd c r=>.clo tx (h.gen k) e nd (c.gen k) (Reps.gen k r)
 |_,_,.fnK h=>.fnK h
theorem Reps.gen(k:Kp O O' H H'):∀{vs:List V}{ds:List D},Reps K H O vs ds->Reps K H' O' vs ds
 |_,_,.nil=>.nil
 |_,_,.cons h t=>.cons (Rep.gen k h) (Reps.gen k t)
end
def Rep.keep(k:Keep O H H')(h:Rep K H O v d):Rep K H' O v d:=h.gen (.of k)
def Reps.keep(k:Keep O H H')(h:Reps K H O v d):Reps K H' O v d:=h.gen (.of k)
def Rep.mono(k:Same H H')(h:Rep K H O v d):Rep K H' O v d:=h.keep (.of_same k)
def Reps.mono(k:Same H H')(h:Reps K H O v d):Reps K H' O v d:=h.keep (.of_same k)
theorem Rep.less(k:∀a,O' a->O a)(h:Rep K H O v d):Rep K H O' v d:=h.gen (.less k)
theorem Reps.less(k:∀a,O' a->O a)(h:Reps K H O v d):Reps K H O' v d:=h.gen (.less k)
def Rd.some(h:Rd H a u):H a≠none:=by rcases h with h|⟨o,h⟩<;>(rw[h];simp)
def Rep.more(hp:H p=none)(h:Rep K H O v d):Rep K H (ins1 p O) v d:=h.gen (.ins hp)
def Reps.more(hp:H p=none)(h:Reps K H O v d):Reps K H (ins1 p O) v d:=h.gen (.ins hp)
noncomputable def mutO:HO->Bool
 |.lst _|.dK _|.dT _|.set _ _|.ins _ _ _=>true
 |_=>false
noncomputable def MutHO:={u:HO // mutO u=true}
def Old(H:Hp):aD->Prop:=λa=>∃o,H a=some o/\mutO o=true
def Old.mono(k:Same H H')(h:Old H a):Old H' a:=let ⟨o,e,m⟩:=h;⟨o,k _ _ e,m⟩
def jE:aD->Prop:=λ_=>False
mutual
theorem Rep.flattn(ho:∀a,O a->Old H a):∀{v:V}{d:D},Rep K H O' v d->flat d=true->Rep K H O v d
 |_,_,.non=>λ_=>.non
 |_,_,.bl b=>λ_=>.bl b
 |_,_,.int i=>λ_=>.int i
 |_,_,.str x=>λ_=>.str x
 |_,_,.tup n h r=>λf=>.tup (λz=>by
    obtain⟨u,e,m⟩:=ho _ z;rcases h with h|⟨o,h⟩
    . rw[e]at h;cases h;cases m
    . rw[e]at h;cases h;cases m) h (Reps.flattn ho r (by simpa[flat]using f))
 |_,_,.tupK h r=>λf=>.tupK h (Reps.flattn ho r (by simpa[flat]using f))
 |_,_,.lst _ _ _=>λf=>by simp[flat]at f
 |_,_,.lstK _ _=>λf=>by simp[flat]at f
 |_,_,.dct _ _ _ _=>λf=>by simp[flat]at f
 |_,_,.dcf _ _ _ _=>λf=>by simp[flat]at f
 |_,_,.ins _ _ _ _ _=>λf=>by simp[flat]at f
 |_,_,.clo _ _ _ _ _ _=>λf=>by simp[flat]at f
 |_,_,.fnK _=>λf=>by simp[flat]at f
theorem Reps.flattn(ho:∀a,O a->Old H a):∀{vs:List V}{ds:List D},Reps K H O' vs ds->flats ds=true->Reps K H O vs ds
 |_,_,.nil=>λ_=>.nil
 |_,_,.cons h t=>λf=>by simp only[flats,bJ]at f;exact .cons (Rep.flattn ho h f.1) (Reps.flattn ho t f.2)
end
def Rep.flatten(ho:∀a,O a->Old H a)(f:flat d=true)(r:Rep K H O' v d):Rep K H O v d:=r.flattn ho f
def Reps.flatten(ho:∀a,O a->Old H a)(f:flats d=true)(r:Reps K H O' v d):Reps K H O v d:=r.flattn ho f
theorem Reps.length:∀{vs:List V}{ds:List D},Reps K H O vs ds->vs.length=ds.length
 |_,_,.nil=>rfl
 |_,_,.cons _ t=>by simp[Reps.length t]
theorem Reps.get:∀{vs:List V}{ds:List D}{i:Nat}{d:D},Reps K H O vs ds->ds[i]?=some d->∃v,vs[i]?=some v/\Rep K H O v d
 |_,_,_,_,.nil,e=>by simp at e
 |_,_,0,_,.cons h _,e=>by simp at e;subst e;exact⟨_,rfl,h⟩
 |_,_,i+1,d,.cons _ t,e=>by obtain⟨v,h1,h2⟩:=Reps.get (i:=i) (d:=d) t (by simpa using e);exact⟨v,by simpa using h1,h2⟩
theorem Reps.append:∀{xs ys:List V}{ds es:List D},Reps K H O xs ds->Reps K H O ys es->Reps K H O (xs++ys) (ds++es)
 |_,_,_,_,.nil,s=>s
 |_,_,_,_,.cons r t,s=>.cons r (Reps.append t s)
theorem Reps.set(r:Rep K H O x d):∀{xs:List V}{ds:List D} (i:Nat),Reps K H O xs ds->Reps K H O (xs.set i x) (ds.set i d)
 |_,_,_,.nil=>.nil
 |_,_,0,.cons _ t=>.cons r t
 |_,_,i+1,.cons q t=>.cons q (Reps.set r i t)
theorem Reps.drop:∀{xs:List V}{ds:List D} (n:Nat),Reps K H O xs ds->Reps K H O (xs.drop n) (ds.drop n)
 |_,_,0,r=>r
 |_,_,_+1,.nil=>.nil
 |_,_,n+1,.cons _ t=>Reps.drop n t
theorem Reps.take:∀{xs:List V}{ds:List D} (n:Nat),Reps K H O xs ds->Reps K H O (xs.take n) (ds.take n)
 |_,_,0,_=>.nil
 |_,_,_+1,.nil=>.nil
 |_,_,n+1,.cons r t=>.cons r (Reps.take n t)
theorem Reps.ints:∀(ns:List Int),Reps K H O (ns.map V.int) (ns.map D.int)
 |[]=>.nil
 |n::r=>.cons (.int n) (Reps.ints r)
def WRep(K:Frag)(H:Hp)(O:aD->Prop)(v:V)(d:D):Prop:=Rep K H O v d\/∃a xs l,v=.ref a/\d=.lst l/\O a/\H a=some (.lst xs)/\Reps K H O xs l
theorem WRep.mono(k:Same H H')(h:WRep K H O v d):WRep K H' O v d:=by
 rcases h with h|⟨a,xs,l,e1,e2,ho,h,r⟩
 . exact .inl (h.mono k)
 . exact .inr ⟨a,xs,l,e1,e2,ho,k _ _ h,r.mono k⟩
def WRep.any(h:WRep K H O v d):Rep K H jE v d:=by
 rcases h with h|⟨a,xs,l,rfl,rfl,ho,h,r⟩
 . exact h.less (λ_ z=>z.elim)
 . exact .lst (λz=>z.elim) (.inl h) (r.less λ_ z=>z.elim)
def WRep.seqL(h:WRep K H O v (.lst l)):∃a xs,v=.ref a/\SqL K H a xs/\Reps K H O xs l:=by
 rcases h with h|⟨a,xs,l',rfl,e,ho,h,r⟩
 . cases h with
   |lst n h r=>exact⟨_,_,rfl,.inl h,r⟩
   |lstK h r=>exact⟨_,_,rfl,.inr h,r⟩
 . cases e;exact⟨a,xs,rfl,.inl (.inl h),r⟩
def WRep.seqT(h:WRep K H O v (.tup l)):∃a xs,v=.ref a/\SqT K H a xs/\Reps K H O xs l:=by
 rcases h with h|⟨a,xs,l',rfl,e,ho,h,r⟩
 . cases h with
   |tup n h r=>exact⟨_,_,rfl,.inl h,r⟩
   |tupK h r=>exact⟨_,_,rfl,.inr h,r⟩
 . cases e
def WRep.int'(h:WRep K H O v (.int i)):v=.int i:=by
 rcases h with h|⟨a,xs,l',rfl,e,_⟩
 . cases h;rfl
 . cases e
def WRep.bl'(h:WRep K H O v (.bl i)):v=.bl i:=by
 rcases h with h|⟨a,xs,l',rfl,e,_⟩
 . cases h;rfl
 . cases e
def WRep.str'(h:WRep K H O v (.str i)):v=.str i:=by
 rcases h with h|⟨a,xs,l',rfl,e,_⟩
 . cases h;rfl
 . cases e
end
mutual
inductive RepO(K:Frag)(H:Hp)(O:aD->Prop):V->OT->List aD->Prop
 |val {v:V}{d:D} (r:Rep K H O v d):RepO K H O v (.val d) []
 |lst {a:aD}{xs:List V}{ts:List OT}{fs:List aD} (n:O a) (h:H a=some (.lst xs)) (r:RepsO K H O xs ts fs):RepO K H O (.ref a) (.lst ts) (a::fs)
 |tup {a:aD}{xs:List V}{ts:List OT}{fs:List aD} (n:¬O a) (h:Rd H a (.tup xs)) (r:RepsO K H O xs ts fs):RepO K H O (.ref a) (.tup ts) fs
 |dct {a:aD}{kvs:List (Key×V)}{ks:List Key}{ts:List OT}{fs:List aD} (n:O a) (h:H a=some (.dK kvs)) (e:kvs.map (·.1)=ks) (r:RepsO K H O (kvs.map (·.2)) ts fs):RepO K H O (.ref a) (.dct ks ts) (a::fs)
 |ins {a C dx:aD}{t:Nat}{kvs:List (Str×V)}{ts:List OT}{fs:List aD} (c:aQ K mainGlobals (eF t)=some (some (.ref C))) (n:O a) (h:H a=some (.ins C dx kvs)) (e:kvs.map (·.1)=eU t) (r:RepsO K H O (kvs.map (·.2)) ts fs):RepO K H O (.ref a) (.ins t ts) (a::fs)
inductive RepsO(K:Frag)(H:Hp)(O:aD->Prop):List V->List OT->List aD->Prop
 |nil:RepsO K H O [] [] []
 |cons {x:V}{t:OT}{xs:List V}{ts:List OT}{fs gs:List aD} (h:RepO K H O x t fs) (r:RepsO K H O xs ts gs):RepsO K H O (x::xs) (t::ts) (fs++gs)
end
section
variable{K:Frag}{H H':Hp}{O O':aD->Prop}
mutual
theorem RepO.gen(k:Kp O O' H H'):∀{v:V}{t:OT}{fs:List aD},RepO K H O v t fs->(∀b∈fs,∀u,O b->H b=some u->O' b/\H' b=some u)->RepO K H' O' v t fs
 |_,_,_,.val r=>λ_=>.val (r.gen k)
 |_,_,_,.lst n h r=>λhb=>.lst (hb _ (.head _) _ n h).1 (hb _ (.head _) _ n h).2 (RepsO.gen k r λb z=>hb b (.tail _ z))
 |_,_,_,.tup n h r=>λhb=>.tup (k.rd n h).1 (k.rd n h).2 (RepsO.gen k r hb)
 |_,_,_,.dct n h e r=>λhb=>.dct (hb _ (.head _) _ n h).1 (hb _ (.head _) _ n h).2 e (RepsO.gen k r λb z=>hb b (.tail _ z))
 |_,_,_,.ins c n h e r=>λhb=>.ins c (hb _ (.head _) _ n h).1 (hb _ (.head _) _ n h).2 e (RepsO.gen k r λb z=>hb b (.tail _ z))
theorem RepsO.gen(k:Kp O O' H H'):∀{v:List V}{t:List OT}{fs:List aD},RepsO K H O v t fs->(∀b∈fs,∀u,O b->H b=some u->O' b/\H' b=some u)->RepsO K H' O' v t fs
 |_,_,_,.nil=>λ_=>.nil
 |_,_,_,.cons h r=>λhb=>.cons (RepO.gen k h λb z=>hb b (bB _ z)) (RepsO.gen k r λb z=>hb b (aL _ z))
end
def RepO.keep(k:Keep O H H')(h:RepO K H O v t fs)(hb:∀b∈fs,∀u,H b=some u->H' b=some u):RepO K H' O v t fs:=h.gen (.of k) λb z u o e=>⟨o,hb b z u e⟩
def RepsO.keep(k:Keep O H H')(h:RepsO K H O v t fs)(hb:∀b∈fs,∀u,H b=some u->H' b=some u):RepsO K H' O v t fs:=h.gen (.of k) λb z u o e=>⟨o,hb b z u e⟩
def RepO.mono(k:Same H H')(h:RepO K H O v t fs):RepO K H' O v t fs:=h.keep (.of_same k) λb _ u e=>k b u e
def RepsO.mono(k:Same H H')(h:RepsO K H O v t fs):RepsO K H' O v t fs:=h.keep (.of_same k) λb _ u e=>k b u e
theorem RepO.less(k:∀a,O' a->O a)(h:RepO K H O v t fs)(hb:∀b∈fs,O' b):RepO K H O' v t fs:=h.gen (.less k) λb z _ _ e=>⟨hb b z,e⟩
theorem RepsO.less(k:∀a,O' a->O a)(h:RepsO K H O v t fs)(hb:∀b∈fs,O' b):RepsO K H O' v t fs:=h.gen (.less k) λb z _ _ e=>⟨hb b z,e⟩
def RepO.more(hp:H p=none)(h:RepO K H O v t fs):RepO K H (ins1 p O) v t fs:=h.gen (.ins hp) λ_ _ _ o e=>⟨.inr o,e⟩
def RepsO.more(hp:H p=none)(h:RepsO K H O v t fs):RepsO K H (ins1 p O) v t fs:=h.gen (.ins hp) λ_ _ _ o e=>⟨.inr o,e⟩
mutual
theorem RepO.owns:∀{v:V}{t:OT}{fs:List aD},RepO K H O v t fs->∀b∈fs,O b/\∃u:MutHO,H b=some u.1
 |_,_,_,.val r=>λb z=>nomatch z
 |_,_,_,.lst n h r=>λb z=>(aA.mp z).elim (λq=>q▸⟨n,⟨_,rfl⟩,h⟩) (RepsO.owns r b)
 |_,_,_,.tup n h r=>RepsO.owns r
 |_,_,_,.dct n h e r=>λb z=>(aA.mp z).elim (λq=>q▸⟨n,⟨_,rfl⟩,h⟩) (RepsO.owns r b)
 |_,_,_,.ins c n h e r=>λb z=>(aA.mp z).elim (λq=>q▸⟨n,⟨_,rfl⟩,h⟩) (RepsO.owns r b)
theorem RepsO.owns:∀{v:List V}{t:List OT}{fs:List aD},RepsO K H O v t fs->∀b∈fs,O b/\∃u:MutHO,H b=some u.1
 |_,_,_,.nil=>λb z=>nomatch z
 |_,_,_,.cons h r=>λb z=>(bQ.mp z).elim (RepO.owns h b) (RepsO.owns r b)
end
mutual
theorem RepO.val':∀{v:V}{t:OT}{fs:List aD},RepO K H O v t fs->(∀a,O' a->O a/\a∉fs)->Rep K H O' v (otD t)
 |_,_,_,.val r=>λk=>r.less λa z=>(k a z).1
 |_,_,_,.lst n h r=>λk=>by unfold otD;exact .lst (λz=>(k _ z).2 (.head _)) (.inl h) (RepsO.val' r λa z=>⟨(k a z).1,λq=>(k a z).2 (.tail _ q)⟩)
 |_,_,_,.tup n h r=>λk=>by unfold otD;exact .tup (λz=>n (k _ z).1) h (RepsO.val' r k)
 |_,_,_,.dct n h e r=>λk=>by unfold otD;exact .dct (λz=>(k _ z).2 (.head _)) h e (RepsO.val' r λa z=>⟨(k a z).1,λq=>(k a z).2 (.tail _ q)⟩)
 |_,_,_,.ins c n h e r=>λk=>by unfold otD;exact .ins c (λz=>(k _ z).2 (.head _)) h e (RepsO.val' r λa z=>⟨(k a z).1,λq=>(k a z).2 (.tail _ q)⟩)
theorem RepsO.val':∀{v:List V}{t:List OT}{fs:List aD},RepsO K H O v t fs->(∀a,O' a->O a/\a∉fs)->Reps K H O' v (otDs t)
 |_,_,_,.nil=>λ_=>by unfold otDs;exact .nil
 |_,_,_,.cons h r=>λk=>by unfold otDs;exact .cons (RepO.val' h λa z=>⟨(k a z).1,λq=>(k a z).2 (bB _ q)⟩) (RepsO.val' r λa z=>⟨(k a z).1,λq=>(k a z).2 (aL _ q)⟩)
end
def RepO.any(h:RepO K H O v t fs):Rep K H jE v (otD t):=h.val' λ_ z=>z.elim
def RepsO.any(h:RepsO K H O v t fs):Reps K H jE v (otDs t):=h.val' λ_ z=>z.elim
end
noncomputable def xdO(dx:aD)(fs:List (Str×V)):HO:=.ext λh=>∃mA,h.Ns1 dx mA/\(∀f,RelO (fs.lookup f) (mA f))/\Within mA (fs.map (·.1))
def XfOk(K:Frag)(H:Hp)(a:aD)(t:Nat)(fs:List (Str×Int)):Prop:=∃C o u dx od,aQ K mainGlobals (xName t)=some (some (.ref C))/\H a=some (.frz o u)/\o.cls=.ref C/\o.dict=some dx/\(∀c,o.data≠.cls c)/\H dx=some (.frz od (xdO dx (fs.map λp=>(p.1,.int p.2))))
def XfOk.keep{K:Frag}{H H':Hp}{a:aD}{t:Nat}{fs:List (Str×Int)}(x:XfOk K H a t fs)(k:∀b o u,H b=some (.frz o u)->H' b=some (.frz o u)):XfOk K H' a t fs:=
 let ⟨C,o,u,dx,od,h1,h2,h3,h4,h5,h6⟩:=x;⟨C,o,u,dx,od,h1,k _ _ _ h2,h3,h4,h5,k _ _ _ h6⟩
noncomputable def SlOk(K:Frag)(H₀ H:Hp)(O:aD->Prop):Option V->Sl->Prop
 |_,.no=>True
 |some x,.v d=>Rep K H O x d
 |some (.ref a),.own l=>O a/\∃xs,H a=some (.lst xs)/\Reps K H O xs l
 |some (.ref a),.fr l=>¬O a/\H₀ a=none/\∃xs,H a=some (.lst xs)/\Reps K H O xs l
 |_,.ob _ _=>True
 |some (.ref a),.exf t fs=>XfOk K H a t fs
 |some (.ref a),.exc t=>∃C o u,aQ K mainGlobals (xName t)=some (some (.ref C))/\H a=some (.frz o u)/\o.cls=.ref C
 |_,_=>False
def IsOwn(ds:List Sl)(i:Nat):Prop:=∃l,ds[i]?=some (.own l)
inductive HI where
 |rep (v:V) (d:D)|base (B:aD->Prop)|root (k a:Nat)|fz (a:aD) (o:Obj) (kvs:List (Key×V)) (l:List D)
abbrev Hold:=List HI
noncomputable def HOk(K:Frag)(H₀ H:Hp)(O:aD->Prop):HI->Prop
 |.rep v d=>Rep K H O v d
 |.base B=>∀a,B a->O a/\H₀ a≠none
 |.root _ _=>True
 |.fz a o kvs l=>¬O a/\H a=some (.frz o (.dK kvs))/\Reps K H O (kvs.map (·.2)) l
def Obs(K:Frag)(H₀ H:Hp)(O:aD->Prop)(σ:L2.St)(ds:List Sl)(hd:Hold):Prop:=∃F:Nat->List aD,∀(i:Nat) (r:Option Nat) (t:OT),ds[i]?=some (.ob r t)->∃v,σ[i]?=some (some v)/\RepO K H O v t (F i)/\(∀k a,r=some k->HI.root k a∈hd->v=.ref a)/\(F i).Nodup ∧
 ∀b∈F i,H₀ b=none/\(∀j r' t',j≠i->ds[j]?=some (.ob r' t')->b∉F j)/\∀j,IsOwn ds j->σ[j]?≠some (some (.ref b))
structure Ok(K:Frag)(H₀ H:Hp)(O:aD->Prop)(σ:L2.St)(ds:List Sl)(hd:Hold):Prop where
 same:Same H₀ H
 fresh:∀(i:Nat) (l:List D) (a:aD),ds[i]?=some (.own l)->σ[i]?=some (some (.ref a))->H₀ a=none
 dom:∀a,O a->∃u:MutHO,H a=some u.1
 len:σ.length=ds.length
 sl:∀(i:Nat) (s:Sl),ds[i]?=some s->SlOk K H₀ H O (σ[i]?.join) s
 apart:∀(i j:Nat) (a:aD),i≠j->IsOwn ds i->IsOwn ds j->σ[i]?=some (some (.ref a))->σ[j]?=some (some (.ref a))->False
 hold:∀p∈hd,HOk K H₀ H O p
 obs:Obs K H₀ H O σ ds hd
section
variable{K:Frag}{ds:List Sl}
theorem HOk.mono(k:Same H H'):∀{p:HI},HOk K H₀ H O p->HOk K H₀ H' O p
 |.rep _ _,h=>Rep.mono k h
 |.base _,h=>h
 |.root _ _,h=>h
 |.fz _ _ _ _,h=>⟨h.1,k _ _ h.2.1,Reps.mono k h.2.2⟩
theorem HOk.keep(k:Keep O H H'):∀{p:HI},HOk K H₀ H O p->HOk K H₀ H' O p
 |.rep _ _,h=>Rep.keep k h
 |.base _,h=>h
 |.root _ _,h=>h
 |.fz _ _ _ _,h=>⟨h.1,k _ _ h.1 h.2.1,Reps.keep k h.2.2⟩
theorem Obs.tr(h:Obs K H₀ H O σ ds hd)(tr:∀v t fs,RepO K H O v t fs->(∀b∈fs,H₀ b=none/\∀j,IsOwn ds j->σ[j]?≠some (some (.ref b)))->RepO K H' O' v t fs)(hob:∀(i:Nat) r t,ds'[i]?=some (.ob r t)->ds[i]?=some (.ob r t)/\σ'[i]?=σ[i]?)(hown:∀j b,IsOwn ds' j->σ'[j]?=some (some (.ref b))->(IsOwn ds j/\σ[j]?=some (some (.ref b)))\/H b=none):Obs K H₀ H' O' σ' ds' hd:=by
 obtain⟨F,hF⟩:=h;refine⟨F,λi r t e=>?_⟩;obtain⟨e1,e2⟩:=hob i r t e;obtain⟨v,h1,h2,h3,h4,h5⟩:=hF i r t e1;refine⟨v,e2.trans h1,tr v t _ h2 λb hb=>⟨(h5 b hb).1,(h5 b hb).2.2⟩,h3,h4,λb hb=>⟨(h5 b hb).1,λj r' t' hj ej=>(h5 b hb).2.1 j r' t' hj (hob j r' t' ej).1,λj oj ej=>?_⟩⟩;rcases hown j b oj ej with⟨o1,o2⟩|hn
 . exact(h5 b hb).2.2 j o1 o2
 . obtain⟨_,xs,z⟩:=h2.owns b hb;rw[hn]at z;cases z
def Obs.no(h:∀(i:Nat) r t,ds[i]?≠some (.ob r t)):Obs K H₀ H O σ ds hd:=⟨λ_=>[],λi r t e=>(h i r t e).elim⟩
theorem Obs.mono(k:Same H H')(h:Obs K H₀ H O σ ds hd):Obs K H₀ H' O σ ds hd:=h.tr (λ_ _ _ r _=>r.mono k) (λ_ _ _ e=>⟨e,rfl⟩) λ_ _ o e=>.inl ⟨o,e⟩
def wP(hs:∀r t,s≠.ob r t)(e:(ds.set i s)[j]?=some (.ob r t)):ds[j]?=some (.ob r t)/\j≠i:=by
 by_cases hj:j=i
 . subst hj;by_cases hl:j<ds.length
   . rw[aM hl]at e;cases e;exact(hs r t rfl).elim
   . rw[bF (by simpa using hl)]at e;cases e
 . rw[aB (Ne.symm hj)]at e;exact⟨e,hj⟩
def wB(hs:∀l,s≠.own l)(e:IsOwn (ds.set i s) j):IsOwn ds j/\j≠i:=by
 obtain⟨l,e⟩:=e;by_cases hj:j=i
 . subst hj;by_cases hl:j<ds.length
   . rw[aM hl]at e;cases e;exact(hs l rfl).elim
   . rw[bF (by simpa using hl)]at e;cases e
 . rw[aB (Ne.symm hj)]at e;exact⟨⟨l,e⟩,hj⟩
theorem SlOk.mono(k:Same H H'):∀{x:Option V}{s:Sl},SlOk K H₀ H O x s->SlOk K H₀ H' O x s
 |none,.no,_=>trivial
 |some (.ref _),.no,_=>trivial
 |some _,.no,_=>by simp[SlOk]
 |x,.ob _ _,_=>by cases x with
   |none=>trivial
   |some x=>cases x<;>trivial
 |some x,.v d,h=>by
   have h:Rep K H O x d:=by cases x<;>exact h
   show SlOk K H₀ H' O (some x) (.v d);have:=h.mono k;cases x<;>exact this
 |some (.ref a),.own l,⟨ho,xs,h,r⟩=>⟨ho,xs,k _ _ h,r.mono k⟩
 |some (.ref a),.fr l,⟨ho,h0,xs,h,r⟩=>⟨ho,h0,xs,k _ _ h,r.mono k⟩
 |some (.ref a),.exc t,⟨C,o,u,h1,h2,h3⟩=>⟨C,o,u,h1,k _ _ h2,h3⟩
 |some (.ref a),.exf t fs,x=>x.keep λ_ _ _ e=>k _ _ e
def Ok.old(o:Ok K H₀ H O σ ds hd){a:aD}(h:O a):Old H a:=let ⟨xs,e⟩:=o.dom a h;⟨_,e,xs.2⟩
theorem Ok.mono(k:Same H H')(o:Ok K H₀ H O σ ds hd):Ok K H₀ H' O σ ds hd:=
 ⟨o.same.trans k,o.fresh,λa h=>let ⟨xs,e⟩:=o.dom a h;⟨xs,k _ _ e⟩,o.len,λi s e=>(o.sl i s e).mono k,o.apart,λp hp=>(o.hold p hp).mono k,o.obs.mono k⟩
def Ok.free(o:Ok K H₀ H O σ ds hd)(h:H p=none):¬O p:=λz=>by obtain⟨xs,e⟩:=o.dom p z;rw[h]at e;cases e
def Ok.read{i:Nat}(o:Ok K H₀ H O σ ds hd)(e:ds[i]?=some (.v d)):∃v,σ[i]?=some (some v)/\Rep K H O v d:=by
 have h:=o.sl i _ e;cases q:σ[i]? with
 |none=>rw[q]at h;exact h.elim
 |some x=>
   rw[q]at h;cases x with
   |none=>exact h.elim
   |some x=>exact⟨x,rfl,by cases x<;>exact h⟩
def Ok.readO{i:Nat}(o:Ok K H₀ H O σ ds hd)(e:ds[i]?=some (.own l)):∃a xs,σ[i]?=some (some (.ref a))/\O a/\H a=some (.lst xs)/\Reps K H O xs l:=by
 have h:=o.sl i _ e;cases q:σ[i]? with
 |none=>rw[q]at h;exact h.elim
 |some x=>
   rw[q]at h;cases x with
   |none=>exact h.elim
   |some x=>
     cases x with
     |ref a=>obtain⟨ho,xs,h1,h2⟩:=h;exact⟨a,xs,rfl,ho,h1,h2⟩
     |_=>exact h.elim
def Ok.readX{i t:Nat}(o:Ok K H₀ H O σ ds hd)(e:ds[i]?=some (.exc t)):∃a C ob u,σ[i]?=some (some (.ref a))/\aQ K mainGlobals (xName t)=some (some (.ref C))/\H a=some (.frz ob u)/\ob.cls=.ref C:=by
 have h:=o.sl i _ e;cases q:σ[i]? with
 |none=>rw[q]at h;exact h.elim
 |some x=>
   rw[q]at h;cases x with
   |none=>exact h.elim
   |some x=>
     cases x with
     |ref a=>obtain⟨C,ob,u,h1,h2,h3⟩:=h;exact⟨a,C,ob,u,rfl,h1,h2,h3⟩
     |_=>exact h.elim
def Ok.readE{i t:Nat}{fs:List (Str×Int)}(o:Ok K H₀ H O σ ds hd)(e:ds[i]?=some (.exf t fs)):∃a,σ[i]?=some (some (.ref a))/\XfOk K H a t fs:=by
 have h:=o.sl i _ e;cases q:σ[i]? with
 |none=>rw[q]at h;exact h.elim
 |some x=>
   rw[q]at h;cases x with
   |none=>exact h.elim
   |some x=>
     cases x with
     |ref a=>exact⟨a,rfl,h⟩
     |_=>exact h.elim
def Ok.readF{i:Nat}{l:List D}(o:Ok K H₀ H O σ ds hd)(e:ds[i]?=some (.fr l)):∃a xs,σ[i]?=some (some (.ref a))/\¬O a/\H₀ a=none/\H a=some (.lst xs)/\Reps K H O xs l:=by
 have h:=o.sl i _ e;cases q:σ[i]? with
 |none=>rw[q]at h;exact h.elim
 |some x=>
   rw[q]at h;cases x with
   |none=>exact h.elim
   |some x=>
     cases x with
     |ref a=>obtain⟨ho,h0,xs,h1,h2⟩:=h;exact⟨a,xs,rfl,ho,h0,h1,h2⟩
     |_=>exact h.elim
def jD:SlOk K H₀ H O x .no:=by
 cases x with
 |none=>trivial
 |some x=>cases x<;>trivial
def yV:SlOk K H₀ H O x (.ob r t):=by
 cases x with
 |none=>trivial
 |some x=>cases x<;>trivial
def yO(h:Rep K H O x d):SlOk K H₀ H O (some x) (.v d):=by cases x<;>exact h
theorem Ok.set(o:Ok K H₀ H O σ ds hd)(r:Rep K H O v d):Ok K H₀ H O (σ.set i (some v)) (ds.set i (.v d)) hd:=by
 have own':∀{j:Nat},IsOwn (ds.set i (.v d)) j->j≠i/\IsOwn ds j:=λ{j} ⟨l,e⟩=>by
  by_cases hj:j=i
  . subst hj;by_cases hl:j<ds.length
    . rw[aM hl]at e;cases e
    . rw[bF (by simpa using hl)]at e;cases e
  . rw[aB (Ne.symm hj)]at e;exact⟨hj,l,e⟩
 refine⟨o.same,λj l a e1 e2=>?_,o.dom,by simpa using o.len,λj s e=>?_,λj k a hjk hj hk e1 e2=>?_,o.hold,o.obs.tr (λ_ _ _ r _=>r) (λj r t e=>by
  obtain⟨e1,hj⟩:=wP (λr t=>by intro z;cases z) e
  exact⟨e1,by rw[aB (Ne.symm hj)]⟩) (λj b oj ej=>by
  obtain⟨o1,hj⟩:=wB (λl=>by intro z;cases z) oj;rw[aB (Ne.symm hj)]at ej
  exact .inl ⟨o1,ej⟩)⟩
 . obtain⟨n1,h1⟩:=own' ⟨l,e1⟩;rw[aB (Ne.symm n1)]at e1 e2;exact o.fresh j l a e1 e2
 . by_cases hj:j=i
   . subst hj;by_cases hl:j<ds.length
     . rw[aM hl]at e;cases e;rw[aM (by rw[o.len];exact hl)];exact yO r
     . rw[bF (by simpa using hl)]at e;cases e
   . rw[aB (Ne.symm hj)]at e;rw[aB (Ne.symm hj)];exact o.sl j s e
 . obtain⟨n1,h1⟩:=own' hj;obtain⟨n2,h2⟩:=own' hk;rw[aB (Ne.symm n1)]at e1;rw[aB (Ne.symm n2)]at e2;exact o.apart j k a hjk h1 h2 e1 e2
def Ok.setO(o:Ok K H₀ H O σ ds hd)(k:Same H H')(hn:H a=none)(e:H' a=some (.lst xs))(r:Reps K H' (ins1 a O) xs l) :
  Ok K H₀ H' (ins1 a O) (σ.set i (some (.ref a))) (ds.set i (.own l)) hd:=by
 have up:∀{v:V}{d:D},Rep K H O v d->Rep K H' (ins1 a O) v d:=λh=>(h.more hn).mono k;have ups:∀{v:List V}{d:List D},Reps K H O v d->Reps K H' (ins1 a O) v d:=λh=>(h.more hn).mono k;have other:∀j:Nat,IsOwn ds j->σ[j]?=some (some (.ref a))->False:=λj ⟨l',e'⟩ q=>by obtain⟨b,ys,h1,h2,h3,_⟩:=o.readO e';rw[q]at h1;cases h1;rw[hn]at h3;cases h3
 have own':∀{j:Nat},j≠i->IsOwn (ds.set i (.own l)) j->IsOwn ds j:=λ{j} hj ⟨l',e'⟩=>⟨l',by rwa [aB (Ne.symm hj)]at e'⟩
 refine⟨o.same.trans k,λj l' b e1 e2=>?_,λb hb=>?_,by simpa using o.len,λj s es=>?_,λj m b hjm hj hm e1 e2=>?_,λp hp=>?_,o.obs.tr (λ_ _ _ r _=>(r.more hn).mono k) (λj r t e=>by
  obtain⟨e1,hj⟩:=wP (λr t=>by intro z;cases z) e
  exact⟨e1,by rw[aB (Ne.symm hj)]⟩) (λj b oj ej=>by
  by_cases hj:j=i
  . subst hj;by_cases hl:j<σ.length
    . rw[aM hl]at ej;cases ej;exact .inr hn
    . rw[bF (by simpa using hl)]at ej;cases ej
  . rw [aB (Ne.symm hj)]at ej;obtain ⟨l',e'⟩:=oj;rw [aB (Ne.symm hj)]at e'
    exact .inl ⟨⟨l',e'⟩,ej⟩)⟩
 rotate_left 4
 . have:=o.hold p hp;cases p with
   |rep v d=>exact up this
   |base B=>exact λb hb=>⟨.inr (this b hb).1,(this b hb).2⟩
   |root k a=>exact True.intro
   |fz a' o' kvs' l'=>exact⟨λz=>z.elim (λz=>by have:=this.2.1;rw[z,hn]at this;cases this) this.1,k _ _ this.2.1,(Reps.more hn this.2.2).mono k⟩
 . by_cases hj:j=i
   . subst hj;by_cases hl:j<σ.length
     . rw[aM hl]at e2;cases e2;exact o.same.free hn
     . rw[bF (by simpa using hl)]at e2;cases e2
   . rw[aB (Ne.symm hj)]at e1 e2;exact o.fresh j l' b e1 e2
 . rcases hb with rfl|hb
   . exact⟨⟨.lst xs,rfl⟩,e⟩
   . obtain⟨ys,q⟩:=o.dom b hb;exact⟨ys,k _ _ q⟩
 . by_cases hj:j=i
   . subst hj;by_cases hl:j<ds.length
     . rw[aM hl]at es;cases es;rw[aM (by rw[o.len];exact hl)];exact⟨.inl rfl,xs,e,r⟩
     . rw[bF (by simpa using hl)]at es;cases es
   . rw [aB (Ne.symm hj)]at es;rw [aB (Ne.symm hj)];cases s with
     |no=>exact jD
     |ob r t=>exact yV
     |exc t=>obtain⟨a',C',ob',u',q1,q2,q3,q4⟩:=o.readX es;rw[q1];exact⟨C',ob',u',q2,k _ _ q3,q4⟩
     |exf t fs=>obtain⟨a',q1,q3⟩:=o.readE es;rw[q1];exact q3.keep λa' ob' u' q3=>k _ _ q3
     |fr l'=>obtain⟨a',xs',q1,q2,q0,q3,q4⟩:=o.readF es;rw[q1];exact⟨λz=>z.elim (λe'=>by rw[e',hn]at q3;cases q3) q2,q0,xs',k _ _ q3,ups q4⟩
     |v d=>obtain⟨v,h1,h2⟩:=o.read es;rw[h1];exact yO (up h2)
     |own l'=>obtain⟨b,ys,h1,h2,h3,h4⟩:=o.readO es;rw[h1];exact⟨.inr h2,ys,k _ _ h3,ups h4⟩
 . have hs:∀{q:Nat},q=i->(σ.set i (some (V.ref a)))[q]?=some (some (.ref b))->b=a:=λ{q} hq eq=>by
    subst hq;by_cases hl:q<σ.length
    . rw[aM hl]at eq;cases eq;rfl
    . rw[bF (by simpa using hl)]at eq;cases eq
   by_cases h1:j=i
   . have hb:=hs h1 e1;have h2:m≠i:=λz=>hjm (h1.trans z.symm);rw[aB (Ne.symm h2),hb]at e2;exact other m (own' h2 hm) e2
   . by_cases h2:m=i
     . have hb:=hs h2 e2;rw[aB (Ne.symm h1),hb]at e1;exact other j (own' h1 hj) e1
     . rw[aB (Ne.symm h1)]at e1;rw[aB (Ne.symm h2)]at e2;exact o.apart j m b hjm (own' h1 hj) (own' h2 hm) e1 e2
def Ok.release(o:Ok K H₀ H O σ ds hd)(e:ds[i]?=some (.own l)):∃O',Ok K H₀ H O' σ (ds.set i (.v (.lst l))) hd:=by
 obtain⟨a,xs,h1,h2,h3,h4⟩:=o.readO e;have hl:=(aV.mp e).1
 let O':aD->Prop:=λb=>O b/\b≠a
 have sub:∀b,O' b->O b:=λb hb=>hb.1;have na:¬O' a:=λhb=>hb.2 rfl;have own0:∀{j:Nat}{l':List D},(ds.set i (.v (.lst l)))[j]?=some (.own l')->ds[j]?=some (.own l'):=λ{j l'} e'=>by
  by_cases hj:j=i
  . subst hj;rw[aM hl]at e';cases e'
  . rwa [aB (Ne.symm hj)]at e'
 refine⟨O',o.same,λj l' b e1 e2=>o.fresh j l' b (own0 e1) e2,λb hb=>o.dom b (sub b hb),by simpa using o.len,λj s es=>?_,λj m b hjm hj hm e1 e2=>?_,λp hp=>?_,o.obs.tr (λ_ _ _ r hb=>r.less sub λb z=>⟨(r.owns b z).1,λq=>(hb b z).2 i ⟨l,e⟩ (by rw[q];exact h1)⟩) (λj r t ej=>by
  obtain⟨e1,hj⟩:=wP (λr t=>by intro z;cases z) ej
  exact⟨e1,rfl⟩) (λj b oj ej=>.inl ⟨(wB (λl=>by intro z;cases z) oj).1,ej⟩)⟩
 rotate_left 2
 . have:=o.hold p hp;cases p with
   |rep v d=>exact Rep.less sub this
   |base B=>exact λb hb=>⟨⟨(this b hb).1,λz=>(this b hb).2 (z▸o.fresh i l a e h1)⟩,(this b hb).2⟩
   |root k a=>exact True.intro
   |fz a' o' kvs' l'=>exact⟨λz=>this.1 (sub _ z),this.2.1,Reps.less sub this.2.2⟩
 . by_cases hj:j=i
   . subst hj;rw[aM hl]at es;cases es;rw[h1];exact yO (.lst na (.inl h3) (h4.less sub))
   . rw [aB (Ne.symm hj)]at es;cases s with
     |no=>exact jD
     |ob r t=>exact yV
     |exc t=>obtain⟨a',C',ob',u',q1,q2,q3,q4⟩:=o.readX es;rw[q1];exact⟨C',ob',u',q2,q3,q4⟩
     |exf t fs=>obtain⟨a',q1,q3⟩:=o.readE es;rw[q1];exact q3.keep λa' ob' u' q3=>q3
     |fr l'=>obtain⟨a',xs',q1,q2,q0,q3,q4⟩:=o.readF es;rw[q1];exact⟨λz=>q2 (sub _ z),q0,xs',q3,q4.less sub⟩
     |v d=>obtain⟨v,q1,q2⟩:=o.read es;rw[q1];exact yO (q2.less sub)
     |own l'=>obtain⟨b,ys,q1,q2,q3,q4⟩:=o.readO es;rw[q1];refine⟨⟨q2,λz=>?_⟩,ys,q3,q4.less sub⟩;subst z;exact o.apart j i b hj ⟨l',es⟩ ⟨l,e⟩ q1 h1
 . have own':∀{j:Nat},IsOwn (ds.set i (.v (.lst l))) j->IsOwn ds j:=λ{j} ⟨l',e'⟩=>by
    by_cases hj:j=i
    . subst hj;rw[aM hl]at e';cases e'
    . rw[aB (Ne.symm hj)]at e';exact⟨l',e'⟩
   exact o.apart j m b hjm (own' hj) (own' hm) e1 e2
def Ok.modify(o:Ok K H₀ H O σ ds hd)(e:ds[i]?=some (.own l))(ea:σ[i]?=some (some (.ref a)))(r:Reps K H O xs' l') :
  Ok K H₀ (upd H a (.lst xs')) O σ (ds.set i (.own l')) hd:=by
 obtain⟨a',xs,h1,h2,h3,h4⟩:=o.readO e;rw[ea]at h1;cases h1;have hl:=(aV.mp e).1;have k:Keep O H (upd H a (.lst xs')):=λb u hb eb=>by rw[upd_ne (λ(z:b=a)=>hb (z.symm▸h2))];exact eb
 refine⟨λb u eb=>?_,λj l2 b e1 e2=>?_,λb hb=>?_,by simpa using o.len,λj s es=>?_,λj m b hjm hj hm e1 e2=>?_,λp hp=>(o.hold p hp).keep k,o.obs.tr (λ_ _ _ r hb=>r.keep k λb z u eu=>by rw[upd_ne (λq=>(hb b z).2 i ⟨l,e⟩ (by rw[q];exact ea))];exact eu) (λj r t ej=>by
  obtain⟨e1,hj⟩:=wP (λr t=>by intro z;cases z) ej
  exact⟨e1,rfl⟩) (λj b oj ej=>by
  by_cases hj:j=i
  . subst hj;exact .inl ⟨⟨l,e⟩,ej⟩
  . obtain ⟨l',e'⟩:=oj;rw [aB (Ne.symm hj)]at e'
    exact .inl ⟨⟨l',e'⟩,ej⟩)⟩
 rotate_left 1
 . by_cases hj:j=i
   . subst hj;exact o.fresh j l b e e2
   . rw[aB (Ne.symm hj)]at e1;exact o.fresh j l2 b e1 e2
 rotate_right 1
 . rw[upd_ne (λz=>by rw[z,o.fresh i l a e ea]at eb;cases eb)];exact o.same b u eb
 . by_cases hba:b=a
   . subst hba;exact⟨⟨.lst xs',rfl⟩,zO⟩
   . rw[upd_ne hba];exact o.dom b hb
 . by_cases hj:j=i
   . subst hj;rw[aM hl]at es;cases es;rw[ea];exact⟨h2,xs',zO,r.keep k⟩
   . rw [aB (Ne.symm hj)]at es;cases s with
     |no=>exact jD
     |ob r t=>exact yV
     |exc t=>obtain⟨a',C',ob',u',q1,q2,q3,q4⟩:=o.readX es;rw[q1];exact⟨C',ob',u',q2,by rw[upd_ne (λz=>by rw[z,h3]at q3;cases q3)];exact q3,q4⟩
     |exf t fs=>obtain⟨a',q1,q3⟩:=o.readE es;rw[q1];exact q3.keep λa' ob' u' q3=>by rw[upd_ne (λz=>by rw[z,h3]at q3;cases q3)];exact q3
     |fr l'=>obtain⟨a',xs'',q1,q2,q0,q3,q4⟩:=o.readF es;rw[q1];exact⟨q2,q0,xs'',by rw[upd_ne (λz=>q2 (by rw[z];exact h2))];exact q3,q4.keep k⟩
     |v d=>obtain⟨v,q1,q2⟩:=o.read es;rw[q1];exact yO (q2.keep k)
     |own l''=>
       obtain⟨b,ys,q1,q2,q3,q4⟩:=o.readO es;rw[q1];refine⟨q2,ys,?_,q4.keep k⟩;rw[upd_ne (λz=>?_)]
       . exact q3
       . subst z;exact o.apart j i b hj ⟨_,es⟩ ⟨l,e⟩ q1 ea
 . have own':∀{j:Nat},IsOwn (ds.set i (.own l')) j->IsOwn ds j:=λ{j} ⟨l'',e'⟩=>by
    by_cases hj:j=i
    . subst hj;exact⟨l,e⟩
    . rw[aB (Ne.symm hj)]at e';exact⟨l'',e'⟩
   exact o.apart j m b hjm (own' hj) (own' hm) e1 e2
def Ok.forget(o:Ok K H₀ H O σ ds hd) i:Ok K H₀ H O σ (ds.set i .no) hd:=by
 have own0:∀{j:Nat}{l':List D},(ds.set i .no)[j]?=some (.own l')->ds[j]?=some (.own l'):=λ{j l'} e'=>by
  by_cases hj:j=i
  . subst hj;by_cases hl:j<ds.length
    . rw[aM hl]at e';cases e'
    . rw[bF (by simpa using hl)]at e';cases e'
  . rwa [aB (Ne.symm hj)]at e'
 refine⟨o.same,λj l' b e1 e2=>o.fresh j l' b (own0 e1) e2,o.dom,by simpa using o.len,λj s es=>?_,λj m b hjm hj hm e1 e2=>?_,o.hold,o.obs.tr (λ_ _ _ r _=>r) (λj r t e=>⟨(wP (λr t=>by intro z;cases z) e).1,rfl⟩) (λj b oj ej=>.inl ⟨(wB (λl=>by intro z;cases z) oj).1,ej⟩)⟩
 . by_cases hj:j=i
   . subst hj;by_cases hl:j<ds.length
     . rw[aM hl]at es;cases es;exact jD
     . rw[bF (by simpa using hl)]at es;cases es
   . rw[aB (Ne.symm hj)]at es;exact o.sl j s es
 . have own':∀{j:Nat},IsOwn (ds.set i .no) j->IsOwn ds j:=λ{j} ⟨l',e'⟩=>by
    by_cases hj:j=i
    . subst hj;by_cases hl:j<ds.length
      . rw[aM hl]at e';cases e'
      . rw[bF (by simpa using hl)]at e';cases e'
    . rw[aB (Ne.symm hj)]at e';exact⟨l',e'⟩
   exact o.apart j m b hjm (own' hj) (own' hm) e1 e2
def Ok.holdMore(o:Ok K H₀ H O σ ds hd)(r:HOk K H₀ H O p)(hp:∀k a,HI.root k a≠p:=by intro _ _ z;cases z):Ok K H₀ H O σ ds (p::hd):=
 ⟨o.same,o.fresh,o.dom,o.len,o.sl,o.apart,λq hq=>(aA.mp hq).elim (λe=>e▸r) (o.hold q),let ⟨F,hF⟩:=o.obs;⟨F,λi r t e=>let ⟨v,h1,h2,h3,h4⟩:=hF i r t e;⟨v,h1,h2,λk a z y=>(aA.mp y).elim (λy=>(hp k a y).elim) (h3 k a z),h4⟩⟩⟩
def Ok.holdLess(o:Ok K H₀ H O σ ds (p::hd)):Ok K H₀ H O σ ds hd:=
 ⟨o.same,o.fresh,o.dom,o.len,o.sl,o.apart,λq hq=>o.hold q (aH _ hq),let ⟨F,hF⟩:=o.obs;⟨F,λi r t e=>let ⟨v,h1,h2,h3,h4⟩:=hF i r t e;⟨v,h1,h2,λk a z y=>h3 k a z (aH _ y),h4⟩⟩⟩
end
section
variable(X:Cx)
def PV(e:Expr)(f:FE):Prop:=∃t,PE X e t/\∀H₀ H O σ ds hd d Q,Ok X.K H₀ H O σ ds hd->f ds=some d->(∀v H',Same H H'->Rep X.K H' O v d->Q v H')->t σ H Q
def PVw(e:Expr)(f:FE):Prop:=∃t,PE X e t/\∀H₀ H O σ ds hd d Q,Ok X.K H₀ H O σ ds hd->f ds=some d->(∀v H',Same H H'->WRep X.K H' O v d->Q v H')->t σ H Q
def PVf(e:Expr)(f:FA):Prop:=∃t,PE X e t/\∀H₀ H O σ ds hd l Q,Ok X.K H₀ H O σ ds hd->f ds=some l →
 (∀a xs H',Same H H'->H a=none->H' a=some (.lst xs)->Reps X.K H' (ins1 a O) xs l->Q (.ref a) H')->t σ H Q
def PTv(e:Expr)(c:FT):Prop:=∃t,PT X e t/\∀H₀ H O σ ds hd b Q,Ok X.K H₀ H O σ ds hd->c ds=some b->(∀H',Same H H'->Q b H')->t σ H Q
def PWv(e:Expr)(c:FT):Prop:=∃t,PW X e t/\∀H₀ H O σ ds hd b Q,Ok X.K H₀ H O σ ds hd->c ds=some b->(∀H',Same H H'->Q b H')->t σ H Q
def PAv(es:List Expr)(f:FA):Prop:=∃t,PA X es t/\∀H₀ H O σ ds hd l Q,Ok X.K H₀ H O σ ds hd->f ds=some l->(∀vs H',Same H H'->FY (WRep X.K H' O) vs l->Q vs H')->t σ H Q
def PAs(es:List Expr)(f:FA):Prop:=∃t,PA X es t/\∀H₀ H O σ ds hd l Q,Ok X.K H₀ H O σ ds hd->f ds=some l->(∀vs H',Same H H'->Reps X.K H' O vs l->Q vs H')->t σ H Q
end
def PV.w(h:PV X e f):PVw X e f:=by obtain⟨t,ht,hf⟩:=h;exact⟨t,ht,λH₀ H O σ ds hd d Q o e q=>hf H₀ H O σ ds hd d Q o e λv H' s r=>q v H' s (.inl r)⟩
theorem PVf.s(h:PVf X e f):PV X e (mkL f):=by obtain⟨t,ht,hf⟩:=h;refine⟨t,ht,λH₀ H O σ ds hd d Q o e q=>?_⟩;unfold mkL at e;obtain⟨l,hl,rfl⟩:=mpd e;rw[hl]at e;cases e;refine hf H₀ H O σ ds hd l Q o hl λa xs H' s hn he r=>q _ _ s ?_;exact .lst (o.free hn) (.inl he) (r.less λ_ z=>.inr z)
def zK i(hN:X.N[i]?=some x:=by rfl)(hv:Vis X.env.scope x:=by first|exact Or.inl rfl|exact Or.inr (Or.inl rfl)|exact Or.inr (Or.inr rfl))(hd:(x==("__debug__" : Str))=false:=by decide)(hcd:(x==("__classdict__" : Str))=false:=by decide):PV X (.Name x pos) (zW i):=by
 refine⟨_,xC hN hv hd hcd,λH₀ H O σ ds hd d Q o e q=>?_⟩;unfold zW at e;cases hs:ds[i]? with
 |none=>rw[hs]at e;cases e
 |some s=>
   rw[hs]at e;cases s with
   |v d'=>cases e;obtain⟨v,h1,h2⟩:=o.read hs;exact⟨v,h1,q v H (Same.refl _) h2⟩
   |no=>cases e
   |exc _=>cases e
   |exf _ _=>cases e
   |fr _=>cases e
   |ob _ _=>cases e
   |own l=>cases e
def zE i(hN:X.N[i]?=some x:=by rfl)(hv:Vis X.env.scope x:=by first|exact Or.inl rfl|exact Or.inr (Or.inl rfl)|exact Or.inr (Or.inr rfl))(hd:(x==("__debug__" : Str))=false:=by decide)(hcd:(x==("__classdict__" : Str))=false:=by decide):PVw X (.Name x pos) (zJ i):=by
 refine⟨_,xC hN hv hd hcd,λH₀ H O σ ds hd d Q o e q=>?_⟩;unfold zJ at e;cases hs:ds[i]? with
 |none=>rw[hs]at e;cases e
 |some s=>
   rw[hs]at e;cases s with
   |v d'=>cases e;obtain⟨v,h1,h2⟩:=o.read hs;exact⟨v,h1,q v H (Same.refl _) (.inl h2)⟩
   |no=>cases e
   |exc _=>cases e
   |exf _ _=>cases e
   |fr _=>cases e
   |ob _ _=>cases e
   |own l=>cases e;obtain⟨a,xs,h1,h2,h3,h4⟩:=o.readO hs;exact⟨.ref a,h1,q _ H (Same.refl _) (.inr ⟨a,xs,l,rfl,rfl,h2,h3,h4⟩)⟩
def yC{j pos}: PV X (.Constant (.int i) j pos) (zB (.int i)):=⟨_,pe_int,λ_ H _ _ _ _ _ _ _ e q=>by cases e;exact q _ H (Same.refl _) (.int i)⟩
def GZ{j pos}: PV X (.Constant (.bool b) j pos) (zB (.bl b)):=⟨_,pe_bl,λ_ H _ _ _ _ _ _ _ e q=>by cases e;exact q _ H (Same.refl _) (.bl b)⟩
def qK{j pos}: PV X (.Constant .none j pos) (zB .non):=⟨_,pe_non,λ_ H _ _ _ _ _ _ _ e q=>by cases e;exact q _ H (Same.refl _) .non⟩
def DF{j pos}: PV X (.Constant (.str x) j pos) (zB (.str x)):=⟨_,pe_str,λ_ H _ _ _ _ _ _ _ e q=>by cases e;exact q _ H (Same.refl _) (.str x)⟩
def SO(hg:Gl X x)(hm:X.mg x=some u)(r:RelV v u)(hr:∀H O,Rep X.K H O v d)(hd:(x==("__debug__" : Str))=false:=by decide):PV X (.Name x pos) (zB d):=
 ⟨_,TL hg hm r hd,λ_ H O _ _ _ _ _ _ e q=>by cases e;exact q _ H (Same.refl _) (hr H O)⟩
def OpS(X:Cx)(r:R2)(op:D->D->Option D):Prop:=∀H O x y dx dy d Q,(∀a,O a->∃u:MutHO,H a=some u.1)->WRep X.K H O x dx->WRep X.K H O y dy->op dx dy=some d->(∀v H',Same H H'->Rep X.K H' O v d->Q v H')->r x y H Q
def IY{r:R2}{op:D->D->Option D}(hs:OpS X r op){a b:Expr}{fa fb:FE}{ta tb:TE}(ha:∀H₀ H O σ ds hd d Q,Ok X.K H₀ H O σ ds hd->fa ds=some d->(∀v H',Same H H'->WRep X.K H' O v d->Q v H')->ta σ H Q)(hb:∀H₀ H O σ ds hd d Q,Ok X.K H₀ H O σ ds hd->fb ds=some d->(∀v H',Same H H'->WRep X.K H' O v d->Q v H')->tb σ H Q) :
  ∀H₀ H O σ ds hd d Q,Ok X.K H₀ H O σ ds hd->zH op fa fb ds=some d->(∀v H',Same H H'->Rep X.K H' O v d->Q v H')->tOp r ta tb σ H Q:=by
 intro H₀ H O σ ds hd d Q o e q;obtain⟨dx,h1,e⟩:=bnd e;obtain⟨dy,h2,e⟩:=bnd e;refine ha H₀ H O σ ds hd dx _ o h1 λx H1 s1 r1=>?_;refine hb H₀ H1 O σ ds hd dy _ (o.mono s1) h2 λy H2 s2 r2=>?_;exact hs H2 O x y dx dy d Q ((o.mono s1).mono s2).dom (r1.mono s2) r2 e λv H' s r=>q v H' ((s1.trans s2).trans s) r
def tX(ho:OpR X (lE op) r)(hs:OpS X r opD)(ha:PVw X a fa)(hb:PVw X b fb):PV X (.BinOp a op b pos) (zH opD fa fb):=by obtain⟨ta,pa,ha⟩:=ha;obtain⟨tb,pb,hb⟩:=hb;exact⟨_,pe_op ho pa pb,IY hs (a:=a) (b:=b) ha hb⟩
def PM(ho:OpR X (dS op) r)(hs:OpS X r opD)(ha:PVw X a fa)(hb:PVw X b fb)(hm:dH op b=false):PV X (.Compare a [op] [b] pos) (zH opD fa fb):=by obtain⟨ta,pa,ha⟩:=ha;obtain⟨tb,pb,hb⟩:=hb;exact⟨_,TM ho pa pb hm,IY hs (a:=a) (b:=b) ha hb⟩
def JE(ho:OpR X (dS op) r)(hs:OpS X r opD)(ha:PVw X a fa)(hb:PVw X b fb)(hm:dH op b=false):PTv X (.Compare a [op] [b] pos) (qC (zH opD fa fb)):=by
 obtain⟨ta,pa,ha⟩:=ha;obtain⟨tb,pb,hb⟩:=hb;refine⟨_,SW ho pa pb hm,λH₀ H O σ ds hd k Q o e q=>?_⟩;obtain⟨d,h,e⟩:=bnd e;refine IY hs (a:=a) (b:=b) ha hb H₀ H O σ ds hd d _ o h λv H' s r=>?_;cases d with
 |bl c=>cases e;cases r;exact⟨_,rfl,q H' s⟩
 |_=>cases e
def os_add:OpS X (λx y H Q=>rI0 (λi j=>.int (i+j)) x y H Q\/∃i j,x=.str i/\y=.str j/\i.length+j.length<=sizeLine/\Q (.str (i++j)) H) xB:=by
 intro H O x y dx dy d Q ho rx ry e q;cases dx<;>cases dy<;>first|(simp[xB]at e;done)|skip
 . cases e;rw[rx.int',ry.int'];exact .inl ⟨_,_,rfl,rfl,q _ H (Same.refl _) (.int _)⟩
 . rename_i x y;simp only [xB]at e;split at e
   . rename_i hl;cases e;rw[rx.str',ry.str'];exact .inr ⟨_,_,rfl,rfl,hl,q _ H (Same.refl _) (.str _)⟩
   . cases e
def op_addU:OpR X (lE .Add) (λx y H Q=>rI0 (λi j=>.int (i+j)) x y H Q\/∃i j,x=.str i/\y=.str j/\i.length+j.length<=sizeLine/\Q (.str (i++j)) H):=op_add.or PY
def os_sub:OpS X (rI0 λi j=>.int (i-j)) subD:=by
 intro H O x y dx dy d Q ho rx ry e q;cases dx<;>cases dy<;>first|(simp[subD]at e;done)|skip
 cases e;rw[rx.int',ry.int'];exact⟨_,_,rfl,rfl,q _ H (Same.refl _) (.int _)⟩
def CDivB(i j:Int):Prop:=divOk j
def aCb:OpR X (lE .FloorDiv) (rI CDivB λi j=>.int (i/j)):=opI λi j _ _ _ _ _ hc q=>by have e:i.fdiv j=i/j:=Int.fdiv_eq_ediv_of_nonneg _ (Int.le_of_lt hc.1);refine floordiv_int (by have:=hc.1;lia) ?_ (.inl (PyProof.noPylong_of_log2 hc.2));rw[e];exact q
def os_fdiv:OpS X (rI CDivB λi j=>.int (i/j)) qR:=by
 intro H O x y dx dy d Q ho rx ry e q;cases dx<;>cases dy<;>first|(simp[qR]at e;done)|skip
 simp only[qR]at e;split at e
 . rename_i hc;cases e;rw[rx.int',ry.int'];exact⟨_,_,rfl,rfl,hc,q _ H (Same.refl _) (.int _)⟩
 . cases e
def os_mod:OpS X (rI (λ_ j=>0<j) λi j=>.int (i%j)) jG:=by
 intro H O x y dx dy d Q ho rx ry e q;cases dx<;>cases dy<;>first|(simp[jG]at e;done)|skip
 simp only[jG]at e;split at e
 . rename_i hc;cases e;rw[rx.int',ry.int'];exact⟨_,_,rfl,rfl,hc,q _ H (Same.refl _) (.int _)⟩
 . cases e
def sU:OpS X (rI0 λi j=>.bl (p i j)) (cmpI p):=by
 intro H O x y dx dy d Q ho rx ry e q;cases dx<;>cases dy<;>first|(simp[cmpI]at e;done)|skip
 cases e;rw[rx.int',ry.int'];exact⟨_,_,rfl,rfl,q _ H (Same.refl _) (.bl _)⟩
theorem PV.t(h:PV X e f)(he:∀whole,FV e X.env whole=(do let v <- whole;lD e.pos;gC [v] (truthy v)):=by intro _;rfl):PTv X e (qC f):=by
 obtain⟨t,ht,hf⟩:=h;refine⟨_,pt_val ht he,λH₀ H O σ ds hd k Q o e q=>?_⟩;unfold qC at e;obtain⟨d,h,e⟩:=bnd e;refine hf H₀ H O σ ds hd d _ o h λv H' s r=>?_;cases d with
 |bl c=>cases e;cases r;exact⟨_,rfl,q H' s⟩
 |_=>cases e
def kE(ha:PTv X a c):PWv X (.BoolOp .And [a] pos) c:=by obtain⟨t,ht,hf⟩:=ha;exact⟨_,pw_and1 ht,hf⟩
def xR(ha:PTv X a c):PWv X (.BoolOp .Or [a] pos) c:=by obtain⟨t,ht,hf⟩:=ha;exact⟨_,pw_or1 ht,hf⟩
def sQ{rest:List Expr}(ha:PTv X a c)(hb:PWv X (.BoolOp .And (b::rest) pos) d):PWv X (.BoolOp .And (a::b::rest) pos) (andT c d):=by
 obtain⟨t,ht,hf⟩:=ha;obtain⟨u,hu,hg⟩:=hb;refine⟨_,pw_and ht hu,λH₀ H O σ ds hd k Q o e q=>?_⟩;obtain⟨b,h,e⟩:=bnd e;refine hf H₀ H O σ ds hd b _ o h λH' s=>?_;cases b with
 |true=>exact iteT (hg H₀ H' O σ ds hd k Q (o.mono s) (by simpa using e) λH'' s'=>q H'' (s.trans s'))
 |false=>
   have:false=k:=by simpa using e
   subst this;exact iteF (q H' s)
def wO{rest:List Expr}(ha:PTv X a c)(hb:PWv X (.BoolOp .Or (b::rest) pos) d):PWv X (.BoolOp .Or (a::b::rest) pos) (orT c d):=by
 obtain⟨t,ht,hf⟩:=ha;obtain⟨u,hu,hg⟩:=hb;refine⟨_,pw_or ht hu,λH₀ H O σ ds hd k Q o e q=>?_⟩;obtain⟨b,h,e⟩:=bnd e;refine hf H₀ H O σ ds hd b _ o h λH' s=>?_;cases b with
 |false=>exact iteF (hg H₀ H' O σ ds hd k Q (o.mono s) (by simpa using e) λH'' s'=>q H'' (s.trans s'))
 |true=>
   have:true=k:=by simpa using e
   subst this;exact iteT (q H' s)
theorem PWv.t(h:PWv X e c):PTv X e c:=by obtain⟨t,ht,hf⟩:=h;exact⟨t,ht.pt,hf⟩
def xW(ha:PTv X a c):PTv X (.UnaryOp .Not a pos) (notT c):=by obtain⟨t,ht,hf⟩:=ha;refine⟨_,pt_not ht,λH₀ H O σ ds hd k Q o e q=>?_⟩;obtain⟨b,h,rfl⟩:=mpd e;exact hf H₀ H O σ ds hd b _ o h λH' s=>q H' s
def IZ{op}(ha:PV X a f):PV X (.BoolOp op [a] pos) f:=by obtain⟨t,ht,hf⟩:=ha;exact⟨_,pe_one ht,hf⟩
def PN{rest:List Expr}(ha:PV X a f)(hb:PV X (.BoolOp .And (b::rest) pos) g):PV X (.BoolOp .And (a::b::rest) pos) (andV f g):=by
 obtain⟨t,ht,hf⟩:=ha;obtain⟨u,hu,hg⟩:=hb;refine⟨_,pe_and ht hu,λH₀ H O σ ds hd d Q o e q=>?_⟩;obtain⟨dd,h,e⟩:=bnd e;refine hf H₀ H O σ ds hd dd _ o h λv H' s r=>?_;cases dd with
 |bl c=>
   cases r;cases c with
   |true=>exact⟨true,rfl,iteT (hg H₀ H' O σ ds hd d Q (o.mono s) e λv H'' s'=>q v H'' (s.trans s'))⟩
   |false=>have:=Option.some.inj e;subst this;exact⟨false,rfl,iteF (q _ H' s (.bl false))⟩
 |_=>cases e
def pv_or{rest:List Expr}(ha:PV X a f)(hb:PV X (.BoolOp .Or (b::rest) pos) g):PV X (.BoolOp .Or (a::b::rest) pos) (orV f g):=by
 obtain⟨t,ht,hf⟩:=ha;obtain⟨u,hu,hg⟩:=hb;refine⟨_,pe_or ht hu,λH₀ H O σ ds hd d Q o e q=>?_⟩;obtain⟨dd,h,e⟩:=bnd e;refine hf H₀ H O σ ds hd dd _ o h λv H' s r=>?_;cases dd with
 |bl c=>
   cases r;cases c with
   |false=>exact⟨false,rfl,iteF (hg H₀ H' O σ ds hd d Q (o.mono s) e λv H'' s'=>q v H'' (s.trans s'))⟩
   |true=>have:=Option.some.inj e;subst this;exact⟨true,rfl,iteT (q _ H' s (.bl true))⟩
 |_=>cases e
def pv_if(hc:PTv X c fc)(ha:PV X a f)(hb:PV X b g):PV X (.IfExp c a b pos) (ifV fc f g):=by
 obtain⟨tc,pc,hc⟩:=hc;obtain⟨t,ht,hf⟩:=ha;obtain⟨u,hu,hg⟩:=hb;refine⟨_,aBt pc ht hu,λH₀ H O σ ds hd d Q o e q=>?_⟩;obtain⟨k,h,e⟩:=bnd e;refine hc H₀ H O σ ds hd k _ o h λH' s=>?_;cases k with
 |true=>exact iteT (hf H₀ H' O σ ds hd d Q (o.mono s) (by simpa using e) λv H'' s'=>q v H'' (s.trans s'))
 |false=>exact iteF (hg H₀ H' O σ ds hd d Q (o.mono s) (by simpa using e) λv H'' s'=>q v H'' (s.trans s'))
def qM:PAv X [] zS:=⟨_,yP,λ_ H _ _ _ _ _ _ _ e q=>by cases e;exact q _ H (Same.refl _) .nil⟩
def zP:PAs X [] zS:=⟨_,yP,λ_ H _ _ _ _ _ _ _ e q=>by cases e;exact q _ H (Same.refl _) .nil⟩
def qB(ha:PVw X e f)(hr:PAv X es g)(hs:aF (e::es) X.env=(false,bU e X.env)::aF es X.env:=by rfl):PAv X (e::es) (zA f g):=by obtain⟨t,ht,hf⟩:=ha;obtain⟨u,hu,hg⟩:=hr;refine⟨_,jA ht hu hs,λH₀ H O σ ds hd l Q o e q=>?_⟩;obtain⟨x,h,e⟩:=bnd e;obtain⟨r,h2,rfl⟩:=mpd e;refine hf H₀ H O σ ds hd x _ o h λv H1 s1 r1=>?_;refine hg H₀ H1 O σ ds hd r _ (o.mono s1) h2 λvs H2 s2 r2=>?_;exact q _ H2 (s1.trans s2) (.cons (r1.mono s2) r2)
def zD(ha:PV X e f)(hr:PAs X es g)(hs:aF (e::es) X.env=(false,bU e X.env)::aF es X.env:=by rfl):PAs X (e::es) (zA f g):=by obtain⟨t,ht,hf⟩:=ha;obtain⟨u,hu,hg⟩:=hr;refine⟨_,jA ht hu hs,λH₀ H O σ ds hd l Q o e q=>?_⟩;obtain⟨x,h,e⟩:=bnd e;obtain⟨r,h2,rfl⟩:=mpd e;refine hf H₀ H O σ ds hd x _ o h λv H1 s1 r1=>?_;refine hg H₀ H1 O σ ds hd r _ (o.mono s1) h2 λvs H2 s2 r2=>?_;exact q _ H2 (s1.trans s2) (.cons (r1.mono s2) r2)
def qF(h:H p=none) o:Same H (upd H p o):=λb u q=>by rw[upd_ne (jK q h)];exact q
def qT(h:PAs X es g):PVf X (.List es pos) (qD g):=by
 obtain⟨t,ht,hf⟩:=h;refine⟨_,aBr ht,λH₀ H O σ ds hd l Q o e q=>?_⟩;unfold qD at e;cases h:g ds with
 |none=>rw[h]at e;cases e
 |some l'=>
   rw[h]at e;simp only[aO]at e;split at e
   . rename_i hl;cases e;refine hf H₀ H O σ ds hd l _ o h λvs H1 s1 r1=>⟨by rw [r1.length];exact hl,λp hp=>?_⟩
     refine q p vs _ (s1.trans (qF hp _)) (s1.free hp) zO ?_;exact(r1.more hp).mono (qF hp _)
   . cases e
def jJ{x1}(h:PAs X es g):PV X (.Tuple es x1 pos) (mkT (qD g)):=by
 obtain⟨t,ht,hf⟩:=h;refine⟨_,aBo ht,λH₀ H O σ ds hd d Q o e q=>?_⟩;unfold mkT qD at e;cases h:g ds with
 |none=>rw[h]at e;cases e
 |some l'=>
   rw[h]at e;simp only[aO]at e;split at e
   . rename_i hl;cases e;refine hf H₀ H O σ ds hd l' _ o h λvs H1 s1 r1=>⟨by rw [r1.length];exact hl,λp hp=>?_⟩
     refine q _ _ (s1.trans (qF hp _)) ?_;exact .tup ((o.mono s1).free hp) (.inl zO) (r1.mono (qF hp _))
   . cases e
def VF{K:Frag}(r:Reps K H O xs l)(e:atI l i=some d):∃v,atI xs i=some v/\Rep K H O v d:=by
 unfold atI at e ⊢;rw[r.length];cases h:ixN l.length i with
 |none=>rw[h]at e;cases e
 |some j=>rw[h]at e;exact r.get e
def aDc{K:Frag}(rx:WRep K H O x dx)(ry:WRep K H O y dy)(e:ixD dx dy=some d)(q:∀v H',Same H H'->Rep K H' O v d->Q v H'):rIx K x y H Q:=by
 cases dx<;>cases dy<;>first|(simp[ixD]at e;done)|skip
 . simp only [ixD]at e;split at e
   . rename_i hl;rw[rx.str',ry.int'];obtain⟨c,hc,rfl⟩:=mpd e;exact .inr (.inr ⟨_,_,c,rfl,rfl,hl,hc,q _ H (Same.refl _) (.str _)⟩)
   . cases e
 . obtain⟨a,xs,rfl,hs,r⟩:=rx.seqT;rw[ry.int'];obtain⟨v,h1,h2⟩:=VF r e;exact .inr (.inl ⟨a,xs,_,v,rfl,rfl,hs,h1,q _ H (Same.refl _) h2⟩)
 . obtain⟨a,xs,rfl,hs,r⟩:=rx.seqL;rw[ry.int'];obtain⟨v,h1,h2⟩:=VF r e;exact .inl ⟨a,xs,_,v,rfl,rfl,hs,h1,q _ H (Same.refl _) h2⟩
def os_ix:OpS X (rIx X.K) ixD:=λH O x y dx dy d Q ho rx ry e q=>aDc rx ry e q
def qO(ha:PVw X a fa)(hb:PVw X b fb)(hs:BW b:=by exact λ_ _=>rfl):PV X (.Subscript a b pos) (zH ixD fa fb):=by obtain⟨ta,pa,ha⟩:=ha;obtain⟨tb,pb,hb⟩:=hb;exact⟨_,aBs QJ pa pb hs,IY os_ix (a:=a) (b:=b) ha hb⟩
noncomputable def RetOk(K:Frag)(H H':Hp)(v:V):Ret->Prop
 |.val d=>Rep K H' (Old H) v d
 |.fresh l=>∃a xs,v=.ref a/\H a=none/\H' a=some (.lst xs)/\Reps K H' (ins1 a (Old H)) xs l
 |.any d=>Rep K H' jE v d
 |.obj t=>∃fs,RepO K H' (λb=>b∈fs\/Old H b) v t fs/\fs.Nodup/\∀b∈fs,H b=none
noncomputable def RetB(K:Frag)(H:Hp)(hd:Hold)(v:V):Ret->Prop
 |.any d=>∀B,HI.base B∈hd->Rep K H B v d
 |_=>True
noncomputable def spF(K:Frag)(n:Nat)(F:List D->Option Ret):Sp:=λvs H Q _=>vs.length=n/\∃ds r,Reps K H jE vs ds/\F ds=some r/\∀v H',Same H H'->RetOk K H H' v r->Q v H'
def sP{K:Frag}(h:RetOk K H H' v r)(e:retV r=some d)(ho:∀a,O a->Old H a):Rep K H' O v d:=by
 cases r with
 |any d'=>cases e
 |val d'=>cases e;exact h.less ho
 |obj t=>
   cases e;obtain⟨fs,h1,h2,h3⟩:=h;refine h1.val' λa z=>⟨.inr (ho a z),λq=>?_⟩
   obtain⟨o,e,_⟩:=ho a z;rw[h3 a q]at e;cases e
 |fresh l=>cases e;obtain⟨a,xs,rfl,h1,h2,h3⟩:=h;refine .lst (λz=>?_) (.inl h2) (h3.less λb z=>.inr (ho b z));obtain⟨o,e,_⟩:=ho a z;rw[h1]at e;cases e
def BK{K:Frag}(h:RetOk K H H' v r)(e:retF r=some l)(ho:∀a,O a->Old H a):∃a xs,v=.ref a/\H a=none/\H' a=some (.lst xs)/\Reps K H' (ins1 a O) xs l:=by
 cases r with
 |any d'=>cases e
 |val d'=>cases e
 |obj t=>cases e
 |fresh l'=>cases e;obtain⟨a,xs,rfl,h1,h2,h3⟩:=h;exact⟨a,xs,rfl,h1,h2,h3.less λb z=>z.elim .inl λz=>.inr (ho b z)⟩
def CallS(X:Cx)(r:List V->Hp->VK->Prop)(F:List D->Option D):Prop:=∀H O vs l d Q,(∀a,O a->∃u:MutHO,H a=some u.1)->FY (WRep X.K H O) vs l->F l=some d->(∀v H',Same H H'->Rep X.K H' O v d->Q v H')->r vs H Q
def vX{id:String}(hc:CallR X (.builtin id) r)(hs:CallS X r F)(hm:X.mg x=none)(hv:eZ x=some (.builtin id))(ha:PAv X (e::es) g)(hg:Gl X x)(hn:x≠"__name__":=by decide)(hdb:(x==("__debug__" : Str))=false:=by decide)(he:aF (e::es) X.env=(false,bU e X.env)::aF es X.env:=by rfl)(hpl:(cY pos (aF es X.env)).any (·.1)=false:=by rfl) :
  PV X (.Call (.Name x p) (e::es) [] pos) (callB F g):=by
 obtain⟨t,ht,hf⟩:=ha;refine⟨_,sS hc hg hm hv ht hn hdb he hpl,λH₀ H O σ ds hd d Q o e q=>?_⟩;obtain⟨l,h,e⟩:=bnd e;refine hf H₀ H O σ ds hd l _ o h λvs H1 s1 r1=>?_;exact hs H1 O vs l d Q (o.mono s1).dom r1 e λv H' s' r=>q v H' (s1.trans s') r
def YH:CallR X (.builtin "len") (λxs H Q=>(∃p ys,xs=[.ref p]/\(SqL X.K H p ys\/SqT X.K H p ys)/\Q (.int ys.length) H)\/∃z,xs=[.str z]/\z.length<=sizeLine/\Q (.int z.length) H):=KZ.or KY
def cs_len:CallS X (λxs H Q=>(∃p ys,xs=[.ref p]/\(SqL X.K H p ys\/SqT X.K H p ys)/\Q (.int ys.length) H)\/∃z,xs=[.str z]/\z.length<=sizeLine/\Q (.int z.length) H) lenD:=by
 intro H O vs l d Q ho r e q;unfold lenD at e;split at e
 . cases e;cases r with
   |cons r rn=>cases rn;obtain⟨a,xs,rfl,hs,rs⟩:=r.seqL;refine .inl ⟨a,xs,rfl,.inl hs,?_⟩;rw[rs.length];exact q _ H (Same.refl _) (.int _)
 . cases e;cases r with
   |cons r rn=>cases rn;obtain⟨a,xs,rfl,hs,rs⟩:=r.seqT;refine .inl ⟨a,xs,rfl,.inr hs,?_⟩;rw[rs.length];exact q _ H (Same.refl _) (.int _)
 . split at e
   . rename_i hl;cases e;cases r with
     |cons r rn=>cases rn;rw[r.str'];exact .inr ⟨_,rfl,hl,q _ H (Same.refl _) (.int _)⟩
   . cases e
 . cases e
def yH(hm:X.mg "len" = none)(ha:PAv X [e] g)(hg:Gl X "len":=by rfl)(he:aF [e] X.env=[(false,bU e X.env)]:=by rfl) :
  PV X (.Call (.Name "len" p) [e] [] pos) (callB lenD g):=vX YH cs_len hm PySem.boot_len ha hg (by decide) (by decide) he rfl
noncomputable def After(X:Cx)(H₀:Hp)(hd:Hold)(E:Ends):Out->Prop
 |.nx ds=>∀σ H O,Ok X.K H₀ H O σ ds hd->E.nx σ H
 |.bk ds=>∀σ H O,Ok X.K H₀ H O σ ds hd->E.bk σ H
 |.ct ds=>∀σ H O,Ok X.K H₀ H O σ ds hd->E.ct σ H
 |.rt r=>∀v H,Same H₀ H->RetOk X.K H₀ H v r->RetB X.K H hd v r->E.rt v H
variable(X) in
def PSv(st:Stmt)(g:FS):Prop:=∃t,PS X st t/\∀H₀ H O σ ds hd out E,Ok X.K H₀ H O σ ds hd->g ds=some out->After X H₀ hd E out->t E σ H
variable(X) in
def PSsv(st:List Stmt)(g:FS):Prop:=∃t,PSs X st t/\∀H₀ H O σ ds hd out E,Ok X.K H₀ H O σ ds hd->g ds=some out->After X H₀ hd E out->t E σ H
def zX:PSsv X [] qW:=⟨_,pss_nil,λ_ H O σ ds hd out E o e h=>by cases e;exact h σ H O o⟩
def zC{st:Stmt}{rest:List Stmt}(h1:PSv X st f)(h2:PSsv X rest g):PSsv X (st::rest) (qQ f g):=by
 obtain⟨t,ht,hf⟩:=h1;obtain⟨u,hu,hg⟩:=h2;refine⟨_,MM ht hu,λH₀ H O σ ds hd out E o e h=>?_⟩;obtain⟨o1,h1,e⟩:=bnd e;refine hf H₀ H O σ ds hd o1 _ o h1 ?_;cases o1 with
 |nx ds'=>exact λσ' H' O' o'=>hg H₀ H' O' σ' ds' hd out E o' e h
 |rt r=>cases e;exact h
 |bk ds'=>cases e;exact h
 |ct ds'=>cases e;exact h
def zF{st:Stmt}(h1:PSv X st f):PSsv X [st] f:=by obtain⟨t,ht,hf⟩:=h1;exact⟨_,JG ht,hf⟩
def JF:PSv X (.Continue pos) (λds=>some (.ct ds)):=⟨_,MN,λ_ H O σ ds hd out E o e h=>by cases e;exact h σ H O o⟩
def qL(hc:PTv X c fc)(ha:PSsv X a f)(hb:PSsv X b g):PSv X (.If c a b pos) (ifG fc f g):=by
 obtain⟨tc,pc,hc⟩:=hc;obtain⟨t,ht,hf⟩:=ha;obtain⟨u,hu,hg⟩:=hb;refine⟨_,ps_if pc ht hu,λH₀ H O σ ds hd out E o e h=>?_⟩;obtain⟨k,h1,e⟩:=bnd e;refine hc H₀ H O σ ds hd k _ o h1 λH' s=>?_;cases k with
 |true=>exact iteT (hf H₀ H' O σ ds hd out E (o.mono s) (by simpa using e) h)
 |false=>exact iteF (hg H₀ H' O σ ds hd out E (o.mono s) (by simpa using e) h)
def zT(hN:X.N.Nodup)(he:PV X e f)(hi:X.N[i]?=some x:=by rfl)(hx:Loc X.env.scope x:=by first|exact Or.inl rfl|exact Or.inr rfl)(hs:eC e (some (.Name x pos')) pos.line X.env=pure false:=by rfl)(hf:X.fn x=true\/X.env.scope.names.lookup x=some .local:=by first|exact .inl rfl|exact .inr rfl):PSv X (.Assign [.Name x pos'] e pos) (jM i f):=by obtain⟨t,ht,hg⟩:=he;refine⟨_,JH hN hi hx ht hs hf,λH₀ H O σ ds hd out E o e h=>?_⟩;obtain⟨d,h1,rfl⟩:=mpd e;exact hg H₀ H O σ ds hd d _ o h1 λv H' s r=>h _ _ _ ((o.mono s).set r)
def jU(hN:X.N.Nodup)(he:PVf X e f)(hi:X.N[i]?=some x:=by rfl)(hx:Loc X.env.scope x:=by first|exact Or.inl rfl|exact Or.inr rfl)(hs:eC e (some (.Name x pos')) pos.line X.env=pure false:=by rfl)(hf:X.fn x=true\/X.env.scope.names.lookup x=some .local:=by first|exact .inl rfl|exact .inr rfl):PSv X (.Assign [.Name x pos'] e pos) (setOG i f):=by obtain⟨t,ht,hg⟩:=he;refine⟨_,JH hN hi hx ht hs hf,λH₀ H O σ ds hd out E o e h=>?_⟩;obtain⟨l,h1,rfl⟩:=mpd e;exact hg H₀ H O σ ds hd l _ o h1 λa xs H' s hn he r=>h _ _ _ (o.setO s hn he r)
def qJ(he:PVw X e f):PSv X (.Return (some e) pos) (retG f):=by
 obtain⟨t,ht,hg⟩:=he;refine⟨_,DI ht,λH₀ H O σ ds hd out E o e h=>?_⟩;obtain⟨d,h1,e⟩:=bnd e;simp only[aO,flatR]at e;split at e
 . rename_i hf;cases e;exact hg H₀ H O σ ds hd d _ o h1 λv H' s r=>h _ _ (o.same.trans s) (Rep.flatten (λa z=>Old.mono (o.same.trans s) z) hf r.any) True.intro
 . cases e
def jQ(he:PVf X e f):PSv X (.Return (some e) pos) (retOG f):=by
 obtain⟨t,ht,hg⟩:=he;refine⟨_,DI ht,λH₀ H O σ ds hd out E o e h=>?_⟩;obtain⟨l,h1,e⟩:=bnd e;simp only[aO,flatF]at e;split at e
 . rename_i hf;cases e;refine hg H₀ H O σ ds hd l _ o h1 λa xs H' s hn he r=>h _ _ (o.same.trans s) ⟨a,xs,rfl,o.same.free hn,he,Reps.flatten (λb z=>?_) hf r⟩ True.intro;rcases z with rfl|z
   . exact⟨_,he,rfl⟩
   . exact Old.mono (o.same.trans s) z
 . cases e
def yZ i(hN:X.N[i]?=some x:=by rfl)(hv:Vis X.env.scope x:=by first|exact Or.inl rfl|exact Or.inr (Or.inl rfl)|exact Or.inr (Or.inr rfl))(hd:(x==("__debug__" : Str))=false:=by decide)(hcd:(x==("__classdict__" : Str))=false:=by decide):PSv X (.Return (some (.Name x pos')) pos) (retXG i):=by
 refine⟨_,DI (xC hN hv hd hcd),λH₀ H O σ ds hd out E o e h=>?_⟩;unfold retXG at e;cases hs:ds[i]? with
 |none=>rw[hs]at e;cases e
 |some s=>
   rw[hs]at e;cases s with
   |v d'=>cases e
   |no=>cases e
   |exc _=>cases e
   |exf _ _=>cases e
   |fr _=>cases e
   |ob _ _=>cases e
   |own l=>
     simp only[flatF]at e;split at e
     . rename_i hf;cases e;obtain ⟨a,xs,h1,h2,h3,h4⟩:=o.readO hs;refine ⟨.ref a,h1,h _ _ o.same ⟨a,xs,rfl,o.fresh i l a hs h1,h3,Reps.flatten (λb z=>?_) hf h4⟩ True.intro⟩;rcases z with rfl|z
       . exact⟨_,h3,rfl⟩
       . exact Old.mono o.same z
     . cases e
def psv_put(he:PV X e fe)(hk:PV X ek fk)(hN:X.N[i]?=some x:=by rfl)(hv:Vis X.env.scope x:=by first|exact Or.inl rfl|exact Or.inr (Or.inl rfl)|exact Or.inr (Or.inr rfl))(hd:(x==("__debug__" : Str))=false:=by decide)(hcd:(x==("__classdict__" : Str))=false:=by decide)(ha:∀v,BE (.Subscript (.Name x p1) ek p2) X.env v=(do
    let ov <- gC [v] (bU (.Name x p1) X.env)
    let iv <- gC [v,ov] (bU ek X.env)
    lD p2
    gC [v,ov,iv] (setItem ov iv v)
    release [v,ov,iv] []):=by intro _;rfl)(hs:RH [.Subscript (.Name x p1) ek p2] e pos.line X.env=pure false:=by rfl)(hw:RI [.Subscript (.Name x p1) ek p2] e X.env=pure none:=by rfl)(h1:(fW [.Subscript (.Name x p1) ek p2] X.env).map (·.2)=[BE (.Subscript (.Name x p1) ek p2) X.env]:=by rfl):PSv X (.Assign [.Subscript (.Name x p1) ek p2] e pos) (putG i fk fe):=by
 obtain⟨te,pe,he⟩:=he;obtain⟨tk,pk,hk⟩:=hk;refine⟨_,aBf pe (pg_sub (xC hN hv hd hcd) pk aAb ha) hs hw h1,λH₀ H O σ ds hd out E o e h=>?_⟩;unfold putG at e;cases hsl:ds[i]? with
 |none=>rw[hsl]at e;cases e
 |some s=>
   rw[hsl]at e;cases s with
   |v d'=>cases e
   |no=>cases e
   |exc _=>cases e
   |exf _ _=>cases e
   |fr _=>cases e
   |ob _ _=>cases e
   |own l=>
     obtain⟨d,h1,e⟩:=bnd e;obtain⟨kd,h2,e⟩:=bnd e;cases kd with
     |int n=>obtain⟨j,h3,rfl⟩:=mpd e;refine he H₀ H O σ ds hd d _ o h1 λv H1 s1 r1=>?_;obtain⟨a,xs,q1,q2,q3,q4⟩:=(o.mono s1).readO hsl;refine⟨.ref a,q1,?_⟩;refine hk H₀ H1 O σ ds hd _ _ (o.mono s1) h2 λkv H2 s2 r2=>?_;cases r2;refine⟨a,xs,n,j,rfl,rfl,s2 _ _ q3,by rw[q4.length];exact h3,?_⟩;exact h _ _ _ (((o.mono s1).mono s2).modify hsl q1 ((q4.mono s2).set (r1.mono s2) j))
     |_=>cases e
def yQ(he:PV X e fe)(hN:X.N[i]?=some x:=by rfl)(hv:Vis X.env.scope x:=by first|exact Or.inl rfl|exact Or.inr (Or.inl rfl)|exact Or.inr (Or.inr rfl))(hd:(x==("__debug__" : Str))=false:=by decide)(hcd:(x==("__classdict__" : Str))=false:=by decide)(hfew:((cY p3 (aF [e] X.env)).all (λx=>!x.1)&&(iS p3 (fA [] X.env)).all (λx=>x.1.isSome)
    && decide ([e].length+([]:List oM).length+(if ([]:List oM).isEmpty then 0 else 1)<30))=true:=by rfl)(hline:(p2.endLine==p3.line)=true:=by rfl)(hs:aF [e] X.env=(false,bU e X.env)::aF [] X.env:=by rfl)(hbase:dB (.Name x p1) "append" X.env (bU (.Name x p1) X.env)=bU (.Name x p1) X.env:=by rfl)(hsw:eC (.Call (.Attribute (.Name x p1) "append" p2) [e] [] p3) none pos.line X.env=pure false:=by rfl) :
  PSv X (.Expr (.Call (.Attribute (.Name x p1) "append" p2) [e] [] p3) pos) (appG i fe):=by
 obtain⟨te,pe,he⟩:=he;refine⟨_,wT (TN iB EX EV HK (xC hN hv hd hcd) (jA pe yP hs) hbase hfew hline hs rfl) hsw,λH₀ H O σ ds hd out E o e h=>?_⟩;unfold appG at e;cases hsl:ds[i]? with
 |none=>rw[hsl]at e;cases e
 |some s=>
   rw[hsl]at e;cases s with
   |v d'=>cases e
   |no=>cases e
   |exc _=>cases e
   |exf _ _=>cases e
   |fr _=>cases e
   |ob _ _=>cases e
   |own l=>
     obtain⟨d,h1,e⟩:=bnd e;split at e
     . rename_i hl;cases e;obtain⟨a,xs,q1,q2,q3,q4⟩:=o.readO hsl;refine⟨.ref a,q1,.inl ⟨rfl,xs,SqL.of q3⟩,?_⟩;refine he H₀ H O σ ds hd d _ o h1 λv H1 s1 r1=>?_;refine⟨a,xs,v,rfl,rfl,s1 _ _ q3,by rw[q4.length];exact hl,?_⟩;exact h _ _ _ ((o.mono s1).modify hsl q1 ((q4.mono s1).append (.cons r1 .nil)))
     . cases e
def LF n ds(i:Nat) r t:(args n ds)[i]?≠some (.ob r t):=λe=>by
 unfold args at e;by_cases hi:i<ds.length
 . rw [bA (by simpa using hi),aP]at e;cases h:ds[i]? with
   |none=>rw[h]at e;cases e
   |some d=>rw[h]at e;cases e
 . rw [bZ (by simpa using hi),cP]at e;split at e<;>cases e
def DS{K:Frag}(r:Reps K H jE vs ds):Ok K H H jE (L2.start N vs) (args N.length ds) []:=by
 have hl:=r.length;have no:∀i,IsOwn (args N.length ds) i->False:=λi ⟨l,e⟩=>by
  unfold args at e;by_cases hi:i<ds.length
  . rw [bA (by simpa using hi),aP]at e;cases h:ds[i]? with
    |none=>rw[h]at e;cases e
    |some d=>rw[h]at e;cases e
  . rw [bZ (by simpa using hi),cP]at e;split at e<;>cases e
 refine⟨Same.refl _,λi l a e _=>(no i ⟨l,e⟩).elim,λ_ z=>z.elim,by simp[L2.start,args,hl],λi s e=>?_,λi j a _ hi _ _ _=>no i hi,(λp hp=>nomatch hp),.no (LF _ _)⟩;unfold args at e;unfold L2.start;by_cases hi:i<ds.length
 . rw[bA (by simpa using hi),aP]at e;rw[bA (by simpa[hl]using hi),aP];obtain⟨d,h,rfl⟩:=mpd e;obtain⟨v,h1,h2⟩:=r.get h;rw[h1];exact yO h2
 . rw [bZ (by simpa using hi),cP]at e;split at e
   . cases e;exact jD
   . cases e
def Does(g:FS)(n:Nat)(ds:List D)(r:Ret):Prop:=g (args n ds)=some (.rt r)\/(r=.val .non/\∃ds',g (args n ds)=some (.nx ds'))
def qV{K:Frag}{st:Stmt}(Fn:Fun K x qual st f fd)(S:FnScope N ps (zI st))(hbody:∀cdv A outer s H E,Room k (A.deeper (iW qual (zI st) s.heap.objs.size f cdv))->PSsv (cxOf CX0 P w K mg base N qual (zI st) f cdv A outer s H E).nox (qG st) g)(hg:∀ds r,ds.length=ps.length->F ds=some r->Does g N.length ds r):FnOk P w K mg base CX0 (k+1) f fd ps (spF K ps.length F):=by
 refine Fn.ok S (λvs H Q E h=>h.1) (λcdv A outer s H vs Q E hr h=>?_);obtain⟨hl,ds,r,rv,e,q⟩:=h;obtain⟨t,ht,hf⟩:=hbody cdv A outer s H E hr;refine⟨t,ht,?_⟩;have o:=DS (N:=N) rv;rcases hg ds r (by rw[<-rv.length];exact hl) e with e'|⟨rfl,ds',e'⟩
 . exact hf H H jE _ _ [] _ _ o e' (λv H' s r _=>q v H' s r)
 . exact hf H H jE _ _ [] _ _ o e' (λσ H' O o'=>q .non H' o'.same .non)
end FL
namespace L2
noncomputable def Its(x:Str):It:=⟨λi _=>i<x.cps.size,λi H v H'=>H'=H/\∃c,x.cps[i]?=some c/\v=.str ⟨#[c]⟩,λi _=>i=x.cps.size⟩
def LU{P:bY}{w:cU}{K:aN}{tg:Expr}(x:Str)(t:Tok)(it:aD)(ty:String)(hn:["enumerate","zip","dict_itemiterator","dict_reverseitemiterator","odict_iterator","itertools.zip_longest","itertools.pairwise"].contains ty=false)(Wk:∀A:dP,A.handled=none->Walks P w A it [it] [it] x.cps.size (SignAt x) (λi h=>h.IsStrIter it ty x t i))(hself:∀(A:dP) (i:Nat) (s:aY) (Q:aI->aY->Prop) (E:aI->aY->Prop),s.heap.IsStrIter it ty x t i->Q (.ref it) s->bP (bK P w) A (pyIter (.ref it)) Q E s):Turn P w K tg (Its x) [it] it (λi h=>h.IsStrIter it ty x t i) where
 mem:=by simp
 obj:=λi h st b hb=>by
  have e:b=it:=by simpa using hb
  subst e;obtain⟨o,e,c,d⟩:=st;exact⟨o,e,λv z=>by rw[d]at z;cases z⟩
 keep:=λi h h' st k=>by obtain⟨o,e,r⟩:=st;exact⟨o,k it (by simp) o e,r⟩
 item:=by intro X hP hw hK hc i aC s σ H E I hf st hg;obtain⟨f0,f1,f2,f3,f4,f5⟩:=hf it (by simp);refine(Wk X.A (I.ok.hd hc)).item i s _ _ hg st λv h' tk hv st' kk=>?_;obtain⟨c,u,hc',rfl⟩:=hv;have I1:Inv X aC σ H {s with heap:=h',toks:=tk}:=I.turned (λb o hb e=>kk b o (by simpa using hb) e) f0 f1 f3 f4 f5;obtain⟨o,e,c1,d⟩:=id st';exact⟨_,rfl,HX e c1 d hn ⟨.str ⟨#[c]⟩,H,I1,⟨u,rfl⟩,⟨rfl,c,hc',rfl⟩,st',λb hb=>(hf b hb).1⟩⟩
 done:=by intro X hP hw hK hc i aC s σ H E I hf st hg;obtain⟨f0,f1,f2,f3,f4,f5⟩:=hf it (by simp);have hg':=hg;subst hg';exact(Wk X.A (I.ok.hd hc)).done s _ _ st λh' tk eb=>⟨rfl,I.turned (λb o hb e=>eb b o (by simpa using hb) e) f0 f1 f3 f4 f5⟩
 self:=hself
def iStr(tl:TE):TI:=λσ H R=>tl σ H λx H1=>∃z,x=.str z/\R (Its z) H1
def pi_str(hl:PE X l tl):PI X tg l (iStr tl):=by
 intro aC s σ H R I h;refine thn (hl aC s σ H _ I h) λv s1 zq=>?_;obtain⟨x,H1,I1,r1,q1⟩:=zq;obtain⟨z,e,q⟩:=q1;subst e;obtain⟨t,rfl⟩:=r1;cases ha:z.cps.all (· < 128)
 . refine wpAny_pyIter_wide ha ⟨s1.heap.objs.size,[s1.heap.objs.size],_,_,H1,rfl,I1.kept λb o e=>aJ _ e,LU z t _ "str_iterator" (by decide) (λA hA=>Walks.strWide hA _ z t) (λ_ _ _ _ _ st h=>wpAny_pyIter_striter_wide st h),⟨_,aS _ rfl,rfl,rfl⟩,λb hb=>?_,q⟩;have e:b=s1.heap.objs.size:=by simpa using hb
   subst e;exact I1.fpOk (aT _) (I1.hok.fresh (aT _))
 . refine wpAny_pyIter_ascii ha ⟨s1.heap.objs.size,[s1.heap.objs.size],_,_,H1,rfl,I1.kept λb o e=>aJ _ e,LU z t _ "str_ascii_iterator" (by decide) (λA hA=>Walks.strAscii hA _ z t) (λ_ _ _ _ _ st h=>wpAny_pyIter_striter_ascii st h),⟨_,aS _ rfl,rfl,rfl⟩,λb hb=>?_,q⟩;have e:b=s1.heap.objs.size:=by simpa using hb
   subst e;exact I1.fpOk (aT _) (I1.hok.fresh (aT _))
end L2
namespace FL
def Wlk(K:Frag)(J:It)(p:V×D)(items:List D):Prop:=∀H O,(∀a,O a->∃u:MutHO,H a=some u.1)->Rep K H O p.1 p.2 →
 (∀i d,items[i]?=some d->J.go i H/\∀x H',J.yld i H x H'->Same H H'/\Rep K H' O x d)/\J.stop items.length H
variable(X) in
def PIv(tg iter:Expr)(fi:FA):Prop:=∃wi,PI X tg iter wi/\∀H₀ H O σ ds hd items R,Ok X.K H₀ H O σ ds hd->fi ds=some items →
 (∀J p H',Same H H'->Rep X.K H' O p.1 p.2->Wlk X.K J p items->R J H')->wi σ H R
def ZS{K:Frag}: Wlk K (Itl K a) (.ref a,.lst l) l:=by intro H O _ r;obtain⟨b,xs,e,hs,rs⟩:=WRep.seqL (.inl r);cases e;refine⟨λi d hd=>?_,⟨xs,hs,by rw[rs.length];exact aT _⟩⟩;obtain⟨v,h1,h2⟩:=rs.get hd;refine⟨⟨xs,v,hs,h1⟩,λx H' y=>?_⟩;obtain⟨rfl,y⟩:=y;have:=y xs hs;rw[h1]at this;cases this;exact⟨Same.refl _,h2⟩
def wlk_tup{K:Frag}: Wlk K (Itt K a) (.ref a,.tup l) l:=by intro H O _ r;obtain⟨b,xs,e,hs,rs⟩:=WRep.seqT (.inl r);cases e;refine⟨λi d hd=>?_,⟨xs,hs,by rw[rs.length];exact aT _⟩⟩;obtain⟨v,h1,h2⟩:=rs.get hd;refine⟨⟨xs,v,hs,h1⟩,λx H' y=>?_⟩;obtain⟨rfl,y⟩:=y;have:=y xs hs;rw[h1]at this;cases this;exact⟨Same.refl _,h2⟩
def VO{K:Frag}{lo:Int}: Wlk K (Itr lo n) (.non,.non) (fT lo n):=by
 intro H O _ r;have hl:(fT lo n).length=n:=by simp[fT]
 refine⟨λi d hd=>?_,show n<=_ by rw[hl];exact aT _⟩;have hi:i<n:=by have:=(aV.mp hd).1;rwa [hl]at this
 refine⟨hi,λx H' y=>?_⟩;obtain⟨rfl,rfl⟩:=y;have:d=D.int (lo+(i:Int)):=by simp only[fT,aP,rN hi,bW]at hd;exact(Option.some.inj hd).symm
 subst this;exact⟨Same.refl _,.int _⟩
def wlk_str{K:Frag}: Wlk K (Its x) (.non,.non) (sgns x):=by
 intro H O _ r;have hl:(sgns x).length=x.cps.size:=by simp[sgns]
 refine⟨λi d hd=>?_,show _=x.cps.size from hl⟩;have hi:i<x.cps.size:=by have:=(aV.mp hd).1;rwa [hl]at this
 refine⟨hi,λv H' y=>?_⟩;obtain⟨rfl,c,hc,rfl⟩:=y;have:d=D.str ⟨#[c]⟩:=by simp only[sgns,aP,kP,hc,bW]at hd;exact(Option.some.inj hd).symm
 subst this;exact⟨Same.refl _,.str _⟩
def piv_str(h:PV X e f):PIv X tg e (viaA f asS):=by
 obtain⟨t,ht,hf⟩:=h;refine⟨_,pi_str ht,λH₀ H O σ ds hd items R o e q=>?_⟩;obtain⟨d,h1,e⟩:=bnd e;cases d with
 |str x=>cases e;refine hf H₀ H O σ ds hd _ _ o h1 λv H' s r=>?_;cases r;exact⟨x,rfl,q _ (.non,.non) H' s .non wlk_str⟩
 |_=>cases e
def xH(hm:X.mg "range" = none)(h:PV X e f)(hg:Gl X "range":=by rfl)(hs:aF [e] X.env=[(false,bU e X.env)]:=by rfl):PIv X tg (.Call (.Name "range" p) [e] [] pos) (rng1 f):=by
 obtain⟨t,ht,hf⟩:=h;refine⟨_,WH hg hm (jA ht yP hs) hs,λH₀ H O σ ds hd items R o e q=>?_⟩;obtain⟨d,h1,e⟩:=bnd e;cases d with
 |int j=>
   simp only at e;split at e
   . rename_i hj;cases e;refine hf H₀ H O σ ds hd _ _ o h1 λv H' s r=>?_;cases r;exact⟨j,rfl,hj.1,hj.2,q _ (.non,.non) H' s .non VO⟩
   . cases e
 |_=>cases e
variable(X) in
def PGv(tg:Expr)(ga:D->List Sl->Option (List Sl)):Prop:=∃g,PG X tg g/\∀H₀ H O σ ds hd v d ds' Q,Ok X.K H₀ H O σ ds hd->Rep X.K H O v d->ga d ds=some ds'->(∀σ',Ok X.K H₀ H O σ' ds' hd->Q σ' H)->g v σ H Q
variable(X) in
def PGsv(tgs:List Expr)(ga:List D->List Sl->Option (List Sl)):Prop:=∃g,PGs X tgs g/\∀H₀ H O σ ds hd vs l ds' Q,Ok X.K H₀ H O σ ds hd->Reps X.K H O vs l->ga l ds=some ds'->(∀σ',Ok X.K H₀ H O σ' ds' hd->Q σ' H)->g vs σ H Q
def zN(hN:X.N.Nodup)(hi:X.N[i]?=some x:=by rfl)(hx:Loc X.env.scope x:=by first|exact Or.inl rfl|exact Or.inr rfl)(hf:X.fn x=true\/X.env.scope.names.lookup x=some .local:=by first|exact .inl rfl|exact .inr rfl):PGv X (.Name x pos) (zL i):=
 ⟨_,TJ hN hi hx hf,λH₀ H O σ ds hd v d ds' Q o r e q=>by cases e;exact q _ (o.set r)⟩
def jR:PGsv X [] tgNil:=⟨_,pgs_nil,λH₀ H O σ ds hd vs l ds' Q o r e q=>by
 cases r with
 |nil=>cases e;exact⟨rfl,q _ o⟩
 |cons _ _=>cases e⟩
def zR(h1:PGv X e g)(h2:PGsv X es h)(hs:(fW (e::es) X.env).map (·.2)=BE e X.env::(fW es X.env).map (·.2):=by rfl):PGsv X (e::es) (zM g h):=by
 obtain⟨t,ht,hf⟩:=h1;obtain⟨u,hu,hg⟩:=h2;refine⟨_,aBm ht hu hs,λH₀ H O σ ds hd vs l ds' Q o r e q=>?_⟩;cases r with
 |nil=>cases e
 |cons r1 rr=>rename_i v d vr dr;obtain⟨ds1,h1,e⟩:=bnd e;exact⟨v,vr,rfl,hf H₀ H O σ ds hd v d ds1 _ o r1 h1 λσ' o'=>hg H₀ H O σ' ds1 hd vr dr ds' Q o' rr e q⟩
def yD(hc:X.calm=true)(hh:PGsv X es h)(hn:(fW es X.env).length=n:=by rfl)(hst:(fW es X.env).findIdx? (·.1)=none:=by rfl):PGv X (.Tuple es k pos) (tupG n h):=by
 obtain⟨t,ht,hf⟩:=hh;refine⟨_,pg_tup hc ht hn hst,λH₀ H O σ ds hd v d ds' Q o r e q=>?_⟩;cases d with
 |tup l=>
   simp only[tupG]at e;split at e
   . rename_i hl;obtain⟨a,xs,rfl,hs,rs⟩:=WRep.seqT (.inl r);exact⟨a,xs,rfl,hs,by rw[rs.length];exact hl,hf H₀ H O σ ds hd xs l ds' Q o rs e q⟩
   . cases e
 |_=>cases e
def GV{K:Frag}(h:RetB K H (q::hd) v r):RetB K H hd v r:=by
 cases r with
 |any d=>exact λB hB=>h B (aH _ hB)
 |_=>exact True.intro
def jZ{iter:Expr}(hp:tK (bK X.prog X.w) X.A X.env X.xe)(hc:X.calm=true)(hi:PIv X tg iter fi)(hg:PGv X tg ga)(hb:PSsv X body g)(hs:∀x,dZ iter X.env x=pure x:=by intro _;rfl):PSv X (.For tg iter body [] pos) (forG fi ga g):=by
 obtain⟨wi,pi,hi⟩:=hi;obtain⟨tg',pg,hg⟩:=hg;obtain⟨tb,pb,hb⟩:=hb;refine⟨_,PU hp hc pi pg pb hs,λH₀ H O σ ds hd out E o e h=>?_⟩;obtain⟨items,h1,e⟩:=bnd e;refine hi H₀ H O σ ds hd items _ o h1 λJ p H' s r wk=>?_;refine⟨λi m σ' H'=>i<=items.length/\m=items.length-i/\∃O' ds',Ok X.K H₀ H' O' σ' ds' (HI.rep p.1 p.2::hd)/\qP ga g (items.drop i) ds'=some out,⟨items.length,cR _,rfl,O,ds,(o.mono s).holdMore r,by simpa using e⟩,?_⟩;rintro i m σ1 H1 ⟨hi1,rfl,O1,ds1,o1,e1⟩;obtain⟨go,stop⟩:=wk H1 O1 o1.dom (o1.hold (HI.rep p.1 p.2) aE);by_cases hlt:i<items.length
 . right;have hd0:=aU hlt;obtain ⟨hgo,hy⟩:=go i _ hd0;rw [eA hlt,qP]at e1;refine ⟨hgo,λσ' H'=>i+1<=items.length/\∃ O' ds',Ok X.K H₀ H' O' σ' ds' (HI.rep p.1 p.2::hd)/\qP ga g (items.drop (i+1)) ds'=some out,λσ' H' ⟨q1,q2⟩=>⟨items.length - (i+1),by lia,q1,rfl,q2⟩,λx H2 y=>?_⟩;obtain ⟨s2,r2⟩:=hy x H2 y;obtain ⟨ds2,h2,e1⟩:=bnd e1;obtain ⟨o3,h3,e1⟩:=bnd e1;refine hg H₀ H2 O1 σ1 ds1 (HI.rep p.1 p.2::hd) x _ ds2 _ (o1.mono s2) r2 h2 λσ' o'=>?_;refine hb H₀ H2 O1 σ' ds2 (HI.rep p.1 p.2::hd) o3 _ o' h3 ?_;cases o3 with
   |nx ds3=>exact λσ3 H3 O3 ok3=>⟨hlt,O3,ds3,ok3,e1⟩
   |ct ds3=>exact λσ3 H3 O3 ok3=>⟨hlt,O3,ds3,ok3,e1⟩
   |bk ds3=>cases e1;exact λσ3 H3 O3 ok3=>h σ3 H3 O3 ok3.holdLess
   |rt rr=>cases e1;exact λv H s r b=>h v H s r (GV b)
 . left;have ei:i=items.length:=by lia
   subst ei;rw[lA,qP]at e1;cases e1;exact⟨stop,h σ1 H1 O1 o1.holdLess⟩
variable(X) in
def PFv(ifs:List Expr)(c:FT):Prop:=∃t,PF X ifs t/\∀H₀ H O σ ds hd b Q,Ok X.K H₀ H O σ ds hd->c ds=some b->(∀H',Same H H'->Q b H')->t σ H Q
def wD:PFv X [] (λ_=>some true):=⟨_,aBn,λ_ H _ _ _ _ _ _ _ e q=>by cases e;exact q H (Same.refl _)⟩
def TK(h:PTv X c fc):PFv X [c] fc:=by obtain⟨t,ht,hf⟩:=h;exact⟨_,pf_one ht,hf⟩
def Ok.inner{K:Frag}(o:Ok K H₀ H O σ ds hd) mp:Ok K H₀ H O (gR mp σ) (qY mp ds) hd:=by
 have no:∀{i:Nat}{l:List D},(qY mp ds)[i]?=some (.own l)->False:=λ{i l} e=>by
  unfold qY at e;rw[aP]at e;cases hm:mp[i]? with
  |none=>rw[hm]at e;cases e
  |some m=>
    rw[hm]at e;simp only[bW,Option.some.injEq]at e;cases m with
    |none=>cases e
    |some j=>simp only at e;split at e<;>cases e
 refine⟨o.same,λi l a e _=>(no e).elim,o.dom,by simp[gR,qY],λi s e=>?_,λi j a hij hi hj e1 e2=>?_,o.hold,.no λi r t e=>by
  unfold qY at e;rw[aP]at e;cases hm:mp[i]? with
  |none=>rw[hm]at e;cases e
  |some m=>
    rw[hm]at e;simp only[bW,Option.some.injEq]at e;cases m with
    |none=>cases e
    |some j=>
      simp only at e
      split at e<;>cases e⟩
 . unfold qY at e;unfold gR;rw [aP]at e ⊢;cases hm:mp[i]? with
   |none=>rw[hm]at e;cases e
   |some m=>
     rw[hm]at e;simp only[bW,Option.some.injEq]at e;cases m with
     |none=>simp only at e;subst e;exact jD
     |some j=>
       simp only at e;cases hj:ds[j]? with
       |none=>rw[hj]at e;subst e;exact jD
       |some s'=>
         rw[hj]at e;cases s' with
         |no=>subst e;exact jD
         |exc _=>subst e;exact jD
         |exf _ _=>subst e;exact jD
         |fr _=>subst e;exact jD
         |ob _ _=>subst e;exact jD
         |own l=>subst e;exact jD
         |v d=>simp only at e;subst e;obtain⟨v,h1,h2⟩:=o.read hj;simp only[bW,aO,h1,tL];exact yO h2
 . obtain ⟨l,e⟩:=hi;unfold qY at e;rw [aP]at e;cases hm:mp[i]? with
   |none=>rw[hm]at e;cases e
   |some m=>
     rw[hm]at e;simp only[bW,Option.some.injEq]at e;cases m with
     |none=>cases e
     |some j=>
       simp only at e;cases hj:ds[j]? with
       |none=>rw[hj]at e;cases e
       |some s'=>rw[hj]at e;cases s'<;>cases e
def aEd(hi:∀H₀ H O σ ds hd items R,Ok X.K H₀ H O σ ds hd->fi ds=some items->(∀J p H',Same H H'->Rep X.K H' O p.1 p.2->Wlk X.K J p items->R J H')->wi σ H R)(hg:∀c H₀ H O σ ds hd v d ds' Q,Ok X.K H₀ H O σ ds hd->Rep X.K H O v d->ga d ds=some ds'->(∀σ',Ok X.K H₀ H O σ' ds' hd->Q σ' H)->g c v σ H Q)(ht:∀c H₀ H O σ ds hd b Q,Ok X.K H₀ H O σ ds hd->tt ds=some b->(∀H',Same H H'->Q b H')->t1 c σ H Q)(he:∀c H₀ H O σ ds hd d Q,Ok X.K H₀ H O σ ds hd->fe ds=some d->(∀v H',Same H H'->Rep X.K H' O v d->Q v H')->t2 c σ H Q) :
  ∀H₀ H O σ ds hd l Q,Ok X.K H₀ H O σ ds hd->compG fi mp ga tt fe ds=some l →
   (∀a xs H',Same H H'->H a=none->H' a=some (.lst xs)->Reps X.K H' (ins1 a O) xs l->Q (.ref a) H')->tComp wi mp g t1 t2 σ H Q:=by
 intro H₀ H O σ ds hd l Q o e q;obtain⟨items,h1,e⟩:=bnd e;split at e
 . rename_i hsz;refine hi H₀ H O σ ds hd items _ o h1 λJ p H1 s1 r1 wk=>λc=>?_;have oI:=((o.mono s1).holdMore (p:=HI.rep p.1 p.2) r1).inner mp
   refine⟨λi m ys H2=>i<=items.length/\m=items.length-i/\Same H1 H2/\ys.length<=i/\∃l' rest,Reps X.K H2 O ys l'/\compL ga tt fe (qY mp ds) (items.drop i)=some rest/\l=l'++rest,
    ⟨items.length,cR _,rfl,Same.refl _,aT _,[],l,.nil,by simpa using e,rfl⟩,?_⟩
   rintro i m ys H2 ⟨hi1,rfl,s2,hy,l',rest,ry,er,el⟩;have o2:=oI.mono s2;obtain⟨go,stop⟩:=wk H2 O o2.dom (o2.hold (HI.rep p.1 p.2) aE);by_cases hlt:i<items.length
   . right;have hd0:=aU hlt;obtain ⟨hgo,hyl⟩:=go i _ hd0;refine ⟨hgo,by lia,λx H3 y=>?_⟩;obtain ⟨s3,r3⟩:=hyl x H3 y;rw [eA hlt,compL]at er;obtain ⟨ds1,h2,er⟩:=bnd er;refine hg c H₀ H3 O _ _ (HI.rep p.1 p.2::hd) x _ ds1 _ (o2.mono s3) r3 h2 λσ' o3=>?_;obtain ⟨b,h3,er⟩:=bnd er;refine ht c H₀ H3 O σ' ds1 (HI.rep p.1 p.2::hd) b _ o3 h3 λH4 s4=>?_;cases b with
     |false=>refine iteF ⟨items.length-(i+1),by lia,hlt,rfl,(s2.trans s3).trans s4,ZN hy,l',rest,(ry.mono s3).mono s4,by simpa using er,el⟩
     |true=>
       obtain⟨yd,h4,er⟩:=bnd er;cases h5:compL ga tt fe (qY mp ds) (items.drop (i+1))with
       |none=>rw[h5]at er;cases er
       |some rest'=>rw[h5]at er;cases er;refine he c H₀ H4 O σ' ds1 (HI.rep p.1 p.2::hd) yd _ (o3.mono s4) h4 λv H5 s5 r5=>?_;refine⟨items.length-(i+1),by lia,hlt,rfl,((s2.trans s3).trans s4).trans s5,by simp;lia,l'++[yd],rest',(((ry.mono s3).mono s4).mono s5).append (.cons r5 .nil),h5,?_⟩;rw[el];simp
   . left;have ei:i=items.length:=by lia
     subst ei;rw[lA,compL]at er;cases er;rw[cO]at el;subst el;refine⟨stop,by lia,λa ha=>?_⟩;refine q a ys _ ((s1.trans s2).trans (qF ha _)) ((s1.trans s2).free ha) zO ?_;exact(ry.more ha).mono (qF ha _)
 . cases e
def yR{iter:Expr}(S:CompScope X scope NY mp)(hc:X.calm=true)(hi:PIv X tg iter fi)(hg:∀c,PGv (jY X scope NY c) tg ga)(ht:∀c,PFv (jY X scope NY c) ifs tt)(he:∀c,PV (jY X scope NY c) elt fe)(hs:∀x,dZ iter X.env x=pure x:=by intro _;rfl):PVf X (.ListComp elt [⟨tg,iter,ifs,0⟩] scope pos) (compG fi mp ga tt fe):=by obtain⟨wi,pi,hi⟩:=hi;refine⟨_,JK S hc pi (λc=>(Classical.choose_spec (hg c)).1) (λc=>(Classical.choose_spec (ht c)).1) (λc=>(Classical.choose_spec (he c)).1) hs,?_⟩;exact aEd hi (λc=>(Classical.choose_spec (hg c)).2) (λc=>(Classical.choose_spec (ht c)).2) (λc=>(Classical.choose_spec (he c)).2)
end FL
namespace L2
inductive TyV(K:aN)(H:Hp):V->aI->Prop where
 |of {x:V}{t:aI} (h:TyOf K H x t):TyV K H x t
 |lstK {a:aD}{o:Obj} (h:K.lookup a=some o) (c:o.cls=.type "list"):TyV K H (.ref a) (.type "list")
 |tupK {a:aD}{o:Obj} (h:K.lookup a=some o) (c:o.cls=.type "tuple"):TyV K H (.ref a) (.type "tuple")
 |tupF {a:aD}{o:Obj}{xs:List V} (h:H a=some (.frz o (.tup xs))):TyV K H (.ref a) (.type "tuple")
noncomputable def clsV:V->aI->Prop
 |.ty n,u=>u=.type n
 |.ref a,u=>u=.ref a
 |_,_=>False
def aEh:CallR X (.builtin "isinstance") (λxs H Q=>∃x c cv t b,xs=[x,c]/\clsV c cv/\TyV X.K H x t/\BG X.K t cv=some b/\Q (.bl b) H):=by
 intro aC s σ H xs us Q I r h;obtain⟨x,c,cv,t,b,rfl,hc,ty,e,q⟩:=h;obtain⟨u,u2,rfl,ru,ru2⟩:=vals2 r;have e2:u2=cv:=by
  cases c with
  |ty n=>cases(hc);cases(ru2);rfl
  |ref a=>cases(hc);cases(ru2);rfl
  |_=>exact(hc).elim
 subst e2;have fin:∀tk,EP X aC σ Q (.bool b) {s with toks:=tk}:=λtk=>⟨.bl b,H,I.tok tk,rfl,q⟩
 cases ty with
 |of h=>exact XH I ru h e fin
 |@lstK a o h c=>cases(ru);exact cK sA I.kIn ⟨o,I.kIn _ _ h,c⟩ e (λz=>nomatch z) fin
 |@tupK a o h c=>cases(ru);exact cK pX I.kIn ⟨o,I.kIn _ _ h,c⟩ e (λz=>nomatch z) fin
 |@tupF a o xs ea=>
   cases(ru);obtain⟨e0,_,_,_,p⟩:=(I.hok a _ ea)
   obtain⟨o',h1,h2,_⟩:=p;exact cK pX I.kIn ⟨o',h1,h2⟩ e (λz=>nomatch z) fin
theorem OB:∀{bs:List Bool}{us:List aI},Vals (bs.map V.bl) us->LSm.BoolsAre us bs
 |[],_,.nil=>.nil
 |b::r,_,.cons h t=>by cases(show _=aI.bool b from h);exact .cons b (OB t)
def YK(hc:X.calm=true):CallR X (.builtin "all") (λxs H Q=>∃(p:aD) (bs:List Bool),xs=[.ref p]/\SqL X.K H p (bs.map V.bl)/\Q (.bl (bs.all id)) H):=by
 intro aC s σ H xs us Q I r h;obtain⟨p,bs,rfl,hq,q⟩:=h;obtain⟨u,rfl,ru⟩:=vals1 r;cases ru;obtain⟨its,rv,pl,hz⟩:=I.list hq;have hlt:p<s.heap.objs.size:=by obtain⟨_,e,_⟩:=pl.isList;exact aW e
 have hb:=OB rv;refine call_all_walk (ER pl.isList ?_)
 refine⟨s.heap.objs.size,[s.heap.objs.size,p],[s.heap.objs.size],its.toArray.size,_,_,λi=>(bs[i]?).getD true,rfl,Walks.list (A:=X.A.in1) (I.ok.hd hc) _ p (bM hlt) its.toArray,
  ⟨⟨_,aS _ rfl,rfl,rfl⟩,pl.isList.push _⟩,λi v s' Q' E' hP hQ=>?_,λh' tk hk=>?_⟩
 . obtain⟨b,e,rfl⟩:=hb.get i v (by simpa using hP);simp[e,Option.getD_some]at hQ;exact fU hQ
 . have e:((List.range its.toArray.size).all λi=>(bs[i]?).getD true)=bs.all id:=by
    rw[aX,hb.length];exact LSm.range_all bs
   rw[e];exact⟨.bl _,H,I.kept (LSm.kept_iter hk),rfl,q⟩
theorem BJ:∀{ts:List Str}{us:List aI},Vals (ts.map V.str) us->ET us ts
 |[],_,.nil=>.nil
 |b::r,_,.cons h t=>by
   obtain⟨tk,rfl⟩:=(show ∃tk,_=aI.str b tk from h)
   exact .cons b tk (BJ t)
def rJoin(K:aN):V->List V->Hp->VK->Prop:=λx vs H Q=>∃(z:Str) (p:aD) (ts:List Str),x=.str z/\vs=[.ref p]/\SqL K H p (ts.map V.str)/\z.length<=16/\(ts.map (·.length)).sum+ts.length<=1048576/\Q (.str (Txt.join z ts)) H
def mt_join:MtR X "str.join" (rJoin X.K):=by
 intro aC s σ H x vs v us Q I rx rv h;obtain⟨z,p,ts,rfl,rfl,hq,hz,hw,q⟩:=h;obtain⟨tk,rfl⟩:=(rx)
 obtain⟨u,rfl,ru⟩:=rv.one;cases ru;obtain⟨its,rv,pl,hl⟩:=I.list hq;exact join_listW pl.isList (by simpa using BJ rv) hz hw λt' k=>⟨.str _,H,I.tok k,⟨t',rfl⟩,q⟩
end L2
namespace FL
noncomputable def kitO(t T:String):Option Bool:=if ((aI.type t)==(aI.type T))=true then some true else if PySem.W.kitMeta T=true then (fastBuiltinMro t).map (·.contains (.type T))else none
def kit_all:∀t∈kitN,∀T∈kitT,kitO t T=some (t==T||(t=="bool"&&T=="int")):=by decide +kernel
def kit_of{K:Frag}(h:kitF t T=some b):BG K (.type t) (.type T)=some b:=by
 unfold kitF at h;split at h
 . rename_i hm;cases h;exact kit_all t hm.1 T hm.2
 . cases h
def ty_of{K:Frag}(r:WRep K H O v d)(e:tyD d=some t):TyV K H v (.type t):=by
 rcases r with r|⟨a,xs,l,rfl,rfl,ho,h,rs⟩
 . cases r with
   |non=>cases e;exact .of .non
   |bl b=>cases e;exact .of (.bl b)
   |int i=>cases e;exact .of (.int i)
   |str x=>cases e;exact .of (.str x)
   |tup n h r=>
     cases e;rcases h with h|⟨o,h⟩
     . exact .of (.tup h)
     . exact .tupF h
   |tupK h r=>cases e;obtain⟨o,its,m,hk,hc,_⟩:=h;exact .tupK hk hc
   |lst n h r=>
     cases e;rcases h with h|⟨o,h⟩
     . exact .of (.lst h)
     . exact .of (.frz h)
   |lstK h r=>cases e;obtain⟨o,its,m,hk,hc,_⟩:=h;exact .lstK hk hc
   |dct n h e' r=>cases e;exact .of (.dK h)
   |dcf n h e' r=>cases e
   |ins c n h e' r=>cases e
   |clo tx h e' nd c r=>cases e
   |fnK h=>cases e
 . cases e;exact .of (.lst h)
def aAq(hm:X.mg "isinstance" = none)(hT:X.mg x=none)(hv:eZ x=some (.type T))(he:PVw X e f)(hg:Gl X "isinstance":=by rfl)(hgT:Gl X x:=by rfl)(h1:aF [e,.Name x pT] X.env=(false,bU e X.env)::aF [.Name x pT] X.env:=by rfl)(h2:aF [.Name x pT] X.env=(false,bU (.Name x pT) X.env)::aF [] X.env:=by rfl)(h3:(cY pos (aF [.Name x pT] X.env)).any (·.1)=false:=by rfl)(hn:x≠"__name__":=by decide)(hd:(x==("__debug__" : Str))=false:=by decide):PV X (.Call (.Name "isinstance" p) [e,.Name x pT] [] pos) (isiG T f):=by obtain⟨t,ht,hf⟩:=he;refine⟨_,sS aEh hg hm (by decide +kernel) (jA ht (jA (pe_bltn (v:=.ty T) hgT hT hv rfl hn hd) yP h2) h1) (by decide) (by decide) h1 h3,λH₀ H O σ ds hd d Q o e q=>?_⟩;obtain⟨dx,hh,e⟩:=bnd e;obtain⟨t,ht,e⟩:=bnd e;obtain⟨b,hk,rfl⟩:=mpd e;refine hf H₀ H O σ ds hd dx _ o hh λv H' s r=>?_;exact⟨v,.ty T,.type T,.type t,b,rfl,rfl,ty_of r ht,kit_of hk,q _ H' s (.bl b)⟩
theorem VC{K:Frag}:∀{xs:List V}{l:List D}{bs:List Bool},Reps K H O xs l->blsD l=some bs->xs=bs.map V.bl
 |_,_,_,.nil,e=>by cases e;rfl
 |_,_,bs,.cons (d:=d) h t,e=>by
   cases d with
   |bl b=>rename_i ds;simp only[blsD]at e;obtain⟨r,hr,rfl⟩:=mpd e;cases h;rw[VC t hr];rfl
   |_=>cases e
def cs_all:CallS X (λxs H Q=>∃(p:aD) (bs:List Bool),xs=[.ref p]/\SqL X.K H p (bs.map V.bl)/\Q (.bl (bs.all id)) H) allD:=by
 intro H O vs l d Q ho r e q;unfold allD at e;split at e
 . obtain ⟨bs,hb,rfl⟩:=mpd e;cases r with
   |cons r rn=>cases rn;obtain⟨a,xs,rfl,hs,rs⟩:=r.seqL;refine⟨a,bs,rfl,?_,q _ H (Same.refl _) (.bl _)⟩;rw[<-VC rs hb];exact hs
 . cases e
def PP(hc:X.calm=true)(hm:X.mg "all" = none)(ha:PAv X [e] g)(hg:Gl X "all":=by rfl)(he:aF [e] X.env=[(false,bU e X.env)]:=by rfl) :
  PV X (.Call (.Name "all" p) [e] [] pos) (callB allD g):=vX (YK hc) cs_all hm (by decide +kernel) ha hg (by decide) (by decide) he rfl
theorem vY{K:Frag}:∀{xs:List V}{l:List D}{bs:List Str},Reps K H O xs l->strsD l=some bs->xs=bs.map V.str
 |_,_,_,.nil,e=>by cases e;rfl
 |_,_,bs,.cons (d:=d) h t,e=>by
   cases d with
   |str b=>rename_i ds;simp only[strsD]at e;obtain⟨r,hr,rfl⟩:=mpd e;cases h;rw[vY t hr];rfl
   |_=>cases e
def pv_join(ho:PVw X o f)(he:PVw X e g)(hbase:dB o "join" X.env (bU o X.env)=bU o X.env:=by rfl)(hfew:((cY cpos (aF [e] X.env)).all (λx=>!x.1)&&(iS cpos (fA [] X.env)).all (λx=>x.1.isSome)
    && decide ([e].length+([]:List oM).length+(if ([]:List oM).isEmpty then 0 else 1)<30))=true:=by rfl)(hline:(apos.endLine==cpos.line)=true:=by rfl)(hs:aF [e] X.env=(false,bU e X.env)::aF [] X.env:=by rfl) :
  PV X (.Call (.Attribute o "join" apos) [e] [] cpos) (zH joinD f g):=by
 obtain⟨to,po,ho⟩:=ho;obtain⟨te,pe,he⟩:=he;refine⟨_,TN PySem.F.plainAttrs_str PySem.F.slot_str_join PySem.F.type_str_join mt_join po (jA pe yP hs) hbase hfew hline hs rfl,λH₀ H O σ ds hd d Q o e q=>?_⟩;obtain⟨dx,h1,e⟩:=bnd e;obtain⟨dy,h2,e⟩:=bnd e;cases dx with
 |str z=>
   cases dy with
   |lst l=>
     obtain⟨ts,h3,e⟩:=bnd e;split at e
     . rename_i hc;cases e;refine ho H₀ H O σ ds hd _ _ o h1 λx H1 s1 r1=>?_;rw[r1.str'];refine⟨rfl,?_⟩;refine he H₀ H1 O σ ds hd _ _ (o.mono s1) h2 λy H2 s2 r2=>?_;obtain⟨a,xs,rfl,hs,rs⟩:=r2.seqL;refine⟨z,a,ts,rfl,rfl,?_,hc.1,hc.2,q _ H2 (s1.trans s2) (.str _)⟩;rw[<-vY rs h3];exact hs
     . cases e
   |_=>simp[joinD]at e
 |_=>simp[joinD]at e
def JB(ha:PV X a f):PV X (.UnaryOp .USub a pos) (un1 negD f):=by
 obtain⟨ta,pa,ha⟩:=ha;refine⟨_,pe_un un_neg pa,λH₀ H O σ ds hd d Q o e q=>?_⟩;obtain⟨dx,h1,e⟩:=bnd e;cases dx with
 |int i=>cases e;refine ha H₀ H O σ ds hd _ _ o h1 λx H1 s1 r1=>?_;cases r1;exact⟨i,rfl,q _ H1 s1 (.int _)⟩
 |_=>cases e
def os_inS:OpS X (λx y H Q=>∃i j,x=.str i/\y=.str j/\Q (.bl (!(Builtin.Str.occurrences j i 0 j.length 1).isEmpty)) H) inS:=by
 intro H O x y dx dy d Q ho rx ry e q;cases dx<;>cases dy<;>first|(simp[inS]at e;done)|skip
 cases e;rw[rx.str',ry.str'];exact⟨_,_,rfl,rfl,q _ H (Same.refl _) (.bl _)⟩
variable(X) in
def PVd(e:Expr)(f:FE):Prop:=∃t,PE X e t/\∀H₀ H O σ ds hd d Q,Ok X.K H₀ H O σ ds hd->f ds=some d->(∀v H',Same H H'->Rep X.K H' (Old H) v d->Q v H')->t σ H Q
noncomputable def aEe(sc scope:Scope)(N NY:List Str)(mp:List (Option Nat)):Bool:=
 scope.kind==.function&&scope.names.all (λy=>y.2 != .cell)&&scope.names.all (λy=>y.2 != .local||scope.names.lookup y.1==some .local)
 && scope.names.all (λy=>y.2 != .free||(sc.names.lookup y.1==some .cell||sc.names.lookup y.1==some .free))&&mp.length==NY.length
 && (List.range NY.length).all (λi=>match NY[i]?,mp[i]? with|some x,some (some j)=>N[j]?==some x&&scope.names.lookup x==some .free|_,_=>true)
def jC(h:aEe X.env.scope scope X.N NY mp=true):CompScope X scope NY mp:=by
 unfold aEe at h;simp only[bJ,eE,beq_iff_eq]at h;obtain⟨⟨⟨⟨⟨h1,h2⟩,h3⟩,h4⟩,h5⟩,h6⟩:=h;refine⟨h1,λy hy=>by simpa using h2 y hy,λy hy hk=>?_,λy hy hk=>?_,h5,λi x j e1 e2=>?_⟩
 . have:=h3 y hy;simpa[hk]using this
 . have:=h4 y hy;simp[hk,bne_self_eq_false,nK,Bool.or_eq_true,beq_iff_eq]at this;exact this
 . have hi:i∈List.range NY.length:=FC.mpr (aV.mp e1).1;have:=h6 i hi;rw[e1,e2]at this;simpa using this
def zY(e:runG g n ds=some r):Does g n ds r:=by
 unfold runG at e;cases h:g (args n ds)with
 |none=>rw[h]at e;cases e
 |some o=>
   rw[h]at e;cases o with
   |rt r'=>cases e;exact .inl h
   |nx ds'=>cases e;exact .inr ⟨rfl,ds',h⟩
   |bk ds'=>cases e
   |ct ds'=>cases e
end FL
namespace L2
def op_mulB:OpR X (lE .Mult) (rI eB λi j=>.int (i*j)):=opI λ_ _ _ _ _ _ _ hc q=>mul_int q hc
def op_powB:OpR X (lE .Pow) (rI FL.CPowB λi j=>.int (i^j.toNat)):=opI λ_ _ _ _ _ _ _ hc q=>pow_int hc.1 hc.2 q
noncomputable def rCatS(K:aN):R2:=λx y H Q=>∃l b xs zs,x=.ref l/\y=.ref b/\SqL K H l xs/\SqL K H b zs/\xs.length+zs.length<=sizeLine/\∀p,H p=none->Q (.ref p) (upd H p (.lst (xs++zs)))
def op_catS:OpR X (lE .Add) (rCatS X.K):=by
 intro aC s σ H x y v u Q I rx ry h;obtain⟨l,b,xs,zs,rfl,rfl,hH,hB,hz,q⟩:=h;cases rx;cases ry;obtain⟨its,r,pl,z⟩:=I.list hH;obtain⟨its2,r2,pl2,z2⟩:=I.list hB;obtain⟨⟨cls,dd,data,sl⟩,ho,hc,n,hd⟩:=pl.isList;obtain⟨⟨cls2,dd2,data2,sl2⟩,ho2,hc2,n2,hd2⟩:=pl2.isList;subst hc hd hc2 hd2;have hl:=r.length;have hl2:=r2.length;refine concat_meets ⟨_,ho,rfl⟩ ⟨_,ho2,rfl⟩ noFill_list_add seq_list_add PySem.F.slot_list_add PySem.F.entry_list_add (PySem.F.args_list_add_2 _ _) (list_addW l b its.toArray its2.toArray n n2 dd dd2 sl sl2 (by simp[aX];lia)) ⟨ho,ho2,?_⟩;have ea:its.toArray++its2.toArray=(its++its2).toArray:=by simp
 rw[ea];exact⟨.ref _,_,I.lnew (r.append r2) (by rw[bS];lia),rfl,q _ I.fresh⟩
end L2
namespace FL
variable(X) in
def PVn(e:Expr)(f:FE):Prop:=∃t,PE X e t/\∀H₀ H O σ ds hd d Q,Ok X.K H₀ H O σ ds hd->f ds=some d->(∀v H',Same H H'->Rep X.K H' jE v d->Q v H')->t σ H Q
variable(X) in
def PAn(es:List Expr)(f:FA):Prop:=∃t,PA X es t/\∀H₀ H O σ ds hd l Q,Ok X.K H₀ H O σ ds hd->f ds=some l->(∀vs H',Same H H'->Reps X.K H' jE vs l->Q vs H')->t σ H Q
def PVw.n(h:PVw X e f):PVn X e f:=by obtain⟨t,ht,hf⟩:=h;exact⟨t,ht,λH₀ H O σ ds hd d Q o e q=>hf H₀ H O σ ds hd d Q o e λv H' s r=>q v H' s r.any⟩
theorem PV.n(h:PV X e f):PVn X e f:=h.w.n
def zQ:PAn X [] zS:=⟨_,yP,λ_ H _ _ _ _ _ _ _ e q=>by cases e;exact q _ H (Same.refl _) .nil⟩
def zG(ha:PVn X e f)(hr:PAn X es g)(hs:aF (e::es) X.env=(false,bU e X.env)::aF es X.env:=by rfl):PAn X (e::es) (zA f g):=by obtain⟨t,ht,hf⟩:=ha;obtain⟨u,hu,hg⟩:=hr;refine⟨_,jA ht hu hs,λH₀ H O σ ds hd l Q o e q=>?_⟩;obtain⟨x,h,e⟩:=bnd e;obtain⟨r,h2,rfl⟩:=mpd e;refine hf H₀ H O σ ds hd x _ o h λv H1 s1 r1=>?_;refine hg H₀ H1 O σ ds hd r _ (o.mono s1) h2 λvs H2 s2 r2=>?_;exact q _ H2 (s1.trans s2) (.cons (r1.mono s2) r2)
def aAs(Fn:FnOk X.prog X.w X.K X.mg X.base CX0 k f fd ps (spF X.K n F))(hr:Room k X.A)(hm:X.mg x=some (.ref f))(hk:bO X.K (.ref f)=true)(hb:Binds X.K fd ps [])(ha:PAn X (e::es) g)(hg:Gl X x:=by rfl)(hdb:(x==("__debug__" : Str))=false:=by decide)(he:aF (e::es) X.env=(false,bU e X.env)::aF es X.env:=by rfl)(hpl:(cY pos (aF es X.env)).any (·.1)=false:=by rfl) :
  PV X (.Call (.Name x p) (e::es) [] pos) (qZ n F g):=by
 obtain⟨t,ht,hf⟩:=ha;refine⟨_,sT Fn hr hg hm hk hb .nil pass0 ht hdb he hpl,λH₀ H O σ ds hd d Q o e q=>?_⟩;obtain⟨l,h,e⟩:=bnd e;split at e
 . rename_i hln;obtain⟨r,h2,e⟩:=bnd e;refine hf H₀ H O σ ds hd l _ o h λvs H1 s1 r1=>?_;have hl:=r1.length;refine⟨by simp[cO];lia,l,r,by simpa using r1,h2,λv H' s' ro=>q v H' (s1.trans s') ?_⟩;exact sP ro e λa ha=>(o.mono s1).old ha
 . cases e
def WB(Fn:FnOk X.prog X.w X.K X.mg X.base CX0 k f fd ps (spF X.K n F))(hr:Room k X.A)(hm:X.mg x=some (.ref f))(hk:bO X.K (.ref f)=true)(hb:Binds X.K fd ps [])(ha:PAn X (e::es) g)(hg:Gl X x:=by rfl)(hdb:(x==("__debug__" : Str))=false:=by decide)(he:aF (e::es) X.env=(false,bU e X.env)::aF es X.env:=by rfl)(hpl:(cY pos (aF es X.env)).any (·.1)=false:=by rfl) :
  PVf X (.Call (.Name x p) (e::es) [] pos) (yY n F g):=by
 obtain⟨t,ht,hf⟩:=ha;refine⟨_,sT Fn hr hg hm hk hb .nil pass0 ht hdb he hpl,λH₀ H O σ ds hd d Q o e q=>?_⟩;obtain⟨l,h,e⟩:=bnd e;split at e
 . rename_i hln;obtain⟨r,h2,e⟩:=bnd e;refine hf H₀ H O σ ds hd l _ o h λvs H1 s1 r1=>?_;have hl:=r1.length;refine⟨by simp[cO];lia,l,r,by simpa using r1,h2,λv H' s' ro=>?_⟩;obtain⟨a,xs,rfl,h3,h4,h5⟩:=BK ro e λa ha=>(o.mono s1).old ha;exact q a xs H' (s1.trans s') (s1.free h3) h4 h5
 . cases e
def OpN(X:Cx)(r:R2)(op:D->D->Option D):Prop:=∀H O x y dx dy d Q,Rep X.K H jE x dx->Rep X.K H jE y dy->op dx dy=some d->(∀v H',Same H H'->Rep X.K H' O v d->Q v H')->r x y H Q
def SI(hs:OpN X r op)(ha:∀H₀ H O σ ds hd d Q,Ok X.K H₀ H O σ ds hd->fa ds=some d->(∀v H',Same H H'->Rep X.K H' jE v d->Q v H')->ta σ H Q)(hb:∀H₀ H O σ ds hd d Q,Ok X.K H₀ H O σ ds hd->fb ds=some d->(∀v H',Same H H'->Rep X.K H' jE v d->Q v H')->tb σ H Q) :
  ∀H₀ H O σ ds hd d Q,Ok X.K H₀ H O σ ds hd->zH op fa fb ds=some d->(∀v H',Same H H'->Rep X.K H' O v d->Q v H')->tOp r ta tb σ H Q:=by
 intro H₀ H O σ ds hd d Q o e q;obtain⟨dx,h1,e⟩:=bnd e;obtain⟨dy,h2,e⟩:=bnd e;refine ha H₀ H O σ ds hd dx _ o h1 λx H1 s1 r1=>?_;refine hb H₀ H1 O σ ds hd dy _ (o.mono s1) h2 λy H2 s2 r2=>?_;exact hs H2 O x y dx dy d Q (r1.mono s2) r2 e λv H' s r=>q v H' ((s1.trans s2).trans s) r
def JD(ho:OpR X (dS op) r)(hs:OpN X r opD)(ha:PVn X a fa)(hb:PVn X b fb)(hm:dH op b=false):PV X (.Compare a [op] [b] pos) (zH opD fa fb):=by obtain⟨ta,pa,ha⟩:=ha;obtain⟨tb,pb,hb⟩:=hb;exact⟨_,TM ho pa pb hm,SI hs ha hb⟩
def vI(ho:OpR X (dS op) r)(hs:OpN X r opD)(ha:PVn X a fa)(hb:PVn X b fb)(hm:dH op b=false):PTv X (.Compare a [op] [b] pos) (qC (zH opD fa fb)):=by
 obtain⟨ta,pa,ha⟩:=ha;obtain⟨tb,pb,hb⟩:=hb;refine⟨_,SW ho pa pb hm,λH₀ H O σ ds hd k Q o e q=>?_⟩;obtain⟨d,h,e⟩:=bnd e;refine SI hs ha hb H₀ H O σ ds hd d _ o h λv H' s r=>?_;cases d with
 |bl c=>cases e;cases r;exact⟨_,rfl,q H' s⟩
 |_=>cases e
mutual
theorem Rep.reads{aC:List (aD×Obj)}{σ:L2.St}{H:Hp}{s:aY}{O:aD->Prop}(I:Inv X aC σ H s):∀{v:V}{d:D},Rep X.K H O v d->∀{u:aI}{n:Nat},RelV v u->shal n d=true->∃as,Reads s.heap u (toPy d) as/\(toPy d).canLay0=true/\(toPy d).depth<=n+1
 |_,_,.non=>λr _=>by cases r;exact⟨[],.none,rfl,cR _⟩
 |_,_,.bl b=>λr _=>by cases r;exact⟨[],.bool b,rfl,cR _⟩
 |_,_,.int i=>λr _=>by obtain⟨t,rfl⟩:=r;exact⟨[],.int i t,rfl,cR _⟩
 |_,_,.str x=>λr h=>by obtain⟨t,rfl⟩:=r;exact⟨[],.str x t,by simpa[toPy,PyData.canLay0,shal]using h,cR _⟩
 |_,_,.tup m h q=>λr hs=>by cases r;obtain⟨its,rv,⟨o,ho,hc,k,hd⟩,hz⟩:=I.tuple (.inl h);obtain⟨as,h1,h2,h3⟩:=Reps.reads I q rv (by simpa[shal]using hs);exact⟨as,.tuple ho hc hd (by simpa using h1),by simpa[toPy,PyData.canLay0]using h2,by simpa[toPy,PyData.depth]using h3⟩
 |_,_,.tupK h q=>λr hs=>by cases r;obtain⟨its,rv,⟨o,ho,hc,k,hd⟩,hz⟩:=I.tuple (.inr h);obtain⟨as,h1,h2,h3⟩:=Reps.reads I q rv (by simpa[shal]using hs);exact⟨as,.tuple ho hc hd (by simpa using h1),by simpa[toPy,PyData.canLay0]using h2,by simpa[toPy,PyData.depth]using h3⟩
 |_,_,.lst m h q=>λr hs=>by cases r;obtain⟨its,rv,pl,hz⟩:=I.list (.inl h);obtain⟨o,ho,hc,k,hd⟩:=pl.isList;obtain⟨as,h1,h2,h3⟩:=Reps.reads I q rv (by simpa[shal]using hs);exact⟨_,.list ho hc hd (by simpa using h1),by simpa[toPy,PyData.canLay0]using h2,by simpa[toPy,PyData.depth]using h3⟩
 |_,_,.lstK h q=>λr hs=>by cases r;obtain⟨its,rv,pl,hz⟩:=I.list (.inr h);obtain⟨o,ho,hc,k,hd⟩:=pl.isList;obtain⟨as,h1,h2,h3⟩:=Reps.reads I q rv (by simpa[shal]using hs);exact⟨_,.list ho hc hd (by simpa using h1),by simpa[toPy,PyData.canLay0]using h2,by simpa[toPy,PyData.depth]using h3⟩
 |_,_,.dct _ _ _ _=>λ_ hs=>by simp[shal]at hs
 |_,_,.dcf _ _ _ _=>λ_ hs=>by simp[shal]at hs
 |_,_,.ins _ _ _ _ _=>λ_ hs=>by simp[shal]at hs
 |_,_,.clo _ _ _ _ _ _=>λ_ hs=>by simp[shal]at hs
 |_,_,.fnK _=>λ_ hs=>by simp[shal]at hs
theorem Reps.reads{aC:List (aD×Obj)}{σ:L2.St}{H:Hp}{s:aY}{O:aD->Prop}(I:Inv X aC σ H s):∀{vs:List V}{ds:List D},Reps X.K H O vs ds->∀{us:List aI}{n:Nat},Vals vs us->shals n ds=true->∃as,ReadsAll s.heap us (toPys ds) as/\PyData.canLayAll0 (toPys ds)=true/\PyData.depthAll (toPys ds)<=n
 |_,_,.nil=>λr _=>by cases r;exact⟨[],.nil,rfl,cR _⟩
 |_,_,.cons h t=>λr hs=>by
   rename Nat=>n
   cases n with
   |zero=>simp[shals]at hs
   |succ n =>
    cases r with
    |cons r1 r2=>simp only[shals,bJ]at hs;obtain⟨as,h1,h2,h3⟩:=Rep.reads I h r1 hs.1;obtain⟨bs,k1,k2,k3⟩:=Reps.reads I t r2 hs.2;exact⟨_,.cons h1 k1,by simp[toPys,PyData.canLayAll0,h2,k2],by simp only[toPys,PyData.depthAll];omega⟩
end
noncomputable def rEqD(X:Cx)(neg:Bool):R2:=λx y H Q=>∃dx dy,Rep X.K H jE x dx/\Rep X.K H jE y dy/\shal 40 dx=true/\shal 40 dy=true/\Q (.bl (if neg then !eqvD dx dy else eqvD dx dy)) H
def aCc(hu:X.A.units+100<cLine):OpR X (dS .Eq) (rEqD X false):=by intro aC s σ H x y v u Q I rx ry h;obtain⟨dx,dy,r1,r2,s1,s2,q⟩:=h;obtain⟨as,a1,a2,a3⟩:=r1.reads I rx s1;obtain⟨bs,b1,b2,b3⟩:=r2.reads I ry s2;exact SeqAt.compareEq_reads a1 b1 a2 b2 (by lia) ⟨.bl _,H,I,rfl,q⟩
def op_neD(hu:X.A.units+100<cLine):OpR X (dS .NotEq) (rEqD X true):=by intro aC s σ H x y v u Q I rx ry h;obtain⟨dx,dy,r1,r2,s1,s2,q⟩:=h;obtain⟨as,a1,a2,a3⟩:=r1.reads I rx s1;obtain⟨bs,b1,b2,b3⟩:=r2.reads I ry s2;exact SeqAt.compareNe_reads a1 b1 a2 b2 (by lia) ⟨.bl _,H,I,rfl,q⟩
def aCe:OpN X (rEqD X false) eqD:=by
 intro H O x y dx dy d Q rx ry e q;unfold eqD at e;split at e
 . rename_i hs;cases e;exact⟨dx,dy,rx,ry,hs.1,hs.2,q _ H (Same.refl _) (.bl _)⟩
 . cases e
def on_neD:OpN X (rEqD X true) neD:=by
 intro H O x y dx dy d Q rx ry e q;unfold neD at e;split at e
 . rename_i hs;cases e;exact⟨dx,dy,rx,ry,hs.1,hs.2,q _ H (Same.refl _) (.bl _)⟩
 . cases e
def hu100(hr:Room k A):A.units+100<cLine:=by have:=hr.un;lia
def GY(hr:Room k X.A)(ha:PVn X a fa)(hb:PVn X b fb):PV X (.Compare a [.Eq] [b] pos) (zH eqD fa fb):=JD (aCc (hu100 hr)) aCe ha hb (lM _)
def vL(hr:Room k X.A)(ha:PVn X a fa)(hb:PVn X b fb):PTv X (.Compare a [.Eq] [b] pos) (qC (zH eqD fa fb)):=vI (aCc (hu100 hr)) aCe ha hb (lM _)
def HB(hr:Room k X.A)(ha:PVn X a fa)(hb:PVn X b fb):PTv X (.Compare a [.NotEq] [b] pos) (qC (zH neD fa fb)):=vI (op_neD (hu100 hr)) on_neD ha hb (lM _)
def TY{K:Frag}{H:Hp}{O:aD->Prop}{v:V}(r:Rep K H O v d):decide (v=.non)=(match d with|.non=>true|_=>false):=by cases r<;>rfl
def on_is:OpN X (λx y H Q=>y=.non/\Q (.bl (decide (x=.non))) H) isD:=by
 intro H O x y dx dy d Q rx ry e q;cases dy<;>first|(cases dx<;>simp[isD]at e;done)|skip
 cases ry;refine⟨rfl,?_⟩;rw[TY rx];cases dx<;>(simp[isD,Option.some.injEq]at e;subst e;exact q _ H (Same.refl _) (.bl _))
def aCd:OpN X (λx y H Q=>y=.non/\Q (.bl (!decide (x=.non))) H) notD:=by
 intro H O x y dx dy d Q rx ry e q;cases dy<;>first|(cases dx<;>simp[notD]at e;done)|skip
 cases ry;refine⟨rfl,?_⟩;rw[TY rx];cases dx<;>(simp[notD,Option.some.injEq]at e;subst e;exact q _ H (Same.refl _) (.bl _))
def SN(ha:PVn X a fa)(hb:PVn X b fb):PV X (.Compare a [.Is] [b] pos) (zH isD fa fb):=JD aCa on_is ha hb (lM _)
def MC(ha:PVn X a fa)(hb:PVn X b fb):PV X (.Compare a [.IsNot] [b] pos) (zH notD fa fb):=JD TV aCd ha hb (lM _)
def pI(ha:PVn X a fa)(hb:PVn X b fb):PTv X (.Compare a [.Is] [b] pos) (qC (zH isD fa fb)):=vI aCa on_is ha hb (lM _)
def wM(ha:PVn X a fa)(hb:PVn X b fb):PTv X (.Compare a [.IsNot] [b] pos) (qC (zH notD fa fb)):=vI TV aCd ha hb (lM _)
def CQ{K:Frag}(r:Rep K H O v d)(h:sclD d=true):flatV v=true:=by cases r<;>first|rfl|(simp[sclD]at h;done)
def scl_eq{K:Frag}(r:Rep K H O v d)(h:sclD d=true)(r':Rep K H O' v' d')(h':sclD d'=true):eqV v v'=eqvD d d':=by
 cases r<;>first|(simp[sclD]at h;done)|skip
 all_goals (cases r'<;>first|(simp[sclD]at h';done)|rfl)
theorem IV{K:Frag}(rx:Rep K H O' x dx)(hx:sclD dx=true):∀{xs:List V}{l:List D},Reps K H O xs l->l.all sclD=true->xs.all flatV=true/\inV x xs=l.any λz=>eqvD z dx
 |_,_,.nil,_=>⟨rfl,rfl⟩
 |_,_,.cons r t,h=>by rw[nJ,bJ]at h;obtain⟨h1,h2⟩:=IV rx hx t h.2;refine⟨by rw[nJ,CQ r h.1,h1];rfl,?_⟩;unfold inV at h2 ⊢;rw[iC,iC,h2,scl_eq r h.1 rx hx]
def on_in:OpN X (rIn X.K neg) (inD neg):=by
 intro H O x y dx dy d Q rx ry e q;obtain⟨l,hl,e⟩:=bnd e;split at e
 . rename_i hs;cases e;cases dy with
   |lst l'=>cases hl;obtain⟨a,xs,rfl,hq,rs⟩:=WRep.seqL (.inl ry);obtain⟨h1,h2⟩:=IV rx hs.1 rs hs.2;refine⟨a,xs,rfl,.inl hq,CQ rx hs.1,h1,?_⟩;rw[h2];exact q _ H (Same.refl _) (.bl _)
   |tup l'=>cases hl;obtain⟨a,xs,rfl,hq,rs⟩:=WRep.seqT (.inl ry);obtain⟨h1,h2⟩:=IV rx hs.1 rs hs.2;refine⟨a,xs,rfl,.inr hq,CQ rx hs.1,h1,?_⟩;rw[h2];exact q _ H (Same.refl _) (.bl _)
   |_=>cases hl
 . cases e
def pt_in(ha:PVn X a fa)(hb:PVn X b fb)(hm:dH .In b=false:=by rfl):PTv X (.Compare a [.In] [b] pos) (qC (zH (inD false) fa fb)):=vI WM on_in ha hb hm
def aAy(ha:PVn X a fa)(hb:PVn X b fb)(hm:dH .NotIn b=false:=by rfl):PTv X (.Compare a [.NotIn] [b] pos) (qC (zH (inD true) fa fb)):=vI JL on_in ha hb hm
def os_mul:OpS X (rI eB λi j=>.int (i*j)) xF:=by
 intro H O x y dx dy d Q ho rx ry e q;cases dx<;>cases dy<;>first|(simp[xF]at e;done)|skip
 simp only[xF]at e;split at e
 . rename_i hc;cases e;rw[rx.int',ry.int'];exact⟨_,_,rfl,rfl,hc,q _ H (Same.refl _) (.int _)⟩
 . cases e
def os_pow:OpS X (rI CPowB λi j=>.int (i^j.toNat)) powD:=by
 intro H O x y dx dy d Q ho rx ry e q;cases dx<;>cases dy<;>first|(simp[powD]at e;done)|skip
 simp only[powD]at e;split at e
 . rename_i hc;cases e;rw[rx.int',ry.int'];exact⟨_,_,rfl,rfl,hc,q _ H (Same.refl _) (.int _)⟩
 . cases e
def pvf_cat(ha:PVw X a fa)(hb:PVw X b fb):PVf X (.BinOp a .Add b pos) (catA fa fb):=by
 obtain⟨ta,pa,ha⟩:=ha;obtain⟨tb,pb,hb⟩:=hb;refine⟨_,pe_op op_catS pa pb,λH₀ H O σ ds hd l Q o e q=>?_⟩;obtain⟨dx,h1,e⟩:=bnd e;obtain⟨dy,h2,e⟩:=bnd e;cases dx<;>cases dy<;>first|(simp at e;done)|skip
 simp only at e;split at e
 . rename_i hz;cases e;refine ha H₀ H O σ ds hd _ _ o h1 λx H1 s1 r1=>?_;refine hb H₀ H1 O σ ds hd _ _ (o.mono s1) h2 λy H2 s2 r2=>?_;obtain⟨a1,xs,rfl,hq1,rs1⟩:=(r1.mono s2).seqL;obtain⟨a2,ys,rfl,hq2,rs2⟩:=r2.seqL;refine⟨a1,a2,xs,ys,rfl,rfl,hq1,hq2,by rw[rs1.length,rs2.length];exact hz,λp hp=>?_⟩;refine q p _ _ ((s1.trans s2).trans (qF hp _)) ((s1.trans s2).free hp) zO ?_;exact((rs1.append rs2).more hp).mono (qF hp _)
 . cases e
variable(X) in
def POv(e:Option Expr)(f:List Sl->Option (Option Int)):Prop:=∃t,PO X e t/\∀H₀ H O σ ds hd i Q,Ok X.K H₀ H O σ ds hd->f ds=some i->(∀H',Same H H'->Q i H')->t σ H Q
def pov_no:POv X none noP:=⟨_,po_none,λ_ H _ _ _ _ _ _ _ e q=>by cases e;exact q H (Same.refl _)⟩
def rP(h:PVw X e f):POv X (some e) (soP f):=by
 obtain⟨t,ht,hf⟩:=h;refine⟨_,po_some ht,λH₀ H O σ ds hd i Q o e q=>?_⟩;obtain⟨d,h1,e⟩:=bnd e;cases d<;>first|(cases e;done)|skip
 cases e;refine hf H₀ H O σ ds hd _ _ o h1 λv H' s r=>?_;rw[r.int'];exact⟨_,rfl,q H' s⟩
def aEb{K:Frag}(rs:Reps K H O xs l):Reps K H O (cutV xs a b) (cutD l a b):=by unfold cutV cutD;rw[rs.length];exact(rs.drop _).take _
def vD{lo hi:Option Expr}(he:PVw X e f)(hl:POv X lo gl)(hh:POv X hi gh):PVf X (.Subscript e (.Slice lo hi none p2) pos) (sliA f gl gh):=by
 obtain⟨te,pe,he⟩:=he;obtain⟨tl,pl,hl⟩:=hl;obtain⟨th,ph,hh⟩:=hh;refine⟨_,aBq sl_list pe pl ph,λH₀ H O σ ds hd l Q o e q=>?_⟩;obtain⟨d,h1,e⟩:=bnd e;obtain⟨a,h2,e⟩:=bnd e;obtain⟨b,h3,e⟩:=bnd e;cases d<;>first|(cases e;done)|skip
 cases e;refine he H₀ H O σ ds hd _ _ o h1 λv H1 s1 r1=>?_;refine hl H₀ H1 O σ ds hd _ _ (o.mono s1) h2 λH2 s2=>?_;refine hh H₀ H2 O σ ds hd _ _ ((o.mono s1).mono s2) h3 λH3 s3=>?_;obtain⟨a1,xs,rfl,hq,rs⟩:=((r1.mono s2).mono s3).seqL;refine⟨a1,xs,rfl,hq,λp hp=>?_⟩;have ss:=(s1.trans s2).trans s3;refine q p _ _ (ss.trans (qF hp _)) (ss.free hp) zO ?_;exact((aEb rs).more hp).mono (qF hp _)
def xA(hm:X.mg "list" = none)(he:PVw X e f)(hg:Gl X "list":=by rfl)(hs:aF [e] X.env=[(false,bU e X.env)]:=by rfl):PVf X (.Call (.Name "list" p) [e] [] pos) (lisA f):=by
 obtain⟨te,pe,he⟩:=he;refine⟨_,tY KW hg hm (by decide +kernel) (jA pe yP hs) (by decide) (by decide) hs rfl,λH₀ H O σ ds hd l Q o e q=>?_⟩;obtain⟨d,h1,e⟩:=bnd e;refine he H₀ H O σ ds hd _ _ o h1 λv H1 s1 r1=>?_;cases d<;>first|(cases e;done)|skip
 . cases e;obtain⟨a1,xs,rfl,hq,rs⟩:=r1.seqT;refine⟨a1,xs,rfl,.inr hq,λp hp=>?_⟩;exact q p _ _ (s1.trans (qF hp _)) (s1.free hp) zO ((rs.more hp).mono (qF hp _))
 . cases e;obtain⟨a1,xs,rfl,hq,rs⟩:=r1.seqL;refine⟨a1,xs,rfl,.inl hq,λp hp=>?_⟩;exact q p _ _ (s1.trans (qF hp _)) (s1.free hp) zO ((rs.more hp).mono (qF hp _))
def cs_max:CallS X (λxs H Q=>∃i j,xs=[.int i,.int j]/\Q (.int (if j>i then j else i)) H) mxD:=by
 intro H O vs l d Q ho r e q;unfold mxD at e;split at e
 . cases e;cases r with
   |cons r1 rn=>
     cases rn with
     |cons r2 rm=>cases rm;exact⟨_,_,by rw[r1.int',r2.int'],q _ H (Same.refl _) (.int _)⟩
 . cases e
def cs_min:CallS X (λxs H Q=>∃i j,xs=[.int i,.int j]/\Q (.int (if j<i then j else i)) H) mnD:=by
 intro H O vs l d Q ho r e q;unfold mnD at e;split at e
 . cases e;cases r with
   |cons r1 rn=>
     cases rn with
     |cons r2 rm=>cases rm;exact⟨_,_,by rw[r1.int',r2.int'],q _ H (Same.refl _) (.int _)⟩
 . cases e
def JC(hc:X.calm=true)(hm:X.mg "max" = none)(ha:PAv X [a,b] g)(hg:Gl X "max":=by rfl)(he:aF [a,b] X.env=(false,bU a X.env)::aF [b] X.env:=by rfl)(hpl:(cY pos (aF [b] X.env)).any (·.1)=false:=by rfl) :
  PV X (.Call (.Name "max" p) [a,b] [] pos) (callB mxD g):=vX (YG hc) cs_max hm (by decide +kernel) ha hg (by decide) (by decide) he hpl
def SM(hc:X.calm=true)(hm:X.mg "min" = none)(ha:PAv X [a,b] g)(hg:Gl X "min":=by rfl)(he:aF [a,b] X.env=(false,bU a X.env)::aF [b] X.env:=by rfl)(hpl:(cY pos (aF [b] X.env)).any (·.1)=false:=by rfl) :
  PV X (.Call (.Name "min" p) [a,b] [] pos) (callB mnD g):=vX (YF hc) cs_min hm (by decide +kernel) ha hg (by decide) (by decide) he hpl
def AL{α β:Type}{xs:List α}{ys:List β}(h:xs.length=ys.length):xs.isEmpty=ys.isEmpty:=by cases xs<;>cases ys<;>simp_all
theorem PVn.t(h:PVn X e f)(he:∀whole,FV e X.env whole=(do let v <- whole;lD e.pos;gC [v] (truthy v)):=by intro _;rfl):PTv X e (testT f):=by
 obtain⟨t,ht,hf⟩:=h;refine⟨_,aAx ht he,λH₀ H O σ ds hd k Q o e q=>?_⟩;unfold testT at e;obtain⟨d,h,e⟩:=bnd e;refine hf H₀ H O σ ds hd d _ o h λv H' s r=>⟨k,?_,q H' s⟩
 cases d with
 |non=>cases e;cases r;exact rfl
 |bl b=>cases e;cases r;exact rfl
 |int i=>cases e;cases r;exact rfl
 |str x=>
   simp only[truD]at e;split at e
   . rename_i hz;cases e;cases r;exact⟨hz,rfl⟩
   . cases e
 |tup l=>cases e;obtain⟨a,xs,rfl,hq,rs⟩:=WRep.seqT (.inl r);exact .inr (.inl ⟨xs,hq,by rw[AL rs.length]⟩)
 |lst l=>cases e;obtain⟨a,xs,rfl,hq,rs⟩:=WRep.seqL (.inl r);exact .inl ⟨xs,hq,by rw[AL rs.length]⟩
 |_=>cases e
def xX{st:Stmt}: PSv X st (λ_=>none):=⟨_,aBe,λ_ _ _ _ _ _ _ _ _ e _=>by cases e⟩
def psv_rel i{st:Stmt}(h:PSv X st g):PSv X st (λds=>g (relS i ds)):=by
 obtain⟨t,ht,hf⟩:=h;refine⟨t,ht,λH₀ H O σ ds hd out E o e q=>?_⟩;have e:g (relS i ds)=some out:=e;by_cases hs:∃l,ds[i]?=some (.own l)
 . obtain ⟨l,hl⟩:=hs;have e':relS i ds=ds.set i (.v (.lst l)):=by unfold relS;rw [hl]
   rw[e']at e;obtain⟨O',o'⟩:=o.release hl;exact hf H₀ H O' σ _ hd out E o' e q
 . have e':relS i ds=ds:=by
    unfold relS;split
    . rename_i l hl;exact(hs ⟨l,hl⟩).elim
    . rfl
   rw[e']at e;exact hf H₀ H O σ ds hd out E o e q
def WE n(hp:tK (bK X.prog X.w) X.A X.env X.xe)(hc:PTv X c fc)(hb:PSsv X body g):PSv X (.While c body [] pos) (nD fc g n):=by
 obtain⟨tc,pc,hc⟩:=hc;obtain⟨tb,pb,hb⟩:=hb;refine⟨_,aBd hp pc pb,λH₀ H O σ ds hd out E o e h=>?_⟩;refine⟨λm σ' H'=>∃O' ds',Ok X.K H₀ H' O' σ' ds' hd/\nD fc g m ds'=some out,⟨n,O,ds,o,e⟩,?_⟩;rintro m σ1 H1 ⟨O1,ds1,o1,e1⟩;cases m with
 |zero=>cases e1
 |succ m=>
   simp only[nD]at e1;obtain⟨k,h1,e1⟩:=bnd e1;refine hc H₀ H1 O1 σ1 ds1 hd k _ o1 h1 λH2 s2=>?_;cases k with
   |false=>simp only[sF,if_false,Option.some.injEq]at e1;subst e1;exact iteF (h σ1 H2 O1 (o1.mono s2))
   |true=>
     simp only[if_true]at e1;refine iteT ⟨λσ' H'=>∃O' ds',Ok X.K H₀ H' O' σ' ds' hd/\nD fc g m ds'=some out,λσ' H' q=>⟨m,lF _,q⟩,?_⟩;obtain⟨o3,h2,e1⟩:=bnd e1;refine hb H₀ H2 O1 σ1 ds1 hd o3 _ (o1.mono s2) h2 ?_;cases o3 with
     |nx ds3=>exact λσ3 H3 O3 ok3=>⟨O3,ds3,ok3,e1⟩
     |ct ds3=>exact λσ3 H3 O3 ok3=>⟨O3,ds3,ok3,e1⟩
     |bk ds3=>cases e1;exact λσ3 H3 O3 ok3=>h σ3 H3 O3 ok3
     |rt rr=>cases e1;exact h
def TB(he:PV X e f)(hg:PGv X tg ga)(hs:RH [tg] e pos.line X.env=pure false:=by rfl)(hw:RI [tg] e X.env=pure none:=by rfl)(h1:(fW [tg] X.env).map (·.2)=[BE tg X.env]:=by rfl):PSv X (.Assign [tg] e pos) (asgG ga f):=by
 obtain⟨te,pe,he⟩:=he;obtain⟨tg',pg,hg⟩:=hg;refine⟨_,aBf pe pg hs hw h1,λH₀ H O σ ds hd out E o e h=>?_⟩;obtain⟨d,h2,e⟩:=bnd e;cases h3:ga d ds with
 |none=>rw[h3]at e;cases e
 |some ds'=>rw[h3]at e;cases e;refine he H₀ H O σ ds hd d _ o h2 λv H1 s1 r1=>?_;exact hg H₀ H1 O σ ds hd v d ds' _ (o.mono s1) r1 h3 λσ' o'=>h σ' H1 O o'
def SX(he:PVf X e fe)(hN:X.N[i]?=some x:=by rfl)(hv:Vis X.env.scope x:=by first|exact Or.inl rfl|exact Or.inr (Or.inl rfl)|exact Or.inr (Or.inr rfl))(hd:(x==("__debug__" : Str))=false:=by decide)(hcd:(x==("__classdict__" : Str))=false:=by decide)(hfew:((cY p3 (aF [e] X.env)).all (λx=>!x.1)&&(iS p3 (fA [] X.env)).all (λx=>x.1.isSome)
    && decide ([e].length+([]:List oM).length+(if ([]:List oM).isEmpty then 0 else 1)<30))=true:=by rfl)(hline:(p2.endLine==p3.line)=true:=by rfl)(hs:aF [e] X.env=(false,bU e X.env)::aF [] X.env:=by rfl)(hbase:dB (.Name x p1) "extend" X.env (bU (.Name x p1) X.env)=bU (.Name x p1) X.env:=by rfl)(hsw:eC (.Call (.Attribute (.Name x p1) "extend" p2) [e] [] p3) none pos.line X.env=pure false:=by rfl) :
  PSv X (.Expr (.Call (.Attribute (.Name x p1) "extend" p2) [e] [] p3) pos) (extG i fe):=by
 obtain⟨te,pe,he⟩:=he;refine⟨_,wT (TN iB PySem.F.slot_list_extend PySem.F.type_list_extend WY (xC hN hv hd hcd) (jA pe yP hs) hbase hfew hline hs rfl) hsw,λH₀ H O σ ds hd out E o e h=>?_⟩;unfold extG at e;cases hsl:ds[i]? with
 |none=>rw[hsl]at e;cases e
 |some s=>
   rw[hsl]at e;cases s with
   |v d'=>cases e
   |no=>cases e
   |exc _=>cases e
   |exf _ _=>cases e
   |fr _=>cases e
   |ob _ _=>cases e
   |own l=>
     obtain⟨d,h1,e⟩:=bnd e;split at e
     . rename_i hl;cases e;obtain⟨a,xs,q1,q2,q3,q4⟩:=o.readO hsl;refine⟨.ref a,q1,.inl ⟨rfl,xs,SqL.of q3⟩,?_⟩;refine he H₀ H O σ ds hd d _ o h1 λb ys H1 s1 hn hb r1=>?_;refine⟨a,b,xs,ys,rfl,rfl,s1 _ _ q3,hb,by rw[q4.length,r1.length];exact hl,?_⟩;exact h _ _ _ ((o.mono s1).modify hsl q1 ((q4.mono s1).append (r1.less λa z=>.inr z)))
     . cases e
end FL
namespace L2
end L2
namespace Att
open PySem.W PySem.Calls
theorem AS:∀{ns:List Int}{b:Nat},WData.weightAll (ns.map WData.int)<=b->∀c∈ns,Builtin.Int.intBits c<=b
 |[],_,_=>λc hc=>by cases hc
 |n::r,b,h=>λc hc=>by
   simp only[aK,WData.weightAll,WData.weight]at h;rcases aA.mp hc with rfl|hc
   . unfold Builtin.Int.intBits;omega
   . exact AS (ns:=r) (b:=b) (by omega) c hc
def attach_callB{l:OpenLaw}(hn:l.most=some n)(hdf:d.params.defaults=[])(call:∀w s₀ s₁ mg mb fa o pm cd doc a vs ns,
    Ground q loose [] XP w s₀ mg mb s₁.heap->YP w s₁.heap →
    s₁.heap.get? fa=some o->o.data=.func (docDef d.name d.params d.body d.scope pm cd doc)->s₁.heap.CodeRec cd d.name->mg d.name=some (.ref fa) →
    s₁.heap.get? a=some {cls:=.type "list",data:=.seq vs.toArray}->YU vs ns->ns.length<=n->(∀c∈ns,Builtin.Int.intBits c<=1048576)->s₁.gens=#[] →
    gW (bK l.prog w) ES (.call (.ref fa) ⟨[.ref a],[]⟩) (λr s'=>r=.ok (.ret (.bool true))/\OldK s₁.heap s'.heap/\s'.os=s₁.os/\pZ s'.gens) s₁) :
  WalkO q loose XP YP l.row.toRowW d [] (λf vs=>PySem.call f vs):=by
 intro w s₀ s₁ mg mb G Y fa o pm cd doc dV kV ho hd hcd hD hmg hg args vals as hpre hlay hrd hwl hlo;obtain rfl:dV=.none:=Dflts.none hD hdf;obtain rfl:kV=.none:=Dflts.noKw hD;obtain⟨a,vs,ns,rfl,rfl,hobj,hints,hlen⟩:=VX hn hpre hwl;have hb:∀c∈ns,Builtin.Int.intBits c<=1048576:=by have h1:=(layableW_iff.mp (layW_cons hlay).1).2.2;exact AS (cD h1 (by decide))
 refine enter_call (iF (call w s₀ s₁ mg mb fa o pm cd doc a vs ns G Y ho (fd_plain hd) hcd hmg hobj hints hlen hb hg) λr s' hq=>?_);obtain⟨rfl,h2,h3,h4⟩:=hq;exact⟨.inl ⟨.bool true,.bool true,[],rfl,λ_=>rfl,.bool true,WG l _,λ_=>⟨List.Pairwise.nil,λ_ hm=>(nomatch hm)⟩⟩,h2,h3,h4⟩
end Att
namespace FL
noncomputable def PD(K:Frag)(n:Nat):Sp:=λvs H Q _=>∃(a:aD) (ns:List Int),vs=[.ref a]/\SqL K H a (ns.map V.int)/\ns.length<=n/\(∀c∈ns,Builtin.Int.intBits c<=1048576)/\∀H',Q (.bl true) H'
def law_ofB{K:Frag}(Fn:FnOk P w K mg base CX0 k f fd [x] (spF K 1 F))(h:∀ns:List Int,ns.length<=n->(∀c∈ns,Builtin.Int.intBits c<=1048576)->F [.lst (ns.map D.int)]=some (.val (.bl true))):FnOk P w K mg base CX0 k f fd [x] (PD K n):=by
 refine Fn.imp λvs H Q E hq=>?_;obtain⟨a,ns,rfl,hS,hl,hb,q⟩:=hq;refine⟨rfl,[.lst (ns.map D.int)],.val (.bl true),.cons ?_ .nil,h ns hl hb,λv H' s r=>?_⟩
 . rcases hS with hS|hS
   . exact .lst (λz=>z.elim) hS (Reps.ints ns)
   . exact .lstK hS (Reps.ints ns)
 . cases r;exact q H'
open PySem.W (tabIn CodeHd tabObj noTabs tab_of) in
inductive TabL(K:Frag)(q:bY)(ts:List aD):List Str->List (Str×aD×aD)->Prop
 |nil:TabL K q ts [] []
 |yes {x:Str}{xs:List Str}{c P:aD}{tl:List (Str×aD×aD)} (h:tabM K x=some (c,P)) (r:(meths.lookup x=none/\((recsOf q).find? (λe=>e.name==x)).isSome=true)\/(tD K c P=true/\P∈ts)) (ap:(tl.all λp=>p.2.2 != P)=true) (t:TabL K q ts xs tl):TabL K q ts (x::xs) ((x,c,P)::tl)
 |no {x:Str}{xs:List Str}{tl:List (Str×aD×aD)} (h:tabM K x=none) (t:TabL K q ts xs tl):TabL K q ts (x::xs) tl
def tabL_no{K:Frag}(h:aQ K mainGlobals x=some none)(t:TabL K q ts xs tl)(hm:meths.lookup x=none:=by rfl):TabL K q ts (x::xs) tl:=.no (by rw[IQ hm];unfold pO;rw[h]) t
def tabL_noM{K:Frag}(h:aQ K mainGlobals C=some none)(t:TabL K q ts xs tl)(hm:meths.lookup x=some (C,m):=by rfl):TabL K q ts (x::xs) tl:=.no (by unfold tabM fnAt;simp[hm,h]) t
def tabL_yes{K:Frag}(h1:aQ K mainGlobals x=some (some (.ref f)))(h2:K.lookup f=some ⟨oc,od,.func fd,sl⟩)(h3:fd.code=.ref c)(h4:K.lookup c=some ⟨oc',od',.fields vs,sl'⟩)(h5:(vs[11]?:Option aI)=some (.ref P))(r:((recsOf q).find? (λe=>e.name==x)).isSome=true)(t:TabL K q ts xs tl)(ap:(tl.all λp=>p.2.2 != P)=true)(hm:meths.lookup x=none:=by rfl):TabL K q ts (x::xs) ((x,c,P)::tl):=
 .yes (by rw[IQ hm];unfold pO;simp[h1,h2,h3,h4,h5]) (.inl ⟨hm,r⟩) ap t
def tabL_met{K:Frag}(h0:aQ K mainGlobals C=some (some v))(h1:cB K v m=some (some (.ref f)))(h2:K.lookup f=some ⟨oc,od,.func fd,sl⟩)(h3:fd.code=.ref c)(h4:K.lookup c=some ⟨oc',od',.fields vs,sl'⟩)(h5:(vs[11]?:Option aI)=some (.ref P))(r:tD K c P=true)(hp:P∈ts)(t:TabL K q ts xs tl)(ap:(tl.all λp=>p.2.2 != P)=true)(hm:meths.lookup x=some (C,m):=by rfl):TabL K q ts (x::xs) ((x,c,P)::tl):=
 .yes (by unfold tabM fnAt;simp[hm,h0,h1,h2,h3,h4,h5]) (.inr ⟨r,hp⟩) ap t
section
variable{K:Frag}{tl:List (Str×aD×aD)}
def TabL.get(h:TabL K q ts xs tl):∀{x:Str}{c P:aD},x∈xs->tabM K x=some (c,P)->(x,c,P)∈tl:=by
 induction h with
 |nil=>intro x c P hx;cases hx
 |yes h r ap t ih=>
   intro x c P hx ht;rcases aA.mp hx with e|e
   . subst e;rw[h]at ht;cases ht;exact aE
   . exact aH _ (ih e ht)
 |no h t ih=>
   intro x c P hx ht;rcases aA.mp hx with e|e
   . subst e;rw[h]at ht;cases ht
   . exact ih e ht
def TabL.fact(h:TabL K q ts xs tl):∀p∈tl,tabM K p.1=some (p.2.1,p.2.2)/\((meths.lookup p.1=none/\((recsOf q).find? (λe=>e.name==p.1)).isSome=true)\/(tD K p.2.1 p.2.2=true/\p.2.2∈ts)):=by
 induction h with
 |nil=>intro p hp;cases hp
 |yes h r ap t ih=>
   intro p hp;rcases aA.mp hp with e|e
   . subst e;exact⟨h,r⟩
   . exact ih p e
 |no h t ih=>exact ih
noncomputable def tabH(K:Frag)(tl:List (Str×aD×aD)):Hp:=λb=>(tl.find? λp=>p.2.2==b).map λp=>.tbl (lP K p.1)
def BI(e:tabH K tl b=some u):∃p∈tl,b=p.2.2/\u=.tbl (lP K p.1):=by obtain⟨p,h,rfl⟩:=mpd e;exact⟨p,fL h,(beq_iff_eq.mp (lZ (p:=λp:Str×aD×aD=>p.2.2==b) h)).symm,rfl⟩
theorem TabL.at(h:TabL K q ts xs tl):∀p∈tl,tabH K tl p.2.2=some (.tbl (lP K p.1)):=by
 induction h with
 |nil=>intro p hp;cases hp
 |yes h r ap t ih=>
   intro p hp;rename_i x xs c P tl;unfold tabH;rcases aA.mp hp with e|e
   . subst e;simp
   . have:(P==p.2.2)=false:=by
      have:=eE.mp ap p e;simp only[bne_iff_ne,ne_eq]at this;exact beq_eq_false_iff_ne.mpr (Ne.symm this)
     rw[cN,this];exact ih p e
 |no h t ih=>exact ih
end
def no_cls{K:Frag}(X:K.In h)(hK:BF K=true)(e:K.lookup b=some o)(hb:h.get? b=some (mD ps)):False:=by have q:=X b o e;rw[hb]at q;cases q;have h2:=eE.mp hK (b,_) (PySem.W.mem_of_lookupK e);exact absurd (h2) dO
def XE{K:Frag}(KX:K.In s₁.heap)(T:Top q loose mean mg mb s₁.heap)(hts:∀P∈ts,s₁.heap.get? P=some (mD #[]))(hT:TabL K q ts makers tl)(hK:BF K=true)(hg:s₁.gens=#[])(ha:s₁.heap.get? a=some {cls:=.type "list",data:=.seq vs.toArray})(hi:YU vs ns)(hl:ns.length<=sizeLine)(hr:Room k ES)(F:∀base,K.In base->base.Ns mainGlobals mg->FnOk P w K mg base CX0 k fa fd [x] sp)(hbind:∀s u,YX s fd ⟨[u],[]⟩ [(x,u)])(hsp:∀H,SqL K H a (ns.map V.int)->sp [.ref a] H (λv _=>v=.bl true) λ_ _ _=>False) :
  gW (bK P w) ES (.call (.ref fa) ⟨[.ref a],[]⟩) (λr s'=>r=.ok (.ret (.bool true))/\OldK s₁.heap s'.heap/\s'.os=s₁.os/\pZ s'.gens) s₁:=by
 have rv:=GD hi;have tf:∀p∈tl,YQ s₁.heap p.2.1 p.2.2/\s₁.heap.get? p.2.2=some (mD #[]):=λp hp=>by
  obtain⟨h1,h2⟩:=hT.fact p hp;rcases h2 with⟨hm,h2⟩|⟨h2,h3⟩
  . obtain⟨d,hd⟩:=EZ.mp h2;exact PySem.W.tab_of T KX hd ((IQ hm).symm.trans h1)
  . exact⟨PySem.W.codeHd_of_K KX h2,hts _ h3⟩
 have core:∀H:Hp,SqL K H a (ns.map V.int)->L2.HOk P w H s₁.heap->(∀b u,H b=some u->(b=a/\K.lookup a=none/\∃o xs,u=.frz o (.lst xs))\/∃p∈tl,b=p.2.2/\u=.tbl (lP K p.1))->(∀p∈tl,H p.2.2=some (.tbl (lP K p.1))) →
   gW (bK P w) ES (.call (.ref fa) ⟨[.ref a],[]⟩) (λr s'=>r=.ok (.ret (.bool true))/\OldK s₁.heap s'.heap/\s'.os=s₁.os/\pZ s'.gens) s₁:=by
  intro H hS hok hA hP;have free_of:∀{b:aD}{o:Obj},s₁.heap.get? b=some o->(∀its n,o.data≠.seq its n)->o.data≠.fields #[]->H b=none:=λ{b o} e n1 n2=>by
   cases qb:H b with
   |none=>rfl
   |some u=>
     rcases hA b u qb with⟨rfl,_,_⟩|⟨p,hp,rfl,_⟩
     . rw[ha]at e;cases e;exact(n1 _ _ rfl).elim
     . rw[(tf p hp).2]at e;cases e;exact(n2 rfl).elim
  have base_of:∀{b:aD}{o:Obj},s₁.heap.get? b=some o->(∀its n,o.data≠.seq its n)->o.data≠.fields #[]->(hidT s₁.heap H).get? b=some o:=λe n1 n2=>NE e (free_of e n1 n2);have nsK:∀{b:aD}{m:Str->Option aI},s₁.heap.Ns b m->(hidT s₁.heap H).Ns b m:=λ{b m} ⟨o,es,ep,e,d,r⟩=>⟨o,es,ep,base_of e (λ_ _ z=>by rw[d]at z;cases z) (λz=>by rw[d]at z;cases z),d,r⟩
  have hKb:K.In (hidT s₁.heap H):=λb o e=>NE (KX b o e) (by
   cases qb:H b with
   |none=>rfl
   |some u=>
     rcases hA b u qb with⟨rfl,z,_⟩|⟨p,hp,rfl,_⟩
     . rw[z]at e;cases e
     . exact(no_cls KX hK e (tf p hp).2).elim)
  have hM:Mod K mg (hidT s₁.heap H):=⟨hKb,nsK T.g,⟨mb,nsK T.b,T.builtins⟩,let ⟨mc,h1,h2⟩:=T.nolimit;⟨mc,nsK h1,h2⟩⟩
  have hTab:TabsK K mg (hidT s₁.heap H) H:=by
   refine⟨?_,λy c P' hy ht=>?_⟩
   . obtain⟨bm,ob,b1,b2,b3,b4,b5,b6⟩:=T.bmain;exact⟨bm,ob,b1,b2,base_of b3 (λ_ _ z=>by rw[b6]at z;cases z) (λz=>by rw[b6]at z;cases z),b4,b5,b6⟩
   . have hm:=hT.get hy ht;refine⟨?_,hP _ hm⟩;obtain⟨o,ws,file,tf',flags,tg,inF,text,tt,e1,r1,r2,r3,rest⟩:=(tf _ hm).1;refine⟨o,ws,file,tf',flags,tg,inF,text,tt,base_of e1 (λ_ _ z=>by rw[r2]at z;cases z) (λz=>?_),r1,r2,r3,rest⟩;rw[r2]at z;cases z;cases r3
  have e0:Env0 P w K mg (hidT s₁.heap H) ES [] s₁ H:=⟨rfl,hM,λb o e=>of_hidT e,⟨uW (XO _ _),hTab⟩,trivial,λb hb=>absurd (show b∈([]:List aD) from hb) (by simp),hok,.of_eq hg⟩
  refine iF ((F _ hKb (nsK T.g)).run ES [] s₁ H ⟨[.ref a],[]⟩ [.ref a] [.ref a] _ _ hr e0 (hbind s₁ (.ref a)) (.cons rfl .nil) (hsp H hS)) λr s' h=>?_;cases r with
  |error e=>exact False.elim h
  |ok fl=>
    cases fl with
    |next=>exact False.elim h
    |brk=>exact False.elim h
    |cont=>exact False.elim h
    |ret u=>
      obtain⟨v,H',os,bare,un,hok',r',hv⟩:=h;have hv':=hv;subst hv';obtain rfl:u=aI.bool true:=r';refine⟨rfl,⟨λb o e=>?_,λb o e=>un.there b o e (by simp)⟩,os,bare⟩;cases qb:H b with
      |none=>exact .inl (un.keep b o e qb (by intro z;exact absurd (show b∈([]:List aD) from z) (by simp)) (by simp))
      |some u=>
        rcases hA b u qb with⟨_,_,ob,xs,rfl⟩|⟨p,hp,rfl,rfl⟩
        . obtain⟨e1,_⟩:=hok b _ qb;obtain⟨e2,_⟩:=hok' b _ (un.frzs b ob _ qb);rw[e]at e1;cases e1;exact .inl e2
        . have t2:=(tf p hp).2;rw[e]at t2;cases t2;obtain⟨ps,e2,_⟩:=hok' _ _ (un.tbls _ _ qb);exact .inr (.inl ⟨((tf p hp).1.tab (tf p hp).2).isCodeTable,rfl,#[],ps,rfl,by rw[Array.empty_append];exact e2⟩)
 have tabOk:∀(H:Hp) (p:Str×aD×aD),p∈tl->ObjOk P w H s₁.heap p.2.2 (.tbl (lP K p.1)):=λH p hp=>⟨#[],(tf p hp).2,trivial,λpos v z=>by cases z⟩
 cases hk:K.lookup a with
 |some o=>have e:=KX a o hk;rw[ha]at e;cases e;refine core (tabH K tl) (.inr ⟨_,vs.toArray,_,hk,rfl,rfl,rfl,by rw[aX,hi.length];exact hl,by simpa using rv⟩) (λb u z=>?_) (λb u z=>.inr (BI z)) λp hp=>hT.at p hp;obtain⟨p,hp,rfl,rfl⟩:=BI z;exact tabOk _ p hp
 |none=>
   have na:∀p∈tl,p.2.2≠a:=λp hp z=>by have:=(tf p hp).2;rw[z,ha]at this;cases this
   refine core (upd (tabH K tl) a (.frz {cls:=.type "list",data:=.seq vs.toArray} (.lst (ns.map V.int)))) (.inl (.inr ⟨_,zO⟩)) (λb u z=>?_) (λb u z=>?_) λp hp=>by rw[upd_ne (na p hp)];exact hT.at p hp
   . by_cases hb:b=a
     . subst hb;rw[zO]at z;cases z;exact⟨ha,by rw[cA];exact hl,vs,_,rv,ha⟩
     . rw[upd_ne hb]at z;obtain⟨p,hp,rfl,rfl⟩:=BI z;exact tabOk _ p hp
   . by_cases hb:b=a
     . subst hb;rw[zO]at z;cases z;exact .inl ⟨rfl,hk,_,_,rfl⟩
     . rw[upd_ne hb]at z;exact .inr (BI z)
def walkB{l:VL}{K:Params->aN}(hn:l.most=some 63)(hdf:d.params.defaults=[])(hr:Room k ES)(hY:∀w h,YP w h->(K w.params).In h/\∀P∈ts,h.get? P=some (mD #[]))(hK:∀w:cU,BF (K w.params)=true)(hT:∀w:cU,TabL (K w.params) q ts makers tl)(F:∀w mg fa h,(K w.params).In h->h.Ns mainGlobals mg->mg d.name=some (.ref fa) →
    ∃fd,(∀s u,YX s fd ⟨[u],[]⟩ [("_law_script",u)])/\∀base,(K w.params).In base->base.Ns mainGlobals mg->FnOk l.prog w (K w.params) mg base CX0 k fa fd ["_law_script"] (PD (K w.params) 63)) :
  PySem.W.WalkO q loose XP YP l.row.toRowW d [] (λf vs=>PySem.call f vs):=by
 refine Att.attach_callB hn hdf λw s₀ s₁ mg mb fa o pm cd doc a vs ns G Y ho hd hcd hmg hobj hints hlen hb hg=>?_;obtain⟨KX,KT⟩:=hY w _ Y;obtain⟨fd,hbd,hF⟩:=F w mg fa _ KX G.T.g hmg;exact XE KX G.T KT (hT w) (hK w) hg hobj hints (cD hlen (by decide)) hr hF hbd λH hS=>⟨a,ns,rfl,hS,hlen,hb,λ_=>rfl⟩
structure Cal(P:bY)(w:cU)(K:Frag)(mg:Str->Option aI)(base:Heap)(x:Str)(k n:Nat)(F:List D->Option Ret):Prop where
 ex:∃(f:aD) (fd:bE) (ps:List Str),FnOk P w K mg base CX0 k f fd ps (spF K n F)/\Binds K fd ps []/\bO K (.ref f)=true/\mg x=some (.ref f)
def qA(C:Cal X.prog X.w X.K X.mg X.base x k n F)(hr:Room j X.A)(ha:PAn X (e::es) g)(hj:k<=j:=by decide)(hg:Gl X x:=by rfl)(hdb:(x==("__debug__" : Str))=false:=by decide)(he:aF (e::es) X.env=(false,bU e X.env)::aF es X.env:=by rfl)(hpl:(cY pos (aF es X.env)).any (·.1)=false:=by rfl) :
  PV X (.Call (.Name x p) (e::es) [] pos) (qZ n F g):=by
 obtain⟨f,fd,ps,Fn,hb,hk,hm⟩:=C.ex;exact aAs Fn (hr.mono hj) hm hk hb ha hg hdb he hpl
def jW(C:Cal X.prog X.w X.K X.mg X.base x k n F)(hr:Room j X.A)(ha:PAn X (e::es) g)(hj:k<=j:=by decide)(hg:Gl X x:=by rfl)(hdb:(x==("__debug__" : Str))=false:=by decide)(he:aF (e::es) X.env=(false,bU e X.env)::aF es X.env:=by rfl)(hpl:(cY pos (aF es X.env)).any (·.1)=false:=by rfl) :
  PVf X (.Call (.Name x p) (e::es) [] pos) (yY n F g):=by
 obtain⟨f,fd,ps,Fn,hb,hk,hm⟩:=C.ex;exact WB Fn (hr.mono hj) hm hk hb ha hg hdb he hpl
def pv_lt(ha:PVw X a fa)(hb:PVw X b fb):PV X (.Compare a [.Lt] [b] pos) (zH ltD fa fb):=PM op_lt sU ha hb (lM _)
def pv_le(ha:PVw X a fa)(hb:PVw X b fb):PV X (.Compare a [.LtE] [b] pos) (zH leD fa fb):=PM op_le sU ha hb (lM _)
def DH(ha:PVw X a fa)(hb:PVw X b fb):PTv X (.Compare a [.Lt] [b] pos) (qC (zH ltD fa fb)):=JE op_lt sU ha hb (lM _)
def aAz(ha:PVw X a fa)(hb:PVw X b fb):PTv X (.Compare a [.Gt] [b] pos) (qC (zH gtD fa fb)):=JE op_gt sU ha hb (lM _)
def pt_ge(ha:PVw X a fa)(hb:PVw X b fb):PTv X (.Compare a [.GtE] [b] pos) (qC (zH geD fa fb)):=JE op_ge sU ha hb (lM _)
def qS(ha:PVw X a fa)(hb:PVw X b fb):PV X (.BinOp a .Add b pos) (zH xB fa fb):=tX op_addU os_add ha hb
def vQ(ha:PVw X a fa)(hb:PVw X b fb):PV X (.BinOp a .Sub b pos) (zH subD fa fb):=tX op_sub os_sub ha hb
def jB(ha:PVw X a fa)(hb:PVw X b fb):PV X (.BinOp a .Mult b pos) (zH xF fa fb):=tX op_mulB os_mul ha hb
def yX(ha:PVw X a fa)(hb:PVw X b fb):PV X (.BinOp a .Pow b pos) (zH powD fa fb):=tX op_powB os_pow ha hb
def zZ(ha:PVw X a fa)(hb:PVw X b fb):PV X (.BinOp a .Mod b pos) (zH jG fa fb):=tX op_mod os_mod ha hb
def qI(ha:PVw X a fa)(hb:PVw X b fb):PV X (.BinOp a .FloorDiv b pos) (zH qR fa fb):=tX aCb os_fdiv ha hb
end FL
namespace L2
def pi_seq(hl:PE X l tl):PI X tg l (λσ H R=>iList X.K tl σ H R\/iTup X.K tl σ H R):=by
 intro aC s σ H R I h;rcases h with h|h
 . exact TF hl aC s σ H R I h
 . exact pi_tup hl aC s σ H R I h
end L2
namespace FL
def jF(h:PV X e f):PIv X tg e (viaA f asLT):=by
 obtain⟨t,ht,hf⟩:=h;refine⟨_,pi_seq ht,λH₀ H O σ ds hd items R o e q=>?_⟩;obtain⟨d,h1,e⟩:=bnd e;cases d with
 |lst l=>cases e;refine .inl (hf H₀ H O σ ds hd _ _ o h1 λv H' s r=>?_);obtain⟨a,xs,rfl,hs,rs⟩:=WRep.seqL (.inl r);exact⟨a,rfl,⟨xs,hs⟩,q _ (.ref a,.lst items) H' s r ZS⟩
 |tup l=>cases e;refine .inr (hf H₀ H O σ ds hd _ _ o h1 λv H' s r=>?_);obtain⟨a,xs,rfl,hs,rs⟩:=WRep.seqT (.inl r);exact⟨a,rfl,⟨xs,hs⟩,q _ (.ref a,.tup items) H' s r wlk_tup⟩
 |_=>cases e
end FL
namespace L2
section
variable{tg:Expr}
end
end L2
namespace FL
def BM(hm:X.mg "int" = none)(ha:PAv X [e] g)(hg:Gl X "int":=by rfl)(he:aF [e] X.env=[(false,bU e X.env)]:=by rfl):PV X (.Call (.Name "int" p) [e] [] pos) (callB int1D g):=by
 obtain⟨t,ht,hf⟩:=ha;refine⟨_,tY YJ hg hm (by decide +kernel) ht (by decide) (by decide) he rfl,λH₀ H O σ ds hd d Q o e q=>?_⟩;obtain⟨l,h,e⟩:=bnd e;refine hf H₀ H O σ ds hd l _ o h λvs H1 s1 r1=>?_;unfold int1D at e;split at e
 . cases e;cases r1 with
   |cons r rn=>cases rn;exact .inl ⟨_,by rw[r.int'],q _ H1 s1 (.int _)⟩
 . cases e;cases r1 with
   |cons r rn=>cases rn;exact .inr ⟨_,by rw[r.bl'],q _ H1 s1 (.int _)⟩
 . cases e
def ML(hN:X.N.Nodup)(he:PV X e f)(hi:X.N[i]?=some x:=by rfl)(hx:Loc X.env.scope x:=by first|exact Or.inl rfl|exact Or.inr rfl)(hf:X.fn x=true\/X.env.scope.names.lookup x=some .local:=by first|exact .inl rfl|exact .inr rfl):PSv X (.AugAssign (.Name x pos') .Add e pos) (augA i f):=by
 obtain⟨t,ht,hg⟩:=he;refine⟨_,ps_aug hN hi hx ht ip_add hf,λH₀ H O σ ds hd out E o e h=>?_⟩;unfold augA zW at e;cases hs:ds[i]? with
 |none=>rw[hs]at e;cases e
 |some sl=>
   rw[hs]at e;cases sl with
   |no=>cases e
   |exc _=>cases e
   |exf _ _=>cases e
   |fr _=>cases e
   |ob _ _=>cases e
   |own l=>cases e
   |v dx=>
     simp[aO]at e;obtain⟨dy,h1,e⟩:=bnd e;cases dx<;>first|(cases e;done)|skip
     cases dy<;>first|(cases e;done)|skip
     cases e;obtain⟨v,q1,q2⟩:=o.read hs;cases q2;refine⟨_,q1,hg H₀ H O σ ds hd _ _ o h1 λv H' s r=>?_⟩;cases r;exact⟨_,_,rfl,rfl,h _ _ _ ((o.mono s).set (.int _))⟩
end FL
namespace L2
def Inv.turnedS{ch:List aD}(I:Inv X aC σ H s)(k:∀b o,b∉ch->s.heap.get? b=some o->h'.get? b=some o)(hf:∀b∈ch,FpOk X aC H b):Inv X aC σ H {s with heap:=h',toks:=t'}:=by
 have nit:∀b u,H b=some u->b∉ch:=λb u e z=>by rw[(hf b z).1]at e;cases e
 refine I.step (λb hb=>?_) (λb o _ _ hc e _=>k b o hc e) (λb o _ _ hc e _=>⟨o.slots,k b o hc e⟩) (λ_ _ _ _ n=>n)
  (λb o hc e=>⟨o,k b o hc e⟩) (λ_ _ e=>e) (λ_ _ _ e=>e) (λ_ _ e=>e) (λm hm=>?_) (λb u e=>?_) I.bare
 . obtain⟨f0,f1,f2,f3,f4,f5⟩:=hf b hb;exact⟨f3,f1,f4,f5⟩
 . obtain⟨o,es,ep,ho,r⟩:=hm;exact⟨o,es,ep,k _ o (λz=>(hf _ z).2.1 rfl) ho,r⟩
 . refine (I.hok b u e).stay (λc v hc q=>k c v ?_ q) (λ_ q=>q) λ_ _ q=>q;rcases hc with z|z
   . rw[z];exact nit b u e
   . exact nit c _ z
end L2
namespace FL
end FL
namespace L2
end L2
namespace FL
end FL
namespace L2
end L2
namespace FL
end FL
namespace L2
def IS(X:Cx)(m:Str)(k:Nat)(ta:TE)(t:TA):TE:=λσ H Q=>ta σ H λx H1=>∃(a C dx:aD) (fs:List (Str×V)) (f:aD) (fd:bE) (ps:List Str) (sp:Sp),x=.ref a/\H1 a=some (.ins C dx fs)/\fs.lookup m=none ∧
 Cls X.K C/\Meth X.K C m f/\FnOk X.prog X.w X.K X.mg X.base CX0 k f fd ps sp/\Binds X.K fd ps []/\t σ H1 λvs H2=>sp (x::vs) H2 Q E0
def DK(he:PE X o ta)(hr:Room k X.A)(ha:PA X (e::es) t)(hst:aF (e::es) X.env=(false,bU e X.env)::aF es X.env:=by rfl)(hpl:(cY pos (aF es X.env)).any (·.1)=false:=by rfl)(ht:bU (.Call (.Attribute o m apos) (e::es) [] pos) X.env=(do
    let ov <- bU o X.env
    lD apos.atName
    let (f,first) <- gC [ov] (mC ov m pl)
    sZ pos f first (cY pos (aF (e::es) X.env)) (iS pos (fA [] X.env))):=by rfl) :
  PE X (.Call (.Attribute o m apos) (e::es) [] pos) (IS X m k ta t):=by
 intro aC s σ H Q I h;refine II (thn (he aC s σ H _ I h) λu s1 zq=>?_) ht;obtain⟨x,H1,I1,rx,a,C,dx,fs,f,fd,ps,sp,ex,ea,l,c,hm,F,hb,q⟩:=zq;subst ex;obtain rfl:u=aI.ref a:=rx;refine DZ I1 ea c hm l ?_;refine mE I.ok.mod.kin hm.kp (thn (ha pos aC s1 σ H1 _ I1 q) λus s2 ⟨vs,H2,I2,r,q2⟩=>⟨I2.kIn,?_⟩) hst hpl;exact PK (vs:=.ref a::vs) F hr hb .nil pass0 I2 (.cons rfl r) (by simpa using q2)
def HC(he:PE X o ta)(hr:Room k X.A)(ht:bU (.Call (.Attribute o m apos) [] [] pos) X.env=(do
    let ov <- bU o X.env
    lD apos.atName
    let (f,first) <- gC [ov] (mC ov m pl)
    sZ pos f first (cY pos (aF [] X.env)) (iS pos (fA [] X.env))):=by rfl) :
  PE X (.Call (.Attribute o m apos) [] [] pos) (IS X m k ta tNil):=by
 intro aC s σ H Q I h;refine II (thn (he aC s σ H _ I h) λu s1 zq=>?_) ht;obtain⟨x,H1,I1,rx,a,C,dx,fs,f,fd,ps,sp,ex,ea,l,c,hm,F,hb,q⟩:=zq;subst ex;obtain rfl:u=aI.ref a:=rx;refine DZ I1 ea c hm l ?_;exact PySem.W.callWith_K0 I1.kIn hm.kp (PK (vs:=[.ref a]) F hr hb .nil pass0 I1 (.cons rfl .nil) q)
end L2
namespace FL
theorem PVd.v(h:PVd X e f):PV X e f:=by obtain⟨t,ht,hf⟩:=h;exact⟨t,ht,λH₀ H O σ ds hd d Q o e q=>hf H₀ H O σ ds hd d Q o e λv H' s r=>q v H' s (r.less λa z=>o.old z)⟩
def FldOk(K:Frag)(f:Str)(ix:List (Nat×Nat)):Prop:=∀t i,ix.lookup t=some i->(eU t)[i]?=some f/\(∀j,j<i->(eU t)[j]?≠some f)/\∀C,aQ K mainGlobals (eF t)=some (some (.ref C))->Cls K C/\NoAttr K C f
def XU{K:Frag}: FldOk K f []:=λt i h=>by simp at h
def QW{K:Frag}(a:aQ K mainGlobals (eF t)=some (some (.ref C)))(c:Cls K C)(n:NoAttr K C f)(h1:(eU t)[i]?=some f)(h2:∀j,j<i->(eU t)[j]?≠some f)(h:FldOk K f ix):FldOk K f ((t,i)::ix):=by
 intro t' i' e;by_cases q:t'=t
 . subst q;simp at e;subst e;refine⟨h1,h2,λC' e'=>?_⟩;rw[a]at e';cases e';exact⟨c,n⟩
 . have:(t' == t)=false:=by simpa using q
   rw[cC,this]at e;exact h t' i' e
theorem vH:∀{kvs:List (Str×V)}{i:Nat}{v:V},(kvs.map (·.1))[i]?=some f->(∀j,j<i->(kvs.map (·.1))[j]?≠some f)->(kvs.map (·.2))[i]?=some v->kvs.lookup f=some v
 |[],_,_,h,_,_=>by simp at h
 |(g,x)::r,0,v,h1,_,h3=>by simp at h1 h3;subst h1 h3;simp[List.lookup]
 |(g,x)::r,i+1,v,h1,h2,h3=>by
   have hg:g≠f:=λz=>h2 0 (by omega) (by simp[z]);have:(f==g)=false:=by simpa using λz=>hg z.symm
   rw[cC,this];exact vH (i:=i) (by simpa using h1) (λj hj=>by have:=h2 (j+1) (by omega);simpa using this) (by simpa using h3)
def rO(hF:FldOk X.K f ix)(he:PV X e fe)(hb:dB e f X.env (bU e X.env)=bU e X.env:=by rfl):PV X (.Attribute e f pos) (fldG ix fe):=by
 obtain⟨t,ht,hf⟩:=he;refine⟨_,aBu ht hb,λH₀ H O σ ds hd d Q o e q=>?_⟩;obtain⟨x,h,e⟩:=bnd e;refine hf H₀ H O σ ds hd x _ o h λv H1 s1 r1=>?_;cases x with
 |ins t es=>
   obtain⟨i,hl,e⟩:=bnd e;obtain⟨h1,h2,h3⟩:=hF t i hl;cases r1 with
   |@ins a C dx _ kvs _ c n ha ek rr=>obtain⟨cl,na⟩:=h3 C c;obtain⟨w,hw,rw'⟩:=rr.get e;refine⟨a,C,dx,kvs,w,rfl,ha,cl,na,vH (by rw[ek];exact h1) (by rw[ek];exact h2) hw,?_⟩;exact q w H1 s1 rw'
 |_=>simp[fldD]at e
structure MCal(P:bY)(w:cU)(K:Frag)(mg:Str->Option aI)(base:Heap)(m:Str)(k n:Nat)(cs:List Nat)(F:Nat->List D->Option Ret):Prop where
 no:∀t∈cs,m∉eU t
 of:∀t∈cs,∀C,aQ K mainGlobals (eF t)=some (some (.ref C))->∃(f:aD) (fd:bE) (ps:List Str),Cls K C/\Meth K C m f/\FnOk P w K mg base CX0 k f fd ps (spF K (n+1) (F t))/\Binds K fd ps []
def vZ{K:Frag}: MCal P w K mg base m k n [] F:=⟨λ_ h=>(nomatch h),λ_ h=>(nomatch h)⟩
def HL{K:Frag}(a:aQ K mainGlobals (eF t)=some (some (.ref C)))(c:Cls K C)(hm:Meth K C m f)(G:FnOk P w K mg base CX0 j f fd ps (spF K (n+1) (F t)))(hj:j<=k)(b:Binds K fd ps [])(hn:m∉eU t)(h:MCal P w K mg base m k n cs F):MCal P w K mg base m k n (t::cs) F:=by
 refine⟨λt' ht=>(aA.mp ht).elim (λe=>e▸hn) (h.no t'),λt' ht C' e=>?_⟩;rcases aA.mp ht with rfl|ht
 . rw[a]at e;cases e;exact⟨f,fd,ps,c,hm,G.mono hj,b⟩
 . exact h.of t' ht C' e
theorem xG:∀{kvs:List (Str×V)},m∉kvs.map (·.1)->kvs.lookup m=none
 |[],_=>rfl
 |(g,x)::r,h=>by
   have hg:(m==g)=false:=by simpa using λz=>h (by simp[z])
   rw[cC,hg];exact xG λz=>h (by simp at z ⊢;exact .inr z)
def kA(M:MCal X.prog X.w X.K X.mg X.base m k n cs F){fo:FE}{g:FA}(hfo:∀H₀ H O σ ds hd d Q,Ok X.K H₀ H O σ ds hd->fo ds=some d->(∀v H',Same H H'->Rep X.K H' O v d->Q v H')->ta σ H Q)(hfg:∀H₀ H O σ ds hd l Q,Ok X.K H₀ H O σ ds hd->g ds=some l->(∀vs H',Same H H'->Reps X.K H' jE vs l->Q vs H')->t σ H Q)(o:Ok X.K H₀ H O σ ds hd)(h1:fo ds=some x)(h2:g ds=some l)(h3:methR n cs F x l=some r)(q:∀v H1 H',Same H H1->Same H1 H'->RetOk X.K H1 H' v r->Q v H'):IS X m k ta t σ H Q:=by
 refine hfo H₀ H O σ ds hd x _ o h1 λv H1 s1 r1=>?_;cases x with
 |ins c es=>
   simp only[methR]at h3;split at h3
   . rename_i hc;cases r1 with
     |@ins a C dx _ kvs _ cc nn ha ek rr=>
       obtain⟨f,fd,ps,cl,hm,Fn,hb⟩:=M.of c hc.1 C cc;refine⟨a,C,dx,kvs,f,fd,ps,_,rfl,ha,xG (by rw[ek];exact M.no c hc.1),cl,hm,Fn,hb,?_⟩;refine hfg H₀ H1 O σ ds hd l _ (o.mono s1) h2 λvs H2 s2 r2=>?_;have hl:=r2.length;have r1':Rep X.K H2 jE (.ref a) (.ins c es):=(Rep.ins cc (λz=>z.elim) (s2 _ _ ha) ek ((rr.mono s2).less λ_ z=>z.elim))
       exact⟨by simp[aG];lia,_,r,.cons r1' r2,h3,λv H' s' ro=>q v H2 H' (s1.trans s2) s' ro⟩
   . cases h3
 |_=>simp[methR]at h3
def yU(M:MCal X.prog X.w X.K X.mg X.base m k n cs F)(hr:Room j X.A)(ho:PV X o fo)(ha:PAn X (e::es) g)(hj:k<=j:=by decide)(hst:aF (e::es) X.env=(false,bU e X.env)::aF es X.env:=by rfl)(hpl:(cY pos (aF es X.env)).any (·.1)=false:=by rfl)(ht:bU (.Call (.Attribute o m apos) (e::es) [] pos) X.env=(do
    let ov <- bU o X.env
    lD apos.atName
    let (f,first) <- gC [ov] (mC ov m pl)
    sZ pos f first (cY pos (aF (e::es) X.env)) (iS pos (fA [] X.env))):=by rfl):PV X (.Call (.Attribute o m apos) (e::es) [] pos) (methV n cs F fo g):=by
 obtain⟨ta,pa,hfo⟩:=ho;obtain⟨t,pt,hfg⟩:=ha;refine⟨_,DK pa (hr.mono hj) pt hst hpl ht,λH₀ H O σ ds hd d Q o e q=>?_⟩;obtain⟨x,h1,e⟩:=bnd e;obtain⟨l,h2,e⟩:=bnd e;obtain⟨r,h3,e⟩:=bnd e;refine kA M hfo hfg o h1 h2 h3 λv H1 H' s1 s' ro=>q v H' (s1.trans s') ?_;exact sP ro e λa ha=>(o.mono s1).old ha
def wH(M:MCal X.prog X.w X.K X.mg X.base m k n cs F)(hr:Room j X.A)(ho:PV X o fo)(ha:PAn X (e::es) g)(hj:k<=j:=by decide)(hst:aF (e::es) X.env=(false,bU e X.env)::aF es X.env:=by rfl)(hpl:(cY pos (aF es X.env)).any (·.1)=false:=by rfl)(ht:bU (.Call (.Attribute o m apos) (e::es) [] pos) X.env=(do
    let ov <- bU o X.env
    lD apos.atName
    let (f,first) <- gC [ov] (mC ov m pl)
    sZ pos f first (cY pos (aF (e::es) X.env)) (iS pos (fA [] X.env))):=by rfl):PVf X (.Call (.Attribute o m apos) (e::es) [] pos) (methF n cs F fo g):=by
 obtain⟨ta,pa,hfo⟩:=ho;obtain⟨t,pt,hfg⟩:=ha;refine⟨_,DK pa (hr.mono hj) pt hst hpl ht,λH₀ H O σ ds hd d Q o e q=>?_⟩;obtain⟨x,h1,e⟩:=bnd e;obtain⟨l,h2,e⟩:=bnd e;obtain⟨r,h3,e⟩:=bnd e;refine kA M hfo hfg o h1 h2 h3 λv H1 H' s1 s' ro=>?_;obtain⟨a,xs,rfl,h4,h5,h6⟩:=BK ro e λa ha=>(o.mono s1).old ha;exact q a xs H' (s1.trans s') (s1.free h4) h5 h6
noncomputable def eH:Hp:=λ_=>none
def Keepx(x:aD)(H H':Hp):Prop:=∀b o,b≠x->H b=some o->H' b=some o
def Keepx.trans(a:Keepx x H H1)(b:Keepx x H1 H2):Keepx x H H2:=λc o n e=>b c o n (a c o n e)
section
variable{K:Frag}{H H':Hp}{O:aD->Prop}{x:aD}
end
theorem MG:∀{kvs:List (Str×V)},f∉kvs.map (·.1)->putF f v kvs=kvs++[(f,v)]
 |[],_=>rfl
 |(g,x)::r,h=>by have hg:¬g=f:=λz=>h (by simp[z]);rw[show putF f v ((g,x)::r)=(if g=f then (g,v)::r else (g,x)::putF f v r) from rfl,if_neg hg,MG λz=>h (by simp at z ⊢;exact .inr z)];rfl
section
variable{g:FA}
end
def MD(hm:∃t,X.mg x=some (.int i t))(hg:Gl X x:=by rfl)(hd:(x==("__debug__" : Str))=false:=by decide):PV X (.Name x pos) (zB (.int i)):=
 let ⟨t,h⟩:=hm
 SO (v:=.int i) hg h ⟨t,rfl⟩ (λ_ _=>.int i) hd
def aAr(hm:∃t,X.mg x=some (.str i t))(hg:Gl X x:=by rfl)(hd:(x==("__debug__" : Str))=false:=by decide):PV X (.Name x pos) (zB (.str i)):=
 let ⟨t,h⟩:=hm
 SO (v:=.str i) hg h ⟨t,rfl⟩ (λ_ _=>.str i) hd
noncomputable def spA(K:Frag)(n:Nat)(F:List D->Option Ret):Sp:=λvs H Q _=>vs.length=n/\∃(B:aD->Prop) (ds:List D) (d:D),(∀a,B a->∃u:MutHO,H a=some u.1)/\Reps K H B vs ds/\F ds=some (.any d)/\∀v H',Same H H'->Rep K H' B v d->Q v H'
def WO{K:Frag}{H:Hp}{N:List Str}{vs:List V}{ds:List D}{B:aD->Prop}(hB:∀a,B a->∃u:MutHO,H a=some u.1)(r:Reps K H B vs ds):Ok K H H B (L2.start N vs) (args N.length ds) [.base B]:=by
 have o:=DS (N:=N) (r.less (O':=jE) λ_ z=>z.elim);refine⟨o.same,o.fresh,hB,o.len,λi s e=>?_,o.apart,λp hp=>?_,.no (LF _ _)⟩
 . unfold args at e;unfold L2.start;have hl:=r.length;by_cases hi:i<ds.length
   . rw[bA (by simpa using hi),aP]at e;rw[bA (by simpa[hl]using hi),aP];obtain⟨d,h,rfl⟩:=mpd e;obtain⟨v,h1,h2⟩:=r.get h;rw[h1];exact yO h2
   . rw [bZ (by simpa using hi),cP]at e;split at e
     . cases e;exact jD
     . cases e
 . simp only[aR]at hp;subst hp;exact λa ha=>⟨ha,by obtain⟨xs,e⟩:=hB a ha;rw[e];simp⟩
def fun_okA{P:bY}{w:cU}{K:Frag}{mg:Str->Option aI}{base:Heap}{x qual:Str}{st:Stmt}{f:aD}{fd:bE}{N ps:List Str}{k n:Nat}{F:List D->Option Ret}(Fn:Fun K x qual st f fd)(S:FnScope N ps (zI st)){g:FS}(hbody:∀(cdv:aI) (A:dP) (outer:List Env) (s:aY) (H:Hp) (E:XK),Room k (A.deeper (iW qual (zI st) s.heap.objs.size f cdv))->PSsv (cxOf CX0 P w K mg base N qual (zI st) f cdv A outer s H E).nox (qG st) g)(hn:ps.length=n)(hg:∀ds r,ds.length=ps.length->F ds=some r->Does g N.length ds r):FnOk P w K mg base CX0 (k+1) f fd ps (spA K n F):=by
 refine Fn.ok S (λvs H Q E h=>by rw[hn];exact h.1) (λcdv A outer s H vs Q E hr h=>?_);obtain⟨hl,B,ds,d,hB,rv,e,q⟩:=h;obtain⟨t,ht,hf⟩:=hbody cdv A outer s H E hr;refine⟨t,ht,?_⟩;have o:=WO (N:=N) hB rv;rcases hg ds _ (by rw[<-rv.length,hn];exact hl) e with e'|⟨z,_⟩
 . exact hf H H B _ _ [.base B] _ _ o e' (λv H' s _ r=>q v H' s (r B (by simp)))
 . cases z
structure CalA(P:bY)(w:cU)(K:Frag)(mg:Str->Option aI)(base:Heap)(x:Str)(k n:Nat)(F:List D->Option Ret):Prop where
 ex:∃(f:aD) (fd:bE) (ps:List Str),FnOk P w K mg base CX0 k f fd ps (spA K n F)/\Binds K fd ps []/\bO K (.ref f)=true/\mg x=some (.ref f)
section
variable{k j n:Nat}{F:List D->Option Ret}{x:Str}{p pos:Pos}{e:Expr}{es:List Expr}{g:FA}
def aAt(C:CalA X.prog X.w X.K X.mg X.base x k n F)(hr:Room j X.A)(ha:PAs X (e::es) g)(hj:k<=j:=by decide)(hg:Gl X x:=by rfl)(hdb:(x==("__debug__" : Str))=false:=by decide)(he:aF (e::es) X.env=(false,bU e X.env)::aF es X.env:=by rfl)(hpl:(cY pos (aF es X.env)).any (·.1)=false:=by rfl) :
  PV X (.Call (.Name x p) (e::es) [] pos) (callA n F g):=by
 obtain⟨f,fd,ps,Fn,hb,hk,hm⟩:=C.ex;obtain⟨t,ht,hf⟩:=ha;refine⟨_,sT (CX:=CX0) (E:=E0) Fn (hr.mono hj) hg hm hk hb .nil pass0 ht hdb he hpl,λH₀ H O σ ds hd d Q o e q=>?_⟩;unfold callA at e;obtain⟨l,h,e⟩:=bnd e;split at e
 . rename_i hln;obtain ⟨r,h2,e⟩:=bnd e;cases r with
   |any d'=>cases e;refine hf H₀ H O σ ds hd l _ o h λvs H1 s1 r1=>?_;have hl:=r1.length;exact⟨by simp only[cO];omega,O,l,_,(o.mono s1).dom,by simpa using r1,h2,λv H' s' ro=>q v H' (s1.trans s') ro⟩
   |val _=>cases e
   |obj _=>cases e
   |fresh _=>cases e
 . cases e
end
end FL
namespace PySem
section
variable{prog:bY}{w:cU}{A:dP}{R:Result->aY->Prop}{I:aD}{fp wr:List aD}{n:Nat}{P:Nat->aI->Prop}{St:Nat->Heap->Prop}{kw:List (Str×aI)}
end
section
variable{prog:bY}{w:cU}{A:dP}{E:aI->aY->Prop}{s:aY}
end
end PySem
namespace FL
open PySem.Calls PySem.Builtin PySem.Builtin.ObjectAttr PySem.Builtin.Getset_descriptor
open PySem.W (Looks looks_findIn looks_mroIn findIn mroIn specialIn takesIn KitX)
section
variable{prog:bY}{w:cU}{A:dP}{E:aI->aY->Prop}{h:Heap}{g:Array OL}{d:Drawn}{t:Nat}{os:YR}{a C:aD}{o:Obj}{K:Frag}
end
def Fl2(B:Heap)(l:List Env)(e:aD)(cls:aI)(a0:aI×Option aD)(fl:aI)(h:Heap):Prop:=B.StaysIn h/\B.get? e=none/\h.FunFrames B l ∧
 ∃oe vs T oT ts,h.get? e=some oe/\((oe.cls=cls/\oe.dict=a0.2)/\vs[0]?=some a0.1/\vs[2]?=some .none)/\oe.data=.fields vs/\vs[1]?=some (.ref T)/\B.get? T=none/\T≠e/\h.get? T=some oT/\oT.data=.fields ts/\ts[3]?=some fl
section
variable{M:Model}{A:dP}{E:aI->aY->Prop}{s:aY}{B:Heap}{l outer:List Env}{env:Env}{e L:aD}{cls fl:aI}{a0:aI×Option aD}{oe:Obj}{vs:Array aI}{Q:Unit->aY->Prop}
def Fl2.tail(R:Fl2 B (env::outer) e cls a0 fl s.heap):Fl2 B outer e cls a0 fl s.heap:=let ⟨k1,k2,⟨_,_,k3⟩,k4⟩:=R;⟨k1,k2,k3,k4⟩
end
open PySem.W (hideAll hideAll_get of_hideAll hideAll_none funFrames_hide excIn tail_of_in nsMap_none_of_in isNs_of_in)
def obj_get{P:bY}{w:cU}{H:Hp}{h:Heap}{a:aD}{o:HO}(x:ObjOk P w H h a o):∃u,h.get? a=some u:=by
 cases o with
 |lst xs=>obtain⟨_,_,_,_,e⟩:=x;exact⟨_,e⟩
 |tup xs=>obtain⟨_,_,_,_,e,_⟩:=x;exact⟨_,e⟩
 |dK kvs=>obtain⟨_,_,_,_,o,_,_,e,_⟩:=x;exact⟨_,e⟩
 |dT kvs=>obtain⟨_,_,_,_,o,_,_,e,_⟩:=x;exact⟨_,e⟩
 |set S n=>obtain⟨o,_,_,_,e,_⟩:=x;exact⟨_,e⟩
 |ins C dx fs=>obtain⟨_,_,_,e,_⟩:=x;exact⟨_,e⟩
 |own y=>obtain⟨_,e⟩:=x;exact⟨_,e⟩
 |xd fs=>obtain⟨_,⟨_,_,_,e,_⟩,_⟩:=x;exact⟨_,e⟩
 |rng lo hi=>obtain⟨_,_,_,e⟩:=x;exact⟨_,e⟩
 |frz ob u=>obtain⟨e,_⟩:=x;exact⟨_,e⟩
 |tbl ps=>obtain⟨_,e,_⟩:=x;exact⟨_,e⟩
 |met f y=>exact⟨_,(show h.get? a=some _ from x)⟩
 |ext φ=>obtain⟨_,⟨_,e⟩,_⟩:=x;exact⟨_,e⟩
structure Thrown(P:bY)(w:cU)(outer:List Env)(H:Hp)(s:aY)(cls:aI)(ea:aD)(a0:aI×Option aD)(B:Heap)(H':Hp)(h:Heap):Prop where
 fly:Fl2 B outer ea cls a0 .none h
 keep:∀b o,s.heap.get? b=some o->H b=none->b∉frs outer->B.get? b=some o
 there:∀b o,s.heap.get? b=some o->b∉frs outer->∃o',B.get? b=some o'
 slot:∀b o,s.heap.get? b=some o->b∈frs outer->∃sl,h.get? b=some {o with slots:=sl}
 free:∀b o,s.heap.get? b=some o->H b=none->H' b=none
 tups:∀b xs,H b=some (.tup xs)->H' b=some (.tup xs)
 frzs:∀b o u,H b=some (.frz o u)->H' b=some (.frz o u)
 tbls:∀b ps,H b=some (.tbl ps)->H' b=some (.tbl ps)
 hok:L2.HOk P w H' B
section
variable{P:bY}{w:cU}{outer:List Env}{H H':Hp}{s:aY}{cls:aI}{a0:aI×Option aD}{ea:aD}{B h h':Heap}
def Thrown.un(t:Thrown P w outer H s cls ea a0 B H' h):Un (frs outer) [] H H' s.heap h where
 keep:=λb o e n hb _=>t.fly.1 b o (t.keep b o e n hb)
 slot:=λb o e n hb _=>t.slot b o e hb
 free:=λb o e n _=>t.free b o e n
 there:=λb o e _=>by
  by_cases hb:b∈frs outer
  . obtain⟨sl,q⟩:=t.slot b o e hb;exact⟨_,q⟩
  . obtain⟨o',q⟩:=t.there b o e hb;exact⟨o',t.fly.1 b o' q⟩
 tups:=t.tups
 frzs:=t.frzs
 tbls:=t.tbls
def Thrown.no(t:Thrown P w outer H s cls ea a0 B H' h):H' ea=none:=by
 cases q:H' ea with
 |none=>rfl
 |some u=>obtain⟨o,e⟩:=obj_get (t.hok _ _ q);rw[t.fly.2.1]at e;cases e
end
section
variable(X:Cx)(C:aD)
end
section
variable{C:aD}
end
open PySem.W (Looks looks_mroIn mroIn)
def Ok.setNo{K:Frag}(o:Ok K H₀ H O σ ds hd) i v:Ok K H₀ H O (σ.set i v) (ds.set i .no) hd:=by
 have own':∀{j:Nat},IsOwn (ds.set i .no) j->j≠i/\IsOwn ds j:=λ{j} ⟨l,e⟩=>by
  by_cases hj:j=i
  . subst hj;by_cases hl:j<ds.length
    . rw[aM hl]at e;cases e
    . rw[bF (by simpa using hl)]at e;cases e
  . rw[aB (Ne.symm hj)]at e;exact⟨hj,l,e⟩
 refine⟨o.same,λj l a e1 e2=>?_,o.dom,by simpa using o.len,λj s e=>?_,λj k a hjk hj hk e1 e2=>?_,o.hold,o.obs.tr (λ_ _ _ r _=>r) (λj r t e=>by
  obtain⟨e1,hj⟩:=wP (λr t=>by intro z;cases z) e
  exact⟨e1,by rw[aB (Ne.symm hj)]⟩) (λj b oj ej=>by
  obtain⟨o1,hj⟩:=wB (λl=>by intro z;cases z) oj;rw[aB (Ne.symm hj)]at ej
  exact .inl ⟨o1,ej⟩)⟩
 . obtain⟨n1,h1⟩:=own' ⟨l,e1⟩;rw[aB (Ne.symm n1)]at e1 e2;exact o.fresh j l a e1 e2
 . by_cases hj:j=i
   . subst hj;by_cases hl:j<ds.length
     . rw[aM hl]at e;cases e;exact jD
     . rw[bF (by simpa using hl)]at e;cases e
   . rw[aB (Ne.symm hj)]at e;rw[aB (Ne.symm hj)];exact o.sl j s e
 . obtain⟨n1,h1⟩:=own' hj;obtain⟨n2,h2⟩:=own' hk;rw[aB (Ne.symm n1)]at e1;rw[aB (Ne.symm n2)]at e2;exact o.apart j k a hjk h1 h2 e1 e2
def aBc(h:PV X e f)(hs:eC e none pos.line X.env=pure false:=by rfl):PSv X (.Expr e pos) (dropG f):=by
 obtain⟨t,ht,hf⟩:=h;refine⟨_,wT ht hs,λH₀ H O σ ds hd out E o e' h=>?_⟩;unfold dropG at e';cases hh:f ds with
 |none=>rw[hh]at e';cases e'
 |some d=>rw[hh]at e';cases e';exact hf H₀ H O σ ds hd d _ o hh λv H' s r=>h σ H' O (o.mono s)
open PySem.W (Looks looks_mroIn mroIn clsIn)
section
variable{prog:bY}{w:cU}{A:dP}{E:aI->aY->Prop}{h:Heap}{g:Array OL}{d:Drawn}{t:Nat}{os:YR}{a C S:aD}{o:Obj}{K:Frag}
end
section
variable{en:Str}{i:Nat}{p pe pT pos:Pos}{tb:List (Nat×Bool)}
end
section
variable{m:Str}{k j:Nat}{cs:List Nat}{F:Nat->List D->Option Ret}{o:Expr}{apos pos:Pos}{fo:FE}
def sR{pl:Sem Bool}(M:MCal X.prog X.w X.K X.mg X.base m k 0 cs F)(hr:Room j X.A)(ho:PV X o fo)(hj:k<=j:=by decide)(ht:bU (.Call (.Attribute o m apos) [] [] pos) X.env=(do
    let ov <- bU o X.env
    lD apos.atName
    let (f,first) <- gC [ov] (mC ov m pl)
    sZ pos f first (cY pos (aF [] X.env)) (iS pos (fA [] X.env))):=by rfl):PV X (.Call (.Attribute o m apos) [] [] pos) (methV 0 cs F fo zS):=by
 obtain⟨ta,pa,hfo⟩:=ho;refine⟨_,HC (pl:=pl) (k:=k) pa (hr.mono hj) ht,λH₀ H O σ ds hd d Q o e q=>?_⟩;unfold methV at e;obtain⟨x,h1,e⟩:=bnd e;simp only[zS,aO]at e;obtain⟨r,h3,e⟩:=bnd e;refine kA (g:=zS) M hfo (λ_ H _ _ _ _ _ _ _ e q=>by cases e;exact q _ H (Same.refl _) .nil) o h1 rfl h3 λv H1 H' s1 s' ro=>q v H' (s1.trans s') ?_;exact sP ro e λa ha=>(o.mono s1).old ha
end
section
variable{C:aD}{x:Str}{p pos:Pos}
end
section
variable{K:Frag}{H:Hp}{O:aD->Prop}{a:aD}{xs ys:List V}
end
section
variable(X:Cx)(E:XK)(C:aD)
def PSsAny(st:List Stmt):Prop:=∃t,PSs X st t
end
section
variable{E:XK}{C:aD}
def PSsv.any{st:List Stmt}{g:FS}(h:PSsv X st g):PSsAny X st:=let ⟨t,ht,_⟩:=h;⟨t,ht⟩
section
variable{k j n:Nat}{R:List D->Bool}{x:Str}{p pos:Pos}{e:Expr}{es:List Expr}{g:FA}
end
end
section
variable{E:XK}{C:aD}{t k j n:Nat}{R:List D->Bool}{x:Str}{p pos:Pos}{e:Expr}{es:List Expr}{g:FA}
end
structure RoomH(k:Nat)(A:dP):Prop where
 dp:A.depth+3*k+5<recursionLimit
 un:A.units+16*k+200<cLine
def RoomH.of{k:Nat}{A:dP}{v:Option aI}(r:Room k A):RoomH k (A.mark v):=⟨r.dp,r.un⟩
def RoomH.mono{j k:Nat}{A:dP}(r:RoomH k A)(h:j<=k):RoomH j A:=⟨by have:=r.dp;omega,by have:=r.un;omega⟩
theorem RoomH.depth{k:Nat}{A:dP}(r:RoomH k A):A.depth<recursionLimit:=by have:=r.dp;omega
section
variable{k j i:Nat}{F:Nat->Option Ret}{x en:Str}{p pe pos:Pos}
end
end FL
namespace L2
end L2
namespace FL
end FL
namespace L2
end L2
namespace FL
end FL
namespace L2
end L2
namespace FL
open PySem.W (tabIn CodeHd tabObj kla_eval kla_makeFunction kla_makeFunctionHit kla_obj kla_fn kla_callFunE kla_codeExpr FnAt callWith_F envX)
def FN{pos:Pos}{a b:Nat}{c v:aI}:∀(l:List aI),TriplesOk l->tJ pos (l++[rawInt a,rawInt b,c])=some v->tJ pos l=some v\/(v=c/\pos.line=a/\pos.col=b):=by
 intro l h
 fun_induction TriplesOk l with
 |case1=>
   intro e;simp only[cM,tJ,rawInt]at e;split at e
   . rename_i hc;cases e;simp only[bJ,beq_iff_eq]at hc;exact .inr ⟨rfl,by omega,by omega⟩
   . cases e
 |case2 a' t b' u x rest ih=>
   intro e;simp only[dF,tJ]at e ⊢;split at e
   . rename_i hc;rw[if_pos hc];exact .inl e
   . rename_i hc;rw[if_neg hc];exact ih h e
 |case3 l h1 h2=>exact h.elim
theorem IA{env:Env}:∀(l:List (Str×hV)) (cs:List (Str×aD)),∀p∈jL env l cs,p∈cs\/(env.cells.lookup p.1=some p.2/\(p.1,hV.free)∈l)
 |[],_,_,h=>.inl h
 |(n,k)::r,cs,p,h=>by
   unfold jL at h;rcases IA r _ p h with h1|h1
   . split at h1
     . rename_i hk;cases hc:env.cells.lookup n with
       |none=>rw[hc]at h1;exact .inl h1
       |some c=>
         rw[hc]at h1;rcases aA.mp h1 with rfl|h1
         . refine .inr ⟨hc,?_⟩;rw[beq_iff_eq.mp hk];exact aE
         . exact .inl h1
     . exact .inl h1
   . exact .inr ⟨h1.1,aH _ h1.2⟩
def QO(n:Str)(k:hV)(r:List (Str×hV)):freeR ((n,k)::r)=if k==hV.free then freeR r++[n]else freeR r:=by
 unfold freeR;rw[kZ];by_cases hk:(k==hV.free)=true
 . simp[hk]
 . simp[hk]
theorem AQ{env:Env}:∀(l:List (Str×hV)) (cs:List (Str×aD)),(∀y∈l,y.2=hV.free->∃c,env.cells.lookup y.1=some c)->(jL env l cs).map (·.1)=freeR l++cs.map (·.1)
 |[],_,_=>rfl
 |(n,k)::r,cs,h=>by
   unfold jL;rw[AQ r _ λy hy=>h y (aH _ hy),QO];by_cases hk:(k==hV.free)=true
   . obtain⟨c,hc⟩:=h (n,k) aE (beq_iff_eq.mp hk);have hc:env.cells.lookup n=some c:=hc;rw[if_pos hk,if_pos hk,hc];simp
   . rw[if_neg hk,if_neg hk]
theorem HG:∀{cl:List (Str×aD)},(cl.map (·.1)).Nodup->(∀p∈cl,∀q∈cl,p.2=q.2->p.1=q.1)->(cl.map (·.2)).Nodup
 |[],_,_=>List.nodup_nil
 |p::r,h,k=>by rw[aK,bC]at h ⊢;refine⟨λz=>?_,HG h.2 λa ha b hb=>k a (aH _ ha) b (aH _ hb)⟩;obtain⟨q,hq,e⟩:=bG.mp z;exact h.1 (bG.mpr ⟨q,hq,k q (aH _ hq) p aE e⟩)
abbrev exT:HO:=.ext λ_=>True
def pe_lam{params:Arguments}{body:Expr}{scope:Scope}{pos:Pos}{x:Str}{c P:aD}(hx:x∈makers)(ht:tabM X.K x=some (c,P))(hcode:X.env.code=.ref c)(hq:lP X.K x pos.line pos.col=X.env.qual++"<lambda>")(hdef:defaultsOf params X.env=([],[]):=by rfl)(hfree:∀y∈scope.names,y.2=hV.free->(X.env.kindOf y.1=some .cell\/X.env.kindOf y.1=some .free)) :
  PE X (.Lambda params body scope pos) (λ_ H Q=>∀f H1,Same H H1->LamAt H1 jE f ⟨X.env.qual++"<lambda>",params,.expr body,scope⟩ (jL X.env scope.names [])->Q (.ref f) H1):=by
 intro aC s σ H Q I h;refine kla_eval hdef ?_;obtain⟨⟨bm,ob,b1,b2,b3,b4,b5,b6⟩,tb⟩:=I.tabsH;obtain⟨C,hP⟩:=tb x c P hx ht;obtain⟨ps,hPo,tr,am⟩:=I.hok P _ hP;have hcl:closureFor scope X.env=pure (jL X.env scope.names []):=rK λy hy hk=>I.ok.has y.1 (hfree y hy hk);have hgs:s.heap.Ns mainGlobals X.mg:=I.mod.glob.keeps I.bk;have hgP:mainGlobals≠P:=λz=>by obtain⟨o,es,ep,e,hd,_⟩:=hgs;rw[z,hPo]at e;cases e;cases hd
 have hbP:bm≠P:=λz=>by have e:=I.bk _ _ b3;rw[z,hPo]at e;cases e;cases b4
 have hbG:bm≠mainGlobals:=λz=>by obtain⟨o,es,ep,e,hd,_⟩:=hgs;have e2:=I.bk _ _ b3;rw[z,e]at e2;cases e2;rw[hd]at b6;cases b6
 have hB:s.heap.BuiltinsAt X.mg P:=⟨bm,ob,b1,b2,hbG,hbP,I.bk _ _ b3,b4,b5,b6⟩
 cases hit:tJ pos ps.toList with
 |none=>
   refine kla_makeFunction (mg:=X.mg) hcl I.ok.glob hgs hcode (C.keeps I.bk) hPo tr hit hgP hB λc' ctv h' tk hx' hge hlt hrec htb=>?_;obtain⟨c₂,oc,vs,tq,e2,hoc,hd,hv⟩:=hrec;cases e2;generalize hob:kla_obj "<lambda>" (X.env.qual++"<lambda>") params body scope (jL X.env scope.names []) ((X.mg "__name__").getD .none) c' ctv=of;have hfr:of.isFreed=false:=by rw[<-hob];rfl
   have nc:H c'=none:=I.hok.fresh hge;have nf:H h'.objs.size=none:=I.hok.fresh (uV (gF hge hlt));have ncf:c'≠h'.objs.size:=bM hlt;have kp:∀b o,b≠P->s.heap.get? b=some o->(h'.push of).get? b=some o:=λb o hb e=>aJ _ (hx' b o hb e);have h1:∀{b:aD}{u:HO},H b=some u->upd (upd H c' (.frz oc exT)) h'.objs.size (.frz of exT) b=some u:=λ{b u} e=>by rw[upd_ne (jK e nf),upd_ne (jK e nc)];exact e
   have hf1:upd (upd H c' (.frz oc exT)) h'.objs.size (.frz of exT) h'.objs.size=some (.frz of exT):=zO;have hc1:upd (upd H c' (.frz oc exT)) h'.objs.size (.frz of exT) c'=some (.frz oc exT):=by rw[upd_ne ncf,zO]
   have nP:∀{b:aD},H b=none->b≠P:=λ{b} n z=>by rw[z,hP]at n;cases n
   have U:Un X.fs [] H (upd (upd H c' (.frz oc exT)) h'.objs.size (.frz of exT)) s.heap (h'.push of):=by
    refine⟨λb o e n _ _=>kp b o (nP n) e,λb o e n _ _=>⟨o.slots,kp b o (nP n) e⟩,λb o e n _=>?_,λb o e _=>?_,λb xs e=>h1 e,λb o u e=>h1 e,λb q e=>h1 e⟩
    . have lt:=aW e;rw[upd_ne (bM (Nat.lt_trans (bL lt hge) hlt)),upd_ne (bM (bL lt hge))];exact n
    . by_cases hb:b=P
      . subst hb;exact⟨_,aJ _ htb⟩
      . exact⟨o,kp b o hb e⟩
   have hok:L2.HOk X.prog X.w (upd (upd H c' (.frz oc exT)) h'.objs.size (.frz of exT)) (h'.push of):=λb u e=>by
    by_cases hbf:b=h'.objs.size
    . subst hbf;rw[hf1]at e;cases e;exact⟨aS _ hfr,trivial,⟨_,aS _ hfr⟩,λ_ _ _ _=>trivial⟩
    rw[upd_ne hbf]at e;by_cases hbc:b=c'
    . subst hbc;rw[zO]at e;cases e;exact⟨aJ _ hoc,trivial,⟨_,aJ _ hoc⟩,λ_ _ _ _=>trivial⟩
    rw[upd_ne hbc]at e;by_cases hbP:b=P
    . subst hbP;rw [hP]at e;cases e;refine ⟨_,aJ _ htb,?_,λpos' v z=>?_⟩
      . rw[OS];exact TriplesOk_snoc _ _ _ _ tr
      . rw [OS]at z;rcases FN _ tr z with z|⟨rfl,e1,e2⟩
        . obtain⟨c3,o3,u3,vs3,t3,g1,g2,g3,g4⟩:=am pos' v z;exact⟨c3,o3,u3,vs3,t3,g1,h1 g2,g3,g4⟩
        . exact⟨c',oc,exT,vs,tq,rfl,hc1,hd,by rw[e1,e2,hq];exact hv⟩
    . refine (I.hok b u e).stay (λc3 v3 hc3 r3=>kp c3 v3 ?_ r3) (λc3 r3=>h1 r3) λc3 xs3 r3=>h1 r3;rcases hc3 with rfl|hc3
      . exact hbP
      . rintro rfl;rw[hP]at hc3;cases hc3
   refine⟨.ref h'.objs.size,_,I.un (t':=tk) U hok,rfl,h _ _ (λb u e=>h1 e) ?_⟩;subst hob;exact⟨id,_,oc,_,_,_,c',vs,tq,hf1,rfl,rfl,rfl,rfl,rfl,rfl,rfl,rfl,rfl,rfl,rfl,rfl,id,hc1,hd,hv⟩
 |some cv=>
   obtain⟨c',oc,uc,vs,tq,rfl,hc',hd,hv⟩:=am pos cv hit;refine kla_makeFunctionHit (mg:=X.mg) hcl I.ok.glob hgs hcode (C.keeps I.bk) hPo tr hit hB λctv h' tk hk hsz=>?_;generalize hob:({cls:=.type "function",data:=.func (kla_fn "<lambda>" (X.env.qual++"<lambda>") params body scope (jL X.env scope.names []) ((X.mg "__name__").getD .none) (.ref c') ctv)}: Obj)=of;have hfr:of.isFreed=false:=by rw[<-hob];rfl
   have nf:H h'.objs.size=none:=I.hok.fresh hsz;have h1:∀{b:aD}{u:HO},H b=some u->upd H h'.objs.size (.frz of exT) b=some u:=λ{b u} e=>by rw[upd_ne (jK e nf)];exact e
   refine⟨.ref h'.objs.size,upd H h'.objs.size (.frz of exT),I.laid (t':=tk) (λb u e=>aJ _ (hk b u e)) hsz ?_,rfl,h _ _ (λb u e=>h1 e) ?_⟩
   . exact⟨aS _ hfr,trivial,⟨_,aS _ hfr⟩,λ_ _ _ _=>trivial⟩
   . subst hob;exact⟨id,_,oc,_,_,_,c',vs,tq,zO,rfl,rfl,rfl,rfl,rfl,rfl,rfl,rfl,rfl,rfl,rfl,rfl,id,h1 hc',hd,by rw[hq]at hv;exact hv⟩
noncomputable def lend(h:Heap)(cs:List aD)(H:Hp):Hp:=λb=>if b∈cs then (h.get? b).map λo=>.frz o exT else H b
noncomputable def unlend(cs:List aD)(H:Hp):Hp:=λb=>if b∈cs then none else H b
def jP{cs:List aD}{H:Hp}{b:aD}(h:b∉cs):unlend cs H b=H b:=by unfold unlend;rw[if_neg h]
def GH{cs:List aD}{H:Hp}{b:aD}(h:b∈cs):unlend cs H b=none:=by unfold unlend;rw[if_pos h]
def yS{h:Heap}{cs:List aD}{H:Hp}{b:aD}(hb:b∉cs):lend h cs H b=H b:=by unfold lend;rw[if_neg hb]
def BO{h:Heap}{cs:List aD}{H:Hp}{b:aD}{o:Obj}(hb:b∈cs)(e:h.get? b=some o):lend h cs H b=some (.frz o exT):=by unfold lend;rw[if_pos hb,e];rfl
section
variable{aC:List (aD×Obj)}{σ:L2.St}{H H':Hp}{s s':aY}{cs:List aD}
def lend_ok(I:Inv X aC σ H s)(hcs:∀c∈cs,∃x,X.env.cells.lookup x=some c)(hfn:∀x,X.fn x=true) :
  Env0 X.prog X.w X.K X.mg X.base X.A X.stack s (lend s.heap cs H)/\Same H (lend s.heap cs H)/\∀c∈cs,H c=none/\∃o v,s.heap.get? c=some o/\o.data=.cell v:=by
 have ci:∀c∈cs,H c=none/\(∃o v,s.heap.get? c=some o/\o.data=.cell v)/\X.s₀.heap.objs.size<=c/\c≠X.env.locals:=λc hc=>by obtain⟨x,hx⟩:=hcs c hc;obtain⟨v,o,ho,hd⟩:=I.cell x c hx;exact⟨(I.freeC x c hx).now (hfn x),⟨o,v,ho,hd⟩,I.ok.cab x c (hfn x) hx,I.cne x c hx⟩
 have nin:∀{b:aD}{u:HO},H b=some u->b∉cs:=λ{b u} e z=>by rw[(ci b z).1]at e;cases e
 have sm:Same H (lend s.heap cs H):=λb u e=>by rw[yS (nin e)];exact e
 refine⟨⟨I.ok.frames,I.ok.mod,λb o e=>?_,⟨cD I.ok.bsz.1 I.sz,I.tabsH.bm,λx c P hx ht=>⟨(I.tabsH.tab x c P hx ht).1,sm _ _ (I.tabsH.tab x c P hx ht).2⟩⟩,I.stack,λb hb=>?_,λb u e=>?_,I.bare⟩,sm,λc hc=>⟨(ci c hc).1,(ci c hc).2.1⟩⟩
 . obtain ⟨e1,e2⟩:=I.bs b o e;refine ⟨e1,?_⟩;rw [yS λz=>?_]
   . exact e2
   . exact absurd (bL (aW e) (cD I.ok.bsz.1 (ci b z).2.2.1)) (cW _)
 . rw [yS λz=>?_]
   . exact I.stkFree b hb
   . rcases aA.mp (I.stkSub b hb)with e|e
     . exact(ci b z).2.2.2 e
     . obtain⟨_,o,ho,_⟩:=I.ok.funs.mem e;exact absurd (bL (aW ho) (ci b z).2.2.1) (cW _)
 . by_cases hb:b∈cs
   . obtain⟨o,v,ho,_⟩:=(ci b hb).2.1;rw[BO hb ho]at e;cases e;exact⟨ho,trivial,⟨_,ho⟩,λ_ _ _ _=>trivial⟩
   . rw[yS hb]at e;exact(I.hok b u e).stay (λ_ _ _ q=>q) (λc q=>sm _ _ q) λc xs q=>sm _ _ q
def XB{P:bY}{w:cU}{fs:List aD}(hc:∀c∈cs,H c=none/\∃o v,s.heap.get? c=some o/\o.data=.cell v)(un:Un fs [] (lend s.heap cs H) H' s.heap s'.heap)(hok:L2.HOk P w H' s'.heap) :
  Un fs [] H (unlend cs H') s.heap s'.heap/\L2.HOk P w (unlend cs H') s'.heap/\∀c∈cs,∃o v,H' c=some (.frz o exT)/\o.data=.cell v:=by
 have ci:∀c∈cs,∃o v,H' c=some (.frz o exT)/\s.heap.get? c=some o/\s'.heap.get? c=some o/\o.data=.cell v:=λc h=>by obtain⟨_,o,v,ho,hd⟩:=hc c h;have e:=un.frzs c o exT (BO h ho);exact⟨o,v,e,ho,(hok c _ e).1,hd⟩
 have nin:∀{b:aD}{u:HO},H b=some u->b∉cs:=λ{b u} e z=>by rw[(hc b z).1]at e;cases e
 have nin':∀{b:aD}{u:HO},H' b=some u->(∀o v,u=.frz o exT->o.data≠.cell v)->b∉cs:=λ{b u} e k z=>by obtain⟨o,v,e1,_,_,hd⟩:=ci b z;rw[e]at e1;cases e1;exact k o v rfl hd
 refine⟨⟨λb o e n hb hx=>?_,λb o e n hb hx=>?_,λb o e n hx=>?_,un.there,λb xs e=>?_,λb o u e=>?_,λb q e=>?_⟩,λb u e=>?_,λc h=>let ⟨o,v,e,_,_,d⟩:=ci c h;⟨o,v,e,d⟩⟩
 . by_cases hbc:b∈cs
   . obtain⟨o',v,_,e1,e2,_⟩:=ci b hbc;rw[e]at e1;cases e1;exact e2
   . exact un.keep b o e (by rw[yS hbc];exact n) hb hx
 . by_cases hbc:b∈cs
   . obtain⟨o',v,_,e1,e2,_⟩:=ci b hbc;rw[e]at e1;cases e1;exact⟨o.slots,e2⟩
   . exact un.slot b o e (by rw[yS hbc];exact n) hb hx
 . by_cases hbc:b∈cs
   . exact GH hbc
   . rw[jP hbc];exact un.free b o e (by rw[yS hbc];exact n) hx
 . rw[jP (nin e)];exact un.tups b xs (by rw[yS (nin e)];exact e)
 . rw[jP (nin e)];exact un.frzs b o u (by rw[yS (nin e)];exact e)
 . rw[jP (nin e)];exact un.tbls b q (by rw[yS (nin e)];exact e)
 . by_cases hbc:b∈cs
   . rw[GH hbc]at e;cases e
   . rw [jP hbc]at e;refine (hok b u e).stay (λ_ _ _ q=>q) (λc q=>?_) λc xs q=>?_
     . rw[jP (nin' q λo v z=>by cases z)];exact q
     . rw[jP (nin' q λo v z=>?_)];exact q;obtain⟨x,hx⟩:=xs;have z:x=.frz o exT:=z;subst z;obtain⟨ws,hw⟩:=hx;rw[hw];exact λz=>by cases z
end
section
variable{K:Frag}{H:Hp}{O:aD->Prop}{cs:List aD}
def GX{a:aD}{u:HO}(hc:∀c∈cs,∃o,H c=some (.frz o exT))(h1:∀o w,u≠.frz o w)(h2:∀φ,u≠.ext φ)(h:Rd H a u):Rd (unlend cs H) a u:=by
 have na:a∉cs:=λz=>by
  obtain⟨o,e⟩:=hc a z;rcases h with h|⟨o',h⟩
  . rw[e]at h;cases h;exact h1 _ _ rfl
  . rw[e]at h;cases h;exact h2 _ rfl
 rcases h with h|⟨o,h⟩
 . exact .inl (by rw[jP na];exact h)
 . exact .inr ⟨o,by rw[jP na];exact h⟩
def IF{a:aD}{u:HO}(hc:∀c∈cs,∃o,H c=some (.frz o exT))(h1:∀o w,u≠.frz o w)(h:H a=some u):unlend cs H a=some u:=by rw[jP λz=>?_];exact h;obtain⟨o,e⟩:=hc a z;rw[e]at h;cases h;exact h1 _ _ rfl
mutual
theorem Rep.unlend(hc:∀c∈cs,∃o,H c=some (.frz o exT)):∀{v:V}{d:D},noclo d=true->Rep K H O v d->Rep K (FL.unlend cs H) O v d
 |_,_,_,.non=>.non
 |_,_,_,.bl b=>.bl b
 |_,_,_,.int i=>.int i
 |_,_,_,.str x=>.str x
 |_,_,f,.tup n h r=>.tup n (GX hc (λ_ _ z=>by cases z) (λ_ z=>by cases z) h) (Reps.unlend hc (by simpa[noclo]using f) r)
 |_,_,f,.tupK h r=>.tupK h (Reps.unlend hc (by simpa[noclo]using f) r)
 |_,_,f,.lst n h r=>.lst n (GX hc (λ_ _ z=>by cases z) (λ_ z=>by cases z) h) (Reps.unlend hc (by simpa[noclo]using f) r)
 |_,_,f,.lstK h r=>.lstK h (Reps.unlend hc (by simpa[noclo]using f) r)
 |_,_,f,.dct n h e r=>.dct n (IF hc (λ_ _ z=>by cases z) h) e (Reps.unlend hc (by simpa[noclo]using f) r)
 |_,_,f,.dcf n h e r=>by simp[noclo]at f
 |_,_,f,.ins c n h e r=>.ins c n (IF hc (λ_ _ z=>by cases z) h) e (Reps.unlend hc (by simpa[noclo]using f) r)
 |_,_,f,.clo _ _ _ _ _ _=>by simp[noclo]at f
 |_,_,f,.fnK _=>by simp[noclo]at f
theorem Reps.unlend(hc:∀c∈cs,∃o,H c=some (.frz o exT)):∀{v:List V}{d:List D},nF d=true->Reps K H O v d->Reps K (FL.unlend cs H) O v d
 |_,_,_,.nil=>.nil
 |_,_,f,.cons h t=>by simp only[nF,bJ]at f;exact .cons (Rep.unlend hc f.1 h) (Reps.unlend hc f.2 t)
end
end
def PAl(X:Cx)(es:List Expr)(g:FA)(t:LamT)(cl:List (Str×aD)):Prop:=∃tA,PA X es tA/\∀H₀ H O σ ds hd l Q,Ok X.K H₀ H O σ ds hd->g ds=some l->(∀vs f H1,Same H H1->Reps X.K H1 jE vs l->LamAt H1 jE f t cl->Q (vs++[.ref f]) H1)->tA σ H Q
def LamAt.mono{H H':Hp}{O:aD->Prop}{f:aD}{t:LamT}{cl:List (Str×aD)}(k:Same H H')(h:LamAt H O f t cl):LamAt H' O f t cl:=h.keep (.of_same k)
def pal_one{params:Arguments}{body:Expr}{scope:Scope}{pos:Pos}{x:Str}{c P:aD}(hx:x∈makers)(ht:tabM X.K x=some (c,P))(hcode:X.env.code=.ref c)(hq:lP X.K x pos.line pos.col=X.env.qual++"<lambda>")(hfree:∀y∈scope.names,y.2=hV.free->(X.env.kindOf y.1=some .cell\/X.env.kindOf y.1=some .free))(hdef:defaultsOf params X.env=([],[]):=by rfl)(hs:aF [.Lambda params body scope pos] X.env=(false,bU (.Lambda params body scope pos) X.env)::aF [] X.env:=by rfl) :
  PAl X [.Lambda params body scope pos] zS ⟨X.env.qual++"<lambda>",params,.expr body,scope⟩ (jL X.env scope.names []):=
 ⟨_,jA (pe_lam hx ht hcode hq hdef hfree) yP hs,λH₀ H O σ ds hd l Q o e q f H1 sm la=>by cases e;exact q [] f H1 sm .nil la⟩
def DO{e:Expr}{es:List Expr}{f:FE}{g:FA}{t:LamT}{cl:List (Str×aD)}(h1:PVn X e f)(h2:PAl X es g t cl)(hs:aF (e::es) X.env=(false,bU e X.env)::aF es X.env:=by rfl):PAl X (e::es) (zA f g) t cl:=by obtain⟨t1,p1,r1⟩:=h1;obtain⟨t2,p2,r2⟩:=h2;refine⟨_,jA p1 p2 hs,λH₀ H O σ ds hd l Q o e q=>?_⟩;unfold zA at e;obtain⟨d,ha,e⟩:=bnd e;obtain⟨l2,hb,rfl⟩:=mpd e;refine r1 H₀ H O σ ds hd d _ o ha λv H1 s1 rv=>?_;exact r2 H₀ H1 O σ ds hd l2 _ (o.mono s1) hb λvs f H2 s2 rvs la=>q (v::vs) f H2 (s1.trans s2) (.cons (rv.mono s2) rvs) la
theorem UZ{aC:List (aD×Obj)}{σ:L2.St}{H H₀:Hp}{s:aY}{O:aD->Prop}{ds:List Sl}{hd:Hold}{cs:List aD}(I:Inv X aC σ H s)(o:Ok X.K H₀ H O σ ds hd)(sm:Same H (lend s.heap cs H)) :
  ∀{cl:List (Str×aD)}{is:List Nat}{caps:List D},(∀p∈cl,X.env.cells.lookup p.1=some p.2/\X.env.kindOf p.1=some .cell/\p.2∈cs)->(is.map λi=>X.N[i]?)=(cl.map (·.1)).map some->capsA is ds=some caps →
   ∃xs,ClosOk (lend s.heap cs H) jE cl xs/\Reps X.K (lend s.heap cs H) jE xs caps
 |[],[],caps,_,_,e=>by cases e;exact⟨[],.nil,.nil⟩
 |[],_::_,_,_,h,_=>by cases h
 |_::_,[],_,_,h,_=>by cases h
 |p::cl,i::is,caps,hcl,h,e=>by
   simp only[aK,List.cons.injEq]at h;unfold capsA at e;obtain⟨d,h1,e⟩:=bnd e;obtain⟨l,h2,rfl⟩:=mpd e;obtain⟨xs,k1,k2⟩:=UZ I o sm (λq hq=>hcl q (aH _ hq)) h.2 h2;have hsl:ds[i]?=some (.v d):=by
    unfold zW at h1;split at h1
    . rename_i d' hd';cases h1;exact hd'
    . cases h1
   obtain⟨v,hv,rv⟩:=o.read hsl;obtain⟨c1,c2,c3⟩:=hcl p aE;obtain⟨m,hn,hl⟩:=I.loc;obtain⟨u,ru,lk⟩:=hl i p.1 v h.1 hv (.inr (.inl c2));have hcell:∃oc,s.heap.get? p.2=some oc/\oc.data=.cell (some u):=by
    rcases lk with⟨kl,_⟩|⟨_,c',ec,oc,hoc,hocd⟩
    . rw[c2]at kl;cases kl
    . rw[c1]at ec;cases ec;exact⟨oc,hoc,hocd⟩
   obtain⟨oc,hoc,hocd⟩:=hcell;exact⟨v::xs,.cons (n:=p.1) (c:=p.2) id (BO c3 hoc) hocd ru k1,.cons ((rv.less λ_ z=>z.elim).mono sm) k2⟩
def NZ{k n:Nat}{f:aD}{fd:bE}{ps:List Str}{F:List D->Option Ret}{x:Str}{p pos:Pos}{e:Expr}{es:List Expr}{g:FA}{m j:Nat}{is:List Nat}{t:LamT}{scope:Scope}{r:Ret}{ds:List Sl}{l caps:List D}(Fn:FnOk X.prog X.w X.K X.mg X.base CX0 k f fd ps (spF X.K n F))(hr:Room k X.A)(hm:X.mg x=some (.ref f))(hk:bO X.K (.ref f)=true)(hb:Binds X.K fd ps [])(ha:PAl X (e::es) g t (jL X.env scope.names []))(htx:nX X.K m j=some t)(hsc:t.scope=scope)(hfn:∀x,X.fn x=true)(hfree:∀y∈scope.names,y.2=hV.free->X.env.kindOf y.1=some .cell)(hnd:(freeR scope.names).Nodup)(his:(is.map λi=>X.N[i]?)=(freeR scope.names).map some)(hg:Gl X x)(hdb:(x==("__debug__" : Str))=false)(he:aF (e::es) X.env=(false,bU e X.env)::aF es X.env)(hpl:(cY pos (aF es X.env)).any (·.1)=false){aC:List (aD×Obj)}{s:aY}{σ:L2.St}{H H₀:Hp}{O:aD->Prop}{hd:Hold}{Q:VK}(I:Inv X aC σ H s)(o:Ok X.K H₀ H O σ ds hd)(hl:g ds=some l)(hcp:capsA is ds=some caps)(hn:l.length+1=n)(hF:F (l++[.clo m j caps])=some r)(hnc:ncR r=true)(q:∀v H',Same H H'->RetOk X.K H H' v r->Q v H'):bP (bK X.prog X.w) X.A (bU (.Call (.Name x p) (e::es) [] pos) X.env) (EP X aC σ Q) X.xe s:=by
 obtain⟨tA,pA,rA⟩:=ha;refine eO (BP I hg hm ?_ hdb);refine mE (h₀:=X.base) I.ok.mod.kin hk (thn (pA pos aC s σ H (λws H1=>∃vs f',ws=vs++[.ref f']/\Same H H1/\Reps X.K H1 jE vs l/\LamAt H1 jE f' t (jL X.env scope.names [])) I (rA H₀ H O σ ds hd l _ o hl λvs f' H1 s1 r1 la=>⟨vs,f',rfl,s1,r1,la⟩)) λus s1 ⟨ws,H1,I1,rw_,vs,f',hws,sm1,rvs,la⟩=>⟨I1.kIn,?_⟩) he hpl;subst hws;have hcell:∀pr∈jL X.env scope.names [],X.env.cells.lookup pr.1=some pr.2/\X.env.kindOf pr.1=some .cell/\pr.2∈(jL X.env scope.names []).map (·.2):=λpr hp=>by
  rcases IA _ _ pr hp with z|z
  . cases z
  . exact⟨z.1,hfree _ z.2 rfl,RO hp⟩
 have hnm:(jL X.env scope.names []).map (·.1)=freeR scope.names:=by have:=AQ (env:=X.env) scope.names [] λy hy hk=>I1.ok.has y.1 (.inl (hfree y hy hk));simpa using this
 obtain⟨e0,sm2,hc⟩:=lend_ok (cs:=(jL X.env scope.names []).map (·.2)) I1 (λc hc=>by
  obtain⟨pr,hp,rfl⟩:=bG.mp hc
  exact⟨pr.1,(hcell pr hp).1⟩) hfn
 obtain⟨xs,hcl,hxs⟩:=UZ I1 (o.mono sm1) sm2 hcell (by rw[hnm];exact his) hcp;have hrep:Rep X.K (lend s1.heap ((jL X.env scope.names []).map (·.2)) H1) jE (.ref f') (.clo m j caps):=.clo htx (la.mono sm2) (by rw[hsc];exact hnm) (HG (by rw[hnm];exact hnd) λa ha b hb e=>I1.ok.inj a.1 b.1 a.2 (hcell a ha).1 (by rw[e];exact(hcell b hb).1)) hcl hxs;have hrs:Reps X.K (lend s1.heap ((jL X.env scope.names []).map (·.2)) H1) jE (vs++[.ref f']) (l++[.clo m j caps]):=(rvs.mono sm2).append (.cons hrep .nil);have hln:(vs++[V.ref f']).length=n:=by rw[bS,rvs.length];exact hn
 have sp:spF X.K n F (vs++[.ref f']) (lend s1.heap ((jL X.env scope.names []).map (·.2)) H1) (λv H'=>Same (lend s1.heap ((jL X.env scope.names []).map (·.2)) H1) H'/\RetOk X.K (lend s1.heap ((jL X.env scope.names []).map (·.2)) H1) H' v r) E0:=⟨hln,_,r,hrs,hF,λv H' a b=>⟨a,b⟩⟩
 have hl2:us.length=ps.length:=by rw[<-rw_.length];exact Fn.len _ _ _ _ sp
 have bd:=hb s1 us I1.kIn (by rw[cO];exact hl2);rw[cO]at bd;refine BA (iF (Fn.run X.A X.stack s1 _ ⟨us,[]⟩ us _ _ E0 hr e0 bd rw_ sp) λrr s' hq=>?_);cases rr with
 |error e=>exact hq.elim
 |ok fl=>
   cases fl with
   |next=>exact False.elim hq
   |brk=>exact False.elim hq
   |cont=>exact False.elim hq
   |ret u=>
     obtain⟨v,H',os,bare,un,hok,rv,sm3,ro⟩:=hq;obtain⟨un',hok',hcf⟩:=XB hc un hok;have hcf':∀c∈(jL X.env scope.names []).map (·.2),∃o,H' c=some (.frz o exT):=λc h=>let ⟨o,_,e,_⟩:=hcf c h;⟨o,e⟩;have nin:∀{b:aD}{u:HO},H1 b=some u->b∉(jL X.env scope.names []).map (·.2):=λ{b u} e z=>by rw[(hc b z).1]at e;cases e
     have sm4:Same H1 (unlend ((jL X.env scope.names []).map (·.2)) H'):=λb u e=>by rw[jP (nin e)];exact sm3 _ _ (sm2 _ _ e)
     have hold:∀a,Old H a->Old (lend s1.heap ((jL X.env scope.names []).map (·.2)) H1) a:=λa z=>(z.mono sm1).mono sm2;refine⟨v,_,I1.call' (ch:=[]) os un' hok' bare (λb z=>by cases z),rv,q v _ (sm1.trans sm4) ?_⟩;cases r with
     |val d=>exact(Rep.less hold ro).unlend hcf' hnc
     |any d=>exact Rep.unlend hcf' hnc ro
     |obj t=>cases hnc
     |fresh l'=>
       obtain⟨a,ys,rfl,h1,h2,h3⟩:=ro;have na:a∉(jL X.env scope.names []).map (·.2):=λz=>by obtain⟨_,ob,_,hob,_⟩:=hc a z;rw[BO z hob]at h1;cases h1
       refine⟨a,ys,rfl,sm1.free (by rw[yS na]at h1;exact h1),by rw[jP na];exact h2,?_⟩;exact Reps.unlend hcf' hnc (h3.less λb z=>z.elim .inl λz=>.inr (hold b z))
open PySem.W (tabIn CodeHd tabObj kla_callFunE kla_codeExpr FnAt callWith_F envX)
structure Mkr(K:Frag)(x:Str)(m:Nat)(st:Stmt)(f c P:aD):Prop where
 mem:makers[m]?=some x
 tab:tabM K x=some (c,P)
 tx:∀n,nX K m n=(JU x (qG st))[n]?
 inq:∀l c,lP K x l c=x++".<locals>."++DY (qG st) l c
 cd:∀oc od fd sl,K.lookup f=some ⟨oc,od,.func fd,sl⟩->fd.code=.ref c
def aCu{K:Frag}{st:Stmt}{kV doc pm cdv ct:aI}(hm:makers[m]?=some x)(a:aQ K mainGlobals x=some (some (.ref f)))(l:K.lookup f=some ⟨oc,od,.func (cV x qual (yF st) (qG st) (zI st) .none kV doc pm an cdv ct),sl⟩)(h3:cdv=.ref c)(h4:K.lookup c=some ⟨oc',od',.fields vs,sl'⟩)(h5:(vs[11]?:Option aI)=some (.ref P))(hn:meths.lookup x=none:=by rfl):Mkr K x m st f c P:=by
 subst h3;have a:fnAt K x=some (some (.ref f)):=by unfold fnAt;rw[hn];exact a
 refine⟨hm,by unfold tabM;simp[a,l,h4,h5],λn=>by unfold nX;simp[hm,aO,a,l],λ_ _=>by unfold lP;simp[a,l],λoc2 od2 fd2 sl2 e=>?_⟩;rw[l]at e;cases e;rfl
def mkr_met{K:Frag}{st:Stmt}{kV doc pm cdv ct:aI}(hm:makers[m]?=some x)(hn:meths.lookup x=some (C,y))(a0:aQ K mainGlobals C=some (some v))(a:cB K v y=some (some (.ref f)))(l:K.lookup f=some ⟨oc,od,.func (cV y qual (yF st) (qG st) (zI st) .none kV doc pm an cdv ct),sl⟩)(h3:cdv=.ref c)(h4:K.lookup c=some ⟨oc',od',.fields vs,sl'⟩)(h5:(vs[11]?:Option aI)=some (.ref P)):Mkr K x m st f c P:=by
 subst h3;have a:fnAt K x=some (some (.ref f)):=by unfold fnAt;simp[hn,a0,a]
 refine⟨hm,by unfold tabM;simp[a,l,h4,h5],λn=>by unfold nX;simp[hm,aO,a,l],λ_ _=>by unfold lP;simp[a,l],λoc2 od2 fd2 sl2 e=>?_⟩;rw[l]at e;cases e;rfl
def KC{K:Frag}{st:Stmt}(Fn:Fun K x qual st f fd)(S:FnScope N ps (zI st))(M:Mkr K x' m st f c Q)(hbody:∀A outer s H E,Room k (A.deeper (iW qual (zI st) s.heap.objs.size f (.ref c)))->PSsv (cxOf CX0 P w K mg base N qual (zI st) f (.ref c) A outer s H E).nox (qG st) g)(hg:∀ds r,ds.length=ps.length->F ds=some r->Does g N.length ds r):FnOk P w K mg base CX0 (k+1) f fd ps (spF K ps.length F):=by
 obtain⟨oc,od,kV,doc,pm,an,cdv,ct,osl,rfl,lk,hcd⟩:=Fn.ex;obtain rfl:cdv=.ref c:=M.cd _ _ _ _ lk;refine fn_of lk hcd S (λvs H Q E h=>h.1) λA outer s H vs Q E hr h=>?_;obtain⟨hl,ds,r,rv,e,q⟩:=h;obtain⟨t,ht,hf⟩:=hbody A outer s H E hr;refine⟨t,ht.nox,?_⟩;have o:=DS (N:=N) rv;rcases hg ds r (by rw[<-rv.length];exact hl) e with e'|⟨rfl,ds',e'⟩
 . exact hf H H jE _ _ [] _ _ o e' (λv H' s r _=>q v H' s r)
 . exact hf H H jE _ _ [] _ _ o e' (λσ H' O o'=>q .non H' o'.same .non)
noncomputable def lamCk(sc esc:Scope)(is:List Nat)(N:List Str):Bool:=(sc.names.all λy=>y.2 != hV.free||esc.names.lookup y.1==some hV.cell)&&decide (freeR sc.names).Nodup&&decide ((is.map λi=>N[i]?)=(freeR sc.names).map some)
def DN{st:Stmt}(M:Mkr X.K x m st f c P)(ck:lamCk scope X.env.scope is X.N=true)(hcode:X.env.code=.ref c:=by rfl)(hqu:X.env.qual=x++".<locals>.":=by rfl)(hi:DY (qG st) pos.line pos.col = "<lambda>":=by rfl)(hdef:defaultsOf params X.env=([],[]):=by rfl)(hs:aF [.Lambda params body scope pos] X.env=(false,bU (.Lambda params body scope pos) X.env)::aF [] X.env:=by rfl) :
  PAl X [.Lambda params body scope pos] zS ⟨x++".<locals>."++"<lambda>",params,.expr body,scope⟩ (jL X.env scope.names []):=by
 rw[<-hqu];refine pal_one (eM M.mem) M.tab hcode (by rw[M.inq,hi,hqu]) (λy hy hk=>.inl ?_) hdef hs;unfold lamCk at ck;simp only[bJ]at ck;have:=eE.mp ck.1.1 y hy;rw[hk]at this;simp[bne_self_eq_false,nK,beq_iff_eq]at this;exact this
section
variable{st:Stmt}
def MF(C:Cal X.prog X.w X.K X.mg X.base x k n F)(hr:Room j' X.A)(M:Mkr X.K y m st f c P)(ha:PAl X (e::es) g t (jL X.env t.scope.names []))(htx:(JU y (qG st))[j]?=some t)(ck:lamCk t.scope X.env.scope is X.N=true)(hj:k<=j':=by decide)(hfn:∀x,X.fn x=true:=by exact λ_=>rfl)(hg:Gl X x:=by rfl)(hdb:(x==("__debug__" : Str))=false:=by decide)(he:aF (e::es) X.env=(false,bU e X.env)::aF es X.env:=by rfl)(hpl:(cY pos (aF es X.env)).any (·.1)=false:=by rfl) :
  PV X (.Call (.Name x p) (e::es) [] pos) (qZ n (ncF F) (lamA m j is g)):=by
 obtain⟨f',fd,ps,Fn,hb,hk,hm⟩:=C.ex;refine⟨λσ H Q=>∀aC s,Inv X aC σ H s->bP (bK X.prog X.w) X.A (bU (.Call (.Name x p) (e::es) [] pos) X.env) (EP X aC σ Q) X.xe s,λaC s σ H Q I h=>h aC s I,λH₀ H O σ ds hd d Q o ee q aC s I=>?_⟩;unfold qZ lamA at ee;unfold lamCk at ck;simp only[bJ,decide_eq_true_eq]at ck;cases hl:g ds with
 |none=>rw[hl]at ee;cases ee
 |some l=>
   cases hc:capsA is ds with
   |none=>rw[hl,hc]at ee;cases ee
   |some caps=>
     rw[hl,hc]at ee;simp only[aO,bW]at ee;split at ee
     . rename_i hn;unfold ncF at ee;cases hF:F (l++[.clo m j caps])with
       |none=>rw[hF]at ee;cases ee
       |some r=>
         rw[hF]at ee;simp[aO]at ee;by_cases hnc:ncR r=true
         . rw[if_pos hnc]at ee;refine NZ Fn (hr.mono hj) hm hk hb ha ((M.tx j).trans htx) rfl hfn (λy hy hk=>?_) ck.1.2 ck.2 hg hdb he hpl I o hl hc (by simpa using hn) hF hnc λv H' s' ro=>q v H' s' (sP ro ee λa ha=>o.old ha);have:=eE.mp ck.1.1 y hy;rw[hk]at this;simp[bne_self_eq_false,nK,beq_iff_eq]at this;exact this
         . rw[if_neg hnc]at ee;cases ee
     . cases ee
def WC(C:Cal X.prog X.w X.K X.mg X.base x k n F)(hr:Room j' X.A)(M:Mkr X.K y m st f c P)(ha:PAl X (e::es) g t (jL X.env t.scope.names []))(htx:(JU y (qG st))[j]?=some t)(ck:lamCk t.scope X.env.scope is X.N=true)(hj:k<=j':=by decide)(hfn:∀x,X.fn x=true:=by exact λ_=>rfl)(hg:Gl X x:=by rfl)(hdb:(x==("__debug__" : Str))=false:=by decide)(he:aF (e::es) X.env=(false,bU e X.env)::aF es X.env:=by rfl)(hpl:(cY pos (aF es X.env)).any (·.1)=false:=by rfl) :
  PVf X (.Call (.Name x p) (e::es) [] pos) (yY n (ncF F) (lamA m j is g)):=by
 obtain⟨f',fd,ps,Fn,hb,hk,hm⟩:=C.ex;refine⟨λσ H Q=>∀aC s,Inv X aC σ H s->bP (bK X.prog X.w) X.A (bU (.Call (.Name x p) (e::es) [] pos) X.env) (EP X aC σ Q) X.xe s,λaC s σ H Q I h=>h aC s I,λH₀ H O σ ds hd d Q o ee q aC s I=>?_⟩;unfold yY lamA at ee;unfold lamCk at ck;simp only[bJ,decide_eq_true_eq]at ck;cases hl:g ds with
 |none=>rw[hl]at ee;cases ee
 |some l=>
   cases hc:capsA is ds with
   |none=>rw[hl,hc]at ee;cases ee
   |some caps=>
     rw[hl,hc]at ee;simp only[aO,bW]at ee;split at ee
     . rename_i hn;unfold ncF at ee;cases hF:F (l++[.clo m j caps])with
       |none=>rw[hF]at ee;cases ee
       |some r=>
         rw[hF]at ee;simp[aO]at ee;by_cases hnc:ncR r=true
         . rw [if_pos hnc]at ee;refine NZ Fn (hr.mono hj) hm hk hb ha ((M.tx j).trans htx) rfl hfn (λy hy hk=>?_) ck.1.2 ck.2 hg hdb he hpl I o hl hc (by simpa using hn) hF hnc λv H' s' ro=>?_
           . have:=eE.mp ck.1.1 y hy;rw[hk]at this;simp[bne_self_eq_false,nK,beq_iff_eq]at this;exact this
           . obtain⟨a,xs,rfl,h3,h4,h5⟩:=BK ro ee λa ha=>o.old ha;exact q a xs H' s' h3 h4 h5
         . rw[if_neg hnc]at ee;cases ee
     . cases ee
end
structure LamScope(ps:List Str)(sc:Scope):Prop where
 kind:sc.kind=.function
 co:sc.isCoroutine=false
 gen:sc.isGenerator=false
 nocell:∀y∈sc.names,y.2≠hV.cell
 par:∀x∈ps,sc.names.lookup x=some .local
 fre:∀x∈freeR sc.names,sc.names.lookup x=some .free
 nd:(ps++freeR sc.names).Nodup
noncomputable def lamSc(ps:List Str)(sc:Scope):Bool:=sc.kind==.function&&!sc.isCoroutine&&!sc.isGenerator&&(sc.names.all λy=>y.2 != hV.cell)&&(ps.all λx=>sc.names.lookup x==some .local)&&((freeR sc.names).all λx=>sc.names.lookup x==some .free)&&decide (ps++freeR sc.names).Nodup
def uC(h:lamSc ps sc=true):LamScope ps sc:=by unfold lamSc at h;simp only[bJ,YW,beq_iff_eq,decide_eq_true_eq,eE,bne_iff_ne,ne_eq]at h;exact⟨h.1.1.1.1.1.1,h.1.1.1.1.1.2,h.1.1.1.1.2,h.1.1.1.2,h.1.1.2,h.1.2,h.2⟩
noncomputable def lamCx(P:bY)(w:cU)(K:Frag)(mg:Str->Option aI)(base:Heap)(ps:List Str)(t:LamT)(f:aD)(cd:aI)(cl:List (Str×aD))(A:dP)(outer:List Env)(s:aY)(H:Hp):Cx where
 prog:=P
 w:=w
 K:=K
 mg:=mg
 base:=base
 A:=A.deeper (envX t.qual t.scope s.heap.objs.size f cd cl)
 N:=ps++freeR t.scope.names
 s₀:=s
 H₀:=H
 env:=envX t.qual t.scope s.heap.objs.size f cd cl
 outer:=outer
 stack:=envX t.qual t.scope s.heap.objs.size f cd cl::outer
 ex:=[]
 fn:=λ_=>false
 calm:=true
 pn:=[]
 xe:=λ_ _=>False
theorem wJ{α:Type}:∀{l:List (Str×α)}{x:Str}{a:α},(l.map (·.1)).Nodup->(x,a)∈l->l.lookup x=some a
 |[],_,_,_,h=>by cases h
 |(y,b)::r,x,a,nd,h=>by
   rw[aK,bC]at nd;rw[cC];rcases aA.mp h with e|e
   . cases e;simp
   . have:(x==y)=false:=beq_eq_false_iff_ne.mpr λz=>nd.1 (by rw[<-z];exact bG.mpr ⟨_,e,rfl⟩);rw[this];exact wJ nd.2 e
theorem RY:∀{l:List (Str×aD)}{x y:Str}{a:aD},(l.map (·.2)).Nodup->(x,a)∈l->(y,a)∈l->x=y
 |[],_,_,_,_,h,_=>by cases h
 |p::r,x,y,a,nd,h1,h2=>by
   rw[aK,bC]at nd;rcases aA.mp h1 with e1|e1<;>rcases aA.mp h2 with e2|e2
   . rw[<-e1]at e2;cases e2;rfl
   . exact(nd.1 (by rw[<-e1];exact bG.mpr ⟨_,e2,rfl⟩)).elim
   . exact(nd.1 (by rw[<-e2];exact bG.mpr ⟨_,e1,rfl⟩)).elim
   . exact RY nd.2 e1 e2
theorem ClosOk.mem:∀{cl:List (Str×aD)}{xs:List V},ClosOk H O cl xs->∀{p:Str×aD},p∈cl->∃o u w,H p.2=some (.frz o u)/\o.data=.cell (some w)
 |_,_,.nil,_,h=>by cases h
 |_,_,.cons no h d r t,p,hp=>by
   rcases aA.mp hp with e|e
   . subst e;exact⟨_,_,_,h,d⟩
   . exact t.mem e
theorem ClosOk.get:∀{cl:List (Str×aD)}{xs:List V},ClosOk H O cl xs->∀{i:Nat}{v:V},xs[i]?=some v->∃p o u w,cl[i]?=some p/\H p.2=some (.frz o u)/\o.data=.cell (some w)/\RelV v w
 |_,_,.nil,_,_,h=>by cases h
 |_,_,.cons no h d r t,0,v,hv=>by cases hv;exact⟨_,_,_,_,rfl,h,d,r⟩
 |_,_,.cons no h d r t,i+1,v,hv=>t.get hv
theorem ClosOk.length:∀{cl:List (Str×aD)}{xs:List V},ClosOk H O cl xs->cl.length=xs.length
 |_,_,.nil=>rfl
 |_,_,.cons no h d r t=>by simp[t.length]
def MY{ps:List Str}{i:Nat}{u:aI}(h1:ps[i]?=some x)(h2:us[i]?=some u):(x,u)∈(ps.zip us).reverse:=by rw[fV];refine eM (i:=i) ?_;rw[List.getElem?_zip_eq_some];exact⟨h1,h2⟩
theorem AG:∀{ps:List Str}{us:List aI},us.length=ps.length->(ps.zip us).map (·.1)=ps
 |[],_,_=>by simp
 |p::ps,[],h=>by cases h
 |p::ps,u::us,h=>by simp only[List.zip_cons_cons,aK,List.cons.injEq,true_and];exact AG (by simpa using h)
def inv_lam{K:Frag}(S:LamScope ps t.scope)(hd:A.handled=none)(e0:Env0 P w K mg base A outer s H)(hl:us.length=ps.length)(r:Vals vs us)(hcl:cl.map (·.1)=freeR t.scope.names)(hnd:(cl.map (·.2)).Nodup)(hco:ClosOk H O cl xs)(hns:h₁.Ns s.heap.objs.size (λx=>(ps.zip us).reverse.lookup x))(hk:∀b o,s.heap.get? b=some o->h₁.get? b=some o):Inv (lamCx P w K mg base ps t f cd cl A outer s H) [] ((vs++xs).map some) H {s with heap:=h₁,toks:=tk}:=by
 have ndN:(cl.map (·.1)).Nodup:=by rw[hcl];exact(cI.mp S.nd).2.1
 have ndP:=(cI.mp S.nd).1;have hvl:vs.length=ps.length:=by rw[r.length];exact hl
 have cellAt:∀y c,cl.lookup y=some c->∃o u v,H c=some (.frz o u)/\o.data=.cell (some v)/\s.heap.get? c=some o:=λy c h=>by obtain⟨o,u,v,h1,h2⟩:=hco.mem (cL h);exact⟨o,u,v,h1,h2,(e0.hok _ _ h1).1⟩
 have noA:∀{b:aD}{p:Prop},b∈([]:List aD)->p:=λz=>by cases z
 refine⟨⟨e0.mod,S.kind,rfl,rfl,aT _,λy z c h1 h2=>RY hnd (cL h1) (cL h2),λy hy=>?_,(λy c hf=>by cases hf),λ_=>hd,dP.frames_deeper e0.frames,.inr ⟨rfl,rfl⟩,λb z=>noA z,e0.bs,e0.bsz,λb _ _ z=>noA z,λb z=>noA z,e0.funs,e0.frf⟩,
  rfl,e0.bare,Un.kept hk,⟨_,hns,λi y v h1 h2 h3=>?_⟩,λy c h=>?_,e0.hok.fresh (aT _),λy c h=>?_,λp hp=>(by cases(hp)),e0.hok.kept hk,?_⟩
 . have hy:t.scope.names.lookup y=some .cell\/t.scope.names.lookup y=some .free:=hy;rcases hy with hy|hy
   . exact absurd rfl (S.nocell _ (cL hy))
   . have:y∈cl.map (·.1):=by
      rw[hcl];unfold freeR;rw[fV];exact bG.mpr ⟨(y,.free),cT.mpr ⟨cL hy,rfl⟩,rfl⟩
     obtain⟨p,hp,rfl⟩:=bG.mp this;exact⟨p.2,wJ ndN hp⟩
 . have h1:(ps++freeR t.scope.names)[i]?=some y:=h1;rw [aP]at h2;by_cases hi:i<ps.length
   . rw [bA hi]at h1;rw [bA (by rw [hvl];exact hi)]at h2;cases hv:vs[i]? with
     |none=>rw[hv]at h2;cases h2
     |some v'=>rw[hv]at h2;cases h2;obtain⟨u,hu,ru⟩:=r.get hv;refine⟨u,ru,.inl ⟨S.par y (eM h1),?_⟩⟩;refine wJ ?_ (MY h1 hu);rw[AT,AG hl];exact pB.mpr (ndP.imp λh=>Ne.symm h)
   . have hi':ps.length<=i:=Nat.le_of_not_lt hi;rw [bZ hi']at h1;rw [bZ (by rw [hvl];exact hi'),hvl]at h2;cases hv:xs[i - ps.length]? with
     |none=>rw[hv]at h2;cases h2
     |some v'=>
       rw[hv]at h2;cases h2;obtain⟨p,o,u,wv,g1,g2,g3,g4⟩:=hco.get hv;have hy:p.1=y:=by
        have:(cl.map (·.1))[i-ps.length]?=some p.1:=by rw[aP,g1];rfl
        rw[hcl,h1]at this;exact(Option.some.inj this).symm
       subst hy;refine⟨wv,g4,.inr ⟨.inr (S.fre _ (eM h1)),p.2,wJ ndN (eM g1),o,hk _ _ (e0.hok _ _ g2).1,g3⟩⟩
 . obtain⟨o,u,v,h1,h2,h3⟩:=cellAt y c h;exact⟨_,o,hk _ _ h3,h2⟩
 . obtain⟨o,u,v,h1,h2,h3⟩:=cellAt y c h;exact .inr ⟨rfl,o,u,h1⟩
 . show((vs++xs).map some).length=(ps++freeR t.scope.names).length;rw[cA,bS,bS,hvl,<-hcl,cA,hco.length]
def ok_vals{K:Frag}(r:Reps K H jE vs ds):Ok K H H jE (vs.map some) (ds.map Sl.v) []:=by
 have no:∀i,IsOwn (ds.map Sl.v) i->False:=λi ⟨l,e⟩=>by
  rw[aP]at e;cases h:ds[i]? with
  |none=>rw[h]at e;cases e
  |some d=>rw[h]at e;cases e
 refine⟨Same.refl _,λi l a e _=>(no i ⟨l,e⟩).elim,λ_ z=>z.elim,by simp[r.length],λi s e=>?_,λi j a _ hi _ _ _=>no i hi,(λp hp=>nomatch hp),.no λi r t e=>by
  rw[aP]at e;cases h:ds[i]? with
  |none=>rw[h]at e;cases e
  |some d=>rw[h]at e;cases e⟩
 rw[aP]at e;obtain⟨d,h,rfl⟩:=mpd e;obtain⟨v,h1,h2⟩:=r.get h;rw[aP,h1];exact yO h2
def RV{K:Frag}(h:nX K m n=some t):m≠1000:=by
 rintro rfl;have e:makers[1000]?=none:=by decide
 unfold nX at h;cases h
def FnIn(K:Frag)(j:Nat):Prop:=∃(f:aD) (oc:aI) (od:Option aD) (fd:bE) (osl:Array (Option aI)),aQ K mainGlobals (uM j)=some (some (.ref f))/\K.lookup f=some ⟨oc,od,.func fd,osl⟩
structure FnV(K:Frag)(mg:Str->Option aI)(j:Nat):Prop where
 ex:∃f:aD,aQ K mainGlobals (uM j)=some (some (.ref f))/\mg (uM j)=some (.ref f)
def Rep.cloInv{K:Frag}(hm:m≠1000)(h:Rep K H O (.ref f) (.clo m n ds)):∃t cl xs,nX K m n=some t/\LamAt H O f t cl/\cl.map (·.1)=freeR t.scope.names/\(cl.map (·.2)).Nodup/\ClosOk H O cl xs/\Reps K H O xs ds:=by
 cases h with
 |clo tx la e nd hco rx=>exact⟨_,_,_,tx,la,e,nd,hco,rx⟩
 |fnK h=>exact absurd rfl hm
def iQ(P:bY)(w:cU)(K:Frag)(mg:Str->Option aI)(base:Heap)(k m n:Nat)(F:List D->List D->Option Ret):Prop:=∀(A:dP) (outer:List Env) (s:aY) (H:Hp) (f:aD) (caps:List D) (us:List aI) (vs:List V) (as:List D) (r:Ret) (Q:VK),Room k A->Env0 P w K mg base A outer s H →
 Rep K H jE (.ref f) (.clo m n caps)->Vals vs us->Reps K H jE vs as->F caps as=some r->(∀v H',Same H H'->RetOk K H H' v r->Q v H')->gW (bK P w) A (.call (.ref f) ⟨us,[]⟩) (CR CX0 outer P w H s Q E0) s
def DV{K:Frag}(htx:nX K m n=some t)(S:LamScope ps t.scope)(hbd:t.body=.expr body)(hbind:∀fd,fd.params=t.params->fd.defaults=.none->fd.kwdefaults=.none->∀us,us.length=ps.length->pM fd ⟨us,[]⟩=pure (ps.zip us))(hbody:∀f cd cl A outer s H,Room k (A.deeper (envX t.qual t.scope s.heap.objs.size f cd cl))->PVn (lamCx P w K mg base ps t f cd cl A outer s H) body g):iQ P w K mg base (k+1) m n (lamF ps.length g):=by
 intro A outer s H f caps us vs as r Q hr e0 hrep rv ra hF q;unfold lamF at hF;split at hF
 . rename_i hal;obtain ⟨d,hg,hF⟩:=bnd hF;split at hF
   . rename_i hfl;cases hF
     . obtain ⟨t',cl,xs,tx,la,e,nd,hco,rx⟩:=hrep.cloInv (RV htx);rw [htx]at tx;cases tx;obtain ⟨_,o,oc,u,uc,fd,c,wsv,tq,h1,h2,h3,h4,h5,h6,h7,h8,h9,h10,h11,h12,h13,h14,h15,h16,h17⟩:=la;have lim:=e0.mod.nolimit.keeps λb o e=>(e0.bs b o e).1;have ho:=(e0.hok f _ h1).1;have hoc:=(e0.hok c _ h15).1;have hul:us.length=ps.length:=by rw [<-rv.length,ra.length];exact hal
       refine kla_callFunE hr.depth ho h3 (by rw[h7];exact S.co) (by rw[h7];exact S.gen) (h6.trans hbd) ⟨c,oc,wsv,tq,h12,hoc,h16,by rw[h4];exact h17⟩ ?_;rw[hbind fd h5 h10 h11 us hul,h7,h8,h9,h4,h12,h13];refine bV (wpAny_newFunctionEnv S.nocell (λy hy=>S.par _ (oP hy).1) (λh₁ hns hsb=>⟨lim.fresh _ hsb,?_⟩) S.kind);have hk₁:=λb o e=>hsb.extBut b o (bM (aW e)) (aJ _ e);obtain⟨tt,pt,rt⟩:=hbody f (.ref c) cl A outer s H (hr.deeper _);refine kla_codeExpr (eN (pt [] _ _ H (λv H'=>Same H H'/\Rep K H' jE v d) (inv_lam S hr.hd e0 hul rv e nd hco hns hk₁) (rt H H jE _ _ [] d _ (ok_vals (ra.append rx)) hg λv H' sm rp=>⟨sm,rp⟩)) (λuu s' zq=>?_) λe s' z=>z.elim);obtain⟨v,H',J,ru,sm,rp⟩:=zq;exact⟨v,H',J.os,J.bare,J.base,J.hok,ru,q v H' sm (rp.flatten (λa z=>z.mono sm) hfl)⟩
   . cases hF
 . cases hF
structure CloOk(P:bY)(w:cU)(K:Frag)(mg:Str->Option aI)(base:Heap)(k:Nat)(Φ:Fun2):Prop where
 hold:∀(H:Hp) (h:Heap) (v:V) (d:D) (as:List D) (r:Ret),Rep K H jE v d->Φ d as=some r->L2.HOk P w H h->K.In h->∃f,v=.ref f/\FnAt f h
 run:∀(A:dP) (outer:List Env) (s:aY) (H:Hp) (f:aD) (d:D) (us:List aI) (vs:List V) (as:List D) (r:Ret) (Q:VK),Room k A->Env0 P w K mg base A outer s H->Rep K H jE (.ref f) d->Vals vs us->Reps K H jE vs as->Φ d as=some r->(∀v H',Same H H'->RetOk K H H' v r->Q v H') →
  gW (bK P w) A (.call (.ref f) ⟨us,[]⟩) (CR CX0 outer P w H s Q E0) s
theorem uB{α β:Type}[BEq α][LawfulBEq α]:∀{l:List (α×β)}{x:α}{a:β},l.lookup x=some a->(x,a)∈l
 |[],_,_,h=>by cases h
 |(y,b)::r,x,a,h=>by
   rw[cC]at h;cases hx:x==y with
   |true=>rw[hx]at h;cases h;rw[beq_iff_eq.mp hx];exact aE
   |false=>rw[hx]at h;exact aH _ (uB h)
structure CalV(P:bY)(w:cU)(K:Frag)(mg:Str->Option aI)(base:Heap)(j k n:Nat)(F:List D->Option Ret):Prop where
 ex:∃(f:aD) (fd:bE) (ps:List Str) (oc:aI) (od:Option aD) (osl:Array (Option aI)),FnOk P w K mg base CX0 k f fd ps (spF K n F)/\Binds K fd ps []/\aQ K mainGlobals (uM j)=some (some (.ref f))/\K.lookup f=some ⟨oc,od,.func fd,osl⟩
def CalV.fin{K:Frag}(C:CalV P w K mg base j k n F):FnIn K j:=by obtain⟨f,fd,ps,oc,od,osl,_,_,h1,h2⟩:=C.ex;exact⟨f,oc,od,fd,osl,h1,h2⟩
def UM{K:Frag}(C:CalV P w K mg base j k n F):iQ P w K mg base k 1000 j (fnF n F):=by
 intro A outer s H f caps us vs as r Q hr e0 hrep rv ra hF q;obtain⟨f',fd,ps,oc,od,osl,Fn,hb,h1,h2⟩:=C.ex;unfold fnF at hF;split at hF
 . rename_i hl;cases hrep with
   |clo tx la e nd hco rx=>exact absurd rfl (RV tx)
   |fnK h=>
     rw[h1]at h;cases h;have KX:=e0.mod.kin.keeps λb o e=>(e0.bs b o e).1;have sp:spF K n F vs H Q E0:=⟨ra.length.trans hl,as,r,ra,hF,q⟩
     have hul:us.length=ps.length:=by rw[<-rv.length];exact Fn.len _ _ _ _ sp
     have bd:=hb s us KX (by rw[cO];exact hul);rw[cO]at bd;exact Fn.run A outer s H ⟨us,[]⟩ us vs Q E0 hr e0 bd rv sp
 . cases hF
def clo_of{K:Frag}(h:∀p∈l,iQ P w K mg base k p.1.1 p.1.2 p.2)(hf:∀p∈l,p.1.1=1000->FnIn K p.1.2):CloOk P w K mg base k (phiOf l):=by
 refine⟨λH hp v d as r rep e ok kin=>?_,λA outer s H f d us vs as r Q hr e0 rep rv ra e q=>?_⟩
 . cases d with
   |clo m n caps=>
     cases rep with
     |clo tx la e nd hco rx=>obtain⟨_,o,oc,u,uc,fd,c,wsv,tq,h1,h2,h3,_⟩:=la;have ho:=(ok _ _ h1).1;obtain⟨a1,a2,a3,a4⟩:=o;cases h3;exact⟨_,rfl,_,_,_,_,ho⟩
     |fnK hk=>obtain⟨F,hF,e⟩:=bnd e;obtain⟨f',oc,od,fd,osl,h1,h2⟩:=hf _ (uB hF) rfl;rw[h1]at hk;cases hk;exact⟨_,rfl,_,_,_,_,kin _ _ h2⟩
   |_=>cases e
 . cases d with
   |clo m n caps=>obtain⟨F,hF,e⟩:=bnd e;exact h _ (uB hF) A outer s H f caps us vs as r Q hr e0 rep rv ra e q
   |_=>cases e
def pv_fn(V:FnV X.K X.mg j)(hx:uM j=x:=by rfl)(hg:Gl X x:=by rfl)(hdb:(x==("__debug__" : Str))=false:=by decide):PV X (.Name x pos) (zB (.clo 1000 j [])):=by obtain⟨f,h1,h2⟩:=V.ex;subst hx;refine⟨_,TL (v:=.ref f) hg h2 rfl hdb,λH₀ H O σ ds hd d Q o e q=>?_⟩;cases e;exact q _ H (Same.refl _) (.fnK h1)
def ME(CO:CloOk X.prog X.w X.K X.mg X.base k Φ)(hr:Room j X.A)(ha:PAn X (e::es) g)(hj:k<=j:=by decide)(hN:X.N[i]?=some x:=by rfl)(hv:Vis X.env.scope x:=by first|exact Or.inl rfl|exact Or.inr (Or.inl rfl)|exact Or.inr (Or.inr rfl))(hdb:(x==("__debug__" : Str))=false:=by decide)(hcd:(x==("__classdict__" : Str))=false:=by decide)(he:aF (e::es) X.env=(false,bU e X.env)::aF es X.env:=by rfl)(hpl:(cY pos (aF es X.env)).any (·.1)=false:=by rfl):PV X (.Call (.Name x p) (e::es) [] pos) (callW Φ i g):=by
 obtain⟨t,ht,hf⟩:=ha;refine⟨λσ H Q=>∀aC s,Inv X aC σ H s->bP (bK X.prog X.w) X.A (bU (.Call (.Name x p) (e::es) [] pos) X.env) (EP X aC σ Q) X.xe s,λaC s σ H Q I h=>h aC s I,λH₀ H O σ ds hd d Q o ee q aC s I=>?_⟩;obtain⟨fd,h1,ee⟩:=bnd ee;obtain⟨l,h2,ee⟩:=bnd ee;obtain⟨r,h3,ee⟩:=bnd ee;have hsl:ds[i]?=some (.v fd):=by
  unfold zW at h1;split at h1
  . rename_i d' hd';cases h1;exact hd'
  . cases h1
 obtain⟨v,hv1,rv⟩:=o.read hsl;refine eO (thn (xC hN hv hdb hcd aC s σ H (λv' H'=>v'=v/\H'=H) I ⟨v,hv1,rfl,rfl⟩) λu s1 zq=>?_);obtain⟨v',H',I1,ru,e1,e2⟩:=zq;subst e1 e2;have rv0:Rep X.K H' jE v' fd:=rv.less λ_ z=>z.elim;obtain⟨f,rfl,fa⟩:=CO.hold H' s1.heap v' fd l r rv0 h3 I1.hok I1.kIn;obtain rfl:u=aI.ref f:=ru;refine callWith_F fa (thn (ht pos aC s1 σ H' (λvs H1=>Same H' H1/\Reps X.K H1 jE vs l) I1 (hf H₀ H' O σ ds hd l _ o h2 λvs H1 a b=>⟨a,b⟩)) λus s2 zq=>?_) he hpl;obtain⟨vs,H2,I2,r2,sm,rvs⟩:=zq;obtain⟨f',e',fa2⟩:=CO.hold H2 s2.heap _ fd l r (rv0.mono sm) h3 I2.hok I2.kIn;cases e';refine⟨fa2,BA (iF (CO.run X.A X.stack s2 H2 f fd us vs l r Q (hr.mono hj) I2.env0 (rv0.mono sm) r2 rvs h3 λv H3 a b=>q v H3 (sm.trans a) (sP b ee λa ha=>(o.mono sm).old ha)) λrr s' hq=>?_)⟩;cases rr with
 |error e=>exact hq.elim
 |ok fl=>
   cases fl with
   |ret u=>exact I2.after hq
   |next=>exact False.elim hq
   |brk=>exact False.elim hq
   |cont=>exact False.elim hq
noncomputable def exS:Expr->List Expr
 |.Call _ as _ _=>as
 |.Compare l _ cs _=>l::cs
 |.BoolOp _ vs _=>vs
 |.UnaryOp _ o _=>[o]
 |.BinOp l _ r _=>[l,r]
 |.IfExp t b o _=>[t,b,o]
 |.List es _=>es
 |.Tuple es _ _=>es
 |.Subscript v i _=>[v,i]
 |_=>[]
noncomputable def exA(i:Nat)(e:Expr):Expr:=(exS e).getD i (.Name "" ⟨0,0,0,0⟩)
noncomputable def stE:Stmt->Expr
 |.Assign _ e _=>e
 |.Return (some e) _=>e
 |.Expr e _=>e
 |.If t _ _ _=>t
 |_=>.Name "" ⟨0,0,0,0⟩
noncomputable def stN(i:Nat)(l:List Stmt):Stmt:=l.getD i (.Pass ⟨0,0,0,0⟩)
noncomputable def laBody:Expr->Expr
 |.Lambda _ b _ _=>b
 |_=>.Name "" ⟨0,0,0,0⟩
noncomputable def laArgs:Expr->Arguments
 |.Lambda a _ _ _=>a
 |_=>{posonlyargs:=[],args:=[],vararg:=none,kwonlyargs:=[],kw_defaults:=[],kwarg:=none,defaults:=[]}
noncomputable def laScope:Expr->Scope
 |.Lambda _ _ s _=>s
 |_=>{kind:=.function,names:=[],isGenerator:=false,isCoroutine:=false}
noncomputable def laT(x:Str)(e:Expr):LamT:=⟨x++".<locals>."++"<lambda>",laArgs e,.expr (laBody e),laScope e⟩
open PySem.W (tabIn CodeHd tabObj makeFunction_K makeFunction_hit fnMade fnX nestDef_K kla_callFunE envX)
theorem iQ.mono{K:Frag}(h:iQ P w K mg base j m n F)(hj:j<=k):iQ P w K mg base k m n F:=
 λA outer s H f caps us vs as r Q hr=>h A outer s H f caps us vs as r Q (hr.mono hj)
section
variable{tg:Expr}
end
open PySem.W (tabIn CodeHd)
section
variable{E:XK}{C:aD}
end
section
variable{k j:Nat}{n:Nat}{F:List D->Option Ret}{x:Str}{p pos:Pos}{e:Expr}{es:List Expr}{g:FA}
end
section
variable{E:XK}{C:aD}
end
section
variable{E:XK}{C:aD}
end
end FL
namespace L2
end L2
namespace FL
section
variable{E:XK}{C:aD}
end
end FL
namespace L2
open Builtin Builtin.Str
end L2
namespace FL
section
variable{id:String}
theorem GW{K:Frag}:∀(l:List Str),Reps K H O (l.map V.str) (l.map D.str)
 |[]=>.nil
 |a::l=>.cons (.str a) (GW l)
end
section
variable{E:XK}{C:aD}
def pe_or{e:Expr}{t u:TE}(h1:PE X e t)(h2:PE X e u):PE X e (λσ H Q=>t σ H Q\/u σ H Q):=λaC s σ H Q I h=>h.elim (h1 aC s σ H Q I) (h2 aC s σ H Q I)
section
variable{x:Str}{p pos:Pos}{e:Expr}{t k j:Nat}{G:List D->Option (List D)}{y:List Sl->Bool}
end
end
end FL
namespace L2
section
variable{prog:bY}{w:cU}{A:dP}{E:aI->aY->Prop}{s:aY}
end
section
variable{pos:Pos}
end
end L2
namespace FL
section
variable{K:Frag}{H H' H₀:Hp}{O O':aD->Prop}
abbrev orL(fs:List aD)(O:aD->Prop):aD->Prop:=λb=>b∈fs\/O b
theorem Rep.moreL:∀{ps:List aD},(∀p∈ps,H p=none)->Rep K H O v d->Rep K H (orL ps O) v d
 |[],_,h=>h.less λa z=>z.elim (λq=>nomatch q) id
 |p::ps,hp,h=>((Rep.moreL (ps:=ps) (λq hq=>hp q (.tail _ hq)) h).more (p:=p) (hp p (.head _))).less λa z=>z.elim (λq=>(aA.mp q).elim .inl λq=>.inr (.inl q)) λq=>.inr (.inr q)
theorem Reps.moreL:∀{ps:List aD},(∀p∈ps,H p=none)->Reps K H O v d->Reps K H (orL ps O) v d
 |[],_,h=>h.less λa z=>z.elim (λq=>nomatch q) id
 |p::ps,hp,h=>((Reps.moreL (ps:=ps) (λq hq=>hp q (.tail _ hq)) h).more (p:=p) (hp p (.head _))).less λa z=>z.elim (λq=>(aA.mp q).elim .inl λq=>.inr (.inl q)) λq=>.inr (.inr q)
theorem RepO.moreL:∀{ps:List aD},(∀p∈ps,H p=none)->RepO K H O v t fs->RepO K H (orL ps O) v t fs
 |[],_,h=>h.less (λa z=>z.elim (λq=>nomatch q) id) λb hb=>.inr (h.owns b hb).1
 |p::ps,hp,h=>((RepO.moreL (ps:=ps) (λq hq=>hp q (.tail _ hq)) h).more (p:=p) (hp p (.head _))).less (λa z=>z.elim (λq=>(aA.mp q).elim .inl λq=>.inr (.inl q)) λq=>.inr (.inr q)) λb hb=>.inr (h.owns b hb).1
theorem Ok.moreL(o:Ok K H₀ H O σ ds hd)(s:Same H H')(hn:∀b∈fs,H b=none)(hl:∀b∈fs,∃u:MutHO,H' b=some u.1):Ok K H₀ H' (orL fs O) σ ds hd:=by
 refine⟨o.same.trans s,o.fresh,λb hb=>hb.elim (hl b) λz=>let ⟨xs,e⟩:=o.dom b z;⟨xs,s _ _ e⟩,o.len,λi sl e=>?_,o.apart,λp hp=>?_,o.obs.tr (λ_ _ _ r _=>(r.moreL hn).mono s) (λ_ _ _ e=>⟨e,rfl⟩) λ_ _ oj ej=>.inl ⟨oj,ej⟩⟩
 . cases sl with
   |no=>exact jD
   |ob r t=>exact yV
   |exc t=>obtain⟨a',C',ob',u',q1,q2,q3,q4⟩:=o.readX e;rw[q1];exact⟨C',ob',u',q2,s _ _ q3,q4⟩
   |exf t fs=>obtain⟨a',q1,q3⟩:=o.readE e;rw[q1];exact q3.keep λa' ob' u' q3=>s _ _ q3
   |fr l'=>obtain⟨a',xs',q1,q2,q0,q3,q4⟩:=o.readF e;rw[q1];exact⟨λz=>z.elim (λz=>by rw[hn _ z]at q3;cases q3) q2,q0,xs',s _ _ q3,(q4.moreL hn).mono s⟩
   |v d=>obtain⟨v,h1,h2⟩:=o.read e;rw[h1];exact yO ((h2.moreL hn).mono s)
   |own l'=>obtain⟨b,ys,h1,h2,h3,h4⟩:=o.readO e;rw[h1];exact⟨.inr h2,ys,s _ _ h3,(h4.moreL hn).mono s⟩
 . have:=o.hold p hp;cases p with
   |rep v d=>exact(Rep.moreL hn this).mono s
   |base B=>exact λb hb=>⟨.inr (this b hb).1,(this b hb).2⟩
   |root k a=>exact True.intro
   |fz a' o' kvs' l'=>exact⟨λz=>z.elim (λz=>by have:=this.2.1;rw[hn _ z]at this;cases this) this.1,s _ _ this.2.1,(Reps.moreL hn this.2.2).mono s⟩
def Ok.setOb(o:Ok K H₀ H O σ ds hd)(s:Same H H')(r:RepO K H' (orL fs O) v t fs)(nd:fs.Nodup)(hn:∀b∈fs,H b=none) :
  Ok K H₀ H' (orL fs O) (σ.set i (some v)) (ds.set i (.ob none t)) hd:=by
 have o1:=o.moreL s hn λb hb=>(r.owns b hb).2;have own':∀{j:Nat},IsOwn (ds.set i (.ob none t)) j->IsOwn ds j/\j≠i:=λh=>wB (λl=>by intro z;cases z) h;refine⟨o1.same,λj l a e1 e2=>?_,o1.dom,by simpa using o1.len,λj sl e=>?_,λj k a hjk hj hk e1 e2=>?_,o1.hold,?_⟩
 . obtain⟨⟨l',e'⟩,n1⟩:=own' ⟨l,e1⟩;rw[aB (Ne.symm n1)]at e2;exact o1.fresh j l' a e' e2
 . by_cases hj:j=i
   . subst hj;by_cases hl:j<ds.length
     . rw[aM hl]at e;cases e;exact yV
     . rw[bF (by simpa using hl)]at e;cases e
   . rw[aB (Ne.symm hj)]at e;rw[aB (Ne.symm hj)];exact o1.sl j sl e
 . obtain⟨h1,n1⟩:=own' hj;obtain⟨h2,n2⟩:=own' hk;rw[aB (Ne.symm n1)]at e1;rw[aB (Ne.symm n2)]at e2;exact o1.apart j k a hjk h1 h2 e1 e2
 . obtain ⟨F,hF⟩:=o.obs;have ne:∀{j:Nat}{r':Option Nat}{t':OT},ds[j]?=some (.ob r' t')->∀b∈F j,b∉fs:=λ{j r' t'} e b hb z=>by obtain⟨w,_,q,_⟩:=hF j r' t' e;obtain⟨_,xs,ex⟩:=q.owns b hb;rw[hn b z]at ex;cases ex
   refine⟨λj=>if j=i then fs else F j,λj r' t' e=>?_⟩;by_cases hj:j=i
   . subst hj;by_cases hl:j<ds.length
     . rw [aM hl]at e;cases e;refine ⟨v,by rw [aM (by rw [o.len];exact hl)],by simpa using r,(λk a z=>by cases z),by simpa using nd,λb hb=>?_⟩;have hb:b∈fs:=by simpa using hb
       refine⟨o.same.free (hn b hb),λk r2 t2 hk e2 z=>?_,λk ok ek=>?_⟩
       . simp[hk,if_false]at z;rw[aB (Ne.symm hk)]at e2;exact ne e2 b z hb
       . obtain⟨⟨l2,e2⟩,hk⟩:=own' ok;rw[aB (Ne.symm hk)]at ek;obtain⟨b',ys,q1,_,q3,_⟩:=o.readO e2;rw[ek]at q1;cases q1;rw[hn b hb]at q3;cases q3
     . rw[bF (by simpa using hl)]at e;cases e
   . rw [aB (Ne.symm hj)]at e;obtain ⟨w,h1,h2,h3,h4,h5⟩:=hF j r' t' e;refine ⟨w,by rw [aB (Ne.symm hj)];exact h1,by simp [hj,if_false];exact (h2.moreL hn).mono s,h3,by simpa [hj]using h4,λb hb=>?_⟩;have hb:b∈F j:=by simpa [hj]using hb
     refine⟨(h5 b hb).1,λk r2 t2 hk e2 z=>?_,λk ok ek=>?_⟩
     . by_cases hki:k=i
       . simp[hki,if_true]at z;exact ne e b hb z
       . simp[hki,if_false]at z;rw[aB (Ne.symm hki)]at e2;exact(h5 b hb).2.1 k r2 t2 hk e2 z
     . obtain⟨ok',hk⟩:=own' ok;rw[aB (Ne.symm hk)]at ek;exact(h5 b hb).2.2 k ok' ek
inductive Kid(H:Hp)(b:aD):List V->Prop
 |tup {xs:List V} (h:Rd H b (.tup xs)):Kid H b xs
 |lst {xs:List V} (h:H b=some (.lst xs)):Kid H b xs
 |dct {kvs:List (Key×V)} (h:H b=some (.dK kvs)):Kid H b (kvs.map (·.2))
 |ins {C dx:aD}{kvs:List (Str×V)} (h:H b=some (.ins C dx kvs)):Kid H b (kvs.map (·.2))
noncomputable def PathV(H:Hp):V->List Nat->V->Prop
 |v,[],w=>w=v
 |v,k::p,w=>∃b xs x,v=.ref b/\Kid H b xs/\xs[k]?=some x/\PathV H x p w
def Kid.det(h:Kid H b xs)(g:Kid H b ys):xs=ys:=by
 have rd:∀{zs ws:List V},Rd H b (.tup zs)->Rd H b (.tup ws)->zs=ws:=λh g=>by rcases h with h|⟨o,h⟩<;>rcases g with g|⟨o',g⟩<;>rw[h]at g<;>cases g<;>rfl
 have no:∀{zs:List V}{u:HO},Rd H b (.tup zs)->H b=some u->(∀ws,u≠.tup ws)->(∀o w,u≠.frz o w)->False:=λh g n1 n2=>by
  rcases h with h|⟨o,h⟩<;>rw[h]at g<;>cases g
  . exact n1 _ rfl
  . exact n2 _ _ rfl
 cases h with
 |tup h=>cases g with
   |tup g=>exact rd h g
   |lst g=>exact(no h g (λ_ z=>by cases z) (λ_ _ z=>by cases z)).elim
   |dct g=>exact(no h g (λ_ z=>by cases z) (λ_ _ z=>by cases z)).elim
   |ins g=>exact(no h g (λ_ z=>by cases z) (λ_ _ z=>by cases z)).elim
 |lst h=>cases g with
   |tup g=>exact(no g h (λ_ z=>by cases z) (λ_ _ z=>by cases z)).elim
   |lst g=>rw[h]at g;cases g;rfl
   |dct g=>rw[h]at g;cases g
   |ins g=>rw[h]at g;cases g
 |dct h=>cases g with
   |tup g=>exact(no g h (λ_ z=>by cases z) (λ_ _ z=>by cases z)).elim
   |lst g=>rw[h]at g;cases g
   |dct g=>rw[h]at g;cases g;rfl
   |ins g=>rw[h]at g;cases g
 |ins h=>cases g with
   |tup g=>exact(no g h (λ_ z=>by cases z) (λ_ _ z=>by cases z)).elim
   |lst g=>rw[h]at g;cases g
   |dct g=>rw[h]at g;cases g
   |ins g=>rw[h]at g;cases g;rfl
theorem yT:∀{p:List Nat}{v x y:V},PathV H v p x->PathV H v p y->x=y
 |[],v,x,y,h,g=>h.trans g.symm
 |k::p,v,x,y,⟨b,xs,z,h1,h2,h3,h4⟩,⟨b',xs',z',g1,g2,g3,g4⟩=>by rw[h1]at g1;cases g1;cases h2.det g2;rw[h3]at g3;cases g3;exact yT h4 g4
theorem wX:∀{p:List Nat}{k:Nat}{v x:V}{b:aD}{xs:List V},PathV H v p (.ref b)->Kid H b xs->xs[k]?=some x->PathV H v (p++[k]) x
 |[],k,v,x,b,xs,h,hk,hx=>⟨b,xs,x,h.symm,hk,hx,rfl⟩
 |j::p,k,v,x,b,xs,⟨c,ys,y,h1,h2,h3,h4⟩,hk,hx=>⟨c,ys,y,h1,h2,h3,wX h4 hk hx⟩
theorem xP:∀p k t,subO (p++[k]) t=(subO p t).bind (subO [k])
 |[],k,t=>by simp[subO]
 |j::p,k,t=>by
   cases t with
   |val d=>simp[subO]
   |lst l=>simp only[dF,subO];cases l[j]?<;>simp[xP p k]
   |tup l=>simp only[dF,subO];cases l[j]?<;>simp[xP p k]
   |dct ks l=>simp only[dF,subO];cases l[j]?<;>simp[xP p k]
   |ins c l=>simp only[dF,subO];cases l[j]?<;>simp[xP p k]
theorem RepsO.length:∀{xs:List V}{ts:List OT}{fs:List aD},RepsO K H O xs ts fs->xs.length=ts.length
 |_,_,_,.nil=>rfl
 |_,_,_,.cons _ r=>by simp[RepsO.length r]
theorem RepsO.pick:∀{xs:List V}{ts:List OT}{fs:List aD}{k:Nat}{t:OT},RepsO K H O xs ts fs->ts[k]?=some t->∃x pre f post,xs[k]?=some x/\fs=pre++(f++post)/\RepO K H O x t f ∧
  ∀{H':Hp}{O':aD->Prop}{g:OT->OT}{f':List aD},RepO K H' O' x (g t) f'->(∀y s e,RepO K H O y s e->(∀b∈e,b∈pre\/b∈post)->RepO K H' O' y s e)->RepsO K H' O' xs (ts.modify k g) (pre++(f'++post))
 |_,_,_,0,t,.cons (x:=x) (fs:=f) (gs:=gs) h r,e=>by
   simp only[cE,Option.some.injEq]at e;subst e;refine⟨x,[],f,gs,rfl,rfl,h,λ{H' O' g f'} h' ho=>?_⟩;have:∀{xs:List V}{ts:List OT}{gs':List aD},RepsO K H O xs ts gs'->(∀b∈gs',b∈gs)->RepsO K H' O' xs ts gs':=by
    intro xs ts gs' h;induction xs generalizing ts gs' with
    |nil=>intro _;cases h;exact .nil
    |cons y ys ih=>
      intro hb;cases h with
      |cons h1 h2=>exact .cons (ho _ _ _ h1 λb z=>.inr (hb b (bB _ z))) (ih h2 λb z=>hb b (aL _ z))
   show RepsO K H' O' _ _ (f'++gs);exact .cons h' (this r λ_ z=>z)
 |_,_,_,k+1,t,.cons (x:=x) (t:=t0) (fs:=f0) (gs:=gs) h r,e=>by obtain⟨y,pre,f,post,h1,h2,h3,h4⟩:=RepsO.pick (k:=k) (t:=t) r (by simpa using e);refine⟨y,f0++pre,f,post,by simpa using h1,by rw[h2];simp,h3,λ{H' O' g f'} h' ho=>?_⟩;have q:=h4 h' λz s e' hz hb=>ho z s e' hz λb hb'=>(hb b hb').elim (λz=>.inl (aL _ z)) .inr;have:=RepsO.cons (ho _ _ _ h λb hb=>.inl (bB _ hb)) q;simpa[fN]using this
def WQ(nd:(pre++(f++post)).Nodup):f.Nodup/\(∀b∈f,b∉pre/\b∉post)/\∀(f':List aD),f'.Nodup->(∀b∈f',b∈f\/(b∉pre/\b∉post))->(pre++(f'++post)).Nodup:=by
 rw[cI]at nd;obtain⟨n1,n2,n3⟩:=nd;rw[cI]at n2;obtain⟨n4,n5,n6⟩:=n2;have ap:∀b∈f,b∉pre/\b∉post:=λb hb=>⟨λz=>n3 b z b (bB _ hb) rfl,λz=>n6 b hb b z rfl⟩
 refine⟨n4,ap,λf' hf hs=>?_⟩;have ap':=λb hb=>(hs b hb).elim (ap b) id;rw[cI];refine⟨n1,?_,λa ha b hb e=>?_⟩
 . rw[cI];exact⟨hf,n5,λa ha b hb e=>(ap' a ha).2 (e▸hb)⟩
 . rcases bQ.mp hb with z|z
   . exact(ap' b z).1 (e▸ha)
   . exact n3 a ha b (aL _ z) e
structure Chg(H H':Hp)(O O':aD->Prop)(f:List aD)(f':List aD):Prop where
 keep:∀b u,¬O b->H b=some u->H' b=some u
 rest:∀b u,O b->b∉f->H b=some u->H' b=some u
 sub:∀b,O b->b∉f->O' b
 new:∀b,O' b->O b\/(b∈f'/\H b=none)
 fp:∀b∈f',b∈f\/H b=none
def Chg.rep(c:Chg H H' O O' f f')(r:Rep K H O v d):Rep K H' O' v d:=by
 have hn:∀p∈f'.filter (λb=>(H b).isNone),H p=none:=λp hp=>by simpa using(cT.mp hp).2
 have r1:=(r.moreL hn).keep λb u hb e=>c.keep b u (λz=>hb (.inr z)) e;exact r1.less λa z=>(c.new a z).elim .inr λq=>.inl (cT.mpr ⟨q.1,by rw[q.2];rfl⟩)
def Chg.reps(c:Chg H H' O O' f f')(r:Reps K H O v d):Reps K H' O' v d:=by
 have hn:∀p∈f'.filter (λb=>(H b).isNone),H p=none:=λp hp=>by simpa using(cT.mp hp).2
 have r1:=(r.moreL hn).keep λb u hb e=>c.keep b u (λz=>hb (.inr z)) e;exact r1.less λa z=>(c.new a z).elim .inr λq=>.inl (cT.mpr ⟨q.1,by rw[q.2];rfl⟩)
def Chg.repO(c:Chg H H' O O' f f')(r:RepO K H O v t e)(he:∀b∈e,b∉f):RepO K H' O' v t e:=by
 have hn:∀p∈f'.filter (λb=>(H b).isNone),H p=none:=λp hp=>by simpa using(cT.mp hp).2
 have r1:=(r.moreL hn).keep (λb u hb e=>c.keep b u (λz=>hb (.inr z)) e) λb hb u eb=>c.rest b u (r.owns b hb).1 (he b hb) eb;exact r1.less (λa z=>(c.new a z).elim .inr λq=>.inl (cT.mpr ⟨q.1,by rw[q.2];rfl⟩)) λb hb=>c.sub b (r.owns b hb).1 (he b hb)
theorem RepO.modAt:∀p {v:V}{t u:OT}{fs:List aD},RepO K H O v t fs->fs.Nodup->subO p t=some u->∃w f,PathV H v p w/\RepO K H O w u f/\f.Nodup/\(∀b∈f,b∈fs) ∧
  ∀{H':Hp}{O':aD->Prop}{u':OT}{f':List aD},Chg H H' O O' f f'->RepO K H' O' w u' f'->f'.Nodup->∃fs',RepO K H' O' v (putO u' p t) fs'/\fs'.Nodup/\(∀b∈fs',b∈fs\/b∈f')/\∀b∈f',b∈fs'
 |[],v,t,u,fs,r,nd,e=>by cases e;exact⟨v,fs,rfl,r,nd,λ_ h=>h,λ{H' O' u' f'} c r' nd'=>⟨f',r',nd',λb hb=>.inr hb,λb hb=>hb⟩⟩
 |k::p,v,t,u,fs,r,nd,e=>by
   have core:∀{xs:List V}{ts:List OT}{gs:List aD},RepsO K H O xs ts gs->gs.Nodup->(ts[k]?).bind (subO p)=some u->∃x w f,xs[k]?=some x/\PathV H x p w/\RepO K H O w u f/\f.Nodup/\(∀b∈f,b∈gs) ∧
     ∀{H':Hp}{O':aD->Prop}{u':OT}{f':List aD},Chg H H' O O' f f'->RepO K H' O' w u' f'->f'.Nodup->∃gs',RepsO K H' O' xs (ts.modify k (putO u' p)) gs'/\gs'.Nodup/\(∀b∈gs',b∈gs\/b∈f')/\∀b∈f',b∈gs':=by
    intro xs ts gs rs nds es;obtain⟨t1,ht,es⟩:=bnd es;obtain⟨x,pre,f0,post,h1,rfl,h3,h4⟩:=rs.pick ht;obtain⟨nf,nfr,nre⟩:=WQ nds;obtain⟨w,f,g1,g2,g3,g4,g5⟩:=RepO.modAt p h3 nf es;have inn:∀b∈f,b∈pre++(f0++post):=λb hb=>aL _ (bB _ (g4 b hb));refine⟨x,w,f,h1,g1,g2,g3,inn,λ{H' O' u' f'} c r' nd'=>?_⟩;obtain⟨f1,q1,q2,q3,q4⟩:=g5 c r' nd';have old:∀b,b∈pre++(f0++post)->H b≠none:=λb hb z=>by obtain⟨_,y,ey⟩:=rs.owns b hb;rw[z]at ey;cases ey
    refine⟨pre++(f1++post),h4 (g:=putO u' p) q1 λy s e hy hb=>c.repO hy λb hb' z=>?_,nre f1 q2 λb hb=>?_,λb hb=>?_,λb hb=>aL _ (bB _ (q4 b hb))⟩
    . exact(hb b hb').elim (nfr b (g4 b z)).1 (nfr b (g4 b z)).2
    . rcases q3 b hb with z|z
      . exact .inl z
      . rcases c.fp b z with y|y
        . exact .inl (g4 b y)
        . exact .inr ⟨λq=>old b (bB _ q) y,λq=>old b (aL _ (aL _ q)) y⟩
    . rcases bQ.mp hb with z|z
      . exact .inl (bB _ z)
      . rcases bQ.mp z with z|z
        . exact(q3 b z).imp (λz=>aL _ (bB _ z)) id
        . exact .inl (aL _ (aL _ z))
   have head:∀{a0:aD}{gs gs' f f':List aD}{H':Hp}{O':aD->Prop},(a0::gs).Nodup->O a0->H a0≠none->Chg H H' O O' f f'->gs'.Nodup->(∀b∈gs',b∈gs\/b∈f')->(∀b∈f,b∈gs)->(a0::gs').Nodup/\(∀b∈a0::gs',b∈a0::gs\/b∈f')/\a0∉f:=by
    intro a0 gs gs' f f' H' O' nd0 oa ha c ndg hg hf;obtain⟨n0,_⟩:=bC.mp nd0;refine⟨bC.mpr ⟨λz=>?_,ndg⟩,λb hb=>?_,λz=>n0 (hf a0 z)⟩
    . rcases hg a0 z with y|y
      . exact n0 y
      . exact(c.fp a0 y).elim (λq=>n0 (hf a0 q)) ha
    . rcases aA.mp hb with rfl|z
      . exact .inl (.head _)
      . exact(hg b z).imp (λy=>.tail _ y) id
   cases r with
   |val r=>simp[subO]at e
   |tup n h r=>obtain⟨x,w,f,h1,g1,g2,g3,g4,g5⟩:=core r nd e;refine⟨w,f,⟨_,_,x,rfl,.tup h,h1,g1⟩,g2,g3,g4,λ{H' O' u' f'} c r' nd'=>?_⟩;obtain⟨gs',q1,q2,q3,q4⟩:=g5 c r' nd';refine⟨gs',?_,q2,q3,q4⟩;have kk:Keep O H H':=λb u hb eb=>c.keep b u hb eb;exact .tup (λz=>(c.new _ z).elim n λq=>Rd.some h q.2) (kk.rd n h) q1
   |lst n h r=>obtain⟨x,w,f,h1,g1,g2,g3,g4,g5⟩:=core r (bC.mp nd).2 e;refine⟨w,f,⟨_,_,x,rfl,.lst h,h1,g1⟩,g2,g3,λb hb=>.tail _ (g4 b hb),λ{H' O' u' f'} c r' nd'=>?_⟩;obtain⟨gs',q1,q2,q3,q4⟩:=g5 c r' nd';obtain⟨k1,k2,k3⟩:=head nd n (by rw[h];simp) c q2 q3 g4;exact⟨_::gs',.lst (c.sub _ n k3) (c.rest _ _ n k3 h) q1,k1,k2,λb hb=>.tail _ (q4 b hb)⟩
   |dct n h he r=>obtain⟨x,w,f,h1,g1,g2,g3,g4,g5⟩:=core r (bC.mp nd).2 e;refine⟨w,f,⟨_,_,x,rfl,.dct h,h1,g1⟩,g2,g3,λb hb=>.tail _ (g4 b hb),λ{H' O' u' f'} c r' nd'=>?_⟩;obtain⟨gs',q1,q2,q3,q4⟩:=g5 c r' nd';obtain⟨k1,k2,k3⟩:=head nd n (by rw[h];simp) c q2 q3 g4;exact⟨_::gs',.dct (c.sub _ n k3) (c.rest _ _ n k3 h) he q1,k1,k2,λb hb=>.tail _ (q4 b hb)⟩
   |ins hc n h he r=>obtain⟨x,w,f,h1,g1,g2,g3,g4,g5⟩:=core r (bC.mp nd).2 e;refine⟨w,f,⟨_,_,x,rfl,.ins h,h1,g1⟩,g2,g3,λb hb=>.tail _ (g4 b hb),λ{H' O' u' f'} c r' nd'=>?_⟩;obtain⟨gs',q1,q2,q3,q4⟩:=g5 c r' nd';obtain⟨k1,k2,k3⟩:=head nd n (by rw[h];simp) c q2 q3 g4;exact⟨_::gs',.ins hc (c.sub _ n k3) (c.rest _ _ n k3 h) he q1,k1,k2,λb hb=>.tail _ (q4 b hb)⟩
theorem Ok.modAt(o:Ok K H₀ H O σ ds hd)(e:ds[i]?=some (.ob r t))(hs:subO p t=some u) :
  ∃v w f,σ[i]?=some (some v)/\PathV H v p w/\RepO K H O w u f/\f.Nodup/\(∀b∈f,H₀ b=none) ∧
   ∀{H':Hp}{O':aD->Prop}{u':OT}{f':List aD},Chg H H' O O' f f'->(∀b∈f,O' b->∃y:MutHO,H' b=some y.1)->RepO K H' O' w u' f'->f'.Nodup->Ok K H₀ H' O' σ (ds.set i (.ob r (putO u' p t))) hd:=by
 obtain⟨F,hF⟩:=o.obs;obtain⟨v,h1,h2,h3,h4,h5⟩:=hF i r t e;obtain⟨w,f,g1,g2,g3,g4,g5⟩:=h2.modAt p h4 hs;have hl:i<ds.length:=(aV.mp e).1;refine⟨v,w,f,h1,g1,g2,g3,λb hb=>(h5 b (g4 b hb)).1,λ{H' O' u' f'} c hf r' nd'=>?_⟩;obtain⟨fs',q1,q2,q3,q4⟩:=g5 c r' nd';have own':∀{j:Nat},IsOwn (ds.set i (.ob r (putO u' p t))) j->IsOwn ds j/\j≠i:=λh=>wB (λl=>by intro z;cases z) h;have nown:∀{j:Nat}{b:aD},IsOwn ds j->σ[j]?=some (some (.ref b))->b∉f:=λ{j b} oj ej z=>(h5 b (g4 b z)).2.2 j oj ej;have free0:∀b,H b=none->H₀ b=none:=λb hb=>o.same.free hb;refine⟨λb x eb=>?_,λj l b e1 e2=>?_,λb hb=>?_,by simpa using o.len,λj sl es=>?_,λj m b hjm hj hm e1 e2=>o.apart j m b hjm (own' hj).1 (own' hm).1 e1 e2,λq hq=>?_,?_⟩
 . have hb:=o.same b x eb;by_cases ob:O b
   . by_cases bf:b∈f
     . rw[(h5 b (g4 b bf)).1]at eb;cases eb
     . exact c.rest b x ob bf hb
   . exact c.keep b x ob hb
 . obtain⟨⟨l',e'⟩,_⟩:=own' ⟨l,e1⟩;exact o.fresh j l' b e' e2
 . rcases c.new b hb with z|z
   . by_cases bf:b∈f
     . exact hf b bf hb
     . obtain⟨y,ey⟩:=o.dom b z;exact⟨y,c.rest b _ z bf ey⟩
   . exact(r'.owns b z.1).2
 . by_cases hj:j=i
   . subst hj;rw[aM hl]at es;cases es;exact yV
   . rw [aB (Ne.symm hj)]at es;cases sl with
     |no=>exact jD
     |ob r t=>exact yV
     |exc t=>obtain⟨a',C',ob',x',q1,q2,q3,q4⟩:=o.readX es;rw[q1];refine⟨C',ob',x',q2,c.keep _ _ (λz=>?_) q3,q4⟩;obtain⟨y,ey⟩:=o.dom _ z;rw[q3]at ey;have h2:=y.2;rw[<-Option.some.inj ey]at h2;cases h2
     |exf t fs=>obtain⟨a',q1,q3⟩:=o.readE es;rw[q1];refine q3.keep λa' ob' x' q3=>c.keep _ _ (λz=>?_) q3;obtain⟨y,ey⟩:=o.dom _ z;rw[q3]at ey;have h2:=y.2;rw[<-Option.some.inj ey]at h2;cases h2
     |fr l'=>obtain⟨a',xs'',q1,q2,q0,q3,q4⟩:=o.readF es;rw[q1];exact⟨λz=>(c.new _ z).elim q2 (λy=>by rw[y.2]at q3;cases q3),q0,xs'',c.keep _ _ q2 q3,c.reps q4⟩
     |v d=>obtain⟨v,q1,q2⟩:=o.read es;rw[q1];exact yO (c.rep q2)
     |own l''=>obtain⟨b,ys,q1,q2,q3,q4⟩:=o.readO es;rw[q1];exact⟨c.sub _ q2 (nown ⟨l'',es⟩ q1),ys,c.rest _ _ q2 (nown ⟨l'',es⟩ q1) q3,c.reps q4⟩
 . have:=o.hold q hq;cases q with
   |rep v d=>exact c.rep this
   |base B=>exact λb hb=>⟨c.sub _ (this b hb).1 (λz=>(this b hb).2 (h5 b (g4 b z)).1),(this b hb).2⟩
   |root k a=>exact True.intro
   |fz a' o' kvs' l'=>exact⟨λz=>(c.new _ z).elim this.1 (λy=>by have z:=this.2.1;rw[y.2]at z;cases z),c.keep _ _ this.1 this.2.1,c.reps this.2.2⟩
 . refine ⟨λj=>if j=i then fs' else F j,λj r2 t2 ej=>?_⟩;have fsOld:∀ b∈fs',b∈F i\/H b=none:=λb hb=>(q3 b hb).elim .inl λz=>(c.fp b z).imp (g4 b) id;by_cases hj:j=i
   . subst hj;rw [aM hl]at ej;cases ej;refine ⟨v,h1,by simpa using q1,h3,by simpa using q2,λb hb=>?_⟩;have hb:b∈fs':=by simpa using hb
     rcases fsOld b hb with z|z
     . refine⟨(h5 b z).1,λm r3 t3 hm e3 y=>?_,λm om em=>(h5 b z).2.2 m (own' om).1 em⟩;simp only[hm,if_false]at y;rw[aB (Ne.symm hm)]at e3;exact(h5 b z).2.1 m r3 t3 hm e3 y
     . refine ⟨free0 b z,λm r3 t3 hm e3 y=>?_,λm om em=>?_⟩
       . simp only[hm,if_false]at y;rw[aB (Ne.symm hm)]at e3;obtain⟨_,_,w3,_⟩:=hF m r3 t3 e3;obtain⟨_,x3,ex3⟩:=w3.owns b y;rw[z]at ex3;cases ex3
       . obtain⟨⟨l3,e3⟩,_⟩:=own' om;obtain⟨b3,ys,y1,_,y3,_⟩:=o.readO e3;rw[em]at y1;cases y1;rw[z]at y3;cases y3
   . rw [aB (Ne.symm hj)]at ej;obtain ⟨w2,y1,y2,y3,y4,y5⟩:=hF j r2 t2 ej;have apart:∀ b∈F j,b ∉ f:=λb hb z=>(h5 b (g4 b z)).2.1 j r2 t2 hj ej hb;refine ⟨w2,y1,by simp only [hj,if_false];exact c.repO y2 apart,y3,by simpa [hj]using y4,λb hb=>?_⟩;have hb:b∈F j:=by simpa [hj]using hb
     refine⟨(y5 b hb).1,λm r3 t3 hm e3 z=>?_,λm om em=>(y5 b hb).2.2 m (own' om).1 em⟩;by_cases hmi:m=i
     . simp only [hmi,if_true]at z;rcases fsOld b z with x|x
       . exact(y5 b hb).2.1 i r t (λz=>hj z.symm) e x
       . obtain⟨_,x3,ex3⟩:=y2.owns b hb;rw[x]at ex3;cases ex3
     . simp only[hmi,if_false]at z;rw[aB (Ne.symm hmi)]at e3;exact(y5 b hb).2.1 m r3 t3 hm e3 z
end
section
variable(X:Cx)
def PVo(e:Expr)(f:FO):Prop:=∃t,PE X e t/\∀H₀ H O σ ds hd T Q,Ok X.K H₀ H O σ ds hd->f ds=some T->(∀v H' fs,Same H H'->RepO X.K H' (orL fs O) v T fs->fs.Nodup->(∀b∈fs,H b=none)->Q v H')->t σ H Q
def PAo(es:List Expr)(f:FOs):Prop:=∃t,PA X es t/\∀H₀ H O σ ds hd T Q,Ok X.K H₀ H O σ ds hd->f ds=some T->(∀vs H' fs,Same H H'->RepsO X.K H' (orL fs O) vs T fs->fs.Nodup->(∀b∈fs,H b=none)->Q vs H')->t σ H Q
def PVp(e:Expr)(f:FP):Prop:=∃t,PE X e t/\∀H₀ H O σ ds hd q Q,Ok X.K H₀ H O σ ds hd->f ds=some q->(∀r T v w fs,ds[q.1]?=some (.ob r T)->subO q.2.1 T=some q.2.2->σ[q.1]?=some (some v)->PathV H v q.2.1 w->RepO X.K H O w q.2.2 fs->Q w H)->t σ H Q
end
theorem CZ{K:Frag}:∀{xs:List V}{l:List D},Reps K H O xs l->RepsO K H O xs (l.map OT.val) []
 |_,_,.nil=>.nil
 |_,_,.cons h t=>.cons (fs:=[]) (gs:=[]) (.val h) (CZ t)
def AD(h:PVf X e f):PVo X e (lO f):=by
 obtain⟨t,ht,hf⟩:=h;refine⟨t,ht,λH₀ H O σ ds hd T Q o e q=>?_⟩;obtain⟨l,h1,rfl⟩:=mpd e;refine hf H₀ H O σ ds hd l Q o h1 λa xs H' s hn he r=>q (.ref a) H' [a] s ?_ (by simp) λb hb=>by rw[aR.mp hb];exact hn
 exact .lst (.inl (.head _)) he (CZ (r.less λb z=>z.elim (λq=>.inl (aR.mp q)) .inr))
def wS:PAo X [] nilO:=⟨_,yP,λ_ H _ _ _ _ _ _ _ e q=>by cases e;exact q [] H [] (Same.refl _) .nil .nil (λb hb=>nomatch hb)⟩
def xD(ha:PVo X e f)(hr:PAo X es g)(hs:aF (e::es) X.env=(false,bU e X.env)::aF es X.env:=by rfl):PAo X (e::es) (consO f g):=by
 obtain⟨t,ht,hf⟩:=ha;obtain⟨t2,ht2,hg⟩:=hr;refine⟨_,jA ht ht2 hs,λH₀ H O σ ds hd T Q o e q=>?_⟩;obtain⟨x,h1,e⟩:=bnd e;obtain⟨r,h2,rfl⟩:=mpd e;refine hf H₀ H O σ ds hd x _ o h1 λv H1 fs s1 r1 nd1 n1=>?_;refine hg H₀ H1 (orL fs O) σ ds hd r _ (o.moreL s1 n1 λb hb=>(r1.owns b hb).2) h2 λvs H2 gs s2 r2 nd2 n2=>?_;have eq:∀a,orL (fs++gs) O a->orL gs (orL fs O) a:=λa z=>z.elim (λz=>(bQ.mp z).elim (λz=>.inr (.inl z)) .inl) λz=>.inr (.inr z);refine q _ H2 (fs++gs) (s1.trans s2) (.cons ?_ ?_) ?_ ?_
 . exact(((r1.moreL n2).mono s2).less eq λb hb=>.inl (bB _ hb))
 . exact r2.less eq λb hb=>.inl (aL _ hb)
 . rw[cI];refine⟨nd1,nd2,λa ha b hb z=>?_⟩;obtain⟨_,xs,ex⟩:=r1.owns a ha;rw[z,n2 b hb]at ex;cases ex
 . intro b hb;rcases bQ.mp hb with z|z
   . exact n1 b z
   . exact s1.free (n2 b z)
def DA(h:PAo X es g):PVo X (.List es pos) (sO g):=by
 obtain⟨t,ht,hf⟩:=h;refine⟨_,aBr ht,λH₀ H O σ ds hd T Q o e q=>?_⟩;obtain⟨l,h1,e⟩:=bnd e;split at e
 . rename_i hl;cases e;refine hf H₀ H O σ ds hd l _ o h1 λvs H1 fs s1 r1 nd n1=>⟨by rw [r1.length];exact hl,λp hp=>?_⟩
   have r2:RepsO X.K (upd H1 p (.lst vs)) (orL (p::fs) O) vs l fs:=by have e1:∀a,orL (p::fs) O a->orL [p] (orL fs O) a:=λa z=>z.elim (λz=>(aA.mp z).elim (λz=>.inl (by rw[z];exact .head _)) λz=>.inr (.inl z)) λz=>.inr (.inr z);have mm:=r1.more hp;exact(mm.mono (qF hp _)).less (λa z=>(e1 a z).elim (λz=>.inl (aR.mp z)) .inr) λb hb=>.inl (.tail _ hb)
   refine q _ _ (p::fs) (s1.trans (qF hp _)) (.lst (.inl (.head _)) zO r2) (bC.mpr ⟨λz=>?_,nd⟩) λb hb=>?_
   . obtain⟨_,xs,ex⟩:=r1.owns p z;rw[hp]at ex;cases ex
   . rcases aA.mp hb with z|z
     . rw[z];exact s1.free hp
     . exact n1 b z
 . cases e
def vV(hN:X.N.Nodup)(he:PVo X e f)(hi:X.N[i]?=some x:=by rfl)(hx:Loc X.env.scope x:=by first|exact Or.inl rfl|exact Or.inr rfl)(hs:eC e (some (.Name x pos')) pos.line X.env=pure false:=by rfl)(hf:X.fn x=true\/X.env.scope.names.lookup x=some .local:=by first|exact .inl rfl|exact .inr rfl):PSv X (.Assign [.Name x pos'] e pos) (setB i f):=by obtain⟨t,ht,hg⟩:=he;refine⟨_,JH hN hi hx ht hs hf,λH₀ H O σ ds hd out E o e h=>?_⟩;obtain⟨T,h1,rfl⟩:=mpd e;exact hg H₀ H O σ ds hd T _ o h1 λv H' fs s r nd n=>h _ _ _ (o.setOb s r nd n)
def SH i(hN:X.N[i]?=some x:=by rfl)(hv:Vis X.env.scope x:=by first|exact Or.inl rfl|exact Or.inr (Or.inl rfl)|exact Or.inr (Or.inr rfl))(hd:(x==("__debug__" : Str))=false:=by decide)(hcd:(x==("__classdict__" : Str))=false:=by decide):PVn X (.Name x pos) (getN i):=by
 refine⟨_,xC hN hv hd hcd,λH₀ H O σ ds hd d Q o e q=>?_⟩;unfold getN at e;cases hs:ds[i]? with
 |none=>rw[hs]at e;cases e
 |some s=>
   rw[hs]at e;cases s with
   |v d'=>cases e;obtain⟨v,h1,h2⟩:=o.read hs;exact⟨v,h1,q v H (Same.refl _) (h2.less λ_ z=>z.elim)⟩
   |no=>cases e
   |exc _=>cases e
   |exf _ _=>cases e
   |fr _=>cases e
   |own l=>cases e;obtain⟨a,xs,h1,h2,h3,h4⟩:=o.readO hs;exact⟨.ref a,h1,q _ H (Same.refl _) (.lst (λz=>z) (.inl h3) (h4.less λ_ z=>z.elim))⟩
   |ob r t=>cases e;obtain⟨F,hF⟩:=o.obs;obtain⟨v,h1,h2,_⟩:=hF i r t hs;exact⟨v,h1,q v H (Same.refl _) h2.any⟩
def yI i(hN:X.N[i]?=some x:=by rfl)(hv:Vis X.env.scope x:=by first|exact Or.inl rfl|exact Or.inr (Or.inl rfl)|exact Or.inr (Or.inr rfl))(hd:(x==("__debug__" : Str))=false:=by decide)(hcd:(x==("__classdict__" : Str))=false:=by decide):PVp X (.Name x pos) (varP i):=by
 refine⟨_,xC hN hv hd hcd,λH₀ H O σ ds hd q Q o e h=>?_⟩;unfold varP at e;cases hs:ds[i]? with
 |none=>rw[hs]at e;cases e
 |some s=>
   rw[hs]at e;cases s with
   |ob r t=>cases e;obtain⟨F,hF⟩:=o.obs;obtain⟨v,h1,h2,_⟩:=hF i r t hs;exact⟨v,h1,h r t v v _ hs rfl h1 rfl h2⟩
   |_=>cases e
def atI_nat{xs:List α}{k:Nat}{x:α}(h:xs[k]?=some x):atI xs (k:Int)=some x:=by have hk:=(aV.mp h).1;unfold atI ixN;rw[if_pos (by lia),if_pos (by lia)];simpa using h
def RepsO.nth{K:Frag}{k:Nat}(h:RepsO K H O xs ts fs)(e:ts[k]?=some t):∃x f,xs[k]?=some x/\RepO K H O x t f:=by obtain⟨x,_,f,_,h1,_,h3,_⟩:=h.pick e;exact⟨x,f,h1,h3⟩
def Chg.ofUpd(oa:O a)(ha:a∈f)(hf:∀b∈f',b∈f):Chg H (upd H a y) O O f f':=
 ⟨λb u nb e=>by have z:b≠a:=λz=>nb (by rw[z];exact oa);rw[L2.upd_ne z];exact e,λb u _ nb e=>by have z:b≠a:=λz=>nb (by rw[z];exact ha);rw[L2.upd_ne z];exact e,λ_ z _=>z,λ_ z=>.inl z,λb hb=>.inl (hf b hb)⟩
mutual
theorem RepO.flatten{K:Frag}{H:Hp}{O O':aD->Prop}(ho:∀a,O a->Old H a):∀{v:V}{t:OT}{fs:List aD},flatO t=true->RepO K H O' v t fs->(∀b∈fs,O b)->RepO K H O v t fs
 |_,_,_,f,.val r,_=>.val (Rep.flatten ho (by simpa[flatO]using f) r)
 |_,_,_,f,.lst n h r,hb=>.lst (hb _ (.head _)) h (RepsO.flatten ho (by simpa[flatO]using f) r λb z=>hb b (.tail _ z))
 |_,_,_,f,.dct n h e r,hb=>.dct (hb _ (.head _)) h e (RepsO.flatten ho (by simpa[flatO]using f) r λb z=>hb b (.tail _ z))
 |_,_,_,f,.ins c n h e r,hb=>.ins c (hb _ (.head _)) h e (RepsO.flatten ho (by simpa[flatO]using f) r λb z=>hb b (.tail _ z))
 |_,_,_,f,.tup (a:=a) n h r,hb=>.tup (λz=>by
    obtain⟨u,e,m⟩:=ho a z;rcases h with h|⟨o,h⟩
    . rw[e]at h;cases h;cases m
    . rw[e]at h;cases h;cases m) h (RepsO.flatten ho (by simpa[flatO]using f) r hb)
theorem RepsO.flatten{K:Frag}{H:Hp}{O O':aD->Prop}(ho:∀a,O a->Old H a):∀{v:List V}{t:List OT}{fs:List aD},iP t=true->RepsO K H O' v t fs->(∀b∈fs,O b)->RepsO K H O v t fs
 |_,_,_,_,.nil,_=>.nil
 |_,_,_,f,.cons h r,hb=>by simp only[iP,bJ]at f;exact .cons (RepO.flatten ho f.1 h λb z=>hb b (bB _ z)) (RepsO.flatten ho f.2 r λb z=>hb b (aL _ z))
end
def tV(ha:PVn X a fa)(hb:PVn X b fb)(hs:BW b:=by exact λ_ _=>rfl):PVn X (.Subscript a b pos) (zH ixD fa fb):=by obtain⟨ta,pa,ha⟩:=ha;obtain⟨tb,pb,hb⟩:=hb;refine⟨_,aBs QJ pa pb hs,λH₀ H O σ ds hd d Q o e q=>?_⟩;obtain⟨x,h1,e⟩:=bnd e;obtain⟨y,h2,e⟩:=bnd e;refine ha H₀ H O σ ds hd x _ o h1 λv H1 s1 r1=>?_;refine hb H₀ H1 O σ ds hd y _ (o.mono s1) h2 λu H2 s2 r2=>?_;exact aDc (.inl (r1.mono s2)) (.inl r2) e λz H' s r=>q z H' ((s1.trans s2).trans s) r
section
variable{K:Frag}
def Kid.mono(s:Same H H')(h:Kid H b xs):Kid H' b xs:=by
 cases h with
 |tup h=>exact .tup (Keep.rd (O:=jE) (.of_same s) (λz=>z) h)
 |lst h=>exact .lst (s _ _ h)
 |dct h=>exact .dct (s _ _ h)
 |ins h=>exact .ins (s _ _ h)
theorem yK(s:Same H H'):∀{p:List Nat}{v w:V},PathV H v p w->PathV H' v p w
 |[],_,_,h=>h
 |_::_,_,_,⟨b,xs,x,h1,h2,h3,h4⟩=>⟨b,xs,x,h1,h2.mono s,h3,yK s h4⟩
theorem RepsO.put:∀{xs:List V}{ts:List OT}{fs:List aD}{k:Nat}{t:OT},RepsO K H O xs ts fs->ts[k]?=some t->∃pre f post,fs=pre++(f++post) ∧
  ∀{H':Hp}{O':aD->Prop}{v:V}{T:OT}{f':List aD},RepO K H' O' v T f'->(∀y s e,RepO K H O y s e->(∀b∈e,b∈pre\/b∈post)->RepO K H' O' y s e)->RepsO K H' O' (xs.set k v) (ts.set k T) (pre++(f'++post))
 |_,_,_,0,t,.cons (x:=x) (fs:=f) (gs:=gs) h r,e=>by
   refine⟨[],f,gs,rfl,λ{H' O' v T f'} h' ho=>?_⟩;have:∀{xs:List V}{ts:List OT}{gs':List aD},RepsO K H O xs ts gs'->(∀b∈gs',b∈gs)->RepsO K H' O' xs ts gs':=by
    intro xs ts gs' h;induction xs generalizing ts gs' with
    |nil=>intro _;cases h;exact .nil
    |cons y ys ih=>
      intro hb;cases h with
      |cons h1 h2=>exact .cons (ho _ _ _ h1 λb z=>.inr (hb b (bB _ z))) (ih h2 λb z=>hb b (aL _ z))
   show RepsO K H' O' (v::_) (T::_) (f'++gs);exact .cons h' (this r λ_ z=>z)
 |_,_,_,k+1,t,.cons (x:=x) (t:=t0) (fs:=f0) (gs:=gs) h r,e=>by obtain⟨pre,f,post,h2,h4⟩:=RepsO.put (k:=k) (t:=t) r (by simpa using e);refine⟨f0++pre,f,post,by rw[h2];simp,λ{H' O' v T f'} h' ho=>?_⟩;have q:=h4 h' λz s e' hz hb=>ho z s e' hz λb hb'=>(hb b hb').elim (λz=>.inl (aL _ z)) .inr;have:=RepsO.cons (ho _ _ _ h λb hb=>.inl (bB _ hb)) q;simpa[fN]using this
end
def PL(hF:FldOk X.K n ix)(he:PVp X e f)(hb:dB e n X.env (bU e X.env)=bU e X.env:=by rfl):PVp X (.Attribute e n pos) (atP ix f):=by
 obtain⟨t,ht,hf⟩:=he;refine⟨_,aBu ht hb,λH₀ H O σ ds hd q Q o e h=>?_⟩;obtain⟨q0,h1,e⟩:=bnd e;refine hf H₀ H O σ ds hd q0 _ o h1 λr T v w fs g1 g2 g3 g4 g5=>?_;cases hu:q0.2.2 with
 |ins c l=>
   rw[hu]at e g5;obtain⟨k,hl,e⟩:=bnd e;obtain⟨u,hk,rfl⟩:=mpd e;cases g5 with
   |@ins a C dx _ kvs _ fs' hc n ha ek rs=>obtain⟨y1,y2,y3⟩:=hF c k hl;obtain⟨cl,na⟩:=y3 C hc;obtain⟨x,f2,z1,z2⟩:=rs.nth hk;refine⟨a,C,dx,kvs,x,rfl,ha,cl,na,vH (by rw[ek];exact y1) (by rw[ek];exact y2) z1,h r T v x f2 g1 ?_ g3 (wX g4 (.ins ha) z1) z2⟩;rw[xP,g2,hu];simp[subO,hk]
 |_=>rw[hu]at e;cases e
theorem RepsO.snoc{K:Frag}:∀{xs:List V}{ts:List OT}{fs:List aD}{v:V}{d:D},RepsO K H O xs ts fs->Rep K H O v d->RepsO K H O (xs++[v]) (ts++[.val d]) fs
 |_,_,_,_,_,.nil,r=>.cons (fs:=[]) (gs:=[]) (.val r) .nil
 |_,_,_,_,_,.cons h t,r=>.cons h (RepsO.snoc t r)
def Ok.putL{K:Frag}(o:Ok K H₀ H O σ ds hd)(e:ds[i]?=some (.ob r T))(hs:subO p T=some (.lst l))(hv:σ[i]?=some (some v))(hp:PathV H v p (.ref a))(h:∀xs fs,H a=some (.lst xs)->O a->RepsO K H O xs l fs->fs.Nodup->a∉fs->∃fs',(∀b∈fs',b∈fs)/\fs'.Nodup/\∀{H':Hp},Chg H H' O O [a] [a]->RepsO K H' O ys l' fs'):Ok K H₀ (upd H a (.lst ys)) O σ (ds.set i (.ob r (putO (.lst l') p T))) hd:=by
 obtain⟨v',w',f,y1,y2,y3,y4,y5,y6⟩:=o.modAt e hs;rw[hv]at y1;cases y1;cases yT hp y2;cases y3 with
 |@lst _ xs _ fs n hb rs=>
   obtain⟨n3,n4⟩:=bC.mp y4;obtain⟨fs',w1,w2,w3⟩:=h xs fs hb n rs n4 n3;refine y6 (.ofUpd n (.head _) λb z=>(aA.mp z).elim (λz=>by rw[z];exact .head _) λz=>.tail _ (w1 b z)) (λb z _=>?_) (.lst n zO (w3 (.ofUpd n (.head _) λ_ z=>z))) (bC.mpr ⟨λz=>n3 (w1 _ z),w2⟩);by_cases z':b=a
   . rw[z',zO];exact⟨⟨.lst ys,rfl⟩,rfl⟩
   . rw [upd_ne z'];rcases aA.mp z with q'|q'
     . exact(z' q').elim
     . exact(rs.owns b q').2
theorem Chg.repsO{K:Frag}(c:Chg H H' O O' f f'):∀{v:List V}{t:List OT}{e:List aD},RepsO K H O v t e->(∀b∈e,b∉f)->RepsO K H' O' v t e
 |_,_,_,.nil,_=>.nil
 |_,_,_,.cons h r,he=>.cons (c.repO h λb z=>he b (bB _ z)) (Chg.repsO c r λb z=>he b (aL _ z))
def wU(ho:PVp X oe f)(he:PV X e fe)(hfew:((cY p3 (aF [e] X.env)).all (λx=>!x.1)&&(iS p3 (fA [] X.env)).all (λx=>x.1.isSome)
    && decide ([e].length+([]:List oM).length+(if ([]:List oM).isEmpty then 0 else 1)<30))=true:=by rfl)(hline:(p2.endLine==p3.line)=true:=by rfl)(hs:aF [e] X.env=(false,bU e X.env)::aF [] X.env:=by rfl)(hbase:dB oe "append" X.env (bU oe X.env)=bU oe X.env:=by rfl)(hsw:eC (.Call (.Attribute oe "append" p2) [e] [] p3) none pos.line X.env=pure false:=by rfl) :
  PSv X (.Expr (.Call (.Attribute oe "append" p2) [e] [] p3) pos) (appP f fe):=by
 obtain⟨tp,hp,hf⟩:=ho;obtain⟨te,pe,he⟩:=he;refine⟨_,wT (TN iB EX EV HK hp (jA pe yP hs) hbase hfew hline hs rfl) hsw,λH₀ H O σ ds hd out E o e h=>?_⟩;obtain⟨q,h1,e⟩:=bnd e;obtain⟨d,h2,e⟩:=bnd e;refine hf H₀ H O σ ds hd q _ o h1 λr T v w fs g1 g2 g3 g4 g5=>?_;cases hq:q.2.2 with
 |lst l=>
   rw[hq]at e g2 g5;simp only at e;split at e
   . rename_i hl;cases e;cases g5 with
     |@lst a xs _ fs' n hb rs=>
       refine⟨.inl ⟨rfl,xs,SqL.of hb⟩,?_⟩;refine he H₀ H O σ ds hd d _ o h2 λv1 H1 s1 r1=>?_;refine⟨a,xs,v1,rfl,rfl,s1 _ _ hb,by rw[rs.length];exact hl,?_⟩;have ok:=(o.mono s1).putL g1 g2 g3 (yK s1 g4) λxs2 fs2 k1 k2 k3 k4 k5=>⟨fs2,λ_ z=>z,k4,λ{H'} c=>by
        rw[s1 _ _ hb]at k1;cases k1
        exact(c.repsO k3 λb z y=>k5 (aR.mp y▸z)).snoc (c.rep r1)⟩
       have e':putP q (.lst (l++[.val d])) ds=ds.set q.1 (.ob r (putO (.lst (l++[.val d])) q.2.1 T)):=by simp[putP,g1]
       rw[e']at h;exact h _ _ _ ok
   . cases e
 |_=>rw[hq]at e;cases e
section
variable{K:Frag}
def RepO.frz{v:V}{t:OT}{fs:List aD}(r:RepO K H O v t fs)(h:∀a,O' a->O a/\a∉fs):Rep K H O' v (otD t):=r.val' h
theorem Ok.frz{σ:L2.St}{ds:List Sl}{hd:Hold}{i:Nat}{r:Option Nat}{T:OT}(o:Ok K H₀ H O σ ds hd)(e:ds[i]?=some (.ob r T)):∃O',Ok K H₀ H O' σ (ds.set i (.v (otD T))) hd:=by
 obtain⟨F,hF⟩:=o.obs;obtain⟨v,h1,h2,h3,h4,h5⟩:=hF i r T e;have hl:i<ds.length:=(aV.mp e).1
 let O':aD->Prop:=λb=>O b/\b∉F i
 have sub:∀b,O' b->O b:=λb hb=>hb.1;have own':∀{j:Nat},IsOwn (ds.set i (.v (otD T))) j->IsOwn ds j/\j≠i:=λh=>wB (λl=>by intro z;cases z) h;refine⟨O',o.same,λj l' b e1 e2=>?_,λb hb=>o.dom b (sub b hb),by simpa using o.len,λj s es=>?_,λj m b hjm hj hm e1 e2=>o.apart j m b hjm (own' hj).1 (own' hm).1 e1 e2,λp hp=>?_,?_⟩
 . obtain⟨⟨l2,e2'⟩,_⟩:=own' ⟨l',e1⟩;exact o.fresh j l2 b e2' e2
 . by_cases hj:j=i
   . subst hj;rw[aM hl]at es;cases es;rw[h1];exact yO (h2.frz λa z=>z)
   . rw [aB (Ne.symm hj)]at es;cases s with
     |no=>exact jD
     |ob r t=>exact yV
     |exc t=>obtain⟨a',C',ob',u',q1,q2,q3,q4⟩:=o.readX es;rw[q1];exact⟨C',ob',u',q2,q3,q4⟩
     |exf t fs=>obtain⟨a',q1,q3⟩:=o.readE es;rw[q1];exact q3.keep λa' ob' u' q3=>q3
     |fr l'=>obtain⟨a',xs',q1,q2,q0,q3,q4⟩:=o.readF es;rw[q1];exact⟨λz=>q2 (sub _ z),q0,xs',q3,q4.less sub⟩
     |v d=>obtain⟨v,q1,q2⟩:=o.read es;rw[q1];exact yO (q2.less sub)
     |own l'=>obtain⟨b,ys,q1,q2,q3,q4⟩:=o.readO es;rw[q1];exact⟨⟨q2,λz=>(h5 b z).2.2 j ⟨l',es⟩ q1⟩,ys,q3,q4.less sub⟩
 . have:=o.hold p hp;cases p with
   |rep v d=>exact Rep.less sub this
   |base B=>exact λb hb=>⟨⟨(this b hb).1,λz=>(this b hb).2 (h5 b z).1⟩,(this b hb).2⟩
   |root k a=>exact True.intro
   |fz a' o' kvs' l'=>exact⟨λz=>this.1 (sub _ z),this.2.1,Reps.less sub this.2.2⟩
 . refine⟨F,λj r' t' ej=>?_⟩;obtain⟨ej,hj⟩:=wP (λr t=>by intro z;cases z) ej;obtain⟨w,g1,g2,g3,g4,g5⟩:=hF j r' t' ej;refine⟨w,g1,g2.less sub λb hb=>⟨(g2.owns b hb).1,λz=>(h5 b z).2.1 j r' t' hj ej hb⟩,g3,g4,λb hb=>⟨(g5 b hb).1,λm r2 t2 hm em=>(g5 b hb).2.1 m r2 t2 hm (wP (λr t=>by intro z;cases z) em).1,λm om em=>(g5 b hb).2.2 m (own' om).1 em⟩⟩
end
noncomputable def spL(K:Frag)(n:Nat)(F:OT->List D->Option OT):Sp:=λvs H Q _=>∃(a:aD) (T T':OT) (fs:List aD) (B:aD->Prop) (vs':List V) (l:List D),vs=.ref a::vs'/\vs'.length=n/\RepO K H (orL fs B) (.ref a) T fs/\fs.Nodup ∧
 (∀b,B b->b∉fs/\∃u:MutHO,H b=some u.1)/\Reps K H (orL fs B) vs' l/\F T l=some T' ∧
 ∀H' fs',(∀b u,b∉fs->H b=some u->H' b=some u)->RepO K H' (orL fs' B) (.ref a) T' fs'->fs'.Nodup->(∀b∈fs',b∈fs\/H b=none)->Q .non H'
noncomputable def cutH(fs:List aD)(H:Hp):Hp:=λb=>if b∈fs then none else H b
def BV(h:b∈fs):cutH fs H b=none:=if_pos h
def xQ(h:b∉fs):cutH fs H b=H b:=if_neg h
def HZ(h:cutH fs H b=none):b∈fs\/H b=none:=by
 by_cases z:b∈fs
 . exact .inl z
 . rw[xQ z]at h;exact .inr h
def uP:¬IsOwn (argsL n T l) i:=λ⟨l',e⟩=>by
 unfold argsL at e;cases i with
 |zero=>cases e
 |succ i=>
   rw[eP]at e;unfold args at e;by_cases hi:i<l.length
   . rw [bA (by simpa using hi),aP]at e;cases h:l[i]? with
     |none=>rw[h]at e;cases e
     |some d=>rw[h]at e;cases e
   . rw [bZ (by simpa using hi),cP]at e;split at e<;>cases e
def WN{K:Frag}(rt:RepO K H (orL fs B) (.ref a) T fs)(nd:fs.Nodup)(hB:∀b,B b->b∉fs/\∃u:MutHO,H b=some u.1)(r:Reps K H (orL fs B) vs l)(hN:0<N.length) :
  Ok K (cutH fs H) H (orL fs B) (L2.start N (.ref a::vs)) (argsL N.length T l) [.root 0 a,.base B]:=by
 have hl:=r.length;refine⟨λb u e=>?_,λi l' a' e _=>(uP ⟨l',e⟩).elim,λb hb=>hb.elim (λz=>(rt.owns b z).2) λz=>(hB b z).2,?_,λi s e=>?_,λi j a _ hi _ _ _=>(uP hi).elim,λp hp=>?_,?_⟩
 . by_cases z:b∈fs
   . rw[BV z]at e;cases e
   . rwa [xQ z]at e
 . simp [L2.start,argsL,args,bS,cA,kT,aG,hl]
   lia
 . unfold argsL at e;cases i with
   |zero=>cases e;exact yV
   |succ i=>
     rw[eP]at e;have eσ:(L2.start N (.ref a::vs))[i+1]?=(vs.map some++List.replicate (N.length-(vs.length+1)) none)[i]?:=by simp[L2.start,aK,dF,eP,aG]
     rw[eσ];unfold args at e;by_cases hi:i<l.length
     . rw[bA (by simpa using hi),aP]at e;rw[bA (by simpa[hl]using hi),aP];obtain⟨d,h,rfl⟩:=mpd e;obtain⟨v,h1,h2⟩:=r.get h;rw[h1];exact yO h2
     . rw [bZ (by simpa using hi),cP]at e;split at e
       . cases e;exact jD
       . cases e
 . rcases aA.mp hp with rfl|hp
   . exact True.intro
   . cases aR.mp hp;refine λb hb=>⟨.inr hb,λz=>?_⟩
     obtain⟨n,u,e⟩:=hB b hb;rw[xQ n,e]at z;cases z
 . refine ⟨λi=>if i=0 then fs else [],λi r' t' e=>?_⟩;cases i with
   |succ i=>unfold argsL at e;exact(LF _ _ _ _ _ e).elim
   |zero=>
     cases e;refine⟨.ref a,rfl,by simpa using rt,λk a' ek h=>?_,by simpa using nd,λb hb=>⟨BV (by simpa using hb),λj r2 t2 hj _=>by simp[hj],λj oj=>(uP oj).elim⟩⟩;rcases aA.mp h with h|h
     . cases h;rfl
     . cases aR.mp h
def aDm{K:Frag}{st:Stmt}(hok:∀sp,(∀vs H Q E,sp vs H Q E->vs.length=ps.length)->(∀cdv A outer s H vs Q E,Room k (A.deeper (iW qual (zI st) s.heap.objs.size f cdv))->sp vs H Q E->∃t,PSs (cxOf CX0 P w K mg base N qual (zI st) f cdv A outer s H E).nox (qG st) t/\t {nx:=λ_ H'=>Q .non H',rt:=Q} (start N vs) H)->FnOk P w K mg base CX0 (k+1) f fd ps sp)(hbody:∀cdv A outer s H E,Room k (A.deeper (iW qual (zI st) s.heap.objs.size f cdv))->PSsv (cxOf CX0 P w K mg base N qual (zI st) f cdv A outer s H E).nox (qG st) g)(hg:∀T l T',l.length=n->F T l=some T'->lentF g N.length T l=some T')(hn:ps.length=n+1:=by rfl)(hN:0<N.length:=by decide):FnOk P w K mg base CX0 (k+1) f fd ps (spL K n F):=by
 refine hok _ (λvs H Q E h=>?_) (λcdv A outer s H vs Q E hr h=>?_)
 . obtain⟨a,T,T',fs,B,vs',l,rfl,hl,_⟩:=h;simp[aG];lia
 . obtain ⟨a, T, T', fs, B, vs', l, rfl, hl, rt, nd, hB, ra, e, q⟩ := h;obtain ⟨t,ht,hf⟩:=hbody cdv A outer s H E hr;refine ⟨t,ht,?_⟩;have o:=WN rt nd hB ra hN;have e:=hg T l T' (by rw [<- ra.length]; exact hl) e;unfold lentF at e;cases h1:g (argsL N.length T l) with
   |none=>rw[h1]at e;cases e
   |some out=>
     rw[h1]at e;cases out with
     |nx ds=>
       simp only at e;cases h2:ds[0]? with
       |none=>rw[h2]at e;cases e
       |some s0=>
         rw[h2]at e;cases s0 with
         |ob r T2=>
           have hr0:r=some 0/\T2=T':=by
            cases r with
            |none=>cases e
            |some i=>
              cases i with
              |zero=>cases e;exact⟨rfl,rfl⟩
              |succ i=>cases e
           obtain⟨rfl,rfl⟩:=hr0;refine hf _ H _ _ _ _ _ _ o h1 (λσ H' O' o'=>?_);obtain⟨F',hF⟩:=o'.obs;obtain⟨v,y1,y2,y3,y4,y5⟩:=hF 0 _ _ h2;cases y3 0 a rfl (.head _);have hb:=o'.hold (.base B) (.tail _ (.head _));exact q H' (F' 0) (λb u nb eb=>o'.same b u (by rw[xQ nb];exact eb)) (y2.less (λb z=>z.elim (λz=>(y2.owns b z).1) λz=>(hb b z).1) λb z=>.inl z) y4 λb z=>HZ (y5 b z).1
         |_=>cases e
     |_=>cases e
def KD{K:Frag}{st:Stmt}(Fn:Fun K x qual st f fd)(S:FnScope N ps (zI st))(hbody:∀cdv A outer s H E,Room k (A.deeper (iW qual (zI st) s.heap.objs.size f cdv))->PSsv (cxOf CX0 P w K mg base N qual (zI st) f cdv A outer s H E).nox (qG st) g)(hg:∀T l T',l.length=n->F T l=some T'->lentF g N.length T l=some T')(hn:ps.length=n+1:=by rfl)(hN:0<N.length:=by decide):FnOk P w K mg base CX0 (k+1) f fd ps (spL K n F):=by exact aDm (λsp a b=>Fn.ok S a b) hbody hg hn hN
structure LCal(P:bY)(w:cU)(K:Frag)(mg:Str->Option aI)(base:Heap)(m:Str)(k n:Nat)(cs:List Nat)(F:Nat->OT->List D->Option OT):Prop where
 no:∀t∈cs,m∉eU t
 of:∀t∈cs,∀C,aQ K mainGlobals (eF t)=some (some (.ref C))->∃(f:aD) (fd:bE) (ps:List Str),Cls K C/\Meth K C m f/\FnOk P w K mg base CX0 k f fd ps (spL K n (F t))/\Binds K fd ps []
def NB{K:Frag}: LCal P w K mg base m k n [] F:=⟨λ_ h=>(nomatch h),λ_ h=>(nomatch h)⟩
def XD{K:Frag}(a:aQ K mainGlobals (eF t)=some (some (.ref C)))(c:Cls K C)(hm:Meth K C m f)(G:FnOk P w K mg base CX0 j f fd ps (spL K n (F t)))(hj:j<=k)(b:Binds K fd ps [])(hn:m∉eU t)(h:LCal P w K mg base m k n cs F):LCal P w K mg base m k n (t::cs) F:=by
 refine⟨λt' ht=>(aA.mp ht).elim (λe=>e▸hn) (h.no t'),λt' ht C' e=>?_⟩;rcases aA.mp ht with rfl|ht
 . rw[a]at e;cases e;exact⟨f,fd,ps,c,hm,G.mono hj,b⟩
 . exact h.of t' ht C' e
def aDa(M:LCal X.prog X.w X.K X.mg X.base m k n cs F)(hf:∀H₀ H O σ ds hd q Q,Ok X.K H₀ H O σ ds hd->f ds=some q->(∀r T v w fs,ds[q.1]?=some (.ob r T)->subO q.2.1 T=some q.2.2->σ[q.1]?=some (some v)->PathV H v q.2.1 w->RepO X.K H O w q.2.2 fs->Q w H)->ta σ H Q)(hfg:∀H₀ H O σ ds hd l Q,Ok X.K H₀ H O σ ds hd->g ds=some l->(∀vs H',Same H H'->Reps X.K H' O vs l->Q vs H')->t σ H Q)(o:Ok X.K H₀ H O σ ds hd)(h1:lentG n cs F f g ds=some (.nx ds'))(q:∀H' O',Ok X.K H₀ H' O' σ ds' hd->Q .non H'):IS X m k ta t σ H Q:=by
 obtain⟨q0,h2,h1⟩:=bnd h1;obtain⟨l,h3,h1⟩:=bnd h1;refine hf H₀ H O σ ds hd q0 _ o h2 λr T v w fs g1 g2 g3 g4 g5=>?_;cases hu:q0.2.2 with
 |ins c ts=>
   rw[hu]at h1 g5 g2;simp only at h1;split at h1
   . rename_i hc;cases h4:F c (.ins c ts) l with
     |none=>rw[h4]at h1;cases h1
     |some T'=>
       rw[h4]at h1;cases h1;cases g5 with
       |@ins a C dx _ kvs _ fs' cc nn ha ek rr=>
         obtain⟨fa,fd,ps,cl,hm,Fn,hb⟩:=M.of c hc.1 C cc;refine⟨a,C,dx,kvs,fa,fd,ps,_,rfl,ha,xG (by rw[ek];exact M.no c hc.1),cl,hm,Fn,hb,?_⟩;refine hfg H₀ H O σ ds hd l _ o h3 λvs H2 s2 r2=>?_;have o2:=o.mono s2;obtain⟨v',w',f',y1,y2,y3,y4,y5,y6⟩:=o2.modAt g1 g2;rw[g3]at y1;cases y1;cases yT (yK s2 g4) y2;have ow:=λb z=>(y3.owns b z).1
         let B:aD->Prop:=λb=>O b/\b∉f'
         have toO:∀b,orL f' B b->O b:=λb z=>z.elim (ow b) λz=>z.1;refine⟨a,_,T',f',B,vs,l,rfl,by rw[r2.length];exact hc.2,y3.less toO (λb z=>.inl z),y4,λb z=>⟨z.2,o2.dom b z.1⟩,r2.less toO,h4,λH' fs2 k1 k2 k3 k4=>?_⟩;have e':putP q0 T' ds=ds.set q0.1 (.ob r (putO T' q0.2.1 T)):=by simp[putP,g1]
         rw[e']at q;refine q H' (orL fs2 B) (y6 ⟨λb u nb eb=>k1 b u (λz=>nb (ow b z)) eb,λb u _ nb eb=>k1 b u nb eb,λb z nb=>.inr ⟨z,nb⟩,λb z=>z.elim (λz=>(k4 b z).elim (λy=>.inl (ow b y)) λy=>.inr ⟨z,y⟩) λz=>.inl z.1,k4⟩ (λb z y=>y.elim (λy=>(k2.owns b y).2) λy=>(y.2 z).elim) k2 k3)
   . cases h1
 |_=>rw[hu]at h1;cases h1
def MJ(M:LCal X.prog X.w X.K X.mg X.base m k n cs F)(hr:Room j X.A)(ho:PVp X oe f)(ha:PAs X (e::es) g)(hj:k<=j:=by decide)(hst:aF (e::es) X.env=(false,bU e X.env)::aF es X.env:=by rfl)(hpl:(cY pos (aF es X.env)).any (·.1)=false:=by rfl)(ht:bU (.Call (.Attribute oe m apos) (e::es) [] pos) X.env=(do
    let ov <- bU oe X.env
    lD apos.atName
    let (f,first) <- gC [ov] (mC ov m pl)
    sZ pos f first (cY pos (aF (e::es) X.env)) (iS pos (fA [] X.env))):=by rfl)(hsw:eC (.Call (.Attribute oe m apos) (e::es) [] pos) none pos'.line X.env=pure false:=by rfl):PSv X (.Expr (.Call (.Attribute oe m apos) (e::es) [] pos) pos') (lentG n cs F f g):=by
 obtain⟨ta,pa,hf⟩:=ho;obtain⟨t,pt,hfg⟩:=ha;refine⟨_,wT (DK pa (hr.mono hj) pt hst hpl ht) hsw,λH₀ H O σ ds hd out E o e h=>?_⟩;have:∃ds',out=.nx ds':=by
  obtain⟨q0,h2,e⟩:=bnd e;obtain⟨l,h3,e⟩:=bnd e;split at e
  . split at e
    . rename_i c ts _ _;cases h4:F c (.ins c ts) l with
      |none=>rw[h4]at e;cases e
      |some T'=>rw[h4]at e;cases e;exact⟨_,rfl⟩
    . cases e
  . cases e
 obtain⟨ds',rfl⟩:=this;exact aDa M hf hfg o e λH' O' o'=>h _ _ _ o'
section
variable{K:Frag}
def Ok.putN(y:MutHO)(o:Ok K H₀ H O σ ds hd)(e:ds[i]?=some (.ob r T))(hs:subO p T=some u)(hv:σ[i]?=some (some v))(hp:PathV H v p (.ref a))(h:∀f,RepO K H O (.ref a) u f->f.Nodup->∃f',O a/\a∈f/\(∀b∈f',b∈f)/\f'.Nodup/\RepO K (upd H a y.1) O (.ref a) u' f'):Ok K H₀ (upd H a y.1) O σ (ds.set i (.ob r (putO u' p T))) hd:=by
 obtain⟨v',w',f,y1,y2,y3,y4,y5,y6⟩:=o.modAt e hs;rw[hv]at y1;cases y1;cases yT hp y2;obtain⟨f',n,h1,h2,h3,h4⟩:=h f y3 y4;refine y6 (.ofUpd n h1 h2) (λb z _=>?_) h4 h3;by_cases z':b=a
 . rw[z',zO];exact⟨y,rfl⟩
 . rw[upd_ne z'];exact(y3.owns b z).2
def kC(r:Rep K H O v d)(e:keyD d=some k):v=kV k:=by
 cases d<;>first|(cases e;done)|skip
 . cases e;cases r;rfl
 . cases e;cases r;rfl
 . cases e;cases r;rfl
def BQ(r:Rep K H O v d)(e:kdD d=some p):∃a kvs,v=.ref a/\Rd H a (.dK kvs)/\kvs.map (·.1)=p.1/\Reps K H O (kvs.map (·.2)) p.2:=by
 cases d<;>first|(cases e;done)|skip
 . cases e;cases r with
   |@dct a kvs _ _ n hb ek rs=>exact⟨a,kvs,rfl,.inl hb,ek,rs⟩
 . cases e;cases r with
   |@dcf a o kvs _ _ n hb ek rs=>exact⟨a,kvs,rfl,.inr ⟨o,hb⟩,ek,rs⟩
theorem LR:∀{kvs:List (Key×V)}{l:List D}{k:Key}{d:D},Reps K H O (kvs.map (·.2)) l->getKD k (kvs.map (·.1)) l=some d->∃v,valV kvs k=some v/\Rep K H O v d
 |[],_,_,_,_,e=>by simp[getKD]at e
 |(k',v)::r,[],_,_,h,_=>by cases h
 |(k',v)::r,d'::l,k,d,.cons h t,e=>by
   simp only[aK,getKD]at e;by_cases z:k'=k
   . rw[if_pos z]at e;cases e;exact⟨v,sG z,h⟩
   . rw[if_neg z]at e;obtain⟨w,h1,h2⟩:=LR t e;exact⟨w,by simpa[valV,cN,z]using h1,h2⟩
theorem GF:∀kvs k,(valV kvs k).isSome=hasK k (kvs.map (·.1))
 |[],k=>rfl
 |(k',v)::r,k=>by
   by_cases z:k'=k
   . simp[valV,cN,z,hasK]
   . have:=GF r k;simp only[valV,hasK]at this ⊢;rw[iT (by simpa using z),this];simp[z]
def HA(h:hasK k (kvs.map (·.1))=true):putK kvs k v=kvs.map (λkv=>if kv.1=k then (kv.1,v)else kv):=by unfold putK;rw[if_pos];rw[hasK,List.any_map]at h;exact h
def kD(h:¬hasK k (kvs.map (·.1))=true):putK kvs k v=kvs++[(k,v)]:=by unfold putK;rw[if_neg];rw[hasK,List.any_map]at h;exact h
def WD(kvs:List (Key×V)) k v:(kvs.map (λkv=>if kv.1=k then (kv.1,v)else kv)).map (·.1)=kvs.map (·.1):=by rw[dU];refine hG λkv _=>?_;simp only[Function.comp];split<;>rfl
theorem RepsO.putTs(r:Rep K H O v d):∀{kvs:List (Key×V)}{ts:List OT}{fs:List aD},RepsO K H O (kvs.map (·.2)) ts fs->∃fs',fs'.Sublist fs/\RepsO K H O ((kvs.map (λkv=>if kv.1=k then (kv.1,v)else kv)).map (·.2)) (FL.putTs k (.val d) (kvs.map (·.1)) ts) fs'
 |[],_,_,.nil=>⟨[],.slnil,.nil⟩
 |(k',w)::kvs,_,_,.cons (t:=t) (ts:=ts) (fs:=fs) (gs:=gs) h q=>by
   obtain⟨gs',h1,h2⟩:=RepsO.putTs r q;by_cases z:k'=k
   . refine⟨gs',h1.trans (List.sublist_append_right _ _),?_⟩;simp only[aK,z,if_true,FL.putTs];exact .cons (fs:=[]) (.val r) h2
   . refine⟨fs++gs',h1.append_left _,?_⟩;simp only[aK,z,if_false,FL.putTs];exact .cons h h2
end
def aAo:PVo X (.Dict [] [] pos) dO0:=by refine⟨_,aBv,λH₀ H O σ ds hd T Q o e q=>λp hp=>?_⟩;cases e;exact q _ _ [p] (qF hp _) (.dct (.inl (.head _)) zO rfl .nil) (by simp) λb hb=>by rw[aR.mp hb];exact hp
def MK(hr:Room j X.A)(ho:PVp X oe f)(hk:PV X ke fk)(he:PV X e fv)(hs:eC e (some (.Subscript oe ke pos')) pos.line X.env=pure false:=by rfl) :
  PSv X (.Assign [.Subscript oe ke pos'] e pos) (dputG f fk fv):=by
 obtain⟨tp,hp,hf⟩:=ho;obtain⟨tk,pk,hk⟩:=hk;obtain⟨te,pe,he⟩:=he;refine⟨_,TC (gF (by lia) (hu100 hr)) hp pk pe hs,λH₀ H O σ ds hd out E o e h=>?_⟩;obtain⟨d,h1,e⟩:=bnd e;obtain⟨q,h2,e⟩:=bnd e;obtain⟨y,h3,e⟩:=bnd e;obtain⟨k,h4,e⟩:=bnd e;refine he H₀ H O σ ds hd d _ o h1 λv H1 s1 r1=>?_;refine hf H₀ H1 O σ ds hd q _ (o.mono s1) h2 λr T v0 w fs g1 g2 g3 g4 g5=>?_;refine hk H₀ H1 O σ ds hd y _ (o.mono s1) h3 λyv H2 s2 r2=>?_;have o2:=(o.mono s1).mono s2;cases hq:q.2.2 with
 |dct ks ts=>
   rw[hq]at e g2 g5;simp only at e;split at e
   . rename_i hl;cases e;cases g5 with
     |@dct a kvs _ _ fs' n hb ek rs=>
       have hb2:=s2 _ _ hb;cases kC r2 h4;have ln:kvs.length<sizeLine:=by rw[<-ek]at hl;simpa using hl
       refine⟨a,_,rfl,DPut.k hb2 ln,?_⟩;have e':putP q (putKT k (.val d) ks ts) ds=ds.set q.1 (.ob r (putO (putKT k (.val d) ks ts) q.2.1 T)):=by simp[putP,g1]
       rw[e']at h;refine h _ _ _ (Ok.putN ⟨.dK (putK kvs k v),rfl⟩ o2 g1 g2 g3 (yK s2 g4) λf2 k1 k2=>?_);cases k1 with
       |@dct _ kvs2 _ _ fs2 n2 hb3 ek2 rs2=>
         rw[hb2]at hb3;cases hb3;obtain⟨n3,n4⟩:=bC.mp k2;have c:Chg H2 (upd H2 a (.dK (putK kvs k v))) O O [a] [a]:=.ofUpd n (.head _) λ_ z=>z;have rs3:=c.repsO rs2 λb z y=>n3 (aR.mp y▸z);have rv:=c.rep (r1.mono s2);unfold putKT;by_cases hm:hasK k ks=true
         . rw [if_pos hm];have hm':hasK k (kvs.map (·.1))=true:=by rw [ek];exact hm
           obtain⟨fs3,w1,w2⟩:=RepsO.putTs rv rs3;refine⟨a::fs3,n,.head _,λb z=>(aA.mp z).elim (λz=>by rw[z];exact .head _) λz=>.tail _ (w1.subset z),bC.mpr ⟨λz=>n3 (w1.subset z),w1.nodup n4⟩,?_⟩;refine .dct n zO ?_ ?_
           . rw[HA hm',WD,ek]
           . have z:=congrArg (List.map (·.2)) (HA (v:=v) hm');rw[ek]at w2;rw[<-z]at w2;exact w2
         . rw [if_neg hm];have hm':¬ hasK k (kvs.map (·.1))=true:=by rw [ek];exact hm
           refine⟨a::fs2,n,.head _,λb z=>z,k2,?_⟩;refine .dct n zO ?_ ?_
           . rw[kD hm'];simp[ek]
           . have z:(putK kvs k v).map (·.2)=kvs.map (·.2)++[v]:=by rw [kD hm'];simp
             rw[z];exact rs3.snoc rv
   . cases e
 |_=>rw[hq]at e;cases e
def SQ(hr:Room j X.A)(ho:PV X oe fd)(hk:PV X ke fk)(hs:NoSl ke:=by exact λ_ _=>rfl):PV X (.Subscript oe ke pos) (dgetG fd fk):=by obtain⟨td,pd,hd'⟩:=ho;obtain⟨tk,pk,hk⟩:=hk;refine⟨_,pe_dget (gF (by lia) (hu100 hr)) pd pk hs,λH₀ H O σ ds hd d Q o e q=>?_⟩;obtain⟨x,h1,e⟩:=bnd e;obtain⟨y,h3,e⟩:=bnd e;obtain⟨k,h4,e⟩:=bnd e;refine hd' H₀ H O σ ds hd x _ o h1 λv H1 s1 r1=>?_;refine hk H₀ H1 O σ ds hd y _ (o.mono s1) h3 λyv H2 s2 r2=>?_;obtain⟨p,h6,e⟩:=bnd e;obtain⟨a,kvs,rfl,hb,ek,rs⟩:=BQ (r1.mono s2) h6;cases kC r2 h4;rw[<-ek]at e;obtain⟨w,h5,h6⟩:=LR rs e;exact⟨a,w,rfl,.inl ⟨kvs,k,hb,rfl,h5.symm⟩,q w H2 (s1.trans s2) h6⟩
def aAw(hr:Room j X.A)(hk:PVn X ke fk)(ho:PVn X oe fd)(hm:dH .NotIn oe=false:=by rfl):PTv X (.Compare ke [.NotIn] [oe] pos) (dnotG fk fd):=by
 obtain⟨td,pd,hd'⟩:=ho;obtain⟨tk,pk,hk⟩:=hk;refine⟨_,pt_cmp (WI (gF (by lia) (hu100 hr)) pk pd) hm,λH₀ H O σ ds hd b Q o e q=>?_⟩;unfold dnotG dinG at e;cases h3:fk ds with
 |none=>rw[h3]at e;cases e
 |some y=>
   rw[h3]at e;simp[aO]at e;cases h4:keyD y with
   |none=>rw[h4]at e;cases e
   |some k=>
     rw[h4]at e;cases h1:fd ds with
     |none=>rw[h1]at e;cases e
     |some x=>
       rw[h1]at e;simp only[aO]at e;refine hk H₀ H O σ ds hd y _ o h3 λyv H1 s1 r1=>?_;refine hd' H₀ H1 O σ ds hd x _ (o.mono s1) h1 λv H2 s2 r2=>?_;cases h6:kdD x with
       |none=>rw[h6]at e;cases e
       |some p=>rw[h6]at e;cases e;obtain⟨a,kvs,rfl,hb,ek,rs⟩:=BQ r2 h6;cases kC r1 h4;refine⟨a,_,rfl,.inl ⟨kvs,k,hb,rfl,rfl⟩,_,rfl,?_⟩;rw[GF,ek];exact q H2 (s1.trans s2)
end FL
namespace L2
def Inv.freezeD(I:Inv X aC σ H s)(e:H a=some (.dK kvs)):∃o,Inv X aC σ (upd H a (.frz o (.dK kvs))) s:=by obtain⟨z,hd,vs,rel,dd⟩:=dk_of I.hok e;obtain⟨o,es,ep,ho,r⟩:=id dd;exact⟨o,KO I (by rw[e];trivial) ⟨rfl,λ_ _=>rfl⟩ ⟨o,ho⟩ ⟨ho,z,hd,vs,rel,dd⟩⟩
def wN(I:Inv X aC σ H s)(hd:H d=some (.frz o (.dK kvs)))(dat:o.data=.dict es ep):∃vs,KV kvs vs/\s.heap.DictAt (eY X.prog X.w) d vs ep:=by obtain⟨ho,z,hds,vs,rel,o',es',ep',e1,ex,dat',r⟩:=I.hok d _ hd;rw[ho]at e1;cases e1;rw[dat]at dat';cases dat';exact⟨vs,rel,o,es,ho,ex,dat,r⟩
def KV.get{kvs:List (κ×V)}{vs:List (κ×aI)}{i:Nat}{k:κ}(h:KV kvs vs)(e:kvs[i]?=some (k,x)):∃u,vs[i]?=some (k,u)/\RelV x u:=by
 induction h generalizing i with
 |nil=>simp at e
 |@cons p q _ _ h _ ih=>
   cases i with
   |zero=>simp[cE,Option.some.injEq]at e;subst e;exact⟨q.2,by simp[cE];rw[show q=(k,q.2) from Prod.ext h.1.symm rfl],h.2⟩
   |succ i=>exact ih e
end L2
namespace FL
section
variable{K:Frag}
end
def WlkD(K:Frag)(J:It)(h:HI)(items:List D):Prop:=∀H₀ H O,(∀a,O a->∃u:MutHO,H a=some u.1)->HOk K H₀ H O h →
 (∀i d,items[i]?=some d->J.go i H/\∀x H',J.yld i H x H'->Same H H'/\Rep K H' O x d)/\J.stop items.length H
variable(X) in
def PId(tg iter:Expr)(fi:FA):Prop:=∃wi,PI X tg iter wi/\∀H₀ H O σ ds hd items R,Ok X.K H₀ H O σ ds hd->fi ds=some items →
 (∀J p H',Same H H'->HOk X.K H₀ H' O p->(∀k a,HI.root k a≠p)->(∀B,HI.base B≠p)->WlkD X.K J p items->R J H')->wi σ H R
theorem kV_rep{K:Frag}:∀k,Rep K H O (kV k) (keyDD k)
 |.inl (some i)=>.int i
 |.inl none=>.non
 |.inr x=>.str x
def aBb{iter:Expr}(hp:tK (bK X.prog X.w) X.A X.env X.xe)(hc:X.calm=true)(hi:PId X tg iter fi)(hg:PGv X tg ga)(hb:PSsv X body g)(hs:∀x,dZ iter X.env x=pure x:=by intro _;rfl):PSv X (.For tg iter body [] pos) (forG fi ga g):=by
 obtain⟨wi,pi,hi⟩:=hi;obtain⟨tg',pg,hg⟩:=hg;obtain⟨tb,pb,hb⟩:=hb;refine⟨_,PU hp hc pi pg pb hs,λH₀ H O σ ds hd out E o e h=>?_⟩;obtain⟨items,h1,e⟩:=bnd e;refine hi H₀ H O σ ds hd items _ o h1 λJ p H' s r nr nb wk=>?_;refine⟨λi m σ' H'=>i<=items.length/\m=items.length-i/\∃O' ds',Ok X.K H₀ H' O' σ' ds' (p::hd)/\qP ga g (items.drop i) ds'=some out,⟨items.length,cR _,rfl,O,ds,(o.mono s).holdMore r nr,by simpa using e⟩,?_⟩;rintro i m σ1 H1 ⟨hi1,rfl,O1,ds1,o1,e1⟩;obtain⟨go,stop⟩:=wk H₀ H1 O1 o1.dom (o1.hold p aE);by_cases hlt:i<items.length
 . right;have hd0:=aU hlt;obtain ⟨hgo,hy⟩:=go i _ hd0;rw [eA hlt,qP]at e1;refine ⟨hgo,λσ' H'=>i+1<=items.length/\∃ O' ds',Ok X.K H₀ H' O' σ' ds' (p::hd)/\qP ga g (items.drop (i+1)) ds'=some out,λσ' H' ⟨q1,q2⟩=>⟨items.length - (i+1),by lia,q1,rfl,q2⟩,λx H2 y=>?_⟩;obtain ⟨s2,r2⟩:=hy x H2 y;obtain ⟨ds2,h2,e1⟩:=bnd e1;obtain ⟨o3,h3,e1⟩:=bnd e1;refine hg H₀ H2 O1 σ1 ds1 (p::hd) x _ ds2 _ (o1.mono s2) r2 h2 λσ' o'=>?_;refine hb H₀ H2 O1 σ' ds2 (p::hd) o3 _ o' h3 ?_;cases o3 with
   |nx ds3=>exact λσ3 H3 O3 ok3=>⟨hlt,O3,ds3,ok3,e1⟩
   |ct ds3=>exact λσ3 H3 O3 ok3=>⟨hlt,O3,ds3,ok3,e1⟩
   |bk ds3=>cases e1;exact λσ3 H3 O3 ok3=>h σ3 H3 O3 ok3.holdLess
   |rt rr=>cases e1;exact λv H s r b=>h v H s r (GV b)
 . left;have ei:i=items.length:=by lia
   subst ei;rw[lA,qP]at e1;cases e1;exact⟨stop,h σ1 H1 O1 o1.holdLess⟩
section
variable{K:Frag}
theorem RepsO.snocO:∀{xs:List V}{ts:List OT}{fs:List aD}{v:V}{T:OT}{f:List aD},RepsO K H O xs ts fs->RepO K H O v T f->RepsO K H O (xs++[v]) (ts++[T]) (fs++f)
 |_,_,_,_,_,f,.nil,r=>by have:=RepsO.cons (gs:=[]) r .nil;simpa using this
 |_,_,_,_,_,_,.cons (fs:=fs) (gs:=gs) h t,r=>by rw[fN];exact .cons h (RepsO.snocO t r)
end
def PQ(hF:∀C,aQ X.K mainGlobals (eF t)=some (some (.ref C))->Cls X.K C/\NoAttr X.K C n)(ho:PVp X oe f)(he:PVo X e g)(hn:eF t'=eF t:=by rfl)(hfl:eU t'=eU t++[n]:=by rfl)(hnew:n∉eU t:=by decide +kernel)(hs:eC e (some (.Attribute oe n pos')) pos.line X.env=pure false:=by rfl) :
  PSv X (.Assign [.Attribute oe n pos'] e pos) (setNw t t' f g):=by
 obtain⟨tp,hp,hfp⟩:=ho;obtain⟨tv,hv,hg⟩:=he;refine⟨_,ps_fld hp hv hs,λH₀ H O σ ds hd out E o e h=>?_⟩;unfold setNw at e;cases h1:g ds with
 |none=>rw[h1]at e;cases e
 |some T=>
   rw[h1]at e;cases h2:f ds with
   |none=>rw[h2]at e;cases e
   |some q=>
     rw[h2]at e;simp[aO]at e;refine hg H₀ H O σ ds hd T _ o h1 λv H1 fs s1 r1 nd1 n1=>?_;have o1:=o.moreL s1 n1 λb hb=>(r1.owns b hb).2;refine hfp H₀ H1 (orL fs O) σ ds hd q _ o1 h2 λr T0 v0 w fs0 g1 g2 g3 g4 g5=>?_;obtain⟨v',w',f',y1,y2,y3,y4,y5,y6⟩:=o.modAt g1 g2;rw[g3]at y1;cases y1;cases yT g4 (yK s1 y2);cases hq:q.2.2 with
     |ins c l=>
       rw[hq]at y3 e;simp only at e;split at e
       . rename_i hk;obtain ⟨rfl,hk⟩:=hk;cases e;cases y3 with
         |@ins a C dx _ kvs _ fs' cc na ha ek rs=>
           obtain⟨cl,nat⟩:=hF C cc;have ln:kvs.length=l.length:=by simpa using rs.length
           refine⟨a,C,dx,kvs,rfl,s1 _ _ ha,cl,nat,by lia,?_⟩;obtain⟨n3,n4⟩:=bC.mp y4;have old:∀b,H b=none->b∉a::fs':=λb hb z=>by
            rcases aA.mp z with z|z
            . rw[z,ha]at hb;cases hb
            . obtain⟨_,x,ex⟩:=rs.owns b z;rw[hb]at ex;cases ex
           have afs:a∉fs:=λz=>by rw[n1 a z]at ha;cases ha
           have pn:putF n v kvs=kvs++[(n,v)]:=MG (by rw[ek];exact hnew);have hs':∀b u,b≠a->H b=some u->upd H1 a (.ins C dx (putF n v kvs)) b=some u:=λb u nb eb=>by rw[L2.upd_ne nb];exact s1 _ _ eb
           have nO:∀{b:aD},¬O b->b≠a:=λnb z=>nb (by rw[z];exact na)
           have c0:Chg H (upd H1 a (.ins C dx (putF n v kvs))) O (orL fs O) [a] (a::fs):=
            ⟨λb u nb eb=>hs' b u (nO nb) eb,λb u _ nb eb=>hs' b u (λz=>nb (by rw[z];exact .head _)) eb,λb z _=>.inr z,λb z=>z.elim (λz=>.inr ⟨.tail _ z,n1 b z⟩) .inl,λb z=>(aA.mp z).elim (λz=>.inl (by rw[z];exact .head _)) λz=>.inr (n1 b z)⟩
           have rT:RepO X.K (upd H1 a (.ins C dx (putF n v kvs))) (orL fs O) v T fs:=r1.keep (λb u nb eb=>by rw[L2.upd_ne (nO λz=>nb (.inr z))];exact eb) λb hb u eb=>by have z:b≠a:=λz=>afs (by rw[<-z];exact hb);rw[L2.upd_ne z];exact eb
           have rs':=(c0.repsO rs λb hb z=>n3 (aR.mp z▸hb)).snocO rT
           have ok:=y6 (O':=orL fs O)
            ⟨λb u nb eb=>hs' b u (nO nb) eb,λb u _ nb eb=>hs' b u (λz=>nb (by rw[z];exact .head _)) eb,λb z _=>.inr z,λb z=>z.elim (λz=>.inr ⟨.tail _ (aL _ z),n1 b z⟩) .inl,λb z=>?_⟩
            (λb z _=>?_) (.ins (by rw[hn];exact cc) (.inr na) zO (by rw[pn,hfl,<-ek];simp) (by rw[show(putF n v kvs).map (·.2)=kvs.map (·.2)++[v] by rw[pn];simp];exact rs')) (bC.mpr ⟨λz=>?_,?_⟩)
           . have e':putP q (.ins t' (l++[T])) ds=ds.set q.1 (.ob r (putO (.ins t' (l++[T])) q.2.1 T0)):=by simp [putP,g1]
             rw[e']at h;exact h _ _ _ ok
           . rcases aA.mp z with z|z
             . exact .inl (by rw[z];exact .head _)
             . rcases bQ.mp z with z|z
               . exact .inl (.tail _ z)
               . exact .inr (n1 b z)
           . by_cases z':b=a
             . rw[z',zO];exact⟨⟨.ins C dx (putF n v kvs),rfl⟩,rfl⟩
             . rcases aA.mp z with q'|q'
               . exact(z' q').elim
               . obtain⟨_,y,ey⟩:=rs.owns b q';exact⟨y,hs' b _ z' ey⟩
           . rcases bQ.mp z with z|z
             . exact n3 z
             . exact afs z
           . rw[cI];refine⟨n4,nd1,λx hx y hy z=>old x (by rw[z];exact n1 y hy) (.tail _ hx)⟩
       . cases e
     |_=>rw[hq]at e;cases e
structure LMk(P:bY)(w:cU)(K:Frag)(mg:Str->Option aI)(base:Heap)(t k n m:Nat)(F:OT->List D->Option OT):Prop where
 ex:∃(C f:aD) (fd:bE) (ps:List Str),aQ K mainGlobals (eF t)=some (some (.ref C))/\mg (eF t)=some (.ref C)/\Mk K C f/\FnOk P w K mg base CX0 k f fd ps (spL K n F)/\Binds K fd ps (List.replicate m .none)
theorem LQ:∀m,Vals (List.replicate m V.non) (List.replicate m aI.none)
 |0=>.nil
 |m+1=>.cons rfl (LQ m)
theorem LZ{K:Frag}:∀m,Reps K H O (List.replicate m V.non) (List.replicate m D.non)
 |0=>.nil
 |m+1=>.cons .non (LZ m)
def WZ(hc:aQ X.K mainGlobals (eF t)=some (some (.ref C)))(hfl:eU t=[])(hfa:∀H₀ H O σ ds hd l Q,Ok X.K H₀ H O σ ds hd->g ds=some l->(∀vs H',Same H H'->Reps X.K H' O vs l->Q vs H')->ta σ H Q)(o:Ok X.K H₀ H O σ ds hd)(h1:makeO t n m F g ds=some T)(q:∀v H' fs,Same H H'->RepO X.K H' (orL fs O) v T fs->fs.Nodup->(∀b∈fs,H b=none)->Q v H'):tMake C (spL X.K n F) (List.replicate m .non) E0 ta σ H Q:=by
 obtain⟨l,h2,h1⟩:=bnd h1;split at h1
 . rename_i hl;refine hfa H₀ H O σ ds hd l _ o h2 λvs H1 s1 r1=>?_;intro x dx nx ndx nex;have s2:Same H1 (upd (upd H1 dx (.own x)) x (.ins C dx [])):=λb o e=>by rw[upd_ne (jK e nx),upd_ne (jK e ndx)];exact e
   have o1:=o.mono s1;have rl:=r1.length;refine⟨x,.ins t [],T,[x],O,vs++List.replicate m .non,l++List.replicate m .non,rfl,by simp;lia,.ins hc (.inl (.head _)) zO (by rw[hfl];rfl) .nil,by simp,λb hb=>?_,?_,h1,λH' fs' k1 k2 k3 k4=>⟨rfl,q _ H' fs' (λb u eb=>?_) k2 k3 λb hb=>?_⟩⟩
   . obtain⟨u,eu⟩:=o1.dom b hb;exact⟨(λz=>by rw[aR.mp z,nx]at eu;cases eu),u,s2 _ _ eu⟩
   . exact((r1.moreL λp hp=>by rw[aR.mp hp];exact nx).mono s2).append (LZ m)
   . have e1:=s1 _ _ eb;exact k1 b u (λz=>by rw[aR.mp z,nx]at e1;cases e1) (s2 _ _ e1)
   . rcases k4 b hb with z|z
     . rw[aR.mp z];exact s1.free nx
     . exact s1.free (s2.free z)
 . cases h1
def DE(M:LMk X.prog X.w X.K X.mg X.base t k n m F)(hr:Room j X.A)(ha:PAs X (e::es) g)(hj:k+1<=j:=by decide)(hx:eF t=x:=by rfl)(hfl:eU t=[]:=by rfl)(hg:Gl X x:=by rfl)(hdb:(x==("__debug__" : Str))=false:=by decide)(he:aF (e::es) X.env=(false,bU e X.env)::aF es X.env:=by rfl)(hpl:(cY pos (aF es X.env)).any (·.1)=false:=by rfl) :
  PVo X (.Call (.Name x p) (e::es) [] pos) (makeO t n m F g):=by
 obtain⟨C,f,fd,ps,hc,hm,mk,Fn,hb⟩:=M.ex;obtain⟨ta,pa,hfa⟩:=ha;subst hx;exact⟨_,pe_make mk Fn (hr.mono hj) hg hm hb (LQ m) pass0 pa hdb he hpl,λH₀ H O σ ds hd T Q o e q=>WZ hc hfl hfa o e q⟩
variable(X) in
def PVx(e:Expr)(f:FX):Prop:=∃t,PE X e t/\∀H₀ H O σ ds hd d ds' Q,Ok X.K H₀ H O σ ds hd->f ds=some (d,ds')->(∀v H' O',Ok X.K H₀ H' O' σ ds' hd->Rep X.K H' O' v d->Q v H')->t σ H Q
end FL
namespace L2
theorem CF:∀{us:List aI}{ns:List Str},ET us ns->Vals (ns.map V.str) us
 |_,_,.nil=>.nil
 |_,_,.cons n t h=>.cons ⟨t,rfl⟩ (CF h)
def KV.at'{kvs:List (κ×V)}{vs:List (κ×aI)}{i:Nat}{k:κ}(h:KV kvs vs)(e:vs[i]?=some (k,u)):∃x,kvs[i]?=some (k,x)/\RelV x u:=by
 induction h generalizing i with
 |nil=>simp at e
 |@cons p q _ _ h _ ih=>
   cases i with
   |zero=>simp[cE,Option.some.injEq]at e;subst e;exact⟨p.2,by simp[cE];rw[show p=(k,p.2) from Prod.ext h.1 rfl],h.2⟩
   |succ i=>exact ih e
theorem IM:∀{xs:List V}{us:List aI},xs.length=us.length->(∀(j:Nat) u,us[j]?=some u->∃x,xs[j]?=some x/\RelV x u)->Vals xs us
 |[],[],_,_=>.nil
 |[],_::_,h,_=>by simp at h
 |_::_,[],h,_=>by simp at h
 |x::xs,u::us,h,H=>by obtain⟨y,h1,h2⟩:=H 0 u rfl;simp only[cE,Option.some.injEq]at h1;subst h1;exact .cons h2 (IM (by simpa using h) λj v e=>H (j+1) v (by simpa using e))
end L2
namespace FL
end FL
namespace L2
end L2
namespace FL
def Ok.look{K:Frag}(o:Ok K H₀ H O σ ds hd) i:∃O',Ok K H₀ H O' σ (relO i ds) hd:=by
 by_cases hs:∃r T,ds[i]?=some (.ob r T)
 . obtain ⟨r,T,hl⟩:=hs;have e':relO i ds=ds.set i (.v (otD T)):=by unfold relO;rw [hl]
   rw[e'];exact o.frz hl
 . have e':relO i ds=ds:=by
    unfold relO;split
    . rename_i r T hl;exact(hs ⟨r,T,hl⟩).elim
    . rfl
   rw[e'];exact⟨O,o⟩
def kI i(h:PTv X e c):PTv X e (relTO i c):=by obtain⟨t,ht,hf⟩:=h;refine⟨t,ht,λH₀ H O σ ds hd b Q o e q=>?_⟩;obtain⟨O',o'⟩:=o.look i;exact hf H₀ H O' σ _ hd b Q o' e q
def SJ i(h:PV X e f):PV X e (relVO i f):=by
 obtain⟨t,ht,hf⟩:=h;refine⟨t,ht,λH₀ H O σ ds hd d Q o e q=>?_⟩;obtain⟨O',o'⟩:=o.look i;unfold relVO at e;cases h1:f (relO i ds)with
 |none=>rw[h1]at e;cases e
 |some d'=>
   rw[h1]at e;simp only[aO,flV']at e;split at e
   . rename_i hfl;cases e;exact hf H₀ H O' σ _ hd _ Q o' h1 λv H' s r=>q v H' s (Rep.flatten (λa z=>((o.mono s).dom a z).elim λu e=>⟨_,e,u.2⟩) hfl r)
   . cases e
abbrev LkF(K:Frag)(f:aD)(oc:aI)(od:Option aD)(nm q:Str)(st:Stmt)(dV kV dc pm:aI)(an:Option aD)(cd ct:aI)(sl:Array (Option aI)):Prop:=K.lookup f=some ⟨oc,od,.func (cV nm q (yF st) (qG st) (zI st) dV kV dc pm an cd ct),sl⟩
structure FunD(K:Frag)(x qual:Str)(st:Stmt)(f:aD)(fd:bE)(its:Array aI):Prop where
 ex:∃(Tu:aD) (ob:Obj) (n:Nat) (oc:aI) (od:Option aD) (kV doc pm:aI) (an:Option aD) (cdv ct:aI) (osl:Array (Option aI)),
  fd=cV x qual (yF st) (qG st) (zI st) (.ref Tu) kV doc pm an cdv ct/\K.lookup f=some ⟨oc,od,.func fd,osl⟩/\dI K cdv qual=true/\K.lookup Tu=some ob/\ob.data=.seq its n
 kp:bO K (.ref f)=true
section
variable{P:bY}{w:cU}{K:Frag}{mg:Str->Option aI}{base:Heap}{x qual:Str}{st:Stmt}{f:aD}
def FunD.binds(F:FunD K x qual st f fd its)(h:∀Tu kV doc pm an cdv ct us,(us++ds).length=ps.length->∃k,pM (cV x qual (yF st) (qG st) (zI st) (.ref Tu) kV doc pm an cdv ct) ⟨us,[]⟩=seqItems? (.ref Tu) >>= k/\k (some its)=pure (ps.zip (us++ds))):Binds K fd ps ds:=by obtain⟨Tu,ob,n,oc,od,kV,doc,pm,an,cdv,ct,osl,rfl,lk,hcd,lt,hs⟩:=F.ex;intro s us X hl;obtain⟨k,h1,h2⟩:=h Tu kV doc pm an cdv ct us hl;exact PySem.W.binds_K X rfl lt hs h1 h2
def len0{P:List aI->Prop}(h:P []):∀us,us.length=0->P us:=λus hl=>by cases us with|nil=>exact h|cons _ _=>cases hl
def lenS{P:List aI->Prop}(h:∀a us,us.length=n->P (a::us)):∀us,us.length=n+1->P us:=λus hl=>by cases us with|nil=>cases hl|cons a r=>exact h a r (Nat.succ.inj hl)
def len1{P:List aI->Prop}(h:∀a0,P [a0]):∀us,us.length=1->P us:=lenS λa=>len0 (h a)
def len2{P:List aI->Prop}(h:∀a0 a1,P [a0,a1]):∀us,us.length=2->P us:=lenS λa=>len1 (h a)
def len3{P:List aI->Prop}(h:∀a0 a1 a2,P [a0,a1,a2]):∀us,us.length=3->P us:=lenS λa=>len2 (h a)
def len4{P:List aI->Prop}(h:∀a0 a1 a2 a3,P [a0,a1,a2,a3]):∀us,us.length=4->P us:=lenS λa=>len3 (h a)
def len5{P:List aI->Prop}(h:∀a0 a1 a2 a3 a4,P [a0,a1,a2,a3,a4]):∀us,us.length=5->P us:=lenS λa=>len4 (h a)
def DefM(K:Frag)(x:Str)(st:Stmt)(f:aD):Prop:=∃(oc:aI) (od:Option aD) (kV dc pm:aI) (an:Option aD) (cd ct:aI) (sl:Array (Option aI)),aQ K mainGlobals x=some (some (.ref f))/\LkF K f oc od x x st .none kV dc pm an cd ct sl/\dI K cd x=true/\bO K (.ref f)=true
def DefC(K:Frag)(C:aD)(m q:Str)(st:Stmt)(f:aD):Prop:=∃(oc:aI) (od:Option aD) (kV dc pm:aI) (an:Option aD) (cd ct:aI) (sl:Array (Option aI)),cB K (.ref C) m=some (some (.ref f))/\LkF K f oc od m q st .none kV dc pm an cd ct sl/\dI K cd q=true/\bO K (.ref f)=true/\lQ K (.ref f)=true
def DefM.get(h:DefM K x st f):∃fd,Fun K x x st f fd/\aQ K mainGlobals x=some (some (.ref f))/\bO K (.ref f)=true:=by obtain⟨_,_,_,_,_,_,_,_,_,a,l,c,k⟩:=h;exact⟨_,vT l c k,a,k⟩
def DefC.get(h:DefC K C m q st f):∃fd,Fun K m q st f fd/\cB K (.ref C) m=some (some (.ref f))/\bO K (.ref f)=true/\lQ K (.ref f)=true:=by obtain⟨_,_,_,_,_,_,_,_,_,a,l,c,k,i⟩:=h;exact⟨_,vT l c k,a,k,i⟩
def EM(G:FnOk P w K mg base CX0 k f fd ps (spF K n F))(b:Binds K fd ps [])(h:bO K (.ref f)=true)(m:mg x=some (.ref f)):Cal P w K mg base x k n F:=⟨f,_,_,G,b,h,m⟩
structure SysAt(P:bY)(w:cU)(base:Heap)(K:Frag)(mg:Str->Option aI):Prop where
 ex:∃h:Heap,K.In h/\h.Ns mainGlobals mg
def CN(K:Frag)(x:Str)(C:aD):Prop:=aQ K mainGlobals x=some (some (.ref C))/\iX K C Str.empty=true/\mP K C=true/\rZ K C=true/\cB K (.ref C) "__setattr__" = some (some (.builtin "object.__setattr__"))
def CN.get(h:CN K x C):aQ K mainGlobals x=some (some (.ref C))/\Cls K C:=⟨h.1,⟨h.2.1,h.2.2.1,h.2.2.2.1,h.2.2.2.2⟩⟩
def fldOk_c{f:Str}(a:aQ K mainGlobals (eF t)=some (some (.ref C)))(c:Cls K C)(n:NoAttr K C f)(h:FldOk K f ix)(h1:(eU t)[i]?=some f:=by rfl)(h2:∀j,j<i->(eU t)[j]?≠some f:=by decide +kernel):FldOk K f ((t,i)::ix):=QW a c n h1 h2 h
def XN(K:Frag)(A B:aD):Prop:=PySem.W.isClsIn K B=true/\YO K (.ref B)=some (.type "type")/\PySem.W.subIn K (.ref A) (.ref B)=some false/\(aI.ref A==aI.ref B)=false
def XI(K:Frag)(x:Str)(C:aD):Prop:=aQ K mainGlobals x=some (some (.ref C))/\cB K (.ref C) "__getattribute__" = some (some (.builtin "BaseException.__getattribute__"))/\cB K (.ref C) "__getattr__" = some none/\cB K (.ref C) "__class__" = some (some (.builtin "object.__class__"))/\EU K C (.type "object")=some true/\EU K C (.type "BaseException")=some true
def DefM.cal(d:DefM K x st f)(X:SysAt P w base K mg)(hf:∀{fd},Fun K x x st f fd->FnOk P w K mg base CX0 k f fd ps (spF K n F))(hb:∀kV doc pm an cdv ct us,us.length=ps.length->pM (cV x x (yF st) (qG st) (zI st) .none kV doc pm an cdv ct) ⟨us,[]⟩=pure (ps.zip us):=by
    intro _ _ _ _ _ _;first|exact len0 rfl|exact len1 λ_=>rfl|exact len2 λ_ _=>rfl|exact len3 λ_ _ _=>rfl|exact len4 λ_ _ _ _=>rfl|exact len5 λ_ _ _ _ _=>rfl):Cal P w K mg base x k n F:=by
 obtain⟨_,F1,a,c⟩:=d.get;obtain⟨_,X,G⟩:=X.ex;exact EM (hf F1) (F1.binds hb) c (dD X G a)
def DefC.mc(d:DefC K C m q st f)(a:aQ K mainGlobals (eF t)=some (some (.ref C)))(c:Cls K C)(hf:∀{fd},Fun K m q st f fd->FnOk P w K mg base CX0 j f fd ps (spF K (n+1) (F t)))(h:MCal P w K mg base m k n cs F)(hj:j<=k:=by decide)(hn:m∉eU t:=by decide +kernel)(hb:∀kV doc pm an cdv ct us,us.length=ps.length->pM (cV m q (yF st) (qG st) (zI st) .none kV doc pm an cdv ct) ⟨us,[]⟩=pure (ps.zip us):=by
    intro _ _ _ _ _ _;first|exact len1 λ_=>rfl|exact len2 λ_ _=>rfl|exact len3 λ_ _ _=>rfl):MCal P w K mg base m k n (t::cs) F:=by
 obtain⟨_,F1,x,y,z⟩:=d.get;exact HL a c ⟨x,z,y⟩ (hf F1) hj (F1.binds hb) hn h
def DefC.lc(d:DefC K C m q st f)(a:aQ K mainGlobals (eF t)=some (some (.ref C)))(c:Cls K C)(hf:∀{fd},Fun K m q st f fd->FnOk P w K mg base CX0 j f fd ps (spL K n (F t)))(h:LCal P w K mg base m k n cs F)(hj:j<=k:=by decide)(hn:m∉eU t:=by decide +kernel)(hb:∀kV doc pm an cdv ct us,us.length=ps.length->pM (cV m q (yF st) (qG st) (zI st) .none kV doc pm an cdv ct) ⟨us,[]⟩=pure (ps.zip us):=by
    intro _ _ _ _ _ _;first|exact len1 λ_=>rfl|exact len2 λ_ _=>rfl|exact len3 λ_ _ _=>rfl):LCal P w K mg base m k n (t::cs) F:=by
 obtain⟨_,F1,x,y,z⟩:=d.get;exact XD a c ⟨x,z,y⟩ (hf F1) hj (F1.binds hb) hn h
def newOk(n:aQ K mainGlobals (eF t)=some (some (.ref C)))(c:Cls K C)(na:NoAttr K C a):∀C',aQ K mainGlobals (eF t)=some (some (.ref C'))->Cls K C'/\NoAttr K C' a:=λC' e=>by rw[n]at e;cases e;exact⟨c,na⟩
end
def tW(M:MCal X.prog X.w X.K X.mg X.base m k 0 cs F)(hr:Room j X.A)(ho:PV X o fo)(hj:k<=j:=by decide)(ht:bU (.Call (.Attribute o m apos) [] [] pos) X.env=(do
    let ov <- bU o X.env
    lD apos.atName
    let (f,first) <- gC [ov] (mC ov m pl)
    sZ pos f first (cY pos (aF [] X.env)) (iS pos (fA [] X.env))):=by rfl):PVf X (.Call (.Attribute o m apos) [] [] pos) (methF 0 cs F fo zS):=by
 obtain⟨ta,pa,hfo⟩:=ho;refine⟨_,HC pa (hr.mono hj) ht,λH₀ H O σ ds hd d Q o e q=>?_⟩;obtain⟨x,h1,e⟩:=bnd e;simp[zS,aO]at e;obtain⟨r,h3,e⟩:=bnd e;refine kA (g:=zS) M hfo (λ_ H _ _ _ _ _ _ _ e q=>by cases e;exact q _ H (Same.refl _) .nil) o h1 rfl h3 λv H1 H' s1 s' ro=>?_;obtain⟨a,xs,rfl,h4,h5,h6⟩:=BK ro e λa ha=>(o.mono s1).old ha;exact q a xs H' (s1.trans s') (s1.free h4) h5 h6
end FL
namespace L2
section
variable{prog:bY}{w:cU}{A:dP}{E:aI->aY->Prop}{s:aY}
def aAf:OG (.type "list_reverseiterator") "__len__" = pure none:=by rw[typeLookup_type,builtinLookup_eq_fast];kernel_rfl
def VY:OG (.type "list_reverseiterator") "__length_hint__" = pure (some (.builtin "list_reverseiterator.__length_hint__")):=by rw[typeLookup_type,builtinLookup_eq_fast];kernel_rfl
def rv_hint{r:aD}{Q:Bool->aY->Prop}(hT:s.TypeIs (.ref r) "list_reverseiterator")(h:Q false s):bP (bK prog w) A (Builtin.List.listLengthHint (.ref r)) Q E s:=by
 unfold Builtin.List.listLengthHint;refine aZ (mS hT aAf ?_);show bP _ A (specialOf (aI.ref r) (Str.ofString "__length_hint__") >>= _) _ _ _;refine aZ (mS hT VY ?_);generalize hid:("list_reverseiterator.__length_hint__" : String)=id0
 wp_delta
 rw[show splitId id0=some ("list_reverseiterator","__length_hint__") from by subst hid;decide +kernel];subst hid;refine aZ (wpAny_isInstance (b:=true) hT (by rw[isSubtype_type];kernel_rfl) ?_);exact bV h
def rv_call{I l:aD}{items:Array aI}{Q:aI->aY->Prop}(hh:A.handled=none)(hne:l≠I)(hit:s.heap.IsRevIter I l ((items.size:Int)-1))(hl:s.heap.IsList l items)(hn:items.size<=sizeLine)(hQ:∀h' tk acc' c',(∀b o,b≠I->s.heap.get? b=some o->h'.get? b=some o)->h'.get? s.heap.objs.size=some {cls:=.type "list",dict:=none,data:=.seq acc' c',slots:=#[]}->ItemsOf (λi v=>items[items.size-1-i]?=some v) acc' items.size->Q (.ref s.heap.objs.size) {s with heap:=h',toks:=tk}) :
  bP (bK prog w) A (call (.type "list") [.ref I]) Q E s:=by
 refine callType_codes (Q₁:=λobj s₁=>obj=.ref s.heap.objs.size/\s₁={s with heap:=s.heap.push {cls:=.type "list",data:=.seq #[]} }) PySem.F.called_list (PySem.F.typeCall_list_1 _) PySem.F.entry_list_init
  (code_list_new _ ⟨rfl,rfl⟩) λobj s₁ h₁=>?_
 obtain⟨rfl,rfl⟩:=h₁;have hS:(s.heap.push { cls:=.type "list",data:=.seq #[] }).get? s.heap.objs.size=some { cls:=.type "list",data:=.seq #[] }:=aS _ rfl;have hI:I<s.heap.objs.size:=let ⟨_,ho,_⟩:=hit;aW ho;have hlt:l<s.heap.objs.size:=let ⟨_,ho,_⟩:=hl;aW ho;refine⟨⟨_,hS,rfl⟩,PySem.F.args_list_init_2 _ _,?_⟩;show bP _ _ (do let old <- Builtin.List.listItems (.ref s.heap.objs.size);Builtin.List.listUpdate (.ref s.heap.objs.size) (λ_=>#[]);letGo old.toList.reverse;Builtin.List.listExtendWith (.ref s.heap.objs.size) (.ref I) .none) _ _ _;refine aZ ?_;unfold Builtin.List.listItems;refine aZ (wpAny_seqItems hS rfl (bV ?_));show bP _ _ (updateSeq s.heap.objs.size (λ_=>#[]) >>= λ_=>letGo (#[]:Array aI).toList.reverse >>= λ_=>Builtin.List.listExtendWith (.ref s.heap.objs.size) (.ref I) .none) _ _ _;refine aZ (wpAny_updateSeq hS rfl ?_);have hS₂:=OK (Obj.mapSeq (λ_=>(#[]:Array aI))) hS rfl
 have oth:∀b o,s.heap.get? b=some o->((s.heap.push {cls:=.type "list",data:=.seq #[]}).update s.heap.objs.size (Obj.mapSeq (λ_=>(#[]:Array aI)))).get? b=some o:=
  λb o e=>(iU _ _ (Ne.symm (bM (aW e)))).trans (aJ _ e)
 refine aZ (wpAny_letGo ?_);have W:=Walks.listRev (prog:=prog) (w:=w) (A:=A.in1.in1) hh I l hne items
 have hst:0<=items.size/\Heap.IsRevIter ((s.heap.push {cls:=.type "list",data:=.seq #[]}).update s.heap.objs.size (Obj.mapSeq (λ_=>(#[]:Array aI)))) I l ((items.size:Int)-1-((0:Nat):Int))/\Heap.IsList ((s.heap.push {cls:=.type "list",data:=.seq #[]}).update s.heap.objs.size (Obj.mapSeq (λ_=>(#[]:Array aI)))) l items:=
  ⟨cR _,by simpa using hit.at λo e=>oth _ o e,hl.at λo e=>oth _ o e⟩
 generalize (s.heap.push {cls:=.type "list",data:=.seq #[]}).update s.heap.objs.size (Obj.mapSeq (λ_=>(#[]:Array aI)))=hp at *;have hT:({s with heap:=hp}: aY).TypeIs (.ref I) "list_reverseiterator":=hst.2.1.typeIs (s:={s with heap:=hp});unfold Builtin.List.listExtendWith;refine aZ (wpAny_typeOf hT ?_);have h1:Builtin.List.listSameRef (.ref s.heap.objs.size) (.ref I)=false:=by have:¬s.heap.objs.size=I:=oO hI;simp[Builtin.List.listSameRef,this]
 rw[if_neg (by rw[h1];decide)];refine aZ (wpAny_pyIter_revIter (s:={s with heap:=hp}) hst.2.1 ?_);refine aZ (iR (rv_hint hT ?_));refine wpAny_ite_split (λz=>absurd z (by decide)) λ_=>?_;refine bV ⟨RJ PySem.F.plain_extend_loop _,codeAny_extend_loopS W.toS hn s.heap.objs.size (λz=>by simp only[aA,ZO,or_false]at z;exact z.elim (oO hI) (oO hlt)) _ items.size 0 _ #[] _ rfl (cR _) hst hS₂ (ItemsOf.nil _) λs' acc' c' hm hS' hacc=>?_⟩;rw[Moved.eq_with hm];refine⟨rfl,hQ s'.heap s'.toks acc' c' (λb o hb e=>hm.heap b o (λhmem=>?_) (oth b o e)) hS' hacc⟩;have hbs:=bM (aW e);simp only[aA,ZO,or_false]at hmem;rcases hmem with z|z
 . exact hbs z
 . exact hb z
end
def tLrev(X:Cx)(ta:TA):TE:=λσ H Q=>ta σ H λvs H1=>∃a xs,vs=[.ref a]/\SqL X.K H1 a xs/\∀p,H1 p=none->Q (.ref p) (upd H1 p (.lst xs.reverse))
def pe_lrev{a:Expr}{ta:TA}{p p2 pos pos2:Pos}(hc:X.calm=true)(hgl:Gl X "list")(hml:X.mg "list" = none)(hg:Gl X "reversed")(hm:X.mg "reversed" = none)(ha:PA X [a] ta)(hl:aF [.Call (.Name "reversed" p2) [a] [] pos2] X.env=[(false,bU (.Call (.Name "reversed" p2) [a] [] pos2) X.env)]:=by rfl)(hs:aF [a] X.env=[(false,bU a X.env)]:=by rfl) :
  PE X (.Call (.Name "list" p) [.Call (.Name "reversed" p2) [a] [] pos2] [] pos) (tLrev X ta):=by
 intro aC s σ H Q I h;refine eO (vS I hgl hml (show eZ "list" = some (.type "list") by decide +kernel) ?_);refine eL ?_ hl rfl;rw[hl];show bP _ _ (spliced ((false,bU (.Call (.Name "reversed" p2) [a] [] pos2) X.env)::cY pos [])) _ _ s;refine Calls.spliced_cons ?_;refine Call_ (vS I hg hm (show eZ "reversed" = some (.type "reversed") by decide +kernel) (eL (thn (ha pos2 aC s σ H _ I h) λus s1 zq=>?_) hs rfl));obtain⟨vs,H1,I1,r1,q1⟩:=zq;obtain⟨a,xs,e,hq,q⟩:=q1;subst e;obtain⟨u,rfl,ru⟩:=vals1 r1;cases ru;obtain⟨its,rv,pl,hz⟩:=I1.list hq;have hlen:=rv.length;refine call_reversed_list pl.isList ?_;refine Calls.spliced_nil ?_;have I2:Inv X aC σ H1 {s1 with heap:=s1.heap.push (FU a ((its.toArray.size:Int)-1)),toks:=s1.toks}:=I1.kept λb o e=>aJ _ e;have hla:a<s1.heap.objs.size:=let ⟨_,ho,_⟩:=pl.isList;aW ho;refine rv_call (I:=s1.heap.objs.size) (l:=a) (items:=its.toArray) (I.ok.hd hc) (bM hla) ⟨_,aS _ rfl,rfl,rfl⟩ (pl.isList.at λo e=>aJ _ e) (by simp only[aX];omega) λh' tk acc' c' hk hS hacc=>?_;have hv:Vals xs.reverse acc'.toList:=by
  refine IM (by simp only[hJ,fS];rw[hacc.1];simp only[aX];omega) λj u e=>?_;have e2:=hacc.2 j u (by rw[<-kP];exact e);have hj:j<acc'.toList.length:=(aV.mp e).1;have hj2:j<its.length:=by simp only[fS]at hj;rw[hacc.1]at hj;simpa using hj
  simp only[aX,List.getElem?_toArray]at e2;have hx:xs[xs.length-1-j]?=some (xs[xs.length-1-j]'(by omega)):=aU (by omega);obtain⟨u',hu',ru⟩:=rv.get hx;rw[hlen,e2]at hu';cases hu';exact⟨_,by rw[OJ (by omega)];exact hx,ru⟩
 generalize hN:(s1.heap.push (FU a ((its.toArray.size:Int)-1))).objs.size=N at *;have hlt:s1.heap.objs.size<N:=by rw[<-hN];exact aW (o:=FU a ((its.toArray.size:Int)-1)) (aS _ rfl)
 have fr:H1 N=none:=by rw[<-hN];exact I2.hok.fresh (aT _)
 have I3:Inv X aC σ (upd H1 N (.lst xs.reverse)) {s1 with heap:=(s1.heap.push (FU a ((its.toArray.size:Int)-1))).push {cls:=.type "list",data:=.seq acc' c'},toks:=tk}:=by refine Inv.laid (s:={s1 with heap:=s1.heap.push (FU a ((its.toArray.size:Int)-1)),toks:=s1.toks}) I2 (λb u e=>aJ _ e) (uW hN) (show ObjOk X.prog X.w _ _ _ (.lst xs.reverse) from ⟨by simpa using hz,acc'.toList,c',hv,?_⟩);rw[<-hN,Array.toArray_toList];exact aS _ rfl
 have I4:Inv X aC σ (upd H1 N (.lst xs.reverse)) {s1 with heap:=h',toks:=tk}:=by
  refine Inv.turnedS (s:={s1 with heap:=(s1.heap.push (FU a ((its.toArray.size:Int)-1))).push {cls:=.type "list",data:=.seq acc' c'},toks:=tk}) I3 (h':=h') (t':=tk) (ch:=[s1.heap.objs.size]) (λb o hb q=>?_) (λb hb=>?_)
  . have hb':b≠s1.heap.objs.size:=λz=>hb (by rw [z];exact .head _);by_cases hbN:b=N
    . subst hbN;have q':((s1.heap.push (FU a ((its.toArray.size:Int)-1))).push {cls:=.type "list",data:=.seq acc' c'}).get? b=some o:=q;rw[<-hN,aS _ rfl]at q';cases q';exact hS
    . have q':((s1.heap.push (FU a ((its.toArray.size:Int)-1))).push {cls:=.type "list",data:=.seq acc' c'}).get? b=some o:=q;rw[Heap.get?_push_ne _ _ _ (by rw[hN];exact hbN)]at q';exact hk b o hb' q'
  . rw[aR.mp hb];exact I1.fpOk (aT _) (by rw[upd_ne (bM hlt)];exact I1.hok.fresh (aT _))
 exact⟨.ref N,_,I4,rfl,q N fr⟩
def Inv.thawD(I:Inv X aC σ H s)(e:H a=some (.frz o (.dK kvs)))(dat:o.data=.dict es ep)(hn:∀q u,X.H₀ a≠some (.frz q u)):Inv X aC σ (upd H a (.dK kvs)) s:=by
 have ne:∀{b},H b=none->b≠a:=λ{b} h z=>by rw[z,e]at h;cases h
 have ho:=(I.hok a _ e).1;refine⟨I.ok,I.os,I.bare,⟨I.base.keep,I.base.slot,λb q x n hx=>?_,I.base.there,λb xs q=>?_,λb q u z=>?_,λb ps q=>?_⟩,I.loc,I.cell,by rw[upd_ne (ne I.free)];exact I.free,λx c q=>?_,λp hp=>?_,λb u q=>?_,I.len⟩
 . have:=I.base.free b q x n hx;rw[upd_ne (ne this)];exact this
 . have:=I.base.tups b xs q;rw[upd_ne (λz=>by rw[z,e]at this;cases this)];exact this
 . have:=I.base.frzs b q u z;rw[upd_ne (λy=>by rw[y]at z;exact hn q u z)];exact this
 . have:=I.base.tbls b ps q;rw[upd_ne (λz=>by rw[z,e]at this;cases this)];exact this
 . have hca:c≠a:=λz=>by
    obtain⟨v,hc⟩:=I.cell x c q;obtain⟨q',hc,hd⟩:=hc;rw[z,ho]at hc;have:=Option.some.inj hc;rw[<-this,dat]at hd;cases hd
   rcases I.freeC x c q with h|⟨h1,q',u,h2⟩
   . exact .inl (by rw[upd_ne hca];exact h)
   . exact .inr ⟨h1,q',u,by rw[upd_ne hca];exact h2⟩
 . obtain⟨p1,p2,p3⟩:=I.pin p hp;exact⟨p1,by rw[upd_ne (ne p2)];exact p2,p3⟩
 . by_cases hb:b=a
   . subst hb;rw[zO]at q;cases q;exact(I.hok b _ e).2
   . rw [upd_ne hb]at q;refine (I.hok b u q).stay (λ_ _ _ z=>z) (λc z=>?_) λc xs z=>?_
     . rw[upd_ne (λy=>by rw[y,e]at z;cases z)];exact z
     . obtain ⟨w,hw⟩:=xs;have z':=z;rw [upd_ne (λy=>?_)]
       . exact z
       . rw[y,e]at z';cases z';obtain⟨vs,hv⟩:=hw;rw[dat]at hv;cases hv
noncomputable def ItV(d:aD)(o:Obj)(kvs:List (Key×V)):It:=
 ⟨λi H=>H d=some (.frz o (.dK kvs))/\i<kvs.length,λi H v H'=>H'=H/\∃k,kvs[i]?=some (k,v),λi H=>H d=some (.frz o (.dK kvs))/\kvs.length<=i⟩
def OX{P:bY}{w:cU}{K:aN}{tg:Expr}(it d:aD)(o:Obj)(kvs:List (Key×V)){en:Array DictEntry}{ep:Nat}(dat:o.data=.dict en ep) :
  Turn P w K tg (ItV d o kvs) [it] it (λi h=>h.IsValIter it d i kvs.length ep) where
 mem:=by simp
 obj:=λi h st b hb=>by rw[aR.mp hb];obtain⟨q,e,c,dt⟩:=st;exact⟨q,e,λv z=>by rw[dt]at z;cases z⟩
 keep:=λi h h' st k=>let ⟨q,e,r⟩:=st;⟨q,k it (by simp) _ e,r⟩
 item:=by
  intro X hP hw hK hc i aC s σ H E I hf st hg;subst hP hw hK;obtain⟨hd,hi⟩:=hg;obtain⟨vs,rel,hat⟩:=wN I hd dat;have hl:=rel.length;obtain⟨k,x,hx⟩:∃k x,kvs[i]?=some (k,x):=⟨kvs[i].1,kvs[i].2,aU hi⟩
  obtain⟨u,hu,ru⟩:=rel.get hx;obtain⟨f0,f1,f2,f3,f4,f5⟩:=hf it (by simp);rw[hl]at st;refine wpAny_pyNext_values_item st hat hu λh' st' sb=>?_;have I1:=I.turned (t':=s.toks) (λb o hb e=>(sb.2 b hb).trans e) f0 f1 f3 f4 f5;obtain⟨q,e,c,dt⟩:=id st';exact⟨u,rfl,HX e c dt (by decide) ⟨x,H,I1,ru,⟨rfl,k,hx⟩,by rw[hl];exact st',λb hb=>(hf b hb).1⟩⟩
 done:=by intro X hP hw hK hc i aC s σ H E I hf st hg;subst hP hw hK;obtain⟨hd,hi⟩:=hg;obtain⟨vs,rel,hat⟩:=wN I hd dat;have hl:=rel.length;obtain⟨f0,f1,f2,f3,f4,f5⟩:=hf it (by simp);rw[hl]at st;exact wpAny_pyNext_values_end (I.ok.hd hc) st hat (bF (by lia)) λh' eb=>⟨rfl,I.turned (λb o hb e=>eb b o hb e) f0 f1 f3 f4 f5⟩
 self:=λ_ _ _ _ _ st h=>wpAny_pyIter_valiter st h
def iDV(to:TE):TI:=λσ H R=>to σ H λx H1=>∃d o kvs,x=.ref d/\H1 d=some (.frz o (.dK kvs))/\R (ItV d o kvs) H1
def aBi(ho:PE X oe to)(hbase:dB oe "values" X.env (bU oe X.env)=bU oe X.env:=by rfl)(hline:(apos.endLine==pos.line)=true:=by rfl) :
  PI X tg (.Call (.Attribute oe "values" apos) [] [] pos) (iDV to):=by
 intro aC s σ H R I h;refine pL hbase hline (thn (ho aC s σ H _ I h) λv s1 zq=>?_);obtain⟨x,H1,I1,r1,d,o,kvs,ex,hd,q⟩:=zq;subst ex;obtain rfl:v=aI.ref d:=r1;obtain⟨hob,z,hds,vs,rel,dd⟩:=I1.hok d _ hd;obtain⟨o',en,ep,e1,exd,dat,r⟩:=id dd;rw[hob]at e1;cases e1;have hat:s1.heap.DictAt (eY X.prog X.w) d vs ep:=⟨o,en,hob,exd,dat,r⟩
 refine⟨"dict","dict.values",EY,gX,EW,⟨o,hob,exd.1⟩,λa e2=>?_,Calls.callWith_builtin rfl (pW (call_meetsIn gX dd.typeIs BZ (BH _) (meets_dict_values (eY X.prog X.w) d hds) ⟨⟨vs,dd⟩,?_⟩))⟩
 . cases e2;exact⟨o,hob,exd.2.1⟩
 . refine wpAny_pyIter_values ⟨_,aS _ rfl,rfl,rfl⟩ (hat.push _) ?_;have I2:Inv X aC σ H1 {s1 with heap:=s1.heap.push {cls:=.type "dict_values",data:=.fields #[.ref d]} }:=I1.kept λb o e=>aJ _ e;refine ⟨_,[_],_,_,H1,rfl,I2.kept λb o e=>aJ _ e,OX _ d o kvs dat,?_,λc hc=>?_,q⟩
   . rw[rel.length];exact⟨_,aS _ rfl,rfl,rfl⟩
   . rw[aR.mp hc];exact I2.fpOk (aT _) (I2.hok.fresh (aT _))
end L2
namespace FL
theorem Reps.rev{K:Frag}:∀{xs:List V}{l:List D},Reps K H O xs l->Reps K H O xs.reverse l.reverse
 |_,_,.nil=>.nil
 |_,_,.cons h t=>by rw[nG,nG];exact(Reps.rev t).append (.cons h .nil)
def aAp(hc:X.calm=true)(hml:X.mg "list" = none)(hm:X.mg "reversed" = none)(h:PV X e f)(hgl:Gl X "list":=by rfl)(hg:Gl X "reversed":=by rfl)(hl:aF [.Call (.Name "reversed" p2) [e] [] pos2] X.env=[(false,bU (.Call (.Name "reversed" p2) [e] [] pos2) X.env)]:=by rfl)(hs:aF [e] X.env=[(false,bU e X.env)]:=by rfl) :
  PVf X (.Call (.Name "list" p) [.Call (.Name "reversed" p2) [e] [] pos2] [] pos) (revA f):=by
 obtain⟨t,ht,hf⟩:=zD h zP hs;refine⟨_,pe_lrev hc hgl hml hg hm ht hl hs,λH₀ H O σ ds hd l Q o e q=>?_⟩;obtain⟨d,h1,e⟩:=bnd e;cases d<;>first|(cases e;done)|skip
 rename_i l;cases e;refine hf H₀ H O σ ds hd [.lst l] _ o (by simp[zA,h1,zS]) λvs H' s r=>?_;cases r with
 |cons r1 rr=>cases rr;obtain⟨a,xs,rfl,hq,rs⟩:=WRep.seqL (.inl r1);refine⟨a,xs,rfl,hq,λp hp=>q p _ _ (s.trans (qF hp _)) (s.free hp) zO ?_⟩;exact((rs.rev).more hp).mono (qF hp _)
section
variable{scope:Scope}
def YE(hi:∀H₀ H O σ ds hd items R,Ok X.K H₀ H O σ ds hd->fi ds=some items->(∀J p H',Same H H'->HOk X.K H₀ H' O p->(∀k a,HI.root k a≠p)->(∀B,HI.base B≠p)->WlkD X.K J p items->R J H')->wi σ H R)(hg:∀c H₀ H O σ ds hd v d ds' Q,Ok X.K H₀ H O σ ds hd->Rep X.K H O v d->ga d ds=some ds'->(∀σ',Ok X.K H₀ H O σ' ds' hd->Q σ' H)->g c v σ H Q)(ht:∀c H₀ H O σ ds hd b Q,Ok X.K H₀ H O σ ds hd->tt ds=some b->(∀H',Same H H'->Q b H')->t1 c σ H Q)(he:∀c H₀ H O σ ds hd d Q,Ok X.K H₀ H O σ ds hd->fe ds=some d->(∀v H',Same H H'->Rep X.K H' O v d->Q v H')->t2 c σ H Q) :
  ∀H₀ H O σ ds hd l Q,Ok X.K H₀ H O σ ds hd->compG fi mp ga tt fe ds=some l →
   (∀a xs H',Same H H'->H a=none->H' a=some (.lst xs)->Reps X.K H' (ins1 a O) xs l->Q (.ref a) H')->tComp wi mp g t1 t2 σ H Q:=by
 intro H₀ H O σ ds hd l Q o e q;obtain⟨items,h1,e⟩:=bnd e;split at e
 . rename_i hsz;refine hi H₀ H O σ ds hd items _ o h1 λJ p H1 s1 r1 nr nb wk=>λc=>?_;have oI:=((o.mono s1).holdMore r1 nr).inner mp
   refine⟨λi m ys H2=>i<=items.length/\m=items.length-i/\Same H1 H2/\ys.length<=i/\∃l' rest,Reps X.K H2 O ys l'/\compL ga tt fe (qY mp ds) (items.drop i)=some rest/\l=l'++rest,
    ⟨items.length,cR _,rfl,Same.refl _,aT _,[],l,.nil,by simpa using e,rfl⟩,?_⟩
   rintro i m ys H2 ⟨hi1,rfl,s2,hy,l',rest,ry,er,el⟩;have o2:=oI.mono s2;obtain⟨go,stop⟩:=wk H₀ H2 O o2.dom (o2.hold p aE);by_cases hlt:i<items.length
   . right;have hd0:=aU hlt;obtain ⟨hgo,hyl⟩:=go i _ hd0;refine ⟨hgo,by lia,λx H3 y=>?_⟩;obtain ⟨s3,r3⟩:=hyl x H3 y;rw [eA hlt,compL]at er;obtain ⟨ds1,h2,er⟩:=bnd er;refine hg c H₀ H3 O _ _ (p::hd) x _ ds1 _ (o2.mono s3) r3 h2 λσ' o3=>?_;obtain ⟨b,h3,er⟩:=bnd er;refine ht c H₀ H3 O σ' ds1 (p::hd) b _ o3 h3 λH4 s4=>?_;cases b with
     |false=>refine iteF ⟨items.length-(i+1),by lia,hlt,rfl,(s2.trans s3).trans s4,ZN hy,l',rest,(ry.mono s3).mono s4,by simpa using er,el⟩
     |true=>
       obtain⟨yd,h4,er⟩:=bnd er;cases h5:compL ga tt fe (qY mp ds) (items.drop (i+1))with
       |none=>rw[h5]at er;cases er
       |some rest'=>rw[h5]at er;cases er;refine he c H₀ H4 O σ' ds1 (p::hd) yd _ (o3.mono s4) h4 λv H5 s5 r5=>?_;refine⟨items.length-(i+1),by lia,hlt,rfl,((s2.trans s3).trans s4).trans s5,by simp;lia,l'++[yd],rest',(((ry.mono s3).mono s4).mono s5).append (.cons r5 .nil),h5,?_⟩;rw[el];simp
   . left;have ei:i=items.length:=by lia
     subst ei;rw[lA,compL]at er;cases er;rw[cO]at el;subst el;refine⟨stop,by lia,λa ha=>?_⟩;refine q a ys _ ((s1.trans s2).trans (qF ha _)) ((s1.trans s2).free ha) zO ?_;exact(ry.more ha).mono (qF ha _)
 . cases e
end
def VP{K:Frag}: WlkD K (ItV d o kvs) (.fz d o kvs l) l:=by
 intro H₀ H O dom ⟨n,hd,rs⟩;have hl:l.length=kvs.length:=by rw[<-rs.length];simp
 refine⟨λi x hx=>?_,⟨hd,by rw[hl];exact aT _⟩⟩;have lt:i<kvs.length:=by rw[<-hl];exact(aV.mp hx).1
 refine⟨⟨hd,lt⟩,λv H' zq=>?_⟩;obtain⟨e,k,hk⟩:=zq;subst e;have h2:(kvs.map (·.2))[i]?=some v:=by rw[aP,hk];rfl
 obtain⟨y',h4,h5⟩:=rs.get hx;rw[h2]at h4;cases h4;exact⟨Same.refl _,h5⟩
def aBg(h:PV X oe f)(hbase:dB oe "values" X.env (bU oe X.env)=bU oe X.env:=by rfl)(hline:(apos.endLine==pos.line)=true:=by rfl) :
  PId X tg (.Call (.Attribute oe "values" apos) [] [] pos) (valsA f):=by
 obtain⟨t,ht,hf⟩:=h;refine⟨_,aBi ht hbase hline,λH₀ H O σ ds hd items R o e q=>?_⟩;obtain⟨x,h1,e⟩:=bnd e;refine hf H₀ H O σ ds hd x _ o h1 λv H1 s1 r1=>?_;cases x<;>first|(cases e;done)|skip
 cases e;cases r1 with
 |@dcf a ob kvs _ _ n hb ek rs=>exact⟨a,ob,kvs,rfl,hb,q _ (.fz a ob kvs _) H1 s1 ⟨n,hb,rs⟩ (λ_ _ z=>by cases z) (λ_ z=>by cases z) VP⟩
def PVo.n(h:PVo X e f):PVn X e (seeO f):=by obtain⟨t,ht,hf⟩:=h;refine⟨t,ht,λH₀ H O σ ds hd d Q o e q=>?_⟩;obtain⟨T,h1,rfl⟩:=mpd e;exact hf H₀ H O σ ds hd T Q o h1 λv H' fs s r nd hn=>q v H' s (r.frz λa z=>z.elim)
end FL
namespace L2
end L2
namespace FL
section
variable{prog:bY}{w:cU}{A:dP}{E:aI->aY->Prop}{s:aY}
end
section
variable{tg:Expr}
end
section
variable{K:Frag}
def JM(rt:RepO K H (orL fs B) (.ref a) T fs)(nd:fs.Nodup)(hB:∀b,B b->b∉fs/\∃u:MutHO,H b=some u.1)(hl:σ.length=ds.length)(hp:ds[p]?=some (.ob (some p) T))(ha:σ[p]?=some (some (.ref a)))(ho:∀j s,j≠p->ds[j]?=some s->s=.no\/∃d v,s=.v d/\σ[j]?=some (some v)/\Rep K H (orL fs B) v d) :
  Ok K (cutH fs H) H (orL fs B) σ ds [.root p a,.base B]:=by
 have no:∀{j:Nat},¬IsOwn ds j:=λ{j} ⟨l,e⟩=>by
  by_cases hj:j=p
  . subst hj;rw[hp]at e;cases e
  . rcases ho j _ hj e with h|⟨d,v,h,_⟩<;>cases h
 have nob:∀{j:Nat}{r:Option Nat}{t:OT},ds[j]?=some (.ob r t)->j=p:=λ{j r t} e=>by
  by_cases hj:j=p
  . exact hj
  . rcases ho j _ hj e with h|⟨d,v,h,_⟩<;>cases h
 refine⟨λb u e=>?_,λi l' a' e _=>(no ⟨l',e⟩).elim,λb hb=>hb.elim (λz=>(rt.owns b z).2) λz=>(hB b z).2,hl,λi s e=>?_,λi j a _ hi _ _ _=>(no hi).elim,λq hq=>?_,?_⟩
 . by_cases z:b∈fs
   . rw[BV z]at e;cases e
   . rwa [xQ z]at e
 . by_cases hi:i=p
   . subst hi;rw[hp]at e;cases e;exact yV
   . rcases ho i s hi e with rfl|⟨d,v,rfl,e2,r⟩
     . exact jD
     . rw[e2];exact yO r
 . rcases aA.mp hq with rfl|hq
   . exact True.intro
   . cases aR.mp hq;refine λb hb=>⟨.inr hb,λz=>?_⟩
     obtain⟨n,u,e⟩:=hB b hb;rw[xQ n,e]at z;cases z
 . refine ⟨λ_=>fs,λi r' t' e=>?_⟩;cases nob e;rw [hp]at e;cases e;refine ⟨.ref a,ha,rt,λk a' ek h=>?_,nd,λb hb=>⟨BV hb,λj r2 t2 hj e2=>(hj (nob e2)).elim,λj oj=>(no oj).elim⟩⟩;rcases aA.mp h with h|h
   . cases h;rfl
   . cases aR.mp h
def Ok.lendEnd(o:Ok K (cutH fs H) H' O' σ ds hd)(e:ds[p]?=some (.ob (some p) T))(h1:HI.root p a∈hd)(h2:HI.base B∈hd) :
  ∃fs',(∀b u,b∉fs->H b=some u->H' b=some u)/\RepO K H' (orL fs' B) (.ref a) T fs'/\fs'.Nodup/\(∀b∈fs',b∈fs\/H b=none)/\∀b,orL fs' B b->O' b:=by
 obtain⟨F',hF⟩:=o.obs;obtain⟨v,y1,y2,y3,y4,y5⟩:=hF p _ _ e;cases y3 p a rfl h1;have hb:=o.hold (.base B) h2;have sub:∀b,orL (F' p) B b->O' b:=λb z=>z.elim (λz=>(y2.owns b z).1) λz=>(hb b z).1;exact⟨F' p,λb u nb eb=>o.same b u (by rw[xQ nb];exact eb),y2.less sub λb z=>.inl z,y4,λb z=>HZ (y5 b z).1,sub⟩
def kH(h1:∀b,O b->b∈fs\/B b)(h2:∀b∈fs,O b)(h3:∀b,B b->O b)(k1:∀b u,b∉fs->H b=some u->H' b=some u)(k4:∀b∈fs',b∈fs\/H b=none):Chg H H' O (orL fs' B) fs fs':=
 ⟨λb u nb eb=>k1 b u (λz=>nb (h2 b z)) eb,λb u _ nb eb=>k1 b u nb eb,λb z nb=>.inr ((h1 b z).resolve_left nb),λb z=>z.elim (λz=>(k4 b z).elim (λy=>.inl (h2 b y)) λy=>.inr ⟨z,y⟩) λz=>.inl (h3 b z),k4⟩
def Ok.lendAt(o:Ok K H₀ H O σ ds hd)(e:ds[i]?=some (.ob r T))(hT:refO T=true) :
  ∃a fs,σ[i]?=some (some (.ref a))/\RepO K H O (.ref a) T fs/\fs.Nodup/\(∀b∈fs,O b) ∧
   ∀{H':Hp}{T':OT}{fs':List aD},(∀b u,b∉fs->H b=some u->H' b=some u)->RepO K H' (orL fs' (λb=>O b/\b∉fs)) (.ref a) T' fs'->fs'.Nodup->(∀b∈fs',b∈fs\/H b=none) →
    Ok K H₀ H' (orL fs' (λb=>O b/\b∉fs)) σ (ds.set i (.ob r T')) hd:=by
 obtain⟨v,w,f,y1,y2,y3,y4,y5,y6⟩:=o.modAt (p:=[]) e rfl;cases y2;have ow:=λb z=>(y3.owns b z).1;have hv:∃a,v=.ref a:=by
  cases y3 with
  |val _=>cases hT
  |lst _ _ _=>exact⟨_,rfl⟩
  |tup _ _ _=>exact⟨_,rfl⟩
  |dct _ _ _ _=>exact⟨_,rfl⟩
  |ins _ _ _ _ _=>exact⟨_,rfl⟩
 obtain⟨a,rfl⟩:=hv;refine⟨a,f,y1,y3,y4,ow,λ{H' T' fs'} k1 k2 k3 k4=>?_⟩;have:=y6 (kH (λb z=>(Classical.em (b∈f)).imp id λy=>⟨z,y⟩) ow (λb z=>z.1) k1 k4) (λb z y=>y.elim (λy=>(k2.owns b y).2) λy=>(y.2 z).elim) k2 k3;exact this
end
noncomputable def spR(K:Frag)(n p:Nat)(F:OT->List D->Option (D×OT)):Sp:=λvs H Q _=>vs.length=n/\∃(a:aD) (T T':OT) (d:D) (fs:List aD) (B:aD->Prop) (l:List D),vs[p]?=some (.ref a)/\l.length=n/\RepO K H (orL fs B) (.ref a) T fs/\fs.Nodup ∧
 (∀b,B b->b∉fs/\∃u:MutHO,H b=some u.1)/\(∀(j:Nat) (d:D),j≠p->l[j]?=some d->∃v,vs[j]?=some v/\Rep K H (orL fs B) v d)/\F T l=some (d,T') ∧
 ∀v H' fs',(∀b u,b∉fs->H b=some u->H' b=some u)->RepO K H' (orL fs' B) (.ref a) T' fs'->fs'.Nodup->(∀b∈fs',b∈fs\/H b=none)->Rep K H' (orL fs' B) v d->Q v H'
variable(X) in
def PRv(ss:List Stmt)(f:FX):Prop:=∃t,PSs X ss t/\∀H₀ H O σ ds hd d ds' (E:Ends),Ok X.K H₀ H O σ ds hd->f ds=some (d,ds')->(∀v σ' H' O',Ok X.K H₀ H' O' σ' ds' hd->Rep X.K H' O' v d->E.rt v H')->t E σ H
def aAm(h:PV X e f):PVx X e (vR f):=by obtain⟨t,ht,hf⟩:=h;refine⟨t,ht,λH₀ H O σ ds hd d ds' Q o e q=>?_⟩;obtain⟨d,h1,e⟩:=mpd e;cases e;exact hf H₀ H O σ ds hd _ _ o h1 λv H' s r=>q v H' O (o.mono s) r
def JI(h:PVx X e f):PRv X [.Return (some e) pos] f:=by obtain⟨t,ht,hf⟩:=h;refine⟨_,JG (DI ht),λH₀ H O σ ds hd d ds' E o e q=>?_⟩;exact hf H₀ H O σ ds hd d ds' _ o e λv H' O' o' r=>q v σ H' O' o' r
def qN{st:Stmt}{rest:List Stmt}(h1:PSv X st g)(h2:PRv X rest f):PRv X (st::rest) (seqR g f):=by
 obtain⟨t,ht,hg⟩:=h1;obtain⟨u,hu,hf⟩:=h2;refine⟨_,MM ht hu,λH₀ H O σ ds hd d ds' E o e q=>?_⟩;obtain⟨out,h1,e⟩:=bnd e;cases out with
 |nx ds2=>refine hg H₀ H O σ ds hd _ _ o h1 λσ' H' O' o'=>?_;exact hf H₀ H' O' σ' ds2 hd d ds' E o' e q
 |_=>cases e
def KA{K:Frag}{st:Stmt}(Fn:Fun K x qual st f fd)(S:FnScope N ps (zI st))(hbody:∀cdv A outer s H E,Room k (A.deeper (iW qual (zI st) s.heap.objs.size f cdv))->PRv (cxOf CX0 P w K mg base N qual (zI st) f cdv A outer s H E).nox (qG st) g)(hg:∀T l q,l.length=ps.length->F T l=some q->lentR g N.length p T l=some q)(hp:p<ps.length:=by decide)(hN:ps.length<=N.length:=by decide):FnOk P w K mg base CX0 (k+1) f fd ps (spR K ps.length p F):=by
 refine Fn.ok S (λvs H Q E h=>h.1) (λcdv A outer s H vs Q E hr h=>?_);obtain⟨hl,a,T,T',d,fs,B,l,ha,ll,rt,nd,hB,ra,e,q⟩:=h;obtain⟨t,ht,hf⟩:=hbody cdv A outer s H E hr;refine⟨t,ht,?_⟩;have hlen:(args N.length l).length=N.length:=by simp[args];lia
 have o:Ok K (cutH fs H) H (orL fs B) (L2.start N vs) ((args N.length l).set p (.ob (some p) T)) [.root p a,.base B]:=by
  refine JM rt nd hB ?_ ?_ ?_ λj s' hj es=>?_
  . rw[oQ,hlen];simp[L2.start,bS,cA,kT];lia
  . rw[aM (by rw[hlen];lia)]
  . simp[L2.start];rw[bA (by simp;lia),aP,ha];rfl
  . rw [aB (Ne.symm hj)]at es;unfold args at es;by_cases hjl:j<l.length
    . rw[bA (by simpa using hjl),aP,aU hjl]at es;cases es;obtain⟨v,h1,h2⟩:=ra j _ hj (aU hjl);refine .inr ⟨_,v,rfl,?_,h2⟩;simp[L2.start];rw[bA (by simp;lia),aP,h1];rfl
    . rw [bZ (by simpa using hjl),cP]at es;split at es
      . cases es;exact .inl rfl
      . cases es
 have e:=hg T l _ ll e;unfold lentR at e;cases h1:g ((args N.length l).set p (.ob (some p) T))with
 |none=>rw[h1]at e;cases e
 |some z=>
   obtain⟨d2,ds2⟩:=z;rw[h1]at e;simp only[aO]at e;cases h2:ds2[p]? with
   |none=>rw[h2]at e;cases e
   |some s0=>
     rw[h2]at e;cases s0 with
     |ob r T2=>
       cases r with
       |none=>cases e
       |some i=>
         simp only[obAt]at e;split at e
         . rename_i hi;subst hi;cases e;refine hf _ H _ _ _ _ _ _ _ o h1 λv σ' H' O' o' r=>?_;obtain⟨fs',k1,k2,k3,k4,k5⟩:=o'.lendEnd h2 (.head _) (.tail _ (.head _));exact q v H' fs' k1 k2 k3 k4 (r.less k5)
         . cases e
     |_=>cases e
structure CalR(P:bY)(w:cU)(K:Frag)(mg:Str->Option aI)(base:Heap)(x:Str)(k n p:Nat)(F:OT->List D->Option (D×OT)):Prop where
 ex:∃(f:aD) (fd:bE) (ps:List Str),FnOk P w K mg base CX0 k f fd ps (spR K n p F)/\Binds K fd ps []/\bO K (.ref f)=true/\mg x=some (.ref f)
variable(X) in
def PAx(i p:Nat)(es:List Expr)(g:FA):Prop:=∃t,PA X es t/\∀H₀ H O σ ds hd l r T v0 Q,Ok X.K H₀ H O σ ds hd->g ds=some l->ds[i]?=some (.ob r T)->σ[i]?=some (some v0) →
 (∀vs H',Same H H'->vs.length=l.length->vs[p]?=some v0->(∀(j:Nat) (d:D),j≠p->l[j]?=some d->∃v,vs[j]?=some v/\Rep X.K H' O v d)->Q vs H')->t σ H Q
def DM(hr:PAs X es g)(hN:X.N[i]?=some x:=by rfl)(hv:Vis X.env.scope x:=by first|exact Or.inl rfl|exact Or.inr (Or.inl rfl)|exact Or.inr (Or.inr rfl))(hd:(x==("__debug__" : Str))=false:=by decide)(hcd:(x==("__classdict__" : Str))=false:=by decide)(hs:aF (.Name x px::es) X.env=(false,bU (.Name x px) X.env)::aF es X.env:=by rfl):PAx X i 0 (.Name x px::es) (hereA g):=by
 obtain⟨t,ht,hg⟩:=hr;refine⟨_,jA (xC hN hv hd hcd) ht hs,λH₀ H O σ ds hd l r T v0 Q o e e1 e2 q=>?_⟩;obtain⟨l1,h1,rfl⟩:=mpd e;refine⟨v0,e2,hg H₀ H O σ ds hd l1 _ o h1 λvs H' s rs=>?_⟩;refine q (v0::vs) H' s (by simp[rs.length]) rfl λj d hj ej=>?_;cases j with
 |zero=>exact(hj rfl).elim
 |succ j=>exact rs.get ej
def xS(ha:PV X e f)(hr:PAx X i p es g)(hs:aF (e::es) X.env=(false,bU e X.env)::aF es X.env:=by rfl):PAx X i (p+1) (e::es) (zA f g):=by
 obtain⟨t,ht,hf⟩:=ha;obtain⟨u,hu,hg⟩:=hr;refine⟨_,jA ht hu hs,λH₀ H O σ ds hd l r T v0 Q o e e1 e2 q=>?_⟩;obtain⟨d1,h1,e⟩:=bnd e;obtain⟨l1,h2,rfl⟩:=mpd e;refine hf H₀ H O σ ds hd d1 _ o h1 λv H1 s1 r1=>?_;refine hg H₀ H1 O σ ds hd l1 r T v0 _ (o.mono s1) h2 e1 e2 λvs H2 s2 hl hp rs=>?_;refine q (v::vs) H2 (s1.trans s2) (by simp[hl]) (by simpa using hp) λj d hj ej=>?_;cases j with
 |zero=>cases ej;exact⟨v,rfl,r1.mono s2⟩
 |succ j=>exact rs j d (λz=>hj (by rw[z])) ej
def tU(C:CalR X.prog X.w X.K X.mg X.base x k n p F)(hr:Room j X.A)(ha:PAx X i p (e::es) g)(hj:k<=j:=by decide)(hg:Gl X x:=by rfl)(hdb:(x==("__debug__" : Str))=false:=by decide)(he:aF (e::es) X.env=(false,bU e X.env)::aF es X.env:=by rfl)(hpl:(cY pos (aF es X.env)).any (·.1)=false:=by rfl) :
  PVx X (.Call (.Name x pp) (e::es) [] pos) (callR n i F g):=by
 obtain⟨t,ht,hf⟩:=ha;obtain⟨f,fd,ps,Fn,hb,hk,hm⟩:=C.ex;refine⟨_,sT Fn (hr.mono hj) hg hm hk hb .nil pass0 ht hdb he hpl,λH₀ H O σ ds hd d ds' Q o e q=>?_⟩;obtain⟨l,h,e⟩:=bnd e;cases hs:ds[i]? with
 |none=>rw[hs]at e;cases e
 |some s=>
   rw[hs]at e;cases s with
   |ob r T=>
     simp only at e;split at e
     . rename_i hc;obtain ⟨z,h2,e⟩:=mpd e;cases e;obtain ⟨a0,_,ea,_⟩:=o.lendAt hs hc.1;refine hf H₀ H O σ ds hd l r T _ _ o h hs ea λvs H1 s1 hl hp rs=>?_;have o1:=o.mono s1;obtain ⟨a,fs,ea',rt,nd,ow,back⟩:=o1.lendAt hs hc.1;rw [ea]at ea';cases ea';have toO:∀ b,orL fs (λb=>O b/\b ∉ fs) b->O b:=λb z=>z.elim (ow b) λz=>z.1;refine ⟨by simp [cO];rw [hl];exact hc.2,a0,T,z.2,z.1,fs,λb=>O b/\b ∉ fs,l,by simpa using hp,hc.2,rt.less toO (λb z=>.inl z),nd,λb z=>⟨z.2,o1.dom b z.1⟩,λj d hj ej=>?_,h2,λv H' fs' k1 k2 k3 k4 k5=>?_⟩
       . obtain⟨v,e1,e2⟩:=rs j d hj ej;exact⟨v,by simpa using e1,e2.less toO⟩
       . exact q v H' _ (back k1 k2 k3 k4) k5
     . cases e
   |_=>cases e
def aBa(hN:X.N.Nodup)(he:PVx X e f)(hi:X.N[i]?=some x:=by rfl)(hx:Loc X.env.scope x:=by first|exact Or.inl rfl|exact Or.inr rfl)(hs:eC e (some (.Name x pos')) pos.line X.env=pure false:=by rfl)(hf:X.fn x=true\/X.env.scope.names.lookup x=some .local:=by first|exact .inl rfl|exact .inr rfl):PSv X (.Assign [.Name x pos'] e pos) (setR i f):=by obtain⟨t,ht,hg⟩:=he;refine⟨_,JH hN hi hx ht hs hf,λH₀ H O σ ds hd out E o e h=>?_⟩;obtain⟨q,h1,rfl⟩:=mpd e;exact hg H₀ H O σ ds hd q.1 q.2 _ o h1 λv H' O' o' r=>h _ _ _ (o'.set r)
def MA{iter:Expr}(S:CompScope X scope NY mp)(hc:X.calm=true)(hi:PIv X tg iter fi)(hg:∀c,PGv (jY X scope NY c) tg ga)(he:∀c,PVx (jY X scope NY c) elt fe)(hm:mp[p]?=some (some i):=by rfl)(hs:∀x,dZ iter X.env x=pure x:=by intro _;rfl):PVx X (.ListComp elt [⟨tg,iter,[],0⟩] scope pos) (compR fi mp i p ga fe):=by
 obtain⟨wi,pi,hi⟩:=hi;refine⟨_,JK S hc pi (λc=>(Classical.choose_spec (hg c)).1) (λc=>aBn) (λc=>(Classical.choose_spec (he c)).1) hs,λH₀ H O σ ds hd d ds' Q o e q=>?_⟩;have hg:=λc=>(Classical.choose_spec (hg c)).2;have he:=λc=>(Classical.choose_spec (he c)).2;obtain⟨items,h1,e⟩:=bnd e;cases hsl:ds[i]? with
 |none=>rw[hsl]at e;cases e
 |some s=>
   rw[hsl]at e;cases s with
   |ob r T=>
     simp only at e;split at e
     . rename_i hsz;obtain ⟨z,h2,e⟩:=mpd e;cases e;refine hi H₀ H O σ ds hd items _ o h1 λJ pv H1 s1 r1 wk=>λc=>?_;have o1:=o.mono s1;obtain ⟨a,fs,ea,rt,nd,ow,back⟩:=o1.lendAt hsl hsz.2
       let B:aD->Prop:=λb=>O b/\b∉fs
       have toO:∀b,orL fs B b->O b:=λb z=>z.elim (ow b) λz=>z.1;have hlen:(qY mp ds).length=mp.length:=by simp[qY]
       have hpl:=(aV.mp hm).1
       refine⟨λn m ys H2=>n<=items.length/\m=items.length-n/\ys.length<=n/\∃T2 fs2 l' z2,(∀b u,b∉fs->H1 b=some u->H2 b=some u)/\RepO X.K H2 (orL fs2 B) (.ref a) T2 fs2/\fs2.Nodup/\(∀b∈fs2,b∈fs\/H1 b=none)/\Reps X.K H2 (orL fs2 B) ys l' ∧
         oB ga fe (λT=>(qY mp ds).set p (.ob (some p) T)) p T2 (items.drop n)=some z2/\z=(l'++z2.1,z2.2),
        ⟨items.length,cR _,rfl,aT _,T,fs,[],z,λ_ _ _ e=>e,rt.less toO (λb z=>.inl z),nd,λb z=>.inl z,.nil,by simpa using h2,by simp⟩,?_⟩
       rintro n m ys H2 ⟨hn,rfl,hy,T2,fs2,l',z2,k1,k2,k3,k4,ry,er,el⟩;have ch:Chg H1 H2 O (orL fs2 B) fs fs2:=kH (λb z=>(Classical.em (b∈fs)).imp id λy=>⟨z,y⟩) ow (λb z=>z.1) k1 k4;have nB:∀b,B b->b∉fs2/\∃u:MutHO,H2 b=some u.1:=λb hb=>by obtain⟨u,eu⟩:=o1.dom b hb.1;refine⟨λz=>(k4 b z).elim hb.2 λy=>?_,u,k1 b _ hb.2 eu⟩;rw[y]at eu;cases eu
       have oI:Ok X.K (cutH fs2 H2) H2 (orL fs2 B) (gR mp σ) ((qY mp ds).set p (.ob (some p) T2)) [HI.rep pv.1 pv.2,.root p a,.base B]:=by
        refine Ok.holdMore (JM k2 k3 nB ?_ ?_ ?_ λj s hj es=>?_) (ch.rep r1)
        . rw[oQ,hlen];simp[gR]
        . rw[aM (by rw[hlen];exact hpl)]
        . simp[gR,aP,hm,bW,aO,ea,tL]
        . rw [aB (Ne.symm hj)]at es;unfold qY at es;rw [aP]at es;cases hmj:mp[j]? with
          |none=>rw[hmj]at es;cases es
          |some mj=>
            rw[hmj]at es;simp[bW,Option.some.injEq]at es;cases mj with
            |none=>exact .inl es.symm
            |some i'=>
              simp only at es;cases hd':ds[i']? with
              |none=>rw[hd']at es;exact .inl es.symm
              |some s'=>
                rw[hd']at es;cases s' with
                |v d'=>obtain⟨v,g1,g2⟩:=o1.read hd';refine .inr ⟨d',v,es.symm,?_,ch.rep g2⟩;simp[gR,aP,hmj,bW,aO,g1,tL]
                |_=>exact .inl es.symm
       obtain⟨go,stop⟩:=wk H2 _ oI.dom (oI.hold (HI.rep pv.1 pv.2) aE);by_cases hlt:n<items.length
       . right;have hd0:=aU hlt;obtain ⟨hgo,hyl⟩:=go n _ hd0;refine ⟨hgo,by have:=hsz.1;lia,λx H3 y=>?_⟩;obtain ⟨s3,r3⟩:=hyl x H3 y;rw [eA hlt,oB]at er;obtain ⟨ds1,h3,er⟩:=bnd er;refine hg c _ H3 _ _ _ _ x _ ds1 _ (oI.mono s3) r3 h3 λσ' o3=>?_;obtain ⟨yd,h4,er⟩:=bnd er;obtain ⟨T3,h5,er⟩:=bnd er;have h6:yd.2[p]?=some (.ob (some p) T3):=by
          cases hy2:yd.2[p]? with
          |none=>rw[hy2]at h5;cases h5
          |some s2=>
            rw[hy2]at h5;cases s2 with
            |ob r2 t2=>
              cases r2 with
              |none=>cases h5
              |some q2=>
                simp only[obAt]at h5;split at h5
                . rename_i hq;subst hq;cases h5;rfl
                . cases h5
            |_=>cases h5
         obtain⟨z3,h7,rfl⟩:=mpd er;refine he c _ H3 _ σ' ds1 _ yd.1 yd.2 _ o3 h4 λv H5 O5 o5 r5=>?_;obtain⟨fs3,j1,j2,j3,j4,j5⟩:=o5.lendEnd h6 (.tail _ (.head _)) (.tail _ (.tail _ (.head _)));have ch2:Chg H2 H5 (orL fs2 B) (orL fs3 B) fs2 fs3:=kH (λb z=>z) (λb z=>.inl z) (λb z=>.inr z) j1 j4;refine⟨items.length-(n+1),by lia,hlt,rfl,by simp;lia,T3,fs3,l'++[yd.1],z3,λb u nb eb=>j1 b u (λz=>(k4 b z).elim nb λy=>by rw[y]at eb;cases eb) (k1 b u nb eb),j2,j3,λb z=>(j4 b z).elim (k4 b) λy=>?_,(ch2.reps ry).append (.cons (r5.less j5) .nil),h7,?_⟩
         . by_cases bf:b∈fs
           . exact .inl bf
           . right;cases hb:H1 b with
             |none=>rfl
             |some u=>rw[k1 b u bf hb]at y;cases y
         . rw[el];simp
       . left;have ei:n=items.length:=by lia
         subst ei;rw[lA,oB]at er;cases er;rw[cO]at el;subst el;refine⟨stop,by have:=hsz.1;lia,λa' ha'=>?_⟩;have o2:=back k1 k2 k3 k4;refine q (.ref a') _ (orL fs2 B) (o2.mono (qF ha' _)) ?_;refine .lst (λz=>?_) (.inl zO) (ry.mono (qF ha' _));obtain⟨u,eu⟩:=o2.dom a' z;rw[ha']at eu;cases eu
     . cases e
   |_=>cases e
section
variable{K:Frag}
def calR_mk(G:FnOk P w K mg base CX0 k f fd ps (spR K n p F))(b:Binds K fd ps [])(h:bO K (.ref f)=true)(m:mg x=some (.ref f)):CalR P w K mg base x k n p F:=⟨f,_,_,G,b,h,m⟩
def DefM.calR{st:Stmt}(d:DefM K x st f)(X:SysAt P w base K mg)(hf:∀{fd},Fun K x x st f fd->FnOk P w K mg base CX0 k f fd ps (spR K n p F))(hb:∀kV doc pm an cdv ct us,us.length=ps.length->pM (cV x x (yF st) (qG st) (zI st) .none kV doc pm an cdv ct) ⟨us,[]⟩=pure (ps.zip us):=by
    intro _ _ _ _ _ _;first|exact len0 rfl|exact len1 λ_=>rfl|exact len2 λ_ _=>rfl|exact len3 λ_ _ _=>rfl|exact len4 λ_ _ _ _=>rfl|exact len5 λ_ _ _ _ _=>rfl):CalR P w K mg base x k n p F:=
 by obtain⟨_,F1,a,c⟩:=d.get;obtain⟨_,X,G⟩:=X.ex;exact calR_mk (hf F1) (F1.binds hb) c (dD X G a)
end
open PySem.W (hideAll hideAll_get of_hideAll hideAll_none)
section
variable{M:Model}{A:dP}{E:aI->aY->Prop}{s:aY}{B:Heap}{l outer:List Env}{env:Env}{e L:aD}{cls fl:aI}{a0:aI×Option aD}{Q:Unit->aY->Prop}
end
section
variable{E:XK}{C:aD}
end
section
variable{E:XK}{C:aD}{scope:Scope}{NY:List Str}{mp:List (Option Nat)}{tg iter elt:Expr}{pos:Pos}{fi:FA}{ga:D->List Sl->Option (List Sl)}{fe:FE}{x:List Sl->Bool}
end
section
variable{E:XK}{C:aD}{m:Str}{t k j n:Nat}{R:List D->Bool}{fo:FE}{g:FA}
def DC i(h:PVo X e f):PVo X e (relGO i f):=by
 obtain⟨t,ht,hf⟩:=h;refine⟨t,ht,λH₀ H O σ ds hd T Q ok ex q=>?_⟩;obtain⟨O',o'⟩:=ok.look i;unfold relGO at ex;obtain⟨T',h1,ex⟩:=bnd ex;split at ex
 . rename_i hfl;cases ex;refine hf H₀ H O' σ _ hd _ Q o' h1 λv H' fs s r nd nw=>q v H' fs s ?_ nd nw;refine RepO.flatten (λa z=>?_) hfl r λb hb=>.inl hb;rcases z with z|z
   . obtain⟨_,u,e⟩:=r.owns a z;exact⟨u.1,e,u.2⟩
   . obtain⟨u,e⟩:=(ok.mono s).dom a z;exact⟨_,e,u.2⟩
 . cases ex
def JA(h:PVo X e f):PV X e (ofO f):=by obtain⟨t,ht,hf⟩:=h;refine⟨t,ht,λH₀ H O σ ds hd d Q ok ex q=>?_⟩;obtain⟨T,h1,rfl⟩:=mpd ex;refine hf H₀ H O σ ds hd T Q ok h1 λv H' fs s r nd nw=>q v H' s (r.val' λa z=>⟨.inr z,λhb=>?_⟩);obtain⟨u,e⟩:=ok.dom a z;rw[nw a hb]at e;cases e
end
section
variable{E:XK}{C:aD}{m:Str}{t k j n:Nat}{R:List D->Bool}{o e:Expr}{es:List Expr}{apos pos:Pos}{fo:FE}{g:FA}
end
section
variable{scope:Scope}{NY:List Str}{mp:List (Option Nat)}{tg iter elt:Expr}{ifs:List Expr}{pos:Pos}{fi:FA}{ga:D->List Sl->Option (List Sl)}{tt:FT}{fe:FE}
end
end FL
namespace L2
noncomputable def ItK(d:aD)(o:Obj)(kvs:List (Key×V)):It:=
 ⟨λi H=>H d=some (.frz o (.dK kvs))/\i<kvs.length,λi H v H'=>H'=H/\∃k x,kvs[i]?=some (k,x)/\v=kV k,λi H=>H d=some (.frz o (.dK kvs))/\kvs.length<=i⟩
def OY{P:bY}{w:cU}{K:aN}{tg:Expr}(it d:aD)(o:Obj)(kvs:List (Key×V)){en:Array DictEntry}{ep:Nat}(dat:o.data=.dict en ep) :
  Turn P w K tg (ItK d o kvs) [it] it (λi h=>h.IsKeyIter it d i kvs.length ep) where
 mem:=by simp
 obj:=λi h st b hb=>by rw[aR.mp hb];obtain⟨q,e,c,dt⟩:=st;exact⟨q,e,λv z=>by rw[dt]at z;cases z⟩
 keep:=λi h h' st k=>let ⟨q,e,r⟩:=st;⟨q,k it (by simp) _ e,r⟩
 item:=by
  intro X hP hw hK hc i aC s σ H E I hf st hg;subst hP hw hK;obtain⟨hd,hi⟩:=hg;obtain⟨vs,rel,hat⟩:=wN I hd dat;have hl:=rel.length;obtain⟨k,x,hx⟩:∃k x,kvs[i]?=some (k,x):=⟨kvs[i].1,kvs[i].2,aU hi⟩
  obtain⟨u,hu,ru⟩:=rel.get hx;obtain⟨f0,f1,f2,f3,f4,f5⟩:=hf it (by simp);rw[hl]at st;refine wpAny_pyNext_dict_item st hat hu λkey h' hkey st' sb=>?_;have I1:=I.turned (t':=s.toks) (λb o hb e=>(sb.2 b hb).trans e) f0 f1 f3 f4 f5;obtain⟨q,e,c,dt⟩:=id st';have rk:RelV (kV k) key:=by
   rcases jV hkey with⟨j,t,rfl,rfl⟩|⟨y,t,rfl,rfl⟩|⟨rfl,rfl⟩
   . exact⟨t,rfl⟩
   . exact⟨t,rfl⟩
   . exact rfl
  exact⟨key,rfl,HX e c dt (by decide) ⟨kV k,H,I1,rk,⟨rfl,k,x,hx,rfl⟩,by rw[hl];exact st',λb hb=>(hf b hb).1⟩⟩
 done:=by intro X hP hw hK hc i aC s σ H E I hf st hg;subst hP hw hK;obtain⟨hd,hi⟩:=hg;obtain⟨vs,rel,hat⟩:=wN I hd dat;have hl:=rel.length;obtain⟨f0,f1,f2,f3,f4,f5⟩:=hf it (by simp);rw[hl]at st;exact wpAny_pyNext_dict_end (I.ok.hd hc) st hat (bF (by lia)) λh' eb=>⟨rfl,I.turned (λb o hb e=>eb b o hb e) f0 f1 f3 f4 f5⟩
 self:=λ_ _ _ _ _ st h=>wpAny_pyIter_keyiter st h
def iDK(to:TE):TI:=λσ H R=>to σ H λx H1=>∃d o kvs,x=.ref d/\H1 d=some (.frz o (.dK kvs))/\R (ItK d o kvs) H1
def aBj(ho:PE X oe to):PI X tg oe (iDK to):=by
 intro aC s σ H R I h;refine thn (ho aC s σ H _ I h) λv s1 zq=>?_;obtain⟨x,H1,I1,r1,d,o,kvs,ex,hd,q⟩:=zq;subst ex;obtain rfl:v=aI.ref d:=r1;obtain⟨hob,z,hds,vs,rel,dd⟩:=I1.hok d _ hd;obtain⟨o',en,ep,e1,exd,dat,r⟩:=id dd;rw[hob]at e1;cases e1;have hat:s1.heap.DictAt (eY X.prog X.w) d vs ep:=⟨o,en,hob,exd,dat,r⟩
 refine wpAny_pyIter_dict hds hat ?_;refine⟨_,[_],_,_,H1,rfl,I1.kept λb o e=>aJ _ e,OY _ d o kvs dat,?_,λc hc=>?_,q⟩
 . rw[rel.length];exact⟨_,aS _ rfl,rfl,rfl⟩
 . rw[aR.mp hc];exact I1.fpOk (aT _) (I1.hok.fresh (aT _))
def tThw(t:TT):TT:=λσ H Q=>∃a kvs,H a=some (.dK kvs)/\∀o,t σ (upd H a (.frz o (.dK kvs))) λb H'=>H' a=some (.frz o (.dK kvs))/\Q b (upd H' a (.dK kvs))
def pt_thw(h:PT X e t):PT X e (tThw t):=by
 intro aC s σ H Q I ⟨a,kvs,h2,h3⟩;have hn:∀q u,X.H₀ a≠some (.frz q u):=λq u z=>by have:=I.base.frzs a q u z;rw[h2]at this;cases this
 obtain⟨o,I'⟩:=I.freezeD h2;obtain⟨ho,z,hd,vs,rel,o',en,ep,e1,exd,dat,r⟩:=I'.hok a _ zO;rw[ho]at e1;cases e1;refine thn (h aC s σ _ _ I' (h3 o)) λb s' hq=>?_;obtain⟨H',I2,e2,q⟩:=hq;exact⟨_,I2.thawD e2 dat hn,q⟩
end L2
namespace FL
def VQ{K:Frag}: WlkD K (ItK d o kvs) (.fz d o kvs l) ((kvs.map (·.1)).map keyDD):=by
 intro H₀ H O dom ⟨n,hd,rs⟩;have hl:((kvs.map (·.1)).map keyDD).length=kvs.length:=by simp
 refine⟨λi x hx=>?_,⟨hd,by rw[hl];exact aT _⟩⟩;have lt:i<kvs.length:=by rw[<-hl];exact(aV.mp hx).1
 refine⟨⟨hd,lt⟩,λv H' zq=>?_⟩;obtain⟨e,k,y,hk,rfl⟩:=zq;subst e;have:x=keyDD k:=by simp[aP,hk,bW,Option.some.injEq]at hx;exact hx.symm
 subst this;exact⟨Same.refl _,kV_rep k⟩
def aBh(h:PV X oe f):PId X tg oe (keysA f):=by
 obtain⟨t,ht,hf⟩:=h;refine⟨_,aBj ht,λH₀ H O σ ds hd items R o e q=>?_⟩;obtain⟨x,h1,e⟩:=bnd e;refine hf H₀ H O σ ds hd x _ o h1 λv H1 s1 r1=>?_;cases x<;>first|(cases e;done)|skip
 cases e;cases r1 with
 |@dcf a ob kvs _ _ n hb ek rs=>subst ek;exact⟨a,ob,kvs,rfl,hb,q _ (.fz a ob kvs _) H1 s1 ⟨n,hb,rs⟩ (λ_ _ z=>by cases z) (λ_ z=>by cases z) VQ⟩
section
variable{K:Frag}
end
end FL
namespace TS
section
variable{prog:bY}{w:cU}
abbrev SS(prog:bY)(w:cU)(h:Heap)(a:aD)(ts:List Str):Prop:=h.SetOf (PySem.strKind prog w) a (λk=>decide (k∈ts)) (FL.cntT ts)
def ss_add(q:h.SetOf (PySem.strKind prog w) a (λk'=>decide (k'∈ts)||decide (k'=x)) (if decide (x∈ts)=true then FL.cntT ts else FL.cntT ts+1)):SS prog w h a (x::ts):=by
 have e1:(λk':Str=>decide (k'∈ts)||decide (k'=x))=λk'=>decide (k'∈x::ts):=by funext k';rw[Bool.or_comm];simp[aA,Bool.decide_or]
 have e2:(if decide (x∈ts)=true then FL.cntT ts else FL.cntT ts+1)=FL.cntT (x::ts):=by
  show _=if x∈ts then _ else _
  by_cases hx:x∈ts<;>simp[hx]
 rw[e1,e2]at q;exact q
def VS(W:WalksS prog w A.in1 J feet hand G n P Z) c(off:c∉feet) num(isn:∀i v,P i v->∃t,v=.str (num i) t)(few:n+1<VG) :
  ∀k i z,n-i=k->i<=n->Z i z->SS prog w z.heap c ((List.range i).map num).reverse →
   (∀z',Moved (c::hand) G z z'->SS prog w z'.heap c ((List.range n).map num).reverse->R (.ok (.ret .none)) z') →
   gW (bK prog w) A (.builtin "set.update.loop" ⟨[.ref c,.ref J],[]⟩) R z:=by
 have away:c∉hand:=λq=>off (W.sub c q);have more:∀b,b∈hand->b∈c::hand:=λb q=>.tail _ q;have at':∀{z z':aY}{ts:List Str},Moved hand G z z'->SS prog w z.heap c ts->SS prog w z'.heap c ts:=λmv hS=>by obtain⟨o,es,ep,t,ho,r⟩:=hS;exact⟨o,es,ep,t,mv.heap c o away ho,r⟩
 intro k;induction k with
 |zero=>
   intro i z hk hi here hS done;have e:i=n:=by lia
   subst e;exact LS (W.done z _ _ here λz' mv=>done z' (mv.mono more) (at' mv hS))
 |succ k ih=>
   intro i z hk hi here hS done;have hlt:i<n:=by lia
   refine LS (W.item i z _ _ hlt here λv z' hv here' mv=>?_);obtain⟨t,rfl⟩:=isn i v hv;have hS':=at' mv hS;have hk':(PySem.strKind prog w).is (num i) (.str (num i) t)=true:=by simp[PySem.strKind,aI.isStrOf]
   have hle:=FL.cntT_le ((List.range i).map num).reverse;simp only[hJ,cA,List.length_range]at hle;dsimp only;unfold setAdd;refine iR (aZ ((PySem.strKind prog w).pyHash (k:=num i) hk' ?_));refine wpAny_setAddHashed_of (knd:=PySem.strKind prog w) (s:={z' with toks:=z'.toks+1}) hk' rfl hS' (by lia) λh' same hS2=>?_;have rest:∀b,b≠c->h'.get? b=z'.heap.get? b:=same.2;have hS3:SS prog w h' c ((List.range (i+1)).map num).reverse:=by rw[CA,dJ,List.reverse_append];exact ss_add hS2
   exact ih (i+1) _ (by lia) hlt (W.frame _ z' _ _ here' (RM _) λb q o e=>(rest b λy=>off (y▸q)).trans e) hS3 λz2 mv2 hS4=>done z2 (Moved.trans W.gtrans ((mv.mono more).then_heap (RM _) λb o q e=>(rest b λy=>q (y▸.head _)).trans e) mv2) hS4
section
variable{s:aY}
def ss_new(h:Heap):SS prog w (h.push (nset (!bt w))) h.objs.size []:=
 ⟨_,#[],0,_,aS _ rfl,⟨rfl,rfl,rfl⟩,rfl,λe he=>by simp at he,λk=>by simp,by decide,by rfl,rfl⟩
def ZY{items:Array aI}(hi:ET items.toList ns):(List.range items.size).map (λi=>ns.getD i "")=ns:=by
 have hlen:items.size=ns.length:=by rw[<-ET.length hi,fS]
 apply List.ext_getElem?;intro i;rw[aP];by_cases hi':i<ns.length
 . rw[rN (by lia)];simp[FD,aU hi']
 . rw[bF (by simp;lia),bF (by lia)];rfl
def XM(free:A.handled=none)(hl:s.heap.IsList l items)(hi:ET items.toList ns)(few:items.size+1<VG)(h:∀h' tk,SS prog w h' s.heap.objs.size ns.reverse->(∀b o,s.heap.get? b=some o->h'.get? b=some o)->Q .none {s with heap:=h',toks:=tk}) :
  gW (bK prog w) A (.call (.builtin "set.__init__") ⟨[.ref s.heap.objs.size,.ref l],[]⟩) (wants Q E) {s with heap:=s.heap.push (nset (!bt w))}:=by
 have hS:(s.heap.push (nset (!bt w))).get? s.heap.objs.size=some (nset (!bt w)):=aS _ rfl;refine codeAny_call_builtin OH.init.plain PySem.F.entry_set_init (check_set_init_1 ⟨_,hS,rfl⟩ ?_);obtain⟨lo,hlo,c1,nl,d1⟩:=hl;obtain⟨k1,k2,k3,k4⟩:=lo;cases c1;cases d1;have old:(s.heap.push (nset (!bt w))).get? l=some {cls:=.type "list",dict:=k2,data:=.seq items nl,slots:=k4}:=aJ _ hlo;have no1:=PySem.F.sub_list_set;have no2:=PySem.F.sub_list_frozenset;have hl1:(s.heap.push (nset (!bt w))).IsList l items:=⟨_,old,rfl,nl,rfl⟩
 have lS:=aW hlo;have sz:(s.heap.push (nset (!bt w))).objs.size=s.heap.objs.size+1:=size_push' _ _;have far:∀b:aD,b<s.heap.objs.size->b≠(s.heap.push (nset (!bt w))).objs.size:=λb hb=>by rw[sz];exact bM (uU hb)
 unfold Builtin.«set.__init__» noKeywords;unfold Builtin.Frozenset.updateFrom;generalize walker:pyIter=PI
 wp_walk
 subst walker;refine ER hl1 (aZ (wpAny_runValue ?_));refine VS ((Walks.list (by simp[free]) _ l (far l lS) items).toS) s.heap.objs.size ?off (λi=>ns.getD i "") (λi v hv=>by
   obtain⟨y,t,e1,e2⟩:=ET.item hi i v (by rw[kP];exact hv)
   exact⟨t,by rw[e1,FD,e2];rfl⟩) few items.size 0 _ rfl (cR _)
  ⟨⟨_,aS _ rfl,rfl,rfl⟩,hl1.push _⟩ ?at0 ?fin
 case at0=>obtain⟨o,es,ep,t,ho,r⟩:=ss_new s.heap;exact⟨o,es,ep,t,aJ _ ho,r⟩
 case off =>
  rw[sz];intro q;rcases aA.mp q with e|q
  . exact bM (lF _) e
  . exact oO lS (aR.mp q)
 case fin =>
  rintro⟨h2,g2,d2,t2,s2⟩ mv full;have eg:=mv.gens;have ed:=mv.drawn;have es:=mv.os;rw[ZY hi]at full;subst eg ed es;refine bV (bV (h h2 t2 full λb o e=>?_));have hb:=aW e;refine mv.heap b o (λq=>?_) (aJ _ (aJ _ e));rcases aA.mp q with y|q
  . exact bM hb y
  . exact far b hb (aR.mp q)
set_option maxHeartbeats 4000000 in
def call_setT(free:A.handled=none)(hl:s.heap.IsList l items)(hi:ET items.toList ns)(few:items.size+1<VG)(h:∀h' tk,SS prog w h' s.heap.objs.size ns.reverse->(∀b o,s.heap.get? b=some o->h'.get? b=some o)->Q (.ref s.heap.objs.size) {s with heap:=h',toks:=tk}) :
  bP (bK prog w) A (call (.type "set") [.ref l]) Q E s:=by
 have C:=OH;have made:=C.made;have below:=C.sub;refine BA (codeAny_of_tree (bV ⟨Code.quiet_builtin _ (by decide +kernel),LI PySem.F.entry_type_call ?_⟩));rw[dP.under_plain (weight_type_call_type _ _ _) rfl]
 repeat (any_goals first|assumption|wp_step)
 refine iF (aCj (.ref l) (E:=E) (Q:=λv z=>v=.ref s.heap.objs.size/\z={s with heap:=s.heap.push (nset (!bt w))}) ⟨rfl,rfl⟩) λr z q=>?_;rcases r with e|fl
 . exact q
 cases fl<;>try exact q.elim
 obtain⟨rfl,rfl⟩:=q;have look:=C.init.lookup;have bound:=C.init.bind (.ref s.heap.objs.size)
 repeat (any_goals first|assumption|wp_step)
 refine iF (XM (E:=E) (Q:=λv z=>v=.none/\∃h' tk,z={s with heap:=h',toks:=tk}/\SS prog w h' s.heap.objs.size ns.reverse/\∀b o,s.heap.get? b=some o->h'.get? b=some o) (by simp[free]) hl hi few
  λh' tk q1 q2=>⟨rfl,h',tk,rfl,q1,q2⟩) λr z q=>?_
 rcases r with e|fl
 . exact q
 cases fl<;>try exact q.elim
 obtain⟨rfl,h',tk,rfl,q1,q2⟩:=q
 repeat (any_goals first|assumption|wp_step)
 exact h h' tk q1 q2
end
end
end TS
namespace L2
def KU:CallR X (.builtin "sorted") (λxs H Q=>∃p ks,xs=[.ref p]/\SqL X.K H p (ks.map V.str)/\ks.length<64/\∀l,H l=none->Q (.ref l) (upd H l (.lst ((FL.srtT ks).map V.str)))):=by
 intro aC s σ H xs us Q I r h;obtain⟨p,ks,rfl,hq,h64,q⟩:=h;obtain⟨u,rfl,ru⟩:=vals1 r;cases ru;obtain⟨its,rv,pl,hz⟩:=I.list hq;have hi:=BJ rv;have hl:=pl.isList;have hlen:=ET.length hi;refine Calls.call_function_entry kind_sorted plain_sorted entry_sorted (args_sorted1 _) ?_;refine aZ (bV (aZ (collect_list hl ?_ (by rw[oJ];lia))));refine TU.sorted_endS hi (by lia) λh2 vs' ns' e p1 p2 p3 p4 p5=>?_;have k1:∀b o,s.heap.get? b=some o->((s.heap.push (seqObj "list" #[] 0)).update s.heap.objs.size (Obj.mapSeq (·++its.toArray))).get? b=some o:=λb o q=>(iU _ _ (Ne.symm (bM (aW q)))).trans (aJ _ q);have en:=FL.leT_unique _ _ (p4.trans (FL.srtT_perm ks).symm) (FL.sortedS_le p5) (FL.srtT_le ks);have I1:=I.kept (t':=s.toks) k1;refine⟨.ref _,_,Inv.laid I1 p1 (aT _) (show ObjOk X.prog X.w _ h2 _ (.lst ((FL.srtT ks).map V.str)) from ⟨?_,vs',e,?_,p2⟩),rfl,q _ (I1.hok.fresh (aT _))⟩
 . have:=(FL.srtT_perm ks).length_eq;simp only[cA];rw[oJ];lia
 . rw[<-en];exact CF p3
def tLset(ta:TA)(K:aN):TE:=λσ H Q=>ta σ H λvs H1=>∃(p:aD) (ts:List Str),vs=[.ref p]/\SqL K H1 p (ts.map V.str)/\ts.length<1000/\Q (.int (FL.cntT ts.reverse:Nat)) H1
def pe_lset(hc:X.calm=true)(hgl:Gl X "len")(hml:X.mg "len" = none)(hg:Gl X "set")(hm:X.mg "set" = none)(ha:PA X [a] ta)(hl:aF [.Call (.Name "set" p2) [a] [] pos2] X.env=[(false,bU (.Call (.Name "set" p2) [a] [] pos2) X.env)]:=by rfl)(hs:aF [a] X.env=[(false,bU a X.env)]:=by rfl) :
  PE X (.Call (.Name "len" p) [.Call (.Name "set" p2) [a] [] pos2] [] pos) (tLset ta X.K):=by
 intro aC s σ H Q I h;refine eO (vS I hgl hml (show eZ "len" = some (.builtin "len") by decide +kernel) ?_);refine pP ?_ hl rfl;refine Calls.spliced_cons ?_;refine Call_ (vS I hg hm (show eZ "set" = some (.type "set") by decide +kernel) (eL (thn (ha pos2 aC s σ H _ I h) λus s1 zq=>?_) hs rfl));obtain⟨vs,H1,I1,r1,q1⟩:=zq;obtain⟨l,ts,e,hq,hz0,q⟩:=q1;subst e;obtain⟨u,rfl,ru⟩:=vals1 r1;cases ru;obtain⟨its,rv,pl,hz⟩:=I1.list hq;have hi:=BJ rv;have hlen:=ET.length hi;refine TS.call_setT (I.ok.hd hc) pl.isList (by simpa using hi) (by simp[aX];unfold VG;lia) λh' tk hS hk=>?_;have I2:Inv X aC σ H1 {s1 with heap:=h',toks:=tk}:=I1.kept hk;refine Calls.spliced_nil ?_;obtain⟨o,es,ep,t,ho,hex,hd,hel,hmem,hb,hf,hn⟩:=hS;have hle:=FL.cntT_le ts.reverse;simp[hJ]at hle;refine call_len_set ho hex hd hf (by lia) ?_;exact⟨.int (FL.cntT ts.reverse:Nat),H1,I2.kept (λb o e=>e),⟨_,by rw[hn]⟩,q⟩
end L2
namespace FL
def pv_lset(hc:X.calm=true)(hml:X.mg "len" = none)(hm:X.mg "set" = none)(he:PVw X e f)(hgl:Gl X "len":=by rfl)(hg:Gl X "set":=by rfl)(hl:aF [.Call (.Name "set" p2) [e] [] pos2] X.env=[(false,bU (.Call (.Name "set" p2) [e] [] pos2) X.env)]:=by rfl)(hs:aF [e] X.env=[(false,bU e X.env)]:=by rfl) :
  PV X (.Call (.Name "len" p) [.Call (.Name "set" p2) [e] [] pos2] [] pos) (lsetE f):=by
 obtain⟨te,pe,he⟩:=he;refine⟨_,pe_lset hc hgl hml hg hm (jA pe yP hs) hl hs,λH₀ H O σ ds hd l Q o e q=>?_⟩;obtain⟨d,h1,e⟩:=bnd e;refine he H₀ H O σ ds hd _ _ o h1 λv H1 s1 r1=>?_;cases d<;>first|(cases e;done)|skip
 obtain⟨ts,hb,e⟩:=bnd e;split at e
 . rename_i hz;cases e;obtain⟨a1,xs,rfl,hq,rs⟩:=r1.seqL;exact⟨a1,ts,rfl,by rw[<-vY rs hb];exact hq,hz,q _ H1 s1 (.int _)⟩
 . cases e
def AE(hm:X.mg "sorted" = none)(he:PVw X e f)(hg:Gl X "sorted":=by rfl)(hs:aF [e] X.env=[(false,bU e X.env)]:=by rfl) :
  PVf X (.Call (.Name "sorted" p) [e] [] pos) (srtTA f):=by
 obtain⟨te,pe,he⟩:=he;refine⟨_,sS KU hg hm (by decide +kernel) (jA pe yP hs) (by decide) (by decide) hs rfl,λH₀ H O σ ds hd l Q o e q=>?_⟩;obtain⟨d,h1,e⟩:=bnd e;refine he H₀ H O σ ds hd _ _ o h1 λv H1 s1 r1=>?_;cases d<;>first|(cases e;done)|skip
 obtain⟨ts,hb,e⟩:=bnd e;split at e
 . rename_i hz;cases e;obtain⟨a1,xs,rfl,hq,rs⟩:=r1.seqL;exact⟨a1,ts,rfl,by rw[<-vY rs hb];exact hq,hz,λp hp=>q p _ _ (s1.trans (qF hp _)) (s1.free hp) zO (GW _)⟩
 . cases e
def WF(hr:Room j X.A)(ho:PVp X oe f)(hk:PV X ke fk)(he:PVo X e g)(hs:eC e (some (.Subscript oe ke pos')) pos.line X.env=pure false:=by rfl) :
  PSv X (.Assign [.Subscript oe ke pos'] e pos) (dputN f fk g):=by
 obtain⟨tp,hp,hfp⟩:=ho;obtain⟨tk,pk,hk⟩:=hk;obtain⟨te,pe,hg⟩:=he;refine⟨_,TC (gF (by lia) (hu100 hr)) hp pk pe hs,λH₀ H O σ ds hd out E o e h=>?_⟩;obtain⟨T,h1,e⟩:=bnd e;obtain⟨q,h2,e⟩:=bnd e;obtain⟨y,h3,e⟩:=bnd e;obtain⟨k,h4,e⟩:=bnd e;refine hg H₀ H O σ ds hd T _ o h1 λv H1 fs s1 r1 nd1 n1=>?_;have o1:=o.moreL s1 n1 λb hb=>(r1.owns b hb).2;refine hfp H₀ H1 (orL fs O) σ ds hd q _ o1 h2 λr T0 v0 w fs0 g1 g2 g3 g4 g5=>?_;refine hk H₀ H1 (orL fs O) σ ds hd y _ o1 h3 λyv H2 s2 r2=>?_;have s12:=s1.trans s2;obtain⟨v',w',f',y1,y2,y3,y4,y5,y6⟩:=o.modAt g1 g2;rw[g3]at y1;cases y1;cases yT g4 (yK s1 y2);cases hq:q.2.2 with
 |dct ks ts=>
   rw[hq]at y3 e;simp only at e;split at e
   . rename_i hl;obtain ⟨hl,hnew⟩:=hl;cases e;cases y3 with
     |@dct a kvs _ _ fs' na ha ek rs=>
       cases kC r2 h4;have ha2:=s12 _ _ ha;have ln:kvs.length<sizeLine:=by rw[<-ek]at hl;simpa using hl
       have hm':¬hasK k (kvs.map (·.1))=true:=by rw[ek,hnew];simp
       have pn:putK kvs k v=kvs++[(k,v)]:=kD hm';refine⟨a,_,rfl,DPut.k ha2 ln,?_⟩;obtain⟨n3,n4⟩:=bC.mp y4;have old:∀b,H b=none->b∉a::fs':=λb hb z=>by
        rcases aA.mp z with z|z
        . rw[z,ha]at hb;cases hb
        . obtain⟨_,x,ex⟩:=rs.owns b z;rw[hb]at ex;cases ex
       have afs:a∉fs:=λz=>by rw[n1 a z]at ha;cases ha
       have hs':∀b u,b≠a->H b=some u->upd H2 a (.dK (putK kvs k v)) b=some u:=λb u nb eb=>by rw[L2.upd_ne nb];exact s12 _ _ eb
       have nO:∀{b:aD},¬O b->b≠a:=λnb z=>nb (by rw[z];exact na)
       have c0:Chg H (upd H2 a (.dK (putK kvs k v))) O (orL fs O) [a] (a::fs):=
        ⟨λb u nb eb=>hs' b u (nO nb) eb,λb u _ nb eb=>hs' b u (λz=>nb (by rw[z];exact .head _)) eb,λb z _=>.inr z,λb z=>z.elim (λz=>.inr ⟨.tail _ z,n1 b z⟩) .inl,λb z=>(aA.mp z).elim (λz=>.inl (by rw[z];exact .head _)) λz=>.inr (n1 b z)⟩
       have rT:RepO X.K (upd H2 a (.dK (putK kvs k v))) (orL fs O) v T fs:=(r1.mono s2).keep (λb u nb eb=>by rw[L2.upd_ne (nO λz=>nb (.inr z))];exact eb) λb hb u eb=>by have z:b≠a:=λz=>afs (by rw[<-z];exact hb);rw[L2.upd_ne z];exact eb
       have rs':=(c0.repsO rs λb hb z=>n3 (aR.mp z▸hb)).snocO rT
       have ok:=y6 (O':=orL fs O) (u':=.dct (ks++[k]) (ts++[T]))
        ⟨λb u nb eb=>hs' b u (nO nb) eb,λb u _ nb eb=>hs' b u (λz=>nb (by rw[z];exact .head _)) eb,λb z _=>.inr z,λb z=>z.elim (λz=>.inr ⟨.tail _ (aL _ z),n1 b z⟩) .inl,λb z=>?_⟩
        (λb z _=>?_) (.dct (.inr na) zO (by rw[pn,<-ek];simp) (by rw[show(putK kvs k v).map (·.2)=kvs.map (·.2)++[v] by rw[pn];simp];exact rs')) (bC.mpr ⟨λz=>?_,?_⟩)
       . have e':putP q (.dct (ks++[k]) (ts++[T])) ds=ds.set q.1 (.ob r (putO (.dct (ks++[k]) (ts++[T])) q.2.1 T0)):=by simp [putP,g1]
         rw[e']at h;exact h _ _ _ ok
       . rcases aA.mp z with z|z
         . exact .inl (by rw[z];exact .head _)
         . rcases bQ.mp z with z|z
           . exact .inl (.tail _ z)
           . exact .inr (n1 b z)
       . by_cases z':b=a
         . rw[z',zO];exact⟨⟨.dK (putK kvs k v),rfl⟩,rfl⟩
         . rcases aA.mp z with q'|q'
           . exact(z' q').elim
           . obtain⟨_,y,ey⟩:=rs.owns b q';exact⟨y,hs' b _ z' ey⟩
       . rcases bQ.mp z with z|z
         . exact n3 z
         . exact afs z
       . rw[cI];exact⟨n4,nd1,λx hx y hy z=>old x (by rw[z];exact n1 y hy) (.tail _ hx)⟩
   . cases e
 |_=>rw[hq]at e;cases e
section
variable{K:Frag}
def Ok.frzV(o:Ok K H₀ H O σ ds hd)(e:ds[i]?=some (.ob r (.ins t [.dct ks ts]))) :
  ∃a kvs,H a=some (.dK kvs)/\∀ob,∃O',Ok K H₀ (upd H a (.frz ob (.dK kvs))) O' σ (ds.set i (.v (.ins t [.dcf ks (otDs ts)]))) hd:=by
 obtain⟨F,hF⟩:=o.obs;obtain⟨v,h1,h2,h3,h4,h5⟩:=hF i r _ e;have hl:=(aV.mp e).1;generalize hfi:F i=fi at h2 h4 h5;cases h2 with
 |@ins a0 C dx _ kvs0 _ fs0 cc n0 h0' ek0 rs0 =>
  generalize hv0:kvs0.map (·.2)=vs0 at rs0;cases rs0 with
  |@cons x0 _ xs0 _ f1 f2 h2 t2 =>
  cases t2;cases h2 with
  |@dct a kvs _ _ fs n hb ek rs =>
   refine⟨a,kvs,hb,λob=>?_⟩;have nd:=bC.mp h4;have nd2:=bC.mp ((cI.mp nd.2).1);have a0a:a0≠a:=λz=>nd.1 (by rw[z];simp);have afs:=nd2.1;have ma:a∈a0::(a::fs++[]):=by simp
   have m0:a0∈a0::(a::fs++[]):=by simp
   let O':aD->Prop:=λb=>O b/\b∉a0::(a::fs++[])
   have sub:∀b,O' b->O b:=λb hb=>hb.1;have h0:=(h5 a ma).1;have kp:Keep O H (upd H a (.frz ob (.dK kvs))):=λb u nb eb=>by have z:b≠a:=λz=>nb (by rw[z];exact n);rw[L2.upd_ne z];exact eb
   have ne:∀{b:aD}{u:HO},b≠a->H b=some u->upd H a (.frz ob (.dK kvs)) b=some u:=λz eb=>by rw[L2.upd_ne z];exact eb
   have own':∀{j:Nat},IsOwn (ds.set i (.v (.ins t [.dcf ks (otDs ts)]))) j->IsOwn ds j/\j≠i:=λh=>wB (λl=>by intro z;cases z) h;have nown:=λ{j b} oj ej z=>(h5 b z).2.2 j oj ej;have rs2:=rs.keep kp λb hb' u eb=>ne (λz=>afs (by rw[<-z];exact hb')) eb;have rv:Reps K (upd H a (.frz ob (.dK kvs))) O' (kvs.map (·.2)) (otDs ts):=rs2.val' λb z=>⟨z.1,λq=>z.2 (by simp[q])⟩
   refine⟨O',λb u eb=>ne (λz=>by rw[z,h0]at eb;cases eb) (o.same b u eb),λj l' b e1 e2=>?_,λb hb=>?_,by simpa using o.len,λj s es=>?_,λj m b hjm hj hm e1 e2=>o.apart j m b hjm (own' hj).1 (own' hm).1 e1 e2,λp hp=>?_,?_⟩
   . obtain⟨⟨l2,e2'⟩,_⟩:=own' ⟨l',e1⟩;exact o.fresh j l2 b e2' e2
   . obtain⟨u,eu⟩:=o.dom b hb.1;exact⟨u,ne (λz=>hb.2 (by rw[z];exact ma)) eu⟩
   . by_cases hj:j=i
     . subst hj;rw[aM hl]at es;cases es;rw[h1];exact yO (.ins cc (λz=>z.2 m0) (ne a0a h0') ek0 (by rw[hv0];exact .cons (.dcf (λz=>z.2 ma) zO ek rv) .nil))
     . rw [aB (Ne.symm hj)]at es;cases s with
       |no=>exact jD
       |ob r t=>exact yV
       |exc t=>obtain⟨a',C',ob',u',q1,q2,q3,q4⟩:=o.readX es;rw[q1];exact⟨C',ob',u',q2,ne (λz=>by rw[z,hb]at q3;cases q3) q3,q4⟩
       |exf t fs=>obtain⟨a',q1,q3⟩:=o.readE es;rw[q1];exact q3.keep λa' ob' u' q3=>ne (λz=>by rw[z,hb]at q3;cases q3) q3
       |fr l'=>obtain⟨a',xs',q1,q2,q0,q3,q4⟩:=o.readF es;rw[q1];exact⟨λz=>q2 (sub _ z),q0,xs',kp _ _ q2 q3,(q4.keep kp).less sub⟩
       |v d=>obtain⟨v,q1,q2⟩:=o.read es;rw[q1];exact yO ((q2.keep kp).less sub)
       |own l'=>obtain⟨b,ys,q1,q2,q3,q4⟩:=o.readO es;rw[q1];have z:=nown ⟨l',es⟩ q1;exact⟨⟨q2,z⟩,ys,ne (λy=>z (by rw[y];exact ma)) q3,(q4.keep kp).less sub⟩
   . have:=o.hold p hp;cases p with
     |rep v d=>exact(Rep.keep kp this).less sub
     |base B=>exact λb hb=>⟨⟨(this b hb).1,λz=>(this b hb).2 (h5 b z).1⟩,(this b hb).2⟩
     |root k a=>exact True.intro
     |fz a' o' kvs' l'=>exact⟨λz=>this.1 (sub _ z),kp _ _ this.1 this.2.1,(Reps.keep kp this.2.2).less sub⟩
   . refine⟨F,λj r' t' ej=>?_⟩;obtain⟨ej,hj⟩:=wP (λr t=>by intro z;cases z) ej;obtain⟨w,g1,g2,g3,g4,g5⟩:=hF j r' t' ej;have na:=λb hb z=>(h5 b hb).2.1 j r' t' hj ej z;refine⟨w,g1,(g2.keep kp λb hb u eb=>ne (λz=>na a ma (by rw[<-z];exact hb)) eb).less sub λb hb=>⟨(g2.owns b hb).1,λz=>na b z hb⟩,g3,g4,λb hb=>⟨(g5 b hb).1,λm r2 t2 hm em=>(g5 b hb).2.1 m r2 t2 hm (wP (λr t=>by intro z;cases z) em).1,λm om em=>(g5 b hb).2.2 m (own' om).1 em⟩⟩
end
def WA{iter:Expr}(S:CompScope X scope NY mp)(hc:X.calm=true)(hi:PId X tg iter fi)(hg:∀c,PGv (jY X scope NY c) tg ga)(ht:∀c,PFv (jY X scope NY c) ifs tt)(he:∀c,PV (jY X scope NY c) elt fe)(hs:∀x,dZ iter X.env x=pure x:=by intro _;rfl):PVf X (.ListComp elt [⟨tg,iter,ifs,0⟩] scope pos) (compG fi mp ga tt fe):=by obtain⟨wi,pi,hi⟩:=hi;refine⟨_,JK S hc pi (λc=>(Classical.choose_spec (hg c)).1) (λc=>(Classical.choose_spec (ht c)).1) (λc=>(Classical.choose_spec (he c)).1) hs,λH₀ H O σ ds hd l Q o e q=>?_⟩;exact YE hi (λc=>(Classical.choose_spec (hg c)).2) (λc=>(Classical.choose_spec (ht c)).2) (λc=>(Classical.choose_spec (he c)).2) H₀ H O σ ds hd l Q o e λa xs H' s hn he r=>q a xs H' s hn he r
end FL
namespace L2
def eThw(t:TE):TE:=λσ H Q=>∃a kvs,H a=some (.dK kvs)/\∀o,t σ (upd H a (.frz o (.dK kvs))) λv H'=>H' a=some (.frz o (.dK kvs))/\Q v (upd H' a (.dK kvs))
def aBp(h:PE X e t):PE X e (eThw t):=by
 intro aC s σ H Q I ⟨a,kvs,h2,h3⟩;have hn:∀q u,X.H₀ a≠some (.frz q u):=λq u z=>by have:=I.base.frzs a q u z;rw[h2]at this;cases this
 obtain⟨o,I'⟩:=I.freezeD h2;obtain⟨ho,z,hd,vs,rel,o',en,ep,e1,exd,dat,r⟩:=I'.hok a _ zO;rw[ho]at e1;cases e1;refine thn (h aC s σ _ _ I' (h3 o)) λv s' hq=>?_;obtain⟨x,H',I2,rx,e2,q⟩:=hq;exact⟨x,_,I2.thawD e2 dat hn,rx,q⟩
end L2
namespace FL
section
variable{K:Frag}{H H':Hp}{O O':aD->Prop}
mutual
theorem Rep.flatF(ho:∀a,O a->∀xs,¬Rd H a (.tup xs)):∀{v:V}{d:D},Rep K H O' v d->flat d=true->Rep K H O v d
 |_,_,.non=>λ_=>.non
 |_,_,.bl b=>λ_=>.bl b
 |_,_,.int i=>λ_=>.int i
 |_,_,.str x=>λ_=>.str x
 |_,_,.tup n h r=>λf=>.tup (λz=>ho _ z _ h) h (Reps.flatF ho r (by simpa[flat]using f))
 |_,_,.tupK h r=>λf=>.tupK h (Reps.flatF ho r (by simpa[flat]using f))
 |_,_,.lst _ _ _=>λf=>by simp[flat]at f
 |_,_,.lstK _ _=>λf=>by simp[flat]at f
 |_,_,.dct _ _ _ _=>λf=>by simp[flat]at f
 |_,_,.dcf _ _ _ _=>λf=>by simp[flat]at f
 |_,_,.ins _ _ _ _ _=>λf=>by simp[flat]at f
 |_,_,.clo _ _ _ _ _ _=>λf=>by simp[flat]at f
 |_,_,.fnK _=>λf=>by simp[flat]at f
theorem Reps.flatF(ho:∀a,O a->∀xs,¬Rd H a (.tup xs)):∀{vs:List V}{ds:List D},Reps K H O' vs ds->flats ds=true->Reps K H O vs ds
 |_,_,.nil=>λ_=>.nil
 |_,_,.cons h t=>λf=>by simp only[flats,bJ]at f;exact .cons (Rep.flatF ho h f.1) (Reps.flatF ho t f.2)
end
mutual
theorem RepO.flatF(ho:∀a,O a->∀xs,¬Rd H a (.tup xs)):∀{v:V}{t:OT}{fs:List aD},RepO K H O' v t fs->flatO t=true->(∀b∈fs,O b)->RepO K H O v t fs
 |_,_,_,.val r=>λf _=>.val (r.flatF ho (by simpa[flatO]using f))
 |_,_,_,.lst n h r=>λf hb=>.lst (hb _ (.head _)) h (RepsO.flatF ho r (by simpa[flatO]using f) λb z=>hb b (.tail _ z))
 |_,_,_,.dct n h e r=>λf hb=>.dct (hb _ (.head _)) h e (RepsO.flatF ho r (by simpa[flatO]using f) λb z=>hb b (.tail _ z))
 |_,_,_,.ins c n h e r=>λf hb=>.ins c (hb _ (.head _)) h e (RepsO.flatF ho r (by simpa[flatO]using f) λb z=>hb b (.tail _ z))
 |_,_,_,.tup n h r=>λf hb=>.tup (λz=>ho _ z _ h) h (RepsO.flatF ho r (by simpa[flatO]using f) hb)
theorem RepsO.flatF(ho:∀a,O a->∀xs,¬Rd H a (.tup xs)):∀{v:List V}{t:List OT}{fs:List aD},RepsO K H O' v t fs->iP t=true->(∀b∈fs,O b)->RepsO K H O v t fs
 |_,_,_,.nil=>λ_ _=>.nil
 |_,_,_,.cons h r=>λf hb=>by simp only[iP,bJ]at f;exact .cons (RepO.flatF ho h f.1 λb z=>hb b (bB _ z)) (RepsO.flatF ho r f.2 λb z=>hb b (aL _ z))
end
def tZ{u:MutHO}(e:H b=some u.1) xs:¬Rd H b (.tup xs):=λh=>by
 obtain⟨u,m⟩:=u;rcases h with h|⟨o,h⟩
 . rw[e]at h;cases h;cases m
 . rw[e]at h;cases h;cases m
end
def aAn i(h:PVo X e f):PVo X e (relGV i f):=by
 obtain⟨t,ht,hf⟩:=h;refine⟨_,aBp ht,λH₀ H O σ ds hd T Q ok ex q=>?_⟩;unfold relGV at ex;obtain⟨d,h1,ex⟩:=bnd ex;obtain⟨T',h2,ex⟩:=bnd ex;split at ex
 . rename_i hfl;cases ex;cases hs:ds[i]? with
   |none=>rw[hs]at h1;cases h1
   |some s=>
     rw[hs]at h1;unfold insV at h1;split at h1
     . rename_i r t ks ts hh;cases hh;cases h1;obtain ⟨a,kvs,ha,hO⟩:=ok.frzV hs;refine ⟨a,kvs,ha,λob=>?_⟩;obtain ⟨O',o'⟩:=hO ob;refine hf H₀ _ O' σ _ hd _ _ o' h2 λv H' fs s' r nd nw=>⟨s' _ _ zO,?_⟩
       have ha':H' a=some (.frz ob (.dK kvs)):=s' _ _ zO;have af:a∉fs:=λz=>by have:=nw a z;rw[zO]at this;cases this
       have sm:Same H (upd H' a (.dK kvs)):=λx u eu=>by
        by_cases hx:x=a
        . rw[hx,zO];rw[hx,ha]at eu;exact eu
        . rw[upd_ne hx];exact s' _ _ (by rw[upd_ne hx];exact eu)
       have r1:RepO X.K H' (orL fs (λb=>b=a)) v T fs:=r.flatF (λb z xs hr=>by
        rcases z with z|z
        . obtain⟨_,u,eu⟩:=r.owns b z;exact tZ eu xs hr
        . subst z;rcases hr with hr|⟨o,hr⟩
          . rw[ha']at hr;cases hr
          . rw[ha']at hr;cases hr) hfl λb hb=>.inl hb
       have r2:RepO X.K (upd H' a (.dK kvs)) (orL fs (λb=>b=a)) v T fs:=r1.keep (λb u nb eb=>by rw[upd_ne (λz=>nb (.inr z))];exact eb) λb hb u eb=>by rw[upd_ne (λz=>af (by rw[<-z];exact hb))];exact eb
       refine q v _ fs sm (r2.flatF (λb z xs hr=>?_) hfl λb hb=>.inl hb) nd λb hb=>?_
       . rcases z with z|z
         . obtain⟨_,u,eu⟩:=r2.owns b z;exact tZ eu xs hr
         . obtain⟨u,eu⟩:=ok.dom b z;exact tZ (sm _ _ eu) xs hr
       . have:=nw b hb;rwa [upd_ne (λz=>af (by rw[<-z];exact hb))]at this
     . cases h1
 . cases ex
section
variable{E:XK}{C:aD}{k j n:Nat}{F:List D->Option Ret}{x:Str}{p pos:Pos}{e:Expr}{es:List Expr}{g:FA}{y:List Sl->Bool}
end
end FL
namespace PySem
section
variable{prog:bY}{w:cU}{A:dP}{E:aI->aY->Prop}{h:Heap}{g:Array OL}{d:Drawn}{t:Nat}{os:YR}
variable{nm q:Str}{C N:aD}{bs bm bmB:List aI}{hdct:Bool}{sn:List Str}{sub:List aI}{ab:Bool}{col:Option Bool}{dd:Option aD}{k0 k1 k2 k3 k5:Option aI}{B Bn newId nid initId inN:String}{bmN:List aI}
end
end PySem
namespace FL
open PySem.Calls PySem.Builtin PySem.Builtin.ObjectAttr
open PySem.W (Looks looks_findIn looks_mroIn looks_clsIn findIn mroIn clsIn tailIn nsOkIn nsIn InstAt tail_of_in isNs_of_in)
section
variable{prog:bY}{w:cU}{A:dP}{E:aI->aY->Prop}{h:Heap}{g:Array OL}{d:Drawn}{t:Nat}{os:YR}{K:Frag}{x C N dx:aD}{o:Obj}{nm q:Str}{bs bm:List aI}{sn:List Str}{sub:List aI}{ab:Bool}{col:Option Bool}{dd:Option aD}{k0 k1 k2 k3 k5:Option aI}{name:Str}{v:aI}{mA:Str->Option aI}{newId:String}
end
open PySem.Calls PySem.Builtin PySem.Builtin.ObjectAttr
open PySem.W (Looks looks_findIn looks_mroIn looks_clsIn findIn mroIn clsIn InstAt looks_find findObj handedIn handedOut_of)
section
variable{prog:bY}{w:cU}{A:dP}{E:aI->aY->Prop}{h:Heap}{g:Array OL}{d:Drawn}{t:Nat}{os:YR}{K:Frag}{x C N dx:aD}{o od:Obj}{name:Str}{v:aI}
end
section
variable{aC:List (aD×Obj)}{σ:L2.St}{H:Hp}{s:aY}{e dx C fI:aD}{oe:Obj}{f:Str}{y:V}{u:aI}{A:dP}{E:aI->aY->Prop}{fs:List (Str×V)}
end
open PySem.W (findIn)
section
variable{C fI:aD}{o value:Expr}{ta tv:TE}{f:Str}{pos pos':Pos}
end
end FL
namespace PySem
section
variable{M:Model}{prog:bY}{w:cU}{A:dP}{E:aI->aY->Prop}{s:aY}{env:Env}
variable{nm q:Str}{C N:aD}{bs bm bmB:List aI}{hdct:Bool}{sn:List Str}{sub:List aI}{ab:Bool}{col:Option Bool}{dd:Option aD}{k0 k1 k2 k3 k5:Option aI}{B Bn newId nid initId inN:String}{bmN:List aI}
end
end PySem
namespace FL
open PySem.W (hideAll hideAll_get of_hideAll hideAll_none funFrames_hide)
open PySem.W (findIn)
section
variable(X:Cx)(C:aD)
end
section
variable{C:aD}
end
open PySem.W (Looks looks_mroIn mroIn clsIn findIn InstAt findObj findObj_own hasDictIn)
section
variable{k j n:Nat}{R:List D->Option Fls}{C:aD}{x:Str}{p pos:Pos}{e:Expr}{es:List Expr}{g:FA}
end
open PySem.W (findIn InstAt findObj findObj_own hasDictIn)
open PySem.W (findIn hasDictIn)
section
variable{C:aD}
end
section
variable{scope:Scope}{NY:List Str}{mp:List (Option Nat)}{tg iter elt:Expr}{ifs:List Expr}{pos:Pos}{fi:FA}{ga:D->List Sl->Option (List Sl)}{tt:FT}{fe:FE}
end
def SG{a:Expr}{i:Nat}{y:Str}{f:FP}{pos p:Pos}(ha:PVp X a f)(hN:X.N[i]?=some y:=by rfl)(hv:Vis X.env.scope y:=by first|exact Or.inl rfl|exact Or.inr (Or.inl rfl)|exact Or.inr (Or.inr rfl))(hde:(y==("__debug__" : Str))=false:=by decide)(hcd:(y==("__classdict__" : Str))=false:=by decide)(hs:BW (.Name y p):=by exact λ_ _=>rfl):PVp X (.Subscript a (.Name y p) pos) (ixPV i f):=by
 obtain⟨t,ht,hf⟩:=ha;refine⟨_,aBs QJ ht (xC hN hv hde hcd) hs,λH₀ H O σ ds hd q Q o e h=>?_⟩;unfold ixPV at e;split at e
 . rename_i n hn;split at e
   . rename_i h0;obtain ⟨k,rfl⟩:=Int.eq_ofNat_of_zero_le h0;obtain ⟨iv,i1,i2⟩:=o.read hn;cases i2;simp only [ZR]at e;unfold ixP at e;obtain ⟨q0,h1,e⟩:=bnd e;refine hf H₀ H O σ ds hd q0 _ o h1 λr T v w fs g1 g2 g3 g4 g5=>?_;cases hu:q0.2.2 with
     |val d=>rw[hu]at e;cases e
     |dct ks l=>rw[hu]at e;cases e
     |ins c l=>rw[hu]at e;cases e
     |tup l=>
       rw[hu]at e g5;simp only[kidsI,aO]at e;obtain⟨u,hk,rfl⟩:=mpd e;cases g5 with
       |tup n hb rs=>obtain⟨x,f2,y1,y2⟩:=rs.nth hk;refine⟨_,i1,.inr (.inl ⟨_,_,_,_,rfl,rfl,.inl hb,atI_nat y1,h r T v x f2 g1 ?_ g3 (wX g4 (.tup hb) y1) y2⟩)⟩;rw[xP,g2,hu];simp[subO,hk]
     |lst l=>
       rw[hu]at e g5;simp only[kidsI,aO]at e;obtain⟨u,hk,rfl⟩:=mpd e;cases g5 with
       |lst n hb rs=>obtain⟨x,f2,y1,y2⟩:=rs.nth hk;refine⟨_,i1,.inl ⟨_,_,_,_,rfl,rfl,.inl (.inl hb),atI_nat y1,h r T v x f2 g1 ?_ g3 (wX g4 (.lst hb) y1) y2⟩⟩;rw[xP,g2,hu];simp[subO,hk]
   . cases e
 . cases e
end FL
namespace L2
noncomputable def vwO(v d:aD):HO:=.ext λh=>h.IsValuesView v d
def vwO_ok{P:bY}{w:cU}{H:Hp}{h:Heap}{v d:aD}(q:h.IsValuesView v d):ObjOk P w H h v (vwO v d):=⟨q,let ⟨o,e,_⟩:=q;⟨o,e⟩,λ_ _ ⟨o,e,r⟩ k=>⟨o,k _ e,r⟩⟩
def tVals(to:TE):TE:=λσ H Q=>to σ H λx H1=>∃d kvs,x=.ref d/\Rd H1 d (.dK kvs)/\∀v,H1 v=none->Q (.ref v) (upd H1 v (vwO v d))
section
variable{oe:Expr}{to:TE}{apos pos:Pos}
def pe_vals(ho:PE X oe to)(hbase:dB oe "values" X.env (bU oe X.env)=bU oe X.env:=by rfl)(hline:(apos.endLine==pos.line)=true:=by rfl) :
  PE X (.Call (.Attribute oe "values" apos) [] [] pos) (tVals to):=by
 intro aC s σ H Q I h;refine pL hbase hline (thn (ho aC s σ H _ I h) λv s1 zq=>?_);obtain⟨x,H1,I1,r1,d,kvs,ex,hd,q⟩:=zq;subst ex;obtain rfl:v=aI.ref d:=r1;obtain⟨z,hds,vs,rel,dd⟩:=EI I1.hok hd;obtain⟨o,en,ep,e1,exd,dat,r⟩:=id dd;refine⟨"dict","dict.values",EY,gX,EW,⟨o,e1,exd.1⟩,λa e2=>?_,Calls.callWith_builtin rfl (pW (call_meetsIn gX dd.typeIs BZ (BH _) (meets_dict_values (eY X.prog X.w) d hds) ⟨⟨vs,dd⟩,?_⟩))⟩
 . cases e2;exact⟨o,e1,exd.2.1⟩
 . exact⟨.ref s1.heap.objs.size,_,I1.laid (a:=s1.heap.objs.size) (o:=vwO s1.heap.objs.size d) (t':=s1.toks) (λb o e=>aJ _ e) (aT _) (vwO_ok ⟨_,aS _ rfl,rfl,rfl⟩),rfl,q _ (I1.hok.fresh (aT _))⟩
def RG(hc:X.calm=true):CallR X (.type "list") (λxs H Q=>∃v d kvs,xs=[.ref v]/\H v=some (vwO v d)/\Rd H d (.dK kvs)/\∀l,H l=none->Q (.ref l) (upd H l (.lst (kvs.map (·.2))))):=by
 intro aC s σ H xs us Q I r h;obtain⟨v,d,kvs,rfl,hv,hq,q⟩:=h;obtain⟨u,rfl,ru⟩:=vals1 r;cases ru;obtain⟨z,hds,vs,rel,dd⟩:=EI I.hok hq;obtain⟨ep,hat⟩:=dd.dictAt;have hl:=rel.length;refine PySem.W.kdl_call (PySem.W.kdl_values (d:=d) (kvs:=vs) (ep:=ep)) (I.ok.hd hc) ⟨(I.hok _ _ hv).1,hat⟩ (by omega) λh' tk acc c k1 hL hit=>?_;have I1:Inv X aC σ H {s with heap:=s.heap,toks:=tk}:=I.kept λ_ _ e=>e;refine⟨.ref s.heap.objs.size,_,Inv.laid (s:={s with heap:=s.heap,toks:=tk}) I1 k1 (aT _) (show ObjOk X.prog X.w _ h' _ (.lst (kvs.map (·.2))) from ⟨?_,acc.toList,c,?_,by simpa using hL⟩),rfl,q _ (I.hok.fresh (aT _))⟩
 . simpa using z
 . refine IM (by have:=hit.1;simp[cA,fS];omega) λj w e=>?_;obtain⟨k,e1⟩:=hit.2 j w (by rw[<-kP];exact e);obtain⟨y,e3,e4⟩:=rel.at' e1;exact⟨y,by rw[aP,e3];rfl,e4⟩
end
end L2
namespace FL
def VZ{oe:Expr}{f:FE}{p apos pos pos':Pos}(hc:X.calm=true)(hm:X.mg "list" = none)(he:PV X oe f)(hg:Gl X "list":=by rfl)(hs:aF [.Call (.Attribute oe "values" apos) [] [] pos'] X.env=[(false,bU (.Call (.Attribute oe "values" apos) [] [] pos') X.env)]:=by rfl)(hbase:dB oe "values" X.env (bU oe X.env)=bU oe X.env:=by rfl)(hline:(apos.endLine==pos'.line)=true:=by rfl) :
  PVf X (.Call (.Name "list" p) [.Call (.Attribute oe "values" apos) [] [] pos'] [] pos) (lvalA f):=by
 obtain⟨te,pe,he⟩:=he;refine⟨_,tY (RG hc) hg hm (by decide +kernel) (jA (pe_vals pe hbase hline) yP hs) (by decide) (by decide) hs rfl,λH₀ H O σ ds hd l Q o e q=>?_⟩;obtain⟨d,h1,e⟩:=bnd e;obtain⟨kl,h2,rfl⟩:=mpd e;refine he H₀ H O σ ds hd _ _ o h1 λv H1 s1 r1=>?_;obtain⟨a,kvs,rfl,hb,ek,rs⟩:=BQ r1 h2;refine⟨a,kvs,rfl,hb,λv hv=>⟨v,a,kvs,rfl,zO,?_,λp hp=>?_⟩⟩
 . have ne:a≠v:=λz=>by
    rw[z]at hb;rcases hb with hb|⟨_,hb⟩<;>(rw[hv]at hb;cases hb)
   rcases hb with hb|⟨ob,hb⟩
   . exact .inl (by rw[upd_ne ne];exact hb)
   . exact .inr ⟨ob,by rw[upd_ne ne];exact hb⟩
 . have s2:Same H (upd H1 v (vwO v a)):=s1.trans (qF hv _);refine q p _ _ (s2.trans (qF hp _)) (s2.free hp) zO ?_;exact((rs.mono (qF hv (vwO v a))).more hp).mono (qF hp _)
end FL
namespace L2
def YI:CallR X (.builtin "len") (λxs H Q=>∃d kvs,xs=[.ref d]/\Rd H d (.dK kvs)/\Q (.int kvs.length) H):=by intro aC s σ H xs us Q I r h;obtain⟨d,kvs,rfl,hd,q⟩:=h;obtain⟨u,rfl,rx⟩:=vals1 r;cases rx;have hn:=rQ;obtain⟨z,hds,vs,rel,dd⟩:=EI I.hok hd;have hl:=rel.length;exact call_len_dict hds dd (by lia) ⟨.int kvs.length,H,I.tok _,⟨_,by rw[hl]⟩,q⟩
end L2
namespace FL
def pv_dlen{e:Expr}{f:FE}{p pos:Pos}(hm:X.mg "len" = none)(he:PV X e f)(hg:Gl X "len":=by rfl)(hs:aF [e] X.env=[(false,bU e X.env)]:=by rfl) :
  PV X (.Call (.Name "len" p) [e] [] pos) (callB lenD (zA (mkL (lvalA f)) zS)):=by
 obtain⟨te,pe,he⟩:=he;refine⟨_,sS YI hg hm PySem.boot_len (jA pe yP hs) (by decide) (by decide) hs rfl,λH₀ H O σ ds hd l Q o e q=>?_⟩;cases h1:f ds with
 |none=>simp[callB,zA,mkL,lvalA,h1]at e
 |some d=>
   cases h2:kdD d with
   |none=>simp[callB,zA,mkL,lvalA,h1,h2]at e
   |some kl=>simp[callB,zA,zS,mkL,lvalA,h1,h2,lenD]at e;subst e;refine he H₀ H O σ ds hd _ _ o h1 λv H1 s1 r1=>?_;obtain⟨a,kvs,rfl,hb,ek,rs⟩:=BQ r1 h2;refine⟨a,kvs,rfl,hb,?_⟩;have:=rs.length;rw[cA]at this;rw[this];exact q _ H1 s1 (.int _)
section
variable{K:Frag}
end
section
variable{K:Frag}
end
section
variable{K:Frag}
def Ok.frzDP(o:Ok K H₀ H O σ ds hd)(e:thwS i p ds=some ds') :
  ∃a kvs,H a=some (.dK kvs)/\∀ob,∃O',Ok K H₀ (upd H a (.frz ob (.dK kvs))) O' σ ds' hd:=by
 unfold thwS at e;split at e
 . rename_i r T hi;split at e
   . rename_i ks ts hs;cases e;obtain ⟨v,w,f,h1,h2,h3,h4,h5,h6⟩:=o.modAt hi hs;cases h3 with
     |@dct a kvs _ _ fs n hb ek rs=>
       obtain⟨n3,n4⟩:=bC.mp h4;refine⟨a,kvs,hb,λob=>⟨λb=>O b/\b∉a::fs,?_⟩⟩;have ne:∀b u,b≠a->H b=some u->upd H a (.frz ob (.dK kvs)) b=some u:=λb u z eb=>by rw[L2.upd_ne z];exact eb
       have c:Chg H (upd H a (.frz ob (.dK kvs))) O (λb=>O b/\b∉a::fs) (a::fs) []:=
        ⟨λb u nb eb=>ne b u (λz=>nb (z▸n)) eb,λb u _ nb eb=>ne b u (λz=>nb (by rw[z];exact .head _)) eb,λb z nb=>⟨z,nb⟩,λb z=>.inl z.1,λ_ z=>nomatch z⟩
       have kp:Keep O H (upd H a (.frz ob (.dK kvs))):=λb u nb eb=>ne b u (λz=>nb (z▸n)) eb;have rs2:=rs.keep kp λb hb' u eb=>ne b u (λz=>n3 (z▸hb')) eb;refine h6 c (λb hb z=>(z.2 hb).elim) (.val (.dcf (λz=>z.2 (.head _)) zO ek (rs2.val' λb z=>⟨z.1,λy=>z.2 (.tail _ y)⟩))) .nil
   . cases e
 . cases e
end
def kG i p(h:PTv X e c):PTv X e (thwT i p c):=by
 obtain⟨t,ht,hf⟩:=h;refine⟨_,pt_thw ht,λH₀ H O σ ds hd b Q o e q=>?_⟩;obtain⟨ds',h1,e⟩:=bnd e;obtain⟨a,kvs,ha,hO⟩:=o.frzDP h1;refine⟨a,kvs,ha,λob=>?_⟩;obtain⟨O',o'⟩:=hO ob;refine hf H₀ _ O' σ _ hd b _ o' e λH' s'=>⟨s' _ _ zO,q _ λx u eu=>?_⟩
 by_cases hx:x=a
 . rw[hx,zO];rw[hx,ha]at eu;exact eu
 . rw[upd_ne hx];exact s' _ _ (by rw[upd_ne hx];exact eu)
def MB i p(h:PVo X e f):PVo X e (thwG i p f):=by
 obtain⟨t,ht,hf⟩:=h;refine⟨_,aBp ht,λH₀ H O σ ds hd T Q ok ex q=>?_⟩;obtain⟨ds',h1,ex⟩:=bnd ex;obtain⟨T',h2,ex⟩:=bnd ex;split at ex
 . rename_i hfl;cases ex;obtain ⟨a,kvs,ha,hO⟩:=ok.frzDP h1;refine ⟨a,kvs,ha,λob=>?_⟩;obtain ⟨O',o'⟩:=hO ob;refine hf H₀ _ O' σ _ hd _ _ o' h2 λv H' fs s' r nd nw=>⟨s' _ _ zO,?_⟩
   have ha':H' a=some (.frz ob (.dK kvs)):=s' _ _ zO;have af:a∉fs:=λz=>by have:=nw a z;rw[zO]at this;cases this
   have sm:Same H (upd H' a (.dK kvs)):=λx u eu=>by
    by_cases hx:x=a
    . rw[hx,zO];rw[hx,ha]at eu;exact eu
    . rw[upd_ne hx];exact s' _ _ (by rw[upd_ne hx];exact eu)
   have r1:RepO X.K H' (orL fs (λb=>b=a)) v T fs:=r.flatF (λb z xs hr=>by
    rcases z with z|z
    . obtain⟨_,u,eu⟩:=r.owns b z;exact tZ eu xs hr
    . subst z;rcases hr with hr|⟨o,hr⟩
      . rw[ha']at hr;cases hr
      . rw[ha']at hr;cases hr) hfl λb hb=>.inl hb
   have r2:RepO X.K (upd H' a (.dK kvs)) (orL fs (λb=>b=a)) v T fs:=r1.keep (λb u nb eb=>by rw[upd_ne (λz=>nb (.inr z))];exact eb) λb hb u eb=>by rw[upd_ne (λz=>af (by rw[<-z];exact hb))];exact eb
   refine q v _ fs sm (r2.flatF (λb z xs hr=>?_) hfl λb hb=>.inl hb) nd λb hb=>?_
   . rcases z with z|z
     . obtain⟨_,u,eu⟩:=r2.owns b z;exact tZ eu xs hr
     . obtain⟨u,eu⟩:=ok.dom b z;exact tZ (sm _ _ eu) xs hr
   . have:=nw b hb;rwa [upd_ne (λz=>af (by rw[<-z];exact hb))]at this
 . cases ex
def aDl{K:Frag}{st:Stmt}(Fn:Fun K x qual st f fd)(S:FnScope N ps (zI st))(hbody:∀cdv A outer s H E,Room k (A.deeper (iW qual (zI st) s.heap.objs.size f cdv))->PSsv (cxOf CX0 P w K mg base N qual (zI st) f cdv A outer s H E).nox (qG st) g)(hg:∀T l q,l.length=ps.length->F T l=some q->lentN g N.length p T l=some q)(hp:p<ps.length:=by decide)(hN:ps.length<=N.length:=by decide):FnOk P w K mg base CX0 (k+1) f fd ps (spR K ps.length p F):=by
 refine Fn.ok S (λvs H Q E h=>h.1) (λcdv A outer s H vs Q E hr h=>?_);obtain⟨hl,a,T,T',d,fs,B,l,ha,ll,rt,nd,hB,ra,e,q⟩:=h;obtain⟨t,ht,hf⟩:=hbody cdv A outer s H E hr;refine⟨t,ht,?_⟩;have hlen:(args N.length l).length=N.length:=by simp[args];lia
 have o:Ok K (cutH fs H) H (orL fs B) (L2.start N vs) ((args N.length l).set p (.ob (some p) T)) [.root p a,.base B]:=by
  refine JM rt nd hB ?_ ?_ ?_ λj s' hj es=>?_
  . rw[oQ,hlen];simp[L2.start,bS,cA,kT];lia
  . rw[aM (by rw[hlen];lia)]
  . simp[L2.start];rw[bA (by simp;lia),aP,ha];rfl
  . rw [aB (Ne.symm hj)]at es;unfold args at es;by_cases hjl:j<l.length
    . rw[bA (by simpa using hjl),aP,aU hjl]at es;cases es;obtain⟨v,h1,h2⟩:=ra j _ hj (aU hjl);refine .inr ⟨_,v,rfl,?_,h2⟩;simp[L2.start];rw[bA (by simp;lia),aP,h1];rfl
    . rw [bZ (by simpa using hjl),cP]at es;split at es
      . cases es;exact .inl rfl
      . cases es
 have e:=hg T l _ ll e;unfold lentN at e;obtain⟨out,h1,e⟩:=bnd e;cases out with
 |nx ds2=>
   obtain⟨T2,h2,e⟩:=mpd e;cases e;have h3:ds2[p]?=some (.ob (some p) T'):=by
    cases hz:ds2[p]? with
    |none=>rw[hz]at h2;cases h2
    |some s=>
      rw[hz]at h2;cases s with
      |ob r2 t2=>
        cases r2 with
        |none=>cases h2
        |some q2=>
          simp only[obAt]at h2;split at h2
          . rename_i hq;subst hq;cases h2;rfl
          . cases h2
      |_=>cases h2
   refine hf _ H _ _ _ _ _ _ o h1 λσ' H' O' o'=>?_;obtain⟨fs',k1,k2,k3,k4,k5⟩:=o'.lendEnd h3 (.head _) (.tail _ (.head _));exact q .non H' fs' k1 k2 k3 k4 .non
 |_=>cases e
def SY(C:CalR X.prog X.w X.K X.mg X.base x k n 0 F)(hr:Room j X.A)(ho:PVp X oe f)(ha:PAs X es g)(hj:k<=j:=by decide)(hg:Gl X x:=by rfl)(hdb:(x==("__debug__" : Str))=false:=by decide)(he:aF (oe::es) X.env=(false,bU oe X.env)::aF es X.env:=by rfl)(hpl:(cY pos (aF es X.env)).any (·.1)=false:=by rfl)(hsw:eC (.Call (.Name x pp) (oe::es) [] pos) none pos'.line X.env=pure false:=by rfl) :
  PSv X (.Expr (.Call (.Name x pp) (oe::es) [] pos) pos') (doP n F f g):=by
 obtain⟨ta,pa,hf⟩:=ho;obtain⟨t,pt,hfg⟩:=ha;obtain⟨fa,fd,ps,Fn,hb,hk,hm⟩:=C.ex;refine⟨_,wT (sT Fn (hr.mono hj) hg hm hk hb .nil pass0 (jA pa pt he) hdb he hpl) hsw,λH₀ H O σ ds hd out E o e h=>?_⟩;obtain⟨q,h1,e⟩:=bnd e;obtain⟨l,h2,e⟩:=bnd e;split at e
 . rename_i hc;obtain ⟨z,h3,e⟩:=mpd e;cases e;refine hf H₀ H O σ ds hd q _ o h1 λr T v w fs g1 g2 g3 g4 g5=>?_;refine hfg H₀ H O σ ds hd l _ o h2 λvs H1 s1 r1=>?_;have o1:=o.mono s1;obtain ⟨v',w',f',y1,y2,y3,y4,y5,y6⟩:=o1.modAt g1 g2;rw [g3]at y1;cases y1;cases yT (yK s1 g4) y2;have hw:∃a,w=.ref a:=by
    have hT:=hc.1;generalize q.2.2=u at *;cases y3 with
    |val _=>cases hT
    |lst _ _ _=>exact⟨_,rfl⟩
    |tup _ _ _=>exact⟨_,rfl⟩
    |dct _ _ _ _=>exact⟨_,rfl⟩
    |ins _ _ _ _ _=>exact⟨_,rfl⟩
   obtain⟨a,rfl⟩:=hw;have ow:=λb z=>(y3.owns b z).1
   let B:aD->Prop:=λb=>O b/\b∉f'
   have toO:∀b,orL f' B b->O b:=λb z=>z.elim (ow b) λz=>z.1;refine⟨by simp[cO,r1.length];exact hc.2,a,q.2.2,z.2,z.1,f',B,.non::l,by simp,by simpa using hc.2,y3.less toO (λb z=>.inl z),y4,λb z=>⟨z.2,o1.dom b z.1⟩,λj d hj ej=>?_,h3,λv H' fs' k1 k2 k3 k4 k5=>?_⟩
   . cases j with
     |zero=>exact(hj rfl).elim
     |succ j=>obtain⟨v,e1,e2⟩:=r1.get (by simpa using ej);exact⟨v,by simpa using e1,e2.less toO⟩
   . have e':putP q z.2 ds=ds.set q.1 (.ob r (putO z.2 q.2.1 T)):=by simp [putP,g1]
     rw[e']at h;exact h _ _ _ (y6 (kH (λb z=>(Classical.em (b∈f')).imp id λy=>⟨z,y⟩) ow (λb z=>z.1) k1 k4) (λb z y=>y.elim (λy=>(k2.owns b y).2) λy=>(y.2 z).elim) k2 k3)
 . cases e
section
variable{K:Frag}
theorem RepsO.lists:∀{xs:List V}{ts:List OT}{fs:List aD},RepsO K H O xs ts fs->ts.all isL=true->∀y∈xs,∃a ys,y=V.ref a/\a∈fs/\H a=some (.lst ys)
 |_,_,_,.nil=>λ_ y hy=>nomatch hy
 |_,_,_,.cons h r=>λht y hy=>by
   simp only[nJ,bJ]at ht;rcases aA.mp hy with rfl|hy
   . cases h with
     |lst n e r'=>exact⟨_,_,rfl,by simp,e⟩
     |_=>simp[isL]at ht
   . obtain⟨a,ys,e1,e2,e3⟩:=RepsO.lists r ht.2 y hy;exact⟨a,ys,e1,aL _ e2,e3⟩
end
def PR{l:Expr}(hp:tK (bK X.prog X.w) X.A X.env X.xe)(hc:X.calm=true)(hN:X.N.Nodup)(he:PVo X l f)(hi:X.N[i]?=some x:=by rfl)(hx:Loc X.env.scope x:=by first|exact Or.inl rfl|exact Or.inr rfl)(hfn:X.fn x=true\/X.env.scope.names.lookup x=some .local:=by first|exact .inl rfl|exact .inr rfl)(hv:Vis X.env.scope x:=by first|exact Or.inl rfl|exact Or.inr (Or.inl rfl)|exact Or.inr (Or.inr rfl))(hd:(x==("__debug__" : Str))=false:=by decide)(hcd:(x==("__classdict__" : Str))=false:=by decide)(hline:(p2.endLine==p3.line)=true:=by rfl)(hbase:dB (.Name x p1) "clear" X.env (bU (.Name x p1) X.env)=bU (.Name x p1) X.env:=by rfl)(hsw:eC (.Call (.Attribute (.Name x p1) "clear" p2) [] [] p3) none pos1.line X.env=pure false:=by rfl)(hs:∀z,dZ l X.env z=pure z:=by intro _;rfl) :
  PSv X (.For (.Name x px) l [.Expr (.Call (.Attribute (.Name x p1) "clear" p2) [] [] p3) pos1] [] pos) (QP i f):=by
 obtain⟨t,ht,hf⟩:=he;refine⟨_,PU hp hc (TF ht) (TJ hN hi hx hfn) (JG (wT (pe_bm0 iB PySem.F.slot_list_clear PySem.F.type_list_clear aCt (xC hi hv hd hcd) hbase hline) hsw)) hs,λH₀ H O σ ds hd out E o e h=>?_⟩;obtain⟨T,h1,e⟩:=bnd e;split at e
 . rename_i ts;split at e
   . rename_i hall;cases e;refine hf H₀ H O σ ds hd _ _ o h1 λv H1 fs s1 r nd hn=>?_;cases r with
     |@lst p xs _ fs' n hpl rs=>
       obtain⟨n3,n4⟩:=bC.mp nd;have hlen:=o.len;refine⟨p,rfl,⟨xs,SqL.of hpl⟩,?_⟩
       refine⟨λj m σ' H'=>j<=xs.length/\m=xs.length-j/\(σ'=σ\/∃v,σ'=σ.set i v)/\Same H H'/\H' p=some (.lst xs)/\∀y∈xs,∃a ys,y=V.ref a/\a∈fs'/\H' a=some (.lst ys),
        ⟨xs.length,cR _,rfl,Or.inl rfl,s1,hpl,rs.lists hall.1⟩,?_⟩
       rintro j m σ1 H2 ⟨hj,rfl,o1,sm,hp2,hy⟩;by_cases hlt:j<xs.length
       . right;refine ⟨⟨xs,_,SqL.of hp2,aU hlt⟩,λσ' H'=>j+1<=xs.length/\(σ'=σ\/∃ v,σ'=σ.set i v)/\Same H H'/\H' p=some (.lst xs)/\∀ y∈xs,∃ a ys,y=V.ref a/\a∈fs'/\H' a=some (.lst ys),λσ' H' ⟨q1,q2⟩=>⟨xs.length - (j+1),by lia,q1,rfl,q2⟩,λz H3 yl=>?_⟩;obtain ⟨rfl,yl⟩:=yl;have ez:=yl xs (SqL.of hp2);obtain ⟨a,ys,rfl,ha,hay⟩:=hy z (eM ez);have hl1:i<σ1.length:=by
          have:i<σ.length:=by rw[hlen];exact hall.2
          rcases o1 with rfl|⟨v,rfl⟩
          . exact this
          . simpa using this
         have ap:a≠p:=λz=>n3 (z▸ha);have Ha:H a=none:=hn a (.tail _ ha);have up:∀b u,b≠a->H3 b=some u->upd H3 a (.lst []) b=some u:=λb u nb eb=>by rw[L2.upd_ne nb];exact eb
         have sm':Same H (upd H3 a (.lst [])):=λb u eb=>up b u (λz=>by rw[z,Ha]at eb;cases eb) (sm _ _ eb);refine⟨.ref a,by rw[aM hl1],.inl ⟨rfl,ys,SqL.of hay⟩,a,ys,rfl,rfl,hay,by lia,?_,sm',up p _ (Ne.symm ap) hp2,λy hy'=>?_⟩
         . rcases o1 with rfl|⟨v,rfl⟩
           . exact .inr ⟨_,rfl⟩
           . exact .inr ⟨_,by rw[List.set_set]⟩
         . obtain ⟨b,zs,e1,e2,e3⟩:=hy y hy';by_cases z:b=a
           . exact⟨b,[],e1,e2,by rw[z,zO]⟩
           . exact⟨b,zs,e1,e2,up b _ z e3⟩
       . left;have ej:j=xs.length:=by lia
         refine⟨⟨xs,SqL.of hp2,by lia⟩,h σ1 _ O ?_⟩;rcases o1 with rfl|⟨v,rfl⟩
         . exact(o.mono sm).forget i
         . exact(o.mono sm).setNo i v
   . cases e
 . cases e
def MI(ha:PV X a fa)(he:PVx X e f)(hN:X.N[i]?=some x:=by rfl)(hv:Vis X.env.scope x:=by first|exact Or.inl rfl|exact Or.inr (Or.inl rfl)|exact Or.inr (Or.inr rfl))(hd:(x==("__debug__" : Str))=false:=by decide)(hcd:(x==("__classdict__" : Str))=false:=by decide)(hs1:aF [a,e,.Name x px] X.env=(false,bU a X.env)::aF [e,.Name x px] X.env:=by rfl)(hs2:aF [e,.Name x px] X.env=(false,bU e X.env)::aF [.Name x px] X.env:=by rfl)(hs3:aF [.Name x px] X.env=(false,bU (.Name x px) X.env)::aF [] X.env:=by rfl):PSv X (.Return (some (.Tuple [a,e,.Name x px] x1 pt)) pos) (ret3 i fa f):=by
 obtain⟨ta,qa,ha⟩:=ha;obtain⟨te,qe,he⟩:=he;refine⟨_,DI (aBo (jA qa (jA qe (jA (xC hN hv hd hcd) yP hs3) hs2) hs1)),λH₀ H O σ ds hd out E o e h=>?_⟩;obtain⟨da,h1,e⟩:=bnd e;obtain⟨q,h2,e⟩:=bnd e;split at e
 . rename_i r T h3;cases e;refine ha H₀ H O σ ds hd da _ o h1 λv1 H1 s1 r1=>?_;refine he H₀ H1 O σ ds (HI.rep v1 da::hd) q.1 q.2 _ ((o.mono s1).holdMore r1) h2 λv2 H2 O2 o2 r2=>?_;obtain ⟨O3,o3⟩:=(o2.holdMore (p:=HI.rep v2 q.1) r2).frz h3;obtain ⟨v3,g1,g2⟩:=o3.read (i:=i) (d:=otD T) (by rw [aM (aV.mp h3).1]);refine ⟨v3,g1,by simp [sizeLine],λp hp=>?_⟩;have k1:Rep X.K H2 O3 v1 da:=o3.hold (HI.rep v1 da) (.tail _ (.head _));have k2:Rep X.K H2 O3 v2 q.1:=o3.hold (HI.rep v2 q.1) (.head _);have sp:=qF hp (.tup [v1,v2,v3]);have np:¬ O3 p:=λz=>by obtain ⟨u,eu⟩:=o3.dom p z;rw [hp]at eu;cases eu
   have rt:Rep X.K (upd H2 p (.tup [v1,v2,v3])) O3 (.ref p) (.tup [da,q.1,otD T]):=.tup np (.inl zO) (.cons (k1.mono sp) (.cons (k2.mono sp) (.cons (g2.mono sp) .nil)));exact h _ _ (o3.same.trans sp) (rt.less λ_ z=>z.elim) λB hB=>rt.less λa ha=>(o3.hold _ (.tail _ (.tail _ hB)) a ha).1
 . cases e
noncomputable def oi:Option Int->D
 |none=>.non
 |some i=>.int i
@[simp]theorem JN:oi none=.non:=rfl
@[simp]theorem oi_some i:oi (some i)=.int i:=rfl
noncomputable def andK(r:Option D):D->Option D:=λd=>match d with|.bl true=>r|.bl false=>some (.bl false)|_=>none
noncomputable def orK(r:Option D):D->Option D:=λd=>match d with|.bl true=>some (.bl true)|.bl false=>r|_=>none
@[simp]def andK_bl r b:andK r (.bl b)=if b=true then r else some (.bl false):=by cases b<;>rfl
@[simp]def orK_bl r b:orK r (.bl b)=if b=true then some (.bl true)else r:=by cases b<;>rfl
@[simp]def ite_andD b c:(if b=true then some (D.bl c)else some (D.bl false))=some (.bl (b&&c)):=by cases b<;>rfl
@[simp]def ite_orD b c:(if b=true then some (D.bl true)else some (D.bl c))=some (.bl (b||c)):=by cases b<;>rfl
@[simp]def ite_andB b c:(if b=true then some c else some false)=some (b&&c):=by cases b<;>rfl
@[simp]def ite_orB b c:(if b=true then some true else some c)=some (b||c):=by cases b<;>rfl
@[simp]def ite_andD' p[Decidable p] c:(if p then some (D.bl c)else some (D.bl false))=some (.bl (decide p&&c)):=by by_cases h:p<;>simp[h]
@[simp]def ite_andB' p[Decidable p] c:(if p then some c else some false)=some (decide p&&c):=by by_cases h:p<;>simp[h]
@[simp]def ite_orB' p[Decidable p] c:(if p then some true else some c)=some (decide p||c):=by by_cases h:p<;>simp[h]
@[simp]def szl:sizeLine=16777216:=oJ
section
variable(ds:List Sl)
@[simp]theorem getV_eq(i:Nat):zW i ds=match ds[i]? with|some (.v d)=>some d|_=>none:=rfl
@[simp]theorem getW_eq(i:Nat):zJ i ds=match ds[i]? with|some (.v d)=>some d|some (.own l)=>some (.lst l)|_=>none:=rfl
@[simp]theorem konst_eq(d:D):zB d ds=some d:=rfl
@[simp]theorem bin2_eq(op:D->D->Option D)(fa fb:FE):zH op fa fb ds=(fa ds).bind λx=>(fb ds).bind λy=>op x y:=rfl
@[simp]theorem un1_eq(op:D->Option D)(f:FE):un1 op f ds=(f ds).bind op:=rfl
@[simp]theorem aEi(F:List D->Option D)(g:FA):callB F g ds=(g ds).bind F:=rfl
@[simp]theorem callV_eq(n:Nat)(F:List D->Option Ret)(g:FA):qZ n F g ds=(g ds).bind λl=>if l.length=n then (F l).bind retV else none:=rfl
@[simp]theorem callF_eq(n:Nat)(F:List D->Option Ret)(g:FA):yY n F g ds=(g ds).bind λl=>if l.length=n then (F l).bind retF else none:=rfl
@[simp]theorem retV_val d:retV (.val d)=some d:=rfl
@[simp]theorem retV_fresh l:retV (.fresh l)=some (.lst l):=rfl
@[simp]theorem retF_val d:retF (.val d)=none:=rfl
@[simp]theorem retF_fresh l:retF (.fresh l)=some l:=rfl
@[simp]theorem aEc(f:FE)(g:FA):zA f g ds=(f ds).bind λx=>(g ds).map λr=>x::r:=rfl
@[simp]theorem nilA_eq:zS ds=some []:=rfl
@[simp]theorem sized_eq(f:FA):qD f ds=(f ds).bind λl=>if l.length<=sizeLine then some l else none:=rfl
@[simp]theorem mkL_eq(f:FA):mkL f ds=(f ds).map D.lst:=rfl
@[simp]theorem mkT_eq(f:FA):mkT f ds=(f ds).map D.tup:=rfl
@[simp]theorem testB_eq(f:FE):qC f ds=(f ds).bind isB:=rfl
@[simp]theorem testT_eq(f:FE):testT f ds=(f ds).bind truD:=rfl
@[simp]theorem isB_bl b:isB (.bl b)=some b:=rfl
@[simp]theorem andT_eq(c d:FT):andT c d ds=(c ds).bind λb=>if b=true then d ds else some false:=rfl
@[simp]theorem orT_eq(c d:FT):orT c d ds=(c ds).bind λb=>if b=true then some true else d ds:=rfl
@[simp]theorem notT_eq(c:FT):notT c ds=(c ds).map not:=rfl
@[simp]theorem andV_eq(f g:FE):andV f g ds=(f ds).bind (andK (g ds)):=rfl
@[simp]theorem orV_eq(f g:FE):orV f g ds=(f ds).bind (orK (g ds)):=rfl
@[simp]theorem notV_eq(f:FE):notV f ds=(f ds).bind λd=>match d with|.bl b=>some (.bl (!b))|_=>none:=rfl
@[simp]theorem ifV_eq(c:FT)(f g:FE):ifV c f g ds=(c ds).bind λb=>if b=true then f ds else g ds:=rfl
@[simp]theorem seqG_eq(f g:FS):qQ f g ds=(f ds).bind λo=>match o with|.nx ds'=>g ds'|o=>some o:=rfl
@[simp]theorem ifG_eq(c:FT)(f g:FS):ifG c f g ds=(c ds).bind λb=>if b=true then f ds else g ds:=rfl
@[simp]theorem setG_eq(i:Nat)(f:FE):jM i f ds=(f ds).map λd=>.nx (ds.set i (.v d)):=rfl
@[simp]theorem setOG_eq(i:Nat)(f:FA):setOG i f ds=(f ds).map λl=>.nx (ds.set i (.own l)):=rfl
@[simp]theorem retG_eq(f:FE):retG f ds=(f ds).bind flatR:=rfl
@[simp]theorem retOG_eq(f:FA):retOG f ds=(f ds).bind flatF:=rfl
@[simp]theorem retXG_eq(i:Nat):retXG i ds=match ds[i]? with|some (.own l)=>flatF l|_=>none:=rfl
@[simp]theorem nextG_eq:qW ds=some (.nx ds):=rfl
@[simp]theorem appG_eq(i:Nat)(fe:FE):appG i fe ds=match ds[i]? with
 |some (.own l)=>(fe ds).bind λd=>if l.length<sizeLine then some (.nx (ds.set i (.own (l++[d]))))else none
 |_=>none:=rfl
@[simp]theorem extG_eq(i:Nat)(fe:FA):extG i fe ds=match ds[i]? with
 |some (.own l)=>(fe ds).bind λd=>if l.length+d.length<=sizeLine then some (.nx (ds.set i (.own (l++d))))else none
 |_=>none:=rfl
@[simp]theorem putG_eq(i:Nat)(fk fe:FE):putG i fk fe ds=match ds[i]? with
 |some (.own l)=>(fe ds).bind λd=>(fk ds).bind λk=>match k with
   |.int n=>(ixN l.length n).map λj=>.nx (ds.set i (.own (l.set j d)))
   |_=>none
 |_=>none:=rfl
@[simp]theorem clrG_eq(i:Nat):clrG i ds=match ds[i]? with
 |some (.own l)=>some (.nx (ds.set i (.own [])))
 |_=>none:=rfl
@[simp]theorem asgG_eq(ga:D->List Sl->Option (List Sl))(f:FE):asgG ga f ds=(f ds).bind λd=>(ga d ds).map .nx:=rfl
@[simp]theorem relS_eq(i:Nat):relS i ds=match ds[i]? with|some (.own l)=>ds.set i (.v (.lst l))|_=>ds:=rfl
@[simp]theorem viaA_eq(f:FE)(k:D->Option (List D)):viaA f k ds=(f ds).bind k:=rfl
@[simp]theorem asLT_lst l:asLT (.lst l)=some l:=rfl
@[simp]theorem asLT_tup l:asLT (.tup l)=some l:=rfl
@[simp]theorem catA_eq(fa fb:FE):catA fa fb ds=(fa ds).bind λx=>(fb ds).bind λy=>match x,y with
 |.lst a,.lst b=>if a.length+b.length<=sizeLine then some (a++b)else none
 |_,_=>none:=rfl
@[simp]theorem sliA_eq(f:FE)(lo hi:List Sl->Option (Option Int)):sliA f lo hi ds=(f ds).bind λd=>(lo ds).bind λa=>(hi ds).bind λb=>match d with
 |.lst l=>some (cutD l a b)
 |_=>none:=rfl
@[simp]theorem lisA_eq(f:FE):lisA f ds=(f ds).bind asLT:=rfl
@[simp]theorem noP_eq:noP ds=some none:=rfl
@[simp]theorem soP_eq(f:FE):soP f ds=(f ds).bind λd=>match d with|.int i=>some (some i)|_=>none:=rfl
@[simp]theorem wR(fi:FA)(ga:D->List Sl->Option (List Sl))(body:FS):forG fi ga body ds=(fi ds).bind λitems=>qP ga body items ds:=rfl
@[simp]theorem nameG_eq(i:Nat)(d:D):zL i d ds=some (ds.set i (.v d)):=rfl
@[simp]theorem tupG_eq(n:Nat)(h:List D->List Sl->Option (List Sl))(l:List D):tupG n h (.tup l) ds=if l.length=n then h l ds else none:=rfl
@[simp]theorem tgCons_eq(g:D->List Sl->Option (List Sl))(h:List D->List Sl->Option (List Sl))(d:D)(r:List D):zM g h (d::r) ds=(g d ds).bind λds'=>h r ds':=rfl
@[simp]theorem tgNil_eq:tgNil [] ds=some ds:=rfl
@[simp]theorem isiG_eq(T:String)(f:FE):isiG T f ds=(f ds).bind (isiD T):=rfl
@[simp]theorem chain_eq(op op':D->D->Option D)(fa fb fc:FE):chain op op' fa fb fc ds=(fa ds).bind λx=>(fb ds).bind λy=>(op x y).bind λz=>match z with
 |.bl true=>(fc ds).bind λw=>op' y w
 |.bl false=>some (.bl false)
 |_=>none:=rfl
end
@[simp]theorem addD_int i j:xB (.int i) (.int j)=some (.int (i+j)):=rfl
@[simp]theorem subD_int i j:subD (.int i) (.int j)=some (.int (i-j)):=rfl
@[simp]theorem negD_int i:negD (.int i)=some (.int (-i)):=rfl
@[simp]theorem ltD_int i j:ltD (.int i) (.int j)=some (.bl (decide (i<j))):=rfl
@[simp]theorem leD_int i j:leD (.int i) (.int j)=some (.bl (decide (i<=j))):=rfl
@[simp]theorem gtD_int i j:gtD (.int i) (.int j)=some (.bl (decide (j<i))):=rfl
@[simp]theorem geD_int i j:geD (.int i) (.int j)=some (.bl (decide (j<=i))):=rfl
@[simp]def xE i(h:0<j):jG (.int i) (.int j)=some (.int (i%j)):=if_pos h
def NU(h:0<j)(h2:j<1000000000):divOk j:=⟨h,by
 have h3:j.natAbs<2^30:=by lia
 have h4:j.natAbs≠0:=by lia
 have:=(Nat.log2_lt h4).mpr h3
 lia⟩
@[simp]def AO i(h:0<j)(h2:j<1000000000):qR (.int i) (.int j)=some (.int (i/j)):=if_pos (NU h h2)
def qU(h:eB i j):xF (.int i) (.int j)=some (.int (i*j)):=if_pos h
def TD(h:CPowB i j):powD (.int i) (.int j)=some (.int (i^j.toNat)):=if_pos h
def UY{i j:Int}{n m:Nat}(h:i.natAbs<2^n)(h0:0<=j)(h1:j<=m)(h2:n*m<=134217728):CPowB i j:=by
 refine⟨h0,?_⟩;have hb:=intBits_le_iff.mpr h;have h3:(Builtin.Int.intBits i:Int)*j<=(n:Int)*(m:Int):=FZ (by lia) h1 h0 (by lia);have e2:(2:Int)^27=134217728:=by decide
 lia
@[simp]def pow10(h0:0<=j)(h1:j<=1000):powD (.int 10) (.int j)=some (.int (10^j.toNat)):=TD (UY (n:=4) (m:=1000) (by decide) h0 h1 (by decide))
@[simp]def mxD_int i j:mxD [.int i,.int j]=some (.int (max i j)):=by show some (D.int (if j>i then j else i))=_;congr 2;split<;>lia
@[simp]def mnD_int i j:mnD [.int i,.int j]=some (.int (min i j)):=by show some (D.int (if j<i then j else i))=_;congr 2;split<;>lia
@[simp]theorem lenD_lst l:lenD [.lst l]=some (.int l.length):=rfl
@[simp]theorem lenD_tup l:lenD [.tup l]=some (.int l.length):=rfl
@[simp]theorem isD_non:isD .non .non=some (.bl true):=rfl
@[simp]theorem isD_int i:isD (.int i) .non=some (.bl false):=rfl
@[simp]theorem isD_bl i:isD (.bl i) .non=some (.bl false):=rfl
@[simp]theorem isD_tup i:isD (.tup i) .non=some (.bl false):=rfl
@[simp]theorem isD_lst i:isD (.lst i) .non=some (.bl false):=rfl
@[simp]def isD_oi o:isD (oi o) .non=some (.bl o.isNone):=by cases o<;>rfl
@[simp]theorem notD_non:notD .non .non=some (.bl false):=rfl
@[simp]theorem notD_int i:notD (.int i) .non=some (.bl true):=rfl
@[simp]theorem notD_bl i:notD (.bl i) .non=some (.bl true):=rfl
@[simp]theorem notD_tup i:notD (.tup i) .non=some (.bl true):=rfl
@[simp]theorem notD_lst i:notD (.lst i) .non=some (.bl true):=rfl
@[simp]def notD_oi o:notD (oi o) .non=some (.bl o.isSome):=by cases o<;>rfl
@[simp]theorem truD_bl b:truD (.bl b)=some b:=rfl
@[simp]theorem truD_non:truD .non=some false:=rfl
@[simp]theorem truD_lst l:truD (.lst l)=some (!l.isEmpty):=rfl
@[simp]theorem truD_tup l:truD (.tup l)=some (!l.isEmpty):=rfl
def JY{n:Nat}{i:Int}(h:0<=i)(h2:i<n):ixN n i=some i.toNat:=by unfold ixN;rw[if_pos h,if_pos h2]
def yJ l(h:0<=i)(h2:i<l.length):ixD (.lst l) (.int i)=l[i.toNat]?:=by show atI l i=_;unfold atI;rw[JY h h2];rfl
def JX l(h:0<=i)(h2:i<l.length):ixD (.tup l) (.int i)=l[i.toNat]?:=by show atI l i=_;unfold atI;rw[JY h h2];rfl
@[simp]def ixT0 a l:ixD (.tup (a::l)) (.int 0)=some a:=by rw[JX _ (by decide) (by rw[aG];lia)];rfl
@[simp]def ixT1 a b l:ixD (.tup (a::b::l)) (.int 1)=some b:=by rw[JX _ (by decide) (by rw[aG,aG];lia)];rfl
@[simp]def ixT2 a b c l:ixD (.tup (a::b::c::l)) (.int 2)=some c:=by rw[JX _ (by decide) (by rw[aG,aG,aG];lia)];rfl
@[simp]def ixL0 a l:ixD (.lst (a::l)) (.int 0)=some a:=by rw[yJ _ (by decide) (by rw[aG];lia)];rfl
@[simp]def ixL1 a b l:ixD (.lst (a::b::l)) (.int 1)=some b:=by rw[yJ _ (by decide) (by rw[aG,aG];lia)];rfl
def aDe l a:ixD (.lst (l++[a])) (.int (-1))=some a:=by
 show atI (l++[a]) (-1)=_;unfold atI ixN;rw[if_neg (by decide),if_pos (by rw[bS,pC];lia),bS,pC];have e:(-1+((l.length+1:Nat):Int)).toNat=l.length:=by lia
 rw[e];simp
@[simp]def flat_non:flat .non=true:=by simp[flat]
@[simp]def flat_bl b:flat (.bl b)=true:=by simp[flat]
@[simp]def flat_int i:flat (.int i)=true:=by simp[flat]
@[simp]def flat_str i:flat (.str i)=true:=by simp[flat]
@[simp]def flat_tup l:flat (.tup l)=flats l:=by simp[flat]
@[simp]def flats_nil:flats []=true:=by simp[flats]
@[simp]def flats_cons d l:flats (d::l)=(flat d&&flats l):=by simp[flats]
@[simp]def flat_oi o:flat (oi o)=true:=by cases o<;>simp
def wI(h:flat d=true):flatR d=some (.rt (.val d)):=if_pos h
@[simp]def flatR_non:flatR .non=some (.rt (.val .non)):=wI (by simp)
@[simp]def flatR_bl b:flatR (.bl b)=some (.rt (.val (.bl b))):=wI (by simp)
@[simp]def flatR_int i:flatR (.int i)=some (.rt (.val (.int i))):=wI (by simp)
@[simp]def flatR_str i:flatR (.str i)=some (.rt (.val (.str i))):=wI (by simp)
@[simp]def flatR_oi o:flatR (oi o)=some (.rt (.val (oi o))):=wI (by simp)
@[simp]def flatR_tup l(h:flats l=true):flatR (.tup l)=some (.rt (.val (.tup l))):=wI (by simpa using h)
@[simp]def flatF_of l(h:flats l=true):flatF l=some (.rt (.fresh l)):=if_pos h
@[simp]def shal_int n i:shal n (.int i)=true:=by simp[shal]
@[simp]def shal_non n:shal n .non=true:=by simp[shal]
@[simp]def shal_oi n o:shal n (oi o)=true:=by cases o<;>simp
@[simp]def shal_tup n l:shal n (.tup l)=shals n l:=by simp[shal]
@[simp]def shal_lst n l:shal n (.lst l)=shals n l:=by simp[shal]
@[simp]def shals_nil n:shals n []=true:=by cases n<;>simp[shals]
@[simp]def PH n d l:shals (n+1) (d::l)=(shal n d&&shals (n+1) l):=by simp[shals]
def wW(h:∀d∈l,shal n d=true):shals (n+1) l=true:=by
 induction l with
 |nil=>simp
 |cons d r ih=>rw[PH,h d aE,ih λx hx=>h x (aH _ hx)];rfl
def xV(h:shal 40 x=true)(h2:shal 40 y=true):eqD x y=some (.bl (eqvD x y)):=if_pos ⟨h,h2⟩
def JO(h:shal 40 x=true)(h2:shal 40 y=true):neD x y=some (.bl (!eqvD x y)):=if_pos ⟨h,h2⟩
@[simp]def eqvD_int i j:eqvD (.int i) (.int j)=decide (i=j):=by show(i==j)=_;rw[iG];simp
@[simp]theorem eqvD_non:eqvD .non .non=true:=rfl
@[simp]theorem eqvD_non_int j:eqvD .non (.int j)=false:=rfl
@[simp]theorem eqvD_int_non j:eqvD (.int j) .non=false:=rfl
@[simp]def eqvD_oi o p:eqvD (oi o) (oi p)=decide (o=p):=by cases o<;>cases p<;>simp
@[simp]def eqvD_tup a b:eqvD (.tup a) (.tup b)=eqvs a b:=by simp[eqvD,eqvs,toPy,PyData.eqv]
@[simp]def yB a b:eqvD (.lst a) (.lst b)=eqvs a b:=by simp[eqvD,eqvs,toPy,PyData.eqv]
@[simp]def eqvs_nil:eqvs [] []=true:=by simp[eqvs,toPys,PyData.eqvAll]
@[simp]def wV x y a b:eqvs (x::a) (y::b)=(eqvD x y&&eqvs a b):=by simp[eqvs,eqvD,toPys,PyData.eqvAll]
@[simp]def eqvs_nil_cons y b:eqvs [] (y::b)=false:=by simp[eqvs,toPys,PyData.eqvAll]
@[simp]def eqvs_cons_nil y b:eqvs (y::b) []=false:=by simp[eqvs,toPys,PyData.eqvAll]
@[simp]def eqD_int i j:eqD (.int i) (.int j)=some (.bl (decide (i=j))):=by rw[xV (by simp) (by simp)];simp
@[simp]def eqD_oi i j:eqD (oi i) (oi j)=some (.bl (decide (i=j))):=by rw[xV (by simp) (by simp)];simp
@[simp]def neD_oi i j:neD (oi i) (oi j)=some (.bl (!decide (i=j))):=by rw[JO (by simp) (by simp)];simp
def QY l:eqvs l []=l.isEmpty:=by cases l<;>simp
def JP(h:shals 40 l=true):neD (.lst l) (.lst [])=some (.bl (!l.isEmpty)):=by rw[JO (by simpa using h) (by simp),yB,QY]
def vJ n(l:List Int):shals (n+1) (l.map D.int)=true:=wW λd hd=>by obtain⟨i,_,rfl⟩:=bG.mp hd;simp
def kits:kitF "int" "int" = some true/\kitF "NoneType" "int" = some false/\kitF "bool" "int" = some true/\kitF "tuple" "int" = some false/\kitF "list" "int" = some false/\kitF "str" "int" = some false ∧
  kitF "bool" "bool" = some true/\kitF "int" "bool" = some false/\kitF "NoneType" "bool" = some false/\kitF "tuple" "tuple" = some true/\kitF "list" "tuple" = some false/\kitF "NoneType" "tuple" = some false ∧
  kitF "list" "list" = some true/\kitF "tuple" "list" = some false/\kitF "NoneType" "list" = some false:=by
 refine⟨?_,?_,?_,?_,?_,?_,?_,?_,?_,?_,?_,?_,?_,?_,?_⟩<;>decide +kernel
@[simp]def isi_lst_lst l:isiD "list" (.lst l)=some (.bl true):=by simp[isiD,tyD,kits.2.2.2.2.2.2.2.2.2.2.2.2.1]
@[simp]def bind_ite{α β:Type}[Decidable c](a b:Option α)(f:α->Option β):(if c then a else b).bind f=if c then a.bind f else b.bind f:=by split<;>rfl
@[simp]def map_ite{α β:Type}[Decidable c](a b:Option α)(f:α->β):(if c then a else b).map f=if c then a.map f else b.map f:=by split<;>rfl
def yM(h:fi ds=some items)(hl:items.length<=sizeLine)(hc:compL ga tt fe (qY mp ds) items=some l):compG fi mp ga tt fe ds=some l:=by unfold compG;rw[h];show(if items.length<=sizeLine then compL ga tt fe (qY mp ds) items else none)=_;rw[if_pos hl];exact hc
theorem OC:∀bs,blsD (bs.map D.bl)=some bs
 |[]=>rfl
 |b::r=>by simp[blsD,OC r]
@[simp]def OF(bs:List Bool):allD [.lst (bs.map D.bl)]=some (.bl (bs.all id)):=by simp[allD,OC]
@[simp]def ixL2 a b c l:ixD (.lst (a::b::c::l)) (.int 2)=some c:=by rw[yJ _ (by decide) (by rw[aG,aG,aG];lia)];rfl
@[simp]def ixL3 a b c d l:ixD (.lst (a::b::c::d::l)) (.int 3)=some d:=by rw[yJ _ (by decide) (by rw[aG,aG,aG,aG];lia)];rfl
@[simp]theorem rng3_eq(fa fb fc:FE)(ds:List Sl):rng3 fa fb fc ds=(fa ds).bind λx=>(fb ds).bind λy=>(fc ds).bind λz=>match x,y,z with
 |.int i,.int j,.int c=>if okR3 i j c then some (SF i c (aAa i j c))else none
 |_,_,_=>none:=rfl
@[simp]theorem rng2_eq(fa fb:FE)(ds:List Sl):rng2 fa fb ds=(fa ds).bind λx=>(fb ds).bind λy=>match x,y with
 |.int i,.int j=>if okR i/\okR j then some (fT i (j-i).toNat)else none
 |_,_=>none:=rfl
@[simp]theorem rng1_eq f ds:rng1 f ds=(f ds).bind λd=>match d with|.int j=>if okR j then some (fT 0 j.toNat)else none|_=>none:=rfl
def xZ(h : -1000000000<=j)(h2:j<=1000000000):okR j:=⟨Int.le_trans (by decide) h,Int.lt_of_le_of_lt h2 (by decide)⟩
@[simp]theorem absD_int i:absD [.int i]=some (.int (if i<0 then -i else i)):=rfl
@[simp]theorem int1D_int i:int1D [.int i]=some (.int i):=rfl
@[simp]theorem int1D_bl b:int1D [.bl b]=some (.int (if b then 1 else 0)):=rfl
@[simp]theorem augA_eq(i:Nat)(f:FE)(ds:List Sl):augA i f ds=(zW i ds).bind λx=>(f ds).bind λy=>match x,y with
 |.int a,.int b=>some (.nx (ds.set i (.v (.int (a+b)))))
 |_,_=>none:=rfl
@[simp]theorem parG_eq(i j:Nat)(f:FA)(ds:List Sl):parG i j f ds=(f ds).bind λl=>match l with
 |[a,b]=>some (.nx ((ds.set i (.v a)).set j (.v b)))
 |_=>none:=rfl
@[simp]theorem revA_eq(f:FE)(ds:List Sl):revA f ds=(f ds).bind λd=>match d with
 |.lst l=>some l.reverse
 |_=>none:=rfl
def zU(h:f ds=some (.nx ds')):qQ f g ds=g ds':=by simp[h]
def seq_rt(h:f ds=some (.rt r)):qQ f g ds=some (.rt r):=by simp[h]
def yE(h:g (args n ds)=some (.rt r)):runG g n ds=some r:=by unfold runG;rw[h]
end FL
section
open FL
noncomputable def lI:FS:=(retG (andV (zH notD (zJ 0) (zB .non)) (andV (zH notD (zJ 1) (zB .non)) (zH leD (zJ 0) (zJ 1)))))
noncomputable def gB:List D->Option Ret:=runG lI 2
noncomputable def BY:FS:=(retG (andV (orV (zH isD (zH ixD (zJ 0) (zB (.int 0))) (zB .non)) (zH leD (zH ixD (zJ 0) (zB (.int 0))) (zJ 1))) (orV (zH isD (zH ixD (zJ 0) (zB (.int 1))) (zB .non)) (zH ltD (zJ 1) (zH ixD (zJ 0) (zB (.int 1)))))))
noncomputable def nH:List D->Option Ret:=runG BY 2
noncomputable def uQ:FS:=(qQ (ifG (orT (qC (zH isD (zH ixD (zJ 0) (zB (.int 0))) (zB .non))) (qC (zH isD (zH ixD (zJ 0) (zB (.int 1))) (zB .non)))) (retG (zB .non)) qW)
 (retG (zH subD (zH ixD (zJ 0) (zB (.int 1))) (zH ixD (zJ 0) (zB (.int 0))))))
noncomputable def uR:List D->Option Ret:=runG uQ 1
noncomputable def mI:FS:=(qQ (ifG (qC (zH isD (zJ 0) (zB .non))) (retG (zJ 1)) qW)
 (qQ (ifG (qC (zH isD (zJ 1) (zB .non))) (retG (zJ 0)) qW)
 (retG (callB mxD (zA (zJ 0) (zA (zJ 1) zS))))))
noncomputable def gN:List D->Option Ret:=runG mI 2
noncomputable def gV:FS:=(qQ (ifG (qC (zH isD (zJ 0) (zB .non))) (retG (zJ 1)) qW)
 (qQ (ifG (qC (zH isD (zJ 1) (zB .non))) (retG (zJ 0)) qW)
 (retG (callB mnD (zA (zJ 0) (zA (zJ 1) zS))))))
noncomputable def dG:List D->Option Ret:=runG gV 2
noncomputable def tH:FS:=(qQ (jM 2 (qZ 2 gN (zA (zH ixD (zJ 0) (zB (.int 0))) (zA (zH ixD (zJ 1) (zB (.int 0))) zS))))
 (qQ (jM 3 (qZ 2 dG (zA (zH ixD (zJ 0) (zB (.int 1))) (zA (zH ixD (zJ 1) (zB (.int 1))) zS))))
 (qQ (ifG (testT (qZ 2 gB (zA (zJ 3) (zA (zJ 2) zS)))) (retG (zB .non)) qW)
 (retG (mkT (qD (zA (zW 2) (zA (zW 3) zS))))))))
noncomputable def mB:List D->Option Ret:=runG tH 4
noncomputable def nU:FS:=(qQ (ifG (notT (testT (isiG "str" (zJ 0)))) (retG (zB (.bl false))) qW)
 (qQ (ifG (orT (qC (zH ltD (callB lenD (zA (zJ 0) zS)) (zB (.int 1)))) (qC (zH gtD (callB lenD (zA (zJ 0) zS)) (zB (.int 8))))) (retG (zB (.bl false))) qW)
 (retG (callB allD (zA (mkL (compG (viaA (zW 0) asS) [none] (zL 0) (λ_=>some true) (zH inS (zJ 0) (zB (.str "abcdefghijklmnopqrstuvwxyz"))))) zS)))))
noncomputable def fH:List D->Option Ret:=runG nU 1
noncomputable def mJ:FS:=(qQ (ifG (qC (zH isD (zJ 4) (zB .non))) (λds=>some (.ct ds)) qW)
 (ifG (andT (testT (zJ 1)) (andT (qC (zH eqD (zH ixD (zH ixD (zJ 1) (un1 negD (zB (.int 1)))) (zB (.int 1))) (zJ 2))) (qC (zH eqD (zH ixD (zH ixD (zJ 1) (un1 negD (zB (.int 1)))) (zB (.int 2))) (zJ 4))))) (putG 1 (un1 negD (zB (.int 1))) (mkT (qD (zA (zH ixD (zH ixD (zJ 1) (un1 negD (zB (.int 1)))) (zB (.int 0))) (zA (zW 3) (zA (zW 4) zS)))))) (appG 1 (mkT (qD (zA (zW 2) (zA (zW 3) (zA (zW 4) zS))))))))
noncomputable def tI:FS:=(qQ (setOG 1 (qD zS))
 (qQ (forG (viaA (zW 0) asLT) (tupG 3 (zM (zL 2) (zM (zL 3) (zM (zL 4) tgNil)))) mJ)
 (retXG 1)))
noncomputable def fD:List D->Option Ret:=runG tI 5
noncomputable def gE:FS:=(qQ (ifG (qC (zH neD (zJ 3) (zJ 2))) (appG 1 (mkT (qD (zA (zW 2) (zA (zW 3) (zA (zB .non) zS)))))) qW)
 (qQ (appG 1 (mkT (qD (zA (zW 3) (zA (zW 4) (zA (zW 5) zS))))))
 (jM 2 (zW 4))))
noncomputable def nT:FS:=(qQ (setOG 1 (qD zS))
 (qQ (jM 2 (zB .non))
 (qQ (forG (viaA (zW 0) asLT) (tupG 3 (zM (zL 3) (zM (zL 4) (zM (zL 5) tgNil)))) gE)
 (qQ (ifG (orT (qC (zH notD (zJ 2) (zB .non))) (notT (testT (zJ 0)))) (appG 1 (mkT (qD (zA (zW 2) (zA (zB .non) (zA (zB .non) zS)))))) qW)
 (retXG 1)))))
noncomputable def eS:List D->Option Ret:=runG nT 6
noncomputable def fP:FS:=(ifG (testT (qZ 2 nH (zA (mkT (qD (zA (zW 2) (zA (zW 3) zS)))) (zA (zJ 1) zS)))) (retG (zJ 4)) qW)
noncomputable def nA:FS:=(qQ (forG (viaA (zW 0) asLT) (tupG 3 (zM (zL 2) (zM (zL 3) (zM (zL 4) tgNil)))) fP)
 (retG (zB .non)))
noncomputable def fM:List D->Option Ret:=runG nA 5
noncomputable def fQ:FS:=(qQ (jM 6 (qZ 2 mB (zA (mkT (qD (zA (zW 3) (zA (zW 4) zS)))) (zA (zJ 1) zS))))
 (ifG (qC (zH notD (zJ 6) (zB .non))) (appG 2 (mkT (qD (zA (zH ixD (zJ 6) (zB (.int 0))) (zA (zH ixD (zJ 6) (zB (.int 1))) (zA (zW 5) zS)))))) qW))
noncomputable def nC:FS:=(qQ (setOG 2 (qD zS))
 (qQ (forG (viaA (zW 0) asLT) (tupG 3 (zM (zL 3) (zM (zL 4) (zM (zL 5) tgNil)))) fQ)
 (retXG 2)))
noncomputable def eW:List D->Option Ret:=runG nC 7
noncomputable def mH:FS:=(qQ (setOG 3 (qD zS))
 (qQ (ifG (qC (zH notD (zH ixD (zJ 1) (zB (.int 0))) (zB .non))) (extG 3 (yY 2 eW (zA (zJ 0) (zA (mkT (qD (zA (zB .non) (zA (zH ixD (zJ 1) (zB (.int 0))) zS)))) zS)))) qW)
 (qQ (appG 3 (mkT (qD (zA (zH ixD (zJ 1) (zB (.int 0))) (zA (zH ixD (zJ 1) (zB (.int 1))) (zA (zW 2) zS))))))
 (qQ (ifG (qC (zH notD (zH ixD (zJ 1) (zB (.int 1))) (zB .non))) (extG 3 (yY 2 eW (zA (zJ 0) (zA (mkT (qD (zA (zH ixD (zJ 1) (zB (.int 1))) (zA (zB .non) zS)))) zS)))) qW)
 (retXG 3)))))
noncomputable def eJ:List D->Option Ret:=runG mH 4
noncomputable def lX:FS:=(setOG 1 (yY 1 fD (zA (qZ 3 eJ (zA (zJ 1) (zA (zJ 2) (zA (zJ 3) zS)))) zS)))
noncomputable def oY:FS:=(qQ (setOG 1 (qD zS))
 (qQ (forG (viaA (zW 0) asLT) (tupG 2 (zM (zL 2) (zM (zL 3) tgNil))) lX)
 (retXG 1)))
noncomputable def kW:List D->Option Ret:=runG oY 4
noncomputable def oC:FS:=(qQ (ifG (qC (zH notD (zH ixD (zJ 0) (zB (.int 0))) (zB .non))) (retG (zH ixD (zJ 0) (zB (.int 0)))) qW)
 (qQ (ifG (qC (zH notD (zH ixD (zJ 0) (zB (.int 1))) (zB .non))) (retG (zH subD (zH ixD (zJ 0) (zB (.int 1))) (zB (.int 1)))) qW)
 (retG (zB (.int 0)))))
noncomputable def oE:List D->Option Ret:=runG oC 1
noncomputable def lW:FS:=(qQ (jM 8 (zH ixD (zJ 2) (zJ 6)))
 (qQ (jM 9 (zH ixD (zJ 3) (zJ 7)))
 (qQ (jM 10 (qZ 2 dG (zA (zH ixD (zJ 8) (zB (.int 1))) (zA (zH ixD (zJ 9) (zB (.int 1))) zS))))
 (qQ (appG 4 (mkT (qD (zA (zW 5) (zA (zW 10) (zA (zH ixD (zJ 8) (zB (.int 2))) (zA (zH ixD (zJ 9) (zB (.int 2))) zS)))))))
 (qQ (ifG (qC (zH eqD (zH ixD (zJ 8) (zB (.int 1))) (zJ 10))) (augA 6 (zB (.int 1))) qW)
 (qQ (ifG (qC (zH eqD (zH ixD (zJ 9) (zB (.int 1))) (zJ 10))) (augA 7 (zB (.int 1))) qW)
 (jM 5 (zW 10))))))))
noncomputable def oW:FS:=(qQ (jM 2 (qZ 1 eS (zA (zJ 0) zS)))
 (qQ (jM 3 (qZ 1 eS (zA (zJ 1) zS)))
 (qQ (setOG 4 (qD zS))
 (qQ (jM 5 (zB .non))
 (qQ (jM 6 (zB (.int 0)))
 (qQ (jM 7 (zB (.int 0)))
 (qQ (nD (qC (zH ltD (zJ 6) (callB lenD (zA (zJ 2) zS)))) lW 100000)
 (retXG 4))))))))
noncomputable def mQ:List D->Option Ret:=runG oW 11
noncomputable def BX:FS:=(retOG (yY 1 fD (zA (qZ 3 eJ (zA (zJ 0) (zA (zJ 1) (zA (zJ 2) zS)))) zS)))
noncomputable def iN:List D->Option Ret:=runG BX 3
noncomputable def oX(Φ:Fun2):FS:=(qQ (jM 3 (qZ 2 mQ (zA (zJ 0) (zA (zJ 1) zS))))
 (retOG (yY 1 fD (zA (mkL (compG (viaA (zW 3) asLT) [none,none,none,none,some 2] (tupG 4 (zM (zL 0) (zM (zL 1) (zM (zL 2) (zM (zL 3) tgNil))))) (λ_=>some true) (mkT (qD (zA (zW 0) (zA (zW 1) (zA (callW Φ 4 (zA (zJ 2) (zA (zJ 3) zS))) zS))))))) zS))))
noncomputable def gO(Φ:Fun2):List D->Option Ret:=runG (oX Φ) 4
noncomputable def oU(Φ:Fun2):FS:=(retOG (yY 1 fD (zA (mkL (compG (viaA (qZ 1 eS (zA (zJ 0) zS)) asLT) [none,none,none,some 1] (tupG 3 (zM (zL 0) (zM (zL 1) (zM (zL 2) tgNil)))) (λ_=>some true) (mkT (qD (zA (zW 0) (zA (zW 1) (zA (callW Φ 3 (zA (zJ 2) zS)) zS))))))) zS)))
noncomputable def eI(Φ:Fun2):List D->Option Ret:=runG (oU Φ) 2
noncomputable def oZ:FS:=(retG (ifV (qC (zH isD (zJ 0) (zB .non))) (zW 1) (zW 0)))
noncomputable def kX:List D->Option Ret:=runG oZ 2
noncomputable def iZ:FS:=(qQ (ifG (orT (qC (zH ltD (callB lenD (zA (zJ 0) zS)) (zB (.int 1)))) (qC (zH gtD (callB lenD (zA (zJ 0) zS)) (zB (.int 60))))) (λ_=>none) qW)
 (qQ (ifG (notT (testT (callB allD (zA (mkL (compG (viaA (zW 0) asLT) [none] (zL 0) (λ_=>some true) (qZ 1 fH (zA (zJ 0) zS)))) zS)))) (λ_=>none) qW)
 (ifG (qC (zH ltD (lsetE (zJ 0)) (callB lenD (zA (zJ 0) zS)))) (λ_=>none) qW)))
noncomputable def fR:List D->Option Ret:=runG iZ 1
noncomputable def dY:FS:=(dputN (atP [(12,0)] (varP 0)) (zW 2) (sO nilO))
noncomputable def fJ:FS:=(qQ (dropG (qZ 1 fR (zA (zJ 1) zS)))
 (qQ (setNw 24 12 (varP 0) dO0)
 (forG (viaA (mkL (srtTA (zJ 1))) asLT) (zL 2) dY)))
noncomputable def cG:OT->List D->Option OT:=lentF fJ 3
noncomputable def kN:FS:=(qQ (ifG (orT (notT (testT (qZ 1 fH (zA (zJ 1) zS)))) (dnotG (zJ 1) (fldG [(12,0)] (zW 0)))) (λ_=>none) qW)
 (retOG (lisA (dgetG (fldG [(12,0)] (zW 0)) (zW 1)))))
noncomputable def gT:List D->Option Ret:=runG kN 2
noncomputable def bN:Nat->List D->Option Ret
 |12=>gT
 |_=>λ_=>none
noncomputable def hU:FS:=(dputG (atP [(12,0)] (varP 0)) (zW 1) (ofO (relGO 0 (lO (yY 3 iN (zA (methV 1 [12] bN (zW 0) (zA (zJ 1) zS)) (zA (zJ 2) (zA (zB (.int 1)) zS))))))))
noncomputable def fE:OT->List D->Option OT:=lentF hU 3
noncomputable def gU:FS:=(dputG (atP [(12,0)] (varP 0)) (zW 1) (ofO (relGO 0 (lO (yY 3 iN (zA (methV 1 [12] bN (zW 0) (zA (zJ 1) zS)) (zA (zJ 2) (zA (zB .non) zS))))))))
noncomputable def eX:OT->List D->Option OT:=lentF gU 3
noncomputable def gP:FS:=(retOG (compG (keysA (fldG [(12,0)] (zW 0)))  [none,some 1,some 0] (zL 0) (qC (zH notD (qZ 2 fM (zA (dgetG (fldG [(12,0)] (zW 2)) (zW 0)) (zA (zJ 1) zS))) (zB .non))) (zW 0)))
noncomputable def gQ:List D->Option Ret:=runG gP 2
noncomputable def cF:Nat->List D->Option Ret
 |12=>gQ
 |_=>λ_=>none
noncomputable def oV:FS:=(qQ (ifG (orT (qC (zH isD (zJ 0) (zB .non))) (qC (zH isD (zJ 1) (zB .non)))) (retG (qZ 2 kX (zA (zJ 0) (zA (zJ 1) zS)))) qW)
 (retG (zH xB (zJ 0) (zJ 1))))
noncomputable def iE:List D->Option Ret:=runG oV 2
noncomputable def kS(Φ:Fun2):FS:=(setOG 1 (yY 3 (gO Φ) (zA (zJ 1) (zA (zJ 2) (zA (zB (.clo 1000 3 [])) zS)))))
noncomputable def nS(Φ:Fun2):FS:=(qQ (setOG 1 (qD zS))
 (qQ (forG (viaA (zW 0) asLT) (zL 2) (kS Φ))
 (retXG 1)))
noncomputable def fZ(Φ:Fun2):List D->Option Ret:=runG (nS Φ) 3
noncomputable def gI(Φ:Fun2):FS:=(qQ (appG 1 (mkL (compG (viaA (zW 3) asLT) [none,none,none,some 2] (tupG 3 (zM (zL 0) (zM (zL 1) (zM (zL 2) tgNil)))) (λ_=>some true) (mkT (qD (zA (zW 0) (zA (zW 1) (zA (zW 3) zS))))))))
 (jM 2 (zH xF (zJ 2) (zB (.int 2)))))
noncomputable def kM(Φ:Fun2):FS:=(qQ (setOG 1 (qD zS))
 (qQ (jM 2 (zB (.int 1)))
 (qQ (forG (valsA (fldG [(12,0)] (zW 0))) (zL 3) (gI Φ))
 (retOG (yY 1 (fZ Φ) (zA (zJ 1) zS))))))
noncomputable def nI(Φ:Fun2):List D->Option Ret:=runG (kM Φ) 4
noncomputable def bR(Φ:Fun2):Nat->List D->Option Ret
 |12=>(nI Φ)
 |_=>λ_=>none
noncomputable def iO(Φ:Fun2):FS:=(qQ (ifG (orT (qC (zH ltD (zJ 1) (zB (.int 1)))) (qC (zH gtD (zJ 1) (callB lenD (zA (mkL (lvalA (fldG [(12,0)] (zW 0)))) zS))))) (λ_=>none) qW)
 (qQ (jM 2 (qZ 1 (fZ Φ) (zA (mkL (lvalA (fldG [(12,0)] (zW 0)))) zS)))
 (qQ (jM 3 (qZ 2 (ncF (eI Φ)) (lamA 11 0 [1] (zA (zJ 2) zS))))
 (retOG (compG (viaA (zW 3) asLT) [none,none,none] (tupG 3 (zM (zL 0) (zM (zL 1) (zM (zL 2) tgNil)))) (λ_=>some true) (mkT (qD (zA (zW 0) (zA (zW 1) zS)))))))))
noncomputable def mR(Φ:Fun2):List D->Option Ret:=runG (iO Φ) 4
noncomputable def bX(Φ:Fun2):Nat->List D->Option Ret
 |12=>(mR Φ)
 |_=>λ_=>none
noncomputable def nV:FS:=(qQ (ifG (qC (zH ltD (zJ 1) (callB lenD (zA (zJ 0) zS)))) (retG (zH ixD (zJ 0) (zJ 1))) qW)
 (retG (zB (.int 0))))
noncomputable def eD:List D->Option Ret:=runG nV 2
noncomputable def rL:FS:=(qQ (jM 1 (zH powD (zH powD (zB (.int 10)) (zB (.int 60))) (zB (.int 8))))
 (retG (zH subD (zH jG (zJ 0) (zH xB (zH xF (zB (.int 2)) (zJ 1)) (zB (.int 1)))) (zJ 1))))
noncomputable def kO:List D->Option Ret:=runG rL 2
end
namespace FL
abbrev Spn:=Option Int×Option Int
noncomputable def spD(s:Spn):D:=.tup [oi s.1,oi s.2]
noncomputable def oS:Option Spn->D
 |none=>.non
 |some s=>spD s
noncomputable def hasS(s:Spn)(p:Int):Bool:=(match s.1 with|none=>true|some a=>decide (a<=p))&&(match s.2 with|none=>true|some b=>decide (p<b))
def okS(s:Spn):Prop:=∀a b,s.1=some a->s.2=some b->a<b
@[simp]def spD_0 s:ixD (spD s) (.int 0)=some (oi s.1):=ixT0 _ _
@[simp]def spD_1 s:ixD (spD s) (.int 1)=some (oi s.2):=ixT1 _ _ _
@[simp]def spD_flat s:flat (spD s)=true:=by simp[spD]
@[simp]theorem spD_isD s:isD (spD s) .non=some (.bl false):=rfl
@[simp]theorem spD_notD s:notD (spD s) .non=some (.bl true):=rfl
@[simp]theorem spD_asLT s:asLT (spD s)=some [oi s.1,oi s.2]:=rfl
@[simp]def spD_eqv s t:eqvD (spD s) (spD t)=decide (s=t):=by rw[iG];simp[spD,Prod.ext_iff]
@[simp]def oS_isD o:isD (oS o) .non=some (.bl o.isNone):=by cases o<;>rfl
@[simp]def oS_notD o:notD (oS o) .non=some (.bl o.isSome):=by cases o<;>rfl
def has_eq s p:nH [spD s,.int p]=some (.val (.bl (hasS s p))):=by obtain⟨a,b⟩:=s;unfold nH runG BY;cases a<;>cases b<;>simp[args,hasS]
def length_eq s:uR [spD s]=some (.val (oi (match s.1,s.2 with|some a,some b=>some (b-a)|_,_=>none))):=by obtain⟨a,b⟩:=s;unfold uR runG uQ;cases a<;>cases b<;>simp[args]
noncomputable def lateL:Option Int->Option Int->Option Int
 |none,b=>b
 |a,none=>a
 |some a,some b=>some (max a b)
noncomputable def qX:Option Int->Option Int->Option Int
 |none,b=>b
 |a,none=>a
 |some a,some b=>some (min a b)
noncomputable def pJ:Option Int->Option Int->Bool
 |some b,some l=>decide (b<=l)
 |_,_=>false
def aDb a b:gN [oi a,oi b]=some (.val (oi (lateL a b))):=by unfold gN runG mI;cases a<;>cases b<;>simp[args,lateL]
def NR a b:dG [oi a,oi b]=some (.val (oi (qX a b))):=by unfold dG runG gV;cases a<;>cases b<;>simp[args,qX]
def YM a b:gB [oi a,oi b]=some (.val (.bl (pJ a b))):=by unfold gB runG lI;cases a<;>cases b<;>simp[args,pJ]
noncomputable def meetS(s t:Spn):Option Spn:=if pJ (qX s.2 t.2) (lateL s.1 t.1)=true then none else some (lateL s.1 t.1,qX s.2 t.2)
def meet_eq s t:mB [spD s,spD t]=some (.val (oS (meetS s t))):=by unfold mB runG tH;cases h:pJ (qX s.2 t.2) (lateL s.1 t.1)<;>simp[args,aDb,NR,YM,h,meetS,oS,spD]
def HasS(s:Spn)(p:Int):Prop:=(∀a,s.1=some a->a<=p)/\(∀b,s.2=some b->p<b)
def wF s p:hasS s p=true↔HasS s p:=by obtain⟨a,b⟩:=s;cases a<;>cases b<;>simp[hasS,HasS]
def NC:(∀x,lateL a c=some x->x<=p)↔(∀x,a=some x->x<=p)/\(∀x,c=some x->x<=p):=by
 cases a<;>cases c<;>simp[lateL]
 lia
def NQ:(∀x,qX a c=some x->p<x)↔(∀x,a=some x->p<x)/\(∀x,c=some x->p<x):=by
 cases a<;>cases c<;>simp[qX]
 lia
def YL(h:pJ b l=true)(h1:∀x,l=some x->x<=p)(h2:∀x,b=some x->p<x):False:=by
 cases b<;>cases l<;>simp[pJ]at h
 lia
noncomputable def hasO(o:Option Spn)(p:Int):Bool:=match o with
 |none=>false
 |some u=>hasS u p
def HW s t p:hasO (meetS s t) p=(hasS s p&&hasS t p):=by
 rw[iG,bJ,wF,wF];unfold meetS;by_cases h:pJ (qX s.2 t.2) (lateL s.1 t.1)=true
 . rw[if_pos h];refine⟨λz=>by simp[hasO]at z,λz=>(YL h (NC.mpr ⟨z.1.1,z.2.1⟩) (NQ.mpr ⟨z.1.2,z.2.2⟩)).elim⟩
 . rw[if_neg h];show hasS _ p=true↔_;rw[wF];show(∀x,lateL s.1 t.1=some x->x<=p)/\(∀x,qX s.2 t.2=some x->p<x)↔_;rw[NC,NQ];exact⟨λ⟨⟨a,b⟩,c,d⟩=>⟨⟨a,c⟩,b,d⟩,λ⟨⟨a,c⟩,b,d⟩=>⟨⟨a,b⟩,c,d⟩⟩
def aCv(h:meetS s t=some u):okS u:=by
 unfold meetS at h;split at h
 . cases h
 . rename_i hn;cases h;intro a b h1 h2;simp only at h1 h2;simp [pJ]at hn
   lia
open Builtin.Int (intBits)
noncomputable def cel(ns:List Int)(k:Nat):Int:=ns.getD k 0
def aEg(ns:List Int)(h:0<=k):eD [.lst (ns.map D.int),.int k]=some (.val (.int (ns.getD k.toNat 0))):=by
 unfold eD runG nV;by_cases hk:k<(ns.length:Int)
 . have hl:k < ((ns.map D.int).length:Int):=by simpa using hk
   have e:(ns.map D.int)[k.toNat]?=some (.int (ns.getD k.toNat 0)):=by
    have:k.toNat<ns.length:=by lia
    simp[this,List.getD]
   simp[args,hk,yJ _ h hl,e]
 . have:ns.getD k.toNat 0=0:=by
    have:ns.length<=k.toNat:=by lia
    simp[List.getD,bF this]
   rw[this];simp[args,hk]
def VA ns(k:Nat):eD [.lst (ns.map D.int),.int (k:Int)]=some (.val (.int (cel ns k))):=aEg ns (k:=(k:Int)) (by lia)
def qE(h:a.natAbs<2^m):intBits a<=m:=intBits_le_iff.mpr h
def pow1060:powD (.int (10^60)) (.int 8)=some (.int ((10^60)^8)):=TD (UY (n:=200) (m:=8) (by decide) (by decide) (by decide) (by decide))
@[simp]def eqS_put_put:eqD (.str "put") (.str "put")=some (.bl true):=by kernel_rfl
@[simp]def neS_put_put:neD (.str "put") (.str "put")=some (.bl false):=by kernel_rfl
@[simp]def eqS_put_widen:eqD (.str "put") (.str "widen")=some (.bl false):=by kernel_rfl
@[simp]def neS_put_widen:neD (.str "put") (.str "widen")=some (.bl true):=by kernel_rfl
@[simp]def aDt:eqD (.str "put") (.str "narrow")=some (.bl false):=by kernel_rfl
@[simp]def aCl:neD (.str "put") (.str "narrow")=some (.bl true):=by kernel_rfl
@[simp]def eqS_put_move:eqD (.str "put") (.str "move")=some (.bl false):=by kernel_rfl
@[simp]def neS_put_move:neD (.str "put") (.str "move")=some (.bl true):=by kernel_rfl
@[simp]def ZH:eqD (.str "put") (.str "stretch")=some (.bl false):=by kernel_rfl
@[simp]def ZA:neD (.str "put") (.str "stretch")=some (.bl true):=by kernel_rfl
@[simp]def aDu:eqD (.str "put") (.str "mirror")=some (.bl false):=by kernel_rfl
@[simp]def aCm:neD (.str "put") (.str "mirror")=some (.bl true):=by kernel_rfl
@[simp]def eqS_widen_put:eqD (.str "widen") (.str "put")=some (.bl false):=by kernel_rfl
@[simp]def neS_widen_put:neD (.str "widen") (.str "put")=some (.bl true):=by kernel_rfl
@[simp]def ZF:eqD (.str "widen") (.str "widen")=some (.bl true):=by kernel_rfl
@[simp]def YY:neD (.str "widen") (.str "widen")=some (.bl false):=by kernel_rfl
@[simp]def XV:eqD (.str "widen") (.str "narrow")=some (.bl false):=by kernel_rfl
@[simp]def WR:neD (.str "widen") (.str "narrow")=some (.bl true):=by kernel_rfl
@[simp]def aDs:eqD (.str "widen") (.str "move")=some (.bl false):=by kernel_rfl
@[simp]def aCk:neD (.str "widen") (.str "move")=some (.bl true):=by kernel_rfl
@[simp]def UO:eqD (.str "widen") (.str "stretch")=some (.bl false):=by kernel_rfl
@[simp]def TZ:neD (.str "widen") (.str "stretch")=some (.bl true):=by kernel_rfl
@[simp]def XW:eqD (.str "widen") (.str "mirror")=some (.bl false):=by kernel_rfl
@[simp]def WS:neD (.str "widen") (.str "mirror")=some (.bl true):=by kernel_rfl
@[simp]def aDv:eqD (.str "narrow") (.str "put")=some (.bl false):=by kernel_rfl
@[simp]def aCn:neD (.str "narrow") (.str "put")=some (.bl true):=by kernel_rfl
@[simp]def XY:eqD (.str "narrow") (.str "widen")=some (.bl false):=by kernel_rfl
@[simp]def WU:neD (.str "narrow") (.str "widen")=some (.bl true):=by kernel_rfl
@[simp]def UQ:eqD (.str "narrow") (.str "narrow")=some (.bl true):=by kernel_rfl
@[simp]def UB:neD (.str "narrow") (.str "narrow")=some (.bl false):=by kernel_rfl
@[simp]def ZI:eqD (.str "narrow") (.str "move")=some (.bl false):=by kernel_rfl
@[simp]def ZB:neD (.str "narrow") (.str "move")=some (.bl true):=by kernel_rfl
@[simp]def RB:eqD (.str "narrow") (.str "stretch")=some (.bl false):=by kernel_rfl
@[simp]def QB:neD (.str "narrow") (.str "stretch")=some (.bl true):=by kernel_rfl
@[simp]def UR:eqD (.str "narrow") (.str "mirror")=some (.bl false):=by kernel_rfl
@[simp]def UC:neD (.str "narrow") (.str "mirror")=some (.bl true):=by kernel_rfl
@[simp]def eqS_move_put:eqD (.str "move") (.str "put")=some (.bl false):=by kernel_rfl
@[simp]def neS_move_put:neD (.str "move") (.str "put")=some (.bl true):=by kernel_rfl
@[simp]def aDw:eqD (.str "move") (.str "widen")=some (.bl false):=by kernel_rfl
@[simp]def aCo:neD (.str "move") (.str "widen")=some (.bl true):=by kernel_rfl
@[simp]def ZJ:eqD (.str "move") (.str "narrow")=some (.bl false):=by kernel_rfl
@[simp]def ZC:neD (.str "move") (.str "narrow")=some (.bl true):=by kernel_rfl
@[simp]def eqS_move_move:eqD (.str "move") (.str "move")=some (.bl true):=by kernel_rfl
@[simp]def neS_move_move:neD (.str "move") (.str "move")=some (.bl false):=by kernel_rfl
@[simp]def XZ:eqD (.str "move") (.str "stretch")=some (.bl false):=by kernel_rfl
@[simp]def WV:neD (.str "move") (.str "stretch")=some (.bl true):=by kernel_rfl
@[simp]def ZK:eqD (.str "move") (.str "mirror")=some (.bl false):=by kernel_rfl
@[simp]def ZD:neD (.str "move") (.str "mirror")=some (.bl true):=by kernel_rfl
@[simp]def ZG:eqD (.str "stretch") (.str "put")=some (.bl false):=by kernel_rfl
@[simp]def YZ:neD (.str "stretch") (.str "put")=some (.bl true):=by kernel_rfl
@[simp]def UP:eqD (.str "stretch") (.str "widen")=some (.bl false):=by kernel_rfl
@[simp]def UA:neD (.str "stretch") (.str "widen")=some (.bl true):=by kernel_rfl
@[simp]def QZ:eqD (.str "stretch") (.str "narrow")=some (.bl false):=by kernel_rfl
@[simp]def PZ:neD (.str "stretch") (.str "narrow")=some (.bl true):=by kernel_rfl
@[simp]def XX:eqD (.str "stretch") (.str "move")=some (.bl false):=by kernel_rfl
@[simp]def WT:neD (.str "stretch") (.str "move")=some (.bl true):=by kernel_rfl
@[simp]def ON:eqD (.str "stretch") (.str "stretch")=some (.bl true):=by kernel_rfl
@[simp]def OM:neD (.str "stretch") (.str "stretch")=some (.bl false):=by kernel_rfl
@[simp]def RA:eqD (.str "stretch") (.str "mirror")=some (.bl false):=by kernel_rfl
@[simp]def QA:neD (.str "stretch") (.str "mirror")=some (.bl true):=by kernel_rfl
@[simp]def aDx:eqD (.str "mirror") (.str "put")=some (.bl false):=by kernel_rfl
@[simp]def aCp:neD (.str "mirror") (.str "put")=some (.bl true):=by kernel_rfl
@[simp]def YA:eqD (.str "mirror") (.str "widen")=some (.bl false):=by kernel_rfl
@[simp]def WX:neD (.str "mirror") (.str "widen")=some (.bl true):=by kernel_rfl
@[simp]def US:eqD (.str "mirror") (.str "narrow")=some (.bl false):=by kernel_rfl
@[simp]def UD:neD (.str "mirror") (.str "narrow")=some (.bl true):=by kernel_rfl
@[simp]def ZL:eqD (.str "mirror") (.str "move")=some (.bl false):=by kernel_rfl
@[simp]def ZE:neD (.str "mirror") (.str "move")=some (.bl true):=by kernel_rfl
@[simp]def RC:eqD (.str "mirror") (.str "stretch")=some (.bl false):=by kernel_rfl
@[simp]def QC:neD (.str "mirror") (.str "stretch")=some (.bl true):=by kernel_rfl
@[simp]def UT:eqD (.str "mirror") (.str "mirror")=some (.bl true):=by kernel_rfl
@[simp]def UE:neD (.str "mirror") (.str "mirror")=some (.bl false):=by kernel_rfl
@[simp]theorem fldG_eq(ix:List (Nat×Nat))(f:FE)(ds:List Sl):fldG ix f ds=(f ds).bind (fldD ix):=rfl
@[simp]theorem fldD_ins(ix:List (Nat×Nat))(t:Nat)(es:List D):fldD ix (.ins t es)=(ix.lookup t).bind λi=>es[i]?:=rfl
@[simp]theorem methV_eq(n:Nat)(cs:List Nat)(F:Nat->List D->Option Ret)(fo:FE)(g:FA)(ds:List Sl):methV n cs F fo g ds=(fo ds).bind λo=>(g ds).bind λl=>(methR n cs F o l).bind retV:=rfl
@[simp]theorem methF_eq(n:Nat)(cs:List Nat)(F:Nat->List D->Option Ret)(fo:FE)(g:FA)(ds:List Sl):methF n cs F fo g ds=(fo ds).bind λo=>(g ds).bind λl=>(methR n cs F o l).bind retF:=rfl
@[simp]theorem makeG_eq(t n:Nat)(G:List D->Option (List D))(g:FA)(ds:List Sl):makeG t n G g ds=(g ds).bind λl=>if l.length=n/\flats l=true then (G l).map (D.ins t)else none:=rfl
@[simp]theorem retDG_eq(f:FE)(ds:List Sl):retDG f ds=(f ds).map λd=>.rt (.val d):=rfl
abbrev Rw:=Option Int×Option Int×Option Int
noncomputable def rwD(r:Rw):D:=.tup [oi r.1,oi r.2.1,oi r.2.2]
noncomputable def has3(r:Rw)(p:Int):Bool:=hasS (r.1,r.2.1) p
def ok3(r:Rw):Prop:=okS (r.1,r.2.1)
@[simp]def rwD_0 r:ixD (rwD r) (.int 0)=some (oi r.1):=ixT0 _ _
@[simp]def rwD_1 r:ixD (rwD r) (.int 1)=some (oi r.2.1):=ixT1 _ _ _
@[simp]def rwD_2 r:ixD (rwD r) (.int 2)=some (oi r.2.2):=ixT2 _ _ _ _
@[simp]def rwD_flat r:flat (rwD r)=true:=by simp[rwD]
@[simp]def rwD_shal r n:shal (n+1) (rwD r)=true:=by simp[rwD]
@[simp]def rwD_tupG h r ds:tupG 3 h (rwD r) ds=h [oi r.1,oi r.2.1,oi r.2.2] ds:=by simp[rwD]
@[simp]def rwD_eqv r t:eqvD (rwD r) (rwD t)=decide (r=t):=by obtain⟨a,b,c⟩:=r;obtain⟨x,y,z⟩:=t;rw[iG];simp[rwD]
def jO(l:List Rw):flats (l.map rwD)=true:=by
 induction l with
 |nil=>simp
 |cons a r ih=>simp[ih]
def wL n(l:List Rw):shals (n+2) (l.map rwD)=true:=wW λd hd=>by obtain⟨r,_,rfl⟩:=bG.mp hd;simp
theorem KL:∀a b:List Rw,eqvs (a.map rwD) (b.map rwD)=decide (a=b)
 |[],[]=>by simp
 |[],y::b=>by simp
 |x::a,[]=>by simp
 |x::a,y::b=>by simp only[aK,wV,rwD_eqv,KL a b];rw[iG];simp
def aDy(a b:List Rw):eqD (.lst (a.map rwD)) (.lst (b.map rwD))=some (.bl (decide (a=b))):=by rw[xV (by simpa using wL 38 a) (by simpa using wL 38 b),yB,KL]
def aCq(a b:List Rw):neD (.lst (a.map rwD)) (.lst (b.map rwD))=some (.bl (!decide (a=b))):=by rw[JO (by simpa using wL 38 a) (by simpa using wL 38 b),yB,KL]
def aDd(h:0<n):ixN n (-1)=some (n-1):=by
 unfold ixN;rw[if_neg (by decide),if_pos (by lia)];congr 1
 lia
def ahead(a b:Rw):Prop:=∃x y,a.2.1=some x/\b.1=some y/\x<=y
structure Ord(rows:List Rw):Prop where
 ok:∀r∈rows,ok3 r
 pw:rows.Pairwise ahead
def Tel(rows:List Rw)(p v:Int):Prop:=∃r∈rows,has3 r p=true/\r.2.2=some v
noncomputable def knit1(acc:List Rw)(r:Rw):List Rw:=match r.2.2 with
 |none=>acc
 |some v=>match acc with
   |[]=>[r]
   |q::t=>if q.2.1=r.1/\q.2.2=some v then (q.1,r.2.1,some v)::t else r::q::t
noncomputable def knitF(rows:List Rw):List Rw:=(rows.foldl knit1 []).reverse
def XF acc r(R a b c:Sl)(hl:acc.length<16777216) :
  mJ [R,.own (acc.map rwD).reverse,.v (oi r.1),.v (oi r.2.1),.v (oi r.2.2)]=some (.nx [R,.own ((knit1 acc r).map rwD).reverse,.v (oi r.1),.v (oi r.2.1),.v (oi r.2.2)]) ∨
  mJ [R,.own (acc.map rwD).reverse,.v (oi r.1),.v (oi r.2.1),.v (oi r.2.2)]=some (.ct [R,.own ((knit1 acc r).map rwD).reverse,.v (oi r.1),.v (oi r.2.1),.v (oi r.2.2)]):=by
 obtain⟨lo,bh,v⟩:=r;unfold mJ;cases v with
 |none=>right;simp[knit1]
 |some v=>
   left;cases acc with
   |nil=>have e:D.tup [oi lo,oi bh,.int v]=rwD (lo,bh,some v):=rfl;simp[knit1,e]
   |cons q t=>
     have last:ixD (.lst ((t.map rwD).reverse++[rwD q])) (.int (-1))=some (rwD q):=aDe _ _;have le:ixN (t.length+1) (-1)=some t.length:=by rw[aDd (by lia)];rfl
     have hl':t.length+1<16777216:=by simpa using hl
     have e2:∀x:Option Int,eqD (oi x) (D.int v)=some (.bl (decide (x=some v))):=λx=>eqD_oi x (some v);by_cases h1:q.2.1=lo
     . by_cases h2:q.2.2=some v
       . have e:D.tup [oi q.1,oi bh,.int v]=rwD (q.1,bh,some v):=rfl;simp[knit1,h1,h2,last,le,e2,e]
       . have e:D.tup [oi lo,oi bh,.int v]=rwD (lo,bh,some v):=rfl;simp[knit1,h1,h2,last,le,e2,hl',e]
     . have e:D.tup [oi lo,oi bh,.int v]=rwD (lo,bh,some v):=rfl;simp[knit1,h1,last,le,hl',e]
def HR acc r:(knit1 acc r).length<=acc.length+1:=by
 unfold knit1;split
 . lia
 . split
   . simp
   . split<;>simp
theorem HP R:∀(rows acc:List Rw) a b c,acc.length+rows.length<16777216 →
  ∃a' b' c',qP (tupG 3 (zM (zL 2) (zM (zL 3) (zM (zL 4) tgNil)))) mJ (rows.map rwD) [R,.own (acc.map rwD).reverse,a,b,c]=some (.nx [R,.own ((rows.foldl knit1 acc).map rwD).reverse,a',b',c'])
 |[],acc,a,b,c,_=>⟨a,b,c,rfl⟩
 |r::rows,acc,a,b,c,h=>by simp only[aG]at h;have hl:=HR acc r;obtain⟨a',b',c',ih⟩:=HP R rows (knit1 acc r) (.v (oi r.1)) (.v (oi r.2.1)) (.v (oi r.2.2)) (by omega);refine⟨a',b',c',?_⟩;rcases XF acc r R a b c (by omega)with e|e<;>simp[qP,e,ih]
def JV rows(h:rows.length<16777216):fD [.lst (rows.map rwD)]=some (.fresh ((knitF rows).map rwD)):=by obtain⟨a,b,c,e⟩:=HP (.v (.lst (rows.map rwD))) rows [] .no .no .no (by simpa using h);simp only[List.reverse_nil,cS]at e;unfold fD runG tI;have fl:=jO (knitF rows);unfold knitF at fl ⊢;rw[AT]at fl ⊢;simp[args,e,fl]
def HQ rows:(knitF rows).length<=rows.length:=by
 unfold knitF;rw[hJ];have:∀(rows acc:List Rw),(rows.foldl knit1 acc).length<=acc.length+rows.length:=by
  intro rows;induction rows with
  |nil=>intro acc;simp
  |cons r t ih=>
    intro acc;have:=ih (knit1 acc r);have:=HR acc r;simp only[cH,aG]
    lia
 have:=this rows [];simpa using this
noncomputable def adjOk:List Rw->Prop
 |b::a::t=>¬(a.2.1=b.1/\a.2.2=b.2.2)/\adjOk (a::t)
 |_=>True
structure KI(acc:List Rw):Prop where
 ok:∀r∈acc,ok3 r
 pw:acc.Pairwise λb a=>ahead a b
 val:∀r∈acc,r.2.2≠none
 adj:adjOk acc
theorem KI.nil:KI []:=⟨(λ_ h=>nomatch h),List.Pairwise.nil,(λ_ h=>nomatch h),trivial⟩
def jS r p:has3 r p=true↔(∀a,r.1=some a->a<=p)/\(∀b,r.2.1=some b->p<b):=wF _ _
def QI(k:KI acc)(ho:ok3 r)(ha:∀a∈acc,ahead a r) :
  KI (knit1 acc r)/\(∀r',ahead r r'->(∀a∈acc,ahead a r')->∀a∈knit1 acc r,ahead a r')/\∀p v,Tel (knit1 acc r) p v↔Tel acc p v\/(has3 r p=true/\r.2.2=some v):=by
 obtain⟨lo,bh,w⟩:=r;cases w with
 |none=>refine⟨k,λr' _ h=>h,λp v=>⟨.inl,λh=>h.elim id λz=>by simp at z⟩⟩
 |some w=>
   cases acc with
   |nil=>
     refine⟨⟨?_,?_,?_,trivial⟩,?_,?_⟩
     . intro x hx;simp[knit1]at hx;subst hx;exact ho
     . simp[knit1]
     . intro x hx;simp[knit1]at hx;subst hx;simp
     . intro r' h1 _ a h;simp[knit1]at h;subst h;exact h1
     . intro p v;simp[knit1,Tel]
   |cons q t=>
     obtain⟨x,y,hx,hy,hxy⟩:=ha q aE;simp only at hy;have pw:=bH.mp k.pw;by_cases hm:q.2.1=lo/\q.2.2=some w
     . have e:knit1 (q::t) (lo,bh,some w)=(q.1,bh,some w)::t:=by simp [knit1,hm.1,hm.2]
       rw[e];have hn:∀p,has3 (q.1,bh,some w) p=true↔has3 q p=true\/has3 (lo,bh,some w) p=true:=by
        intro p;rw[jS,jS,jS];constructor
        . rintro ⟨h1,h2⟩;by_cases hp:p<x
          . exact .inl ⟨h1,λb hb=>by rw[hx]at hb;cases hb;exact hp⟩
          . exact .inr ⟨λa h=>by rw[hy]at h;cases h;lia,h2⟩
        . rintro (⟨h1,h2⟩|⟨h1,h2⟩)
          . refine ⟨h1,λb hb=>?_⟩;have:=h2 x hx;have:=ho y b hy hb
            lia
          . refine ⟨λa h=>?_,h2⟩;have:=k.ok q aE a x h hx;have:=h1 y hy
            lia
       refine⟨⟨?_,?_,?_,?_⟩,?_,?_⟩
       . intro z hz;rcases aA.mp hz with rfl|hz
         . intro a b h1 h2;have:=k.ok q aE a x h1 hx;have:=ho y b hy h2
           lia
         . exact k.ok z (aH _ hz)
       . refine bH.mpr ⟨λa h=>?_,pw.2⟩;exact pw.1 a h
       . intro z hz;rcases aA.mp hz with rfl|hz
         . simp
         . exact k.val z (aH _ hz)
       . have ka:=k.adj;cases t with
         |nil=>trivial
         |cons a t=>refine⟨λh=>ka.1 ⟨h.1,?_⟩,ka.2⟩;rw[hm.2];exact h.2
       . intro r' h1 h2 a h;rcases aA.mp h with rfl|h
         . exact h1
         . exact h2 a (aH _ h)
       . intro p v;constructor
         . rintro ⟨z,hz,h1,h2⟩;rcases aA.mp hz with rfl|hz
           . rcases (hn p).mp h1 with h3|h3
             . exact .inl ⟨q,aE,h3,hm.2.trans h2⟩
             . exact .inr ⟨h3,h2⟩
           . exact .inl ⟨z,aH _ hz,h1,h2⟩
         . rintro (⟨z,hz,h1,h2⟩|⟨h1,h2⟩)
           . rcases aA.mp hz with rfl|hz
             . exact⟨_,aE,(hn p).mpr (.inl h1),by rw[hm.2]at h2;exact h2⟩
             . exact⟨z,aH _ hz,h1,h2⟩
           . exact⟨_,aE,(hn p).mpr (.inr h1),h2⟩
     . have e:knit1 (q::t) (lo,bh,some w)=(lo,bh,some w)::q::t:=by simp only [knit1];rw [if_neg hm]
       rw[e];refine⟨⟨?_,bH.mpr ⟨ha,k.pw⟩,?_,hm,k.adj⟩,?_,?_⟩
       . intro z hz;rcases aA.mp hz with rfl|hz
         . exact ho
         . exact k.ok z hz
       . intro z hz;rcases aA.mp hz with rfl|hz
         . simp
         . exact k.val z hz
       . intro r' h1 h2 a h;rcases aA.mp h with rfl|h
         . exact h1
         . exact h2 a h
       . intro p v;constructor
         . rintro ⟨z,hz,h1,h2⟩;rcases aA.mp hz with rfl|hz
           . exact .inr ⟨h1,h2⟩
           . exact .inl ⟨z,hz,h1,h2⟩
         . rintro (⟨z,hz,h1,h2⟩|⟨h1,h2⟩)
           . exact⟨z,aH _ hz,h1,h2⟩
           . exact⟨_,aE,h1,h2⟩
theorem uD:∀rows acc,KI acc->Ord rows->(∀a∈acc,∀r∈rows,ahead a r)->KI (rows.foldl knit1 acc)/\∀p v,Tel (rows.foldl knit1 acc) p v↔Tel acc p v\/Tel rows p v
 |[],acc,k,_,_=>⟨k,λp v=>⟨.inl,λh=>h.elim id λ⟨r,hr,_⟩=>nomatch hr⟩⟩
 |r::rows,acc,k,o,h=>by
   have pw:=bH.mp o.pw;obtain⟨k1,h1,t1⟩:=QI k (o.ok r aE) λa ha=>h a ha r aE;obtain⟨k2,t2⟩:=uD rows (knit1 acc r) k1 ⟨λz hz=>o.ok z (aH _ hz),pw.2⟩ λa ha r' hr'=>h1 r' (pw.1 r' hr') (λb hb=>h b hb r' (aH _ hr')) a ha;refine⟨k2,λp v=>?_⟩;show Tel (rows.foldl knit1 (knit1 acc r)) p v↔_;rw[t2,t1];constructor
   . rintro ((h|⟨h,e⟩)|⟨z,hz,h⟩)
     . exact .inl h
     . exact .inr ⟨r,aE,h,e⟩
     . exact .inr ⟨z,aH _ hz,h⟩
   . rintro (h'|⟨z,hz,h'⟩)
     . exact .inl (.inl h')
     . rcases aA.mp hz with rfl|hz
       . exact .inl (.inr h')
       . exact .inr ⟨z,hz,h'⟩
structure MapF(ps:List Rw):Prop where
 ord:Ord ps
 val:∀r∈ps,r.2.2≠none
 adj:∀(i:Nat) (a b:Rw),ps[i]?=some a->ps[i+1]?=some b->¬(a.2.1=b.1/\a.2.2=b.2.2)
theorem IG:∀{l:List Rw},adjOk l->∀i b a,l[i]?=some b->l[i+1]?=some a->¬(a.2.1=b.1/\a.2.2=b.2.2)
 |[],_,i,b,a,e,_=>by simp at e
 |[x],_,i,b,a,e,e2=>by simp at e2
 |x::y::t,h,0,b,a,e,e2=>by simp at e e2;subst e e2;exact h.1
 |x::y::t,h,i+1,b,a,e,e2=>IG h.2 i b a (by simpa using e) (by simpa using e2)
def KI.map(k:KI acc):MapF acc.reverse:=by
 refine⟨⟨λr hr=>k.ok r (fV.mp hr),pB.mpr k.pw⟩,λr hr=>k.val r (fV.mp hr),λi a b h1 h2=>?_⟩;have l2:=(aV.mp h2).1;rw[hJ]at l2;rw[OJ (by lia)]at h1 h2;refine IG k.adj (acc.length-1-(i+1)) b a h2 ?_;rw[<-h1];congr 1
 lia
def LX:Tel l.reverse p v↔Tel l p v:=⟨λ⟨r,h,q⟩=>⟨r,fV.mp h,q⟩,λ⟨r,h,q⟩=>⟨r,fV.mpr h,q⟩⟩
def uF(o:Ord rows):MapF (knitF rows):=(uD rows [] KI.nil o (λ_ h=>nomatch h)).1.map
def uE(o:Ord rows) p v:Tel (knitF rows) p v↔Tel rows p v:=by unfold knitF;rw[LX,(uD rows [] KI.nil o (λ_ h=>nomatch h)).2];exact⟨λh=>h.elim (λ⟨r,hr,_⟩=>nomatch hr) id,.inr⟩
noncomputable def valL(rows:List Rw)(p:Int):Option Int:=rows.foldl (λt r=>if has3 r p=true then r.2.2 else t) none
def wZ(h:ahead a b)(h1:has3 a p=true)(h2:has3 b p=true):False:=by
 obtain⟨x,y,hx,hy,hxy⟩:=h;rw[jS]at h1 h2;have:=h1.2 x hx;have:=h2.1 y hy
 lia
def VR{rows:List Rw}(h:∀r∈rows,has3 r p=false) t:rows.foldl (λt r=>if has3 r p=true then r.2.2 else t) t=t:=by
 induction rows generalizing t with
 |nil=>rfl
 |cons r rows ih=>rw[cH,h r aE];exact ih (λz hz=>h z (aH _ hz)) _
def jT(o:Ord rows) p v:valL rows p=some v↔Tel rows p v:=by
 have key:∀(rows:List Rw),Ord rows->∀t:Option Int,rows.foldl (λt r=>if has3 r p=true then r.2.2 else t) t=(match rows.find? (λr=>has3 r p)with|some r=>r.2.2|none=>t):=by
  intro rows;induction rows with
  |nil=>intro _ t;rfl
  |cons r rows ih=>
    intro o t;have pw:=bH.mp o.pw;rw[cH];cases h:has3 r p with
    |true=>
      rw[oK (by exact h)];simp only[if_true];exact VR (λz hz=>by
       cases hz':has3 z p with
       |false=>rfl
       |true=>exact(wZ (pw.1 z hz) h hz').elim) _
    |false=>rw[iT (by simpa using h)];simp only[sF,if_false];exact ih ⟨λz hz=>o.ok z (aH _ hz),pw.2⟩ t
 unfold valL;rw[key rows o none];constructor
 . intro h;cases hf:rows.find? (λr=>has3 r p)with
   |none=>rw[hf]at h;cases h
   |some r=>rw[hf]at h;exact⟨r,fL hf,by simpa using lZ hf,h⟩
 . rintro ⟨r,hr,h1,h2⟩;cases hf:rows.find? (λr=>has3 r p)with
   |none=>have:=sE.mp hf r hr;exact(this h1).elim
   |some r'=>
     have h3:has3 r' p=true:=by simpa using lZ hf
     have hm:=fL hf;have:r'=r:=by
      by_cases e:r'=r
      . exact e
      . exfalso;have pw:=o.pw;rcases lJ.mp hr with ⟨i,hi,rfl⟩
        rcases lJ.mp hm with⟨j,hj,rfl⟩
        rcases ZM i j with hlt|hlt|hlt
        . exact wZ (fK.mp pw i j hi hj hlt) h1 h3
        . subst hlt;exact e rfl
        . exact wZ (fK.mp pw j i hj hi hlt) h3 h1
     rw[this];exact h2
def GG(oa:Ord a)(ob:Ord b)(h:∀v,Tel a p v↔Tel b p v):valL a p=valL b p:=by
 cases ha:valL a p with
 |some v=>exact((jT ob p v).mpr ((h v).mp ((jT oa p v).mp ha))).symm
 |none=>
   cases hb:valL b p with
   |none=>rfl
   |some v=>have:=(jT oa p v).mpr ((h v).mpr ((jT ob p v).mp hb));rw[ha]at this;cases this
open Builtin.Int (intBits)
structure Drawn(rows:List Rw)(s:Int):Prop where
 ord:Ord rows
 fin:∀r∈rows,∃lo bh,r.1=some lo/\r.2.1=some bh/\bh<=s
def ints_at ns(h0:0<=k)(h1:k<ns.length):ixD (.lst (ns.map D.int)) (.int k)=some (.int (cel ns k.toNat)):=by
 have h3:k.toNat<ns.length:=by lia
 rw[yJ _ h0 (by simpa using h1)];simp[h3,cel,List.getD]
def uA{i j:Int}(h:0<=j)(h2:j<=1000):xF (.int i) (.int j)=some (.int (i*j)):=qU (.of_right (qE (gF (show j.natAbs<=1000 by omega) (by decide))))
@[simp]theorem methR_ins(n:Nat)(cs:List Nat)(F:Nat->List D->Option Ret)(t:Nat)(es l:List D):methR n cs F (.ins t es) l=if t∈cs/\l.length=n then F t (.ins t es::l)else none:=rfl
open Builtin.Str
noncomputable def txS(cs:List Nat):Str:=⟨cs.toArray⟩
@[simp]theorem NA cs:(txS cs).cps.toList=cs:=rfl
@[simp]def UG cs:(txS cs).length=cs.length:=by simp[txS,Str.length]
def txS_inj:txS a=txS b↔a=b:=⟨λh=>by have:=congrArg (λx:Str=>x.cps.toList) h;simpa using this,λh=>by rw[h]⟩
@[simp]def RT a b:txS a++txS b=txS (a++b):=Str.ext' (by rw[Str.cps_append];simp[txS])
def in_one cs c:inS (.str (txS [c])) (.str (txS cs))=some (.bl (decide (c∈cs))):=by have e3:txS [c]=(⟨#[c]⟩:Str):=rfl;have e:=StrLaws.found_one (txS cs) c;rw[NA]at e;rw[e3];show some (D.bl _)=_;rw[e]
def len_tx cs(h:cs.length<=16777216):lenD [.str (txS cs)]=some (.int cs.length):=by simp[lenD,h]
def add_tx a b(h:a.length+b.length<=16777216):xB (.str (txS a)) (.str (txS b))=some (.str (txS (a++b))):=by simp[xB,h]
def Asc(cs:List Nat):Prop:=∀c∈cs,c<1000
def shal_tx(h:Asc cs) n:shal n (.str (txS cs))=true:=by
 have:PyData.strOk (txS cs)=true:=by
  unfold PyData.strOk;rw[<-Array.all_toList,NA,eE];intro c hc;have:=h c hc;simp
  lia
 simp[shal,this]
open Builtin.Int (intBits)
theorem xM{α:Type} f h:∀(xs:List α),(∀x∈xs,∃ds1,ga (f x) s0=some ds1/\fe ds1=some (h x))->compL ga (λ_=>some true) fe s0 (xs.map f)=some (xs.map h)
 |[],_=>rfl
 |x::xs,H=>by obtain⟨ds1,e1,e2⟩:=H x aE;have ih:=xM (ga:=ga) (fe:=fe) (s0:=s0) f h xs λy hy=>H y (aH _ hy);simp only[aK,compL,e1,e2,ih,aO,if_true,bW]
def vB(o:Ord rows) p:valL rows p=(match rows.find? (λr=>has3 r p) with | some r=>r.2.2 | none=>none):=by
 cases hf:rows.find? (λr=>has3 r p)with
 |none=>
   cases hv:valL rows p with
   |none=>rfl
   |some v=>obtain⟨r,hr,h1,_⟩:=(jT o p v).mp hv;exact(sE.mp hf r hr h1).elim
 |some r=>
   have hm:=fL hf;have h3:has3 r p=true:=by simpa using lZ hf
   cases hw:r.2.2 with
   |some v=>exact((jT o p v).mpr ⟨r,hm,h3,hw⟩).trans hw.symm
   |none=>
     cases hv:valL rows p with
     |none=>exact hw.symm
     |some v=>
       obtain⟨r',hr',h1,h2⟩:=(jT o p v).mp hv;have:r'=r:=by
        by_cases e:r'=r
        . exact e
        . exfalso;rcases lJ.mp hr' with ⟨i,hi,rfl⟩
          rcases lJ.mp hm with⟨j,hj,rfl⟩
          rcases ZM i j with hlt|hlt|hlt
          . exact wZ (fK.mp o.pw i j hi hj hlt) h1 h3
          . subst hlt;exact e rfl
          . exact wZ (fK.mp o.pw j i hj hi hlt) h3 h1
       rw[this,hw]at h2;cases h2
def IL(ps:List Rw) p:fM [.lst (ps.map rwD),.int p]=some (.val (oi (match ps.find? (λr=>has3 r p)with|some r=>r.2.2|none=>none))):=by
 have lp:∀(R:Sl) (ps:List Rw) (a b c:Sl),∃a' b' c',qP (tupG 3 (zM (zL 2) (zM (zL 3) (zM (zL 4) tgNil)))) fP (ps.map rwD) [R,.v (.int p),a,b,c] =
   (match ps.find? (λr=>has3 r p)with|some r=>some (.rt (.val (oi r.2.2)))|none=>some (.nx [R,.v (.int p),a',b',c'])):=by
  intro R ps;induction ps with
  |nil=>exact λa b c=>⟨a,b,c,rfl⟩
  |cons r ps ih=>
    intro a b c;obtain⟨a',b',c',e⟩:=ih (.v (oi r.1)) (.v (oi r.2.1)) (.v (oi r.2.2));refine⟨a',b',c',?_⟩;have hh:nH [.tup [oi r.1,oi r.2.1],.int p]=some (.val (.bl (has3 r p))):=has_eq (r.1,r.2.1) p;cases h:has3 r p with
    |true=>
      rw[h]at hh;have turn:fP [R,.v (.int p),.v (oi r.1),.v (oi r.2.1),.v (oi r.2.2)]=some (.rt (.val (oi r.2.2))):=by simp[fP,hh]
      simp[qP,turn,h]
    |false=>
      rw[h]at hh;have turn:fP [R,.v (.int p),.v (oi r.1),.v (oi r.2.1),.v (oi r.2.2)]=some (.nx [R,.v (.int p),.v (oi r.1),.v (oi r.2.1),.v (oi r.2.2)]):=by simp[fP,hh]
      simp[qP,turn,h,e]
 obtain⟨a,b,c,e⟩:=lp (.v (.lst (ps.map rwD))) ps .no .no .no;unfold fM runG nA;cases hf:ps.find? (λr=>has3 r p)with
 |none=>rw[hf]at e;simp[args,e]
 |some r=>rw[hf]at e;simp[args,e]
def LP(o:Ord ps) p:fM [.lst (ps.map rwD),.int p]=some (.val (oi (valL ps p))):=by rw[IL,vB o]
noncomputable def runsR(here:Option Int)(b:Bool):List Rw->List Rw
 |[]=>if here≠none\/b=true then [(here,none,none)]else []
 |r::t=>(if r.1≠here then [(here,r.1,none)]else [])++r::runsR r.2.1 false t
noncomputable def jN(ps:List Rw):List Rw:=runsR none true ps
noncomputable def runsB(here:Option Int):List Rw->List Rw
 |[]=>[]
 |r::t=>(if r.1≠here then [(here,r.1,none)]else [])++r::runsB r.2.1 t
noncomputable def lastB(here:Option Int):List Rw->Option Int
 |[]=>here
 |r::t=>lastB r.2.1 t
theorem CY:∀ps here b,runsR here b ps=runsB here ps++(if lastB here ps≠none\/(b=true/\ps=[])then [(lastB here ps,none,none)]else [])
 |[],here,b=>by simp[runsR,runsB,lastB]
 |r::t,here,b=>by rw[runsR,CY t];simp[runsB,lastB]
theorem tT:∀ps here,(runsB here ps).length<=2*ps.length
 |[],here=>by simp[runsB]
 |r::t,here=>by have:=tT t r.2.1;rw[runsB];split<;>simp<;>omega
theorem tS R:∀ps acc here a b c,acc.length+2*ps.length<16777216->∃a' b' c',qP (tupG 3 (zM (zL 3) (zM (zL 4) (zM (zL 5) tgNil)))) gE (ps.map rwD) [R,.own (acc.map rwD),.v (oi here),a,b,c]=some (.nx [R,.own ((acc++runsB here ps).map rwD),.v (oi (lastB here ps)),a',b',c'])
 |[],acc,here,a,b,c,_=>⟨a,b,c,by simp[runsB,lastB,qP]⟩
 |r::ps,acc,here,a,b,c,h=>by
   simp only[aG]at h;have e0:D.tup [oi here,oi r.1,.non]=rwD (here,r.1,none):=rfl;have e1:D.tup [oi r.1,oi r.2.1,oi r.2.2]=rwD r:=rfl;have z1:acc.length<16777216:=by omega
   have z2:acc.length+1<16777216:=by omega
   by_cases hr:r.1=here
   . subst hr;obtain ⟨a',b',c',ih⟩:=tS R ps (acc++[r]) r.2.1 (.v (oi r.1)) (.v (oi r.2.1)) (.v (oi r.2.2)) (by simp;omega);refine ⟨a',b',c',?_⟩;simp only [dJ,aK,cS,fN,dF,cM]at ih;have turn:gE [R,.own (acc.map rwD),.v (oi r.1),.v (oi r.1),.v (oi r.2.1),.v (oi r.2.2)]=some (.nx [R,.own (acc.map rwD++[rwD r]),.v (oi r.2.1),.v (oi r.1),.v (oi r.2.1),.v (oi r.2.2)]):=by simp [gE,z1,e1]
     simp[qP,turn,ih,runsB,lastB]
   . obtain ⟨a',b',c',ih⟩:=tS R ps (acc++[(here,r.1,none),r]) r.2.1 (.v (oi r.1)) (.v (oi r.2.1)) (.v (oi r.2.2)) (by simp;omega);refine ⟨a',b',c',?_⟩;simp only [dJ,aK,cS,fN,dF,cM]at ih;have turn:gE [R,.own (acc.map rwD),.v (oi here),.v (oi r.1),.v (oi r.2.1),.v (oi r.2.2)]=some (.nx [R,.own (acc.map rwD++[rwD (here,r.1,none),rwD r]),.v (oi r.2.1),.v (oi r.1),.v (oi r.2.1),.v (oi r.2.2)]):=by simp [gE,z1,z2,e0,e1,hr]
     simp[qP,turn,ih,runsB,lastB,hr]
def IW ps(h:ps.length<=1000000):eS [.lst (ps.map rwD)]=some (.fresh ((jN ps).map rwD)):=by
 obtain⟨a,b,c,e⟩:=tS (.v (.lst (ps.map rwD))) ps [] none .no .no .no (by simp;lia);have hl:=tT ps none;have z:(runsB none ps).length<16777216:=by lia
 simp only[cS,cM,JN]at e;have fl:=jO (jN ps);unfold jN at fl ⊢;rw[CY]at fl ⊢;unfold eS runG nT;have e0:D.tup [oi (lastB none ps),.non,.non]=rwD (lastB none ps,none,none):=rfl;cases hb:lastB none ps with
 |some x=>rw[hb]at e e0 fl;simp at fl e0;simp[args,e,z,e0,fl]
 |none=>
   rw[hb]at e e0 fl;cases ps with
   |nil=>simp[runsB]at e fl;simp[args,e,runsB,rwD]
   |cons r t=>simp at fl;simp only[aK,JN]at e;simp[args,e,fl]
noncomputable def befo(p:Int):Option Int->Bool
 |some a=>decide (p<a)
 |none=>false
noncomputable def inso(p:Int):Option Int->Bool
 |some b=>decide (p<b)
 |none=>true
noncomputable def lookF(p:Int)(here:Option Int):List Rw->Rw
 |[]=>(here,none,none)
 |r::t=>if befo p r.1=true then (here,r.1,none)
   else if inso p r.2.1=true then r else lookF p r.2.1 t
theorem HM p:∀ps here b,Ord ps->(∀r,ps.head?=some r->r.1=none->here=none)->(∀h,here=some h->h<=p)->(here≠none\/b=true)->(runsR here b ps).find? (λr=>has3 r p)=some (lookF p here ps)
 |[],here,b,_,_,h,hb=>by
   have:has3 (here,none,none) p=true:=by rw[jS];exact⟨h,λb e=>by cases e⟩
   simp[runsR,hb,lookF,this]
 |r::t,here,b,o,hN,h,hb=>by
   obtain⟨lo,bh,w⟩:=r;have pw:=bH.mp o.pw;rw[runsR,lookF];simp only;by_cases h1:befo p lo=true
   . rw [if_pos h1];cases lo with
     |none=>simp[befo]at h1
     |some a=>
       have hp:p<a:=by simpa[befo]using h1
       have hne:(some a:Option Int)≠here:=λe=>by have:=h a e.symm;omega
       have hg:has3 (here,some a,none) p=true:=by rw[jS];exact⟨h,λb e=>by cases e;exact hp⟩
       rw[if_pos hne];simp[hg]
   . rw [if_neg h1];have hlo:∀a,lo=some a->a<=p:=λa e=>by
      subst e;have:¬p<a:=by simpa[befo]using h1
      omega
     have skip:(if lo≠here then [((here,lo,none):Rw)]else []).find? (λr=>has3 r p)=none:=by
      split
      . rename_i hne;have:has3 (here,lo,none) p=false:=by
         rw[tN];intro z;rw[jS]at z;cases lo with
         |none=>
           cases here with
           |none=>exact hne rfl
           |some x=>have:=hN _ rfl rfl;cases this
         |some a=>have:=z.2 a rfl;have:=hlo a rfl;omega
        simp[this]
      . rfl
     rw[List.find?_append,skip];simp only[Option.none_or];by_cases h2:inso p bh=true
     . rw [if_pos h2];have:has3 (lo,bh,w) p=true:=by rw[jS];refine⟨hlo,λb e=>?_⟩;simp only at e;subst e;simpa[inso]using h2
       rw[oK (by exact this)]
     . rw [if_neg h2];cases bh with
       |none=>simp[inso]at h2
       |some b=>
         have hp:b<=p:=by
          have:¬p<b:=by simpa[inso]using h2
          omega
         have:has3 (lo,some b,w) p=false:=by rw[tN];intro z;rw[jS]at z;have:=z.2 b rfl;omega
         rw[iT (by simpa using this)];exact HM p t (some b) false ⟨λz hz=>o.ok z (aH _ hz),pw.2⟩ (λr' e e'=>by
          obtain⟨x,y,_,hy,_⟩:=pw.1 r' (OI e);rw[e']at hy
          cases hy) (λx e=>by cases e;exact hp) (.inl (by simp))
def aCz(o:Ord ps) p:(jN ps).find? (λr=>has3 r p)=some (lookF p none ps):=HM p ps none true o (λ_ _ _=>rfl) (λh e=>by cases e) (.inr rfl)
theorem MZ p:∀ps here,Ord ps->(lookF p here ps).2.2=(match ps.find? (λr=>has3 r p)with|some r=>r.2.2|none=>none)
 |[],here,_=>rfl
 |r::t,here,o=>by
   have pw:=bH.mp o.pw;obtain⟨lo,bh,w⟩:=r;rw[lookF];simp only;by_cases h1:befo p lo=true
   . rw [if_pos h1];cases lo with
     |none=>simp[befo]at h1
     |some a=>
       have hp:p<a:=by simpa[befo]using h1
       have:((some a,bh,w)::t).find? (λr=>has3 r p)=none:=by
        rw[sE];intro z hz hh;rw[jS]at hh;rcases aA.mp hz with rfl|hz
        . have:=hh.1 a rfl;omega
        . obtain⟨x,y,hx,hy,hxy⟩:=pw.1 z hz;have:=hh.1 y hy;have:=o.ok _ aE a x rfl hx;omega
       rw[this]
   . rw [if_neg h1];have hlo:∀a,lo=some a->a<=p:=λa e=>by
      subst e;have:¬p<a:=by simpa[befo]using h1
      omega
     by_cases h2:inso p bh=true
     . rw [if_pos h2];have:has3 (lo,bh,w) p=true:=by rw[jS];refine⟨hlo,λb e=>?_⟩;simp only at e;subst e;simpa[inso]using h2
       rw[oK (by exact this)]
     . rw [if_neg h2];have:has3 (lo,bh,w) p=false:=by
        rw[tN];intro z;rw[jS]at z;cases bh with
        |none=>simp[inso]at h2
        |some b=>
          have:=z.2 b rfl;have:¬p<b:=by simpa[inso]using h2
          omega
       rw[iT (by simpa using this)];exact MZ p t bh ⟨λz hz=>o.ok z (aH _ hz),pw.2⟩
def xN ps:(jN ps).length<=2*ps.length+1:=by unfold jN;rw[CY];have:=tT ps none;split<;>simp<;>lia
noncomputable def part1(s:Spn)(r:Rw):Option Rw:=(meetS (r.1,r.2.1) s).map λu=>(u.1,u.2,r.2.2)
noncomputable def qH(ps:List Rw)(s:Spn):List Rw:=ps.filterMap (part1 s)
theorem vP R s:∀ps acc a b c d,acc.length+ps.length<16777216->∃a' b' c' d',qP (tupG 3 (zM (zL 3) (zM (zL 4) (zM (zL 5) tgNil)))) fQ (ps.map rwD) [R,.v (spD s),.own (acc.map rwD),a,b,c,d]=some (.nx [R,.v (spD s),.own ((acc++qH ps s).map rwD),a',b',c',d'])
 |[],acc,a,b,c,d,_=>⟨a,b,c,d,by simp[qH,qP]⟩
 |r::ps,acc,a,b,c,d,h=>by
   simp only[aG]at h;have me:mB [.tup [oi r.1,oi r.2.1],spD s]=some (.val (oS (meetS (r.1,r.2.1) s))):=meet_eq (r.1,r.2.1) s;cases hm:meetS (r.1,r.2.1) s with
   |none=>
     rw[hm]at me;obtain⟨a',b',c',d',ih⟩:=vP R s ps acc (.v (oi r.1)) (.v (oi r.2.1)) (.v (oi r.2.2)) (.v .non) (by omega);refine⟨a',b',c',d',?_⟩;have turn:fQ [R,.v (spD s),.own (acc.map rwD),.v (oi r.1),.v (oi r.2.1),.v (oi r.2.2),d]=some (.nx [R,.v (spD s),.own (acc.map rwD),.v (oi r.1),.v (oi r.2.1),.v (oi r.2.2),.v .non]):=by simp[fQ,me,oS]
     have e:qH (r::ps) s=qH ps s:=by simp[qH,part1,hm]
     rw[e];simp[qP,turn,ih]
   |some u=>
     rw[hm]at me;obtain⟨a',b',c',d',ih⟩:=vP R s ps (acc++[(u.1,u.2,r.2.2)]) (.v (oi r.1)) (.v (oi r.2.1)) (.v (oi r.2.2)) (.v (spD u)) (by simp;omega);refine⟨a',b',c',d',?_⟩;have z:acc.length<16777216:=by omega
     have e0:D.tup [oi u.1,oi u.2,oi r.2.2]=rwD (u.1,u.2,r.2.2):=rfl;have turn:fQ [R,.v (spD s),.own (acc.map rwD),.v (oi r.1),.v (oi r.2.1),.v (oi r.2.2),d]=some (.nx [R,.v (spD s),.own (acc.map rwD++[rwD (u.1,u.2,r.2.2)]),.v (oi r.1),.v (oi r.2.1),.v (oi r.2.2),.v (spD u)]):=by simp[fQ,me,oS,z,e0]
     have e:qH (r::ps) s=(u.1,u.2,r.2.2)::qH ps s:=by simp[qH,part1,hm]
     rw[e];simp only[dJ,aK,cS,fN,dF,cM]at ih ⊢;simp[qP,turn,ih]
def xO ps s:(qH ps s).length<=ps.length:=List.length_filterMap_le _ _
def MO ps s(h:ps.length<16777216):eW [.lst (ps.map rwD),spD s]=some (.fresh ((qH ps s).map rwD)):=by obtain⟨a,b,c,d,e⟩:=vP (.v (.lst (ps.map rwD))) s ps [] .no .no .no .no (by simpa using h);simp only[cS,cM]at e;unfold eW runG nC;simp[args,e,jO]
def jI(h:part1 s r=some r'):ok3 r'/\r'.2.2=r.2.2/\(∀p,has3 r' p=(has3 r p&&hasS s p))/\(∀x,r.2.1=some x->∃x',r'.2.1=some x'/\x'<=x)/\(∀y,r.1=some y->∃y',r'.1=some y'/\y<=y')/\(∀x,s.2=some x->∃x',r'.2.1=some x'/\x'<=x)/\(∀y,s.1=some y->∃y',r'.1=some y'/\y<=y'):=by
 unfold part1 at h;cases hm:meetS (r.1,r.2.1) s with
 |none=>rw[hm]at h;cases h
 |some u=>
   rw[hm]at h;cases h;have hp:=λp=>HW (r.1,r.2.1) s p;rw[hm]at hp;refine⟨aCv hm,rfl,λp=>hp p,?_,?_,?_,?_⟩
   all_goals (unfold meetS at hm;split at hm;(· cases hm);cases hm)
   . intro x hx;rw [hx];cases s.2 <;> simp [qX]
     lia
   . intro y hy;rw [hy];cases s.1 <;> simp [lateL]
     lia
   . intro x hx;rw [hx];cases r.2.1 <;> simp [qX]
     lia
   . intro y hy;rw [hy];cases r.1 <;> simp [lateL]
     lia
def PX(h:part1 s r=none) p:(has3 r p&&hasS s p)=false:=by
 unfold part1 at h;have hp:=HW (r.1,r.2.1) s p;cases hm:meetS (r.1,r.2.1) s with
 |none=>rw[hm]at hp;exact hp.symm
 |some u=>rw[hm]at h;cases h
def nL:r'∈qH ps s↔∃r∈ps,part1 s r=some r':=sD
def HE(o:Ord ps) s:Ord (qH ps s):=by
 refine⟨λr' h=>?_,?_⟩
 . obtain⟨r,_,h⟩:=nL.mp h;exact(jI h).1
 . unfold qH;rw[List.pairwise_filterMap];refine o.pw.imp λ{a b} hab a' ha b' hb=>?_;obtain⟨x,y,hx,hy,hxy⟩:=hab;obtain⟨x',e1,h1⟩:=(jI ha).2.2.2.1 x hx;obtain⟨y',e2,h2⟩:=(jI hb).2.2.2.2.1 y hy;exact⟨x',y',e1,e2,by lia⟩
def HD:Tel (qH ps s) p v↔hasS s p=true/\Tel ps p v:=by
 constructor
 . rintro⟨r',h,h1,h2⟩;obtain⟨r,hr,h⟩:=nL.mp h;obtain⟨_,e,hh,_⟩:=jI h;rw[hh p,bJ]at h1;exact⟨h1.2,r,hr,h1.1,e▸h2⟩
 . rintro ⟨hs,r,hr,h1,h2⟩;cases h:part1 s r with
   |none=>have:=PX h p;rw[h1,hs]at this;cases this
   |some r'=>obtain⟨_,e,hh,_⟩:=jI h;exact⟨r',nL.mpr ⟨r,hr,h⟩,by rw[hh p,h1,hs];rfl,e.trans h2⟩
noncomputable def loP(ps:List Rw):Option Int->List Rw
 |none=>[]
 |some a=>qH ps (none,some a)
noncomputable def hiP(ps:List Rw):Option Int->List Rw
 |none=>[]
 |some b=>qH ps (some b,none)
noncomputable def overF(ps:List Rw)(s:Spn)(v:Option Int):List Rw:=loP ps s.1++(s.1,s.2,v)::hiP ps s.2
def WJ(o:Ord ps)(h:a<b):(qH ps (none,some a)).length+(qH ps (some b,none)).length<=ps.length+1:=by
 induction ps with
 |nil=>simp[qH]
 |cons r t ih=>
   have pw:=bH.mp o.pw;have ot:Ord t:=⟨λz hz=>o.ok z (aH _ hz),pw.2⟩
   cases h1:part1 (none,some a) r with
   |none=>
     have e1:qH (r::t) (none,some a)=qH t (none,some a):=by simp[qH,h1]
     have:(qH (r::t) (some b,none)).length<=(qH t (some b,none)).length+1:=by unfold qH;rw[mF];split<;>simp
     simp[aG]
     lia
   |some r1=>
     have e1:qH (r::t) (none,some a)=r1::qH t (none,some a):=by simp[qH,h1]
     rw[e1];cases h2:part1 (some b,none) r with
     |none=>
       have e2:qH (r::t) (some b,none)=qH t (some b,none):=by simp[qH,h2]
       simp[aG]
       lia
     |some r2=>
       have e2:qH (r::t) (some b,none)=r2::qH t (some b,none):=by simp[qH,h2]
       have e3:qH t (none,some a)=[]:=by
        unfold qH;rw[List.filterMap_eq_nil_iff];intro z hz;cases hz':part1 (none,some a) z with
        |none=>rfl
        |some z'=>
          obtain⟨x,y,hx,hy,hxy⟩:=pw.1 z hz;have k2:=jI h2;have kz:=jI hz';obtain⟨x2,ex2,hx2⟩:=k2.2.2.2.1 x hx;obtain⟨y2,ey2,hy2⟩:=k2.2.2.2.2.2.2 b rfl;have:=k2.1 y2 x2 ey2 ex2;obtain⟨y3,ey3,hy3⟩:=kz.2.2.2.2.1 y hy;obtain⟨x3,ex3,hx3⟩:=kz.2.2.2.2.2.1 a rfl;have:=kz.1 y3 x3 ey3 ex3
          lia
       rw[e2,e3];have:=xO t (some b,none);simp[aG,lY]
       lia
def MU(o:Ord ps) s(hs:okS s) v:(overF ps s v).length<=ps.length+2:=by
 obtain⟨lo,bh⟩:=s;unfold overF loP hiP;cases lo with
 |none=>
   cases bh with
   |none=>simp
   |some b=>
     have:=xO ps (some b,none);simp
     lia
 |some a=>
   cases bh with
   |none=>
     have:=xO ps (none,some a);simp
     lia
   |some b=>
     have:=WJ o (hs a b rfl rfl);simp
     lia
def MT(o:Ord ps) s(hs:okS s) v:Ord (overF ps s v):=by
 obtain⟨lo,bh⟩:=s;unfold overF;have l1:∀r∈(loP ps lo),ok3 r/\∃a x,lo=some a/\r.2.1=some x/\x<=a:=by
  cases lo with
  |none=>intro r h;cases h
  |some a=>intro r h;obtain⟨q,_,h⟩:=nL.mp h;obtain⟨x,e,hx⟩:=(jI h).2.2.2.2.2.1 a rfl;exact⟨(jI h).1,a,x,rfl,e,hx⟩
 have l2:∀r∈(hiP ps bh),ok3 r/\∃b y,bh=some b/\r.1=some y/\b<=y:=by
  cases bh with
  |none=>intro r h;cases h
  |some b=>intro r h;obtain⟨q,_,h⟩:=nL.mp h;obtain⟨y,e,hy⟩:=(jI h).2.2.2.2.2.2 b rfl;exact⟨(jI h).1,b,y,rfl,e,hy⟩
 have o1:Ord (loP ps lo):=by
  cases lo with
  |none=>exact⟨(λ_ h=>nomatch h),List.Pairwise.nil⟩
  |some a=>exact HE o _
 have o2:Ord (hiP ps bh):=by
  cases bh with
  |none=>exact⟨(λ_ h=>nomatch h),List.Pairwise.nil⟩
  |some b=>exact HE o _
 refine⟨λr h=>?_,?_⟩
 . rcases bQ.mp h with h|h
   . exact(l1 r h).1
   . rcases aA.mp h with rfl|h
     . exact hs
     . exact(l2 r h).1
 . refine List.pairwise_append.mpr ⟨o1.pw,bH.mpr ⟨λr h=>?_,o2.pw⟩,λa ha b hb=>?_⟩
   . obtain⟨_,b,y,e,e2,hy⟩:=l2 r h;exact⟨b,y,e,e2,hy⟩
   . obtain ⟨_,x,x',e,e2,hx⟩:=l1 a ha;rcases aA.mp hb with rfl|hb
     . exact⟨x',x,e2,e,hx⟩
     . obtain⟨_,y,y',e3,e4,hy⟩:=l2 b hb;have:=hs x y e e3;exact⟨x',y',e2,e4,by lia⟩
def aBy s(hs:okS s) v p w:Tel (overF ps s v) p w↔if hasS s p=true then v=some w else Tel ps p w:=by
 obtain⟨lo,bh⟩:=s;have h1:Tel (loP ps lo) p w↔(∃a,lo=some a/\p<a)/\Tel ps p w:=by
  cases lo with
  |none=>exact⟨(λ⟨r,h,_⟩=>nomatch h),(λ⟨⟨a,e,_⟩,_⟩=>by cases e)⟩
  |some a=>show Tel (qH ps (none,some a)) p w↔_;rw[HD];simp[hasS]
 have h2:Tel (hiP ps bh) p w↔(∃b,bh=some b/\b<=p)/\Tel ps p w:=by
  cases bh with
  |none=>exact⟨(λ⟨r,h,_⟩=>nomatch h),(λ⟨⟨a,e,_⟩,_⟩=>by cases e)⟩
  |some b=>show Tel (qH ps (some b,none)) p w↔_;rw[HD];simp[hasS]
 have h3:Tel (overF ps (lo,bh) v) p w↔Tel (loP ps lo) p w\/(hasS (lo,bh) p=true/\v=some w)\/Tel (hiP ps bh) p w:=by
  unfold overF;constructor
  . rintro ⟨r,h,e1,e2⟩;rcases bQ.mp h with h|h
    . exact .inl ⟨r,h,e1,e2⟩
    . rcases aA.mp h with rfl|h
      . exact .inr (.inl ⟨e1,e2⟩)
      . exact .inr (.inr ⟨r,h,e1,e2⟩)
  . rintro (⟨r,h,e1,e2⟩|⟨e1,e2⟩|⟨r,h,e1,e2⟩)
    . exact⟨r,bB _ h,e1,e2⟩
    . exact⟨_,aL _ aE,e1,e2⟩
    . exact⟨r,aL _ (aH _ h),e1,e2⟩
 rw[h3,h1,h2];by_cases hp:hasS (lo,bh) p=true
 . rw [if_pos hp];have hq:=(wF _ _).mp hp;constructor
   . rintro (⟨⟨a,e,hlt⟩,_⟩|⟨_,e⟩|⟨⟨b,e,hle⟩,_⟩)
     . have:=hq.1 a e;lia
     . exact e
     . have:=hq.2 b e;lia
   . exact λe=>.inr (.inl ⟨hp,e⟩)
 . rw [if_neg hp];constructor
   . rintro (⟨_,h⟩|⟨e,_⟩|⟨_,h⟩)
     . exact h
     . exact(hp e).elim
     . exact h
   . intro h;by_cases hl:∃a,lo=some a/\p<a
     . exact .inl ⟨hl,h⟩
     . by_cases hb:∃ b,bh=some b/\b<=p
       . exact .inr (.inr ⟨hb,h⟩)
       . exfalso;apply hp;rw [wF];refine ⟨λa e=>?_,λb e=>?_⟩
         . exact Int.not_lt.mp λz=>hl ⟨a,e,z⟩
         . exact Int.not_le.mp λz=>hb ⟨b,e,z⟩
def over_eq s v(h:ps.length<=1000000):eJ [.lst (ps.map rwD),spD s,oi v]=some (.fresh ((overF ps s v).map rwD)):=by
 obtain⟨lo,bh⟩:=s;have p1:∀a:Int,eW [.lst (ps.map rwD),.tup [.non,.int a]]=some (.fresh ((qH ps (none,some a)).map rwD)):=λa=>MO ps (none,some a) (by lia);have p2:∀a:Int,eW [.lst (ps.map rwD),.tup [.int a,.non]]=some (.fresh ((qH ps (some a,none)).map rwD)):=λa=>MO ps (some a,none) (by lia);have e0:D.tup [oi lo,oi bh,oi v]=rwD (lo,bh,v):=rfl;have fl:=jO (overF ps (lo,bh) v);unfold overF loP hiP at fl ⊢;unfold eJ runG mH;cases lo with
 |none=>
   cases bh with
   |none=>simp at fl e0;simp[args,e0]
   |some b=>
     have z:=xO ps (some b,none);have z1:1+(qH ps (some b,none)).length<=16777216:=by lia
     simp at fl e0;simp[args,p2,e0,z1,fl]
 |some a=>
   have z:=xO ps (none,some a);have z0:(qH ps (none,some a)).length<=16777216:=by lia
   have z1:(qH ps (none,some a)).length<16777216:=by lia
   cases bh with
   |none=>simp at fl e0;simp[args,p1,e0,z0,z1,fl]
   |some b=>
     have z':=xO ps (some b,none);have z2:(qH ps (none,some a)).length+1+(qH ps (some b,none)).length<=16777216:=by lia
     simp at fl e0;simp[args,p1,p2,e0,z0,z1,z2,fl]
abbrev Rv:=Spn×Option Int
noncomputable def rvD(r:Rv):D:=.tup [spD r.1,oi r.2]
@[simp]def rvD_tupG h r ds:tupG 2 h (rvD r) ds=h [spD r.1,oi r.2] ds:=by simp[rvD]
noncomputable def put1(ps:List Rw)(r:Rv):List Rw:=knitF (overF ps r.1 r.2)
noncomputable def nY(rows:List Rv):List Rw:=rows.foldl put1 []
def DG(m:MapF ps)(h:okS r.1):MapF (put1 ps r):=uF (MT m.ord r.1 h r.2)
def MH(m:MapF ps)(h:okS r.1):(put1 ps r).length<=ps.length+2:=cD (HQ _) (MU m.ord r.1 h r.2)
def aAv(m:MapF ps)(h:okS r.1) p w:Tel (put1 ps r) p w↔if hasS r.1 p=true then r.2=some w else Tel ps p w:=by unfold put1;rw[uE (MT m.ord r.1 h r.2),aBy r.1 h r.2]
def SV(m:MapF ps)(hl:ps.length<=100000)(h:okS s):(eJ [.lst (ps.map rwD),spD s,oi v]=some (.fresh ((overF ps s v).map rwD)))/\fD [.lst ((overF ps s v).map rwD)]=some (.fresh ((put1 ps (s,v)).map rwD)):=
 ⟨over_eq s v (by lia),JV _ (by have:=MU m.ord s h v;lia)⟩
theorem MapF.nil:MapF []:=⟨⟨(λ_ h=>nomatch h),List.Pairwise.nil⟩,(λ_ h=>nomatch h),(λi a b h _=>by simp at h)⟩
theorem AM R:∀(rows:List Rv) ps a b,MapF ps->(∀r∈rows,okS r.1)->ps.length+2*rows.length<=100000 →
  (∃a' b',qP (tupG 2 (zM (zL 2) (zM (zL 3) tgNil))) lX (rows.map rvD) [R,.own (ps.map rwD),a,b]=some (.nx [R,.own ((rows.foldl put1 ps).map rwD),a',b']))/\MapF (rows.foldl put1 ps)/\(rows.foldl put1 ps).length<=ps.length+2*rows.length
 |[],ps,a,b,m,_,_=>⟨⟨a,b,rfl⟩,m,by simp⟩
 |r::rows,ps,a,b,m,hs,hl=>by
   simp only[aG]at hl;have hr:=hs r aE;have z:=MH m hr;obtain⟨⟨a',b',ih⟩,m',l'⟩:=AM R rows (put1 ps r) (.v (spD r.1)) (.v (oi r.2)) (DG m hr) (λx hx=>hs x (aH _ hx)) (by omega);obtain⟨e1,e2⟩:=SV m (by omega) (s:=r.1) (v:=r.2) hr;refine⟨⟨a',b',?_⟩,m',by simp only[cH,aG];omega⟩;have turn:lX [R,.own (ps.map rwD),.v (spD r.1),.v (oi r.2)]=some (.nx [R,.own ((put1 ps r).map rwD),.v (spD r.1),.v (oi r.2)]):=by simp[lX,e1,e2]
   rw[cH];simp[qP,turn,ih]
def XT rows(hs:∀r∈rows,okS r.1)(hl:rows.length<=1000):kW [.lst (rows.map rvD)]=some (.fresh ((nY rows).map rwD))/\MapF (nY rows)/\(nY rows).length<=2*rows.length:=by obtain⟨⟨a,b,e⟩,m,l⟩:=AM (.v (.lst (rows.map rvD))) rows [] .no .no MapF.nil hs (by simp;lia);refine⟨?_,m,by unfold nY;simpa using l⟩;simp only[cS]at e;have fl:=jO (nY rows);unfold nY at fl ⊢;unfold kW runG oY;simp[args,e,fl]
theorem vK{α:Type} f p h:∀(xs:List α),(∀x∈xs,∃ds1,ga (f x) s0=some ds1/\tt ds1=some (p x)/\(p x=true->fe ds1=some (h x)))->compL ga tt fe s0 (xs.map f)=some ((xs.filter p).map h)
 |[],_=>rfl
 |x::xs,H=>by
   obtain⟨ds1,e1,e2,e3⟩:=H x aE;have ih:=vK (ga:=ga) (tt:=tt) (fe:=fe) (s0:=s0) f p h xs λy hy=>H y (aH _ hy);cases hp:p x with
   |true=>simp[compL,e1,e2,e3 hp,ih,hp]
   |false=>simp[compL,e1,e2,ih,hp]
def wE n(l:List Spn):shals (n+2) (l.map spD)=true:=wW λd hd=>by obtain⟨r,_,rfl⟩:=bG.mp hd;simp[spD]
theorem NO:∀a b:List Spn,eqvs (a.map spD) (b.map spD)=decide (a=b)
 |[],[]=>by simp
 |[],y::b=>by simp
 |x::a,[]=>by simp
 |x::a,y::b=>by simp only[aK,wV,spD_eqv,NO a b];rw[iG];simp
def UU(a b:List Spn):eqD (.lst (a.map spD)) (.lst (b.map spD))=some (.bl (decide (a=b))):=by rw[xV (by simpa using wE 38 a) (by simpa using wE 38 b),yB,NO]
noncomputable def Til:Option Int->List Rw->Prop
 |_,[]=>False
 |here,r::rs=>r.1=here/\(∀h x,here=some h->r.2.1=some x->h<x)/\(r.2.1=none->rs=[])/\∀x,r.2.1=some x->Til (some x) rs
theorem LV:∀ps here b,Ord ps->(∀r,ps.head?=some r->(r.1=none->here=none)/\∀h l,here=some h->r.1=some l->h<=l)->(here≠none\/b=true)->Til here (runsR here b ps)
 |[],here,b,_,_,hb=>by unfold runsR;rw[if_pos hb];exact⟨rfl,(λ_ _ _ e=>nomatch e),λ_=>rfl,(λ_ e=>nomatch e)⟩
 |r::t,here,b,o,hh,hb=>by
   obtain⟨hn,hs⟩:=hh r rfl;have pw:=bH.mp o.pw;have o':Ord t:=⟨λz hz=>o.ok z (aH _ hz),pw.2⟩
   have ok:=o.ok r aE;have core:Til r.1 (r::runsR r.2.1 false t):=by
    refine⟨rfl,λh x e1 e2=>ok h x e1 e2,λe=>?_,λx e=>?_⟩
    . cases t with
      |nil=>rw[e];simp[runsR]
      |cons r' t'=>obtain⟨x,y,h1,_⟩:=pw.1 r' aE;rw[e]at h1;cases h1
    . rw[e];refine LV t (some x) false o' (λr' hr'=>?_) (.inl (by simp));obtain⟨x',y,h1,h2,h3⟩:=pw.1 r' (OI hr');rw[e]at h1;cases h1;rw[h2];exact⟨(λz=>nomatch z),λh l e1 e2=>by cases e1;cases e2;exact h3⟩
   unfold runsR;by_cases he:r.1=here
   . simp only[ne_eq,he,not_true_eq_false,if_false,cM];rw[<-he];exact core
   . simp only [ne_eq,he,not_false_eq_true,if_true,dF,cM];refine ⟨rfl,λh x e1 e2=>?_,λe=>?_,λx e=>?_⟩
     . have:=hs h x e1 e2;have:x≠h:=λz=>he (by rw[show r.1=some x from e2,e1,z]);omega
     . have e':r.1=none:=e;exact(he (by rw[e',hn e'])).elim
     . have e':r.1=some x:=e;rw[e']at core;exact core
def yA(o:Ord ps):Til none (jN ps):=LV ps none true o (λr _=>⟨λ_=>rfl,(λh l e1=>nomatch e1)⟩) (.inr rfl)
noncomputable def befB(p:Int)(r:Rw):Bool:=match r.2.1 with|none=>true|some x=>decide (p<x)
theorem vW p:∀rs here,Til here rs->(∀h,here=some h->h<=p)->rs.find? (λr=>has3 r p)=rs.find? (befB p)
 |[],_,h,_=>h.elim
 |r::rs,here,h,hp=>by
   obtain⟨h1,h2,h3,h4⟩:=h;have e:has3 r p=befB p r:=by
    unfold has3 hasS befB;rw[h1];cases hr:here with
    |none=>cases r.2.1<;>simp
    |some x=>have:=hp x hr;cases r.2.1<;>simp[this]
   rw[cN,cN,e];cases hb:befB p r with
   |true=>rfl
   |false=>
     simp only;cases hx:r.2.1 with
     |none=>unfold befB at hb;rw[hx]at hb;cases hb
     |some x=>unfold befB at hb;rw[hx]at hb;simp at hb;exact vW p rs (some x) (h4 x hx) λh e=>by cases e;exact hb
noncomputable def atB(p:Int)(rs:List Rw):Option Int:=match rs.find? (befB p)with|some r=>r.2.2|none=>none
def LC(o:Ord ps) p:atB p (jN ps)=valL ps p:=by unfold atB;rw[<-vW p _ none (yA o) (λh e=>nomatch e),aCz o p];simp only;rw[MZ p ps none o,vB o]
def LD(h:befB p r=true):atB p (r::rs)=r.2.2:=by unfold atB;rw[cN,h]
def atB_tl(h:befB p r=false):atB p (r::rs)=atB p rs:=by unfold atB;rw[cN,h]
abbrev R4:=Option Int×Option Int×Option Int×Option Int
noncomputable def r4D(r:R4):D:=.tup [oi r.1,oi r.2.1,oi r.2.2.1,oi r.2.2.2]
noncomputable def Rem:Option Int->List Rw->Prop
 |_,[]=>False
 |here,r::rs=>(∀h x,here=some h->r.2.1=some x->h<x)/\(r.2.1=none->rs=[])/\∀x,r.2.1=some x->Rem (some x) rs
theorem Til.rem:∀{rs:List Rw}{here:Option Int},Til here rs->Rem here rs
 |[],_,h=>h.elim
 |r::rs,_,⟨_,h2,h3,h4⟩=>⟨h2,h3,λx e=>(h4 x e).rem⟩
noncomputable def stp(e:Option Int):List Rw->List Rw
 |[]=>[]
 |a::as=>if a.2.1=e then as else a::as
def jX e a as:stp e (a::as)=if a.2.1=e then as else a::as:=rfl
noncomputable def yL:Nat->Option Int->List Rw->List Rw->List R4
 |0,_,_,_=>[]
 |n+1,here,a::as,b::bs=>(here,qX a.2.1 b.2.1,a.2.2,b.2.2)::yL n (qX a.2.1 b.2.1) (stp (qX a.2.1 b.2.1) (a::as)) (stp (qX a.2.1 b.2.1) (b::bs))
 |_+1,_,_,_=>[]
def Both(here:Option Int)(as bs:List Rw):Prop:=(as=[]/\bs=[])\/(Rem here as/\Rem here bs)
def wA(h:Rem here (a::as))(hx:∀y,a.2.1=some y->x<=y):a.2.1=none/\stp (some x) (a::as)=a::as/\Rem (some x) (stp (some x) (a::as))\/a.2.1≠none/\Rem (some x) (stp (some x) (a::as)):=by
 obtain⟨h1,h2,h3⟩:=h;cases ha:a.2.1 with
 |none=>
   left;have:stp (some x) (a::as)=a::as:=by rw[jX,ha,if_neg (by simp)]
   rw[this];exact⟨rfl,rfl,(λh y _ e=>by rw[ha]at e;cases e),h2,h3⟩
 |some y=>
   right;refine⟨by simp,?_⟩;rw[jX,ha];by_cases hxy:y=x
   . subst hxy;rw[if_pos rfl];exact h3 y ha
   . rw [if_neg (by simpa using hxy)];refine ⟨λh z e1 e2=>?_,h2,h3⟩;rw [ha]at e2;have:=hx y ha
     lia
def EN(ha:Rem here (a::as))(hb:Rem here (b::bs)) :
  Both (qX a.2.1 b.2.1) (stp (qX a.2.1 b.2.1) (a::as)) (stp (qX a.2.1 b.2.1) (b::bs)):=by
 cases h1:a.2.1 with
 |none=>
   cases h2:b.2.1 with
   |none=>
     left;constructor
     . simp[qX,stp,h1,ha.2.1 h1]
     . simp[qX,stp,h2,hb.2.1 h2]
   |some y=>
     right;have e:qX none (some y)=some y:=rfl;constructor
     . rcases wA ha (by rw [h1];exact λ_ e=>nomatch e)with h|h
       . exact h.2.2
       . exact h.2
     . rcases wA hb (x:=y) (by rw [h2];intro z e;cases e;lia)with h|h
       . exact h.2.2
       . exact h.2
 |some x=>
   right;cases h2:b.2.1 with
   |none=>
     have e:qX (some x) none=some x:=rfl;constructor
     . rcases wA ha (x:=x) (by rw [h1];intro z e;cases e;lia)with h|h
       . exact h.2.2
       . exact h.2
     . rcases wA hb (by rw [h2];exact λ_ e=>nomatch e)with h|h
       . exact h.2.2
       . exact h.2
   |some y=>
     have e:qX (some x) (some y)=some (min x y):=rfl;constructor
     . rcases wA ha (x:=min x y) (by rw [h1];intro z e;cases e;lia)with h|h
       . exact h.2.2
       . exact h.2
     . rcases wA hb (x:=min x y) (by rw [h2];intro z e;cases e;lia)with h|h
       . exact h.2.2
       . exact h.2
def uO(ha:Rem here (a::as))(hb:Rem here (b::bs))(h:qX a.2.1 b.2.1=none):stp none (a::as)=[]/\stp none (b::bs)=[]:=by
 cases h1:a.2.1 with
 |some x=>rw[h1]at h;cases h2:b.2.1<;>rw[h2]at h<;>cases h
 |none=>
   cases h2:b.2.1 with
   |some y=>rw[h1,h2]at h;cases h
   |none=>exact⟨by rw[jX,h1,if_pos rfl];exact ha.2.1 h1,by rw[jX,h2,if_pos rfl];exact hb.2.1 h2⟩
def vC n here bs:yL n here [] bs=[]:=by cases n<;>rfl
theorem MQ:∀n here as bs r,Both here as bs->r∈yL n here as bs->here≠none->r.1=none->False
 |0,_,_,_,r,_,hr,_,_=>by unfold yL at hr;cases hr
 |n+1,here,[],bs,r,_,hr,_,_=>by rw[vC]at hr;cases hr
 |n+1,here,a::as,[],r,hB,hr,_,_=>by
   rcases hB with⟨h,_⟩|⟨_,h⟩
   . cases h
   . exact h
 |n+1,here,a::as,b::bs,r,hB,hr,hh,h1=>by
   rcases hB with⟨h,_⟩|⟨ha,hb⟩
   . cases h
   . rw [yL]at hr;rcases aA.mp hr with rfl|hr
     . exact hh h1
     . by_cases he:qX a.2.1 b.2.1=none
       . rw[he,(uO ha hb he).1,vC]at hr;cases hr
       . exact MQ n _ _ _ r (EN ha hb) hr he h1
def PB(h:∀x,e=some x->x<=p)(hn:e=none->False):atB p (stp e (a::as))=atB p (a::as):=by
 rw[jX];by_cases he:a.2.1=e
 . rw [if_pos he];symm;apply atB_tl;unfold befB;rw [he];cases e with
   |none=>exact(hn rfl).elim
   |some x=>have:=h x rfl;simp;lia
 . rw[if_neg he]
def RW e a as:(stp e (a::as)).length<=as.length+1:=by rw[jX];split<;>simp
def IT a b as bs:(stp (qX a.2.1 b.2.1) (a::as)).length+(stp (qX a.2.1 b.2.1) (b::bs)).length<(as.length+1)+(bs.length+1):=by
 have:qX a.2.1 b.2.1=a.2.1\/qX a.2.1 b.2.1=b.2.1:=by
  cases a.2.1 with
  |none=>right;cases b.2.1<;>rfl
  |some x=>
    cases b.2.1 with
    |none=>left;rfl
    |some y=>
      rcases(by lia:min x y=x\/min x y=y)with h|h
      . left;simp[qX,h]
      . right;simp[qX,h]
 have l1:=RW (qX a.2.1 b.2.1) a as;have l2:=RW (qX a.2.1 b.2.1) b bs;rcases this with h|h
 . have:(stp (qX a.2.1 b.2.1) (a::as)).length=as.length:=by rw [jX,if_pos h.symm]
   lia
 . have:(stp (qX a.2.1 b.2.1) (b::bs)).length=bs.length:=by rw [jX,if_pos h.symm]
   lia
theorem HF:∀n here as bs,as.length+bs.length<=n->Both here as bs →
  (∀r∈yL n here as bs,okS (r.1,r.2.1)/\(∀h x,here=some h->r.1=some x->h<=x)/\∀p,hasS (r.1,r.2.1) p=true->(∀h,here=some h->h<=p)->atB p as=r.2.2.1/\atB p bs=r.2.2.2) ∧
  ∀p,as≠[]->(∀h,here=some h->h<=p)->∃r∈yL n here as bs,atB p as=r.2.2.1/\atB p bs=r.2.2.2
 |0,here,as,bs,hn,_=>by have:as=[]:=List.eq_nil_of_length_eq_zero (by omega);exact⟨λr hr=>(by unfold yL at hr;cases hr),λp h=>(h this).elim⟩
 |n+1,here,as,bs,hn,hB=>by
   rcases hB with⟨rfl,rfl⟩|⟨ha,hb⟩
   . exact⟨λr hr=>(by unfold yL at hr;cases hr),λp h=>(h rfl).elim⟩
   . cases as with
     |nil=>exact ha.elim
     |cons a as=>
       cases bs with
       |nil=>exact hb.elim
       |cons b bs=>
         have two:=IT a b as bs;have bs':=EN ha hb;simp only[aG]at hn;generalize he:qX a.2.1 b.2.1=e at *;have ih:=HF n e (stp e (a::as)) (stp e (b::bs)) (by omega) bs';have beyond:∀h x,here=some h->e=some x->h<x:=by
          intro h x e1 e2;rw[<-he]at e2;cases h1:a.2.1 with
          |none=>
            rw[h1]at e2;cases h2:b.2.1 with
            |none=>rw[h2]at e2;cases e2
            |some y=>rw[h2]at e2;cases e2;exact hb.1 h _ e1 h2
          |some z=>
            rw[h1]at e2;have g1:=ha.1 h z e1 h1;cases h2:b.2.1 with
            |none=>rw[h2]at e2;cases e2;exact g1
            |some y=>rw[h2]at e2;cases e2;have g2:=hb.1 h y e1 h2;omega
         have inA:∀p,(∀x,e=some x->p<x)->befB p a=true/\befB p b=true:=by
          intro p hp;rw[<-he]at hp;unfold befB;cases h1:a.2.1 with
          |none=>
            cases h2:b.2.1 with
            |none=>exact⟨rfl,rfl⟩
            |some y=>rw[h1,h2]at hp;have:=hp y rfl;exact⟨rfl,by simpa using this⟩
          |some z=>
            cases h2:b.2.1 with
            |none=>rw[h1,h2]at hp;have:=hp z rfl;exact⟨by simpa using this,rfl⟩
            |some y=>rw[h1,h2]at hp;have:=hp _ rfl;exact⟨by simp;omega,by simp;omega⟩
         have pf:yL (n+1) here (a::as) (b::bs)=(here,e,a.2.2,b.2.2)::yL n e (stp e (a::as)) (stp e (b::bs)):=by rw[yL,he]
         rw[pf];refine⟨λr hr=>?_,λp _ hp=>?_⟩
         . rcases aA.mp hr with rfl|hr
           . refine ⟨λx y e1 e2=>beyond x y e1 e2,λh x e1 e2=>?_,λp hp _=>?_⟩
             . have e2:here=some x:=e2;rw[e1]at e2;cases e2;omega
             . obtain⟨q1,q2⟩:=inA p λx hx=>by
                unfold hasS at hp;simp only[hx,bJ,decide_eq_true_eq]at hp;exact hp.2
               exact⟨LD q1,LD q2⟩
           . obtain ⟨g1,g2,g3⟩:=ih.1 r hr;have en:e≠none:=by intro hz;rw[hz,(uO ha hb (by rw[he,hz])).1,vC]at hr;cases hr
             obtain⟨x,hx⟩:∃x,e=some x:=by cases e with|none=>exact(en rfl).elim|some x=>exact⟨x,rfl⟩
             have lowR:∀p,hasS (r.1,r.2.1) p=true->x<=p:=by
              intro p hp;cases hr1:r.1 with
              |some y=>have:=g2 x y hx hr1;unfold hasS at hp;simp only[hr1,bJ,decide_eq_true_eq]at hp;omega
              |none=>exact(MQ n e _ _ r bs' hr (by rw[hx];simp) hr1).elim
             refine⟨g1,λh y e1 e2=>?_,λp hp hh=>?_⟩
             . have:=beyond h x e1 hx;have:=g2 x y hx e2;omega
             . have hxp:=lowR p hp;obtain ⟨q1,q2⟩:=g3 p hp λh e1=>by rw [hx]at e1;cases e1;exact hxp
               rw[PB (λy e1=>by rw[hx]at e1;cases e1;exact hxp) (λz=>en z)]at q1 q2;exact⟨q1,q2⟩
         . by_cases hx:∀ x,e=some x->p < x
           . obtain⟨q1,q2⟩:=inA p hx;exact⟨_,aE,LD q1,LD q2⟩
           . obtain ⟨x,hx⟩:=Classical.not_forall.mp hx;obtain ⟨hx,hpx⟩:=Classical.not_imp.mp hx;have en:e=none->False:=λz=>by rw [z]at hx;cases hx
             have hle:∀y,e=some y->y<=p:=λy e1=>by rw[hx]at e1;cases e1;omega
             have ne:stp e (a::as)≠[]:=by
              rcases bs' with⟨h1,h2⟩|⟨h1,h2⟩
              . exfalso;have k1:=PB (a:=a) (as:=as) hle en;rw [h1]at k1;rw [jX]at h1 h2;split at h1
                . rename_i ha1;split at h2
                  . have:=ha.2.2 x (by rw[ha1,hx]);rw[h1]at this;exact this
                  . cases h2
                . cases h1
              . intro z;rw[z]at h1;exact h1
             obtain⟨r,hr,q1,q2⟩:=ih.2 p ne hle;rw[PB hle en]at q1 q2;exact⟨r,aH _ hr,q1,q2⟩
def aDp(l:List R4):flats (l.map r4D)=true:=by
 induction l with
 |nil=>simp
 |cons a r ih=>simp[ih,r4D]
def rJ{α:Type}{A as:List α}{a:α}(h:A.drop i=a::as):A[i]?=some a/\A.drop (i+1)=as/\i<A.length:=by
 have hi:i<A.length:=by
  rcases Nat.lt_or_ge i A.length with h1|h1
  . exact h1
  . rw[List.drop_eq_nil_of_le h1]at h;cases h
 rw[eA hi]at h;cases h;exact⟨aU hi,rfl,hi⟩
def ix_rw{A:List Rw}{i:Nat}(h:A[i]?=some a):ixD (.lst (A.map rwD)) (.int (i:Int))=some (rwD a):=by have hi:=(aV.mp h).1;rw[yJ _ (by lia) (by simp;lia),ZR,aP,h];rfl
theorem AF R0 R1(A B:List Rw):∀m i j here acc x8 x9 x10,(A.drop i).length+(B.drop j).length<=m->Both here (A.drop i) (B.drop j)->acc.length+m<16777216->∀n,m<n →
  ∃y5 y6 y7 y8 y9 y10,nD (qC (zH ltD (zJ 6) (callB lenD (zA (zJ 2) zS)))) lW n [R0,R1,.v (.lst (A.map rwD)),.v (.lst (B.map rwD)),.own (acc.map r4D),.v (oi here),.v (.int (i:Int)),.v (.int (j:Int)),x8,x9,x10] =
   some (.nx [R0,R1,.v (.lst (A.map rwD)),.v (.lst (B.map rwD)),.own ((acc++yL m here (A.drop i) (B.drop j)).map r4D),y5,y6,y7,y8,y9,y10])
 |m,i,j,here,acc,x8,x9,x10,hm,hB,hz,0,hn=>by omega
 |m,i,j,here,acc,x8,x9,x10,hm,hB,hz,n+1,hn=>by
   cases hA:A.drop i with
   |nil=>
     have hi:A.length<=i:=List.drop_eq_nil_iff.mp hA;have hi':¬(i:Int)<(A.length:Int):=by omega
     refine⟨.v (oi here),.v (.int (i:Int)),.v (.int (j:Int)),x8,x9,x10,?_⟩;have tt:(qC (zH ltD (zJ 6) (callB lenD (zA (zJ 2) zS)))) [R0,R1,.v (.lst (A.map rwD)),.v (.lst (B.map rwD)),.own (acc.map r4D),.v (oi here),.v (.int (i:Int)),.v (.int (j:Int)),x8,x9,x10]=some false:=by simp[hi]
     rw[vC,nD,tt];simp
   |cons a as=>
     rw[hA]at hB hm;rcases hB with⟨h,_⟩|⟨ha,hb⟩
     . cases h
     . cases hBd:B.drop j with
       |nil=>rw[hBd]at hb;exact hb.elim
       |cons b bs=>
         rw[hBd]at hb hm;cases m with
         |zero=>simp at hm
         |succ m=>
           obtain⟨ga,da,hi⟩:=rJ hA;obtain⟨gb,db,hj⟩:=rJ hBd;have i1:=ix_rw ga;have i2:=ix_rw gb;have two:=IT a b as bs;have bst:=EN ha hb;have ee:=NR a.2.1 b.2.1;simp only[aG]at hm;have pf:yL (m+1) here (a::as) (b::bs)=(here,qX a.2.1 b.2.1,a.2.2,b.2.2)::yL m (qX a.2.1 b.2.1) (stp (qX a.2.1 b.2.1) (a::as)) (stp (qX a.2.1 b.2.1) (b::bs)):=by rw[yL]
           rw[pf];generalize qX a.2.1 b.2.1=e at *;have z:acc.length<16777216:=by omega
           have e0:D.tup [oi here,oi e,oi a.2.2,oi b.2.2]=r4D (here,e,a.2.2,b.2.2):=rfl;obtain⟨i',hi',ei⟩:∃i':Nat,A.drop i'=stp e (a::as)/\∀(P Q:List Sl) (x:Sl),P.length=6->(ifG (qC (zH eqD (zH ixD (zJ 8) (zB (.int 1))) (zJ 10))) (augA 6 (zB (.int 1))) qW) (P++[.v (.int (i:Int)),x,.v (rwD a),.v (rwD b),.v (oi e)])=some (.nx (P++[.v (.int (i':Int)),x,.v (rwD a),.v (rwD b),.v (oi e)])):=by
            by_cases h:a.2.1=e
            . refine ⟨i+1,by rw [jX,if_pos h,da],λP Q x hP=>?_⟩
              match P,hP with
              |[p0,p1,p2,p3,p4,p5],_=>simp[h,augA]
            . refine ⟨i,by rw [jX,if_neg h,hA],λP Q x hP=>?_⟩
              match P,hP with
              |[p0,p1,p2,p3,p4,p5],_=>simp[h]
           obtain⟨j',hj',ej⟩:∃j':Nat,B.drop j'=stp e (b::bs)/\∀(P Q:List Sl),P.length=7->(ifG (qC (zH eqD (zH ixD (zJ 9) (zB (.int 1))) (zJ 10))) (augA 7 (zB (.int 1))) qW) (P++[.v (.int (j:Int)),.v (rwD a),.v (rwD b),.v (oi e)])=some (.nx (P++[.v (.int (j':Int)),.v (rwD a),.v (rwD b),.v (oi e)])):=by
            by_cases h:b.2.1=e
            . refine ⟨j+1,by rw [jX,if_pos h,db],λP Q hP=>?_⟩
              match P,hP with
              |[p0,p1,p2,p3,p4,p5,p6],_=>simp[h,augA]
            . refine ⟨j,by rw [jX,if_neg h,hBd],λP Q hP=>?_⟩
              match P,hP with
              |[p0,p1,p2,p3,p4,p5,p6],_=>simp[h]
           have ei':=ei [R0,R1,.v (.lst (A.map rwD)),.v (.lst (B.map rwD)),.own ((acc++[(here,e,a.2.2,b.2.2)]).map r4D),.v (oi here)] [] (.v (.int (j:Int))) rfl;have ej':=ej [R0,R1,.v (.lst (A.map rwD)),.v (.lst (B.map rwD)),.own ((acc++[(here,e,a.2.2,b.2.2)]).map r4D),.v (oi here),.v (.int (i':Int))] [] rfl;simp only[dF,cM]at ei' ej';have turn:lW [R0,R1,.v (.lst (A.map rwD)),.v (.lst (B.map rwD)),.own (acc.map r4D),.v (oi here),.v (.int (i:Int)),.v (.int (j:Int)),x8,x9,x10]=some (.nx [R0,R1,.v (.lst (A.map rwD)),.v (.lst (B.map rwD)),.own ((acc++[(here,e,a.2.2,b.2.2)]).map r4D),.v (oi e),.v (.int (i':Int)),.v (.int (j':Int)),.v (rwD a),.v (rwD b),.v (oi e)]):=by
            unfold lW
            rw[zU (ds':=[R0,R1,.v (.lst (A.map rwD)),.v (.lst (B.map rwD)),.own (acc.map r4D),.v (oi here),.v (.int (i:Int)),.v (.int (j:Int)),.v (rwD a),x9,x10]) (by simp[i1]),
             zU (ds':=[R0,R1,.v (.lst (A.map rwD)),.v (.lst (B.map rwD)),.own (acc.map r4D),.v (oi here),.v (.int (i:Int)),.v (.int (j:Int)),.v (rwD a),.v (rwD b),x10]) (by simp[i2]),
             zU (ds':=[R0,R1,.v (.lst (A.map rwD)),.v (.lst (B.map rwD)),.own (acc.map r4D),.v (oi here),.v (.int (i:Int)),.v (.int (j:Int)),.v (rwD a),.v (rwD b),.v (oi e)]) (by simp[ee]),
             zU (ds':=[R0,R1,.v (.lst (A.map rwD)),.v (.lst (B.map rwD)),.own ((acc++[(here,e,a.2.2,b.2.2)]).map r4D),.v (oi here),.v (.int (i:Int)),.v (.int (j:Int)),.v (rwD a),.v (rwD b),.v (oi e)]) (by simp[z,e0]),zU ei',zU ej']
            simp
           obtain⟨y5,y6,y7,y8,y9,y10,ih⟩:=AF R0 R1 A B m i' j' e (acc++[(here,e,a.2.2,b.2.2)]) (.v (rwD a)) (.v (rwD b)) (.v (oi e)) (by rw[hi',hj'];omega) (by rw[hi',hj'];exact bst) (by simp;omega) n (by omega);refine⟨y5,y6,y7,y8,y9,y10,?_⟩;rw[hi',hj',fN]at ih;have hlt:(i:Int)<(A.length:Int):=by omega
           have tt:(qC (zH ltD (zJ 6) (callB lenD (zA (zJ 2) zS)))) [R0,R1,.v (.lst (A.map rwD)),.v (.lst (B.map rwD)),.own (acc.map r4D),.v (oi here),.v (.int (i:Int)),.v (.int (j:Int)),x8,x9,x10]=some true:=by simp[hi]
           rw[nD,tt];simp only[aO,if_true,turn];exact ih
def WK(o1:Ord ps)(o2:Ord qs)(h1:ps.length<=10000)(h2:qs.length<=10000):mQ [.lst (ps.map rwD),.lst (qs.map rwD)]=some (.fresh ((yL ((jN ps).length+(jN qs).length) none (jN ps) (jN qs)).map r4D)):=by
 have l1:=xN ps;have l2:=xN qs;obtain⟨y5,y6,y7,y8,y9,y10,e⟩:=AF (.v (.lst (ps.map rwD))) (.v (.lst (qs.map rwD))) (jN ps) (jN qs) ((jN ps).length+(jN qs).length) 0 0 none [] .no .no .no (by simp) (.inr ⟨(yA o1).rem,(yA o2).rem⟩) (by simp;lia) 100000 (by lia);have r1:=IW ps (by lia);have r2:=IW qs (by lia);simp[List.drop_zero,cS,cM,JN,show(((0:Nat):Int))=0 from rfl]at e;have fl:=aDp (yL ((jN ps).length+(jN qs).length) none (jN ps) (jN qs));generalize jN ps=A at *;generalize jN qs=B at *;refine yE ?_;unfold oW
 rw[zU (ds':=[.v (.lst (ps.map rwD)),.v (.lst (qs.map rwD)),.v (.lst (A.map rwD)),.no,.no,.no,.no,.no,.no,.no,.no]) (by simp[args,r1]),
  zU (ds':=[.v (.lst (ps.map rwD)),.v (.lst (qs.map rwD)),.v (.lst (A.map rwD)),.v (.lst (B.map rwD)),.no,.no,.no,.no,.no,.no,.no]) (by simp[r2]),
  zU (ds':=[.v (.lst (ps.map rwD)),.v (.lst (qs.map rwD)),.v (.lst (A.map rwD)),.v (.lst (B.map rwD)),.own [],.no,.no,.no,.no,.no,.no]) (by simp),
  zU (ds':=[.v (.lst (ps.map rwD)),.v (.lst (qs.map rwD)),.v (.lst (A.map rwD)),.v (.lst (B.map rwD)),.own [],.v .non,.no,.no,.no,.no,.no]) (by simp),
  zU (ds':=[.v (.lst (ps.map rwD)),.v (.lst (qs.map rwD)),.v (.lst (A.map rwD)),.v (.lst (B.map rwD)),.own [],.v .non,.v (.int 0),.no,.no,.no,.no]) (by simp),
  zU (ds':=[.v (.lst (ps.map rwD)),.v (.lst (qs.map rwD)),.v (.lst (A.map rwD)),.v (.lst (B.map rwD)),.own [],.v .non,.v (.int 0),.v (.int 0),.no,.no,.no]) (by simp),zU e]
 simp[fl]
def FG s(h:okS s):∃p,hasS s p=true/\oE [spD s]=some (.val (.int p)):=by
 obtain⟨a,b⟩:=s;unfold oE runG oC;cases a with
 |some x=>
   refine⟨x,?_,by simp[args]⟩;cases b with
   |none=>simp[hasS]
   |some y=>have:=h x y rfl rfl;simp[hasS,this]
 |none=>
   cases b with
   |some y=>exact⟨y-1,by simp[hasS];lia,by simp[args]⟩
   |none=>exact⟨0,by simp[hasS],by simp[args]⟩
def sV(m:MapF (r::t)):MapF t:=
 ⟨⟨λz hz=>m.ord.ok z (aH _ hz),(bH.mp m.ord.pw).2⟩,λz hz=>m.val z (aH _ hz),λi a b h1 h2=>m.adj (i+1) a b (by simpa using h1) (by simpa using h2)⟩
def uI r(h:ok3 r):∃p,has3 r p=true:=by obtain⟨p,hp,_⟩:=FG (r.1,r.2.1) h;exact⟨p,hp⟩
def later(o:Ord (r::t))(hz:z∈t)(hp:has3 z p=true):∃x y,r.2.1=some x/\z.1=some y/\x<=y/\y<=p:=by obtain⟨x,y,h1,h2,h3⟩:=(bH.mp o.pw).1 z hz;refine⟨x,y,h1,h2,h3,?_⟩;unfold has3 hasS at hp;simp[h2,bJ,decide_eq_true_eq]at hp;exact hp.1
def jH r p:has3 r p=true↔(∀x,r.1=some x->x<=p)/\∀y,r.2.1=some y->p<y:=by obtain⟨a,b,v⟩:=r;unfold has3 hasS;cases a<;>cases b<;>simp
def aCy(m:MapF (r::t))(k:MapF (s::u))(h:∀p v,Tel (r::t) p v->Tel (s::u) p v):∀b,s.1=some b->∃a,r.1=some a/\b<=a:=by
 intro b hb;obtain⟨v,hv⟩:∃v,r.2.2=some v:=by
  cases hv:r.2.2 with
  |none=>exact(m.val r aE hv).elim
  |some v=>exact⟨v,rfl⟩
 have ge:∀p,has3 r p=true->b<=p:=by
  intro p hp;obtain⟨z,hz,hzp,_⟩:=h p v ⟨r,aE,hp,hv⟩;rcases aA.mp hz with rfl|hz
  . exact((jH _ p).mp hzp).1 b hb
  . obtain ⟨x,y,h1,h2,h3,h4⟩:=later k.ord hz hzp;have:=k.ord.ok s aE b x hb h1
    lia
 cases ha:r.1 with
 |some a=>refine⟨a,rfl,ge a ((jH r a).mpr ⟨λx e=>by rw[ha]at e;cases e;lia,λy e=>m.ord.ok r aE a y ha e⟩)⟩
 |none=>
   cases hy:r.2.1 with
   |none=>
     have:=ge (b-1) ((jH r _).mpr ⟨(λx e=>by rw[ha]at e;cases e),λy e=>by rw[hy]at e;cases e⟩)
     lia
   |some y=>
     have:=ge (min (b-1) (y-1)) ((jH r _).mpr ⟨(λx e=>by rw[ha]at e;cases e),λy' e=>by rw[hy]at e;cases e;lia⟩)
     lia
def aEk(m:MapF (r::t))(k:MapF (s::u))(h:∀p v,Tel (s::u) p v->Tel (r::t) p v)(hl:r.1=s.1)(hv:r.2.2=s.2.2):∀x,r.2.1=some x->∃y,s.2.1=some y/\y<=x:=by
 intro x hx;obtain⟨v,hv'⟩:∃v,r.2.2=some v:=by
  cases hv:r.2.2 with
  |none=>exact(m.val r aE hv).elim
  |some v=>exact⟨v,rfl⟩
 have key:has3 s x=true->False:=by
  intro hs;obtain⟨z,hz,hzp,hzv⟩:=h x v ⟨s,aE,hs,by rw[<-hv];exact hv'⟩;rcases aA.mp hz with rfl|hz
  . have:=((jH _ x).mp hzp).2 x hx
    lia
  . cases t with
    |nil=>cases hz
    |cons r' t'=>
      obtain⟨x',y,h1,h2,h3,h4⟩:=later m.ord hz hzp;rw[hx]at h1;have hz':z=r':=by
       rcases aA.mp hz with rfl|hz
       . rfl
       . exfalso;obtain ⟨x2,y2,k1,k2,k3,k4⟩:=later (sV m).ord hz hzp;obtain ⟨x3,y3,j1,j2,j3⟩:=(bH.mp m.ord.pw).1 r' aE;rw [hx]at j1;have:=(sV m).ord.ok r' aE y3 x2 j2 k1
         lia
      subst hz';have:y=x:=by lia
      subst this;exact m.adj 0 r z rfl rfl ⟨by rw[hx,h2],by rw[hv',hzv]⟩
 have lowx:∀a,s.1=some a->a<=x:=by
  intro a ha;have:=m.ord.ok r aE a x (by show r.1=some a;rw[hl,ha]) hx
  lia
 cases hy:s.2.1 with
 |none=>exact(key ((jH s x).mpr ⟨lowx,λy e=>by rw[hy]at e;cases e⟩)).elim
 |some y=>
   refine⟨y,rfl,?_⟩;rcases Int.lt_or_le x y with hlt|hle
   . exact(key ((jH s x).mpr ⟨lowx,λy' e=>by rw[hy]at e;cases e;exact hlt⟩)).elim
   . exact hle
theorem UF:∀{ps qs:List Rw},MapF ps->MapF qs->(∀p v,Tel ps p v↔Tel qs p v)->ps=qs
 |[],[],_,_,_=>rfl
 |[],s::u,_,k,h=>by
   obtain⟨p,hp⟩:=uI s (k.ord.ok s aE);cases hv:s.2.2 with
   |none=>exact(k.val s aE hv).elim
   |some v=>obtain⟨z,hz,_⟩:=(h p v).mpr ⟨s,aE,hp,hv⟩;cases hz
 |s::u,[],k,_,h=>by
   obtain⟨p,hp⟩:=uI s (k.ord.ok s aE);cases hv:s.2.2 with
   |none=>exact(k.val s aE hv).elim
   |some v=>obtain⟨z,hz,_⟩:=(h p v).mp ⟨s,aE,hp,hv⟩;cases hz
 |r::t,s::u,m,k,h=>by
   have l1:=aCy m k λp v=>(h p v).mp;have l2:=aCy k m λp v=>(h p v).mpr;have hl:r.1=s.1:=by
    cases h1:r.1 with
    |none=>
      cases h2:s.1 with
      |none=>rfl
      |some b=>obtain⟨a,ha,_⟩:=l1 b h2;rw[h1]at ha;cases ha
    |some a=>obtain⟨b,hb,hab⟩:=l2 a h1;obtain⟨a',ha',hba⟩:=l1 b hb;rw[h1]at ha';cases ha';rw[hb];congr 1;omega
   have hv:r.2.2=s.2.2:=by
    obtain⟨p,hp1,hp2⟩:∃p,has3 r p=true/\has3 s p=true:=by
     have okr:=m.ord.ok r aE;have oks:=k.ord.ok s aE;cases h1:r.1 with
     |some a=>
       have h2:s.1=some a:=by rw[<-hl,h1]
       exact⟨a,(jH r a).mpr ⟨λx e=>by rw[h1]at e;cases e;omega,λy e=>okr a y h1 e⟩,(jH s a).mpr ⟨λx e=>by rw[h2]at e;cases e;omega,λy e=>oks a y h2 e⟩⟩
     |none=>
       have h2:s.1=none:=by rw[<-hl,h1]
       have lowp:∃p:Int,(∀y,r.2.1=some y->p<y)/\∀y,s.2.1=some y->p<y:=by
        cases r.2.1 with
        |none=>
          cases s.2.1 with
          |none=>exact⟨0,(λ_ e=>nomatch e),(λ_ e=>nomatch e)⟩
          |some y=>exact⟨y-1,(λ_ e=>nomatch e),λz e=>by cases e;omega⟩
        |some x=>
          cases s.2.1 with
          |none=>exact⟨x-1,λz e=>by cases e;omega,(λ_ e=>nomatch e)⟩
          |some y=>exact⟨min x y-1,λz e=>by cases e;omega,λz e=>by cases e;omega⟩
       obtain⟨p,q1,q2⟩:=lowp;exact⟨p,(jH r p).mpr ⟨(λx e=>by rw[h1]at e;cases e),q1⟩,(jH s p).mpr ⟨(λx e=>by rw[h2]at e;cases e),q2⟩⟩
    cases hv:r.2.2 with
    |none=>exact(m.val r aE hv).elim
    |some v=>
      obtain⟨z,hz,hzp,hzv⟩:=(h p v).mp ⟨r,aE,hp1,hv⟩;rcases aA.mp hz with rfl|hz
      . exact hzv.symm
      . exfalso;obtain⟨x,y,e1,e2,e3,e4⟩:=later k.ord hz hzp;have:=((jH s p).mp hp2).2 x e1;omega
   have b1:=aEk m k (λp v=>(h p v).mpr) hl hv;have b2:=aEk k m (λp v=>(h p v).mp) hl.symm hv.symm;have hb:r.2.1=s.2.1:=by
    cases h1:r.2.1 with
    |none=>
      cases h2:s.2.1 with
      |none=>rfl
      |some y=>obtain⟨x,hx,_⟩:=b2 y h2;rw[h1]at hx;cases hx
    |some x=>obtain⟨y,hy,hyx⟩:=b1 x h1;obtain⟨x',hx',hxy⟩:=b2 y hy;rw[h1]at hx';cases hx';rw[hy];congr 1;omega
   have hrs:r=s:=by obtain⟨a,b,c⟩:=r;obtain⟨a',b',c'⟩:=s;simp only at hl hb hv;rw[hl,hb,hv]
   subst hrs;have tl:∀{t':List Rw},MapF (r::t')->∀p v,Tel t' p v↔Tel (r::t') p v/\¬has3 r p=true:=by
    intro t' m' p v;constructor
    . rintro⟨z,hz,hzp,hzv⟩;refine⟨⟨z,aH _ hz,hzp,hzv⟩,λhr=>?_⟩;obtain⟨x,y,e1,e2,e3,e4⟩:=later m'.ord hz hzp;have:=((jH r p).mp hr).2 x e1;omega
    . rintro ⟨⟨z,hz,hzp,hzv⟩,hr⟩;rcases aA.mp hz with rfl|hz
      . exact(hr hzp).elim
      . exact⟨z,hz,hzp,hzv⟩
   rw[UF (sV m) (sV k) λp v=>by rw[tl m,tl k,h]]
def put_eq(m:MapF ps)(hl:ps.length<=100000)(h:okS s):iN [.lst (ps.map rwD),spD s,oi v]=some (.fresh ((put1 ps (s,v)).map rwD)):=by obtain⟨e1,e2⟩:=SV m hl (v:=v) h;have fl:=jO (put1 ps (s,v));unfold iN runG BX;simp[args,e1,e2,fl]
open Builtin.Int (intBits)
structure DrawM(rows:List Rw)(s:Int):Prop where
 map:MapF rows
 fin:∀r∈rows,∃lo bh,r.1=some lo/\r.2.1=some bh/\bh<=s
 last:∀r,rows.getLast?=some r->r.2.1=some s
theorem DrawM.nil(s:Int):DrawM [] s:=⟨MapF.nil,(λ_ h=>nomatch h),λr h=>by simp at h⟩
theorem vG(P:Nat->List Sl->Prop) N(H:∀k,k<N->∀ds,P k ds->∃ds1 ds2,ga (.int (k:Int)) ds=some ds1/\body ds1=some (.nx ds2)/\P (k+1) ds2) :
  ∀n k ds,k+n=N->P k ds->∃ds',qP ga body ((List.range' k n).map λ(j:Nat)=>D.int (0+(j:Int))) ds=some (.nx ds')/\P N ds'
 | 0, k, ds, h, hp => ⟨ds, rfl, by have : k = N := by omega
                                   subst this;exact hp⟩
 |n+1,k,ds,h,hp=>by
   obtain⟨ds1,ds2,e1,e2,h2⟩:=H k (by omega) ds hp;obtain⟨ds',e,h'⟩:=vG P N H n (k+1) ds2 (by omega) h2;refine⟨ds',?_,h'⟩;rw[List.range'_succ,aK,qP];have:(0+(k:Int))=(k:Int):=by omega
   rw[this,e1,aO,e2,aO];exact e
def nE n:fT 0 n=(List.range' 0 n).map λ(j:Nat)=>D.int (0+(j:Int)):=by rw[fT,List.range_eq_range']
@[simp]theorem notD_rw r:notD (rwD r) .non=some (.bl true):=rfl
def QM{t:FT}{f g:FS}{ds:List Sl}(h:t ds=some true):ifG t f g ds=f ds:=by simp[h]
def rS{t:FT}{f g:FS}{ds:List Sl}(h:t ds=some false):ifG t f g ds=g ds:=by simp[h]
open NumText
def kitS:kitF "str" "str" = some true/\kitF "int" "str" = some false/\kitF "NoneType" "str" = some false/\kitF "tuple" "str" = some false/\kitF "list" "str" = some false/\kitF "str" "tuple" = some false/\kitF "str" "bool" = some false:=by refine⟨?_,?_,?_,?_,?_,?_,?_⟩<;>decide +kernel
@[simp]def isi_str_str x:isiD "str" (.str x)=some (.bl true):=by simp[isiD,tyD,kitS.1]
def t_empty:Str.ofString "" = txS []:=by decide
def Ltr(cs:List Nat):Prop:=∀c∈cs,97<=c/\c<=122
def Nm(cs:List Nat):Prop:=1<=cs.length/\cs.length<=8/\Ltr cs
noncomputable def abcL:List Nat:=[97,98,99,100,101,102,103,104,105,106,107,108,109,110,111,112,113,114,115,116,117,118,119,120,121,122]
def t_abc:Str.ofString "abcdefghijklmnopqrstuvwxyz" = txS abcL:=by decide
def mem_abc(h:97<=c/\c<=122):c∈abcL:=by
 have:abcL=List.range' 97 26:=by decide
 rw[this,List.mem_range'_1]
 lia
def Ltr.asc(h:Ltr cs):Asc cs:=λc hc=>by have:=h c hc;lia
def Ltr.app(h:Ltr a)(g:Ltr b):Ltr (a++b):=λc hc=>(bQ.mp hc).elim (h c) (g c)
theorem Ltr.take(h:Ltr a) n:Ltr (a.take n):=λc hc=>h c (OP hc)
theorem Ltr.drop(h:Ltr a) n:Ltr (a.drop n):=λc hc=>h c (OQ hc)
def QK(h:Nm cs):fH [.str (txS cs)]=some (.val (.bl true)):=by
 obtain⟨h1,h8,hL⟩:=h;have lf:=len_tx cs (by lia);have comp:compG (viaA (zW 0) asS) [none] (zL 0) (λ_=>some true) (zH inS (zJ 0) (zB (.str (Str.ofString "abcdefghijklmnopqrstuvwxyz")))) [.v (.str (txS cs))]=some (cs.map λ_=>D.bl true):=by rw[t_abc];refine yM (items:=cs.map λc=>D.str (txS [c])) (by simp;rfl) (by simp;lia) ?_;rw[xM (λc=>D.str (txS [c])) (λc=>D.bl true) cs];intro c hc;have:=in_one abcL c;rw[decide_eq_true (mem_abc (hL c hc))]at this;exact⟨_,rfl,by simp[qY,this]⟩
 have al:allD [.lst (cs.map λ_=>D.bl true)]=some (.bl true):=by
  have e:(cs.map λ_=>D.bl true)=(cs.map λ_=>true).map D.bl:=by simp
  rw[e,OF];simp
 refine yE ?_;unfold nU;have ar:args 1 [.str (txS cs)]=[.v (.str (txS cs))]:=by simp[args]
 have k1:¬((cs.length:Int)<1):=by lia
 have k2:¬((8:Int)<(cs.length:Int)):=by lia
 rw[ar,zU (ds':=[.v (.str (txS cs))]) (by simp),zU (ds':=[.v (.str (txS cs))]) (by simp[lf,k1,k2])];simp only[retG_eq,aEi,aEc,nilA_eq,mkL_eq,comp,bW,aO,al,flatR];simp
end FL
section
open FL
end
namespace FL
open Builtin.Int (intBits)
def NF c:∃v,kO [.int c]=some (.val (.int v)):=by have p1:powD (.int 10) (.int 60)=some (.int (10^60)):=pow10 (by decide) (by decide);have p2:=pow1060;have m1:xF (.int 2) (.int ((10^60)^8))=some (.int (2*(10^60)^8)):=qU (.of_left (qE (by decide)));have r1:jG (.int c) (.int (2*(10^60)^8+1))=some (.int (c%(2*(10^60)^8+1))):=xE c (by decide);unfold kO runG rL;refine⟨c%(2*(10^60)^8+1)-(10^60)^8,?_⟩;simp[-Int.reducePow,-Nat.reducePow,args,p1,p2,m1,r1]
def ZU a b(h0:0<=r)(h1:r<=1):∃g,(g=a\/g=b)/\ixD (.lst [.int a,.int b]) (.int r)=some (.int g):=by
 rcases(by lia:r=0\/r=1)with e|e<;>subst e
 . exact⟨a,.inl rfl,by simp⟩
 . exact⟨b,.inr rfl,by simp⟩
@[simp]theorem sltW_eq(f:FE)(lo hi:List Sl->Option (Option Int))(ds:List Sl):sltW f lo hi ds=(f ds).bind λd=>(lo ds).bind λa=>(hi ds).bind λb=>match d with
 |.tup l=>some (.tup (cutD l a b))
 |_=>none:=rfl
def opt_ext{a b:Option Int}(h:∀w,a=some w↔b=some w):a=b:=by
 cases a with
 |none=>
   cases b with
   |none=>rfl
   |some w=>exact((h w).mpr rfl)
 |some v=>exact((h v).mp rfl).symm
def aAu(m:MapF ps)(h:okS r.1) p:valL (put1 ps r) p=if hasS r.1 p=true then r.2 else valL ps p:=by
 refine opt_ext λw=>?_;rw[jT (DG m h).ord,aAv m h];split
 . exact Iff.rfl
 . rw[jT m.ord]
open Builtin.Int (intBits)
noncomputable def ovA:FS:=(ifG (andT (qC (zH eqD (zH jG (zJ 3) (zB (.int 4))) (zB (.int 0)))) (qC (zH neD (getN 2) (mkL (qD zS))))) (jM 5 (zH subD (zH xB (relVO 2 (zH ixD (zJ 2) (zH jG (zH qR (zJ 3) (zB (.int 4))) (callB lenD (zA (zJ 2) zS))))) (zH jG (zH qR (zJ 3) (zB (.int 1000003))) (zB (.int 3)))) (zB (.int 1)))) qW)
noncomputable def ovB:FS:=(ifG (qC (zH eqD (zH jG (zJ 3) (zB (.int 4))) (zB (.int 1)))) (jM 5 (zH ixD (mkL (qD (zA (zH subD (zH jG (zJ 0) (zH xB (zH xF (zB (.int 2)) (zH powD (zB (.int 10)) (zB (.int 60)))) (zB (.int 1)))) (zH powD (zB (.int 10)) (zB (.int 60)))) (zA (qZ 1 kO (zA (zJ 0) zS)) zS)))) (zH jG (zH qR (zJ 3) (zB (.int 4))) (zB (.int 2))))) qW)
noncomputable def ovC:FS:=(jM 6 (zH xB (zH xB (zJ 5) (zB (.int 1))) (zH ixD (mkL (qD (zA (zH jG (zH qR (zJ 4) (zB (.int 4))) (zB (.int 3))) (zA (zH jG (zH qR (zJ 4) (zB (.int 4))) (zB (.int 40))) (zA (zH jG (zH xF (zJ 0) (zB (.int 69621))) (zH powD (zB (.int 10)) (zB (.int 60)))) (zA (zB (.int 0)) zS)))))) (zH jG (zJ 4) (zB (.int 4))))))
noncomputable def ovD:FS:=(ifG (andT (qC (zH eqD (zH jG (zJ 4) (zB (.int 4))) (zB (.int 3)))) (qC (zH neD (getN 2) (mkL (qD zS))))) (jM 6 (callB mxD (zA (zJ 6) (zA (relVO 2 (zH ixD (zJ 2) (zH jG (zH qR (zJ 4) (zB (.int 4))) (callB lenD (zA (zJ 2) zS))))) zS)))) qW)
noncomputable def overG(p1 p2 p3 q1 q2 q3:Int):FX:=(seqR (jM 3 (zH jG (zH xB (zH xB (zH xF (zJ 0) (zB (.int p1))) (zH xF (zH xF (zJ 1) (zJ 1)) (zB (.int p2)))) (zB (.int p3))) (zB (.int 2147483647))))
 (seqR (jM 3 (zH jG (zH xF (zJ 3) (zJ 3)) (zB (.int 2147483563))))
 (seqR (jM 4 (zH jG (zH xB (zH xB (zH xF (zJ 0) (zB (.int q1))) (zH xF (zH xF (zJ 1) (zJ 1)) (zB (.int q2)))) (zB (.int q3))) (zB (.int 2147483629))))
 (seqR (jM 4 (zH jG (zH xF (zJ 4) (zJ 3)) (zB (.int 2147483549))))
 (seqR (jM 5 (zH subD (zH jG (zH qR (zJ 3) (zB (.int 4))) (zB (.int 61))) (zB (.int 30))))
 (seqR ovA
 (seqR ovB
 (seqR ovC
 (seqR ovD
 (seqR (appP (varP 2) (zW 5))
 (seqR (appP (varP 2) (zW 6))
 (seqR (ifG (qC (zH ltD (zH jG (zH qR (zJ 4) (zB (.int 2003))) (zB (.int 12))) (zB (.int 2)))) (jM 5 (zB .non)) qW)
 (seqR (ifG (qC (zH (inD false) (zH jG (zH qR (zJ 4) (zB (.int 2003))) (zB (.int 12))) (mkT (qD (zA (zB (.int 1)) (zA (zB (.int 2)) zS)))))) (jM 6 (zB .non)) qW)
 (vR (mkT (qD (zA (zW 5) (zA (zW 6) zS))))))))))))))))))
noncomputable def oT(es:List Int):OT:=.lst ((es.map D.int).map OT.val)
def TQ es:otD (oT es)=.lst (es.map D.int):=by unfold oT;rw[otD,xJ]
def IX es:refO (oT es)=true:=rfl
def zV(h:g ds=some (.nx ds')):seqR g f ds=f ds':=by unfold seqR;rw[h];rfl
def LG(h:ds[i]?=some (.ob r (oT es)))(hf:f ds=some (.int x))(hl:es.length<16777216):appP (varP i) f ds=some (.nx (ds.set i (.ob r (oT (es++[x]))))):=by unfold appP varP;simp[aO,hf];unfold oT at h ⊢;simp[hl,putP,h,putO]
def UW{es:List Int}(hne:0<es.length) q:∃e,jG (.int q) (.int (es.length:Int))=some (.int (q%(es.length:Int)))/\ixD (.lst (es.map D.int)) (.int (q%(es.length:Int)))=some (.int e):=by have i0:=fO q (show(es.length:Int)≠0 by lia);have i1:=iH q (show 0<(es.length:Int) by lia);exact⟨_,xE _ (by lia),ints_at es i0 i1⟩
def in2 x p q:inD false (.int x) (.tup [.int p,.int q])=some (.bl (decide (x=p\/x=q))):=by
 unfold inD;have e1:decide (p=x)=decide (x=p):=by simp[eq_comm]
 have e2:decide (q=x)=decide (x=q):=by simp[eq_comm]
 simp[sclD,e1,e2]
def DU(h:g ((args n l).set p (.ob (some p) T))=some (d,ds))(h2:ds[p]?=some (.ob (some p) T')):lentR g n p T l=some (d,T'):=by unfold lentR;rw[h];simp[h2,obAt]
def aAi(h:ds[i]?=some (.ob r (oT es)))(hf:f (ds.set i (.v (.lst (es.map D.int))))=some (.int x)):relVO i f ds=some (.int x):=by unfold relVO relO;rw[h];simp[TQ,hf,aO];rfl
def ix4_2 x y z u:ixD (.lst [x,y,z,u]) (.int 2)=some z:=by rw[yJ _ (by decide) (by simp)];rfl
def ix4_3 x y z u:ixD (.lst [x,y,z,u]) (.int 3)=some u:=by rw[yJ _ (by decide) (by simp)];rfl
def low_if(c k m:Int) es(hne:0<es.length)(hm:0<=m) x1 x4 x6 lo0:∃lo,∀f,seqR ovA (seqR ovB f) [.v (.int c),x1,.ob (some 2) (oT es),.v (.int m),x4,.v (.int lo0),x6]=f [.v (.int c),x1,.ob (some 2) (oT es),.v (.int m),x4,.v (.int lo),x6]:=by
 have p1:powD (.int 10) (.int 60)=some (.int (10^60)):=pow10 (by decide) (by decide);have a5:xF (.int 2) (.int (10^60))=some (.int (2*10^60)):=qU (.of_left (qE (by decide)));have r3:∀x,jG (.int x) (.int (2*10^60+1))=some (.int (x%(2*10^60+1))):=λx=>xE x (by decide);have nen:neD (.lst (es.map D.int)) (.lst [])=some (.bl true):=by rw[JP (vJ 39 es)];cases es<;>simp_all
 obtain⟨gr,hgr⟩:=NF c;unfold ovA ovB;by_cases h1:m%4=1
 . obtain⟨g,_,hg⟩:=ZU (c%(2*10^60+1)-10^60) gr (r:=m/4%2) (by lia) (by lia);exact⟨g,λf=>by rw[zV (by simp[h1];rfl),zV (by simp[-Int.reducePow,-Nat.reducePow,h1,p1,a5,r3,hgr,hg];rfl)]⟩
 . by_cases h0:m % 4=0
   . obtain⟨e,e1,e2⟩:=UW (es:=es) hne (m/4);refine⟨e+m/1000003%3-1,λf=>?_⟩;have:=aAi (f:=zH ixD (zJ 2) (zH jG (zH qR (zJ 3) (zB (.int 4))) (callB lenD (zA (zJ 2) zS)))) (ds:=[.v (.int c),x1,.ob (some 2) (oT es),.v (.int m),x4,.v (.int lo0),x6]) (i:=2) rfl (x:=e) (by simp[e1,e2]);rw[zV (ds':=[.v (.int c),x1,.ob (some 2) (oT es),.v (.int m),x4,.v (.int (e+m/1000003%3-1)),x6]) (by simp[h0,TQ,nen,this]),zV (by simp[h0];rfl)]
   . exact⟨lo0,λf=>by rw[zV (by simp[h0];rfl),zV (by simp[h1];rfl)]⟩
def beh_if c w lo es(hne:0<es.length)(hc:intBits c<=1048576) x1 x3:∃bh,lo<bh/\∀f,seqR ovC (seqR ovD f) [.v (.int c),x1,.ob (some 2) (oT es),x3,.v (.int w),.v (.int lo),.no]=f [.v (.int c),x1,.ob (some 2) (oT es),x3,.v (.int w),.v (.int lo),.v (.int bh)]:=by
 have p1:powD (.int 10) (.int 60)=some (.int (10^60)):=pow10 (by decide) (by decide);have m1:eB c 69621:=cZ hc (qE (m:=200) (by decide)) (by decide);have q1:(0:Int)<10^60:=by decide
 have nen:neD (.lst (es.map D.int)) (.lst [])=some (.bl true):=by rw[JP (vJ 39 es)];cases es<;>simp_all
 have c3:0<=w/4%3:=by lia
 have c4:0<=w/4%40:=by lia
 have c5:=fO (c*69621) (show(10:Int)^60≠0 by decide);unfold ovC ovD;rcases(by lia:w%4=0\/w%4=1\/w%4=2\/w%4=3)with h|h|h|h
 . exact⟨lo+1+w/4%3,by lia,λf=>by rw[zV (ds':=[.v (.int c),x1,.ob (some 2) (oT es),x3,.v (.int w),.v (.int lo),.v (.int (lo+1+w/4%3))]) (by simp[-Int.reducePow,-Nat.reducePow,p1,qU m1,q1,h]),zV (by simp[h];rfl)]⟩
 . exact⟨lo+1+w/4%40,by lia,λf=>by rw[zV (ds':=[.v (.int c),x1,.ob (some 2) (oT es),x3,.v (.int w),.v (.int lo),.v (.int (lo+1+w/4%40))]) (by simp[-Int.reducePow,-Nat.reducePow,p1,qU m1,q1,h]),zV (by simp[h];rfl)]⟩
 . exact⟨lo+1+c*69621%10^60,by lia,λf=>by rw[zV (ds':=[.v (.int c),x1,.ob (some 2) (oT es),x3,.v (.int w),.v (.int lo),.v (.int (lo+1+c*69621%10^60))]) (by simp[-Int.reducePow,-Nat.reducePow,p1,qU m1,q1,h,ix4_2]),zV (by simp[-Int.reducePow,-Nat.reducePow,h];rfl)]⟩
 . obtain⟨e,e1,e2⟩:=UW (es:=es) hne (w/4);refine⟨max (lo+1) e,by lia,λf=>?_⟩;have:=aAi (f:=zH ixD (zJ 2) (zH jG (zH qR (zJ 4) (zB (.int 4))) (callB lenD (zA (zJ 2) zS)))) (ds:=[.v (.int c),x1,.ob (some 2) (oT es),x3,.v (.int w),.v (.int lo),.v (.int (lo+1))]) (i:=2) rfl (x:=e) (by simp[e1,e2]);rw[zV (ds':=[.v (.int c),x1,.ob (some 2) (oT es),x3,.v (.int w),.v (.int lo),.v (.int (lo+1))]) (by simp[-Int.reducePow,-Nat.reducePow,p1,qU m1,q1,h,ix4_3]),zV (ds':=[.v (.int c),x1,.ob (some 2) (oT es),x3,.v (.int w),.v (.int lo),.v (.int (max (lo+1) e))]) (by simp[h,TQ,nen,this])]
def span_if w lo bh(hlt:lo<bh) x0 x1 x2 x3:∃s,okS s/\∀f,seqR (ifG (qC (zH ltD (zH jG (zH qR (zJ 4) (zB (.int 2003))) (zB (.int 12))) (zB (.int 2)))) (jM 5 (zB .non)) qW) (seqR (ifG (qC (zH (inD false) (zH jG (zH qR (zJ 4) (zB (.int 2003))) (zB (.int 12))) (mkT (qD (zA (zB (.int 1)) (zA (zB (.int 2)) zS)))))) (jM 6 (zB .non)) qW) f) [x0,x1,x2,x3,.v (.int w),.v (.int lo),.v (.int bh)]=f [x0,x1,x2,x3,.v (.int w),.v (oi s.1),.v (oi s.2)]:=by
 rcases(by lia:w/2003%12=0\/w/2003%12=1\/w/2003%12=2\/2<w/2003%12)with h|h|h|h
 . exact⟨(none,some bh),(λx y e1 _=>nomatch e1),λf=>by rw[zV (by simp[h];rfl),zV (by simp[h];rfl)];rfl⟩
 . exact⟨(none,none),(λx y e1 _=>nomatch e1),λf=>by rw[zV (by simp[h];rfl),zV (by simp[h];rfl)];rfl⟩
 . exact⟨(some lo,none),(λx y _ e2=>nomatch e2),λf=>by rw[zV (by simp[h];rfl),zV (by simp[h];rfl)];rfl⟩
 . have h1:¬ w / 2003 % 12 < 2:=by lia
   have h2:w/2003%12≠1:=by lia
   have h3:w/2003%12≠2:=by lia
   exact⟨(some lo,some bh),(λx y e1 e2=>by cases e1;cases e2;exact hlt),λf=>by rw[zV (by simp[h1];rfl),zV (by simp[in2,h2,h3];rfl)];rfl⟩
open Builtin.Int (intBits)
noncomputable def putDs(k:Key)(d:D):List Key->List D->List D
 |k'::ks,x::xs=>(if k'=k then d else x)::putDs k d ks xs
 |_,xs=>xs
theorem UL:∀{ks:List Key},k∉ks->hasK k ks=false
 |[],_=>rfl
 |k'::ks,h=>by have h1:k'≠k:=λz=>h (by rw[z];exact .head _);have:=UL (k:=k) (ks:=ks) λz=>h (.tail _ z);unfold hasK at this ⊢;simp[h1,this]
def aDi(h:k∈ks):hasK k ks=true:=by unfold hasK;rw[ZQ];exact⟨k,h,by simp⟩
open Builtin.Int (intBits)
abbrev Mks:=List (List Nat×Option Int)
noncomputable def putM(n:List Nat)(v:Option Int)(mk:Mks):Mks:=if n∈mk.map (·.1)then mk.map λp=>if p.1=n then (p.1,v)else p else mk++[(n,v)]
structure MkOk(mk:Mks):Prop where
 nd:(mk.map (·.1)).Nodup
 nm:∀p∈mk,Nm p.1
def MkOk.nil:MkOk []:=⟨List.nodup_nil,λ_ h=>nomatch h⟩
def MkOk.put{mk:Mks}(h:MkOk mk)(hn:Nm n) v:MkOk (putM n v mk):=by
 unfold putM;split
 . have e:(mk.map λp=>if p.1=n then (p.1,v)else p).map (·.1)=mk.map (·.1):=by
    rw[dU];refine hG λp _=>?_;simp only[Function.comp];split<;>rfl
   refine⟨by rw[e];exact h.nd,λp hp=>?_⟩;have:p.1∈(mk.map λp=>if p.1=n then (p.1,v)else p).map (·.1):=RO hp;rw[e]at this;obtain⟨q,hq,e⟩:=bG.mp this;rw[<-e];exact h.nm q hq
 . rename_i hne;refine ⟨?_,λp hp=>?_⟩
   . rw [dJ,cI];refine ⟨h.nd,by simp,λa ha b hb=>?_⟩;have:b=n:=by simpa using hb
     subst this;exact λz=>hne (z▸ha)
   . rcases bQ.mp hp with hp|hp
     . exact h.nm p hp
     . rw[aR.mp hp];exact hn
def ZX(l:List Str):eqvD (.lst (l.map D.str)) (.lst (l.map D.str))=true:=by
 rw[yB];induction l with
 |nil=>rfl
 |cons a r ih=>
   have:eqvD (.str a) (.str a)=true:=by simp[eqvD,toPy,PyData.eqv]
   rw[aK,wV,this,ih];rfl
open Builtin.Int (intBits)
abbrev Bs:=List (Str×List Rw)
noncomputable def bkN(b:Bs):List Key:=b.map λq=>.inr q.1
noncomputable def bkV(b:Bs):List D:=b.map λq=>.lst (q.2.map rwD)
def BT(T:OT)(b:Bs):Prop:=∃ts,T=.ins 12 [.dct (bkN b) ts]/\otDs ts=bkV b
def NmS(x:Str):Prop:=∃cs,Nm cs/\x=txS cs
structure BOk(b:Bs)(m:Nat):Prop where
 nd:(b.map (·.1)).Nodup
 nm:∀q∈b,NmS q.1
 mp:∀q∈b,MapF q.2
 ln:∀q∈b,q.2.length<=m
def aDf(h:NmS x):fH [.str x]=some (.val (.bl true)):=by obtain⟨cs,h,rfl⟩:=h;exact QK h
theorem wC:∀l,strsD (l.map D.str)=some l
 |[]=>rfl
 |x::r=>by simp[strsD,wC r]
def aEf{ns:List Str}(h1:1<=ns.length)(h60:ns.length<=60)(hn:∀x∈ns,NmS x)(nd:ns.Nodup):fR [.lst (ns.map D.str)]=some (.val .non):=by
 have k1:¬((ns.length:Int)<1):=by lia
 have k2:¬((60:Int)<(ns.length:Int)):=by lia
 have comp:compG (viaA (zW 0) asLT) [none] (zL 0) (λ_=>some true) (qZ 1 fH (zA (zJ 0) zS)) [.v (.lst (ns.map D.str))]=some (ns.map λ_=>D.bl true):=by refine yM (items:=ns.map D.str) (by simp) (by simp;lia) ?_;rw[xM D.str (λ_=>D.bl true) ns];intro x hx;exact⟨_,rfl,by simp[qY,aDf (hn x hx)]⟩
 have al:allD [.lst (ns.map λ_=>D.bl true)]=some (.bl true):=by
  have e:(ns.map λ_=>D.bl true)=(ns.map λ_=>true).map D.bl:=by simp
  rw[e,OF];simp
 have ls:lsetE (zJ 0) [.v (.lst (ns.map D.str))]=some (.int (ns.length:Nat)):=by
  have z:ns.length<1000:=by lia
  have c:=EJ ns.reverse (pB.mpr (nd.imp λh=>Ne.symm h));unfold lsetE;simp[wC,z,c]
 have ar:args 1 [.lst (ns.map D.str)]=[.v (.lst (ns.map D.str))]:=by simp[args]
 unfold fR runG iZ;rw[ar,zU (ds':=[.v (.lst (ns.map D.str))]) (by simp[k1,k2]),zU (ds':=[.v (.lst (ns.map D.str))]) (by simp[comp,al])];simp[ls]
def keyInr{l:List Str}(h:k∉l):hasK (.inr k) (l.map Sum.inr)=false:=UL λz=>by obtain⟨x,hx,e⟩:=bG.mp z;cases e;exact h hx
theorem HV N:∀(rest done:List Str) x,(done++rest).Nodup->done.length+rest.length<=1000->∃x',qP (zL 2) dY (rest.map D.str) [.ob (some 0) (.ins 12 [.dct (done.map Sum.inr) (done.map λ_=>.lst [])]),N,x]=some (.nx [.ob (some 0) (.ins 12 [.dct ((done++rest).map Sum.inr) ((done++rest).map λ_=>.lst [])]),N,x'])
 |[],done,x,_,_=>⟨x,by simp[qP]⟩
 |k::rest,done,x,nd,hl=>by
   simp only[aG]at hl;have nd':(done++[k]++rest).Nodup:=by simpa using nd
   obtain⟨x',e⟩:=HV N rest (done++[k]) (.v (.str k)) nd' (by simp;omega);refine⟨x',?_⟩;have hk:hasK (.inr k) (done.map Sum.inr)=false:=keyInr λz=>by have:=(cI.mp nd).2.2 k z k (.head _);exact this rfl
   have z:done.length<16777216:=by omega
   have z0:(0:Nat)<=sizeLine:=cR _;have turn:dY [.ob (some 0) (.ins 12 [.dct (done.map Sum.inr) (done.map λ_=>.lst [])]),N,.v (.str k)]=some (.nx [.ob (some 0) (.ins 12 [.dct ((done++[k]).map Sum.inr) ((done++[k]).map λ_=>.lst [])]),N,.v (.str k)]):=by simp[dY,dputN,sO,nilO,atP,varP,List.lookup,keyD,hk,z,z0,putP,putO,List.modify]
   simp only[aK,qP,zL,aO,dM,dE,turn];rw[show done++k::rest=done++[k]++rest by simp];exact e
def EO(h1:1<=ns.length)(h60:ns.length<=60)(hn:∀x∈ns,NmS x)(nd:ns.Nodup):cG (.ins 24 []) [.lst (ns.map D.str)]=some (.ins 12 [.dct ((srtT ns).map Sum.inr) ((srtT ns).map λ_=>.lst [])]):=by
 have hp:=srtT_perm ns;have ck:=aEf h1 h60 hn nd;obtain⟨x',e⟩:=HV (.v (.lst (ns.map D.str))) (srtT ns) [] .no (by rw[cM];exact hp.nodup_iff.mpr nd) (by rw[hp.length_eq];simp;lia);have st:srtTA (zJ 1) [.ob (some 0) (.ins 12 [.dct [] []]),.v (.lst (ns.map D.str)),.no]=some ((srtT ns).map D.str):=by
  have z:ns.length<64:=by lia
  unfold srtTA;simp[wC,z]
 have e0:∀T l,cG T l=match fJ (argsL 3 T l)with|some (.nx ds)=>ob0 ds[0]?|_=>none:=λ_ _=>rfl
 rw[e0];unfold fJ;have ar:argsL 3 (.ins 24 []) [.lst (ns.map D.str)]=[.ob (some 0) (.ins 24 []),.v (.lst (ns.map D.str)),.no]:=by simp[argsL,args]
 rw[ar,zU (ds':=[.ob (some 0) (.ins 24 []),.v (.lst (ns.map D.str)),.no]) (by simp[dropG,ck]),zU (ds':=[.ob (some 0) (.ins 12 [.dct [] []]),.v (.lst (ns.map D.str)),.no]) (by simp[setNw,varP,dO0,putP,putO])];simp[cS,cM]at e;have e1:forG (viaA (mkL (srtTA (zJ 1))) asLT) (zL 2) dY [.ob (some 0) (.ins 12 [.dct [] []]),.v (.lst (ns.map D.str)),.no]=some (.nx [.ob (some 0) (.ins 12 [.dct ((srtT ns).map Sum.inr) ((srtT ns).map λ_=>.lst [])]),.v (.lst (ns.map D.str)),x']):=by simp[st,e]
 rw[e1];rfl
def aEj(l:List Str):BT (.ins 12 [.dct (l.map Sum.inr) (l.map λ_=>.lst [])]) (l.map λx=>(x,[])):=by
 refine⟨l.map λ_=>.lst [],by simp[bkN],?_⟩;induction l with
 |nil=>simp[otDs,bkV]
 |cons x r ih=>simp only[aK,otDs,otD,ih,bkV];rfl
theorem JZ:∀{b:Bs},(b.map (·.1)).Nodup->(x,ps)∈b->getKD (.inr x) (bkN b) (bkV b)=some (.lst (ps.map rwD))
 |[],_,h=>nomatch h
 |q::b,nd,h=>by
   rw[aK,bC]at nd;simp only[bkN,bkV,aK,getKD];rcases aA.mp h with e|h
   . rw[<-e];simp
   . have ne:q.1≠x:=λz=>nd.1 (z▸bG.mpr ⟨(x,ps),h,rfl⟩);rw[if_neg (λz=>ne (by cases z;rfl))];exact JZ nd.2 h
def aDj(h:(x,ps)∈b):hasK (.inr x) (bkN b)=true:=aDi (bG.mpr ⟨(x,ps),h,rfl⟩)
def TX(ok:BOk b m)(h:(x,ps)∈b)(hM:kdD M=some (bkN b,bkV b)):gT [.ins 12 [M],.str x]=some (.fresh (ps.map rwD)):=by
 have nm:=aDf (ok.nm _ h);have g:=JZ ok.nd h;have hk:=aDj h;have fl:=jO ps;unfold gT runG kN;have ar:args 2 [.ins 12 [M],.str x]=[.v (.ins 12 [M]),.v (.str x)]:=by simp[args]
 have f1:∀ds:List Sl,ds[0]?=some (.v (.ins 12 [M]))->fldG [(12,0)] (zW 0) ds=some M:=λds hd=>by simp[fldG,zW,hd,fldD,List.lookup]
 rw[ar,zU (ds':=[.v (.ins 12 [M]),.v (.str x)]) (by simp[nm,dnotG,dinG,f1,keyD,hM,hk])];simp[lisA,dgetG,f1,keyD,hM,g,asLT,fl]
noncomputable def updB(x:Str)(f:List Rw->List Rw)(b:Bs):Bs:=b.map λq=>if q.1=x then (q.1,f q.2)else q
def bkN_upd x f b:bkN (updB x f b)=bkN b:=by unfold bkN updB;rw[dU];refine hG λq _=>?_;simp only[Function.comp_apply];split<;>rfl
theorem DP k d:∀ks ts,otDs (putTs k (.val d) ks ts)=putDs k d ks (otDs ts)
 |[],ts=>by cases ts<;>simp[putTs,putDs]
 |_::_,[]=>by simp[putTs,putDs,otDs]
 |k'::ks,t::ts=>by simp only[putTs,putDs,otDs,DP k d ks ts];split<;>simp[otD]
theorem SU f:∀{b:Bs},(b.map (·.1)).Nodup->(x,ps)∈b->putDs (.inr x) (.lst ((f ps).map rwD)) (bkN b) (bkV b)=bkV (updB x f b)
 |[],_,h=>nomatch h
 |q::b,nd,h=>by
   rw[aK,bC]at nd;have key:∀{b:Bs},x∉b.map (·.1)->putDs (.inr x) (.lst ((f ps).map rwD)) (bkN b) (bkV b)=bkV (updB x f b):=by
    intro b;induction b with
    |nil=>intro _;rfl
    |cons r b ih=>intro hx;simp only[aK,aA,not_or]at hx;simp only[bkN,bkV,updB,aK,putDs];rw[if_neg (λz=>hx.1 (by cases z;rfl)),if_neg (λz=>hx.1 z.symm)];congr 1;exact ih hx.2
   rcases aA.mp h with e|h
   . subst e;have:=key nd.1;simp only[bkN,bkV,updB,aK,putDs,if_true];congr 1
   . have ne:q.1≠x:=λz=>nd.1 (z▸bG.mpr ⟨(x,ps),h,rfl⟩);have:=SU f nd.2 h;simp only[bkN,bkV,updB,aK,putDs];rw[if_neg (λz=>ne (by cases z;rfl)),if_neg ne];congr 1
def put_b(ok:BOk b m)(hm:m<=1000)(hb:b.length<=1000)(hT:BT T b)(h:(x,ps)∈b)(hs:okS s) v :
  ∃T',BT T' (updB x (λps=>put1 ps (s,v)) b)/\dputG (atP [(12,0)] (varP 0)) (zW 1) (ofO (relGO 0 (lO (yY 3 iN (zA (methV 1 [12] bN (zW 0) (zA (zJ 1) zS)) (zA (zJ 2) (zA (zB (oi v)) zS))))))) [.ob (some 0) T,.v (.str x),.v (spD s)]=some (.nx [.ob (some 0) T',.v (.str x),.v (spD s)]):=by
 obtain⟨ts,rfl,ht⟩:=hT;have hp:=put_eq (ok.mp _ h) (cD (ok.ln _ h) (by lia)) (v:=v) hs;have on:=TX ok h (M:=.dct (bkN b) (bkV b)) rfl;have hk:=aDj h;have pd:=SU (λps=>put1 ps (s,v)) ok.nd h;have fl:=jO (put1 ps (s,v));have z:(bkN b).length<16777216:=by simp[bkN];lia
 have oe:otD (.ins 12 [.dct (bkN b) ts])=.ins 12 [.dct (bkN b) (bkV b)]:=by simp[otD,otDs,ht]
 have e1:(ofO (relGO 0 (lO (yY 3 iN (zA (methV 1 [12] bN (zW 0) (zA (zJ 1) zS)) (zA (zJ 2) (zA (zB (oi v)) zS))))))) [.ob (some 0) (.ins 12 [.dct (bkN b) ts]),.v (.str x),.v (spD s)]=some (.lst ((put1 ps (s,v)).map rwD)):=by generalize hq:(put1 ps (s,v)).map rwD=q at *;have on':bN 12 [.ins 12 [.dct (bkN b) (bkV b)],.str x]=some (.fresh (ps.map rwD)):=on;unfold ofO relGO relO;simp only[cE,oe,dE];simp[methV,methR,on',hp,flatO,AN,fl,otD,xJ]
 refine⟨.ins 12 [.dct (bkN b) (putTs (.inr x) (.val (.lst ((put1 ps (s,v)).map rwD))) (bkN b) ts)],⟨_,by rw[bkN_upd],by rw[DP,ht,pd]⟩,?_⟩;unfold dputG;rw[e1];simp[atP,varP,List.lookup,keyD,z,putP,putO,putKT,hk,List.modify]
def lay_eq(ok:BOk b m)(hm:m<=1000)(hb:b.length<=1000)(hT:BT T b)(h:(x,ps)∈b)(hs:okS s):∃T',BT T' (updB x (λps=>put1 ps (s,some 1)) b)/\fE T [.str x,spD s]=some T':=by
 obtain⟨T',h1,h2⟩:=put_b ok hm hb hT h hs (some 1);refine⟨T',h1,?_⟩;have e0:∀T l,fE T l=match hU (argsL 3 T l)with|some (.nx ds)=>ob0 ds[0]?|_=>none:=λ_ _=>rfl
 have ar:argsL 3 T [.str x,spD s]=[.ob (some 0) T,.v (.str x),.v (spD s)]:=by simp[argsL,args]
 rw[e0,ar];unfold hU;rw[show(D.int 1)=oi (some 1) from rfl,h2];rfl
def lift_eq(ok:BOk b m)(hm:m<=1000)(hb:b.length<=1000)(hT:BT T b)(h:(x,ps)∈b)(hs:okS s):∃T',BT T' (updB x (λps=>put1 ps (s,none)) b)/\eX T [.str x,spD s]=some T':=by
 obtain⟨T',h1,h2⟩:=put_b ok hm hb hT h hs none;refine⟨T',h1,?_⟩;have e0:∀T l,eX T l=match gU (argsL 3 T l)with|some (.nx ds)=>ob0 ds[0]?|_=>none:=λ_ _=>rfl
 have ar:argsL 3 T [.str x,spD s]=[.ob (some 0) T,.v (.str x),.v (spD s)]:=by simp[argsL,args]
 rw[e0,ar];unfold gU;rw[show(D.non)=oi none from rfl,h2];rfl
noncomputable def hereB(b:Bs)(p:Int):List Str:=(b.filter λq=>(valL q.2 p).isSome).map (·.1)
def MX(ok:BOk b m)(hb:b.length<=1000) p:cF 12 [.ins 12 [.dcf (bkN b) (bkV b)],.int p]=some (.fresh ((hereB b p).map D.str)):=by
 show gQ _=_;have fl:flats ((hereB b p).map D.str)=true:=by
  generalize hereB b p=l;induction l with
  |nil=>simp
  |cons a r ih=>simp[ih,flat]
 have ar:args 2 [.ins 12 [.dcf (bkN b) (bkV b)],.int p]=[.v (.ins 12 [.dcf (bkN b) (bkV b)]),.v (.int p)]:=by simp[args]
 have comp:compG (keysA (fldG [(12,0)] (zW 0))) [none,some 1,some 0] (zL 0) (qC (zH notD (qZ 2 fM (zA (dgetG (fldG [(12,0)] (zW 2)) (zW 0)) (zA (zJ 1) zS))) (zB .non))) (zW 0) [.v (.ins 12 [.dcf (bkN b) (bkV b)]),.v (.int p)]=some ((hereB b p).map D.str):=by
  refine yM (items:=b.map λq=>D.str q.1) (by simp[keysA,fldG,fldD,List.lookup,bkN,keyDD]) (by simp;lia) ?_;rw[vK (λq:Str×List Rw=>D.str q.1) (λq=>(valL q.2 p).isSome) (λq=>D.str q.1)]
  . simp[hereB]
  . intro q hq;have g:=JZ ok.nd (x:=q.1) (ps:=q.2) hq;have va:=LP (ok.mp q hq).ord p;refine ⟨_,rfl,?_,λ_=>by simp [qY]⟩;simp only [qY];cases hv:valL q.2 p with
    |none=>rw[hv]at va;simp[dgetG,fldG,fldD,List.lookup,keyD,kdD,g,va,notD]
    |some v=>rw[hv]at va;simp[dgetG,fldG,fldD,List.lookup,keyD,kdD,g,va,notD]
 refine yE ?_;rw[ar];unfold gP retOG;rw[comp];simp[flatF,fl]
noncomputable def ltrB(n:Int):Nat:=(97+n%26).toNat
def aCx n:97<=ltrB n/\ltrB n<=122:=by unfold ltrB;lia
def ltr_eq(h:ltrB a=ltrB b):a%26=b%26:=by unfold ltrB at h;lia
def aEl n:ixD (.str (Str.ofString "abcdefghijklmnopqrstuvwxyz")) (.int (n%26))=some (.str (txS [ltrB n])):=by
 have h0:=fO n (show(26:Int)≠0 by decide);have h1:=iH n (show(0:Int)<26 by decide);unfold ltrB;generalize n%26=i at *;have e:ixD (.str (txS abcL)) (.int i)=(abcL[i.toNat]?).map λc=>D.str (txS [c]):=by show(if (txS abcL).length<=sizeLine then (atI abcL i).map λc=>D.str ⟨#[c]⟩else none)=_;rw[UG,if_pos (by decide)];unfold atI;rw[JY h0 (by show i<26;exact h1)];rfl
 have hl:i.toNat<abcL.length:=by show i.toNat<26;lia
 have e2:abcL=List.range' 97 26:=by decide
 have e3:abcL[i.toNat]?=some (97+i.toNat):=by rw[e2,List.getElem?_range' (by lia)];simp
 rw[t_abc,e,e3,show(97+i).toNat=97+i.toNat by lia];rfl
theorem UI:∀ps:List (List Nat),Str.join (txS []) (ps.map txS)=txS ps.flatten
 |[]=>rfl
 |[p]=>by simp[Str.join]
 |p::q::r=>by have ih:=UI (q::r);show txS p++txS []++Str.join (txS []) ((q::r).map txS)=_;rw[ih,RT,RT];simp
def XG cs(hl:cs.length<=1000):joinD (.str (Str.ofString "")) (.lst (cs.map λc=>.str (txS [c])))=some (.str (txS cs)):=by
 have st:strsD (cs.map λc=>D.str (txS [c]))=some (cs.map λc=>txS [c]):=by have:=wC (cs.map λc=>txS [c]);rwa [dU]at this
 have sm:((cs.map λc=>txS [c]).map (·.length)).sum=cs.length:=by
  clear hl st;induction cs with
  |nil=>rfl
  |cons c r ih=>simp only[aK,lG,ih,UG,aG,lY];lia
 unfold joinD;simp only[st,aO];rw[if_pos ⟨by decide,by rw[sm,cA];lia⟩];have:Txt.join (Str.ofString "") (cs.map λc=>txS [c])=Str.join (txS []) ((cs.map λc=>[c]).map txS):=by show Builtin.Str.glued _ _=_;rw[StrLaws.glued_eq_join,t_empty,dU];rfl
 rw[this,UI];congr 3;clear hl st sm this;induction cs with
 |nil=>rfl
 |cons c r ih=>simp[ih]
def DT(h:NmS x):PyData.strOk x=true:=by obtain⟨cs,h,rfl⟩:=h;simpa[shal]using shal_tx h.2.2.asc 40
theorem LW:∀{rs:List Rw}{x:Int},Til (some x) rs->∀r∈rs,∃y,r.1=some y/\x<=y
 |[],_,h,_,_=>h.elim
 |r0::rs,x,⟨h1,h2,h3,h4⟩,r,hr=>by
   rcases aA.mp hr with rfl|hr
   . exact⟨x,h1,pY _⟩
   . cases e:r0.2.1 with
     |none=>rw[h3 e]at hr;cases hr
     |some z=>obtain⟨y,e1,e2⟩:=LW (h4 z e) r hr;have:=h2 x z rfl e;exact⟨y,e1,by omega⟩
theorem xT:∀{rs:List Rw}{here:Option Int},Til here rs->Ord rs
 |[],_,h=>h.elim
 |r::rs,here,⟨h1,h2,h3,h4⟩=>by
   have ok:ok3 r:=λa b e1 e2=>h2 a b (h1.symm.trans e1) e2;cases e:r.2.1 with
   |none=>rw[h3 e];exact⟨λz hz=>by rw[aR.mp hz];exact ok,nW _ _⟩
   |some x=>have o:=xT (h4 x e);refine⟨λz hz=>(aA.mp hz).elim (λe=>e▸ok) (o.ok z),bH.mpr ⟨λz hz=>?_,o.pw⟩⟩;obtain⟨y,e1,e2⟩:=LW (h4 x e) z hz;exact⟨x,y,e,e1,e2⟩
theorem OZ p:∀{rs:List Rw}{here:Option Int},Til here rs->∃r,rs.find? (befB p)=some r
 |[],_,h=>h.elim
 |r::rs,here,⟨h1,h2,h3,h4⟩=>by
   rw[cN];cases hb:befB p r with
   |true=>exact⟨r,rfl⟩
   |false=>
     cases e:r.2.1 with
     |none=>unfold befB at hb;rw[e]at hb;cases hb
     |some x=>exact OZ p (h4 x e)
def ZV(h:Til none rs) p:valL rs p=atB p rs:=by rw[vB (xT h),vW p rs none h (λ_ e=>nomatch e)];rfl
noncomputable def mapR(W:Option Int->Option Int)(rs:List Rw):List Rw:=rs.map λr=>(r.1,r.2.1,W r.2.2)
theorem IP W:∀{rs:List Rw}{here:Option Int},Til here rs->Til here (mapR W rs)
 |[],_,h=>h
 |r::rs,here,⟨h1,h2,h3,h4⟩=>⟨h1,h2,λe=>by rw[h3 e];rfl,λx e=>IP W (h4 x e)⟩
def atB_map W(h:∃r,rs.find? (befB p)=some r):atB p (mapR W rs)=W (atB p rs):=by
 obtain⟨r,hr⟩:=h;have e:(mapR W rs).find? (befB p)=some (r.1,r.2.1,W r.2.2):=by unfold mapR;rw[List.find?_map];have:(befB p ∘ λr:Rw=>((r.1,r.2.1,W r.2.2):Rw))=befB p:=rfl;rw[this,hr];rfl
 unfold atB;rw[hr,e]
noncomputable def turnF(W:Option Int->Option Int)(ps:List Rw):List Rw:=knitF (mapR W (jN ps))
def yW W(o:Ord ps):MapF (turnF W ps):=uF (xT (IP W (yA o)))
def sH W(o:Ord ps) p:valL (turnF W ps) p=W (valL ps p):=by have t:=IP W (yA o);rw[show valL (turnF W ps) p=valL (mapR W (jN ps)) p from GG (yW W o).ord (xT t) λv=>uE (xT t) p v,ZV t,atB_map W (OZ p (yA o)),LC o]
def kL W ps:(turnF W ps).length<=2*ps.length+1:=cD (HQ _) (by unfold mapR;rw[cA];exact xN ps)
def JS(m:MapF ps)(n:MapF qs)(h:∀p,valL ps p=valL qs p):ps=qs:=UF m n λp v=>by rw[<-jT m.ord,<-jT n.ord,h p]
def aCg o:noclo (oi o)=true:=by cases o<;>simp[noclo]
theorem HJ:∀l:List Rw,nF (l.map rwD)=true
 |[]=>rfl
 |r::l=>by simp[nF,noclo,rwD,aCg,HJ l]
theorem uZ(hW:∀v,Φ c [oi v]=some (.val (oi (W v)))) s0 x y z(hs:s0=[x,y,z,.v c]):∀rs,
  compL (tupG 3 (zM (zL 0) (zM (zL 1) (zM (zL 2) tgNil)))) (λ_=>some true) (mkT (qD (zA (zW 0) (zA (zW 1) (zA (callW Φ 3 (zA (zJ 2) zS)) zS))))) s0 (rs.map rwD)=some ((mapR W rs).map rwD)
 |[]=>by simp[compL,mapR]
 |r::rs=>by
   have ih:=uZ hW s0 x y z hs rs;subst hs;have hw:=hW r.2.2;rw[aK,compL];have e1:tupG 3 (zM (zL 0) (zM (zL 1) (zM (zL 2) tgNil))) (rwD r) [x,y,z,.v c]=some [.v (oi r.1),.v (oi r.2.1),.v (oi r.2.2),.v c]:=by simp[rwD]
   have e2:mkT (qD (zA (zW 0) (zA (zW 1) (zA (callW Φ 3 (zA (zJ 2) zS)) zS)))) [.v (oi r.1),.v (oi r.2.1),.v (oi r.2.2),.v c]=some (rwD (r.1,r.2.1,W r.2.2)):=by simp[callW,hw,rwD,retV]
   rw[e1];simp only[aO,if_true,e2,ih,bW];rfl
def VT(hW:∀v,Φ c [oi v]=some (.val (oi (W v))))(hl:ps.length<=100000):eI Φ [.lst (ps.map rwD),c]=some (.fresh ((turnF W ps).map rwD)):=by
 have h1:=IW ps (by lia);have hln:=xN ps;have h2:=JV (mapR W (jN ps)) (by unfold mapR;rw[cA];lia);have fl:=jO (turnF W ps);have comp:compG (viaA (qZ 1 eS (zA (zJ 0) zS)) asLT) [none,none,none,some 1] (tupG 3 (zM (zL 0) (zM (zL 1) (zM (zL 2) tgNil)))) (λ_=>some true) (mkT (qD (zA (zW 0) (zA (zW 1) (zA (callW Φ 3 (zA (zJ 2) zS)) zS))))) [.v (.lst (ps.map rwD)),.v c]=some ((mapR W (jN ps)).map rwD):=by refine yM (items:=(jN ps).map rwD) (by simp[h1,retV]) (by simp;lia) ?_;exact uZ hW _ .no .no .no rfl _
 unfold turnF at fl ⊢;unfold eI runG oU;simp[args,comp,h2,fl]
def tQ(hW:∀v,Φ c [oi v]=some (.val (oi (W v))))(hl:ps.length<=100000):ncF (eI Φ) [.lst (ps.map rwD),c]=some (.fresh ((turnF W ps).map rwD)):=by unfold ncF;rw[VT hW hl];simp[ncR,HJ]
open Builtin.Int (intBits)
noncomputable def joinR(W:Option Int->Option Int->Option Int)(L:List R4):List Rw:=L.map λr=>(r.1,r.2.1,W r.2.2.1 r.2.2.2)
theorem MP W:∀n here as bs,as.length+bs.length<=n->Rem here as->Rem here bs->Til here (joinR W (yL n here as bs))
 |_,_,[],_,_,h,_=>h.elim
 |_,_,_::_,[],_,_,h=>h.elim
 |0,_,_::_,_::_,h,_,_=>by simp at h
 |n+1,here,a::as,b::bs,hn,ha,hb=>by
   have two:=IT a b as bs;simp only[aG]at hn;show Til here ((here,qX a.2.1 b.2.1,W a.2.2 b.2.2)::joinR W (yL n (qX a.2.1 b.2.1) (stp (qX a.2.1 b.2.1) (a::as)) (stp (qX a.2.1 b.2.1) (b::bs))));refine⟨rfl,λh x e1 e2=>?_,λe=>?_,λx e=>?_⟩
   . have e2:qX a.2.1 b.2.1=some x:=e2;cases h1:a.2.1 with
     |none=>
       rw[h1]at e2;cases h2:b.2.1 with
       |none=>rw[h2]at e2;cases e2
       |some y=>rw[h2]at e2;cases e2;exact hb.1 h _ e1 h2
     |some y=>
       rw[h1]at e2;cases h2:b.2.1 with
       |none=>rw[h2]at e2;cases e2;exact ha.1 h _ e1 h1
       |some z=>rw[h2]at e2;have e3:min y z=x:=Option.some.inj e2;have:=ha.1 h _ e1 h1;have:=hb.1 h _ e1 h2;omega
   . have e:qX a.2.1 b.2.1=none:=e;rw[e,(uO ha hb e).1,vC];rfl
   . have e:qX a.2.1 b.2.1=some x:=e;rw [e]at two ⊢;have xa:∀y,a.2.1=some y->x<=y:=λy h1=>by
      rw[h1]at e;cases h2:b.2.1 with
      |none=>rw[h2]at e;cases e;exact pY _
      |some z=>rw[h2]at e;have e3:min y z=x:=Option.some.inj e;omega
     have xb:∀y,b.2.1=some y->x<=y:=λy h2=>by
      rw[h2]at e;cases h1:a.2.1 with
      |none=>rw[h1]at e;cases e;exact pY _
      |some z=>rw[h1]at e;have e3:min z y=x:=Option.some.inj e;omega
     refine MP W n (some x) _ _ (by omega) ?_ ?_
     . rcases wA ha xa with h|h
       . exact h.2.2
       . exact h.2
     . rcases wA hb xb with h|h
       . exact h.2.2
       . exact h.2
theorem MS:∀n here as bs,(yL n here as bs).length<=n
 |0,_,_,_=>by simp[yL]
 |n+1,_,[],_=>by simp[yL]
 |n+1,_,_::_,[]=>by simp[yL]
 |n+1,here,a::as,b::bs=>by have:=MS n (qX a.2.1 b.2.1) (stp (qX a.2.1 b.2.1) (a::as)) (stp (qX a.2.1 b.2.1) (b::bs));rw[yL,aG];omega
noncomputable abbrev pairR(ps qs:List Rw):List R4:=yL ((jN ps).length+(jN qs).length) none (jN ps) (jN qs)
noncomputable def yN(W:Option Int->Option Int->Option Int)(ps qs:List Rw):List Rw:=knitF (joinR W (pairR ps qs))
section
variable(W:Option Int->Option Int->Option Int){ps qs:List Rw}
def ND(o1:Ord ps)(o2:Ord qs):Til none (joinR W (pairR ps qs)):=MP W _ none _ _ (aT _) (yA o1).rem (yA o2).rem
def xY(o1:Ord ps)(o2:Ord qs):MapF (yN W ps qs):=uF (xT (ND W o1 o2))
def BR(o1:Ord ps)(o2:Ord qs)(p:Int):valL (yN W ps qs) p=W (valL ps p) (valL qs p):=by
 have t:=ND W o1 o2;rw[show valL (yN W ps qs) p=valL (joinR W (pairR ps qs)) p from GG (xY W o1 o2).ord (xT t) λv=>uE (xT t) p v,vB (xT t)];obtain⟨r,hr⟩:=OZ p t;rw[<-vW p _ none t (λ_ e=>nomatch e)]at hr;rw[hr];have h3:has3 r p=true:=by simpa using lZ hr
 obtain⟨r4,h4,rfl⟩:=bG.mp (fL hr);have sp:=(HF _ none _ _ (aT _) (.inr ⟨(yA o1).rem,(yA o2).rem⟩)).1 r4 h4;obtain⟨e1,e2⟩:=sp.2.2 p h3 (λ_ e=>nomatch e);rw[LC o1]at e1;rw[LC o2]at e2;simp[e1,e2]
end
theorem AK(hW:∀u v,Φ c [oi u,oi v]=some (.val (oi (W u v)))) s0 x y z t(hs:s0=[x,y,z,t,.v c]):∀L,
  compL (tupG 4 (zM (zL 0) (zM (zL 1) (zM (zL 2) (zM (zL 3) tgNil))))) (λ_=>some true) (mkT (qD (zA (zW 0) (zA (zW 1) (zA (callW Φ 4 (zA (zJ 2) (zA (zJ 3) zS))) zS))))) s0 (L.map r4D)=some ((joinR W L).map rwD)
 |[]=>by simp[compL,joinR]
 |r::L=>by
   have ih:=AK hW s0 x y z t hs L;subst hs;have hw:=hW r.2.2.1 r.2.2.2;rw[aK,compL];have e1:tupG 4 (zM (zL 0) (zM (zL 1) (zM (zL 2) (zM (zL 3) tgNil)))) (r4D r) [x,y,z,t,.v c]=some [.v (oi r.1),.v (oi r.2.1),.v (oi r.2.2.1),.v (oi r.2.2.2),.v c]:=by simp[r4D]
   have e2:mkT (qD (zA (zW 0) (zA (zW 1) (zA (callW Φ 4 (zA (zJ 2) (zA (zJ 3) zS))) zS)))) [.v (oi r.1),.v (oi r.2.1),.v (oi r.2.2.1),.v (oi r.2.2.2),.v c]=some (rwD (r.1,r.2.1,W r.2.2.1 r.2.2.2)):=by simp[callW,hw,rwD,retV]
   rw[e1];simp only[aO,if_true,e2,ih,bW];rfl
def HS(hW:∀u v,Φ c [oi u,oi v]=some (.val (oi (W u v))))(o1:Ord ps)(o2:Ord qs)(h1:ps.length<=10000)(h2:qs.length<=10000) :
  gO Φ [.lst (ps.map rwD),.lst (qs.map rwD),c]=some (.fresh ((yN W ps qs).map rwD)):=by
 have pe:=WK o1 o2 h1 h2;have l1:=xN ps;have l2:=xN qs;have l3:=MS ((jN ps).length+(jN qs).length) none (jN ps) (jN qs);have h5:(joinR W (pairR ps qs)).length=(yL ((jN ps).length+(jN qs).length) none (jN ps) (jN qs)).length:=cA _;have kn:=JV (joinR W (pairR ps qs)) (by lia);have fl:=jO (yN W ps qs);have comp:∀(a b:Sl),compG (viaA (zW 3) asLT) [none,none,none,none,some 2] (tupG 4 (zM (zL 0) (zM (zL 1) (zM (zL 2) (zM (zL 3) tgNil))))) (λ_=>some true) (mkT (qD (zA (zW 0) (zA (zW 1) (zA (callW Φ 4 (zA (zJ 2) (zA (zJ 3) zS))) zS))))) [a,b,.v c,.v (.lst ((pairR ps qs).map r4D))]=some ((joinR W (pairR ps qs)).map rwD):=λa b=>by refine yM (items:=(pairR ps qs).map r4D) (by simp) (by simp;lia) ?_;exact AK hW _ .no .no .no .no rfl _
 unfold yN at fl ⊢;unfold gO runG oX;simp[args,pe,comp,kn,fl]
open Builtin.Int (intBits)
abbrev Dvs:=List (Str×Rv)
noncomputable def dvD(d:Str×Rv):D:=.tup [.str d.1,spD d.2.1,oi d.2.2]
noncomputable def mstep(y:Str)(ps:List Rw)(d:Str×Rv):List Rw:=if d.1=y then put1 ps d.2 else ps
noncomputable def mapOf(ds:Dvs)(y:Str):List Rw:=ds.foldl (mstep y) []
noncomputable def vstep(y:Str)(p:Int)(b:Option Int)(d:Str×Rv):Option Int:=if d.1=y/\hasS d.2.1 p=true then d.2.2 else b
noncomputable def vF(ds:Dvs)(y:Str)(p:Int):Option Int:=ds.foldl (vstep y p) none
theorem BN y:∀(ds:Dvs) m,MapF m->(∀d∈ds,okS d.2.1)->MapF (ds.foldl (mstep y) m)/\(ds.foldl (mstep y) m).length<=m.length+2*ds.length/\∀p,valL (ds.foldl (mstep y) m) p=ds.foldl (vstep y p) (valL m p)
 |[],m,hm,_=>⟨hm,by simp,λp=>rfl⟩
 |d::ds,m,hm,ho=>by
   have h1:MapF (mstep y m d)/\(mstep y m d).length<=m.length+2/\∀p,valL (mstep y m d) p=vstep y p (valL m p) d:=by
    have hd:=ho d (.head _);unfold mstep vstep;by_cases h:d.1=y
    . rw[if_pos h];refine⟨DG hm hd,MH hm hd,λp=>?_⟩;rw[aAu hm hd];simp[h]
    . rw[if_neg h];exact⟨hm,by omega,λp=>by rw[if_neg (λz=>h z.1)]⟩
   obtain⟨a,b,c⟩:=BN y ds (mstep y m d) h1.1 λe he=>ho e (.tail _ he);rw[cH,aG];refine⟨a,by omega,λp=>?_⟩;rw[c p,h1.2.2 p,cH]
def yG(ho:∀d∈ds,okS d.2.1) y:MapF (mapOf ds y):=(BN y ds [] MapF.nil ho).1
def xU(ho:∀d∈ds,okS d.2.1) y:(mapOf ds y).length<=2*ds.length:=by have:=(BN y ds [] MapF.nil ho).2.1;rw[lY,Nat.zero_add]at this;exact this
def xK(ho:∀d∈ds,okS d.2.1) y p:valL (mapOf ds y) p=vF ds y p:=(BN y ds [] MapF.nil ho).2.2 p
def vE ds y:mapOf ds y=nY ((ds.filter λd=>decide (d.1=y)).map (·.2)):=by
 have:∀(ds:Dvs) (m:List Rw),ds.foldl (mstep y) m=((ds.filter λd=>decide (d.1=y)).map (·.2)).foldl put1 m:=by
  intro ds;induction ds with
  |nil=>intro m;rfl
  |cons d ds ih=>intro m;rw[cH,ih,kZ];unfold mstep;by_cases h:d.1=y<;>simp[h]
 exact this ds []
def QE ds d y:mapOf (ds++[d]) y=mstep y (mapOf ds y) d:=by simp[mapOf]
noncomputable def bOf(ns:List Str)(ds:Dvs):Bs:=(srtT ns).map λx=>(x,mapOf ds x)
def OE ns ds:(bOf ns ds).map (·.1)=srtT ns:=by unfold bOf;rw[dU];exact List.map_id _
def bOf_upd ns ds x r:updB x (λps=>put1 ps r) (bOf ns ds)=bOf ns (ds++[(x,r)]):=by
 unfold updB bOf;rw[dU];refine hG λy _=>?_;simp only[Function.comp_apply,QE,mstep];by_cases h:y=x
 . subst h;simp
 . rw[if_neg h,if_neg (λz=>h z.symm)]
def LA(hn:∀x∈ns,NmS x)(nd:ns.Nodup)(ho:∀d∈ds,okS d.2.1):BOk (bOf ns ds) (2*ds.length):=by
 have hp:=srtT_perm ns;refine⟨by rw[OE];exact hp.nodup_iff.mpr nd,λq hq=>?_,λq hq=>?_,λq hq=>?_⟩
 all_goals obtain⟨x,hx,rfl⟩:=bG.mp hq
 . exact hn x (hp.mem_iff.mp hx)
 . exact yG ho x
 . exact xU ho x
def sX ns ds:(bOf ns ds).length=ns.length:=by have:=congrArg List.length (OE ns ds);rw[cA,(srtT_perm ns).length_eq]at this;exact this
def VE(h:x∈ns) ds:(x,mapOf ds x)∈bOf ns ds:=bG.mpr ⟨x,(srtT_perm ns).mem_iff.mpr h,rfl⟩
noncomputable def endsV(ds:Dvs):List Int:=ds.flatMap λd=>d.2.1.1.toList++d.2.1.2.toList
theorem xI:∀ds,(endsV ds).length<=2*ds.length
 |[]=>by simp[endsV]
 |⟨x,⟨a,b⟩,v⟩::ds=>by have:=xI ds;unfold endsV at this ⊢;rw[YT,bS,bS,aG];generalize (List.flatMap (λd:Str×Rv=>d.2.1.1.toList++d.2.1.2.toList) ds).length=n at *;cases a<;>cases b<;>simp<;>omega
def XR(h1:s.1≠some p)(h2:s.2≠some p):hasS s p=hasS s (p-1):=by
 obtain⟨a,b⟩:=s;unfold hasS;cases a with
 |none=>
   cases b with
   |none=>rfl
   |some b=>
     have:b≠p:=λz=>h2 (by rw[z])
     lia
 |some a=>
   have h1':a≠p:=λz=>h1 (by rw[z]);have e1:decide (a<=p)=decide (a<=p-1):=by rw[decide_eq_decide];lia
   cases b with
   |none=>simp[e1]
   |some b=>
     have h2':b≠p:=λz=>h2 (by rw[z]);have e2:decide (p<b)=decide (p-1<b):=by rw[decide_eq_decide];lia
     simp[e1,e2]
def IN(h:p∉endsV ds):vF ds y p=vF ds y (p-1):=by
 unfold vF;generalize (none:Option Int)=b;induction ds generalizing b with
 |nil=>rfl
 |cons d ds ih=>unfold endsV at h;rw[YT,bQ,not_or]at h;have e:hasS d.2.1 p=hasS d.2.1 (p-1):=XR (λz=>h.1 (by rw[z];simp)) (λz=>h.1 (by rw[z];simp));rw[cH,cH,ih h.2];unfold vstep;rw[e]
def QH(hm:MapF m){lo:Int}(hr:r∈m)(hlo:r.1=some lo):valL m lo≠valL m (lo-1):=by
 intro e;obtain⟨v,hv⟩:∃v,r.2.2=some v:=by
  cases h:r.2.2 with
  |none=>exact absurd h (hm.val r hr)
  |some v=>exact⟨v,rfl⟩
 have hr1:has3 r lo=true:=by
  rw[jS];refine⟨λx hx=>?_,λy hy=>?_⟩
  . rw[hlo]at hx;cases hx;lia
  . exact hm.ord.ok r hr lo y hlo hy
 have e1:=(jT hm.ord lo v).mpr ⟨r,hr,hr1,hv⟩;rw[e1]at e;obtain⟨a,ha,ha1,hav⟩:=(jT hm.ord (lo-1) v).mp e.symm;obtain⟨i,hi,ei⟩:=RQ ha;obtain⟨j,hj,ej⟩:=RQ hr;have pw:=fK.mp hm.ord.pw;rw[jS]at ha1;have nij:i≠j:=λz=>by
  subst z;rw[ei]at ej;subst ej;have:=ha1.1 lo hlo
  lia
 rcases Nat.lt_or_gt_of_ne nij with lt|gt
 . obtain ⟨x,y,hx,hy,hxy⟩:=pw i j hi hj lt;rw [ei]at hx;rw [ej,hlo]at hy;have h3:=ha1.2 x hx;have hx':x=lo:=by lia
   by_cases h1:j=i+1
   . subst h1;refine hm.adj i a r (by rw [aU hi,ei]) (by rw [aU hj,ej]) ⟨?_,?_⟩
     . rw[hx,hlo,hx']
     . rw[hav,hv]
   . have hk:i+1 < m.length:=by lia
     obtain⟨x1,y1,hx1,hy1,h4⟩:=pw i (i+1) hi hk (by lia);obtain⟨x2,y2,hx2,hy2,h5⟩:=pw (i+1) j hk hj (by lia);rw[ei,hx]at hx1;rw[ej,hlo]at hy2;have:=hm.ord.ok _ (kY hk) y1 x2 hy1 hx2
     lia
 . obtain ⟨x,y,hx,hy,hxy⟩:=pw j i hj hi gt;rw [ej]at hx;rw [ei]at hy;have h3:=ha1.1 y hy;have:=hm.ord.ok r hr lo x hlo hx
   lia
theorem HH{α:Type}:∀(l E:List α),l.Nodup->(∀x∈l,x∈E)->l.length<=E.length
 |[],E,_,_=>cR _
 |a::l,E,nd,h=>by
   obtain⟨E1,E2,rfl⟩:=List.append_of_mem (h a (.head _));rw[bC]at nd;have:=HH l (E1++E2) nd.2 λx hx=>by
    have hx':=h x (.tail _ hx);rw[bQ,aA]at hx';rcases hx' with z|z|z
    . exact bB _ z
    . subst z;exact absurd hx nd.1
    . exact aL _ z
   simp at this ⊢;omega
def Stab(E:List Int)(m:List Rw):Prop:=∀p,p∉E->valL m p=valL m (p-1)
def vU(hm:MapF m)(h:Stab E m):m.length<=E.length+1:=by
 cases m with
 |nil=>simp
 |cons r0 t=>
   have pw:=hm.ord.pw;rw[bH]at pw;have lows:∀r∈t,∃lo,r.1=some lo/\lo∈E:=λr hr=>by
    obtain⟨x,y,_,hy,_⟩:=pw.1 r hr;refine⟨y,hy,?_⟩;by_cases hE:y∈E
    . exact hE
    . exact absurd (h y hE) (QH hm (.tail _ hr) hy)
   have nd:(t.map (·.1)).Nodup:=by
    rw[List.Nodup,tM];refine tE ?_ pw.2;intro a b ha hb hab e;obtain⟨x,y,hx,hy,hxy⟩:=hab;obtain⟨lo,hlo,_⟩:=lows a ha;have:=hm.ord.ok a (.tail _ ha) lo x hlo hx;rw[hlo,hy]at e
    lia
   have:=HH (t.map (·.1)) (E.map some) nd λx hx=>by obtain⟨r,hr,rfl⟩:=bG.mp hx;obtain⟨lo,hlo,hE⟩:=lows r hr;exact bG.mpr ⟨lo,hE,hlo.symm⟩
   simp at this ⊢
   lia
noncomputable def sumW:Option Int->Option Int->Option Int
 |some a,some b=>some (a+b)
 |some a,none=>some a
 |none,b=>b
def VV u v:iE [oi u,oi v]=some (.val (oi (sumW u v))):=by
 have ei:∀u v:Option Int,kX [oi u,oi v]=some (.val (oi (match u with|some a=>some a|none=>v))):=λu v=>by unfold kX runG oZ;cases u<;>cases v<;>simp[args]
 have:=ei u v;unfold iE runG oV;cases u<;>cases v<;>simp_all [args,sumW]
noncomputable def weigh(w:Int)(ps:List Rw):List Rw:=ps.map λr=>(r.1,r.2.1,some w)
def GC w(o:Ord ps):Ord (weigh w ps):=by
 refine⟨λr hr=>?_,?_⟩
 . obtain⟨q,hq,rfl⟩:=bG.mp hr;exact o.ok q hq
 . unfold weigh;rw[tM];exact o.pw.imp λh=>h
def tP w(hv:∀r∈ps,r.2.2≠none) p:valL (weigh w ps) p=(valL ps p).map λ_=>w:=by
 have:∀(ps:List Rw) (t:Option Int),(∀r∈ps,r.2.2≠none)->(weigh w ps).foldl (λt r=>if has3 r p=true then r.2.2 else t) (t.map λ_=>w)=(ps.foldl (λt r=>if has3 r p=true then r.2.2 else t) t).map λ_=>w:=by
  intro ps;induction ps with
  |nil=>intro t _;rfl
  |cons r ps ih=>
    intro t h;have e:has3 (r.1,r.2.1,some w) p=has3 r p:=rfl;simp only[weigh,aK,cH,e];by_cases hh:has3 r p=true
    . rw [if_pos hh,if_pos hh];obtain⟨v,hv⟩:∃v,r.2.2=some v:=by
       cases hq:r.2.2 with
       |none=>exact absurd hq (h r (.head _))
       |some v=>exact⟨v,rfl⟩
      have:=ih (some v) λq hq=>h q (.tail _ hq);rw[hv];exact this
    . rw[if_neg hh,if_neg hh];exact ih t λq hq=>h q (.tail _ hq)
 exact this ps none hv
noncomputable def lK(L:List (List Rw))(acc:List Rw):List Rw:=L.foldl (yN sumW) acc
theorem tR:∀L acc,MapF acc->Stab E acc->(∀m∈L,Ord m/\Stab E m)->MapF (lK L acc)/\Stab E (lK L acc)/\∀p,valL (lK L acc) p=L.foldl (λt m=>sumW t (valL m p)) (valL acc p)
 |[],acc,h1,h2,_=>⟨h1,h2,λp=>rfl⟩
 |m::L,acc,h1,h2,h=>by
   obtain⟨o,st⟩:=h m (.head _);have mj:=xY sumW h1.ord o;have aj:∀p,valL (yN sumW acc m) p=sumW (valL acc p) (valL m p):=BR sumW h1.ord o;have sj:Stab E (yN sumW acc m):=λp hp=>by rw[aj,aj,h2 p hp,st p hp]
   obtain⟨a,b,c⟩:=tR L (yN sumW acc m) mj sj λx hx=>h x (.tail _ hx);refine⟨a,b,λp=>?_⟩;show valL (lK L (yN sumW acc m)) p=_;rw[c p,aj p,cH]
noncomputable def lstsD(L:List (List Rw)):List D:=L.map λm=>.lst (m.map rwD)
theorem sI(hW:∀u v,Φ (.clo 1000 3 []) [oi u,oi v]=some (.val (oi (sumW u v))))(hE:E.length<=5000) N:∀L acc x,MapF acc->Stab E acc->(∀m∈L,Ord m/\Stab E m/\m.length<=10000) →
  ∃x',qP (zL 2) (kS Φ) (lstsD L) [N,.own (acc.map rwD),x]=some (.nx [N,.own ((lK L acc).map rwD),x'])
 |[],acc,x,_,_,_=>⟨x,rfl⟩
 |m::L,acc,x,h1,h2,h=>by
   obtain⟨o,st,hl⟩:=h m (.head _);have mj:=xY sumW h1.ord o;have aj:∀p,valL (yN sumW acc m) p=sumW (valL acc p) (valL m p):=BR sumW h1.ord o;have sj:Stab E (yN sumW acc m):=λp hp=>by rw[aj,aj,h2 p hp,st p hp]
   have la:=vU h1 h2;have je:=HS hW h1.ord o (by omega) hl;obtain⟨x',e⟩:=sI hW hE N L (yN sumW acc m) (.v (.lst (m.map rwD))) mj sj λx hx=>h x (.tail _ hx);refine⟨x',?_⟩;have turn:kS Φ [N,.own (acc.map rwD),.v (.lst (m.map rwD))]=some (.nx [N,.own ((yN sumW acc m).map rwD),.v (.lst (m.map rwD))]):=by unfold kS;simp[je]
   simp only[lstsD,aK,qP,zL,aO,dM,dE,turn];exact e
def CP(hW:∀u v,Φ (.clo 1000 3 []) [oi u,oi v]=some (.val (oi (sumW u v))))(hE:E.length<=5000)(h:∀m∈L,Ord m/\Stab E m/\m.length<=10000):fZ Φ [.lst (lstsD L)]=some (.fresh ((lK L []).map rwD)):=by
 obtain⟨x',e⟩:=sI hW hE (.v (.lst (lstsD L))) L [] .no MapF.nil (λp _=>rfl) h;have fl:=jO (lK L []);refine yE ?_;unfold nS;rw[zU (ds':=[.v (.lst (lstsD L)),.own [],.no]) (by simp[args]),zU (ds':=[.v (.lst (lstsD L)),.own ((lK L []).map rwD),x']) (by
  simp[cS]at e
  simp[e])]
 simp[retXG,flatF,fl]
noncomputable def wgh(w:Int):List (List Rw)->List (List Rw)
 |[]=>[]
 |m::r=>weigh w m::wgh (w*2) r
theorem IK:∀{L:List (List Rw)}{w:Int},x∈wgh w L->∃m∈L,∃v,x=weigh v m
 |[],_,h=>nomatch h
 |m::r,w,h=>by
   rcases aA.mp h with e|e
   . exact⟨m,.head _,w,e⟩
   . obtain⟨m',hm,v,e'⟩:=IK e;exact⟨m',.tail _ hm,v,e'⟩
theorem GJ N:∀L acc k x,k+L.length<=100->acc.length+L.length<=1000->(∀m∈L,m.length<=10000) →
  ∃x' w',qP (zL 3) (gI Φ) (lstsD L) [N,.own (lstsD acc),.v (.int (2^k)),x]=some (.nx [N,.own (lstsD (acc++wgh (2^k) L)),.v (.int w'),x'])
 |[],acc,k,x,_,_,_=>⟨x,2^k,by simp[qP,lstsD,wgh]⟩
 |m::L,acc,k,x,hk,ha,h=>by
   simp only[aG]at hk ha;have e2:(2:Int)^k*2=2^(k+1):=by rw[uY]
   obtain⟨x',w',e⟩:=GJ N L (acc++[weigh (2^k) m]) (k+1) (.v (.lst (m.map rwD))) (by omega) (by simp;omega) λq hq=>h q (.tail _ hq);refine⟨x',w',?_⟩;have hml:=h m (.head _);have mo:eB (2^k) 2:=by
    refine cZ (qE (m:=200) ?_) (qE (m:=64) (by decide)) (by decide);have h1:((2:Int)^k).natAbs=2^k:=by
     have:((2:Int)^k)=((2^k:Nat):Int):=by rw[Int.natCast_pow];rfl
     rw[this,Int.natAbs_natCast]
    rw[h1];exact Nat.pow_lt_pow_right (by decide) (by omega)
   have comp:∀(x0 x1:Sl),compG (viaA (zW 3) asLT) [none,none,none,some 2] (tupG 3 (zM (zL 0) (zM (zL 1) (zM (zL 2) tgNil)))) (λ_=>some true) (mkT (qD (zA (zW 0) (zA (zW 1) (zA (zW 3) zS))))) [x0,x1,.v (.int (2^k)),.v (.lst (m.map rwD))]=some ((weigh (2^k) m).map rwD):=λx0 x1=>by
    refine yM (items:=m.map rwD) (by simp) (by simp;omega) ?_;rw[xM rwD (λr=>rwD (r.1,r.2.1,some (2^k)))]
    . unfold weigh;rw[dU];rfl
    . intro r hr;exact⟨_,rfl,by simp[qY,rwD]⟩
   have turn:gI Φ [N,.own (lstsD acc),.v (.int (2^k)),.v (.lst (m.map rwD))]=some (.nx [N,.own (lstsD (acc++[weigh (2^k) m])),.v (.int (2^(k+1))),.v (.lst (m.map rwD))]):=by
    have la:(lstsD acc).length<16777216:=by simp[lstsD];omega
    have ap:lstsD (acc++[weigh (2^k) m])=lstsD acc++[.lst ((weigh (2^k) m).map rwD)]:=by simp[lstsD]
    rw[ap];generalize lstsD acc=A at *;have c:=comp N (.own A);unfold gI;generalize compG (viaA (zW 3) asLT) [none,none,none,some 2] (tupG 3 (zM (zL 0) (zM (zL 1) (zM (zL 2) tgNil)))) (λ_=>some true) (mkT (qD (zA (zW 0) (zA (zW 1) (zA (zW 3) zS)))))=C at *;simp[c,la,qU mo,e2]
   simp only[lstsD,aK,qP,zL,aO,dM,dE];simp only[lstsD]at turn e;rw[turn];simp only[aO];rw[e];simp[wgh,e2]
def CD(hm:MapF m)(h:Stab E m) w:Stab E (weigh w m):=λp hp=>by rw[tP w hm.val,tP w hm.val,h p hp]
def sets_eq(hW:∀u v,Φ (.clo 1000 3 []) [oi u,oi v]=some (.val (oi (sumW u v))))(ok:BOk b m)(hm:m<=10000)(hb:b.length<=60)(hE:E.length<=5000)(st:∀q∈b,Stab E q.2) :
  bR Φ 12 [.ins 12 [.dcf (bkN b) (bkV b)]]=some (.fresh ((lK (wgh 1 (b.map (·.2))) []).map rwD)):=by
 have eV:bkV b=lstsD (b.map (·.2)):=by unfold bkV lstsD;rw[dU];rfl
 obtain⟨x',w',e⟩:=GJ (.v (.ins 12 [.dcf (bkN b) (bkV b)])) (b.map (·.2)) [] 0 .no (by simp;lia) (by simp;lia) λq hq=>by
  obtain⟨r,hr,rfl⟩:=bG.mp hq;have:=ok.ln r hr
  lia
 have sk:=CP hW hE (L:=wgh 1 (b.map (·.2))) λq hq=>by obtain⟨m',hm',v,rfl⟩:=IK hq;obtain⟨r,hr,rfl⟩:=bG.mp hm';have:=ok.ln r hr;exact⟨GC v (ok.mp r hr).ord,CD (ok.mp r hr) (st r hr) v,by simp[weigh];lia⟩
 have fl:=jO (lK (wgh 1 (b.map (·.2))) []);refine yE ?_;unfold kM
 rw[zU (ds':=[.v (.ins 12 [.dcf (bkN b) (bkV b)]),.own [],.no,.no]) (by simp[args]),
  zU (ds':=[.v (.ins 12 [.dcf (bkN b) (bkV b)]),.own [],.v (.int 1),.no]) (by simp),
  zU (ds':=[.v (.ins 12 [.dcf (bkN b) (bkV b)]),.own (lstsD (wgh 1 (b.map (·.2)))),.v (.int w'),x']) (by
   rw[wR];have e1:valsA (fldG [(12,0)] (zW 0)) [.v (.ins 12 [.dcf (bkN b) (bkV b)]),.own [],.v (.int 1),.no]=some (lstsD (b.map (·.2))):=by simp[valsA,fldG,fldD,List.lookup,eV]
   rw[e1]
   simpa[lstsD]using e)]
 unfold retOG;simp[sk,flatF,fl]
noncomputable def tot(w:Int):List (Option Int)->Int
 |[]=>0
 |o::r=>(if o.isSome=true then w else 0)+tot (w*2) r
theorem CJ:∀l {w:Int},0<w->0<=tot w l
 |[],_,_=>pY _
 |o::r,w,h=>by have:=CJ r (w:=w*2) (by omega);unfold tot;split<;>omega
theorem NG(p:Int):∀(L:List (List Rw)) (w:Int) (t:Option Int),0<w->(∀m∈L,∀r∈m,r.2.2≠none)->(wgh w L).foldl (λt m=>sumW t (valL m p)) t=match t with
  |none=>if tot w (L.map (valL · p))=0 then none else some (tot w (L.map (valL · p)))
  |some a=>some (a+tot w (L.map (valL · p)))
 |[],w,t,_,_=>by cases t<;>simp[wgh,tot]
 |m::L,w,t,hw,h=>by
   have nn:=CJ (L.map (valL · p)) (w:=w*2) (by omega);simp only[wgh,cH,aK,tot];rw[NG p L (w*2) _ (by omega) λq hq=>h q (.tail _ hq),tP w (h m (.head _))];generalize tot (w*2) (L.map (valL · p))=z at *;cases valL m p with
   |none=>cases t<;>simp[sumW]
   |some v=>
     cases t with
     |none=>
       have:¬(w+z=0):=by omega
       simp[sumW,this]
     |some a=>simp[sumW];omega
def aCi:neD (.lst []) (.lst [])=some (.bl false):=by rw[JP (l:=[]) (vJ 39 [])];rfl
def low_any(c k m:Int) es(hm:0<=m) x1 x4 x6 lo0:∃lo,∀f,seqR ovA (seqR ovB f) [.v (.int c),x1,.ob (some 2) (oT es),.v (.int m),x4,.v (.int lo0),x6]=f [.v (.int c),x1,.ob (some 2) (oT es),.v (.int m),x4,.v (.int lo),x6]:=by
 cases es with
 |cons a r=>exact low_if c k m (a::r) (by simp) hm x1 x4 x6 lo0
 |nil=>
   have p1:powD (.int 10) (.int 60)=some (.int (10^60)):=pow10 (by decide) (by decide);have a5:xF (.int 2) (.int (10^60))=some (.int (2*10^60)):=qU (.of_left (qE (by decide)));have r3:∀x,jG (.int x) (.int (2*10^60+1))=some (.int (x%(2*10^60+1))):=λx=>xE x (by decide);obtain⟨gr,hgr⟩:=NF c;have ot:otD (oT [])=.lst []:=rfl;unfold ovA ovB;by_cases h1:m%4=1
   . obtain⟨g,_,hg⟩:=ZU (c%(2*10^60+1)-10^60) gr (r:=m/4%2) (by lia) (by lia);exact⟨g,λf=>by rw[zV (by simp[h1];rfl),zV (by simp[-Int.reducePow,-Nat.reducePow,h1,p1,a5,r3,hgr,hg];rfl)]⟩
   . refine ⟨lo0,λf=>?_⟩;by_cases h0:m%4=0
     . rw[zV (by simp[h0,ot,aCi];rfl),zV (by simp[h1];rfl)]
     . rw[zV (by simp[h0];rfl),zV (by simp[h1];rfl)]
def beh_any c w lo es(hc:intBits c<=1048576) x1 x3:∃bh,lo<bh/\∀f,seqR ovC (seqR ovD f) [.v (.int c),x1,.ob (some 2) (oT es),x3,.v (.int w),.v (.int lo),.no]=f [.v (.int c),x1,.ob (some 2) (oT es),x3,.v (.int w),.v (.int lo),.v (.int bh)]:=by
 cases es with
 |cons a r=>exact beh_if c w lo (a::r) (by simp) hc x1 x3
 |nil=>
   have p1:powD (.int 10) (.int 60)=some (.int (10^60)):=pow10 (by decide) (by decide);have m1:eB c 69621:=cZ hc (qE (m:=200) (by decide)) (by decide);have q1:(0:Int)<10^60:=by decide
   have ot:otD (oT [])=.lst []:=rfl;have c3:0<=w/4%3:=by lia
   have c4:0<=w/4%40:=by lia
   have c5:=fO (c*69621) (show(10:Int)^60≠0 by decide);unfold ovC ovD;rcases(by lia:w%4=0\/w%4=1\/w%4=2\/w%4=3)with h|h|h|h
   . exact⟨lo+1+w/4%3,by lia,λf=>by rw[zV (ds':=[.v (.int c),x1,.ob (some 2) (oT []),x3,.v (.int w),.v (.int lo),.v (.int (lo+1+w/4%3))]) (by simp[-Int.reducePow,-Nat.reducePow,p1,qU m1,q1,h]),zV (by simp[h];rfl)]⟩
   . exact⟨lo+1+w/4%40,by lia,λf=>by rw[zV (ds':=[.v (.int c),x1,.ob (some 2) (oT []),x3,.v (.int w),.v (.int lo),.v (.int (lo+1+w/4%40))]) (by simp[-Int.reducePow,-Nat.reducePow,p1,qU m1,q1,h]),zV (by simp[h];rfl)]⟩
   . exact⟨lo+1+c*69621%10^60,by lia,λf=>by rw[zV (ds':=[.v (.int c),x1,.ob (some 2) (oT []),x3,.v (.int w),.v (.int lo),.v (.int (lo+1+c*69621%10^60))]) (by simp[-Int.reducePow,-Nat.reducePow,p1,qU m1,q1,h,ix4_2]),zV (by simp[-Int.reducePow,-Nat.reducePow,h];rfl)]⟩
   . refine⟨lo+1,by lia,λf=>?_⟩;rw[zV (ds':=[.v (.int c),x1,.ob (some 2) (oT []),x3,.v (.int w),.v (.int lo),.v (.int (lo+1))]) (by simp[-Int.reducePow,-Nat.reducePow,p1,qU m1,q1,h,ix4_3]),zV (by simp[h,ot,aCi];rfl)]
def aBz p1 p2 p3 q1 q2 q3(hp:(0<=p1/\p1<2^40)/\(0<=p2/\p2<2^40)/\(0<=q1/\q1<2^40)/\(0<=q2/\q2<2^40)) c k es(hc:intBits c<=1048576)(hk:0<=k)(hk':k<=1000)(hl:es.length+2<16777216) :
  ∃s a b,okS s/\lentR (overG p1 p2 p3 q1 q2 q3) 7 2 (oT es) [.int c,.int k,.non]=some (spD s,oT (es++[a,b])):=by
 obtain⟨⟨u1,u2⟩,⟨u3,u4⟩,⟨u5,u6⟩,⟨u7,u8⟩⟩:=hp;have m1:eB c p1:=cZ hc (qE (m:=200) (by lia)) (by decide);have m2:eB c q1:=cZ hc (qE (m:=200) (by lia)) (by decide);have kk:eB k k:=cZ (qE (m:=64) (by lia)) (qE (m:=64) (by lia)) (by decide);have kb:0<=k*k/\k*k<=1000000:=⟨Int.mul_nonneg hk hk,FZ hk' hk' hk (by decide)⟩
 have k1:eB (k*k) p2:=cZ (qE (m:=64) (by lia)) (qE (m:=64) (by lia)) (by decide);have k2:eB (k*k) q2:=cZ (qE (m:=64) (by lia)) (qE (m:=64) (by lia)) (by decide);generalize hm1:(c*p1+k*k*p2+p3)%2147483647=m';have hm1':0<=m'/\m'<2147483647:=by lia
 have mm:eB m' m':=cZ (qE (m:=64) (by lia)) (qE (m:=64) (by lia)) (by decide);generalize hm:m'*m'%2147483563=m;have hm':0<=m/\m<2147483563:=by lia
 generalize hw1:(c*q1+k*k*q2+q3)%2147483629=w';have hw1':0<=w'/\w'<2147483629:=by lia
 have ww:eB w' m:=cZ (qE (m:=64) (by lia)) (qE (m:=64) (by lia)) (by decide);generalize hw:w'*m%2147483549=w;obtain⟨lo,elo⟩:=low_any c k m es hm'.1 (.v (.int k)) (.v (.int w)) .no (m/4%61-30);obtain⟨bh,hlt,ebh⟩:=beh_any c w lo es hc (.v (.int k)) (.v (.int m));obtain⟨s,hs,es1⟩:=span_if w lo bh hlt (.v (.int c)) (.v (.int k)) (.ob (some 2) (oT (es++[lo]++[bh]))) (.v (.int m));refine⟨s,lo,bh,hs,DU (ds:=[.v (.int c),.v (.int k),.ob (some 2) (oT (es++[lo]++[bh])),.v (.int m),.v (.int w),.v (oi s.1),.v (oi s.2)]) ?_ (by simp)⟩;unfold overG
 rw[zV (ds':=[.v (.int c),.v (.int k),.ob (some 2) (oT es),.v (.int m'),.no,.no,.no]) (by simp[args,qU m1,qU kk,qU k1,hm1]),
  zV (ds':=[.v (.int c),.v (.int k),.ob (some 2) (oT es),.v (.int m),.no,.no,.no]) (by simp[qU mm,hm]),
  zV (ds':=[.v (.int c),.v (.int k),.ob (some 2) (oT es),.v (.int m),.v (.int w'),.no,.no]) (by simp[qU m2,qU kk,qU k2,hw1]),
  zV (ds':=[.v (.int c),.v (.int k),.ob (some 2) (oT es),.v (.int m),.v (.int w),.no,.no]) (by simp[qU ww,hw]),
  zV (ds':=[.v (.int c),.v (.int k),.ob (some 2) (oT es),.v (.int m),.v (.int w),.v (.int (m/4%61-30)),.no]) (by simp),elo,ebh,
  zV (LG (es:=es) (x:=lo) rfl (by simp) (by lia)),zV (LG (es:=es++[lo]) (x:=bh) (by rfl) (by simp) (by simp;lia))]
 simp only[dM,dE];rw[es1];have e0:D.tup [oi s.1,oi s.2]=spD s:=rfl;simp[vR,e0]
end FL
section
open FL
noncomputable def oR:FS:=(qQ (ifG (orT (qC (zH isD (zJ 0) (zB .non))) (qC (zH isD (zJ 1) (zB .non)))) (retG (zH ixD (mkL (qD (zA (zW 0) (zA (zW 1) zS)))) (callB int1D (zA (zH isD (zJ 0) (zB .non)) zS)))) qW)
 (retG (zH xB (zJ 0) (zJ 1))))
noncomputable def iD:List D->Option Ret:=runG oR 2
noncomputable def dQ:FE:=(ifV (andT (qC (zH notD (zJ 0) (zB .non))) (qC (zH geD (zJ 0) (zJ 1)))) (zB (.int 1)) (zB .non))
noncomputable def dW:FE:=(zH ixD (mkL (qD (zA (zW 1) (zA (zB .non) zS)))) (callB int1D (zA (zH isD (zJ 0) (zB .non)) zS)))
noncomputable def eG:FE:=(zH ixD (mkL (qD (zA (zB .non) (zA (zB (.int 1)) zS)))) (callB int1D (zA (zH eqD (zJ 0) (zH subD (zJ 1) (zB (.int 1)))) zS)))
noncomputable def bI:Fun2:=phiOf [((1000,3),fnF 2 iE),((1000,7),fnF 2 iD),((11,0),lamF 1 dQ),((7,0),lamF 1 dW),((8,0),lamF 1 eG)]
noncomputable def iM:FS:=(qQ (jM 9 (zH xF (zJ 6) (callB int1D (zA (zH eqD (zJ 8) (zJ 4)) zS))))
 (appG 7 (zH ixD (zJ 2) (zH jG (zH xB (zH xB (zH qR (zJ 1) (zH xB (zJ 8) (zB (.int 3)))) (zH xF (zH xF (zJ 8) (zJ 8)) (zB (.int 5)))) (zJ 9)) (zB (.int 26))))))
noncomputable def iL:FS:=(qQ (setOG 7 (qD zS))
 (qQ (forG (rng1 (zW 3)) (zL 8) iM)
 (appG 5 (zH joinD (zB (.str "")) (zJ 7)))))
noncomputable def mZ:FS:=(qQ (jM 2 (zB (.str "abcdefghijklmnopqrstuvwxyz")))
 (qQ (jM 3 (zH xB (zB (.int 1)) (zH jG (zJ 1) (zB (.int 8)))))
 (qQ (jM 4 (zH jG (zH qR (zJ 1) (zB (.int 8))) (zJ 3)))
 (qQ (setOG 5 (qD zS))
 (qQ (forG (rng1 (zH xB (zB (.int 1)) (zH jG (zJ 0) (zB (.int 6))))) (zL 6) iL)
 (retXG 5))))))
noncomputable def kQ:List D->Option Ret:=runG mZ 10
noncomputable def sC:FX:=(seqR (jM 3 (zH jG (zH xB (zH xB (zH xF (zJ 0) (zB (.int 48271))) (zH xF (zH xF (zJ 1) (zJ 1)) (zB (.int 39373)))) (zB (.int 15485863))) (zB (.int 2147483647))))
 (seqR (jM 3 (zH jG (zH xF (zJ 3) (zJ 3)) (zB (.int 2147483563))))
 (seqR (jM 4 (zH jG (zH xB (zH xB (zH xF (zJ 0) (zB (.int 16807))) (zH xF (zH xF (zJ 1) (zJ 1)) (zB (.int 69621)))) (zB (.int 86028121))) (zB (.int 2147483629))))
 (seqR (jM 4 (zH jG (zH xF (zJ 4) (zJ 3)) (zB (.int 2147483549))))
 (seqR (jM 5 (zH subD (zH jG (zH qR (zJ 3) (zB (.int 4))) (zB (.int 61))) (zB (.int 30))))
 (seqR (ifG (andT (qC (zH eqD (zH jG (zJ 3) (zB (.int 4))) (zB (.int 0)))) (qC (zH neD (getN 2) (mkL (qD zS))))) (jM 5 (zH subD (zH xB (relVO 2 (zH ixD (zJ 2) (zH jG (zH qR (zJ 3) (zB (.int 4))) (callB lenD (zA (zJ 2) zS))))) (zH jG (zH qR (zJ 3) (zB (.int 1000003))) (zB (.int 3)))) (zB (.int 1)))) qW)
 (seqR (ifG (qC (zH eqD (zH jG (zJ 3) (zB (.int 4))) (zB (.int 1)))) (jM 5 (zH ixD (mkL (qD (zA (zH subD (zH jG (zJ 0) (zH xB (zH xF (zB (.int 2)) (zH powD (zB (.int 10)) (zB (.int 60)))) (zB (.int 1)))) (zH powD (zB (.int 10)) (zB (.int 60)))) (zA (qZ 1 kO (zA (zJ 0) zS)) zS)))) (zH jG (zH qR (zJ 3) (zB (.int 4))) (zB (.int 2))))) qW)
 (seqR (jM 6 (zH xB (zH xB (zJ 5) (zB (.int 1))) (zH ixD (mkL (qD (zA (zH jG (zH qR (zJ 4) (zB (.int 4))) (zB (.int 3))) (zA (zH jG (zH qR (zJ 4) (zB (.int 4))) (zB (.int 40))) (zA (zH jG (zH xF (zJ 0) (zB (.int 69621))) (zH powD (zB (.int 10)) (zB (.int 60)))) (zA (zB (.int 0)) zS)))))) (zH jG (zJ 4) (zB (.int 4))))))
 (seqR (ifG (andT (qC (zH eqD (zH jG (zJ 4) (zB (.int 4))) (zB (.int 3)))) (qC (zH neD (getN 2) (mkL (qD zS))))) (jM 6 (callB mxD (zA (zJ 6) (zA (relVO 2 (zH ixD (zJ 2) (zH jG (zH qR (zJ 4) (zB (.int 4))) (callB lenD (zA (zJ 2) zS))))) zS)))) qW)
 (seqR (appP (varP 2) (zW 5))
 (seqR (appP (varP 2) (zW 6))
 (seqR (ifG (qC (zH ltD (zH jG (zH qR (zJ 4) (zB (.int 2003))) (zB (.int 12))) (zB (.int 2)))) (jM 5 (zB .non)) qW)
 (seqR (ifG (qC (zH (inD false) (zH jG (zH qR (zJ 4) (zB (.int 2003))) (zB (.int 12))) (mkT (qD (zA (zB (.int 1)) (zA (zB (.int 2)) zS)))))) (jM 6 (zB .non)) qW)
 (vR (mkT (qD (zA (zW 5) (zA (zW 6) zS))))))))))))))))))
noncomputable def lU:OT->List D->Option (D×OT):=lentR sC 7 2
noncomputable def fY:FS:=(qQ (jM 2 (zH xB (zJ 2) (zH ixD (zJ 1) (zH jG (zJ 3) (zB (.int 26))))))
 (jM 3 (zH qR (zJ 3) (zB (.int 26)))))
noncomputable def iJ:FS:=(qQ (jM 1 (zB (.str "abcdefghijklmnopqrstuvwxyz")))
 (qQ (jM 2 (zB (.str "")))
 (qQ (jM 3 (zH qR (zJ 0) (zB (.int 8))))
 (qQ (forG (rng1 (zH xB (zB (.int 1)) (zH jG (zJ 0) (zB (.int 8))))) (zL 4) fY)
 (retG (zJ 2))))))
noncomputable def fF:List D->Option Ret:=runG iJ 5
noncomputable def dR:FS:=(ifG (qC (zH (inD true) (qZ 1 fF (zA (zJ 2) zS)) (zJ 1))) (appG 1 (qZ 1 fF (zA (zJ 2) zS))) qW)
noncomputable def hX:FS:=(qQ (setOG 1 (qD zS))
 (qQ (forG (viaA (zW 0) asLT) (zL 2) dR)
 (retOG (sliA (mkL (catA (zJ 1) (mkL (qD (zA (zB (.str "a")) zS))))) noP (soP (callB mxD (zA (zB (.int 1)) (zA (callB lenD (zA (zJ 1) zS)) zS))))))))
noncomputable def fX:List D->Option Ret:=runG hX 3
noncomputable def iI:FS:=(qQ (jM 1 (zH subD (zH jG (zH qR (zJ 0) (zB (.int 4))) (zH xB (zH xF (zB (.int 2)) (zH powD (zB (.int 10)) (zB (.int 60)))) (zB (.int 1)))) (zH powD (zB (.int 10)) (zB (.int 60)))))
 (qQ (jM 2 (zH xB (zH xB (zJ 1) (zB (.int 1))) (zH jG (zH qR (zH qR (zJ 0) (zB (.int 4))) (zH xB (zH xF (zB (.int 2)) (zH powD (zB (.int 10)) (zB (.int 60)))) (zB (.int 1)))) (zH powD (zB (.int 10)) (zB (.int 60))))))
 (retG (mkT (qD (zA (zH ixD (mkL (qD (zA (zW 1) (zA (zB .non) zS)))) (zH jG (zJ 0) (zB (.int 2)))) (zA (zH ixD (mkL (qD (zA (zW 2) (zA (zB .non) zS)))) (zH jG (zH qR (zJ 0) (zB (.int 2))) (zB (.int 2)))) (zA (zW 1) (zA (zW 2) zS)))))))))
noncomputable def gH:List D->Option Ret:=runG iI 3
noncomputable def iK:FX:=(seqR (jM 3 (zH qR (zJ 0) (zB (.int 4))))
 (seqR (jM 4 (zH ixD (zJ 1) (zH jG (zJ 3) (callB lenD (zA (zJ 1) zS)))))
 (seqR (jM 3 (zH qR (zJ 3) (callB lenD (zA (zJ 1) zS))))
 (seqR (asgG (tupG 4 (zM (zL 5) (zM (zL 6) (zM (zL 7) (zM (zL 8) tgNil))))) (qZ 1 gH (zA (zJ 3) zS)))
 (seqR (appP (varP 2) (zW 7))
 (seqR (appP (varP 2) (zW 8))
 (seqR (jM 9 (zH qR (zH qR (zH qR (zJ 3) (zB (.int 4))) (zH xB (zH xF (zB (.int 2)) (zH powD (zB (.int 10)) (zB (.int 60)))) (zB (.int 1)))) (zH powD (zB (.int 10)) (zB (.int 60)))))
 (vR (mkT (qD (zA (zH jG (zJ 0) (zB (.int 2))) (zA (mkT (qD (zA (zW 4) (zA (mkT (qD (zA (zW 5) (zA (zW 6) zS)))) (zA (zH ixD (mkL (qD (zA (zB .non) (zA (zB (.int 1)) zS)))) (zH jG (zH qR (zJ 0) (zB (.int 2))) (zB (.int 2)))) zS))))) (zA (zW 9) zS)))))))))))))
noncomputable def cX:OT->List D->Option (D×OT):=lentR iK 10 2
noncomputable def iA:FX:=(seqR (setR 4 (callR 3 3 lU (zA (zW 0) (zA (zW 1) (hereA zS)))))
 (seqR (jM 5 (zH jG (zH xB (zH xB (zH xF (zJ 0) (zB (.int 50021))) (zH xF (zJ 1) (zB (.int 7919)))) (zB (.int 49979687))) (zB (.int 2147483587))))
 (seqR (jM 5 (zH jG (zH xF (zJ 5) (zJ 5)) (zB (.int 2147483563))))
 (vR (mkT (qD (zA (zH jG (zJ 5) (zB (.int 2))) (zA (mkT (qD (zA (zH ixD (zJ 2) (zH jG (zH qR (zJ 5) (zB (.int 6))) (callB lenD (zA (zJ 2) zS)))) (zA (zW 4) (zA (zH ixD (mkL (qD (zA (zB .non) (zA (zB (.int 1)) zS)))) (callB mnD (zA (zH jG (zH qR (zJ 5) (zB (.int 2))) (zB (.int 3))) (zA (zB (.int 1)) zS)))) zS))))) (zA (zW 5) zS)))))))))
noncomputable def cQ:OT->List D->Option (D×OT):=lentR iA 6 3
noncomputable def nR:FS:=(ifG (qC (zH isD (zH ixD (zJ 1) (zB (.int 2))) (zB .non))) (lentG 2 [12] (λ_=>eX) (varP 0) (zA (zH ixD (zJ 1) (zB (.int 0))) (zA (zH ixD (zJ 1) (zB (.int 1))) zS))) (lentG 2 [12] (λ_=>fE) (varP 0) (zA (zH ixD (zJ 1) (zB (.int 0))) (zA (zH ixD (zJ 1) (zB (.int 1))) zS))))
noncomputable def gM:OT->List D->Option (D×OT):=lentN nR 2 0
noncomputable def mG:FS:=(retOG (yY 2 (ncF (eI bI)) (lamA 7 0 [1] (zA (zJ 0) zS))))
noncomputable def gK:List D->Option Ret:=runG mG 2
noncomputable def mX:FS:=(retOG (compG (viaA (zW 0) asLT) [none,none,none] (tupG 3 (zM (zL 0) (zM (zL 1) (zM (zL 2) tgNil)))) (λ_=>some true) (mkT (qD (zA (zW 0) (zA (zW 1) zS))))))
noncomputable def gY:List D->Option Ret:=runG mX 1
noncomputable def gL:FS:=(qQ (jM 6 (methV 1 [12] bN (zW 0) (zA (zJ 5) zS)))
 (qQ (ifG (qC (zH neD (zJ 6) (qZ 1 kW (zA (mkL (compG (viaA (zW 2) asLT) [none,none,none,some 5] (tupG 3 (zM (zL 0) (zM (zL 1) (zM (zL 2) tgNil)))) (qC (zH eqD (zJ 0) (zJ 3))) (mkT (qD (zA (zW 1) (zA (zW 2) zS)))))) zS)))) (retG (zB (.bl false))) qW)
 (qQ (jM 3 (qZ 3 (gO bI) (zA (zJ 3) (zA (qZ 2 gK (zA (zJ 6) (zA (zJ 4) zS))) (zA (zB (.clo 1000 7 [])) zS)))))
 (jM 4 (zH xB (zJ 4) (zJ 4))))))
noncomputable def mY:FS:=(qQ (jM 3 (mkL (qD zS)))
 (qQ (jM 4 (zB (.int 1)))
 (qQ (forG (viaA (mkL (srtTA (zJ 1))) asLT) (zL 5) gL)
 (qQ (jM 7 (methV 0 [12] (bR bI) (zW 0) zS))
 (qQ (ifG (orT (notT (testT (isiG "list" (zJ 7)))) (orT (qC (zH neD (zJ 7) (zJ 3))) (qC (zH neD (methV 1 [12] (bX bI) (zW 0) (zA (zB (.int 1)) zS)) (qZ 1 gY (zA (qZ 2 gK (zA (zJ 7) (zA (zB (.int 1)) zS))) zS)))))) (retG (zB (.bl false))) qW)
 (qQ (jM 8 (qZ 2 (ncF (eI bI)) (lamA 8 0 [4] (zA (zJ 7) zS))))
 (retG (zH eqD (methV 1 [12] (bX bI) (zW 0) (zA (callB lenD (zA (zJ 1) zS)) zS)) (qZ 1 gY (zA (zJ 8) zS))))))))))
noncomputable def gZ:List D->Option Ret:=runG mY 9
noncomputable def nQ:FS:=(qQ (ifG (qC (zH eqD (zH jG (zH qR (zJ 2) (zB (.int 307))) (zB (.int 4))) (zB (.int 0)))) (retOG (methF 0 [12] (bR bI) (zW 0) zS)) qW)
 (qQ (ifG (qC (zH eqD (zH jG (zH qR (zJ 2) (zB (.int 307))) (zB (.int 4))) (zB (.int 1)))) (retOG (methF 1 [12] cF (zW 0) (zA (zJ 3) zS))) qW)
 (qQ (ifG (qC (zH eqD (zH jG (zH qR (zJ 2) (zB (.int 307))) (zB (.int 4))) (zB (.int 2)))) (retOG (methF 1 [12] (bX bI) (zW 0) (zA (zH xB (zB (.int 1)) (zH jG (zH qR (zJ 2) (zB (.int 1009))) (callB lenD (zA (zJ 1) zS)))) zS))) qW)
 (retOG (methF 1 [12] bN (zW 0) (zA (zH ixD (zJ 1) (zH jG (zH qR (zJ 2) (zB (.int 1009))) (callB lenD (zA (zJ 1) zS)))) zS))))))
noncomputable def fG:List D->Option Ret:=runG nQ 4
noncomputable def lH:FS:=(qQ (jM 2 (mkL (qD (zA (mkL (lisA (methV 0 [12] (bR bI) (zW 0) zS))) (zA (mkL (lisA (methV 1 [12] bN (zW 0) (zA (zJ 1) zS)))) (zA (mkL (lisA (methV 1 [12] (bX bI) (zW 0) (zA (zB (.int 1)) zS)))) (zA (mkL (lisA (methV 1 [12] cF (zW 0) (zA (zB (.int 0)) zS)))) zS)))))))
 (qQ (QP 3 (sO (consO (lO (methF 0 [12] (bR bI) (zW 0) zS)) (consO (lO (methF 1 [12] bN (zW 0) (zA (zJ 1) zS))) (consO (lO (methF 1 [12] (bX bI) (zW 0) (zA (zB (.int 1)) zS))) (consO (lO (methF 1 [12] cF (zW 0) (zA (zB (.int 0)) zS))) nilO))))))
 (retG (zH eqD (zJ 2) (mkL (qD (zA (methV 0 [12] (bR bI) (zW 0) zS) (zA (methV 1 [12] bN (zW 0) (zA (zJ 1) zS)) (zA (methV 1 [12] (bX bI) (zW 0) (zA (zB (.int 1)) zS)) (zA (methV 1 [12] cF (zW 0) (zA (zB (.int 0)) zS)) zS))))))))))
noncomputable def gA:List D->Option Ret:=runG lH 4
noncomputable def eR:FS:=(ifG (qC (zH eqD (zH ixD (zJ 5) (zB (.int 0))) (zJ 4))) (doP 2 gM (varP 3) (zA (zW 5) zS)) qW)
noncomputable def eQ:FS:=(forG (viaA (zW 2) asLT) (zL 5) eR)
noncomputable def gG:FS:=(qQ (setB 3 (makeO 24 1 0 cG (zA (mkL (lisA (zJ 0))) zS)))
 (qQ (forG (viaA (zW 0) asLT) (zL 4) eQ)
 (retG (zH eqD (ofO (relGV 3 (lO (methF 0 [12] (bR bI) (zW 3) zS)))) (methV 0 [12] (bR bI) (zW 1) zS)))))
noncomputable def dX:List D->Option Ret:=runG gG 6
noncomputable def kR:FS:=(qQ (setB 1 (sO nilO))
 (qQ (ifG (qC (zH eqD (zH jG (qZ 2 eD (zA (zJ 0) (zA (zB (.int 0)) zS))) (zB (.int 2))) (zB (.int 1)))) (qQ (jM 2 (qZ 1 fX (zA (mkL (sliA (zJ 0) (soP (zB (.int 1))) (soP (zB (.int 7))))) zS)))
 (ret3 1 (zW 2) (compR (viaA (mkL (sliA (zJ 0) (soP (zB (.int 7))) (soP (zB (.int 63))))) asLT) [none,some 2,some 1] 1 2 (zL 0) (callR 3 2 cX (zA (zW 0) (zA (zW 1) (hereA zS))))))) qW)
 (qQ (jM 2 (qZ 2 kQ (zA (zH qR (qZ 2 eD (zA (zJ 0) (zA (zB (.int 0)) zS))) (zB (.int 2))) (zA (qZ 2 eD (zA (zJ 0) (zA (zB (.int 1)) zS))) zS))))
 (qQ (jM 3 (mkL (sliA (zJ 0) (soP (zB (.int 2))) (soP (zB (.int 102))))))
 (ret3 1 (zW 2) (compR (rng1 (callB lenD (zA (zJ 3) zS))) [none,some 2,some 1,some 3] 1 2 (zL 0) (callR 4 2 cQ (zA (zH ixD (zJ 3) (zJ 0)) (zA (zW 0) (zA (zW 1) (hereA zS)))))))))))
noncomputable def gD:List D->Option Ret:=runG kR 4
noncomputable def nN:FS:=(qQ (appP (ixPV 7 (varP 5)) (zW 8))
 (qQ (doP 2 gM (ixPV 7 (varP 4)) (zA (zW 8) zS))
 (qQ (jM 10 (zH ixD (zJ 3) (zH xB (zH xF (zB (.int 2)) (callB lenD (zA (zJ 6) zS))) (zH jG (zH qR (zJ 9) (zB (.int 13))) (zB (.int 2))))))
 (qQ (jM 11 (ofO (thwG 4 [0,0] (thwG 4 [1,0] (relGO 4 (lO (yY 4 fG (zA (zH ixD (zJ 4) (zH jG (zH qR (zJ 9) (zB (.int 101))) (zB (.int 2)))) (zA (zJ 1) (zA (zJ 9) (zA (zJ 10) zS)))))))))))
 (appG 6 (mkL (qD (zA (zW 11) (zA (mkL (lisA (zJ 11))) zS)))))))))
noncomputable def nM:FS:=(qQ (ifG (relTO 5 (thwT 4 [0,0] (thwT 4 [1,0] (relTO 4 (notT (testT (qZ 3 gZ (zA (zH ixD (zJ 4) (zJ 7)) (zA (zJ 1) (zA (zH ixD (zJ 5) (zJ 7)) zS)))))))))) (retG (zB (.bl false))) qW)
 (ifG (relTO 5 (thwT 4 [0,0] (thwT 4 [1,0] (relTO 4 (orT (notT (testT (qZ 3 dX (zA (zJ 1) (zA (zH ixD (zJ 4) (zJ 7)) (zA (zH ixD (zJ 5) (zJ 7)) zS)))))) (notT (testT (qZ 2 gA (zA (zH ixD (zJ 4) (zJ 7)) (zA (zH ixD (zJ 1) (zB (.int 0))) zS)))))))))) (retG (zB (.bl false))) qW))
noncomputable def tG:FS:=(qQ (asgG (tupG 3 (zM (zL 1) (zM (zL 2) (zM (zL 3) tgNil)))) (callA 1 gD (zA (zW 0) zS)))
 (qQ (setB 4 (sO (consO (makeO 24 1 0 cG (zA (mkL (lisA (zJ 1))) zS)) (consO (makeO 24 1 0 cG (zA (mkL (revA (zW 1))) zS)) nilO))))
 (qQ (setB 5 (sO (consO (sO nilO) (consO (sO nilO) nilO))))
 (qQ (setOG 6 (qD zS))
 (qQ (forG (viaA (zW 2) asLT) (tupG 3 (zM (zL 7) (zM (zL 8) (zM (zL 9) tgNil)))) nN)
 (qQ (forG (rng1 (zB (.int 2))) (zL 7) nM)
 (λds=>(retG (callB allD (zA (mkL (compG (viaA (zW 6) asLT) [none] (zL 0) (λ_=>some true) (zH eqD (zH ixD (zJ 0) (zB (.int 0))) (zH ixD (zJ 0) (zB (.int 1)))))) zS))) (relS 6 ds))))))))
noncomputable def pK:List D->Option Ret:=runG tG 12
end
namespace K79
open FL
noncomputable def top(i:Nat):Stmt:=PySem.Challenge.pw_spanmap_k79_whole_names_and_sets.main.body.getD i (.Pass ⟨0,0,0,0⟩)
structure Glb(K:Frag)(mg:Str->Option aI):Prop where
 b_all:mg "all" = none
 b_int:mg "int" = none
 b_isinstance:mg "isinstance" = none
 b_len:mg "len" = none
 b_list:mg "list" = none
 b_max:mg "max" = none
 b_min:mg "min" = none
 b_range:mg "range" = none
 b_reversed:mg "reversed" = none
 b_set:mg "set" = none
 b_sorted:mg "sorted" = none
 b_str:mg "str" = none
 c_LETTERS:∃t,mg "LETTERS" = some (.str "abcdefghijklmnopqrstuvwxyz" t)
 c_MOST_LETTERS:∃t,mg "MOST_LETTERS" = some (.int 8 t)
 c_MOST_NAMES:∃t,mg "MOST_NAMES" = some (.int 60 t)
 fl_lying:FldOk K "lying" [(12,0)]
 nw_lying:∀C,aQ K mainGlobals (eF 24)=some (some (.ref C))->Cls K C/\NoAttr K C "lying"
 fv_7:FnV K mg 7
 fv_3:FnV K mg 3
def pwI{i:Int}{k:Nat}{p:Pos}: PVw X (.Constant (.int i) k p) (zB (.int i)):=PV.w yC
def pnI{i:Int}{k:Nat}{p:Pos}: PVn X (.Constant (.int i) k p) (zB (.int i)):=PV.n yC
def pnV(i:Nat){x:Str}{pos:Pos}(hN:X.N[i]?=some x:=by rfl)(hv:Vis X.env.scope x:=by first|exact Or.inl rfl|exact Or.inr (Or.inl rfl)|exact Or.inr (Or.inr rfl))(hd:(x==("__debug__" : Str))=false:=by decide)(hcd:(x==("__classdict__" : Str))=false:=by decide):PVn X (.Name x pos) (zJ i):=(zE i hN hv hd hcd).n
section
variable{P:bY}{w:cU}{K:Frag}{mg:Str->Option aI}{base:Heap}
def aAe:FnScope ["one","place"] ["one","place"] (zI (top 5)):={}
def fok_has{f:aD}{fd:bE}(Fn:Fun K "has" "has" (top 5) f fd)(T:Glb K mg): FnOk P w K mg base CX0 1 f fd ["one","place"] (spF K 2 nH):=by have nd:=aAe.nd;refine qV (k:=0) (g:=BY) Fn aAe (λcdv A outer s H E hr=>?_) (λds r hl e=>zY e);exact(zF (qJ (PV.w (PN (pv_or (SN (PV.n (qO (zE 0) pwI)) (PV.n qK)) (IZ (pv_le (PV.w (qO (zE 0) pwI)) (zE 1)))) (IZ (pv_or (SN (PV.n (qO (zE 0) pwI)) (PV.n qK)) (IZ (pv_lt (zE 1) (PV.w (qO (zE 0) pwI))))))))))
def sL:FnScope ["one","other"] ["one","other"] (zI (top 8)):={}
def FJ{f:aD}{fd:bE}(Fn:Fun K "later_low" "later_low" (top 8) f fd)(T:Glb K mg): FnOk P w K mg base CX0 1 f fd ["one","other"] (spF K 2 gN):=by
 have nd:=sL.nd;refine qV (k:=0) (g:=mI) Fn sL (λcdv A outer s H E hr=>?_) (λds r hl e=>zY e)
 exact(zC (qL (pI (pnV 0) (PV.n qK)) (zF (qJ (zE 1))) zX)
  (zC (qL (pI (pnV 1) (PV.n qK)) (zF (qJ (zE 0))) zX)
  (zF (qJ (PV.w (JC rfl T.b_max (qB (zE 0) (qB (zE 1) qM))))))))
def mT:FnScope ["one","other"] ["one","other"] (zI (top 9)):={}
def rV{f:aD}{fd:bE}(Fn:Fun K "earlier_behind" "earlier_behind" (top 9) f fd)(T:Glb K mg): FnOk P w K mg base CX0 1 f fd ["one","other"] (spF K 2 dG):=by
 have nd:=mT.nd;refine qV (k:=0) (g:=gV) Fn mT (λcdv A outer s H E hr=>?_) (λds r hl e=>zY e)
 exact(zC (qL (pI (pnV 0) (PV.n qK)) (zF (qJ (zE 1))) zX)
  (zC (qL (pI (pnV 1) (PV.n qK)) (zF (qJ (zE 0))) zX)
  (zF (qJ (PV.w (SM rfl T.b_min (qB (zE 0) (qB (zE 1) qM))))))))
def rB:FnScope ["behind","low"] ["behind","low"] (zI (top 7)):={}
def EA{f:aD}{fd:bE}(Fn:Fun K "ends_ahead" "ends_ahead" (top 7) f fd)(T:Glb K mg): FnOk P w K mg base CX0 1 f fd ["behind","low"] (spF K 2 gB):=by have nd:=rB.nd;refine qV (k:=0) (g:=lI) Fn rB (λcdv A outer s H E hr=>?_) (λds r hl e=>zY e);exact(zF (qJ (PV.w (PN (MC (pnV 0) (PV.n qK)) (PN (MC (pnV 1) (PV.n qK)) (IZ (pv_le (zE 0) (zE 1))))))))
def RZ:FnScope ["one","other","low","behind"] ["one","other"] (zI (top 6)):={}
def aDn{f:aD}{fd:bE}(Fn:Fun K "meet" "meet" (top 6) f fd)(T:Glb K mg)(C_later_low:Cal P w K mg base "later_low" 1 2 gN)(C_earlier_behind:Cal P w K mg base "earlier_behind" 1 2 dG)(C_ends_ahead:Cal P w K mg base "ends_ahead" 1 2 gB):FnOk P w K mg base CX0 2 f fd ["one","other"] (spF K 2 mB):=by
 have nd:=RZ.nd;refine qV (k:=1) (g:=tH) Fn RZ (λcdv A outer s H E hr=>?_) (λds r hl e=>zY e)
 exact(zC (zT (i:=2) nd (qA C_later_low hr (zG (PV.n (qO (zE 0) pwI)) (zG (PV.n (qO (zE 1) pwI)) zQ))))
  (zC (zT (i:=3) nd (qA C_earlier_behind hr (zG (PV.n (qO (zE 0) pwI)) (zG (PV.n (qO (zE 1) pwI)) zQ))))
  (zC (qL (PVn.t (PV.n (qA C_ends_ahead hr (zG (pnV 3) (zG (pnV 2) zQ))))) (zF (qJ (PV.w qK))) zX)
  (zF (qJ (PV.w (jJ (zD (zK 2) (zD (zK 3) zP)))))))))
def SA:FnScope ["rows","pieces","low","behind","value"] ["rows"] (zI (top 11)):={}
def aDo{f:aD}{fd:bE}(Fn:Fun K "knit" "knit" (top 11) f fd)(T:Glb K mg): FnOk P w K mg base CX0 1 f fd ["rows"] (spF K 1 fD):=by
 have nd:=SA.nd;refine qV (k:=0) (g:=tI) Fn SA (λcdv A outer s H E hr=>?_) (λds r hl e=>zY e)
 exact(zC (jU (i:=1) nd (qT zP))
  (zC (jZ tK.never rfl (jF (zK 0)) (yD (n:=3) rfl (zR (zN (i:=2) nd) (zR (zN (i:=3) nd) (zR (zN (i:=4) nd) jR)))) (zC (qL (pI (pnV 4) (PV.n qK)) (zF JF) zX)
  (zF (qL (PWv.t (sQ (PVn.t (pnV 1)) (sQ (vL hr (PV.n (qO (PV.w (qO (zE 1) (PV.w (JB yC)))) pwI)) (pnV 2)) (kE (vL hr (PV.n (qO (PV.w (qO (zE 1) (PV.w (JB yC)))) pwI)) (pnV 4)))))) (zF (psv_put (i:=1) (jJ (zD (qO (PV.w (qO (zE 1) (PV.w (JB yC)))) pwI) (zD (zK 3) (zD (zK 4) zP)))) (JB yC))) (zF (yQ (i:=1) (jJ (zD (zK 2) (zD (zK 3) (zD (zK 4) zP))))))))))
  (zF (yZ 1))))
def AB:FnScope ["pieces","within","parts","low","behind","value","common"] ["pieces","within"] (zI (top 13)):={}
def KH{f:aD}{fd:bE}(Fn:Fun K "parts_in" "parts_in" (top 13) f fd)(T:Glb K mg)(C_meet:Cal P w K mg base "meet" 2 2 mB):FnOk P w K mg base CX0 3 f fd ["pieces","within"] (spF K 2 eW):=by
 have nd:=AB.nd;refine qV (k:=2) (g:=nC) Fn AB (λcdv A outer s H E hr=>?_) (λds r hl e=>zY e)
 exact(zC (jU (i:=2) nd (qT zP))
  (zC (jZ tK.never rfl (jF (zK 0)) (yD (n:=3) rfl (zR (zN (i:=3) nd) (zR (zN (i:=4) nd) (zR (zN (i:=5) nd) jR)))) (zC (zT (i:=6) nd (qA C_meet hr (zG (PV.n (jJ (zD (zK 3) (zD (zK 4) zP)))) (zG (pnV 1) zQ))))
  (zF (qL (wM (pnV 6) (PV.n qK)) (zF (yQ (i:=2) (jJ (zD (qO (zE 6) pwI) (zD (qO (zE 6) pwI) (zD (zK 5) zP)))))) zX))))
  (zF (yZ 2))))
def sK:FnScope ["pieces","over","value","rows"] ["pieces","over","value"] (zI (top 14)):={}
def FI{f:aD}{fd:bE}(Fn:Fun K "rows_over" "rows_over" (top 14) f fd)(T:Glb K mg)(C_parts_in:Cal P w K mg base "parts_in" 3 2 eW):FnOk P w K mg base CX0 4 f fd ["pieces","over","value"] (spF K 3 eJ):=by
 have nd:=sK.nd;refine qV (k:=3) (g:=mH) Fn sK (λcdv A outer s H E hr=>?_) (λds r hl e=>zY e)
 exact(zC (jU (i:=3) nd (qT zP))
  (zC (qL (wM (PV.n (qO (zE 1) pwI)) (PV.n qK)) (zF (SX (i:=3) (jW C_parts_in hr (zG (pnV 0) (zG (PV.n (jJ (zD qK (zD (qO (zE 1) pwI) zP)))) zQ))))) zX)
  (zC (yQ (i:=3) (jJ (zD (qO (zE 1) pwI) (zD (qO (zE 1) pwI) (zD (zK 2) zP)))))
  (zC (qL (wM (PV.n (qO (zE 1) pwI)) (PV.n qK)) (zF (SX (i:=3) (jW C_parts_in hr (zG (pnV 0) (zG (PV.n (jJ (zD (qO (zE 1) pwI) (zD qK zP)))) zQ))))) zX)
  (zF (yZ 3))))))
def GR:FnScope ["rows","pieces","over","value"] ["rows"] (zI (top 12)):={}
def QU{f:aD}{fd:bE}(Fn:Fun K "formed" "formed" (top 12) f fd)(T:Glb K mg)(C_knit:Cal P w K mg base "knit" 1 1 fD)(C_rows_over:Cal P w K mg base "rows_over" 4 3 eJ):FnOk P w K mg base CX0 5 f fd ["rows"] (spF K 1 kW):=by
 have nd:=GR.nd;refine qV (k:=4) (g:=oY) Fn GR (λcdv A outer s H E hr=>?_) (λds r hl e=>zY e)
 exact(zC (jU (i:=1) nd (qT zP))
  (zC (jZ tK.never rfl (jF (zK 0)) (yD (n:=2) rfl (zR (zN (i:=2) nd) (zR (zN (i:=3) nd) jR))) (zF (jU (i:=1) nd (jW C_knit hr (zG (PV.n (qA C_rows_over hr (zG (pnV 1) (zG (pnV 2) (zG (pnV 3) zQ))))) zQ)))))
  (zF (yZ 1))))
def CT:FnScope ["pieces","runs","here","low","behind","value"] ["pieces"] (zI (top 15)):={}
def NJ{f:aD}{fd:bE}(Fn:Fun K "runs_of" "runs_of" (top 15) f fd)(T:Glb K mg): FnOk P w K mg base CX0 1 f fd ["pieces"] (spF K 1 eS):=by
 have nd:=CT.nd;refine qV (k:=0) (g:=nT) Fn CT (λcdv A outer s H E hr=>?_) (λds r hl e=>zY e)
 exact(zC (jU (i:=1) nd (qT zP))
  (zC (zT (i:=2) nd qK)
  (zC (jZ tK.never rfl (jF (zK 0)) (yD (n:=3) rfl (zR (zN (i:=3) nd) (zR (zN (i:=4) nd) (zR (zN (i:=5) nd) jR)))) (zC (qL (HB hr (pnV 3) (pnV 2)) (zF (yQ (i:=1) (jJ (zD (zK 2) (zD (zK 3) (zD qK zP)))))) zX)
  (zC (yQ (i:=1) (jJ (zD (zK 3) (zD (zK 4) (zD (zK 5) zP)))))
  (zF (zT (i:=2) nd (zK 4))))))
  (zC (qL (PWv.t (wO (wM (pnV 2) (PV.n qK)) (xR (xW (PVn.t (pnV 0)))))) (zF (yQ (i:=1) (jJ (zD (zK 2) (zD qK (zD qK zP)))))) zX)
  (zF (yZ 1))))))
def GO:FnScope ["one","other","runs","other_runs","rows","here","at","other_at","run","other_run","behind"] ["one","other"] (zI (top 16)):={}
def QS{f:aD}{fd:bE}(Fn:Fun K "paired" "paired" (top 16) f fd)(T:Glb K mg)(C_runs_of:Cal P w K mg base "runs_of" 1 1 eS)(C_earlier_behind:Cal P w K mg base "earlier_behind" 1 2 dG):FnOk P w K mg base CX0 2 f fd ["one","other"] (spF K 2 mQ):=by
 have nd:=GO.nd;refine qV (k:=1) (g:=oW) Fn GO (λcdv A outer s H E hr=>?_) (λds r hl e=>zY e)
 exact(zC (zT (i:=2) nd (qA C_runs_of hr (zG (pnV 0) zQ)))
  (zC (zT (i:=3) nd (qA C_runs_of hr (zG (pnV 1) zQ)))
  (zC (jU (i:=4) nd (qT zP))
  (zC (zT (i:=5) nd qK)
  (zC (zT (i:=6) nd yC)
  (zC (zT (i:=7) nd yC)
  (zC (WE 100000 tK.never (DH (zE 6) (PV.w (yH T.b_len (qB (zE 2) qM)))) (zC (zT (i:=8) nd (qO (zE 2) (zE 6)))
  (zC (zT (i:=9) nd (qO (zE 3) (zE 7)))
  (zC (zT (i:=10) nd (qA C_earlier_behind hr (zG (PV.n (qO (zE 8) pwI)) (zG (PV.n (qO (zE 9) pwI)) zQ))))
  (zC (yQ (i:=4) (jJ (zD (zK 5) (zD (zK 10) (zD (qO (zE 8) pwI) (zD (qO (zE 9) pwI) zP))))))
  (zC (qL (vL hr (PV.n (qO (zE 8) pwI)) (pnV 10)) (zF (ML (i:=6) nd yC)) zX)
  (zC (qL (vL hr (PV.n (qO (zE 9) pwI)) (pnV 10)) (zF (ML (i:=7) nd yC)) zX)
  (zF (zT (i:=5) nd (zK 10))))))))))
  (zF (yZ 4)))))))))
def AA:FnScope ["pieces","place","low","behind","value"] ["pieces","place"] (zI (top 18)):={}
def KG{f:aD}{fd:bE}(Fn:Fun K "value_at" "value_at" (top 18) f fd)(T:Glb K mg)(C_has:Cal P w K mg base "has" 1 2 nH):FnOk P w K mg base CX0 2 f fd ["pieces","place"] (spF K 2 fM):=by
 have nd:=AA.nd;refine qV (k:=1) (g:=nA) Fn AA (λcdv A outer s H E hr=>?_) (λds r hl e=>zY e)
 exact(zC (jZ tK.never rfl (jF (zK 0)) (yD (n:=3) rfl (zR (zN (i:=2) nd) (zR (zN (i:=3) nd) (zR (zN (i:=4) nd) jR)))) (zF (qL (PVn.t (PV.n (qA C_has hr (zG (PV.n (jJ (zD (zK 2) (zD (zK 3) zP)))) (zG (pnV 1) zQ))))) (zF (qJ (zE 4))) zX)))
  (zF (qJ (PV.w qK))))
def GS:FnScope ["value","other_value"] ["value","other_value"] (zI (top 20)):={}
def QV{f:aD}{fd:bE}(Fn:Fun K "either" "either" (top 20) f fd)(T:Glb K mg): FnOk P w K mg base CX0 1 f fd ["value","other_value"] (spF K 2 kX):=by have nd:=GS.nd;refine qV (k:=0) (g:=oZ) Fn GS (λcdv A outer s H E hr=>?_) (λds r hl e=>zY e);exact(zF (qJ (PV.w (pv_if (pI (pnV 0) (PV.n qK)) (zK 1) (zK 0)))))
def GN:FnScope ["value","other_value"] ["value","other_value"] (zI (top 21)):={}
def QR{f:aD}{fd:bE}(Fn:Fun K "summed" "summed" (top 21) f fd)(T:Glb K mg)(C_either:Cal P w K mg base "either" 1 2 kX):FnOk P w K mg base CX0 2 f fd ["value","other_value"] (spF K 2 iE):=by
 have nd:=GN.nd;refine qV (k:=1) (g:=oV) Fn GN (λcdv A outer s H E hr=>?_) (λds r hl e=>zY e)
 exact(zC (qL (PWv.t (wO (pI (pnV 0) (PV.n qK)) (xR (pI (pnV 1) (PV.n qK))))) (zF (qJ (PV.w (qA C_either hr (zG (pnV 0) (zG (pnV 1) zQ)))))) zX)
  (zF (qJ (PV.w (qS (zE 0) (zE 1))))))
def AC:FnScope ["_law_one","_law_other"] ["_law_one","_law_other"] (zI (top 47)):={}
def KJ{f:aD}{fd:bE}(Fn:Fun K "_law_sum" "_law_sum" (top 47) f fd)(T:Glb K mg): FnOk P w K mg base CX0 1 f fd ["_law_one","_law_other"] (spF K 2 iD):=by
 have nd:=AC.nd;refine qV (k:=0) (g:=oR) Fn AC (λcdv A outer s H E hr=>?_) (λds r hl e=>zY e)
 exact(zC (qL (PWv.t (wO (pI (pnV 0) (PV.n qK)) (xR (pI (pnV 1) (PV.n qK))))) (zF (qJ (PV.w (qO (PV.w (PVf.s (qT (zD (zK 0) (zD (zK 1) zP))))) (PV.w (BM T.b_int (qB (PV.w (SN (pnV 0) (PV.n qK))) qM))))))) zX)
  (zF (qJ (PV.w (qS (zE 0) (zE 1))))))
def pQ{f mc mp:aD}(T:Glb K mg)(M:Mkr K "Bundle.crowd" 11 (dC (top 33) 6) f mc mp): iQ P w K mg base 2 11 0 (lamF 1 dQ):=by
 refine DV (k:=1) (ps:=["number"]) (t:=(laT "Bundle.crowd" (exA 1 (stE (stN 2 (qG (dC (top 33) 6))))))) ((M.tx 0).trans (by kernel_rfl)) (uC (by kernel_rfl)) rfl ?_ ?_
 . intro fd h1 h2 h3 us hl;cases fd;cases h1;cases h2;cases h3;exact match us,hl with|[_],_=>rfl
 . intro f' cd cl A outer s H hr;exact(PV.n (pv_if (PWv.t (sQ (wM (pnV 0) (PV.n qK)) (kE (pt_ge (zE 0) (zE 1))))) yC qK))
def rR{f mc mp:aD}(T:Glb K mg)(M:Mkr K "_law_turned" 7 (top 48) f mc mp): iQ P w K mg base 2 7 0 (lamF 1 dW):=by
 refine DV (k:=1) (ps:=["_law_value"]) (t:=(laT "_law_turned" (exA 1 (stE (stN 0 (qG (top 48))))))) ((M.tx 0).trans (by kernel_rfl)) (uC (by kernel_rfl)) rfl ?_ ?_
 . intro fd h1 h2 h3 us hl;cases fd;cases h1;cases h2;cases h3;exact match us,hl with|[_],_=>rfl
 . intro f' cd cl A outer s H hr;exact(PV.n (qO (PV.w (PVf.s (qT (zD (zK 1) (zD qK zP))))) (PV.w (BM T.b_int (qB (PV.w (SN (pnV 0) (PV.n qK))) qM)))))
def sW{f mc mp:aD}(T:Glb K mg)(M:Mkr K "_law_right" 8 (top 50) f mc mp): iQ P w K mg base 2 8 0 (lamF 1 eG):=by
 refine DV (k:=1) (ps:=["_law_value"]) (t:=(laT "_law_right" (exA 1 (stE (stN 5 (qG (top 50))))))) ((M.tx 0).trans (by kernel_rfl)) (uC (by kernel_rfl)) rfl ?_ ?_
 . intro fd h1 h2 h3 us hl;cases fd;cases h1;cases h2;cases h3;exact match us,hl with|[_],_=>rfl
 . intro f' cd cl A outer s H hr;exact(PV.n (qO (PV.w (PVf.s (qT (zD qK (zD yC zP))))) (PV.w (BM T.b_int (qB (PV.w (GY hr (pnV 0) (PV.n (vQ (zE 1) pwI)))) qM)))))
def clo_ok(T:Glb K mg) {f_Bundle_crowd mc_Bundle_crowd mp_Bundle_crowd:aD}(M_Bundle_crowd:Mkr K "Bundle.crowd" 11 (dC (top 33) 6) f_Bundle_crowd mc_Bundle_crowd mp_Bundle_crowd){f__law_turned mc__law_turned mp__law_turned:aD}(M__law_turned:Mkr K "_law_turned" 7 (top 48) f__law_turned mc__law_turned mp__law_turned){f__law_right mc__law_right mp__law_right:aD}(M__law_right:Mkr K "_law_right" 8 (top 50) f__law_right mc__law_right mp__law_right)(V_summed:CalV P w K mg base 3 2 2 iE)(V__law_sum:CalV P w K mg base 7 1 2 iD):CloOk P w K mg base 2 bI:=by
 refine clo_of (λp hp=>?_) λp hp hm=>?_
 . rcases aA.mp hp with rfl|hp
   . exact(iQ.mono (k:=2) (UM V_summed) (by decide))
   rcases aA.mp hp with rfl|hp
   . exact(iQ.mono (k:=2) (UM V__law_sum) (by decide))
   rcases aA.mp hp with rfl|hp
   . exact(pQ T M_Bundle_crowd  )
   rcases aA.mp hp with rfl|hp
   . exact(rR T M__law_turned  )
   rcases aA.mp hp with rfl|hp
   . exact(sW T M__law_right  )
   cases hp
 . rcases aA.mp hp with rfl|hp
   . exact V_summed.fin
   rcases aA.mp hp with rfl|hp
   . exact V__law_sum.fin
   rcases aA.mp hp with rfl|hp
   . exact absurd (show(11:Nat)=1000 from hm) (by decide)
   rcases aA.mp hp with rfl|hp
   . exact absurd (show(7:Nat)=1000 from hm) (by decide)
   rcases aA.mp hp with rfl|hp
   . exact absurd (show(8:Nat)=1000 from hm) (by decide)
   cases hp
def GQ:FnScope ["one","other","way","rows"] ["one","other","way"] (zI (top 23)):={}
def QT{f:aD}{fd:bE}(Fn:Fun K "joined" "joined" (top 23) f fd)(T:Glb K mg)(C_paired:Cal P w K mg base "paired" 2 2 mQ)(C_knit:Cal P w K mg base "knit" 1 1 fD)(CO:CloOk P w K mg base 2 bI):FnOk P w K mg base CX0 3 f fd ["one","other","way"] (spF K 3 (gO bI)):=by
 have nd:=GQ.nd;have nI0:(["low","behind","value","other_value","way"]:List Str).Nodup:=by decide +kernel
 refine qV (k:=2) (g:=(oX bI)) Fn GQ (λcdv A outer s H E hr=>?_) (λds r hl e=>zY e)
 exact(zC (zT (i:=3) nd (qA C_paired hr (zG (pnV 0) (zG (pnV 1) zQ))))
  (zF (jQ (jW C_knit hr (zG (PV.n (PVf.s (yR (NY:=["low","behind","value","other_value","way"]) (mp:=[none,none,none,none,some 2]) (jC (by kernel_rfl)) rfl (jF (zK 3)) (λc=>(yD (n:=4) rfl (zR (zN (i:=0) nI0) (zR (zN (i:=1) nI0) (zR (zN (i:=2) nI0) (zR (zN (i:=3) nI0) jR)))))) (λc=>wD) (λc=>(jJ (zD (zK 0) (zD (zK 1) (zD (ME (i:=4) CO hr (zG (pnV 2) (zG (pnV 3) zQ))) zP)))))))) zQ)))))
def GK:FnScope ["pieces","way"] ["pieces","way"] (zI (top 24)):={}
def QQ{f:aD}{fd:bE}(Fn:Fun K "turned" "turned" (top 24) f fd)(T:Glb K mg)(C_knit:Cal P w K mg base "knit" 1 1 fD)(C_runs_of:Cal P w K mg base "runs_of" 1 1 eS)(CO:CloOk P w K mg base 2 bI):FnOk P w K mg base CX0 3 f fd ["pieces","way"] (spF K 2 (eI bI)):=by
 have nd:=GK.nd;have nI0:(["low","behind","value","way"]:List Str).Nodup:=by decide +kernel
 refine qV (k:=2) (g:=(oU bI)) Fn GK (λcdv A outer s H E hr=>?_) (λds r hl e=>zY e);exact(zF (jQ (jW C_knit hr (zG (PV.n (PVf.s (yR (NY:=["low","behind","value","way"]) (mp:=[none,none,none,some 1]) (jC (by kernel_rfl)) rfl (jF (qA C_runs_of hr (zG (pnV 0) zQ))) (λc=>(yD (n:=3) rfl (zR (zN (i:=0) nI0) (zR (zN (i:=1) nI0) (zR (zN (i:=2) nI0) jR))))) (λc=>wD) (λc=>(jJ (zD (zK 0) (zD (zK 1) (zD (ME (i:=3) CO hr (zG (pnV 2) zQ)) zP)))))))) zQ))))
def CU:FnScope ["thing"] ["thing"] (zI (top 28)):={}
def NK{f:aD}{fd:bE}(Fn:Fun K "is_name" "is_name" (top 28) f fd)(T:Glb K mg): FnOk P w K mg base CX0 1 f fd ["thing"] (spF K 1 fH):=by
 have nd:=CU.nd;have nI0:(["sign"]:List Str).Nodup:=by decide +kernel
 refine qV (k:=0) (g:=nU) Fn CU (λcdv A outer s H E hr=>?_) (λds r hl e=>zY e)
 exact(zC (qL (xW (PVn.t (PV.n (aAq T.b_isinstance T.b_str (by decide +kernel) (zE 0))))) (zF (qJ (PV.w GZ))) zX)
  (zC (qL (PWv.t (wO (DH (PV.w (yH T.b_len (qB (zE 0) qM))) pwI) (xR (aAz (PV.w (yH T.b_len (qB (zE 0) qM))) (PV.w (MD T.c_MOST_LETTERS)))))) (zF (qJ (PV.w GZ))) zX)
  (zF (qJ (PV.w (PP rfl T.b_all (qB (PV.w (PVf.s (yR (NY:=["sign"]) (mp:=[none]) (jC (by kernel_rfl)) rfl (piv_str (zK 0)) (λc=>(zN (i:=0) nI0)) (λc=>wD) (λc=>(PM WL os_inS (zE 0) (PV.w (aAr T.c_LETTERS)) rfl))))) qM)))))))
def aAc:FnScope ["pieces","span","value"] ["pieces","span","value"] (zI (top 30)):={}
def fok_put{f:aD}{fd:bE}(Fn:Fun K "put" "put" (top 30) f fd)(T:Glb K mg)(C_knit:Cal P w K mg base "knit" 1 1 fD)(C_rows_over:Cal P w K mg base "rows_over" 4 3 eJ):FnOk P w K mg base CX0 5 f fd ["pieces","span","value"] (spF K 3 iN):=by have nd:=aAc.nd;refine qV (k:=4) (g:=BX) Fn aAc (λcdv A outer s H E hr=>?_) (λds r hl e=>zY e);exact(zF (jQ (jW C_knit hr (zG (PV.n (qA C_rows_over hr (zG (pnV 0) (zG (pnV 1) (zG (pnV 2) zQ))))) zQ))))
def pD:FnScope ["names"] ["names"] (zI (top 34)):={}
def AV{f:aD}{fd:bE}(Fn:Fun K "check_names" "check_names" (top 34) f fd)(T:Glb K mg)(C_is_name:Cal P w K mg base "is_name" 1 1 fH):FnOk P w K mg base CX0 2 f fd ["names"] (spF K 1 fR):=by
 have nd:=pD.nd;have nI0:(["name"]:List Str).Nodup:=by decide +kernel
 refine qV (k:=1) (g:=iZ) Fn pD (λcdv A outer s H E hr=>?_) (λds r hl e=>zY e)
 exact(zC (qL (PWv.t (wO (DH (PV.w (yH T.b_len (qB (zE 0) qM))) pwI) (xR (aAz (PV.w (yH T.b_len (qB (zE 0) qM))) (PV.w (MD T.c_MOST_NAMES)))))) (zF xX) zX)
  (zC (qL (xW (PVn.t (PV.n (PP rfl T.b_all (qB (PV.w (PVf.s (yR (NY:=["name"]) (mp:=[none]) (jC (by kernel_rfl)) rfl (jF (zK 0)) (λc=>(zN (i:=0) nI0)) (λc=>wD) (λc=>(qA C_is_name hr (zG (pnV 0) zQ)))))) qM))))) (zF xX) zX)
  (zF (qL (DH (PV.w (pv_lset rfl T.b_len T.b_set (zE 0))) (PV.w (yH T.b_len (qB (zE 0) qM)))) (zF xX) zX))))
def mN:FnScope ["self","names","name"] ["self","names"] (zI (dC (top 33) 0)):={}
def pV{f:aD}{fd:bE}(Fn:Fun K "__init__" "Bundle.__init__" (dC (top 33) 0) f fd)(T:Glb K mg)(C_check_names:Cal P w K mg base "check_names" 2 1 fR):FnOk P w K mg base CX0 3 f fd ["self","names"] (spL K 1 cG):=by
 have nd:=mN.nd;refine KD (k:=2) (n:=1) (g:=fJ) Fn mN (λcdv A outer s H E hr=>?_) (λ_ _ _ _ e=>e)
 exact(zC (aBc (qA C_check_names hr (zG (pnV 1) zQ)))
  (zC (PQ T.nw_lying (yI 0) aAo)
  (zF (jZ tK.never rfl (jF (PVf.s (AE T.b_sorted (zE 1)))) (zN (i:=2) nd) (zF (WF hr (PL T.fl_lying (yI 0)) (zK 2) (DA wS)))))))
def pG:FnScope ["self","name"] ["self","name"] (zI (dC (top 33) 4)):={}
def AY{f:aD}{fd:bE}(Fn:Fun K "only" "Bundle.only" (dC (top 33) 4) f fd)(T:Glb K mg)(C_is_name:Cal P w K mg base "is_name" 1 1 fH):FnOk P w K mg base CX0 2 f fd ["self","name"] (spF K 2 gT):=by
 have nd:=pG.nd;refine qV (k:=1) (g:=kN) Fn pG (λcdv A outer s H E hr=>?_) (λds r hl e=>zY e)
 exact(zC (qL (PWv.t (wO (xW (PVn.t (PV.n (qA C_is_name hr (zG (pnV 1) zQ))))) (xR (aAw hr (pnV 1) (PV.n (rO T.fl_lying (zK 0))))))) (zF xX) zX)
  (zF (jQ (xA T.b_list (PV.w (SQ hr (rO T.fl_lying (zK 0)) (zK 1)))))))
def rH:FnScope ["self","name","span"] ["self","name","span"] (zI (dC (top 33) 1)):={}
def EH{f:aD}{fd:bE}(Fn:Fun K "lay" "Bundle.lay" (dC (top 33) 1) f fd)(T:Glb K mg)(C_put:Cal P w K mg base "put" 5 3 iN)(M_only:MCal P w K mg base "only" 2 1 [12] bN):FnOk P w K mg base CX0 6 f fd ["self","name","span"] (spL K 2 fE):=by have nd:=rH.nd;refine KD (k:=5) (n:=2) (g:=hU) Fn rH (λcdv A outer s H E hr=>?_) (λ_ _ _ _ e=>e);exact(zF (MK hr (PL T.fl_lying (yI 0)) (zK 1) (JA (DC 0 (AD (jW C_put hr (zG (PV.n (yU M_only hr (zK 0) (zG (pnV 1) zQ))) (zG (pnV 2) (zG pnI zQ)))))))))
def pH:FnScope ["self","name","span"] ["self","name","span"] (zI (dC (top 33) 2)):={}
def AZ{f:aD}{fd:bE}(Fn:Fun K "lift" "Bundle.lift" (dC (top 33) 2) f fd)(T:Glb K mg)(C_put:Cal P w K mg base "put" 5 3 iN)(M_only:MCal P w K mg base "only" 2 1 [12] bN):FnOk P w K mg base CX0 6 f fd ["self","name","span"] (spL K 2 eX):=by have nd:=pH.nd;refine KD (k:=5) (n:=2) (g:=gU) Fn pH (λcdv A outer s H E hr=>?_) (λ_ _ _ _ e=>e);exact(zF (MK hr (PL T.fl_lying (yI 0)) (zK 1) (JA (DC 0 (AD (jW C_put hr (zG (PV.n (yU M_only hr (zK 0) (zG (pnV 1) zQ))) (zG (pnV 2) (zG (PV.n qK) zQ)))))))))
def mM:FnScope ["self","place"] ["self","place"] (zI (dC (top 33) 3)):={}
def pU{f:aD}{fd:bE}(Fn:Fun K "names_at" "Bundle.names_at" (dC (top 33) 3) f fd)(T:Glb K mg)(C_value_at:Cal P w K mg base "value_at" 2 2 fM):FnOk P w K mg base CX0 3 f fd ["self","place"] (spF K 2 gQ):=by
 have nd:=mM.nd;have nI0:(["name","place","self"]:List Str).Nodup:=by decide +kernel
 refine qV (k:=2) (g:=gP) Fn mM (λcdv A outer s H E hr=>?_) (λds r hl e=>zY e);exact(zF (jQ (WA (NY:=["name","place","self"]) (mp:=[none,some 1,some 0]) (jC (by kernel_rfl)) rfl (aBh (rO T.fl_lying (zK 0))) (λc=>(zN (i:=0) nI0)) (λc=>(TK (wM (PV.n (qA C_value_at hr (zG (PV.n (SQ hr (rO T.fl_lying (zK 2)) (zK 0))) (zG (pnV 1) zQ)))) (PV.n qK)))) (λc=>(zK 0)))))
def CS:FnScope ["maps","together","pieces"] ["maps"] (zI (top 35)):={}
def NI{f:aD}{fd:bE}(Fn:Fun K "stacked" "stacked" (top 35) f fd)(T:Glb K mg)(C_joined:Cal P w K mg base "joined" 3 3 (gO bI)):FnOk P w K mg base CX0 4 f fd ["maps"] (spF K 1 (fZ bI)):=by
 have nd:=CS.nd;refine qV (k:=3) (g:=(nS bI)) Fn CS (λcdv A outer s H E hr=>?_) (λds r hl e=>zY e)
 exact(zC (jU (i:=1) nd (qT zP))
  (zC (jZ tK.never rfl (jF (zK 0)) (zN (i:=2) nd) (zF (jU (i:=1) nd (jW C_joined hr (zG (pnV 1) (zG (pnV 2) (zG (PV.n (pv_fn T.fv_3)) zQ)))))))
  (zF (yZ 1))))
def pF:FnScope ["self","weighed","weight","pieces"] ["self"] (zI (dC (top 33) 5)):={}
def AX{f:aD}{fd:bE}(Fn:Fun K "sets" "Bundle.sets" (dC (top 33) 5) f fd)(T:Glb K mg)(C_stacked:Cal P w K mg base "stacked" 4 1 (fZ bI)):FnOk P w K mg base CX0 5 f fd ["self"] (spF K 1 (nI bI)):=by
 have nd:=pF.nd;have nI0:(["low","behind","value","weight"]:List Str).Nodup:=by decide +kernel
 refine qV (k:=4) (g:=(kM bI)) Fn pF (λcdv A outer s H E hr=>?_) (λds r hl e=>zY e)
 exact(zC (jU (i:=1) nd (qT zP))
  (zC (zT (i:=2) nd yC)
  (zC (aBb tK.never rfl (aBg (rO T.fl_lying (zK 0))) (zN (i:=3) nd) (zC (yQ (i:=1) (PVf.s (yR (NY:=["low","behind","value","weight"]) (mp:=[none,none,none,some 2]) (jC (by kernel_rfl)) rfl (jF (zK 3)) (λc=>(yD (n:=3) rfl (zR (zN (i:=0) nI0) (zR (zN (i:=1) nI0) (zR (zN (i:=2) nI0) jR))))) (λc=>wD) (λc=>(jJ (zD (zK 0) (zD (zK 1) (zD (zK 3) zP))))))))
  (zF (zT (i:=2) nd (jB (zE 2) pwI)))))
  (zF (jQ (jW C_stacked hr (zG (pnV 1) zQ)))))))
def oH:FnScope ["self","many","numbers","crowded"] ["self","many"] (zI (dC (top 33) 6)):={}
def uL{f:aD}{fd:bE}(Fn:Fun K "crowd" "Bundle.crowd" (dC (top 33) 6) f fd)(T:Glb K mg)(C_stacked:Cal P w K mg base "stacked" 4 1 (fZ bI))(C_turned:Cal P w K mg base "turned" 3 2 (eI bI)){mc mp:aD}(M:Mkr K "Bundle.crowd" 11 (dC (top 33) 6) f mc mp):FnOk P w K mg base CX0 5 f fd ["self","many"] (spF K 2 (mR bI)):=by
 have nd:=oH.nd;have nI0:(["low","behind","value"]:List Str).Nodup:=by decide +kernel
 refine KC (k:=4) (g:=(iO bI)) Fn oH M (λA outer s H E hr=>?_) (λds r hl e=>zY e)
 exact(zC (qL (PWv.t (wO (DH (zE 1) pwI) (xR (aAz (zE 1) (PV.w (pv_dlen T.b_len (rO T.fl_lying (zK 0)))))))) (zF xX) zX)
  (zC (zT (i:=2) nd (qA C_stacked hr (zG (PV.n (PVf.s (VZ rfl T.b_list (rO T.fl_lying (zK 0))))) zQ)))
  (zC (zT (i:=3) nd (MF (t:=laT "Bundle.crowd" (exA 1 (stE (stN 2 (qG (dC (top 33) 6)))))) (j:=0) (is:=[1]) C_turned hr M (DO (pnV 2) (DN (is:=[1]) M (by kernel_rfl))) (by kernel_rfl) (by kernel_rfl)))
  (zF (jQ (yR (NY:=["low","behind","value"]) (mp:=[none,none,none]) (jC (by kernel_rfl)) rfl (jF (zK 3)) (λc=>(yD (n:=3) rfl (zR (zN (i:=0) nI0) (zR (zN (i:=1) nI0) (zR (zN (i:=2) nI0) jR))))) (λc=>wD) (λc=>(jJ (zD (zK 0) (zD (zK 1) zP))))))))))
def oG:FnScope ["_law_script","_law_k"] ["_law_script","_law_k"] (zI (top 37)):={}
def uK{f:aD}{fd:bE}(Fn:Fun K "_law_cell_at" "_law_cell_at" (top 37) f fd)(T:Glb K mg): FnOk P w K mg base CX0 1 f fd ["_law_script","_law_k"] (spF K 2 eD):=by
 have nd:=oG.nd;refine qV (k:=0) (g:=nV) Fn oG (λcdv A outer s H E hr=>?_) (λds r hl e=>zY e)
 exact(zC (qL (DH (zE 1) (PV.w (yH T.b_len (qB (zE 0) qM)))) (zF (qJ (PV.w (qO (zE 0) (zE 1))))) zX)
  (zF (qJ pwI)))
def rE:FnScope ["_law_head","_law_cell","_law_letters","_law_size","_law_at","_law_names_here","_law_k","_law_signs","_law_j","_law_step"] ["_law_head","_law_cell"] (zI (top 38)):={}
def ED{f:aD}{fd:bE}(Fn:Fun K "_law_names" "_law_names" (top 38) f fd)(T:Glb K mg): FnOk P w K mg base CX0 1 f fd ["_law_head","_law_cell"] (spF K 2 kQ):=by
 have nd:=rE.nd;refine qV (k:=0) (g:=mZ) Fn rE (λcdv A outer s H E hr=>?_) (λds r hl e=>zY e)
 exact(zC (zT (i:=2) nd DF)
  (zC (zT (i:=3) nd (qS pwI (PV.w (zZ (zE 1) pwI))))
  (zC (zT (i:=4) nd (zZ (PV.w (qI (zE 1) pwI)) (zE 3)))
  (zC (jU (i:=5) nd (qT zP))
  (zC (jZ tK.never rfl (xH T.b_range (qS pwI (PV.w (zZ (zE 0) pwI)))) (zN (i:=6) nd) (zC (jU (i:=7) nd (qT zP))
  (zC (jZ tK.never rfl (xH T.b_range (zK 3)) (zN (i:=8) nd) (zC (zT (i:=9) nd (jB (zE 6) (PV.w (BM T.b_int (qB (PV.w (GY hr (pnV 8) (pnV 4))) qM)))))
  (zF (yQ (i:=7) (qO (zE 2) (PV.w (zZ (PV.w (qS (PV.w (qS (PV.w (qI (zE 1) (PV.w (qS (zE 8) pwI)))) (PV.w (jB (PV.w (jB (zE 8) (zE 8))) pwI)))) (zE 9))) pwI)))))))
  (zF (yQ (i:=5) (pv_join (PV.w DF) (zE 7)))))))
  (zF (yZ 5)))))))
def rF:FnScope ["_law_cell","_law_great_here"] ["_law_cell"] (zI (top 39)):={}
def EF{f:aD}{fd:bE}(Fn:Fun K "_law_great" "_law_great" (top 39) f fd)(T:Glb K mg): FnOk P w K mg base CX0 1 f fd ["_law_cell"] (spF K 1 kO):=by
 have nd:=rF.nd;refine qV (k:=0) (g:=rL) Fn rF (λcdv A outer s H E hr=>?_) (λds r hl e=>zY e)
 exact(zC (zT (i:=1) nd (yX (PV.w (yX pwI pwI)) pwI))
  (zF (qJ (PV.w (vQ (PV.w (zZ (zE 0) (PV.w (qS (PV.w (jB pwI (zE 1))) pwI)))) (zE 1))))))
def sN:FnScope ["_law_cell","_law_k","_law_ends","_law_mixed","_law_more","_law_low","_law_behind"] ["_law_cell","_law_k","_law_ends"] (zI (top 40)):={}
def FM{f:aD}{fd:bE}(Fn:Fun K "_law_over" "_law_over" (top 40) f fd)(T:Glb K mg)(C__law_great:Cal P w K mg base "_law_great" 1 1 kO):FnOk P w K mg base CX0 2 f fd ["_law_cell","_law_k","_law_ends"] (spR K 3 2 lU):=by
 have nd:=sN.nd;refine KA (k:=1) (p:=2) (g:=sC) Fn sN (λcdv A outer s H E hr=>?_) (λ_ _ _ _ e=>e)
 exact(qN (zT (i:=3) nd (zZ (PV.w (qS (PV.w (qS (PV.w (jB (zE 0) pwI)) (PV.w (jB (PV.w (jB (zE 1) (zE 1))) pwI)))) pwI)) pwI))
  (qN (zT (i:=3) nd (zZ (PV.w (jB (zE 3) (zE 3))) pwI))
  (qN (zT (i:=4) nd (zZ (PV.w (qS (PV.w (qS (PV.w (jB (zE 0) pwI)) (PV.w (jB (PV.w (jB (zE 1) (zE 1))) pwI)))) pwI)) pwI))
  (qN (zT (i:=4) nd (zZ (PV.w (jB (zE 4) (zE 3))) pwI))
  (qN (zT (i:=5) nd (vQ (PV.w (zZ (PV.w (qI (zE 3) pwI)) pwI)) pwI))
  (qN (qL (PWv.t (sQ (vL hr (PV.n (zZ (zE 3) pwI)) pnI) (kE (HB hr (SH 2) (PV.n (PVf.s (qT zP))))))) (zF (zT (i:=5) nd (vQ (PV.w (qS (PV.w (SJ 2 (qO (zE 2) (PV.w (zZ (PV.w (qI (zE 3) pwI)) (PV.w (yH T.b_len (qB (zE 2) qM)))))))) (PV.w (zZ (PV.w (qI (zE 3) pwI)) pwI)))) pwI))) zX)
  (qN (qL (vL hr (PV.n (zZ (zE 3) pwI)) pnI) (zF (zT (i:=5) nd (qO (PV.w (PVf.s (qT (zD (vQ (PV.w (zZ (zE 0) (PV.w (qS (PV.w (jB pwI (PV.w (yX pwI pwI)))) pwI)))) (PV.w (yX pwI pwI))) (zD (qA C__law_great hr (zG (pnV 0) zQ)) zP))))) (PV.w (zZ (PV.w (qI (zE 3) pwI)) pwI))))) zX)
  (qN (zT (i:=6) nd (qS (PV.w (qS (zE 5) pwI)) (PV.w (qO (PV.w (PVf.s (qT (zD (zZ (PV.w (qI (zE 4) pwI)) pwI) (zD (zZ (PV.w (qI (zE 4) pwI)) pwI) (zD (zZ (PV.w (jB (zE 0) pwI)) (PV.w (yX pwI pwI))) (zD yC zP))))))) (PV.w (zZ (zE 4) pwI))))))
  (qN (qL (PWv.t (sQ (vL hr (PV.n (zZ (zE 4) pwI)) pnI) (kE (HB hr (SH 2) (PV.n (PVf.s (qT zP))))))) (zF (zT (i:=6) nd (JC rfl T.b_max (qB (zE 6) (qB (PV.w (SJ 2 (qO (zE 2) (PV.w (zZ (PV.w (qI (zE 4) pwI)) (PV.w (yH T.b_len (qB (zE 2) qM)))))))) qM))))) zX)
  (qN (wU (yI 2) (zK 5))
  (qN (wU (yI 2) (zK 6))
  (qN (qL (DH (PV.w (zZ (PV.w (qI (zE 4) pwI)) pwI)) pwI) (zF (zT (i:=5) nd qK)) zX)
  (qN (qL (pt_in (PV.n (zZ (PV.w (qI (zE 4) pwI)) pwI)) (PV.n (jJ (zD yC (zD yC zP))))) (zF (zT (i:=6) nd qK)) zX)
  (JI (aAm (jJ (zD (zK 5) (zD (zK 6) zP))))))))))))))))))
def mV:FnScope ["_law_cell","_law_letters","_law_name","_law_rest","_law_k"] ["_law_cell"] (zI (top 41)):={}
def rX{f:aD}{fd:bE}(Fn:Fun K "_law_told_name" "_law_told_name" (top 41) f fd)(T:Glb K mg): FnOk P w K mg base CX0 1 f fd ["_law_cell"] (spF K 1 fF):=by
 have nd:=mV.nd;refine qV (k:=0) (g:=iJ) Fn mV (λcdv A outer s H E hr=>?_) (λds r hl e=>zY e)
 exact(zC (zT (i:=1) nd DF)
  (zC (zT (i:=2) nd DF)
  (zC (zT (i:=3) nd (qI (zE 0) pwI))
  (zC (jZ tK.never rfl (xH T.b_range (qS pwI (PV.w (zZ (zE 0) pwI)))) (zN (i:=4) nd) (zC (zT (i:=2) nd (qS (zE 2) (PV.w (qO (zE 1) (PV.w (zZ (zE 3) pwI))))))
  (zF (zT (i:=3) nd (qI (zE 3) pwI)))))
  (zF (qJ (zE 2)))))))
def mK:FnScope ["_law_cells","_law_names_here","_law_cell"] ["_law_cells"] (zI (top 42)):={}
def pR{f:aD}{fd:bE}(Fn:Fun K "_law_told_names" "_law_told_names" (top 42) f fd)(T:Glb K mg)(C__law_told_name:Cal P w K mg base "_law_told_name" 1 1 fF):FnOk P w K mg base CX0 2 f fd ["_law_cells"] (spF K 1 fX):=by
 have nd:=mK.nd;refine qV (k:=1) (g:=hX) Fn mK (λcdv A outer s H E hr=>?_) (λds r hl e=>zY e)
 exact(zC (jU (i:=1) nd (qT zP))
  (zC (jZ tK.never rfl (jF (zK 0)) (zN (i:=2) nd) (zF (qL (aAy (PV.n (qA C__law_told_name hr (zG (pnV 2) zQ))) (pnV 1)) (zF (yQ (i:=1) (qA C__law_told_name hr (zG (pnV 2) zQ)))) zX)))
  (zF (jQ (vD (PV.w (PVf.s (pvf_cat (zE 1) (PV.w (PVf.s (qT (zD DF zP))))))) pov_no (rP (PV.w (JC rfl T.b_max (qB pwI (qB (PV.w (yH T.b_len (qB (zE 1) qM))) qM))))))))))
def mU:FnScope ["_law_cell","_law_low","_law_behind"] ["_law_cell"] (zI (top 43)):={}
def rW{f:aD}{fd:bE}(Fn:Fun K "_law_told_span" "_law_told_span" (top 43) f fd)(T:Glb K mg): FnOk P w K mg base CX0 1 f fd ["_law_cell"] (spF K 1 gH):=by
 have nd:=mU.nd;refine qV (k:=0) (g:=iI) Fn mU (λcdv A outer s H E hr=>?_) (λds r hl e=>zY e)
 exact(zC (zT (i:=1) nd (vQ (PV.w (zZ (PV.w (qI (zE 0) pwI)) (PV.w (qS (PV.w (jB pwI (PV.w (yX pwI pwI)))) pwI)))) (PV.w (yX pwI pwI))))
  (zC (zT (i:=2) nd (qS (PV.w (qS (zE 1) pwI)) (PV.w (zZ (PV.w (qI (PV.w (qI (zE 0) pwI)) (PV.w (qS (PV.w (jB pwI (PV.w (yX pwI pwI)))) pwI)))) (PV.w (yX pwI pwI))))))
  (zF (qJ (PV.w (jJ (zD (qO (PV.w (PVf.s (qT (zD (zK 1) (zD qK zP))))) (PV.w (zZ (zE 0) pwI))) (zD (qO (PV.w (PVf.s (qT (zD (zK 2) (zD qK zP))))) (PV.w (zZ (PV.w (qI (zE 0) pwI)) pwI))) (zD (zK 1) (zD (zK 2) zP))))))))))
def mW:FnScope ["_law_cell","_law_names_here","_law_ends","_law_rest","_law_name","_law_low","_law_behind","_law_first","_law_last","_law_asked"] ["_law_cell","_law_names_here","_law_ends"] (zI (top 44)):={}
def rY{f:aD}{fd:bE}(Fn:Fun K "_law_told_deed" "_law_told_deed" (top 44) f fd)(T:Glb K mg)(C__law_told_span:Cal P w K mg base "_law_told_span" 1 1 gH):FnOk P w K mg base CX0 2 f fd ["_law_cell","_law_names_here","_law_ends"] (spR K 3 2 cX):=by
 have nd:=mW.nd;refine KA (k:=1) (p:=2) (g:=iK) Fn mW (λcdv A outer s H E hr=>?_) (λ_ _ _ _ e=>e)
 exact(qN (zT (i:=3) nd (qI (zE 0) pwI))
  (qN (zT (i:=4) nd (qO (zE 1) (PV.w (zZ (zE 3) (PV.w (yH T.b_len (qB (zE 1) qM)))))))
  (qN (zT (i:=3) nd (qI (zE 3) (PV.w (yH T.b_len (qB (zE 1) qM)))))
  (qN (TB (qA C__law_told_span hr (zG (pnV 3) zQ)) (yD (n:=4) rfl (zR (zN (i:=5) nd) (zR (zN (i:=6) nd) (zR (zN (i:=7) nd) (zR (zN (i:=8) nd) jR))))))
  (qN (wU (yI 2) (zK 7))
  (qN (wU (yI 2) (zK 8))
  (qN (zT (i:=9) nd (qI (PV.w (qI (PV.w (qI (zE 3) pwI)) (PV.w (qS (PV.w (jB pwI (PV.w (yX pwI pwI)))) pwI)))) (PV.w (yX pwI pwI))))
  (JI (aAm (jJ (zD (zZ (zE 0) pwI) (zD (jJ (zD (zK 4) (zD (jJ (zD (zK 5) (zD (zK 6) zP))) (zD (qO (PV.w (PVf.s (qT (zD qK (zD yC zP))))) (PV.w (zZ (PV.w (qI (zE 0) pwI)) pwI))) zP)))) (zD (zK 9) zP)))))))))))))
def mL:FnScope ["_law_cell","_law_k","_law_names_here","_law_ends","_law_over_here","_law_mixed"] ["_law_cell","_law_k","_law_names_here","_law_ends"] (zI (top 45)):={}
def pS{f:aD}{fd:bE}(Fn:Fun K "_law_mixed_deed" "_law_mixed_deed" (top 45) f fd)(T:Glb K mg)(C__law_over:CalR P w K mg base "_law_over" 2 3 2 lU):FnOk P w K mg base CX0 3 f fd ["_law_cell","_law_k","_law_names_here","_law_ends"] (spR K 4 3 cQ):=by
 have nd:=mL.nd;refine KA (k:=2) (p:=3) (g:=iA) Fn mL (λcdv A outer s H E hr=>?_) (λ_ _ _ _ e=>e)
 exact(qN (aBa (i:=4) nd (tU C__law_over hr (xS (zK 0) (xS (zK 1) (DM (i:=3) zP)))))
  (qN (zT (i:=5) nd (zZ (PV.w (qS (PV.w (qS (PV.w (jB (zE 0) pwI)) (PV.w (jB (zE 1) pwI)))) pwI)) pwI))
  (qN (zT (i:=5) nd (zZ (PV.w (jB (zE 5) (zE 5))) pwI))
  (JI (aAm (jJ (zD (zZ (zE 5) pwI) (zD (jJ (zD (qO (zE 2) (PV.w (zZ (PV.w (qI (zE 5) pwI)) (PV.w (yH T.b_len (qB (zE 2) qM)))))) (zD (zK 4) (zD (qO (PV.w (PVf.s (qT (zD qK (zD yC zP))))) (PV.w (SM rfl T.b_min (qB (PV.w (zZ (PV.w (qI (zE 5) pwI)) pwI)) (qB pwI qM))))) zP)))) (zD (zK 5) zP)))))))))
def CV:FnScope ["_law_bundle","_law_deed"] ["_law_bundle","_law_deed"] (zI (top 46)):={}
def NL{f:aD}{fd:bE}(Fn:Fun K "_law_do" "_law_do" (top 46) f fd)(T:Glb K mg)(M_lift:LCal P w K mg base "lift" 6 2 [12] (λ_=>eX))(M_lay:LCal P w K mg base "lay" 6 2 [12] (λ_=>fE)):FnOk P w K mg base CX0 7 f fd ["_law_bundle","_law_deed"] (spR K 2 0 gM):=by have nd:=CV.nd;refine aDl (k:=6) (p:=0) (g:=nR) Fn CV (λcdv A outer s H E hr=>?_) (λ_ _ _ _ e=>e);exact(zF (qL (pI (PV.n (qO (zE 1) pwI)) (PV.n qK)) (zF (MJ M_lift hr (yI 0) (zD (qO (zE 1) pwI) (zD (qO (zE 1) pwI) zP)))) (zF (MJ M_lay hr (yI 0) (zD (qO (zE 1) pwI) (zD (qO (zE 1) pwI) zP))))))
def pE:FnScope ["_law_pieces","_law_bit"] ["_law_pieces","_law_bit"] (zI (top 48)):={}
def AW{f:aD}{fd:bE}(Fn:Fun K "_law_turned" "_law_turned" (top 48) f fd)(T:Glb K mg)(C_turned:Cal P w K mg base "turned" 3 2 (eI bI)){mc mp:aD}(M:Mkr K "_law_turned" 7 (top 48) f mc mp):FnOk P w K mg base CX0 4 f fd ["_law_pieces","_law_bit"] (spF K 2 gK):=by have nd:=pE.nd;refine KC (k:=3) (g:=mG) Fn pE M (λA outer s H E hr=>?_) (λds r hl e=>zY e);exact(zF (jQ (WC (t:=laT "_law_turned" (exA 1 (stE (stN 0 (qG (top 48)))))) (j:=0) (is:=[1]) C_turned hr M (DO (pnV 0) (DN (is:=[1]) M (by kernel_rfl))) (by kernel_rfl) (by kernel_rfl))))
def rC:FnScope ["_law_pieces"] ["_law_pieces"] (zI (top 49)):={}
def EB{f:aD}{fd:bE}(Fn:Fun K "_law_spans" "_law_spans" (top 49) f fd)(T:Glb K mg): FnOk P w K mg base CX0 1 f fd ["_law_pieces"] (spF K 1 gY):=by
 have nd:=rC.nd;have nI0:(["_law_low","_law_behind","_law_value"]:List Str).Nodup:=by decide +kernel
 refine qV (k:=0) (g:=mX) Fn rC (λcdv A outer s H E hr=>?_) (λds r hl e=>zY e);exact(zF (jQ (yR (NY:=["_law_low","_law_behind","_law_value"]) (mp:=[none,none,none]) (jC (by kernel_rfl)) rfl (jF (zK 0)) (λc=>(yD (n:=3) rfl (zR (zN (i:=0) nI0) (zR (zN (i:=1) nI0) (zR (zN (i:=2) nI0) jR))))) (λc=>wD) (λc=>(jJ (zD (zK 0) (zD (zK 1) zP)))))))
def rD:FnScope ["_law_bundle","_law_names_here","_law_deeds","_law_due","_law_bit","_law_name","_law_own","_law_told_here","_law_all_names"] ["_law_bundle","_law_names_here","_law_deeds"] (zI (top 50)):={}
def EC{f:aD}{fd:bE}(Fn:Fun K "_law_right" "_law_right" (top 50) f fd)(T:Glb K mg)(C_turned:Cal P w K mg base "turned" 3 2 (eI bI))(C_joined:Cal P w K mg base "joined" 3 3 (gO bI))(C__law_spans:Cal P w K mg base "_law_spans" 1 1 gY)(C_formed:Cal P w K mg base "formed" 5 1 kW)(C__law_turned:Cal P w K mg base "_law_turned" 4 2 gK){mc mp:aD}(M:Mkr K "_law_right" 8 (top 50) f mc mp)(M_sets:MCal P w K mg base "sets" 5 0 [12] (bR bI))(M_only:MCal P w K mg base "only" 2 1 [12] bN)(M_crowd:MCal P w K mg base "crowd" 5 1 [12] (bX bI)):FnOk P w K mg base CX0 6 f fd ["_law_bundle","_law_names_here","_law_deeds"] (spF K 3 gZ):=by
 have nd:=rD.nd;have nI0:(["_law_other","_law_over_here","_law_value","_law_name"]:List Str).Nodup:=by decide +kernel
 refine KC (k:=5) (g:=mY) Fn rD M (λA outer s H E hr=>?_) (λds r hl e=>zY e)
 exact(zC (zT (i:=3) nd (PVf.s (qT zP)))
  (zC (zT (i:=4) nd yC)
  (zC (jZ tK.never rfl (jF (PVf.s (AE T.b_sorted (zE 1)))) (zN (i:=5) nd) (zC (zT (i:=6) nd (yU M_only hr (zK 0) (zG (pnV 5) zQ)))
  (zC (qL (HB hr (pnV 6) (PV.n (qA C_formed hr (zG (PV.n (PVf.s (yR (NY:=["_law_other","_law_over_here","_law_value","_law_name"]) (mp:=[none,none,none,some 5]) (jC (by kernel_rfl)) rfl (jF (zK 2)) (λc=>(yD (n:=3) rfl (zR (zN (i:=0) nI0) (zR (zN (i:=1) nI0) (zR (zN (i:=2) nI0) jR))))) (λc=>(TK (vL hr (pnV 0) (pnV 3)))) (λc=>(jJ (zD (zK 1) (zD (zK 2) zP))))))) zQ)))) (zF (qJ (PV.w GZ))) zX)
  (zC (zT (i:=3) nd (qA C_joined hr (zG (pnV 3) (zG (PV.n (qA C__law_turned hr (zG (pnV 6) (zG (pnV 4) zQ)))) (zG (PV.n (pv_fn T.fv_7)) zQ)))))
  (zF (zT (i:=4) nd (qS (zE 4) (zE 4))))))))
  (zC (zT (i:=7) nd (sR M_sets hr (zK 0) ))
  (zC (qL (PWv.t (wO (xW (PVn.t (PV.n (aAq T.b_isinstance T.b_list (by decide +kernel) (zE 7))))) (wO (HB hr (pnV 7) (pnV 3)) (xR (HB hr (PV.n (yU M_crowd hr (zK 0) (zG pnI zQ))) (PV.n (qA C__law_spans hr (zG (PV.n (qA C__law_turned hr (zG (pnV 7) (zG pnI zQ)))) zQ)))))))) (zF (qJ (PV.w GZ))) zX)
  (zC (zT (i:=8) nd (MF (t:=laT "_law_right" (exA 1 (stE (stN 5 (qG (top 50)))))) (j:=0) (is:=[4]) C_turned hr M (DO (pnV 7) (DN (is:=[4]) M (by kernel_rfl))) (by kernel_rfl) (by kernel_rfl)))
  (zF (qJ (PV.w (GY hr (PV.n (yU M_crowd hr (zK 0) (zG (PV.n (yH T.b_len (qB (zE 1) qM))) zQ))) (PV.n (qA C__law_spans hr (zG (pnV 8) zQ)))))))))))))
def sM:FnScope ["_law_bundle","_law_names_here","_law_mixed","_law_place"] ["_law_bundle","_law_names_here","_law_mixed","_law_place"] (zI (top 51)):={}
def FK{f:aD}{fd:bE}(Fn:Fun K "_law_told" "_law_told" (top 51) f fd)(T:Glb K mg)(M_only:MCal P w K mg base "only" 2 1 [12] bN)(M_sets:MCal P w K mg base "sets" 5 0 [12] (bR bI))(M_names_at:MCal P w K mg base "names_at" 3 1 [12] cF)(M_crowd:MCal P w K mg base "crowd" 5 1 [12] (bX bI)):FnOk P w K mg base CX0 6 f fd ["_law_bundle","_law_names_here","_law_mixed","_law_place"] (spF K 4 fG):=by
 have nd:=sM.nd;refine qV (k:=5) (g:=nQ) Fn sM (λcdv A outer s H E hr=>?_) (λds r hl e=>zY e)
 exact(zC (qL (vL hr (PV.n (zZ (PV.w (qI (zE 2) pwI)) pwI)) pnI) (zF (jQ (tW M_sets hr (zK 0) ))) zX)
  (zC (qL (vL hr (PV.n (zZ (PV.w (qI (zE 2) pwI)) pwI)) pnI) (zF (jQ (wH M_names_at hr (zK 0) (zG (pnV 3) zQ)))) zX)
  (zC (qL (vL hr (PV.n (zZ (PV.w (qI (zE 2) pwI)) pwI)) pnI) (zF (jQ (wH M_crowd hr (zK 0) (zG (PV.n (qS pwI (PV.w (zZ (PV.w (qI (zE 2) pwI)) (PV.w (yH T.b_len (qB (zE 1) qM))))))) zQ)))) zX)
  (zF (jQ (wH M_only hr (zK 0) (zG (PV.n (qO (zE 1) (PV.w (zZ (PV.w (qI (zE 2) pwI)) (PV.w (yH T.b_len (qB (zE 1) qM))))))) zQ)))))))
def oF:FnScope ["_law_bundle","_law_name","_law_before","_law_told_here"] ["_law_bundle","_law_name"] (zI (top 52)):={}
def uJ{f:aD}{fd:bE}(Fn:Fun K "_law_emptied" "_law_emptied" (top 52) f fd)(T:Glb K mg)(M_sets:MCal P w K mg base "sets" 5 0 [12] (bR bI))(M_only:MCal P w K mg base "only" 2 1 [12] bN)(M_crowd:MCal P w K mg base "crowd" 5 1 [12] (bX bI))(M_names_at:MCal P w K mg base "names_at" 3 1 [12] cF):FnOk P w K mg base CX0 6 f fd ["_law_bundle","_law_name"] (spF K 2 gA):=by
 have nd:=oF.nd;refine qV (k:=5) (g:=lH) Fn oF (λcdv A outer s H E hr=>?_) (λds r hl e=>zY e)
 exact(zC (zT (i:=2) nd (PVf.s (qT (zD (PVf.s (xA T.b_list (PV.w (sR M_sets hr (zK 0) )))) (zD (PVf.s (xA T.b_list (PV.w (yU M_only hr (zK 0) (zG (pnV 1) zQ))))) (zD (PVf.s (xA T.b_list (PV.w (yU M_crowd hr (zK 0) (zG pnI zQ))))) (zD (PVf.s (xA T.b_list (PV.w (yU M_names_at hr (zK 0) (zG pnI zQ))))) zP)))))))
  (zC (PR (i:=3) tK.never rfl nd (DA (xD (AD (tW M_sets hr (zK 0) )) (xD (AD (wH M_only hr (zK 0) (zG (pnV 1) zQ))) (xD (AD (wH M_crowd hr (zK 0) (zG pnI zQ))) (xD (AD (wH M_names_at hr (zK 0) (zG pnI zQ))) wS))))))
  (zF (qJ (PV.w (GY hr (pnV 2) (PV.n (PVf.s (qT (zD (sR M_sets hr (zK 0) ) (zD (yU M_only hr (zK 0) (zG (pnV 1) zQ)) (zD (yU M_crowd hr (zK 0) (zG pnI zQ)) (zD (yU M_names_at hr (zK 0) (zG pnI zQ)) zP)))))))))))))
def iY:FnScope ["_law_names_here","_law_bundle","_law_deeds","_law_beside","_law_name","_law_deed"] ["_law_names_here","_law_bundle","_law_deeds"] (zI (top 53)):={}
def nZ{f:aD}{fd:bE}(Fn:Fun K "_law_same_by_names" "_law_same_by_names" (top 53) f fd)(T:Glb K mg)(C__law_do:CalR P w K mg base "_law_do" 7 2 0 gM)(M_sets:MCal P w K mg base "sets" 5 0 [12] (bR bI))(Mk_Bundle_0:LMk P w K mg base 24 3 1 0 cG):FnOk P w K mg base CX0 8 f fd ["_law_names_here","_law_bundle","_law_deeds"] (spF K 3 dX):=by
 have nd:=iY.nd;refine qV (k:=7) (g:=gG) Fn iY (λcdv A outer s H E hr=>?_) (λds r hl e=>zY e)
 exact(zC (vV (i:=3) nd (DE Mk_Bundle_0 hr (zD (PVf.s (xA T.b_list (zE 0))) zP)))
  (zC (jZ tK.never rfl (jF (zK 0)) (zN (i:=4) nd) (zF (jZ tK.never rfl (jF (zK 2)) (zN (i:=5) nd) (zF (qL (vL hr (PV.n (qO (zE 5) pwI)) (pnV 4)) (zF (SY C__law_do hr (yI 3) (zD (zK 5) zP))) zX)))))
  (zF (qJ (PV.w (GY hr (PV.n (JA (aAn 3 (AD (tW M_sets hr (zK 3) ))))) (PV.n (sR M_sets hr (zK 1) ))))))))
def rG:FnScope ["_law_script","_law_ends","_law_names_here","_law_cells"] ["_law_script"] (zI (top 54)):={}
def EG{f:aD}{fd:bE}(Fn:Fun K "_law_drawn" "_law_drawn" (top 54) f fd)(T:Glb K mg)(C__law_names:Cal P w K mg base "_law_names" 1 2 kQ)(C__law_told_names:Cal P w K mg base "_law_told_names" 2 1 fX)(C__law_cell_at:Cal P w K mg base "_law_cell_at" 1 2 eD)(C__law_mixed_deed:CalR P w K mg base "_law_mixed_deed" 3 4 3 cQ)(C__law_told_deed:CalR P w K mg base "_law_told_deed" 2 3 2 cX):FnOk P w K mg base CX0 4 f fd ["_law_script"] (spA K 1 gD):=by
 have nd:=rG.nd;have nI0:(["_law_cell","_law_names_here","_law_ends"]:List Str).Nodup:=by decide +kernel
 have nI1:(["_law_k","_law_names_here","_law_ends","_law_cells"]:List Str).Nodup:=by decide +kernel
 refine fun_okA (k:=3) (n:=1) (F:=gD) (g:=kR) Fn rG (λcdv A outer s H E hr=>?_) rfl (λds r hl e=>zY e)
 exact(zC (vV (i:=1) nd (DA wS))
  (zC (qL (vL hr (PV.n (zZ (PV.w (qA C__law_cell_at hr (zG (pnV 0) (zG pnI zQ)))) pwI)) pnI) (zC (zT (i:=2) nd (qA C__law_told_names hr (zG (PV.n (PVf.s (vD (zE 0) (rP pwI) (rP pwI)))) zQ)))
  (zF (MI (i:=1) (zK 2) (MA (NY:=["_law_cell","_law_names_here","_law_ends"]) (mp:=[none,some 2,some 1]) (i:=1) (p:=2) (jC (by kernel_rfl)) rfl (jF (PVf.s (vD (zE 0) (rP pwI) (rP pwI)))) (λc=>(zN (i:=0) nI0)) (λc=>(tU C__law_told_deed hr (xS (zK 0) (xS (zK 1) (DM (i:=2) zP))))))))) zX)
  (zC (zT (i:=2) nd (qA C__law_names hr (zG (PV.n (qI (PV.w (qA C__law_cell_at hr (zG (pnV 0) (zG pnI zQ)))) pwI)) (zG (PV.n (qA C__law_cell_at hr (zG (pnV 0) (zG pnI zQ)))) zQ))))
  (zC (zT (i:=3) nd (PVf.s (vD (zE 0) (rP pwI) (rP pwI))))
  (zF (MI (i:=1) (zK 2) (MA (NY:=["_law_k","_law_names_here","_law_ends","_law_cells"]) (mp:=[none,some 2,some 1,some 3]) (i:=1) (p:=2) (jC (by kernel_rfl)) rfl (xH T.b_range (yH T.b_len (qB (zE 3) qM))) (λc=>(zN (i:=0) nI1)) (λc=>(tU C__law_mixed_deed hr (xS (qO (zE 3) (zE 0)) (xS (zK 0) (xS (zK 1) (DM (i:=2) zP)))))))))))))
def aAd:FnScope ["_law_script","_law_names_here","_law_drawn_here","_law_ends","_law_bundles","_law_deeds","_law_stood","_law_which","_law_deed","_law_mixed","_law_place","_law_told_here"] ["_law_script"] (zI (top 55)):={}
def fok_law{f:aD}{fd:bE}(Fn:Fun K "law" "law" (top 55) f fd)(T:Glb K mg)(C__law_drawn:CalA P w K mg base "_law_drawn" 4 1 gD)(C__law_do:CalR P w K mg base "_law_do" 7 2 0 gM)(C__law_told:Cal P w K mg base "_law_told" 6 4 fG)(C__law_right:Cal P w K mg base "_law_right" 6 3 gZ)(C__law_same_by_names:Cal P w K mg base "_law_same_by_names" 8 3 dX)(C__law_emptied:Cal P w K mg base "_law_emptied" 6 2 gA)(Mk_Bundle_0:LMk P w K mg base 24 3 1 0 cG):FnOk P w K mg base CX0 9 f fd ["_law_script"] (spF K 1 pK):=by
 have nd:=aAd.nd;have nI0:(["_law_kept"]:List Str).Nodup:=by decide +kernel
 refine qV (k:=8) (g:=tG) Fn aAd (λcdv A outer s H E hr=>?_) (λds r hl e=>zY e)
 exact(zC (TB (aAt C__law_drawn hr (zD (zK 0) zP)) (yD (n:=3) rfl (zR (zN (i:=1) nd) (zR (zN (i:=2) nd) (zR (zN (i:=3) nd) jR)))))
  (zC (vV (i:=4) nd (DA (xD (DE Mk_Bundle_0 hr (zD (PVf.s (xA T.b_list (zE 1))) zP)) (xD (DE Mk_Bundle_0 hr (zD (PVf.s (aAp rfl T.b_list T.b_reversed (zK 1))) zP)) wS))))
  (zC (vV (i:=5) nd (DA (xD (DA wS) (xD (DA wS) wS))))
  (zC (jU (i:=6) nd (qT zP))
  (zC (jZ tK.never rfl (jF (zK 2)) (yD (n:=3) rfl (zR (zN (i:=7) nd) (zR (zN (i:=8) nd) (zR (zN (i:=9) nd) jR)))) (zC (wU (SG (i:=7) (yI 5)) (zK 8))
  (zC (SY C__law_do hr (SG (i:=7) (yI 4)) (zD (zK 8) zP))
  (zC (zT (i:=10) nd (qO (zE 3) (PV.w (qS (PV.w (jB pwI (PV.w (yH T.b_len (qB (zE 6) qM))))) (PV.w (zZ (PV.w (qI (zE 9) pwI)) pwI))))))
  (zC (zT (i:=11) nd (JA (MB 4 [0,0] (MB 4 [1,0] (DC 4 (AD (jW C__law_told hr (zG (tV (pnV 4) (PV.n (zZ (PV.w (qI (zE 9) pwI)) pwI))) (zG (pnV 1) (zG (pnV 9) (zG (pnV 10) zQ)))))))))))
  (zF (yQ (i:=6) (PVf.s (qT (zD (zK 11) (zD (PVf.s (xA T.b_list (zE 11))) zP)))))))))))
  (zC (jZ tK.never rfl (xH T.b_range yC) (zN (i:=7) nd) (zC (qL (kI 5 (kG 4 [0,0] (kG 4 [1,0] (kI 4 (xW (PVn.t (PV.n (qA C__law_right hr (zG (tV (pnV 4) (pnV 7)) (zG (pnV 1) (zG (tV (pnV 5) (pnV 7)) zQ))))))))))) (zF (qJ (PV.w GZ))) zX)
  (zF (qL (kI 5 (kG 4 [0,0] (kG 4 [1,0] (kI 4 (PWv.t (wO (xW (PVn.t (PV.n (qA C__law_same_by_names hr (zG (pnV 1) (zG (tV (pnV 4) (pnV 7)) (zG (tV (pnV 5) (pnV 7)) zQ))))))) (xR (xW (PVn.t (PV.n (qA C__law_emptied hr (zG (tV (pnV 4) (pnV 7)) (zG (PV.n (qO (zE 1) pwI)) zQ))))))))))))) (zF (qJ (PV.w GZ))) zX))))
  (zF (psv_rel 6 (qJ (PV.w (PP rfl T.b_all (qB (PV.w (PVf.s (yR (NY:=["_law_kept"]) (mp:=[none]) (jC (by kernel_rfl)) rfl (jF (zK 6)) (λc=>(zN (i:=0) nI0)) (λc=>wD) (λc=>(GY hr (PV.n (qO (zE 0) pwI)) (PV.n (qO (zE 0) pwI))))))) qM))))))))))))
end
open FL
open Builtin.Int (intBits)
def TH u v:bI (.clo 1000 3 []) [oi u,oi v]=some (.val (oi (sumW u v))):=by have:=VV u v;unfold bI phiOf;simp[fnF,List.lookup,this]
noncomputable def Wc(many:Int):Option Int->Option Int
 |some n=>if many<=n then some 1 else none
 |none=>none
def phi_lam many v:bI (.clo 11 0 [.int many]) [oi v]=some (.val (oi (Wc many v))):=by
 show lamF 1 dQ [.int many] [oi v]=_;cases v with
 |none=>simp[lamF,lamR,dQ,Wc]
 |some n=>by_cases h:many<=n<;>simp[lamF,lamR,dQ,Wc,h]
def V1(ds:Dvs):Prop:=∀d∈ds,okS d.2.1/\(d.2.2=some 1\/d.2.2=none)
def V1.ok(h:V1 ds):∀d∈ds,okS d.2.1:=λd hd=>(h d hd).1
def OU(h:V1 ds) y p:vF ds y p=some 1\/vF ds y p=none:=by
 unfold vF;have:∀(ds:Dvs) (b:Option Int),V1 ds->(b=some 1\/b=none)->(ds.foldl (vstep y p) b=some 1\/ds.foldl (vstep y p) b=none):=by
  intro ds;induction ds with
  |nil=>intro b _ hb;exact hb
  |cons d ds ih=>
    intro b h hb;rw[cH];refine ih _ (λe he=>h e (.tail _ he)) ?_;unfold vstep;split
    . exact(h d (.head _)).2
    . exact hb
 exact this ds none h (.inr rfl)
def kJ(h:V1 ds) y:Stab (endsV ds) (mapOf ds y):=λp hp=>by rw[xK h.ok,xK h.ok,IN hp]
def OD ns ds:(bOf ns ds).map (·.2)=(srtT ns).map (mapOf ds):=by unfold bOf;rw[dU];rfl
noncomputable def oneQ(ds:Dvs)(p:Int)(y:Str):Int:=if vF ds y p=some 1 then 1 else 0
noncomputable def cnt(ns:List Str)(ds:Dvs)(p:Int):Int:=((srtT ns).map (oneQ ds p)).sum
theorem wK ds p:∀S:List Str,0<=(S.map (oneQ ds p)).sum
 |[]=>pY _
 |y::S=>by have:=wK ds p S;rw[aK,lG];unfold oneQ at this ⊢;split<;>lia
theorem NH(h:V1 ds) p:∀(S:List Str) (t:Option Int),(S.map (mapOf ds)).foldl (λt m=>sumW t (valL m p)) t=match t with
  |none=>if (S.map (oneQ ds p)).sum=0 then none else some (S.map (oneQ ds p)).sum
  |some a=>some (a+(S.map (oneQ ds p)).sum)
 |[],t=>by cases t<;>simp
 |y::S,t=>by
   have nn:=wK ds p S;simp only[cH,aK,lG];rw[NH h p S,xK h.ok];have e:oneQ ds p y=if vF ds y p=some 1 then 1 else 0:=rfl
   rw[e];generalize (S.map (oneQ ds p)).sum=z at *;rcases OU h y p with q|q
   . cases t with
     |none=>
       have:¬(1+z=0):=by lia
       simp[q,sumW,this]
     |some a=>simp[q,sumW];lia
   . cases t<;>simp[q,sumW]
noncomputable def stk(ns:List Str)(ds:Dvs):List Rw:=lK ((srtT ns).map (mapOf ds)) []
noncomputable def fC(ns:List Str)(ds:Dvs)(many:Int):List Rw:=turnF (Wc many) (stk ns ds)
def RX(h:V1 ds):MapF (stk ns ds)/\(stk ns ds).length<=2*ds.length+1/\∀p,valL (stk ns ds) p=if cnt ns ds p=0 then none else some (cnt ns ds p):=by
 obtain⟨a,b,e⟩:=tR ((srtT ns).map (mapOf ds)) [] MapF.nil (λp _=>rfl) λm hm=>by obtain⟨y,_,rfl⟩:=bG.mp hm;exact⟨(yG h.ok y).ord,kJ h y⟩
 have lb:=vU a b;have le:=xI ds;unfold stk;refine⟨a,by lia,λp=>?_⟩;rw[e p,show valL [] p=none from rfl,NH h p];rfl
def xL(h:V1 ds)(hm:1<=many):MapF (fC ns ds many)/\(fC ns ds many).length<=4*ds.length+3/\∀p,valL (fC ns ds many) p=if many<=cnt ns ds p then some 1 else none:=by
 obtain⟨a,b,e⟩:=RX h;have:=kL (Wc many) (stk ns ds);unfold fC;refine⟨yW _ a.ord,by lia,λp=>?_⟩;rw[sH _ a.ord,e p];by_cases z:cnt ns ds p=0
 . have:¬ many<=0:=by lia
   simp[z,Wc,this]
 . simp[z,Wc]
def crowd_one(h:V1 ds)(hm:1<=many)(hr:r∈fC ns ds many):r.2.2=some 1:=by
 obtain⟨a,b,e⟩:=xL h hm;obtain⟨p,hp⟩:=uI r (a.ord.ok r hr);cases hv:r.2.2 with
 |none=>exact absurd hv (a.val r hr)
 |some v=>
   have:=(jT a.ord p v).mpr ⟨r,hr,hp,hv⟩;rw[e p]at this;split at this
   . exact this.symm
   . cases this
noncomputable def spRQ(r:Rw):D:=spD (r.1,r.2.1)
theorem wY:∀l:List Rw,flats (l.map spRQ)=true
 |[]=>by simp
 |r::l=>by simp[wY l,spRQ]
def kF(h1:1<=ns.length)(h60:ns.length<=60)(hn:∀x∈ns,NmS x)(nd:ns.Nodup)(h:V1 ds)(hd:ds.length<=900)(m1:1<=many)(m2:many<=ns.length) :
  bX bI 12 [.ins 12 [.dcf (bkN (bOf ns ds)) (bkV (bOf ns ds))],.int many]=some (.fresh ((fC ns ds many).map spRQ)):=by
 have eV:bkV (bOf ns ds)=lstsD ((srtT ns).map (mapOf ds)):=by rw[<-OD];unfold bkV lstsD;rw[dU];rfl
 have lV:(bkV (bOf ns ds)).length=ns.length:=by rw[eV];simp[lstsD,(srtT_perm ns).length_eq]
 have sk:=CP TH (E:=endsV ds) (L:=(srtT ns).map (mapOf ds)) (by have:=xI ds;lia) λm hm=>by obtain⟨y,_,rfl⟩:=bG.mp hm;have:=xU h.ok y;exact⟨(yG h.ok y).ord,kJ h y,by lia⟩
 obtain⟨_,sl,_⟩:=RX (ns:=ns) h;have tn:=tQ (ps:=stk ns ds) (phi_lam many) (by lia);obtain⟨_,cl,_⟩:=xL (ns:=ns) h m1;have comp:∀x0 x1 x2:Sl,compG (viaA (zW 3) asLT) [none,none,none] (tupG 3 (zM (zL 0) (zM (zL 1) (zM (zL 2) tgNil)))) (λ_=>some true) (mkT (qD (zA (zW 0) (zA (zW 1) zS)))) [x0,x1,x2,.v (.lst ((fC ns ds many).map rwD))]=some ((fC ns ds many).map spRQ):=λx0 x1 x2=>by refine yM (items:=(fC ns ds many).map rwD) (by simp) (by simp;lia) ?_;rw[xM rwD spRQ];intro r hr;exact⟨_,rfl,by simp[qY,rwD,spRQ,spD]⟩
 have fl:=wY (fC ns ds many);have k1:¬many<1:=by lia
 have k2:¬(ns.length:Int)<many:=by lia
 have tn':ncF (eI bI) [.lst ((stk ns ds).map rwD),.clo 11 0 [.int many]]=some (.fresh ((fC ns ds many).map rwD)):=tn;have sk':fZ bI [.lst (bkV (bOf ns ds))]=some (.fresh ((stk ns ds).map rwD)):=by rw[eV];exact sk
 refine yE ?_;unfold iO;generalize bkN (bOf ns ds)=KN at *;generalize bkV (bOf ns ds)=KV at *;generalize (stk ns ds).map rwD=SK at *;generalize (fC ns ds many).map rwD=CW at *
 rw[zU (ds':=[.v (.ins 12 [.dcf KN KV]),.v (.int many),.no,.no]) (by simp[args,fldG,fldD,List.lookup,lvalA,kdD,lV,k1,k2]),
  zU (ds':=[.v (.ins 12 [.dcf KN KV]),.v (.int many),.v (.lst SK),.no]) (by simp[fldG,fldD,List.lookup,lvalA,kdD,sk']),
  zU (ds':=[.v (.ins 12 [.dcf KN KV]),.v (.int many),.v (.lst SK),.v (.lst CW)]) (by simp[lamA,capsA,tn'])]
 simp[comp,flatF,fl]
noncomputable def setF(ns:List Str)(ds:Dvs):List Rw:=lK (wgh 1 ((srtT ns).map (mapOf ds))) []
noncomputable def wtot(ds:Dvs)(p:Int):Int->List Str->Int
 |_,[]=>0
 |w,y::S=>(if vF ds y p=some 1 then w else 0)+wtot ds p (w*2) S
theorem wQ(ds:Dvs)(p:Int):∀(S:List Str) (w:Int),0<w->0<=wtot ds p w S
 |[],_,_=>by simp[wtot]
 |y::S,w,h=>by have:=wQ ds p S (w*2) (by omega);unfold wtot;split<;>omega
def vM(h:V1 ds):MapF (setF ns ds)/\(setF ns ds).length<=2*ds.length+1/\∀p,valL (setF ns ds) p=if wtot ds p 1 (srtT ns)=0 then none else some (wtot ds p 1 (srtT ns)):=by
 unfold setF;obtain⟨a,b,e⟩:=tR (E:=endsV ds) (wgh 1 ((srtT ns).map (mapOf ds))) [] MapF.nil (λp _=>rfl) λm hm=>by obtain⟨m',hm',v,rfl⟩:=IK hm;obtain⟨y,_,rfl⟩:=bG.mp hm';exact⟨GC v (yG h.ok y).ord,CD (yG h.ok y) (kJ h y) v⟩
 have lb:=vU a b;have le:=xI ds;refine⟨a,by omega,λp=>?_⟩;rw[e p,show valL [] p=none from rfl,NG p _ 1 none (by omega) λm hm r hr=>by
  obtain⟨y,_,rfl⟩:=bG.mp hm
  exact(yG h.ok y).val r hr]
 have key:∀(S:List Str) (w:Int),tot w ((S.map (mapOf ds)).map (valL · p))=wtot ds p w S:=by
  intro S;induction S with
  |nil=>intro w;rfl
  |cons y S ih=>intro w;simp only[aK,tot,wtot];rw[ih (w*2),xK h.ok];rcases OU h y p with q|q<;>simp[q]
 rw[key]
def sJ(h1:1<=ns.length)(h60:ns.length<=60)(hn:∀x∈ns,NmS x)(nd:ns.Nodup)(h:V1 ds)(hd:ds.length<=900) :
  bR bI 12 [.ins 12 [.dcf (bkN (bOf ns ds)) (bkV (bOf ns ds))]]=some (.fresh ((setF ns ds).map rwD)):=by
 have ok:=LA hn nd h.ok;have se:=sets_eq TH ok (by omega) (by rw[sX];omega) (E:=endsV ds) (by have:=xI ds;omega) λq hq=>by obtain⟨y,_,rfl⟩:=bG.mp hq;exact kJ h y
 rw[OD]at se;exact se
def DQ(hn:∀x∈ns,NmS x)(nd:ns.Nodup)(h:V1 ds)(hx:x∈ns) :
  bN 12 [.ins 12 [.dcf (bkN (bOf ns ds)) (bkV (bOf ns ds))],.str x]=some (.fresh ((mapOf ds x).map rwD)):=TX (LA hn nd h.ok) (VE hx ds) (M:=.dcf (bkN (bOf ns ds)) (bkV (bOf ns ds))) rfl
def lsum_eq u v:iD [oi u,oi v]=some (.val (oi (sumW u v))):=by refine yE ?_;unfold oR;cases u<;>cases v<;>simp[args,sumW]
def aBl u v:bI (.clo 1000 7 []) [oi u,oi v]=some (.val (oi (sumW u v))):=by have:=lsum_eq u v;show fnF 2 iD [] [oi u,oi v]=_;simp[fnF,this]
noncomputable def Wt(bit:Int):Option Int->Option Int
 |some _=>some bit
 |none=>none
def aBk bit v:bI (.clo 7 0 [.int bit]) [oi v]=some (.val (oi (Wt bit v))):=by
 show lamF 1 dW [.int bit] [oi v]=_;cases v with
 |none=>simp[lamF,lamR,dW,Wt]
 |some n=>simp[lamF,lamR,dW,Wt]
noncomputable def Wa(bit:Int):Option Int->Option Int
 |some n=>if n=bit-1 then some 1 else none
 |none=>none
def phi_all bit v:bI (.clo 8 0 [.int bit]) [oi v]=some (.val (oi (Wa bit v))):=by
 show lamF 1 eG [.int bit] [oi v]=_;cases v with
 |none=>
   have e:eqD .non (.int (bit-1))=some (.bl false):=by rw[xV (by rfl) (by rfl)];rfl
   simp[lamF,lamR,eG,Wa,e]
 |some n=>by_cases h:n=bit-1<;>simp[lamF,lamR,eG,Wa,h]
noncomputable def dueL(ds:Dvs):List Str->List Rw->Int->List Rw
 |[],acc,_=>acc
 |y::S,acc,w=>dueL ds S (yN sumW acc (turnF (Wt w) (mapOf ds y))) (w+w)
noncomputable def addT(a:Option Int)(t:Int):Option Int:=match a with
 |none=>if t=0 then none else some t
 |some a=>some (a+t)
theorem NT(h:V1 ds):∀(S:List Str) (acc:List Rw) (w:Int),0<w->MapF acc->Stab (endsV ds) acc →
  MapF (dueL ds S acc w)/\Stab (endsV ds) (dueL ds S acc w)/\∀p,valL (dueL ds S acc w) p=addT (valL acc p) (wtot ds p w S)
 |[],acc,w,_,m,st=>⟨m,st,λp=>by simp only[dueL,wtot,addT];cases valL acc p<;>simp⟩
 |y::S,acc,w,hw,m,st=>by
   have om:=(yG h.ok y).ord;have o2:=(yW (Wt w) om).ord;have v1:∀p,valL (yN sumW acc (turnF (Wt w) (mapOf ds y))) p=sumW (valL acc p) (Wt w (vF ds y p)):=λp=>by rw[BR sumW m.ord o2,sH _ om,xK h.ok]
   obtain⟨a,b,c⟩:=NT h S (yN sumW acc (turnF (Wt w) (mapOf ds y))) (w+w) (by omega) (xY sumW m.ord o2) (λp hp=>by rw[v1,v1,st p hp,IN hp]);refine⟨a,b,λp=>?_⟩;show valL (dueL ds S (yN sumW acc (turnF (Wt w) (mapOf ds y))) (w+w)) p=_;rw[c p,v1];have nn:=wQ ds p S (w*2) (by omega);have e2:w+w=w*2:=by omega
   rw[e2];simp only[wtot];generalize wtot ds p (w*2) S=z at *;rcases OU h y p with q|q
   . rw [q];have:¬ (w+z=0):=by omega
     cases valL acc p with
     |none=>simp[Wt,sumW,addT,this]
     |some u=>simp[Wt,sumW,addT];omega
   . rw[q];cases valL acc p<;>simp[Wt,sumW,addT]
def due_set(h:V1 ds):dueL ds (srtT ns) [] 1=setF ns ds:=by obtain⟨a,_,c⟩:=NT h (srtT ns) [] 1 (by omega) MapF.nil (λ_ _=>rfl);obtain⟨b,_,e⟩:=vM (ns:=ns) h;refine JS a b λp=>?_;rw[c p,e p];rfl
def GI(m:List Rw)(hl:m.length<=100000) w:gK [.lst (m.map rwD),.int w]=some (.fresh ((turnF (Wt w) m).map rwD)):=by have tn:=tQ (aBk w) hl;have fl:=jO (turnF (Wt w) m);refine yE ?_;unfold mG;generalize m.map rwD=M at *;generalize (turnF (Wt w) m).map rwD=R at *;simp[args,lamA,capsA,tn,flatF,fl]
def LY(m:List Rw)(hl:m.length<=100000):gY [.lst (m.map rwD)]=some (.fresh (m.map spRQ)):=by
 have comp:compG (viaA (zW 0) asLT) [none,none,none] (tupG 3 (zM (zL 0) (zM (zL 1) (zM (zL 2) tgNil)))) (λ_=>some true) (mkT (qD (zA (zW 0) (zA (zW 1) zS)))) [.v (.lst (m.map rwD))]=some (m.map spRQ):=by refine yM (items:=m.map rwD) (by simp) (by simp;omega) ?_;rw[xM rwD spRQ];intro r hr;exact⟨_,rfl,by simp[qY,rwD,spRQ,spD]⟩
 have fl:=wY m;refine yE ?_;unfold mX;generalize m.map rwD=M at *;generalize m.map spRQ=R at *;simp[args,comp,flatF,fl]
def NP(a b:Str)(ha:PyData.strOk a=true)(hb:PyData.strOk b=true):eqD (.str a) (.str b)=some (.bl (decide (a=b))):=by rw[xV (by simpa[shal]using ha) (by simpa[shal]using hb)];by_cases h:a=b<;>simp[eqvD,toPy,PyData.eqv,h]
def aBx(y:Str)(ds:Dvs)(hy:NmS y)(hd:∀d∈ds,NmS d.1)(hl:ds.length<=900)(x0 x1 x3 x4 x6 x7 x8:Sl):compG (viaA (zW 2) asLT) [none,none,none,some 5] (tupG 3 (zM (zL 0) (zM (zL 1) (zM (zL 2) tgNil)))) (qC (zH eqD (zJ 0) (zJ 3))) (mkT (qD (zA (zW 1) (zA (zW 2) zS)))) [x0,x1,.v (.lst (ds.map dvD)),x3,x4,.v (.str y),x6,x7,x8] =
  some (((ds.filter λd=>decide (d.1=y)).map (·.2)).map rvD):=by
 refine yM (items:=ds.map dvD) (by simp) (by simp;omega) ?_;rw[vK dvD (λd=>decide (d.1=y)) (λd=>rvD d.2) ds,dU]
 . rfl
 . intro d hd';refine⟨_,rfl,?_,λ_=>by simp[qY,dvD,rvD]⟩;have e:=NP d.1 y (DT (hd d hd')) (DT hy);simp[qY,dvD,e]
noncomputable def bD(ns:List Str)(ds:Dvs):D:=.ins 12 [.dcf (bkN (bOf ns ds)) (bkV (bOf ns ds))]
def r1_eq(hn:∀x∈ns,NmS x)(nd:ns.Nodup)(h:V1 ds)(hm:∀d∈ds,d.1∈ns)(hl:ds.length<=900){y:Str}(hy:y∈ns){acc:List Rw}(ma:MapF acc)(la:acc.length<=5000)(w:Int)(N x6 x7 x8:Sl) :
  gL [.v (bD ns ds),N,.v (.lst (ds.map dvD)),.v (.lst (acc.map rwD)),.v (.int w),.v (.str y),x6,x7,x8] =
   some (.nx [.v (bD ns ds),N,.v (.lst (ds.map dvD)),.v (.lst ((yN sumW acc (turnF (Wt w) (mapOf ds y))).map rwD)),.v (.int (w+w)),.v (.str y),.v (.lst ((mapOf ds y).map rwD)),x7,x8]):=by
 have on:bN 12 [bD ns ds,.str y]=some (.fresh ((mapOf ds y).map rwD)):=DQ hn nd h hy;obtain⟨cs,hc⟩:∃cs,bD ns ds=.ins 12 cs:=⟨_,rfl⟩
 have lm:=xU h.ok y;have cp:=aBx y ds (hn y hy) (λd hd=>hn _ (hm d hd)) hl;obtain⟨fe,_,_⟩:=XT ((ds.filter λd=>decide (d.1=y)).map (·.2)) (λr hr=>by
  obtain⟨d,hd,rfl⟩:=bG.mp hr
  exact(h d (cT.mp hd).1).1) (by have:=kU (λd=>decide (d.1=y)) ds;simp;omega)
 rw[<-vE]at fe;have ne:=aCq (mapOf ds y) (mapOf ds y);simp only[decide_true,Bool.not_true]at ne;have tu:=GI (mapOf ds y) (by omega) w;have jn:=HS aBl ma.ord (yW (Wt w) (yG h.ok y).ord).ord (by omega) (by have:=kL (Wt w) (mapOf ds y);omega);unfold gL;rw[hc]at on ⊢;generalize compG (viaA (zW 2) asLT) [none,none,none,some 5] (tupG 3 (zM (zL 0) (zM (zL 1) (zM (zL 2) tgNil)))) (qC (zH eqD (zJ 0) (zJ 3))) (mkT (qD (zA (zW 1) (zA (zW 2) zS))))=CC at *;generalize ((ds.filter λd=>decide (d.1=y)).map (·.2)).map rvD=FR at *;generalize (yN sumW acc (turnF (Wt w) (mapOf ds y))).map rwD=JR at *;generalize (turnF (Wt w) (mapOf ds y)).map rwD=TR at *;generalize (mapOf ds y).map rwD=MR at *;generalize acc.map rwD=AR at *;generalize ds.map dvD=DR at *
 rw[zU (ds':=[.v (.ins 12 cs),N,.v (.lst DR),.v (.lst AR),.v (.int w),.v (.str y),.v (.lst MR),x7,x8]) (by simp[methV,methR,on,retV]),
  zU (ds':=[.v (.ins 12 cs),N,.v (.lst DR),.v (.lst AR),.v (.int w),.v (.str y),.v (.lst MR),x7,x8]) (by rw[rS (by simp[cp,fe,retV,ne])];rfl),
  zU (ds':=[.v (.ins 12 cs),N,.v (.lst DR),.v (.lst JR),.v (.int w),.v (.str y),.v (.lst MR),x7,x8]) (by simp[tu,jn,retV])]
 simp
theorem aAl(hn:∀x∈ns,NmS x)(nd:ns.Nodup)(h:V1 ds)(hm:∀d∈ds,d.1∈ns)(hl:ds.length<=900)(N:Sl):∀(S:List Str) (acc:List Rw) (w:Int) (x5 x6 x7 x8:Sl),0<w->(∀y∈S,y∈ns)->MapF acc->Stab (endsV ds) acc->∃y5 y6,
  qP (zL 5) gL (S.map D.str) [.v (bD ns ds),N,.v (.lst (ds.map dvD)),.v (.lst (acc.map rwD)),.v (.int w),x5,x6,x7,x8] =
   some (.nx [.v (bD ns ds),N,.v (.lst (ds.map dvD)),.v (.lst ((dueL ds S acc w).map rwD)),.v (.int (w*2^S.length)),y5,y6,x7,x8])
 |[],acc,w,x5,x6,x7,x8,_,_,_,_=>⟨x5,x6,by simp[qP,dueL]⟩
 |y::S,acc,w,x5,x6,x7,x8,hw,hS,ma,st=>by
   have om:=(yG h.ok y).ord;have o2:=(yW (Wt w) om).ord;have v1:∀p,valL (yN sumW acc (turnF (Wt w) (mapOf ds y))) p=sumW (valL acc p) (Wt w (vF ds y p)):=λp=>by rw[BR sumW ma.ord o2,sH _ om,xK h.ok]
   have la:=vU ma st;have le:=xI ds;have b:=r1_eq hn nd h hm hl (hS y (.head _)) ma (by omega) w N x6 x7 x8;obtain⟨y5,y6,g⟩:=aAl hn nd h hm hl N S (yN sumW acc (turnF (Wt w) (mapOf ds y))) (w+w) (.v (.str y)) (.v (.lst ((mapOf ds y).map rwD))) x7 x8 (by omega) (λz hz=>hS z (.tail _ hz)) (xY sumW ma.ord o2) (λp hp=>by rw[v1,v1,st p hp,IN hp]);refine⟨y5,y6,?_⟩;have e2:(w+w)*2^S.length=w*2^(y::S).length:=by rw[aG,uY,Int.add_mul,<-LJ];omega
   rw[e2]at g;show qP (zL 5) gL (.str y::S.map D.str) _=some (.nx [_,_,_,.v (.lst ((dueL ds S (yN sumW acc (turnF (Wt w) (mapOf ds y))) (w+w)).map rwD)),_,_,_,_,_]);generalize (w*2^(y::S).length)=ww at *;generalize (dueL ds S (yN sumW acc (turnF (Wt w) (mapOf ds y))) (w+w)).map rwD=DL at *;generalize (yN sumW acc (turnF (Wt w) (mapOf ds y))).map rwD=JR at *;generalize (mapOf ds y).map rwD=MR at *;generalize acc.map rwD=AR at *;generalize ds.map dvD=DR at *;generalize bD ns ds=B at *;generalize S.map D.str=SS at *;simp[qP,zL,b,g]
theorem GA(h:V1 ds)(p:Int):∀(S:List Str) (w:Int),0<w->(wtot ds p w S=0↔(S.map (oneQ ds p)).sum=0)
 |[],_,_=>by simp[wtot]
 |y::S,w,hw=>by
   have n1:=wQ ds p S (w*2) (by omega);have n2:=wK ds p S;have ih:=GA h p S (w*2) (by omega);simp only[wtot,aK,lG,oneQ];split
   . constructor<;>intro z<;>omega
   . simpa using ih
theorem RS(p:Int):∀(S:List Str) (w:Int),0<w->wtot ds p w S<=w*(2^S.length-1)
 |[],_,_=>by simp[wtot]
 |y::S,w,hw=>by
   have ih:=RS (ds:=ds) p S (w*2) (by omega);have e:w*(2^(y::S).length-1)=w*2*(2^S.length-1)+w:=by rw[aG,uY];generalize (2:Int)^S.length=z;rw[CB,CB,<-LJ,YV];omega
   rw[e];simp only[wtot];split<;>omega
theorem RF(p:Int):∀S:List Str,(S.map (oneQ ds p)).sum<=(S.length:Int)
 |[]=>by simp
 |y::S=>by have:=RF (ds:=ds) p S;simp only[aK,lG,aG,oneQ];split<;>omega
theorem GB(p:Int):∀(S:List Str) (w:Int),0<w->(wtot ds p w S=w*(2^S.length-1)↔(S.map (oneQ ds p)).sum=(S.length:Int))
 |[],_,_=>by simp[wtot]
 |y::S,w,hw=>by
   have ih:=GB (ds:=ds) p S (w*2) (by omega);have l1:=RS (ds:=ds) p S (w*2) (by omega);have l2:=RF (ds:=ds) p S;have e:w*(2^(y::S).length-1)=w*2*(2^S.length-1)+w:=by rw[aG,uY];generalize (2:Int)^S.length=z;rw[CB,CB,<-LJ,YV];omega
   rw[e];simp only[wtot,aK,lG,aG,oneQ];split
   . constructor
     . intro z;have:=ih.mp (by omega);omega
     . intro z;have:=ih.mpr (by omega);omega
   . constructor
     . intro z;omega
     . intro z;omega
def KQ(h:V1 ds):fC ns ds 1=turnF (Wt 1) (setF ns ds):=by
 obtain⟨a,_,c⟩:=xL (ns:=ns) (many:=1) h (by omega);obtain⟨b,_,e⟩:=vM (ns:=ns) h;refine JS a (yW _ b.ord) λp=>?_;rw[c p,sH _ b.ord,e p];have z:=GA h p (srtT ns) 1 (by omega);have n2:=wK ds p (srtT ns);unfold cnt;by_cases q:((srtT ns).map (oneQ ds p)).sum=0
 . rw[if_neg (by omega),if_pos (z.mpr q)];rfl
 . rw[if_pos (by omega),if_neg (λy=>q (z.mp y))];rfl
def KR(h:V1 ds)(h1:1<=ns.length):fC ns ds (ns.length:Int)=turnF (Wa (2^ns.length)) (setF ns ds):=by
 obtain⟨a,_,c⟩:=xL (ns:=ns) (many:=(ns.length:Int)) h (by omega);obtain⟨b,_,e⟩:=vM (ns:=ns) h;refine JS a (yW _ b.ord) λp=>?_;rw[c p,sH _ b.ord,e p];have z:=GB (ds:=ds) p (srtT ns) 1 (by omega);have l2:=RF (ds:=ds) p (srtT ns);have ln:(srtT ns).length=ns.length:=(srtT_perm ns).length_eq;rw[ln]at z l2;rw[Int.one_mul]at z;have pw:(1:Int)<2^ns.length:=by
  have:(2:Int)^1<=2^ns.length:=by
   have:=Nat.pow_le_pow_right (show 0<2 by omega) h1
   exact_mod_cast this
  omega
 unfold cnt;generalize (2:Int)^ns.length=P at *;generalize wtot ds p 1 (srtT ns)=t at *;generalize ((srtT ns).map (oneQ ds p)).sum=s at *;by_cases q:s=(ns.length:Int)
 . have t1:=z.mpr q;rw[if_pos (by omega),if_neg (by omega)];simp[Wa,t1]
 . have t1:¬ t=P - 1:=λy=>q (z.mp y);rw [if_neg (by omega)];by_cases t0:t=0
   . rw[if_pos t0];rfl
   . rw[if_neg t0];simp[Wa,t1]
def kK(m:List Rw):m.map spRQ=(m.map λr=>((r.1,r.2.1):Spn)).map spD:=by rw[dU];rfl
def UV(m:List Rw):eqD (.lst (m.map spRQ)) (.lst (m.map spRQ))=some (.bl true):=by rw[kK,UU];simp
def neD_spR(m:List Rw):neD (.lst (m.map spRQ)) (.lst (m.map spRQ))=some (.bl false):=by
 rw[kK];generalize (m.map λr=>((r.1,r.2.1):Spn))=L;have hs:shal 40 (.lst (L.map spD))=true:=by simpa using wE 38 L
 have:=UU L L;rw[xV hs hs]at this;simp at this;rw[JO hs hs,yB,this];rfl
def aAh(h1:1<=ns.length)(h60:ns.length<=60)(hn:∀x∈ns,NmS x)(nd:ns.Nodup)(h:V1 ds)(hm:∀d∈ds,d.1∈ns)(hl:ds.length<=900) :
  gZ [bD ns ds,.lst (ns.map D.str),.lst (ds.map dvD)]=some (.val (.bl true)):=by
 obtain⟨cs,hc⟩:∃cs,bD ns ds=.ins 12 cs:=⟨_,rfl⟩
 have st:∀x0 x2 x3 x4 x5 x6 x7 x8:Sl,srtTA (zJ 1) [x0,.v (.lst (ns.map D.str)),x2,x3,x4,x5,x6,x7,x8]=some ((srtT ns).map D.str):=λ_ _ _ _ _ _ _ _=>by
  have z:ns.length<64:=by omega
  unfold srtTA;simp[wC,z]
 obtain⟨y5,y6,lp⟩:=aAl hn nd h hm hl (.v (.lst (ns.map D.str))) (srtT ns) [] 1 .no .no .no .no (by omega) (λy hy=>(srtT_perm ns).mem_iff.mp hy) MapF.nil (λ_ _=>rfl);rw[due_set h,Int.one_mul,(srtT_perm ns).length_eq]at lp;obtain⟨sm,sl,_⟩:=vM (ns:=ns) h;have se:bR bI 12 [bD ns ds]=some (.fresh ((setF ns ds).map rwD)):=sJ h1 h60 hn nd h hl;have c1:bX bI 12 [bD ns ds,.int 1]=some (.fresh ((fC ns ds 1).map spRQ)):=kF h1 h60 hn nd h hl (by omega) (by omega);have cn:bX bI 12 [bD ns ds,.int (ns.length:Int)]=some (.fresh ((fC ns ds (ns.length:Int)).map spRQ)):=kF h1 h60 hn nd h hl (by omega) (by omega);rw[KQ h]at c1;rw[KR h h1]at cn;have t1:=GI (setF ns ds) (by omega) 1;have l1:=kL (Wt 1) (setF ns ds);have la:=kL (Wa (2^ns.length)) (setF ns ds);have s1:=LY (turnF (Wt 1) (setF ns ds)) (by omega);have sa:=LY (turnF (Wa (2^ns.length)) (setF ns ds)) (by omega);have ta:=tQ (ps:=setF ns ds) (phi_all (2^ns.length)) (by omega);have ne:=aCq (setF ns ds) (setF ns ds);simp only[decide_true,Bool.not_true]at ne;have n1:=neD_spR (turnF (Wt 1) (setF ns ds));have ea:=UV (turnF (Wa (2^ns.length)) (setF ns ds));have lN:(ns.map D.str).length=ns.length:=by simp
 refine yE ?_;unfold mY;rw[hc]at lp se c1 cn ⊢;have ar:args 9 [.ins 12 cs,.lst (ns.map D.str),.lst (ds.map dvD)]=[.v (.ins 12 cs),.v (.lst (ns.map D.str)),.v (.lst (ds.map dvD)),.no,.no,.no,.no,.no,.no]:=by simp[args]
 rw[ar];generalize (turnF (Wt 1) (setF ns ds)).map spRQ=SP1 at *;generalize (turnF (Wa (2^ns.length)) (setF ns ds)).map spRQ=SPA at *;generalize (turnF (Wt 1) (setF ns ds)).map rwD=T1 at *;generalize (turnF (Wa (2^ns.length)) (setF ns ds)).map rwD=TA at *;generalize (setF ns ds).map rwD=SR at *;generalize (2:Int)^ns.length=P at *;generalize ds.map dvD=DR at *;generalize (srtT ns).map D.str=SS at *;generalize ns.map D.str=NS at *
 rw[zU (ds':=[.v (.ins 12 cs),.v (.lst NS),.v (.lst DR),.v (.lst []),.no,.no,.no,.no,.no]) (by simp),
  zU (ds':=[.v (.ins 12 cs),.v (.lst NS),.v (.lst DR),.v (.lst []),.v (.int 1),.no,.no,.no,.no]) (by simp),
  zU (ds':=[.v (.ins 12 cs),.v (.lst NS),.v (.lst DR),.v (.lst SR),.v (.int P),y5,y6,.no,.no]) (by
   unfold forG;have e1:viaA (mkL (srtTA (zJ 1))) asLT [.v (.ins 12 cs),.v (.lst NS),.v (.lst DR),.v (.lst []),.v (.int 1),.no,.no,.no,.no]=some SS:=by have:=st (.v (.ins 12 cs)) (.v (.lst DR)) (.v (.lst [])) (.v (.int 1)) .no .no .no .no;simp[viaA,mkL,this,asLT]
   rw[e1]
   simpa using lp),
  zU (ds':=[.v (.ins 12 cs),.v (.lst NS),.v (.lst DR),.v (.lst SR),.v (.int P),y5,y6,.v (.lst SR),.no]) (by simp[methV,methR,se,retV]),
  zU (ds':=[.v (.ins 12 cs),.v (.lst NS),.v (.lst DR),.v (.lst SR),.v (.int P),y5,y6,.v (.lst SR),.no]) (by rw[rS (by simp[ne,methV,methR,c1,t1,s1,n1,retV])];rfl),
  zU (ds':=[.v (.ins 12 cs),.v (.lst NS),.v (.lst DR),.v (.lst SR),.v (.int P),y5,y6,.v (.lst SR),.v (.lst TA)]) (by simp[lamA,capsA,ta,retV])]
 simp[methV,methR,lN,cn,sa,ea,retV]
structure Fine(l:List D):Prop where
 sh:shals 39 l=true
 sh0:shals 40 l=true
 eqv:eqvs l l=true
 fl:flats l=true
 ln:l.length<=100000
def Fine.eq{l:List D}(h:Fine l):eqD (.lst l) (.lst l)=some (.bl true):=by rw[xV (by simpa using h.sh0) (by simpa using h.sh0),yB,h.eqv]
def BU{m:List Rw}(hl:m.length<=100000):Fine (m.map rwD):=by
 have s0:shals 40 (m.map rwD)=true:=by simpa using wL 38 m
 refine⟨by simpa using wL 37 m,s0,?_,jO m,by simpa using hl⟩;have:=aDy m m;rw[xV (by simpa using s0) (by simpa using s0),yB]at this;simpa using this
def UN{m:List Rw}(hl:m.length<=100000):Fine (m.map spRQ):=by
 have s0:shals 40 (m.map spRQ)=true:=by rw[kK];exact wE 38 _
 refine⟨by rw[kK];exact wE 37 _,s0,?_,wY m,by simpa using hl⟩;have:=UV m;rw[xV (by simpa using s0) (by simpa using s0),yB]at this;simpa using this
def aDq{l:List Str}(h:∀x∈l,NmS x)(hl:l.length<=100000):Fine (l.map D.str):=by
 have hs:∀x∈l,PyData.strOk x=true:=λx hx=>DT (h x hx);have sn:∀n,shals (n+1) (l.map D.str)=true:=λn=>wW λd hd=>by obtain⟨x,hx,rfl⟩:=bG.mp hd;simp[shal,hs x hx]
 refine⟨sn 38,sn 39,?_,?_,by simpa using hl⟩
 . have:=ZX l;rwa [yB]at this
 . clear h hs sn hl;induction l with
   |nil=>rfl
   |cons a r ih=>simp[flats,flat,ih]
def aDh(hx:x∈hereB (bOf ns ds) p):x∈ns:=by obtain⟨q,hq,rfl⟩:=bG.mp hx;obtain⟨y,hy,rfl⟩:=bG.mp (cT.mp hq).1;exact(srtT_perm ns).mem_iff.mp hy
section
variable{ns:List Str}{ds:Dvs}
def aCr(hn:∀x∈ns,NmS x)(nd:ns.Nodup)(h:V1 ds)(hb:ns.length<=60) p:cF 12 [bD ns ds,.int p]=some (.fresh ((hereB (bOf ns ds) p).map D.str)):=MX (LA hn nd h.ok) (by rw[sX];omega) p
def MW(hn:∀x∈ns,NmS x)(hb:ns.length<=60) p:Fine ((hereB (bOf ns ds) p).map D.str):=aDq (λx hx=>hn x (aDh hx)) (by
 unfold hereB;have:=kU (λq:Str×List Rw=>(valL q.2 p).isSome) (bOf ns ds);rw[sX]at this
 simp;omega)
def JJ(h1:1<=ns.length)(q:Int):∃x∈ns,jG (.int q) (.int (ns.length:Int))=some (.int (q%(ns.length:Int)))/\ixD (.lst (ns.map D.str)) (.int (q%(ns.length:Int)))=some (.str x):=by
 have hp:(0:Int)<(ns.length:Int):=by omega
 have b0:=fO q (show(ns.length:Int)≠0 by omega);have b1:=iH q hp;have lt:(q%(ns.length:Int)).toNat<ns.length:=by omega
 refine⟨ns[(q%(ns.length:Int)).toNat],kY lt,xE q hp,?_⟩;rw[yJ _ b0 (by simp;omega),aP,aU lt];rfl
def told_ex(h1:1<=ns.length)(h60:ns.length<=60)(hn:∀x∈ns,NmS x)(nd:ns.Nodup)(h:V1 ds)(hl:ds.length<=900)(q pl:Int) :
  ∃l,Fine l/\fG [bD ns ds,.lst (ns.map D.str),.int q,.int pl]=some (.fresh l):=by
 obtain⟨cs,hc⟩:∃cs,bD ns ds=.ins 12 cs:=⟨_,rfl⟩
 have se:bR bI 12 [bD ns ds]=some (.fresh ((setF ns ds).map rwD)):=sJ h1 h60 hn nd h hl;obtain⟨sm,sl,_⟩:=vM (ns:=ns) h;have na:=aCr hn nd h h60 pl;obtain⟨x,hx,e1,e2⟩:=JJ h1 (q/1009);have b0:=fO (q/1009) (show(ns.length:Int)≠0 by omega);have b1:=iH (q/1009) (show(0:Int)<(ns.length:Int) by omega);have cn:bX bI 12 [bD ns ds,.int (1+q/1009%(ns.length:Int))]=some (.fresh ((fC ns ds (1+q/1009%(ns.length:Int))).map spRQ)):=kF h1 h60 hn nd h hl (by omega) (by omega);obtain⟨_,cl,_⟩:=xL (ns:=ns) (many:=1+q/1009%(ns.length:Int)) h (by omega);have on:bN 12 [bD ns ds,.str x]=some (.fresh ((mapOf ds x).map rwD)):=DQ hn nd h hx;have ml:=xU h.ok x;have lN:(ns.map D.str).length=ns.length:=by simp
 have ar:args 4 [bD ns ds,.lst (ns.map D.str),.int q,.int pl]=[.v (.ins 12 cs),.v (.lst (ns.map D.str)),.v (.int q),.v (.int pl)]:=by rw[hc];simp[args]
 rw[hc]at se na cn on;have f0:=BU (m:=setF ns ds) (by omega);have f1:=MW (ds:=ds) hn h60 pl;have f2:=UN (m:=fC ns ds (1+q/1009%(ns.length:Int))) (by omega);have f3:=BU (m:=mapOf ds x) (by omega);have g0:=f0.fl;have g1:=f1.fl;have g2:=f2.fl;have g3:=f3.fl;unfold fG runG nQ;rw[ar];generalize (setF ns ds).map rwD=R0 at *;generalize (hereB (bOf ns ds) pl).map D.str=R1 at *;generalize (fC ns ds (1+q/1009%(ns.length:Int))).map spRQ=R2 at *;generalize (mapOf ds x).map rwD=R3 at *;generalize ns.map D.str=NS at *;rcases(by omega:q/307%4=0\/q/307%4=1\/q/307%4=2\/q/307%4=3)with z|z|z|z
 . exact⟨R0,f0,by simp[z,methF,methR,se,flatF,g0]⟩
 . exact⟨R1,f1,by simp[z,methF,methR,na,flatF,g1]⟩
 . exact⟨R2,f2,by simp[z,methF,methR,lN,e1,cn,flatF,g2]⟩
 . exact⟨R3,f3,by simp[z,methF,methR,lN,e1,e2,on,flatF,g3]⟩
def RD(h1:1<=ns.length)(h60:ns.length<=60)(hn:∀x∈ns,NmS x)(nd:ns.Nodup)(h:V1 ds)(hl:ds.length<=900){x:Str}(hx:x∈ns) :
  gA [bD ns ds,.str x]=some (.val (.bl true)):=by
 obtain⟨cs,hc⟩:∃cs,bD ns ds=.ins 12 cs:=⟨_,rfl⟩
 have se:bR bI 12 [bD ns ds]=some (.fresh ((setF ns ds).map rwD)):=sJ h1 h60 hn nd h hl;obtain⟨sm,sl,_⟩:=vM (ns:=ns) h;have na:=aCr hn nd h h60 0;have cn:bX bI 12 [bD ns ds,.int 1]=some (.fresh ((fC ns ds 1).map spRQ)):=kF h1 h60 hn nd h hl (by omega) (by omega);obtain⟨_,cl,_⟩:=xL (ns:=ns) (many:=1) h (by omega);have on:bN 12 [bD ns ds,.str x]=some (.fresh ((mapOf ds x).map rwD)):=DQ hn nd h hx;have ml:=xU h.ok x;rw[hc]at se na cn on;have f0:=BU (m:=setF ns ds) (by omega);have f1:=MW (ds:=ds) hn h60 0;have f2:=UN (m:=fC ns ds 1) (by omega);have f3:=BU (m:=mapOf ds x) (by omega);have ar:args 4 [bD ns ds,.str x]=[.v (.ins 12 cs),.v (.str x),.no,.no]:=by rw[hc];simp[args]
 generalize (setF ns ds).map rwD=R0 at *;generalize (hereB (bOf ns ds) 0).map D.str=R1 at *;generalize (fC ns ds 1).map spRQ=R2 at *;generalize (mapOf ds x).map rwD=R3 at *;have sh:shal 40 (.lst [.lst R0,.lst R3,.lst R2,.lst R1])=true:=by simp[f0.sh,f1.sh,f2.sh,f3.sh]
 have eq:eqD (.lst [.lst R0,.lst R3,.lst R2,.lst R1]) (.lst [.lst R0,.lst R3,.lst R2,.lst R1])=some (.bl true):=by rw[xV sh sh,yB];simp[wV,yB,f0.eqv,f1.eqv,f2.eqv,f3.eqv]
 have z0:R0.length<=16777216:=cD f0.ln (by decide);have z1:R1.length<=16777216:=cD f1.ln (by decide);have z2:R2.length<=16777216:=cD f2.ln (by decide);have z3:R3.length<=16777216:=cD f3.ln (by decide);refine yE ?_;unfold lH;rw[ar,zU (ds':=[.v (.ins 12 cs),.v (.str x),.v (.lst [.lst R0,.lst R3,.lst R2,.lst R1]),.no]) (by
   simp[methV,methR,lisA,se,on,cn,na,retV,z0,z1,z2,z3]),
  zU (ds':=[.v (.ins 12 cs),.v (.str x),.v (.lst [.lst R0,.lst R3,.lst R2,.lst R1]),.no]) (by simp[QP,sO,consO,nilO,lO,methF,methR,se,on,cn,na,retF,isL])]
 simp[methV,methR,se,on,cn,na,retV,eq]
end
section
variable{ns:List Str}{ds:Dvs}
def aDz(hn:∀x∈ns,NmS x)(nd:ns.Nodup)(h60:ns.length<=60)(h:V1 ds)(hl:ds.length<=450)(hT:BT T (bOf ns ds)){d:Str×Rv}(hd:d.1∈ns)(hs:okS d.2.1)(hv:d.2.2=some 1\/d.2.2=none) :
  ∃T',BT T' (bOf ns (ds++[d]))/\gM T [.non,dvD d]=some (.non,T'):=by
 have ok:=LA hn nd h.ok;obtain⟨x,s,v⟩:=d;have mem:=VE hd ds;have up:=bOf_upd ns ds x (s,v);have hT':=hT;obtain⟨ts,eT,_⟩:=hT';have ar:(args 2 [.non,dvD (x,s,v)]).set 0 (.ob (some 0) T)=[.ob (some 0) T,.v (dvD (x,s,v))]:=by simp[args]
 have e0:dvD (x,s,v)=.tup [.str x,spD s,oi v]:=rfl;have i2:ixD (.tup [.str x,spD s,oi v]) (.int 2)=some (oi v):=rfl;have i0:ixD (.tup [.str x,spD s,oi v]) (.int 0)=some (.str x):=rfl;have i1:ixD (.tup [.str x,spD s,oi v]) (.int 1)=some (spD s):=rfl;rcases hv with hv|hv
 . simp only at hv;subst hv;obtain⟨T',b1,b2⟩:=lay_eq ok (by omega) (by rw[sX];omega) hT mem hs;rw[up]at b1;refine⟨T',b1,?_⟩;unfold gM lentN nR;rw[ar,e0];rw[eT]at b2 ⊢;generalize spD s=SP at *;have i2':ixD (.tup [.str x,SP,oi (some 1)]) (.int 2)=some (.int 1):=rfl;simp[i2',lentG,varP,i0,i1,b2,putP,putO,obAt,isD]
 . simp only at hv;subst hv;obtain⟨T',b1,b2⟩:=lift_eq ok (by omega) (by rw[sX];omega) hT mem hs;rw[up]at b1;refine⟨T',b1,?_⟩;unfold gM lentN nR;rw[ar,e0];rw[eT]at b2 ⊢;generalize spD s=SP at *;have i2':ixD (.tup [.str x,SP,oi none]) (.int 2)=some .non:=rfl;simp[i2',lentG,varP,i0,i1,b2,putP,putO,obAt,isD]
def V1.app(h:V1 ds){d:Str×Rv}(hs:okS d.2.1)(hv:d.2.2=some 1\/d.2.2=none):V1 (ds++[d]):=λe he=>by
 rcases bQ.mp he with z|z
 . exact h e z
 . rw[aR.mp z];exact⟨hs,hv⟩
def aAj{b:Bs}(hT:BT T b):refO T=true:=by obtain⟨ts,rfl,_⟩:=hT;rfl
def s1_eq(hn:∀x∈ns,NmS x)(nd:ns.Nodup)(h60:ns.length<=60){acc:Dvs}(h:V1 acc)(hl:acc.length<=450)(hT:BT T (bOf ns acc)){d:Str×Rv}(hd:d.1∈ns)(hs:okS d.2.1)(hv:d.2.2=some 1\/d.2.2=none){y:Str}(hy:y∈ns)(x0 x1 x2:Sl) :
  ∃T',BT T' (bOf ns (if d.1=y then acc++[d]else acc))/\eR [x0,x1,x2,.ob none T,.v (.str y),.v (dvD d)]=some (.nx [x0,x1,x2,.ob none T',.v (.str y),.v (dvD d)]):=by
 have i0:ixD (dvD d) (.int 0)=some (.str d.1):=rfl;have eq:=NP d.1 y (DT (hn _ hd)) (DT (hn y hy));unfold eR;by_cases z:d.1=y
 . obtain⟨T',b1,b2⟩:=aDz hn nd h60 h hl hT hd hs hv;rw[if_pos z];refine⟨T',b1,?_⟩;have rT:=aAj hT;simp only[z,decide_true]at eq;rw[QM (by generalize dvD d=DD at *;simp[i0,eq,z])];generalize dvD d=DD at *;simp[doP,varP,rT,b2,putP,putO]
 . rw[if_neg z];refine⟨T,hT,?_⟩;simp only[z,decide_false]at eq;rw[rS (by generalize dvD d=DD at *;simp[i0,eq])];rfl
theorem SE(hn:∀x∈ns,NmS x)(nd:ns.Nodup)(h60:ns.length<=60){y:Str}(hy:y∈ns)(x0 x1 x2:Sl):∀(es acc:Dvs) (T:OT) (x5:Sl),V1 acc->V1 es->(∀d∈es,d.1∈ns)->acc.length+es.length<=450->BT T (bOf ns acc) →
  ∃T' y5,BT T' (bOf ns (acc++es.filter λd=>decide (d.1=y)))/\qP (zL 5) eR (es.map dvD) [x0,x1,x2,.ob none T,.v (.str y),x5]=some (.nx [x0,x1,x2,.ob none T',.v (.str y),y5])
 |[],acc,T,x5,_,_,_,_,hT=>⟨T,x5,by simpa using hT,by simp[qP]⟩
 |d::es,acc,T,x5,ha,he,hm,hl,hT=>by
   have hd:=he d (.head _);obtain⟨T1,b1,b2⟩:=s1_eq hn nd h60 ha (by omega) hT (hm d (.head _)) hd.1 hd.2 hy x0 x1 x2;obtain⟨T',y5,g1,g2⟩:=SE hn nd h60 hy x0 x1 x2 es (if d.1=y then acc++[d]else acc) T1 (.v (dvD d)) (by split;exact ha.app hd.1 hd.2;exact ha) (λe h=>he e (.tail _ h)) (λe h=>hm e (.tail _ h)) (by simp only[aG]at hl;split<;>(try simp only[bS,aG,lY])<;>omega) b1;refine⟨T',y5,?_,?_⟩
   . rw [kZ];by_cases z:d.1=y
     . rw[if_pos z]at g1;simpa[z]using g1
     . rw[if_neg z]at g1;simpa[z]using g1
   . simp only[aK];generalize es.map dvD=EE at *;generalize dvD d=DD at *;simp[qP,zL,b2,g2]
noncomputable def byN(ds:Dvs)(S:List Str):Dvs:=S.flatMap λy=>ds.filter λd=>decide (d.1=y)
theorem SD(hn:∀x∈ns,NmS x)(nd:ns.Nodup)(h60:ns.length<=60)(h:V1 ds)(hm:∀d∈ds,d.1∈ns)(x0 x1:Sl):∀(S:List Str) (acc:Dvs) (T:OT) (x4 x5:Sl),(∀y∈S,y∈ns)->V1 acc->acc.length+(S.length+1)*ds.length<=450->BT T (bOf ns acc) →
  ∃T' y4 y5,BT T' (bOf ns (acc++byN ds S))/\qP (zL 4) eQ (S.map D.str) [x0,x1,.v (.lst (ds.map dvD)),.ob none T,x4,x5]=some (.nx [x0,x1,.v (.lst (ds.map dvD)),.ob none T',y4,y5])
 |[],acc,T,x4,x5,_,_,_,hT=>⟨T,x4,x5,by simpa[byN]using hT,by simp[qP]⟩
 |y::S,acc,T,x4,x5,hS,ha,hl,hT=>by
   have e1:(S.length+1+1)*ds.length=(S.length+1)*ds.length+ds.length:=by rw[Nat.add_mul,Nat.one_mul]
   simp only[aG]at hl;rw[e1]at hl;obtain⟨T1,y5,b1,b2⟩:=SE hn nd h60 (hS y (.head _)) x0 x1 (.v (.lst (ds.map dvD))) ds acc T x5 ha h hm (by omega) hT;have fl:=kU (λd:Str×Rv=>decide (d.1=y)) ds;obtain⟨T',y4,y5',g1,g2⟩:=SD hn nd h60 h hm x0 x1 S (acc++ds.filter λd=>decide (d.1=y)) T1 (.v (.str y)) y5 (λz hz=>hS z (.tail _ hz)) (λe he=>(bQ.mp he).elim (ha e) λz=>h e (cT.mp z).1) (by rw[bS];omega) b1;refine⟨T',y4,y5',by simpa[byN]using g1,?_⟩;have b3:eQ [x0,x1,.v (.lst (ds.map dvD)),.ob none T,.v (.str y),x5]=some (.nx [x0,x1,.v (.lst (ds.map dvD)),.ob none T1,.v (.str y),y5]):=by
    unfold eQ forG;have:viaA (zW 2) asLT [x0,x1,.v (.lst (ds.map dvD)),.ob none T,.v (.str y),x5]=some (ds.map dvD):=by simp[viaA,asLT]
    rw[this];exact b2
   simp only[aK];generalize ds.map dvD=DD at *;generalize S.map D.str=SS at *;simp[qP,zL,b3,g2]
theorem OA(ds:Dvs):∀(S:List Str) (y:Str),S.Nodup->(byN ds S).filter (λd=>decide (d.1=y))=if y∈S then ds.filter (λd=>decide (d.1=y))else []
 |[],y,_=>by simp[byN]
 |x::S,y,nd=>by
   obtain⟨n1,n2⟩:=bC.mp nd;have ih:=OA ds S y n2;have e:byN ds (x::S)=(ds.filter λd=>decide (d.1=x))++byN ds S:=by simp[byN]
   rw[e,List.filter_append,ih];by_cases z:y=x
   . subst z;rw[if_neg n1,cO,VN,if_pos (.head _)];congr 1;funext d;simp
   . have:(ds.filter λd=>decide (d.1=x)).filter (λd=>decide (d.1=y))=[]:=by
      rw[VN,List.filter_eq_nil_iff];intro d _;simp;intro h1 h2;exact z (h1.symm.trans h2)
     rw[this,cM];by_cases q:y∈S
     . rw[if_pos q,if_pos (.tail _ q)]
     . rw[if_neg q,if_neg (λw=>(aA.mp w).elim z q)]
def byN_map(nd:ns.Nodup){y:Str}(hy:y∈ns):mapOf (byN ds ns) y=mapOf ds y:=by rw[vE,vE,OA ds ns y nd,if_pos hy]
def byN_set(nd:ns.Nodup):setF ns (byN ds ns)=setF ns ds:=by unfold setF;congr 2;refine hG λy hy=>byN_map nd ((srtT_perm ns).mem_iff.mp hy)
def byN_v1(h:V1 ds)(S:List Str):V1 (byN ds S):=λd hd=>by obtain⟨y,_,hy⟩:=List.mem_flatMap.mp hd;exact h d (cT.mp hy).1
theorem VB(ds:Dvs):∀S:List Str,(byN ds S).length<=S.length*ds.length
 |[]=>by simp[byN]
 |y::S=>by
   have:=VB ds S;have fl:=kU (λd:Str×Rv=>decide (d.1=y)) ds;have e:byN ds (y::S)=(ds.filter λd=>decide (d.1=y))++byN ds S:=by simp[byN]
   rw[e,bS,aG,Nat.add_mul,Nat.one_mul];omega
theorem oA:∀{l:List D},flats l=true->iP (l.map OT.val)=true
 |[],_=>rfl
 |d::l,h=>by simp only[flats,bJ]at h;simp[iP,flatO,h.1,oA h.2]
def same_eq(h1:1<=ns.length)(h6:ns.length<=6)(hn:∀x∈ns,NmS x)(nd:ns.Nodup)(h:V1 ds)(hm:∀d∈ds,d.1∈ns)(hl:ds.length<=62) :
  dX [.lst (ns.map D.str),bD ns ds,.lst (ds.map dvD)]=some (.val (.bl true)):=by
 have bi:=EO h1 (by omega) hn nd;have bt:=aEj (srtT ns);have eb:(srtT ns).map (λx=>(x,[]))=bOf ns []:=by unfold bOf;rfl
 rw[eb]at bt;have sz:(ns.length+1)*ds.length<=7*62:=Nat.mul_le_mul (by omega) hl;obtain⟨T',y4,y5,g1,g2⟩:=SD hn nd (by omega) h hm (.v (.lst (ns.map D.str))) (.v (bD ns ds)) ns [] _ .no .no (λ_ z=>z) (λ_ z=>nomatch z) (by simp;omega) bt;rw[cM]at g1;obtain⟨ts,rfl,et⟩:=g1;have bl:=VB ds ns;have sz2:ns.length*ds.length<=6*62:=Nat.mul_le_mul h6 hl;have s1:bR bI 12 [.ins 12 [.dcf (bkN (bOf ns (byN ds ns))) (bkV (bOf ns (byN ds ns)))]]=some (.fresh ((setF ns (byN ds ns)).map rwD)):=sJ h1 (by omega) hn nd (byN_v1 h ns) (by omega);rw[byN_set nd,<-et]at s1;have s2:bR bI 12 [bD ns ds]=some (.fresh ((setF ns ds).map rwD)):=sJ h1 (by omega) hn nd h (by omega);obtain⟨cs,hc⟩:∃cs,bD ns ds=.ins 12 cs:=⟨_,rfl⟩
 have eq:=aDy (setF ns ds) (setF ns ds);simp only[decide_true]at eq;have fv:=oA (jO (setF ns ds));have lN:(ns.map D.str).length<=16777216:=by simp;omega
 refine yE ?_;unfold gG;rw[hc]at g2 s2 ⊢;have ar:args 6 [.lst (ns.map D.str),.ins 12 cs,.lst (ds.map dvD)]=[.v (.lst (ns.map D.str)),.v (.ins 12 cs),.v (.lst (ds.map dvD)),.no,.no,.no]:=by simp[args]
 rw[ar];generalize bkN (bOf ns (byN ds ns))=KN at *;generalize OT.ins 12 [.dct ((srtT ns).map Sum.inr) ((srtT ns).map λ_=>.lst [])]=T0 at *;have ov:otDs (((setF ns ds).map rwD).map OT.val)=(setF ns ds).map rwD:=xJ _;generalize (setF ns ds).map rwD=SR at *;generalize ds.map dvD=DD at *;generalize ns.map D.str=NS at *
 rw[zU (ds':=[.v (.lst NS),.v (.ins 12 cs),.v (.lst DD),.ob none T0,.no,.no]) (by simp[setB,makeO,lisA,lN,bi]),
  zU (ds':=[.v (.lst NS),.v (.ins 12 cs),.v (.lst DD),.ob none (.ins 12 [.dct KN ts]),y4,y5]) (by
   unfold forG;have:viaA (zW 0) asLT [.v (.lst NS),.v (.ins 12 cs),.v (.lst DD),.ob none T0,.no,.no]=some NS:=by simp[viaA,asLT]
   rw[this]
   exact g2)]
 simp[ofO,relGV,insV,lO,methF,methV,methR,s1,s2,retV,retF,flatO,fv,otD,ov,eq]
end
theorem RU:∀(items:List D) (cs:List Nat) (n:Int) (x0 x4:Sl),cs.length+items.length<=1000->Ltr cs->∃cs' n' y4,cs'.length=cs.length+items.length/\Ltr cs' ∧
  qP (zL 4) fY items [x0,.v (.str (Str.ofString "abcdefghijklmnopqrstuvwxyz")),.v (.str (txS cs)),.v (.int n),x4]=some (.nx [x0,.v (.str (Str.ofString "abcdefghijklmnopqrstuvwxyz")),.v (.str (txS cs')),.v (.int n'),y4])
 |[],cs,n,x0,x4,_,h=>⟨cs,n,x4,by simp,h,by simp[qP]⟩
 |d::items,cs,n,x0,x4,hl,h=>by
   have ab:=aEl n;have lt:=aCx n;have ad:=add_tx cs [ltrB n] (by simp at hl ⊢;omega);obtain⟨cs',n',y4,g1,g2,g3⟩:=RU items (cs++[ltrB n]) (n/26) x0 (.v d) (by simp at hl ⊢;omega) (h.app λc hc=>by rw[aR.mp hc];exact lt);refine⟨cs',n',y4,by simp at g1 ⊢;omega,g2,?_⟩;generalize D.str (Str.ofString "abcdefghijklmnopqrstuvwxyz")=L at *;have b:fY [x0,.v L,.v (.str (txS cs)),.v (.int n),.v d]=some (.nx [x0,.v L,.v (.str (txS (cs++[ltrB n]))),.v (.int (n/26)),.v d]):=by unfold fY;simp[ab,ad]
   simp[qP,zL,b,g3]
def tn_ex(c:Int):∃x,NmS x/\fF [.int c]=some (.val (.str x)):=by
 obtain⟨k,hk,k1,k8⟩:∃k:Nat,1+c%8=(k:Int)/\1<=k/\k<=8:=⟨(1+c%8).toNat,by omega,by omega,by omega⟩
 obtain⟨cs,n',y4,g1,g2,g3⟩:=RU (fT 0 k) [] (c/8) (.v (.int c)) .no (by simp[fT];omega) (λ_ h=>nomatch h);have ok:okR (k:Int):=xZ (by omega) (by omega);have lr:cs.length=k:=by rw[g1];simp[fT]
 refine⟨txS cs,⟨cs,⟨by omega,by omega,g2⟩,rfl⟩,yE ?_⟩;unfold iJ;have e0:D.str (Str.ofString "")=.str (txS []):=rfl;generalize D.str (Str.ofString "abcdefghijklmnopqrstuvwxyz")=L at *
 rw[zU (ds':=[.v (.int c),.v L,.no,.no,.no]) (by simp[args]),
  zU (ds':=[.v (.int c),.v L,.v (.str (txS [])),.no,.no]) (by simp[e0]),
  zU (ds':=[.v (.int c),.v L,.v (.str (txS [])),.v (.int (c/8)),.no]) (by simp),
  zU (ds':=[.v (.int c),.v L,.v (.str (txS cs)),.v (.int n'),y4]) (by
   rw[wR]
   simp[hk,ok,g3])]
 simp[flat]
def aDg(t:Str)(l:List Str):∃b,inD true (.str t) (.lst (l.map D.str))=some (.bl b)/\(b=true->t∉l):=by
 refine⟨!(l.map D.str).any λz=>eqvD z (.str t),?_,λh z=>?_⟩
 . have:(l.map D.str).all sclD=true:=eE.mpr λd hd=>by obtain ⟨_,_,rfl⟩:=bG.mp hd;rfl
   simp only[inD,asLT,aO,sclD,this,and_self,if_true]
 . have e:eqvD (.str t) (.str t)=true:=by simp [eqvD,toPy,PyData.eqv]
   have:(l.map D.str).any (λz=>eqvD z (.str t))=true:=ZQ.mpr ⟨.str t,bG.mpr ⟨t,z,rfl⟩,e⟩;rw[this]at h;cases h
theorem CK:∀(cs:List Int) (l:List Str) (x0 x2:Sl),(∀x∈l,NmS x)->l.Nodup->l.length+cs.length<=1000->∃(l':List Str) (y2:Sl),(∀x∈l',NmS x)/\l'.Nodup/\l'.length<=l.length+cs.length ∧
  qP (zL 2) dR (cs.map D.int) [x0,.own (l.map D.str),x2]=some (.nx [x0,.own (l'.map D.str),y2])
 |[],l,x0,x2,h,nd,_=>⟨l,x2,h,nd,by simp,by simp[qP]⟩
 |c::cs,l,x0,x2,h,nd,hl=>by
   simp only[aG]at hl;obtain⟨x,hx,ex⟩:=tn_ex c;obtain⟨b,eb,hb⟩:=aDg x l;have lz:(l.map D.str).length<16777216:=by simp;omega
   cases b with
   |false=>
     obtain⟨l',y2,g1,g2,g3,g4⟩:=CK cs l x0 (.v (.int c)) h nd (by omega);refine⟨l',y2,g1,g2,by simp;omega,?_⟩;have b1:dR [x0,.own (l.map D.str),.v (.int c)]=some (.nx [x0,.own (l.map D.str),.v (.int c)]):=by unfold dR;generalize l.map D.str=LL at *;rw[rS (by simp[ex,retV,eb])];rfl
     simp only[aK];generalize l.map D.str=LL at *;generalize cs.map D.int=CC at *;simp[qP,zL,b1,g4]
   |true=>
     obtain⟨l',y2,g1,g2,g3,g4⟩:=CK cs (l++[x]) x0 (.v (.int c)) (λz hz=>(bQ.mp hz).elim (h z) λq=>by rw[aR.mp q];exact hx) (by
      rw[cI]
      exact⟨nd,by simp,λa ha b hb' z=>hb rfl (by rw[aR.mp hb']at z;exact z▸ha)⟩) (by simp;omega)
     refine⟨l',y2,g1,g2,by simp at g3 ⊢;omega,?_⟩;have b1:dR [x0,.own (l.map D.str),.v (.int c)]=some (.nx [x0,.own ((l++[x]).map D.str),.v (.int c)]):=by unfold dR;rw[dJ];generalize l.map D.str=LL at *;rw[QM (by simp[ex,retV,eb])];simp[appG,ex,retV,lz]
     simp only[aK];generalize (l++[x]).map D.str=LL2 at *;generalize l.map D.str=LL at *;generalize cs.map D.int=CC at *;simp[qP,zL,b1,g4]
def HY(l:List Str):flats (l.map D.str)=true:=by
 induction l with
 |nil=>rfl
 |cons a r ih=>simp[flats,flat,ih]
def tns_ex(cs:List Int)(hc:cs.length<=6):∃ns:List Str,1<=ns.length/\ns.length<=6/\(∀x∈ns,NmS x)/\ns.Nodup/\fX [.lst (cs.map D.int)]=some (.fresh (ns.map D.str)):=by
 obtain⟨l,y2,g1,g2,g3,g4⟩:=CK cs [] (.v (.lst (cs.map D.int))) .no (λ_ h=>nomatch h) .nil (by simp;omega);have a1:NmS "a":=⟨[97],⟨by decide,by decide,λc hc=>by simp at hc;omega⟩,rfl⟩
 obtain⟨ns,e,h1,h2,h3,h4⟩:∃ns:List Str,FL.cutD ((l.map D.str)++[.str "a"]) none (some (if (l.length:Int)>1 then (l.length:Int)else 1))=ns.map D.str/\1<=ns.length/\ns.length<=6/\(∀x∈ns,NmS x)/\ns.Nodup:=by
  cases l with
  |nil=>exact⟨["a"],rfl,by simp,by simp,λx hx=>by rw[aR.mp hx];exact a1,by simp⟩
  |cons x r=>
    refine⟨x::r,?_,by simp,by simp at g3 ⊢;omega,g1,g2⟩;have e1:(if ((x::r).length:Int)>1 then ((x::r).length:Int)else 1)=((x::r).length:Int):=by simp only[aG];split<;>omega
    rw[e1];generalize x::r=L;unfold FL.cutD;have s1:HT.sIx ((L.map D.str)++[D.str "a"]).length 0 none=0:=rfl;have s2:HT.sIx ((L.map D.str)++[D.str "a"]).length ((L.map D.str)++[D.str "a"]).length (some (L.length:Int))=L.length:=by simp[HT.sIx];omega
    rw[s1,s2];simp
 refine⟨ns,h1,h2,h3,h4,?_⟩;have lz:l.length<=6:=by simp at g3;omega
 have z1:(l.map D.str).length+1<=16777216:=by simp;omega
 have fl:=HY ns;have mx:mxD [.int 1,.int (l.length:Int)]=some (.int (if (l.length:Int)>1 then (l.length:Int)else 1)):=rfl;refine yE ?_;unfold hX;have lL:(l.map D.str).length=l.length:=by simp
 generalize l.map D.str=LL at *;generalize ns.map D.str=NS at *;generalize cs.map D.int=CC at *
 rw[zU (ds':=[.v (.lst CC),.own [],.no]) (by simp[args]),
  zU (ds':=[.v (.lst CC),.own LL,y2]) (by
   rw[wR]
   simpa[viaA,asLT]using g4)]
 have z2:l.length<=16777215:=by omega
 simp[retOG,sliA,catA,z1,z2,lL,mx,soP,noP,e,flatF,fl]
noncomputable def An(c:Int)(j:Nat):Int:=c/((j:Int)+3)+(j:Int)*(j:Int)*5
noncomputable def sgn(c:Int)(at':Nat)(core:Nat)(j:Nat):Nat:=ltrB (An c j+if j=at' then (core:Int)else 0)
noncomputable def nmK(c:Int)(sz at' core:Nat):List Nat:=(List.range sz).map (sgn c at' core)
def inn(c:Int)(core sz at':Nat)(h8:sz<=8)(ha:at'<sz)(hc:core<=6)(x0 x5 x8 x9:Sl):∃y8 y9:Sl,forG (rng1 (zW 3)) (zL 8) iM [x0,.v (.int c),.v (.str (Str.ofString "abcdefghijklmnopqrstuvwxyz")),.v (.int (sz:Int)),.v (.int (at':Int)),x5,.v (.int (core:Int)),.own [],x8,x9] =
  some (.nx [x0,.v (.int c),.v (.str (Str.ofString "abcdefghijklmnopqrstuvwxyz")),.v (.int (sz:Int)),.v (.int (at':Int)),x5,.v (.int (core:Int)),.own ((nmK c sz at' core).map λq=>.str (txS [q])),y8,y9]):=by
 obtain⟨ds',e,y8,y9,hP⟩:=vG (ga:=zL 8) (body:=iM) (λj ds=>∃y8 y9:Sl,ds=[x0,.v (.int c),.v (.str (Str.ofString "abcdefghijklmnopqrstuvwxyz")),.v (.int (sz:Int)),.v (.int (at':Int)),x5,.v (.int (core:Int)),.own (((List.range j).map (sgn c at' core)).map λq=>.str (txS [q])),y8,y9]) sz
  (λk hk ds hP=>by
    obtain⟨y8,y9,rfl⟩:=hP;have kk:eB (k:Int) (k:Int):=cZ (qE (m:=64) (by omega)) (qE (m:=64) (by omega)) (by decide);have kb:(0:Int)<=(k:Int)*k/\(k:Int)*k<=64:=⟨Int.mul_nonneg (by omega) (by omega),Int.le_trans (FZ (show(k:Int)<=8 by omega) (show(k:Int)<=8 by omega) (by omega) (by omega)) (by decide)⟩
    have k5:eB ((k:Int)*k) 5:=cZ (qE (m:=64) (by omega)) (qE (m:=64) (by decide)) (by decide);have f1:=AO c (show 0<(k:Int)+3 by omega) (by omega);obtain⟨sv,es,ev⟩:∃sv:Int,(if k=at' then (core:Int)else 0)=sv/\((eqD (.int (k:Int)) (.int (at':Int))).bind λb=>(int1D [b]).bind λi=>xF (.int (core:Int)) i)=some (.int sv):=by
     by_cases q:k=at'
     . refine⟨core,by simp[q],?_⟩;have m1:=uA (i:=(core:Int)) (j:=1) (by omega) (by omega);simp[q,m1]
     . refine ⟨0,by simp [q],?_⟩;have m0:=uA (i:=(core:Int)) (j:=0) (by omega) (by omega);have q':¬ ((k:Int)=(at':Int)):=by omega
       simp[q',m0]
    have ab:=aEl (An c k+sv);refine⟨_,[x0,.v (.int c),.v (.str (Str.ofString "abcdefghijklmnopqrstuvwxyz")),.v (.int (sz:Int)),.v (.int (at':Int)),x5,.v (.int (core:Int)),.own (((List.range (k+1)).map (sgn c at' core)).map λq=>.str (txS [q])),.v (.int (k:Int)),.v (.int sv)],rfl,?_,.v (.int (k:Int)),.v (.int sv),rfl⟩;have z:k<16777216:=by omega
    have sg:sgn c at' core k=ltrB (An c k+sv):=by unfold sgn;rw[es]
    rw[CA,dJ,dJ];simp only[aK,cS,sg,dM,dE];generalize hR:(List.map (λq=>D.str (txS [q])) (List.map (sgn c at' core) (List.range k)))=R;have lR:R.length=k:=by rw[<-hR];simp
    unfold An at ab ⊢;generalize hL:D.str (Str.ofString "abcdefghijklmnopqrstuvwxyz")=L at *;unfold iM;rw[zU (ds':=[x0,.v (.int c),.v L,.v (.int (sz:Int)),.v (.int (at':Int)),x5,.v (.int (core:Int)),.own R,.v (.int (k:Int)),.v (.int sv)]) (by
     simp at ev
     simp[ev])]
    simp[f1,qU kk,qU k5,ab,lR,z]) sz 0 _ (by omega) ⟨x8,x9,rfl⟩
 subst hP;refine⟨y8,y9,?_⟩;rw[<-nE]at e;have ok:okR (sz:Int):=xZ (by omega) (by omega);rw[wR];simp only[List.range_zero,cS]at e;simp[ok,e,nmK]
def outr(c:Int)(sz at' many:Nat)(h8:sz<=8)(ha:at'<sz)(hn:many<=6)(x0:Sl)(fi:FE)(hf:fi [x0,.v (.int c),.v (.str (Str.ofString "abcdefghijklmnopqrstuvwxyz")),.v (.int (sz:Int)),.v (.int (at':Int)),.own [],.no,.no,.no,.no]=some (.int (many:Int))):∃y6 y7 y8 y9:Sl,forG (rng1 fi) (zL 6) iL [x0,.v (.int c),.v (.str (Str.ofString "abcdefghijklmnopqrstuvwxyz")),.v (.int (sz:Int)),.v (.int (at':Int)),.own [],.no,.no,.no,.no] =
  some (.nx [x0,.v (.int c),.v (.str (Str.ofString "abcdefghijklmnopqrstuvwxyz")),.v (.int (sz:Int)),.v (.int (at':Int)),.own (((List.range many).map λi=>txS (nmK c sz at' i)).map D.str),y6,y7,y8,y9]):=by
 obtain⟨ds',e,y6,y7,y8,y9,hP⟩:=vG (ga:=zL 6) (body:=iL) (λj ds=>∃y6 y7 y8 y9:Sl,ds=[x0,.v (.int c),.v (.str (Str.ofString "abcdefghijklmnopqrstuvwxyz")),.v (.int (sz:Int)),.v (.int (at':Int)),.own (((List.range j).map λi=>txS (nmK c sz at' i)).map D.str),y6,y7,y8,y9]) many
  (λk hk ds hP=>by
    obtain⟨y6,y7,y8,y9,rfl⟩:=hP;rw[CA,dJ,dJ];simp only[aK,cS];generalize hR:(List.map D.str (List.map (λi=>txS (nmK c sz at' i)) (List.range k)))=R;have lR:R.length=k:=by rw[<-hR];simp
    have z:k<16777216:=by omega
    obtain⟨z8,z9,ei⟩:=inn c k sz at' h8 ha (by omega) x0 (.own R) y8 y9;have lb:(nmK c sz at' k).length=sz:=by simp[nmK]
    have jn:=XG (nmK c sz at' k) (by omega);generalize hB:nmK c sz at' k=B at *;refine⟨_,[x0,.v (.int c),.v (.str (Str.ofString "abcdefghijklmnopqrstuvwxyz")),.v (.int (sz:Int)),.v (.int (at':Int)),.own (R++[D.str (txS B)]),.v (.int (k:Int)),.own (B.map λq=>.str (txS [q])),z8,z9],rfl,?_,_,_,_,_,rfl⟩;simp only[dM,dE];unfold iL;generalize hL:D.str (Str.ofString "abcdefghijklmnopqrstuvwxyz")=L at *
    rw[zU (ds':=[x0,.v (.int c),.v L,.v (.int (sz:Int)),.v (.int (at':Int)),.own R,.v (.int (k:Int)),.own [],y8,y9]) (by simp),
     zU ei]
    simp[jn,lR,z]) many 0 _ (by omega) ⟨.no,.no,.no,.no,rfl⟩
 subst hP;refine⟨y6,y7,y8,y9,?_⟩;rw[<-nE]at e;have ok:okR (many:Int):=xZ (by omega) (by omega);rw[wR];simp only[List.range_zero,cS]at e;simp[hf,ok,e]
def nm_ok1(c:Int)(sz at' i:Nat)(h1:1<=sz)(h8:sz<=8):NmS (txS (nmK c sz at' i)):=by refine⟨_,⟨by simp[nmK];omega,by simp[nmK];omega,λq hq=>?_⟩,rfl⟩;obtain⟨j,_,rfl⟩:=bG.mp hq;exact aCx _
def nm_inj(c:Int)(sz at' many:Nat)(ha:at'<sz)(hn:many<=6):((List.range many).map λi=>txS (nmK c sz at' i)).Nodup:=by
 rw[List.Nodup,tM];refine tE ?_ List.nodup_range;intro i j hi hj hne e;rw[FC]at hi hj;have e:=txS_inj.mp e;have g:(nmK c sz at' i)[at']?=(nmK c sz at' j)[at']?:=by rw[e]
 simp only[nmK,aP,rN ha,bW,Option.some.injEq,sgn,if_true]at g;have:=ltr_eq g;omega
def aCs(h c:Int):∃ns:List Str,1<=ns.length/\ns.length<=6/\(∀x∈ns,NmS x)/\ns.Nodup/\kQ [.int h,.int c]=some (.fresh (ns.map D.str)):=by
 obtain⟨sz,hsz,h1,h8⟩:∃sz:Nat,1+c%8=(sz:Int)/\1<=sz/\sz<=8:=⟨(1+c%8).toNat,by omega,by omega,by omega⟩
 obtain⟨at',hat,hlt⟩:∃at':Nat,c/8%(sz:Int)=(at':Int)/\at'<sz:=by have b0:=fO (c/8) (show(sz:Int)≠0 by omega);have b1:=iH (c/8) (show(0:Int)<(sz:Int) by omega);exact⟨(c/8%(sz:Int)).toNat,by omega,by omega⟩
 obtain⟨many,hmn,m1,m6⟩:∃many:Nat,1+h%6=(many:Int)/\1<=many/\many<=6:=⟨(1+h%6).toNat,by omega,by omega,by omega⟩
 have md:=xE (c/8) (show(0:Int)<(sz:Int) by omega);obtain⟨y6,y7,y8,y9,eo⟩:=outr c sz at' many h8 hlt m6 (.v (.int h)) (zH xB (zB (.int 1)) (zH jG (zJ 0) (zB (.int 6)))) (by simp[hmn]);have fl:=HY ((List.range many).map λi=>txS (nmK c sz at' i));refine⟨(List.range many).map λi=>txS (nmK c sz at' i),by simpa using m1,by simpa using m6,λx hx=>?_,nm_inj c sz at' many hlt m6,yE ?_⟩
 . obtain⟨i,_,rfl⟩:=bG.mp hx;exact nm_ok1 c sz at' i h1 h8
 . unfold mZ;generalize hR:((List.range many).map λi=>txS (nmK c sz at' i)).map D.str=R at *;generalize hL:D.str (Str.ofString "abcdefghijklmnopqrstuvwxyz")=L at *
   rw[zU (ds':=[.v (.int h),.v (.int c),.v L,.no,.no,.no,.no,.no,.no,.no]) (by simp[args,hL]),
    zU (ds':=[.v (.int h),.v (.int c),.v L,.v (.int (sz:Int)),.no,.no,.no,.no,.no,.no]) (by simp[hsz]),
    zU (ds':=[.v (.int h),.v (.int c),.v L,.v (.int (sz:Int)),.v (.int (at':Int)),.no,.no,.no,.no,.no]) (by simp[md,hat]),
    zU (ds':=[.v (.int h),.v (.int c),.v L,.v (.int (sz:Int)),.v (.int (at':Int)),.own [],.no,.no,.no,.no]) (by simp),
    zU eo]
   simp[retXG,flatF,fl]
abbrev Dr:=Nat×(Str×Rv)×Int
noncomputable def drD(r:Dr):D:=.tup [.int (r.1:Int),dvD r.2.1,.int r.2.2]
structure DrOk(ns:List Str)(r:Dr):Prop where
 w:r.1<2
 n:r.2.1.1∈ns
 s:okS r.2.1.2.1
 v:r.2.1.2.2=some 1\/r.2.1.2.2=none
def pick2(a:Int){r:Int}(h:r=0\/r=1):∃o:Option Int,(o=some a\/o=none)/\ixD (.lst [.int a,.non]) (.int r)=some (oi o):=by
 rcases h with rfl|rfl
 . exact⟨some a,.inl rfl,rfl⟩
 . exact⟨none,.inr rfl,rfl⟩
def pickV{r:Int}(h:r=0\/r=1):∃o:Option Int,(o=some 1\/o=none)/\ixD (.lst [.non,.int 1]) (.int r)=some (oi o):=by
 rcases h with rfl|rfl
 . exact⟨none,.inr rfl,rfl⟩
 . exact⟨some 1,.inl rfl,rfl⟩
def ts_ex(r:Int):∃(s:Spn) (a b:Int),okS s/\gH [.int r]=some (.val (.tup [oi s.1,oi s.2,.int a,.int b])):=by
 have p1:powD (.int 10) (.int 60)=some (.int (10^60)):=pow10 (by decide) (by decide);have a5:xF (.int 2) (.int (10^60))=some (.int (2*10^60)):=qU (.of_left (qE (by decide)));have r3:∀x,jG (.int x) (.int (2*10^60+1))=some (.int (x%(2*10^60+1))):=λx=>xE x (by decide);have r4:∀x,jG (.int x) (.int (10^60))=some (.int (x%10^60)):=λx=>xE x (by decide);have d3:∀x,qR (.int x) (.int (2*10^60+1))=some (.int (x/(2*10^60+1))):=λx=>if_pos (by unfold divOk;decide);have c5:=fO (r/4/(2*10^60+1)) (show(10:Int)^60≠0 by decide);generalize hlo:r/4%(2*10^60+1)-10^60=lo;generalize hbh:r/4/(2*10^60+1)%10^60=ln at *;obtain⟨o1,q1,e1⟩:=pick2 lo (r:=r%2) (by omega);obtain⟨o2,q2,e2⟩:=pick2 (lo+1+ln) (r:=r/2%2) (by omega);refine⟨(o1,o2),lo,lo+1+ln,λx y h1 h2=>?_,yE ?_⟩
 . simp only at h1 h2;rcases q1 with q1|q1 <;> rcases q2 with q2|q2 <;> rw [q1]at h1 <;> rw [q2]at h2 <;> cases h1 <;> cases h2
   omega
 . unfold iI
   rw[zU (ds':=[.v (.int r),.v (.int lo),.no]) (by simp[-Int.reducePow,-Nat.reducePow,args,p1,a5,r3,hlo]),
    zU (ds':=[.v (.int r),.v (.int lo),.v (.int (lo+1+ln))]) (by simp[-Int.reducePow,-Nat.reducePow,p1,a5,d3,r4,hbh])]
   simp[e1,e2]
section
variable{ns:List Str}
def td_ex(h1:1<=ns.length)(h6:ns.length<=6)(c:Int)(es:List Int)(hl:es.length+2<16777216):∃(r:Dr) (a b:Int),DrOk ns r/\cX (oT es) [.int c,.lst (ns.map D.str),.non]=some (drD r,oT (es++[a,b])):=by
 have p1:powD (.int 10) (.int 60)=some (.int (10^60)):=pow10 (by decide) (by decide);have a5:xF (.int 2) (.int (10^60))=some (.int (2*10^60)):=qU (.of_left (qE (by decide)));have d3:∀x,qR (.int x) (.int (2*10^60+1))=some (.int (x/(2*10^60+1))):=λx=>if_pos (by unfold divOk;decide);have d4:∀x,qR (.int x) (.int (10^60))=some (.int (x/10^60)):=λx=>if_pos (by unfold divOk;decide);obtain⟨x,hx,e1,e2⟩:=JJ h1 (c/4);have f1:=AO (c/4) (show 0<(ns.length:Int) by omega) (by omega);obtain⟨s,a,b,hs,ts⟩:=ts_ex (c/4/(ns.length:Int));obtain⟨v,hv,ev⟩:=pickV (r:=c/2%2) (by omega);obtain⟨w,hw,w2⟩:∃w:Nat,c%2=(w:Int)/\w<2:=⟨(c%2).toNat,by omega,by omega⟩
 have lN:(ns.map D.str).length=ns.length:=by simp
 generalize hq:c/4/(ns.length:Int)/4/(2*10^60+1)/10^60=q;refine⟨(w,(x,s,v),q),a,b,⟨w2,hx,hs,hv⟩,DU (ds:=[.v (.int c),.v (.lst (ns.map D.str)),.ob (some 2) (oT (es++[a]++[b])),.v (.int (c/4/(ns.length:Int))),.v (.str x),.v (oi s.1),.v (oi s.2),.v (.int a),.v (.int b),.v (.int q)]) ?_ (by simp)⟩;unfold iK;generalize ns.map D.str=NS at *
 rw[zV (ds':=[.v (.int c),.v (.lst NS),.ob (some 2) (oT es),.v (.int (c/4)),.no,.no,.no,.no,.no,.no]) (by simp[args]),
  zV (ds':=[.v (.int c),.v (.lst NS),.ob (some 2) (oT es),.v (.int (c/4)),.v (.str x),.no,.no,.no,.no,.no]) (by simp[lN,e1,e2]),
  zV (ds':=[.v (.int c),.v (.lst NS),.ob (some 2) (oT es),.v (.int (c/4/(ns.length:Int))),.v (.str x),.no,.no,.no,.no,.no]) (by simp[lN,f1]),
  zV (ds':=[.v (.int c),.v (.lst NS),.ob (some 2) (oT es),.v (.int (c/4/(ns.length:Int))),.v (.str x),.v (oi s.1),.v (oi s.2),.v (.int a),.v (.int b),.no]) (by simp[ts,retV]),
  zV (LG (es:=es) (x:=a) rfl (by simp) (by omega)),zV (LG (es:=es++[a]) (x:=b) (by rfl) (by simp) (by simp;omega))]
 simp only[dM,dE];rw[zV (ds':=[.v (.int c),.v (.lst NS),.ob (some 2) (oT (es++[a]++[b])),.v (.int (c/4/(ns.length:Int))),.v (.str x),.v (oi s.1),.v (oi s.2),.v (.int a),.v (.int b),.v (.int q)]) (by simp[-Int.reducePow,-Nat.reducePow,p1,a5,d3,d4,hq])];have e0:drD (w,(x,s,v),q)=.tup [.int (w:Int),.tup [.str x,.tup [oi s.1,oi s.2],oi v],.int q]:=rfl;rw[e0];simp[vR,hw,ev]
def md_ex(h1:1<=ns.length)(h6:ns.length<=6)(c k:Int)(hc:intBits c<=1048576)(hk:0<=k)(hk':k<=1000)(es:List Int)(hl:es.length+2<16777216):∃(r:Dr) (a b:Int),DrOk ns r/\cQ (oT es) [.int c,.int k,.lst (ns.map D.str),.non]=some (drD r,oT (es++[a,b])):=by
 obtain⟨s,a,b,hs,ov⟩:=aBz 48271 39373 15485863 16807 69621 86028121 (by decide) c k es hc hk hk' hl;have ov:lU (oT es) [.int c,.int k,.non]=some (spD s,oT (es++[a,b])):=ov;have m1:eB c 50021:=cZ hc (qE (m:=200) (by decide)) (by decide);have m2:eB k 7919:=cZ (qE (m:=64) (by omega)) (qE (m:=64) (by decide)) (by decide);generalize hm1:(c*50021+k*7919+49979687)%2147483587=m';have hm1':0<=m'/\m'<2147483587:=by omega
 have mm:eB m' m':=cZ (qE (m:=64) (by omega)) (qE (m:=64) (by omega)) (by decide);generalize hm:m'*m'%2147483563=m;obtain⟨x,hx,e1,e2⟩:=JJ h1 (m/6);obtain⟨mn,hmn,emn⟩:∃mn:Int,(mn=0\/mn=1)/\mnD [.int (m/2%3),.int 1]=some (.int mn):=by
  by_cases z:1<m/2%3
  . exact⟨1,.inr rfl,by simp[mnD,z]⟩
  . exact⟨m/2%3,by omega,by simp[mnD,z]⟩
 obtain⟨v,hv,ev⟩:=pickV hmn;obtain⟨w,hw,w2⟩:∃w:Nat,m%2=(w:Int)/\w<2:=⟨(m%2).toNat,by omega,by omega⟩
 have lN:(ns.map D.str).length=ns.length:=by simp
 refine⟨(w,(x,s,v),m),a,b,⟨w2,hx,hs,hv⟩,DU (ds:=[.v (.int c),.v (.int k),.v (.lst (ns.map D.str)),.ob (some 3) (oT (es++[a,b])),.v (spD s),.v (.int m)]) ?_ (by simp)⟩;unfold iA;generalize ns.map D.str=NS at *;have rf:=IX es;have e0:drD (w,(x,s,v),m)=.tup [.int (w:Int),.tup [.str x,spD s,oi v],.int m]:=rfl;rw[e0];generalize spD s=SP at *;generalize oT (es++[a,b])=O2 at *;generalize oT es=O1 at *
 rw[zV (ds':=[.v (.int c),.v (.int k),.v (.lst NS),.ob (some 3) O2,.v SP,.no]) (by simp[args,setR,callR,hereA,rf,ov]),
  zV (ds':=[.v (.int c),.v (.int k),.v (.lst NS),.ob (some 3) O2,.v SP,.v (.int m')]) (by simp[qU m1,qU m2,hm1]),
  zV (ds':=[.v (.int c),.v (.int k),.v (.lst NS),.ob (some 3) O2,.v SP,.v (.int m)]) (by simp[qU mm,hm])]
 simp[vR,hw,lN,e1,e2,emn,ev]
end
section
variable{ns:List Str}
theorem cmpT(h1:1<=ns.length)(h6:ns.length<=6):∀(cells es:List Int),es.length+2*cells.length<=10000->∃(drs:List Dr) (es':List Int),(∀r∈drs,DrOk ns r)/\drs.length=cells.length/\es'.length=es.length+2*cells.length ∧
  oB (zL 0) (callR 3 2 cX (zA (zW 0) (zA (zW 1) (hereA zS)))) (λT=>[.no,.v (.lst (ns.map D.str)),.ob (some 2) T]) 2 (oT es) (cells.map D.int)=some (drs.map drD,oT es')
 |[],es,_=>⟨[],es,(λ_ h=>nomatch h),rfl,by simp,rfl⟩
 |c::cells,es,hl=>by
   simp only[aG]at hl;obtain⟨r,a,b,hr,e⟩:=td_ex h1 h6 c es (by omega);obtain⟨drs,es',g1,g2,g3,g4⟩:=cmpT h1 h6 cells (es++[a,b]) (by simp;omega);refine⟨r::drs,es',λq hq=>(aA.mp hq).elim (λz=>z▸hr) (g1 q),by simp[g2],by simp at g3 ⊢;omega,?_⟩;have rf:=IX es;have b1:callR 3 2 cX (zA (zW 0) (zA (zW 1) (hereA zS))) [.v (.int c),.v (.lst (ns.map D.str)),.ob (some 2) (oT es)]=some (drD r,[.v (.int c),.v (.lst (ns.map D.str)),.ob (some 2) (oT (es++[a,b]))]):=by generalize ns.map D.str=NS at *;generalize oT (es++[a,b])=O2 at *;generalize oT es=O1 at *;simp[callR,hereA,rf,e]
   generalize callR 3 2 cX (zA (zW 0) (zA (zW 1) (hereA zS)))=F at *;simp only[aK];generalize ns.map D.str=NS at *;generalize cells.map D.int=CC at *;generalize drs.map drD=DD at *;generalize oT (es++[a,b])=O2 at *;generalize oT es=O1 at *;simp[oB,zL,b1,obAt,g4]
theorem cmpM(h1:1<=ns.length)(h6:ns.length<=6)(cells:List Int)(hc:∀c∈cells,intBits c<=1048576)(hz:cells.length<=1000):∀(ks:List Nat) (es:List Int),(∀k∈ks,k<cells.length)->es.length+2*ks.length<=10000->∃(drs:List Dr) (es':List Int),(∀r∈drs,DrOk ns r)/\drs.length=ks.length/\es'.length=es.length+2*ks.length ∧
  oB (zL 0) (callR 4 2 cQ (zA (zH ixD (zJ 3) (zJ 0)) (zA (zW 0) (zA (zW 1) (hereA zS))))) (λT=>[.no,.v (.lst (ns.map D.str)),.ob (some 2) T,.v (.lst (cells.map D.int))]) 2 (oT es) (ks.map λ(k:Nat)=>D.int (0+(k:Int)))=some (drs.map drD,oT es')
 |[],es,_,_=>⟨[],es,(λ_ h=>nomatch h),rfl,by simp,rfl⟩
 |k::ks,es,hk,hl=>by
   simp only[aG]at hl;have kl:=hk k (.head _);have ix:ixD (.lst (cells.map D.int)) (.int (0+(k:Int)))=some (.int cells[k]):=by
    rw[yJ _ (by omega) (by simp;omega)];have:(0+(k:Int)).toNat=k:=by omega
    rw[this,aP,aU kl];rfl
   obtain⟨r,a,b,hr,e⟩:=md_ex h1 h6 cells[k] (0+(k:Int)) (hc _ (kY kl)) (by omega) (by omega) es (by omega);obtain⟨drs,es',g1,g2,g3,g4⟩:=cmpM h1 h6 cells hc hz ks (es++[a,b]) (λj hj=>hk j (.tail _ hj)) (by simp;omega);refine⟨r::drs,es',λq hq=>(aA.mp hq).elim (λz=>z▸hr) (g1 q),by simp[g2],by simp at g3 ⊢;omega,?_⟩;have rf:=IX es;generalize cells[k]=c at *;have b1:callR 4 2 cQ (zA (zH ixD (zJ 3) (zJ 0)) (zA (zW 0) (zA (zW 1) (hereA zS)))) [.v (.int (0+(k:Int))),.v (.lst (ns.map D.str)),.ob (some 2) (oT es),.v (.lst (cells.map D.int))]=some (drD r,[.v (.int (0+(k:Int))),.v (.lst (ns.map D.str)),.ob (some 2) (oT (es++[a,b])),.v (.lst (cells.map D.int))]):=by generalize ns.map D.str=NS at *;generalize cells.map D.int=CL at *;generalize oT (es++[a,b])=O2 at *;generalize oT es=O1 at *;generalize (0+(k:Int))=kk at *;simp[callR,hereA,rf,ix,e]
   generalize callR 4 2 cQ (zA (zH ixD (zJ 3) (zJ 0)) (zA (zW 0) (zA (zW 1) (hereA zS))))=F at *;simp only[aK];generalize ns.map D.str=NS at *;generalize cells.map D.int=CC at *;generalize (ks.map λ(k:Nat)=>D.int (0+(k:Int)))=KK at *;generalize drs.map drD=DD at *;generalize oT (es++[a,b])=O2 at *;generalize oT es=O1 at *;generalize (0+(k:Int))=kk at *;simp[oB,zL,b1,obAt,g4]
end
def KP(l:List Int)(a b:Nat):FL.cutD (l.map D.int) (some (a:Int)) (some (b:Int))=((l.drop a).take (b-a)).map D.int:=by
 have e1:HT.sIx (l.map D.int).length 0 (some (a:Int))=min a l.length:=by simp[HT.sIx];omega
 have e2:HT.sIx (l.map D.int).length (l.map D.int).length (some (b:Int))=min b l.length:=by simp[HT.sIx];omega
 unfold FL.cutD;rw[e1,e2,<-List.map_drop,<-List.map_take];congr 1;by_cases ha:a<=l.length
 . rw [Nat.min_eq_left ha];by_cases hb:b<=l.length
   . rw[Nat.min_eq_left hb]
   . rw[Nat.min_eq_right (by omega),LN (by simp),LN (by simp;omega)]
 . rw[Nat.min_eq_right (by omega:l.length<=a),LO (aT _),LO (by omega)];simp
def YB(zs:List Int)(hl:zs.length<=63)(hb:∀c∈zs,intBits c<=1048576):∃(ns:List Str) (drs:List Dr) (es:List Int),1<=ns.length/\ns.length<=6/\(∀x∈ns,NmS x)/\ns.Nodup/\(∀r∈drs,DrOk ns r)/\drs.length<=61/\es.length=2*drs.length ∧
  gD [.lst (zs.map D.int)]=some (.any (.tup [.lst (ns.map D.str),.lst (drs.map drD),.lst (es.map D.int)])):=by
 have c0:eD [.lst (zs.map D.int),.int 0]=some (.val (.int (cel zs 0))):=VA zs 0;have c1:eD [.lst (zs.map D.int),.int 1]=some (.val (.int (cel zs 1))):=VA zs 1;generalize cel zs 0=q0 at *;generalize cel zs 1=q1 at *;have ot:∀es,otD (oT es)=.lst (es.map D.int):=TQ;have e0:OT.lst []=oT []:=rfl;have rf:=IX [];by_cases z:q0%2=1
 . have k1:=KP zs 1 7;have k2:=KP zs 7 63;simp only [tF]at k1 k2;obtain ⟨ns,h1,h6,hn,nd,en⟩:=tns_ex ((zs.drop 1).take (7 - 1)) (by simp;omega);obtain ⟨drs,es,g1,g2,g3,g4⟩:=cmpT h1 h6 ((zs.drop 7).take (63 - 7)) [] (by simp;omega);refine ⟨ns,drs,es,h1,h6,hn,nd,g1,by rw [g2];simp;omega,by rw [g3,g2];simp,yE ?_⟩;have ln:((zs.drop 7).take (63 - 7)).length<=16777216:=by simp;omega
   generalize (zs.drop 1).take (7-1)=C1 at *;generalize (zs.drop 7).take (63-7)=C2 at *;have ln':(C2.map D.int).length<=16777216:=by simpa using ln
   unfold kR;rw[zU (ds':=[.v (.lst (zs.map D.int)),.ob none (oT []),.no,.no]) (by simp[args,setB,sO,nilO,e0])];refine seq_rt ?_;have k1':FL.cutD (zs.map D.int) (some 1) (some 7)=C1.map D.int:=k1;have k2':FL.cutD (zs.map D.int) (some 7) (some 63)=C2.map D.int:=k2;rw[QM (by generalize zs.map D.int=ZZ at *;simp[c0,z,retV])];rw[zU (ds':=[.v (.lst (zs.map D.int)),.ob none (oT []),.v (.lst (ns.map D.str)),.no]) (by
    generalize ns.map D.str=NS at *;generalize C1.map D.int=D1 at *;generalize zs.map D.int=ZZ at *
    simp[soP,k1',en,retV])]
   have sd:∀T,(qY [none,some 2,some 1] [.v (.lst (zs.map D.int)),.ob none (oT []),.v (.lst (ns.map D.str)),.no]).set 2 (.ob (some 2) T)=[.no,.v (.lst (ns.map D.str)),.ob (some 2) T]:=λT=>by simp[qY]
   have cr:compR (viaA (mkL (sliA (zJ 0) (soP (zB (.int 7))) (soP (zB (.int 63))))) asLT) [none,some 2,some 1] 1 2 (zL 0) (callR 3 2 cX (zA (zW 0) (zA (zW 1) (hereA zS)))) [.v (.lst (zs.map D.int)),.ob none (oT []),.v (.lst (ns.map D.str)),.no]=some (.lst (drs.map drD),[.v (.lst (zs.map D.int)),.ob none (oT es),.v (.lst (ns.map D.str)),.no]):=by
    unfold compR;have it:viaA (mkL (sliA (zJ 0) (soP (zB (.int 7))) (soP (zB (.int 63))))) asLT [.v (.lst (zs.map D.int)),.ob none (oT []),.v (.lst (ns.map D.str)),.no]=some (C2.map D.int):=by generalize zs.map D.int=ZZ at *;generalize C2.map D.int=D2 at *;simp[viaA,soP,k2',asLT]
    rw[it];simp only[sd];simp only[aO,eP,cE,rf,and_true,if_pos (show(C2.map D.int).length<=sizeLine from ln'),g4];rfl
   generalize compR (viaA (mkL (sliA (zJ 0) (soP (zB (.int 7))) (soP (zB (.int 63))))) asLT) [none,some 2,some 1] 1 2 (zL 0) (callR 3 2 cX (zA (zW 0) (zA (zW 1) (hereA zS))))=CR at *;simp[ret3,cr,ot]
 . have k2:=KP zs 2 102;simp only [tF]at k2;obtain ⟨ns,h1,h6,hn,nd,en⟩:=aCs (q0 / 2) q1;have hc2:∀ c∈(zs.drop 2).take (102 - 2),intBits c<=1048576:=λc h=>hb c (OQ (OP h));have lc:((zs.drop 2).take (102 - 2)).length<=61:=by simp;omega
   generalize (zs.drop 2).take (102-2)=C2 at *;obtain⟨drs,es,g1,g2,g3,g4⟩:=cmpM h1 h6 C2 hc2 (by omega) (List.range' 0 C2.length) [] (λk hk=>by simp at hk;omega) (by simp;omega);refine⟨ns,drs,es,h1,h6,hn,nd,g1,by rw[g2];simp;omega,by rw[g3,g2];simp,yE ?_⟩;rw[<-nE]at g4;have ok:okR (C2.length:Int):=xZ (by omega) (by omega);have lr:(fT 0 C2.length).length<=16777216:=by simp[fT];omega
   unfold kR;have k2':FL.cutD (zs.map D.int) (some 2) (some 102)=C2.map D.int:=k2;have lC:(C2.map D.int).length=C2.length:=by simp
   rw[zU (ds':=[.v (.lst (zs.map D.int)),.ob none (oT []),.no,.no]) (by simp[args,setB,sO,nilO,e0]),
    zU (ds':=[.v (.lst (zs.map D.int)),.ob none (oT []),.no,.no]) (by rw[rS (by generalize zs.map D.int=ZZ at *;simp[c0,z,retV])];rfl),
    zU (ds':=[.v (.lst (zs.map D.int)),.ob none (oT []),.v (.lst (ns.map D.str)),.no]) (by
     generalize ns.map D.str=NS at *;generalize zs.map D.int=ZZ at *
     simp[c0,c1,en,retV]),
    zU (ds':=[.v (.lst (zs.map D.int)),.ob none (oT []),.v (.lst (ns.map D.str)),.v (.lst (C2.map D.int))]) (by
     generalize ns.map D.str=NS at *;generalize C2.map D.int=D2 at *;generalize zs.map D.int=ZZ at *
     simp[soP,k2'])]
   have sd:∀T,(qY [none,some 2,some 1,some 3] [.v (.lst (zs.map D.int)),.ob none (oT []),.v (.lst (ns.map D.str)),.v (.lst (C2.map D.int))]).set 2 (.ob (some 2) T)=[.no,.v (.lst (ns.map D.str)),.ob (some 2) T,.v (.lst (C2.map D.int))]:=λT=>by simp[qY]
   have cr:compR (rng1 (callB lenD (zA (zJ 3) zS))) [none,some 2,some 1,some 3] 1 2 (zL 0) (callR 4 2 cQ (zA (zH ixD (zJ 3) (zJ 0)) (zA (zW 0) (zA (zW 1) (hereA zS))))) [.v (.lst (zs.map D.int)),.ob none (oT []),.v (.lst (ns.map D.str)),.v (.lst (C2.map D.int))]=some (.lst (drs.map drD),[.v (.lst (zs.map D.int)),.ob none (oT es),.v (.lst (ns.map D.str)),.v (.lst (C2.map D.int))]):=by
    unfold compR;have it:rng1 (callB lenD (zA (zJ 3) zS)) [.v (.lst (zs.map D.int)),.ob none (oT []),.v (.lst (ns.map D.str)),.v (.lst (C2.map D.int))]=some (fT 0 C2.length):=by generalize zs.map D.int=ZZ at *;generalize C2.map D.int=D2 at *;simp[lC,ok]
    rw[it];simp only[sd];simp only[aO,eP,cE,rf,and_true,if_pos (show(fT 0 C2.length).length<=sizeLine from lr),g4];rfl
   generalize compR (rng1 (callB lenD (zA (zJ 3) zS))) [none,some 2,some 1,some 3] 1 2 (zL 0) (callR 4 2 cQ (zA (zH ixD (zJ 3) (zJ 0)) (zA (zW 0) (zA (zW 1) (hereA zS)))))=CR at *;simp[ret3,cr,ot]
noncomputable def dT(ds:Dvs):OT:=.lst ((ds.map dvD).map OT.val)
def ot_dT ds:otD (dT ds)=.lst (ds.map dvD):=by unfold dT;rw[otD,xJ]
abbrev Bn:=Dvs×OT
structure BnOk(ns:List Str)(n:Nat)(b:Bn):Prop where
 v:V1 b.1
 m:∀d∈b.1,d.1∈ns
 t:BT b.2 (bOf ns b.1)
 l:b.1.length<=n
def BnOk.up{ns:List Str}{n m:Nat}{b:Bn}(h:BnOk ns n b)(hm:n<=m):BnOk ns m b:=⟨h.v,h.m,h.t,by have:=h.l;omega⟩
noncomputable def stBQ(l:List D):D:=.lst [.lst l,.lst l]
theorem JQ{α:Type}(v:α):∀(l:List α) (k:Nat),(l.modify k λ_=>v)=l.set k v
 |[],_=>by simp
 |_::_,0=>by simp
 |_::l,k+1=>by simp[JQ v l k]
section
variable{ns:List Str}
def thw2{b0 b1:Bn}{n:Nat}(h0:BnOk ns n b0)(h1:BnOk ns n b1)(a0 a1 a2 a3 a5 a6 a7 a8 a9 a10 a11:Sl):∃s1 s2:List Sl,thwS 4 [0,0] [a0,a1,a2,a3,.ob none (.lst [b0.2,b1.2]),a5,a6,a7,a8,a9,a10,a11]=some s1/\thwS 4 [1,0] s1=some s2 ∧
  relO 4 s2=[a0,a1,a2,a3,.v (.lst [bD ns b0.1,bD ns b1.1]),a5,a6,a7,a8,a9,a10,a11]:=by
 obtain⟨t0,e0,f0⟩:=h0.t;obtain⟨t1,e1,f1⟩:=h1.t;rw[e0,e1];unfold bD;rw[<-f0,<-f1];generalize bkN (bOf ns b0.1)=K0;generalize bkN (bOf ns b1.1)=K1;refine⟨_,_,rfl,rfl,?_⟩;simp[relO,putO,otD,otDs]
def told_at(h1:1<=ns.length)(h6:ns.length<=6)(hn:∀x∈ns,NmS x)(nd:ns.Nodup){b0 b1:Bn}{n:Nat}(k0:BnOk ns n b0)(k1:BnOk ns n b1)(hl:n<=100)(q pl:Int)(a0 a2 a3 a5 a6 a7 a8 a11:Sl) :
  ∃l,Fine l/\jM 11 (ofO (thwG 4 [0,0] (thwG 4 [1,0] (relGO 4 (lO (yY 4 fG (zA (zH ixD (zJ 4) (zH jG (zH qR (zJ 9) (zB (.int 101))) (zB (.int 2)))) (zA (zJ 1) (zA (zJ 9) (zA (zJ 10) zS))))))))))
   [a0,.v (.lst (ns.map D.str)),a2,a3,.ob none (.lst [b0.2,b1.2]),a5,a6,a7,a8,.v (.int q),.v (.int pl),a11]=some (.nx [a0,.v (.lst (ns.map D.str)),a2,a3,.ob none (.lst [b0.2,b1.2]),a5,a6,a7,a8,.v (.int q),.v (.int pl),.v (.lst l)]):=by
 obtain⟨s1,s2,e1,e2,e3⟩:=thw2 k0 k1 a0 (.v (.lst (ns.map D.str))) a2 a3 a5 a6 a7 a8 (.v (.int q)) (.v (.int pl)) a11;obtain⟨b,eb,hb⟩:∃b,ixD (.lst [bD ns b0.1,bD ns b1.1]) (.int (q/101%2))=some (bD ns b.1)/\BnOk ns n b:=by
  rcases(by omega:q/101%2=0\/q/101%2=1)with z|z<;>rw[z]
  . exact⟨b0,rfl,k0⟩
  . exact⟨b1,rfl,k1⟩
 obtain⟨l,fl,el⟩:=told_ex h1 (by omega) hn nd hb.v (by have:=hb.l;omega) q pl;refine⟨l,fl,?_⟩;have fo:=oA fl.fl;have ov:otDs (l.map OT.val)=l:=xJ l;have cl:(relGO 4 (lO (yY 4 fG (zA (zH ixD (zJ 4) (zH jG (zH qR (zJ 9) (zB (.int 101))) (zB (.int 2)))) (zA (zJ 1) (zA (zJ 9) (zA (zJ 10) zS))))))) s2=some (.lst (l.map .val)):=by unfold relGO;rw[e3];generalize bD ns b.1=BB at *;generalize [bD ns b0.1,bD ns b1.1]=BL at *;generalize ns.map D.str=NS at *;simp[lO,eb,el,retF,flatO,fo]
 simp only[jM,ofO,thwG,e1,e2,cl,aO,flatO,fo,if_true,bW,otD,ov,dM,dE]
def b1_eq(h1:1<=ns.length)(h6:ns.length<=6)(hn:∀x∈ns,NmS x)(nd:ns.Nodup){B:List Bn}(hB:B.length=2){n:Nat}(kB:∀b∈B,BnOk ns n b)(hl:n<=99){r:Dr}(hr:DrOk ns r){st:List (List D)}(hs:st.length=n){es:List Int}(he:2*n+1<es.length)(he':es.length<=1000)(a0 a2 a10 a11:Sl) :
  ∃(B':List Bn) (l:List D) (y10 y11:Sl),B'.length=2/\(∀b∈B',BnOk ns (n+1) b)/\Fine l ∧
   nN [a0,.v (.lst (ns.map D.str)),a2,.v (.lst (es.map D.int)),.ob none (.lst (B.map (·.2))),.ob none (.lst (B.map λb=>dT b.1)),.own (st.map stBQ),.v (.int (r.1:Int)),.v (dvD r.2.1),.v (.int r.2.2),a10,a11] =
   some (.nx [a0,.v (.lst (ns.map D.str)),a2,.v (.lst (es.map D.int)),.ob none (.lst (B'.map (·.2))),.ob none (.lst (B'.map λb=>dT b.1)),.own ((st++[l]).map stBQ),.v (.int (r.1:Int)),.v (dvD r.2.1),.v (.int r.2.2),y10,y11]):=by
 obtain⟨w,d,q⟩:=r;have wl:w<B.length:=by rw[hB];exact hr.w
 have eb:=aU wl;have kb:=kB _ (kY wl);obtain⟨T',bT,dT'⟩:=aDz hn nd (by omega) kb.v (by have:=kb.l;omega) kb.t hr.n hr.s hr.v;have kb':BnOk ns (n+1) (B[w].1++[d],T'):=⟨kb.v.app hr.s hr.v,λe he=>(bQ.mp he).elim (kb.m e) λz=>by rw[aR.mp z];exact hr.n,bT,by have:=kb.l;simp;omega⟩
 have rT:=aAj kb.t;have i5:(B.map λb=>dT b.1)[w]?=some (dT B[w].1):=by simp[eb]
 have i4:(B.map (·.2))[w]?=some B[w].2:=by simp[eb]
 have e5:((B.map λb=>dT b.1).modify w λ_=>dT (B[w].1++[d]))=(B.set w (B[w].1++[d],T')).map λb=>dT b.1:=by rw[JQ,List.map_set]
 have e4:((B.map (·.2)).modify w λ_=>T')=(B.set w (B[w].1++[d],T')).map (·.2):=by rw[JQ,List.map_set]
 have dL:dT B[w].1=.lst ((B[w].1.map dvD).map OT.val):=rfl;have dA:OT.lst ((B[w].1.map dvD).map OT.val++[.val (dvD d)])=dT (B[w].1++[d]):=by simp[dT]
 have lz:((B[w].1.map dvD).map OT.val).length<16777216:=by have:=kb.l;simp;omega
 have kB':∀b∈B.set w (B[w].1++[d],T'),BnOk ns (n+1) b:=λb hb=>by
  rcases List.mem_or_eq_of_mem_set hb with z|z
  . exact(kB b z).up (by omega)
  . rw[z];exact kb'
 have lB':(B.set w (B[w].1++[d],T')).length=2:=by simpa using hB
 have pi:∃pl,ixD (.lst (es.map D.int)) (.int (2*(n:Int)+q/13%2))=some (.int pl):=by
  have lt:(2*(n:Int)+q/13%2).toNat<es.length:=by omega
  refine⟨es[(2*(n:Int)+q/13%2).toNat],?_⟩;rw[yJ _ (by omega) (by simp;omega),aP,aU lt];rfl
 obtain⟨pl,pi⟩:=pi;have m2:=uA (i:=2) (j:=(n:Int)) (by omega) (by omega);have lst:(st.map stBQ).length=n:=by simp[hs]
 have lst2:(st.map stBQ).length<16777216:=by omega
 generalize hBB:B.set w (B[w].1++[d],T')=B2 at *;obtain⟨c0,c1,rfl⟩:∃c0 c1,B2=[c0,c1]:=by
  cases B2 with
  |nil=>simp at lB'
  |cons x r=>cases r with
    |nil=>simp at lB'
    |cons y t=>cases t with
      |nil=>exact⟨x,y,rfl⟩
      |cons z w=>simp at lB'
 obtain⟨l,fl,tl⟩:=told_at h1 h6 hn nd (kB' c0 (by simp)) (kB' c1 (by simp)) (by omega) q pl a0 a2 (.v (.lst (es.map D.int))) (.ob none (.lst ([c0,c1].map λb=>dT b.1))) (.own (st.map stBQ)) (.v (.int (w:Int))) (.v (dvD d)) a11;have ll:l.length<=16777216:=cD fl.ln (by decide);refine⟨[c0,c1],l,.v (.int pl),.v (.lst l),rfl,kB',fl,?_⟩;have sB:stBQ l=.lst [.lst l,.lst l]:=rfl;have e4':[c0.2,c1.2]=[c0,c1].map (·.2):=rfl;rw[e4']at tl;unfold nN;simp only[dJ,aK,cS,sB]at tl e4 e5 ⊢;generalize jM 11 (ofO (thwG 4 [0,0] (thwG 4 [1,0] (relGO 4 (lO (yY 4 fG (zA (zH ixD (zJ 4) (zH jG (zH qR (zJ 9) (zB (.int 101))) (zB (.int 2)))) (zA (zJ 1) (zA (zJ 9) (zA (zJ 10) zS))))))))))=G at *;rw[dL]at i5;generalize (B[w].1.map dvD).map OT.val=DW at *;generalize B[w].2=TW at *;generalize dT (B[w].1++[d])=D2 at *;generalize (B.map λb=>dT b.1)=L5 at *;generalize (B.map λx=>x.2)=L4 at *;generalize st.map stBQ=SS at *;generalize es.map D.int=EE at *;generalize ns.map D.str=NS at *;generalize dvD d=DD at *;rw[zU (ds':=[a0,.v (.lst NS),a2,.v (.lst EE),.ob none (.lst L4),.ob none (.lst [dT c0.1,dT c1.1]),.own SS,.v (.int (w:Int)),.v DD,.v (.int q),a10,a11]) (by
   simp[appP,ixPV,ixP,varP,kidsI,i5,lz,putP,putO,dA,e5]),
  zU (ds':=[a0,.v (.lst NS),a2,.v (.lst EE),.ob none (.lst [c0.2,c1.2]),.ob none (.lst [dT c0.1,dT c1.1]),.own SS,.v (.int (w:Int)),.v DD,.v (.int q),a10,a11]) (by simp[doP,ixPV,ixP,varP,kidsI,i4,rT,dT',putP,putO,e4]),
  zU (ds':=[a0,.v (.lst NS),a2,.v (.lst EE),.ob none (.lst [c0.2,c1.2]),.ob none (.lst [dT c0.1,dT c1.1]),.own SS,.v (.int (w:Int)),.v DD,.v (.int q),.v (.int pl),a11]) (by simp[lst,m2,pi]),
  zU tl]
 simp[appG,lst2,ll]
end
section
variable{ns:List Str}
def b2_eq(h1:1<=ns.length)(h6:ns.length<=6)(hn:∀x∈ns,NmS x)(nd:ns.Nodup){b0 b1:Bn}{n:Nat}(k0:BnOk ns n b0)(k1:BnOk ns n b1)(hl:n<=62)(j:Nat)(hj:j<2)(a0 a2 a3 a6 a8 a9 a10 a11:Sl) :
  nM [a0,.v (.lst (ns.map D.str)),a2,a3,.ob none (.lst [b0.2,b1.2]),.ob none (.lst [dT b0.1,dT b1.1]),a6,.v (.int (j:Int)),a8,a9,a10,a11] =
   some (.nx [a0,.v (.lst (ns.map D.str)),a2,a3,.ob none (.lst [b0.2,b1.2]),.ob none (.lst [dT b0.1,dT b1.1]),a6,.v (.int (j:Int)),a8,a9,a10,a11]):=by
 obtain⟨b,eb,ed,hb⟩:∃b:Bn,ixD (.lst [bD ns b0.1,bD ns b1.1]) (.int (j:Int))=some (bD ns b.1)/\ixD (.lst [.lst (b0.1.map dvD),.lst (b1.1.map dvD)]) (.int (j:Int))=some (.lst (b.1.map dvD))/\BnOk ns n b:=by
  rcases(by omega:j=0\/j=1)with rfl|rfl
  . exact⟨b0,rfl,rfl,k0⟩
  . exact⟨b1,rfl,rfl,k1⟩
 have ri:=aAh h1 (by omega) hn nd hb.v hb.m (by have:=hb.l;omega);have sa:=same_eq h1 h6 hn nd hb.v hb.m (by have:=hb.l;omega);have hx:ns[0]∈ns:=kY (by omega);have em:=RD h1 (by omega) hn nd hb.v (by have:=hb.l;omega) hx;have i0:ixD (.lst (ns.map D.str)) (.int 0)=some (.str ns[0]):=by rw[yJ _ (by omega) (by simp;omega)];simp[aU (show 0<ns.length by omega)]
 have o5:otD (.lst [dT b0.1,dT b1.1])=.lst [.lst (b0.1.map dvD),.lst (b1.1.map dvD)]:=by simp[otD,otDs,ot_dT]
 obtain⟨s1,s2,e1,e2,e3⟩:=thw2 k0 k1 a0 (.v (.lst (ns.map D.str))) a2 a3 (.v (.lst [.lst (b0.1.map dvD),.lst (b1.1.map dvD)])) a6 (.v (.int (j:Int))) a8 a9 a10 a11;have r5:relO 5 [a0,.v (.lst (ns.map D.str)),a2,a3,.ob none (.lst [b0.2,b1.2]),.ob none (.lst [dT b0.1,dT b1.1]),a6,.v (.int (j:Int)),a8,a9,a10,a11]=[a0,.v (.lst (ns.map D.str)),a2,a3,.ob none (.lst [b0.2,b1.2]),.v (.lst [.lst (b0.1.map dvD),.lst (b1.1.map dvD)]),a6,.v (.int (j:Int)),a8,a9,a10,a11]:=by simp only[relO,eP,cE,o5,dM,dE]
 generalize ns[0]=x0 at *;unfold nM;have t1:(relTO 5 (thwT 4 [0,0] (thwT 4 [1,0] (relTO 4 (notT (testT (qZ 3 gZ (zA (zH ixD (zJ 4) (zJ 7)) (zA (zJ 1) (zA (zH ixD (zJ 5) (zJ 7)) zS)))))))))) [a0,.v (.lst (ns.map D.str)),a2,a3,.ob none (.lst [b0.2,b1.2]),.ob none (.lst [dT b0.1,dT b1.1]),a6,.v (.int (j:Int)),a8,a9,a10,a11]=some false:=by unfold relTO;rw[r5];simp only[thwT,e1,e2,e3,aO];generalize bD ns b.1=BB at *;generalize b.1.map dvD=DB at *;generalize [bD ns b0.1,bD ns b1.1]=BL at *;generalize [D.lst (b0.1.map dvD),.lst (b1.1.map dvD)]=DL at *;generalize ns.map D.str=NS at *;simp[eb,ed,ri,retV]
 have t2:(relTO 5 (thwT 4 [0,0] (thwT 4 [1,0] (relTO 4 (orT (notT (testT (qZ 3 dX (zA (zJ 1) (zA (zH ixD (zJ 4) (zJ 7)) (zA (zH ixD (zJ 5) (zJ 7)) zS)))))) (notT (testT (qZ 2 gA (zA (zH ixD (zJ 4) (zJ 7)) (zA (zH ixD (zJ 1) (zB (.int 0))) zS)))))))))) [a0,.v (.lst (ns.map D.str)),a2,a3,.ob none (.lst [b0.2,b1.2]),.ob none (.lst [dT b0.1,dT b1.1]),a6,.v (.int (j:Int)),a8,a9,a10,a11]=some false:=by unfold relTO;rw[r5];simp only[thwT,e1,e2,e3,aO];generalize bD ns b.1=BB at *;generalize b.1.map dvD=DB at *;generalize [bD ns b0.1,bD ns b1.1]=BL at *;generalize [D.lst (b0.1.map dvD),.lst (b1.1.map dvD)]=DL at *;generalize ns.map D.str=NS at *;simp[eb,ed,sa,em,i0,retV]
 rw[zU (by rw[rS t1];rfl),rS t2];rfl
theorem loop1(h1:1<=ns.length)(h6:ns.length<=6)(hn:∀x∈ns,NmS x)(nd:ns.Nodup){es:List Int}(he':es.length<=1000)(a0 a2:Sl):∀(rs:List Dr) (B:List Bn) (st:List (List D)) (n:Nat) (a7 a8 a9 a10 a11:Sl),(∀r∈rs,DrOk ns r)->B.length=2->(∀b∈B,BnOk ns n b)->n+rs.length<=62->st.length=n->(∀l∈st,Fine l)->es.length=2*(n+rs.length) →
  ∃(B':List Bn) (st':List (List D)) (y7 y8 y9 y10 y11:Sl),B'.length=2/\(∀b∈B',BnOk ns (n+rs.length) b)/\(∀l∈st',Fine l)/\st'.length=n+rs.length ∧
   qP (tupG 3 (zM (zL 7) (zM (zL 8) (zM (zL 9) tgNil)))) nN (rs.map drD) [a0,.v (.lst (ns.map D.str)),a2,.v (.lst (es.map D.int)),.ob none (.lst (B.map (·.2))),.ob none (.lst (B.map λb=>dT b.1)),.own (st.map stBQ),a7,a8,a9,a10,a11] =
   some (.nx [a0,.v (.lst (ns.map D.str)),a2,.v (.lst (es.map D.int)),.ob none (.lst (B'.map (·.2))),.ob none (.lst (B'.map λb=>dT b.1)),.own (st'.map stBQ),y7,y8,y9,y10,y11])
 |[],B,st,n,a7,a8,a9,a10,a11,_,hB,kB,_,hs,hf,_=>⟨B,st,a7,a8,a9,a10,a11,hB,by simpa using kB,hf,by simpa using hs,by simp[qP]⟩
 |r::rs,B,st,n,a7,a8,a9,a10,a11,hr,hB,kB,hl,hs,hf,he=>by simp only[aG]at hl he;obtain⟨B1,l,y10,y11,g1,g2,g3,g4⟩:=b1_eq h1 h6 hn nd hB kB (by omega) (hr r (.head _)) hs (es:=es) (by omega) he' a0 a2 a10 a11;obtain⟨B',st',y7,y8,y9,z10,z11,q1,q2,q3,q4,q5⟩:=loop1 h1 h6 hn nd he' a0 a2 rs B1 (st++[l]) (n+1) (.v (.int (r.1:Int))) (.v (dvD r.2.1)) (.v (.int r.2.2)) y10 y11 (λx hx=>hr x (.tail _ hx)) g1 g2 (by omega) (by simp[hs]) (λx hx=>(bQ.mp hx).elim (hf x) λz=>by rw[aR.mp z];exact g3) (by omega);refine⟨B',st',y7,y8,y9,z10,z11,q1,by simp only[aG];rw[show n+(rs.length+1)=n+1+rs.length by omega];exact q2,q3,by simp;omega,?_⟩;simp only[aK];have e0:drD r=.tup [.int (r.1:Int),dvD r.2.1,.int r.2.2]:=rfl;rw[e0];generalize rs.map drD=RR at *;generalize (st++[l]).map stBQ=S2 at *;generalize st.map stBQ=S1 at *;generalize dvD r.2.1=DD at *;generalize (B.map λb=>dT b.1)=L5 at *;generalize (B1.map λb=>dT b.1)=M5 at *;generalize (B.map λx=>x.2)=L4 at *;generalize (B1.map λx=>x.2)=M4 at *;generalize es.map D.int=EE at *;generalize ns.map D.str=NS at *;simp[qP,g4,q5]
end
theorem NN:∀st:List (List D),(∀l∈st,Fine l)->compL (zL 0) (λ_=>some true) (zH eqD (zH ixD (zJ 0) (zB (.int 0))) (zH ixD (zJ 0) (zB (.int 1)))) [.no] (st.map stBQ)=some (List.replicate st.length (.bl true))
 |[],_=>rfl
 |l::r,h=>by have ih:=NN r λt ht=>h t (.tail _ ht);have eq:=(h l (.head _)).eq;simp only[aK,stBQ];rw[compL];have e0:ixD (.lst [.lst l,.lst l]) (.int 0)=some (.lst l):=rfl;have e1:ixD (.lst [.lst l,.lst l]) (.int 1)=some (.lst l):=rfl;simp[zL,e0,e1,eq,ih,RN]
theorem VD:∀n:Nat,blsD (List.replicate n (.bl true))=some (List.replicate n true)
 |0=>rfl
 |n+1=>by simp[RN,blsD,VD n]
def run_law(ns:List Int)(hl:ns.length<=63)(hb:∀c∈ns,intBits c<=1048576):pK [.lst (ns.map D.int)]=some (.val (.bl true)):=by
 obtain⟨nm,drs,es,h1,h6,hn,nd,hd,ld,le,ed⟩:=YB ns hl hb;generalize ns.map D.int=ZZ at *;have bi:=EO h1 (by omega) hn nd;have sr:srtT nm.reverse=srtT nm:=leT_unique _ _ (((srtT_perm _).trans (YS nm)).trans (srtT_perm nm).symm) (srtT_le _) (srtT_le _);have bj:=EO (ns:=nm.reverse) (by simpa using h1) (by simp;omega) (λx hx=>hn x (fV.mp hx)) ((YS nm).nodup_iff.mpr nd);rw[sr,AT]at bj;have bt:BT (.ins 12 [.dct ((srtT nm).map Sum.inr) ((srtT nm).map λ_=>.lst [])]) (bOf nm []):=aEj (srtT nm);generalize OT.ins 12 [.dct ((srtT nm).map Sum.inr) ((srtT nm).map λ_=>.lst [])]=T0 at *;have k0:∀b∈[(([],T0):Bn),([],T0)],BnOk nm 0 b:=λb hb=>by
  have:b=([],T0):=by simpa using hb
  rw[this];exact⟨(λ_ h=>nomatch h),(λ_ h=>nomatch h),bt,by simp⟩
 obtain⟨B,st,y7,y8,y9,y10,y11,g1,g2,g3,g4,g5⟩:=loop1 h1 h6 hn nd (es:=es) (by omega) (.v (.lst ZZ)) (.v (.lst (drs.map drD))) drs [([],T0),([],T0)] [] 0 .no .no .no .no .no hd rfl k0 (by omega) rfl (λ_ h=>nomatch h) (by omega);obtain⟨b0,b1,rfl⟩:∃b0 b1,B=[b0,b1]:=by
  cases B with
  |nil=>simp at g1
  |cons x r=>cases r with
    |nil=>simp at g1
    |cons y t=>cases t with
      |nil=>exact⟨x,y,rfl⟩
      |cons z w=>simp at g1
 have q0:=g2 b0 (by simp);have q1:=g2 b1 (by simp);have t0:=b2_eq h1 h6 hn nd q0 q1 (by omega) 0 (by omega) (.v (.lst ZZ)) (.v (.lst (drs.map drD))) (.v (.lst (es.map D.int))) (.own (st.map stBQ)) y8 y9 y10 y11;have t1:=b2_eq h1 h6 hn nd q0 q1 (by omega) 1 (by omega) (.v (.lst ZZ)) (.v (.lst (drs.map drD))) (.v (.lst (es.map D.int))) (.own (st.map stBQ)) y8 y9 y10 y11;have lN:(nm.map D.str).length<=16777216:=by simp;omega
 have cp:∀a0 a1 a2 a3 a4 a5 a7 a8 a9 a10 a11:Sl,compG (viaA (zW 6) asLT) [none] (zL 0) (λ_=>some true) (zH eqD (zH ixD (zJ 0) (zB (.int 0))) (zH ixD (zJ 0) (zB (.int 1)))) [a0,a1,a2,a3,a4,a5,.v (.lst (st.map stBQ)),a7,a8,a9,a10,a11]=some (List.replicate st.length (.bl true)):=λ_ _ _ _ _ _ _ _ _ _ _=>yM (items:=st.map stBQ) (by simp) (by simp;omega) (NN st g3);have al:allD [.lst (List.replicate st.length (D.bl true))]=some (.bl true):=by simp[allD,VD]
 unfold pK;refine yE ?_;unfold tG;have ar:args 12 [.lst ZZ]=[.v (.lst ZZ),.no,.no,.no,.no,.no,.no,.no,.no,.no,.no,.no]:=by simp[args]
 rw[ar];have d0:OT.lst []=dT []:=rfl;simp only[aK,cS,tF]at g5 t0 t1;generalize compG (viaA (zW 6) asLT) [none] (zL 0) (λ_=>some true) (zH eqD (zH ixD (zJ 0) (zB (.int 0))) (zH ixD (zJ 0) (zB (.int 1))))=CC at *;generalize List.replicate st.length (D.bl true)=RP at *;generalize st.map stBQ=SS at *;generalize es.map D.int=EE at *;generalize drs.map drD=DR at *;generalize nm.map D.str=NM at *;have ok2:okR 2:=xZ (by omega) (by omega);have rg:fT 0 2=[.int 0,.int 1]:=rfl
 rw[zU (ds':=[.v (.lst ZZ),.v (.lst NM),.v (.lst DR),.v (.lst EE),.no,.no,.no,.no,.no,.no,.no,.no]) (by simp[asgG,callA,ed,retA]),
  zU (ds':=[.v (.lst ZZ),.v (.lst NM),.v (.lst DR),.v (.lst EE),.ob none (.lst [T0,T0]),.no,.no,.no,.no,.no,.no,.no]) (by simp[setB,sO,consO,nilO,makeO,lisA,lN,bi,revA,bj]),
  zU (ds':=[.v (.lst ZZ),.v (.lst NM),.v (.lst DR),.v (.lst EE),.ob none (.lst [T0,T0]),.ob none (.lst [dT [],dT []]),.no,.no,.no,.no,.no,.no]) (by simp[setB,sO,consO,nilO,d0]),
  zU (ds':=[.v (.lst ZZ),.v (.lst NM),.v (.lst DR),.v (.lst EE),.ob none (.lst [T0,T0]),.ob none (.lst [dT [],dT []]),.own [],.no,.no,.no,.no,.no]) (by simp),
  zU (ds':=[.v (.lst ZZ),.v (.lst NM),.v (.lst DR),.v (.lst EE),.ob none (.lst [b0.2,b1.2]),.ob none (.lst [dT b0.1,dT b1.1]),.own SS,y7,y8,y9,y10,y11]) (by
   rw[wR]
   simpa[viaA,asLT]using g5),
  zU (ds':=[.v (.lst ZZ),.v (.lst NM),.v (.lst DR),.v (.lst EE),.ob none (.lst [b0.2,b1.2]),.ob none (.lst [dT b0.1,dT b1.1]),.own SS,.v (.int 1),y8,y9,y10,y11]) (by
   rw[wR];generalize nM=BB at *
   simp[ok2,rg,qP,zL,t0,t1])]
 simp[relS,cp,al]
open FL
set_option maxHeartbeats 0 in
def all_mk{l:VL}{w:cU}{K:aN}{h:Heap}{mg:Str->Option aI}{fa:aD}(X:K.In h)(G:h.Ns mainGlobals mg)(hfa:mg "law" = some (.ref fa)){K12 f0 f1 f2 f3 f4 f5 f6 f7 f8 f9 f10 f11 f12 f15 f16 f17 f18 f19 f20 f21 f22 f23 f24 f25 f26 f28 f29 f30 f31 f32 f33 f34 f35 f36 f37 f39 f41 f42 f43 f44:aD}{t0 t1 t2:Tok}{mc27 mq27:aD}{mo27:aI}{md27:Option aD}{mv27:Array aI}{ms27:Array (Option aI)}{mc38 mq38:aD}{mo38:aI}{md38:Option aD}{mv38:Array aI}{ms38:Array (Option aI)}{mc40 mq40:aD}{mo40:aI}{md40:Option aD}{mv40:Array aI}{ms40:Array (Option aI)}{f13 f14 f27 f38 f40 f45:aD}{od13 an13 od14 an14 od27 an27 od38 an38 od40 an40 od45 an45:Option aD}{sl13 sl14 sl27 sl38 sl40 sl45:Array (Option aI)}{oc13 kV13 dc13 pm13 cd13 ct13 oc14 kV14 dc14 pm14 cd14 ct14 oc27 kV27 dc27 pm27 cd27 ct27 oc38 kV38 dc38 pm38 cd38 ct38 oc40 kV40 dc40 pm40 cd40 ct40 oc45 kV45 dc45 pm45 cd45 ct45:aI}(q12:CN K "Bundle" K12)(na12_lying:NoAttr K K12 "lying")(d0:DefM K "has" (top 5) f0)(d1:DefM K "later_low" (top 8) f1)(d2:DefM K "earlier_behind" (top 9) f2)(d3:DefM K "ends_ahead" (top 7) f3)(d4:DefM K "meet" (top 6) f4)(d5:DefM K "knit" (top 11) f5)(d6:DefM K "parts_in" (top 13) f6)(d7:DefM K "rows_over" (top 14) f7)(d8:DefM K "formed" (top 12) f8)(d9:DefM K "runs_of" (top 15) f9)(d10:DefM K "paired" (top 16) f10)(d11:DefM K "value_at" (top 18) f11)(d12:DefM K "either" (top 20) f12)(a13:aQ K mainGlobals "summed" = some (some (.ref f13)))(l13:LkF K f13 oc13 od13 "summed" "summed" (top 21) .none kV13 dc13 pm13 an13 cd13 ct13 sl13)(c13:dI K cd13 "summed" = true)(k13:bO K (.ref f13)=true)(a14:aQ K mainGlobals "_law_sum" = some (some (.ref f14)))(l14:LkF K f14 oc14 od14 "_law_sum" "_law_sum" (top 47) .none kV14 dc14 pm14 an14 cd14 ct14 sl14)(c14:dI K cd14 "_law_sum" = true)(k14:bO K (.ref f14)=true)(d15:DefM K "joined" (top 23) f15)(d16:DefM K "turned" (top 24) f16)(d17:DefM K "is_name" (top 28) f17)(d18:DefM K "put" (top 30) f18)(d19:DefM K "check_names" (top 34) f19)(d20:DefC K K12 "__init__" "Bundle.__init__" (dC (top 33) 0) f20)(d21:DefC K K12 "only" "Bundle.only" (dC (top 33) 4) f21)(d22:DefC K K12 "lay" "Bundle.lay" (dC (top 33) 1) f22)(d23:DefC K K12 "lift" "Bundle.lift" (dC (top 33) 2) f23)(d24:DefC K K12 "names_at" "Bundle.names_at" (dC (top 33) 3) f24)(d25:DefM K "stacked" (top 35) f25)(d26:DefC K K12 "sets" "Bundle.sets" (dC (top 33) 5) f26)(a27:cB K (.ref K12) "crowd" = some (some (.ref f27)))(l27:LkF K f27 oc27 od27 "crowd" "Bundle.crowd" (dC (top 33) 6) .none kV27 dc27 pm27 an27 cd27 ct27 sl27)(c27:dI K cd27 "Bundle.crowd" = true)(k27:bO K (.ref f27)=true)(mt27:cd27=.ref mc27)(ml27:K.lookup mc27=some ⟨mo27,md27,.fields mv27,ms27⟩)(mp27:(mv27[11]?:Option aI)=some (.ref mq27))(i27:lQ K (.ref f27)=true)(d28:DefM K "_law_cell_at" (top 37) f28)(d29:DefM K "_law_names" (top 38) f29)(d30:DefM K "_law_great" (top 39) f30)(d31:DefM K "_law_over" (top 40) f31)(d32:DefM K "_law_told_name" (top 41) f32)(d33:DefM K "_law_told_names" (top 42) f33)(d34:DefM K "_law_told_span" (top 43) f34)(d35:DefM K "_law_told_deed" (top 44) f35)(d36:DefM K "_law_mixed_deed" (top 45) f36)(d37:DefM K "_law_do" (top 46) f37)(a38:aQ K mainGlobals "_law_turned" = some (some (.ref f38)))(l38:LkF K f38 oc38 od38 "_law_turned" "_law_turned" (top 48) .none kV38 dc38 pm38 an38 cd38 ct38 sl38)(c38:dI K cd38 "_law_turned" = true)(k38:bO K (.ref f38)=true)(mt38:cd38=.ref mc38)(ml38:K.lookup mc38=some ⟨mo38,md38,.fields mv38,ms38⟩)(mp38:(mv38[11]?:Option aI)=some (.ref mq38))(d39:DefM K "_law_spans" (top 49) f39)(a40:aQ K mainGlobals "_law_right" = some (some (.ref f40)))(l40:LkF K f40 oc40 od40 "_law_right" "_law_right" (top 50) .none kV40 dc40 pm40 an40 cd40 ct40 sl40)(c40:dI K cd40 "_law_right" = true)(k40:bO K (.ref f40)=true)(mt40:cd40=.ref mc40)(ml40:K.lookup mc40=some ⟨mo40,md40,.fields mv40,ms40⟩)(mp40:(mv40[11]?:Option aI)=some (.ref mq40))(d41:DefM K "_law_told" (top 51) f41)(d42:DefM K "_law_emptied" (top 52) f42)(d43:DefM K "_law_same_by_names" (top 53) f43)(d44:DefM K "_law_drawn" (top 54) f44)(a45:aQ K mainGlobals "law" = some (some (.ref f45)))(l45:LkF K f45 oc45 od45 "law" "law" (top 55) .none kV45 dc45 pm45 an45 cd45 ct45 sl45)(c45:dI K cd45 "law" = true)(k45:bO K (.ref f45)=true)(mk12:uT K K12=true)(kc12:bO K (.ref K12)=true)(z0:aQ K mainGlobals "all" = some none)(z1:aQ K mainGlobals "int" = some none)(z2:aQ K mainGlobals "isinstance" = some none)(z3:aQ K mainGlobals "len" = some none)(z4:aQ K mainGlobals "list" = some none)(z5:aQ K mainGlobals "max" = some none)(z6:aQ K mainGlobals "min" = some none)(z7:aQ K mainGlobals "range" = some none)(z8:aQ K mainGlobals "reversed" = some none)(z9:aQ K mainGlobals "set" = some none)(z10:aQ K mainGlobals "sorted" = some none)(z11:aQ K mainGlobals "str" = some none)(v0:aQ K mainGlobals "LETTERS" = some (some (.str "abcdefghijklmnopqrstuvwxyz" t0)))(v1:aQ K mainGlobals "MOST_LETTERS" = some (some (.int 8 t1)))(v2:aQ K mainGlobals "MOST_NAMES" = some (some (.int 60 t2))) :
  ∃fd:bE,(∀(s:aY) (v:aI),YX s fd ⟨[v],[]⟩ [("_law_script",v)])/\∀base:Heap,K.In base->base.Ns mainGlobals mg->FnOk l.prog w K mg base CX0 9 fa fd ["_law_script"] (PD K 63):=by
 have e:=hfa.symm.trans (dD X G a45);cases e;obtain⟨n12,cl12⟩:=q12.get;have T:Glb K mg:=⟨cJ X G z0,cJ X G z1,cJ X G z2,cJ X G z3,cJ X G z4,cJ X G z5,cJ X G z6,cJ X G z7,cJ X G z8,cJ X G z9,cJ X G z10,cJ X G z11,⟨_,dD X G v0⟩,⟨_,dD X G v1⟩,⟨_,dD X G v2⟩,(fldOk_c n12 cl12 na12_lying XU),(newOk (t:=24) (by exact n12) cl12 na12_lying),⟨f14,by exact a14,by exact dD X G a14⟩,⟨f13,by exact a13,by exact dD X G a13⟩⟩
 have F13:=vT (st:=(top 21)) l13 c13 k13;have b13:=F13.binds (ps:=["value","other_value"]) λ_ _ _ _ _ _=>len2 λ_ _=>rfl;have F14:=vT (st:=(top 47)) l14 c14 k14;have b14:=F14.binds (ps:=["_law_one","_law_other"]) λ_ _ _ _ _ _=>len2 λ_ _=>rfl;obtain⟨_,F20,a20,k20,i20⟩:=d20.get;have b20:=F20.binds (ps:=["self","names"]) λ_ _ _ _ _ _=>len2 λ_ _=>rfl;have F27:=vT (st:=(dC (top 33) 6)) l27 c27 k27;have M_Bundle_crowd:Mkr K "Bundle.crowd" 11 (dC (top 33) 6) _ mc27 mq27:=mkr_met rfl rfl n12 a27 l27 mt27 ml27 mp27;have b27:=F27.binds (ps:=["self","many"]) λ_ _ _ _ _ _=>len2 λ_ _=>rfl;have F38:=vT (st:=(top 48)) l38 c38 k38;have M__law_turned:Mkr K "_law_turned" 7 (top 48) _ mc38 mq38:=aCu rfl a38 l38 mt38 ml38 mp38;have b38:=F38.binds (ps:=["_law_pieces","_law_bit"]) λ_ _ _ _ _ _=>len2 λ_ _=>rfl;have F40:=vT (st:=(top 50)) l40 c40 k40;have M__law_right:Mkr K "_law_right" 8 (top 50) _ mc40 mq40:=aCu rfl a40 l40 mt40 ml40 mp40;have b40:=F40.binds (ps:=["_law_bundle","_law_names_here","_law_deeds"]) λ_ _ _ _ _ _=>len3 λ_ _ _=>rfl;obtain⟨_,F44,a44,k44⟩:=d44.get;have b44:=F44.binds (ps:=["_law_script"]) λ_ _ _ _ _ _=>len1 λ_=>rfl;have F45:=vT (st:=(top 55)) l45 c45 k45;refine⟨cV "law" "law" (yF (top 55)) (qG (top 55)) (zI (top 55)) .none kV45 dc45 pm45 an45 cd45 ct45,λs v=>.of_eq rfl,λbase _ _=>?_⟩;have S:SysAt l.prog w base K mg:=⟨h,X,G⟩
 have C_has:=d0.cal S λF=>fok_has F T;have C_later_low:=d1.cal S λF=>FJ F T;have C_earlier_behind:=d2.cal S λF=>rV F T;have C_ends_ahead:=d3.cal S λF=>EA F T;have C_meet:=d4.cal S λF=>aDn F T C_later_low C_earlier_behind C_ends_ahead;have C_knit:=d5.cal S λF=>aDo F T;have C_parts_in:=d6.cal S λF=>KH F T C_meet;have C_rows_over:=d7.cal S λF=>FI F T C_parts_in;have C_formed:=d8.cal S λF=>QU F T C_knit C_rows_over;have C_runs_of:=d9.cal S λF=>NJ F T;have C_paired:=d10.cal S λF=>QS F T C_runs_of C_earlier_behind;have C_value_at:=d11.cal S λF=>KG F T C_has;have C_either:=d12.cal S λF=>QV F T;have G13:=QR F13 T C_either;have V_summed:CalV l.prog w K mg base 3 2 2 iE:=⟨f13,_,_,_,_,_,G13,b13,by exact a13,l13⟩
 have C_summed:=EM G13 b13 k13 (dD X G a13);have G14:=KJ (P:=l.prog) (w:=w) (base:=base) F14 T;have V__law_sum:CalV l.prog w K mg base 7 1 2 iD:=⟨f14,_,_,_,_,_,G14,b14,by exact a14,l14⟩
 have C__law_sum:=EM G14 b14 k14 (dD X G a14);have CO:=clo_ok (P:=l.prog) (w:=w) (base:=base) T M_Bundle_crowd M__law_turned M__law_right V_summed V__law_sum;have C_joined:=d15.cal S λF=>QT F T C_paired C_knit CO;have C_turned:=d16.cal S λF=>QQ F T C_knit C_runs_of CO;have C_is_name:=d17.cal S λF=>NK F T;have C_put:=d18.cal S λF=>fok_put F T C_knit C_rows_over;have C_check_names:=d19.cal S λF=>AV F T C_is_name;have G20:=pV F20 T C_check_names;have M_only:MCal l.prog w K mg base "only" 2 1 [12] bN:=(d21.mc n12 cl12 (λF=>AY F T C_is_name) vZ)
 have C_stacked:=d25.cal S λF=>NI F T C_joined;have G27:=uL F27 T C_stacked C_turned M_Bundle_crowd;have C__law_cell_at:=d28.cal S λF=>uK F T;have C__law_names:=d29.cal S λF=>ED F T;have C__law_great:=d30.cal S λF=>EF F T;have C__law_over:=d31.calR S λF=>FM F T C__law_great;have C__law_told_name:=d32.cal S λF=>rX F T;have C__law_told_names:=d33.cal S λF=>pR F T C__law_told_name;have C__law_told_span:=d34.cal S λF=>rW F T;have C__law_told_deed:=d35.calR S λF=>rY F T C__law_told_span;have C__law_mixed_deed:=d36.calR S λF=>pS F T C__law_over;have M_lift:LCal l.prog w K mg base "lift" 6 2 [12] (λ_=>eX):=(d23.lc n12 cl12 (λF=>AZ F T C_put M_only) NB)
 have M_lay:LCal l.prog w K mg base "lay" 6 2 [12] (λ_=>fE):=(d22.lc n12 cl12 (λF=>EH F T C_put M_only) NB)
 have C__law_do:=d37.calR S λF=>NL F T M_lift M_lay;have G38:=AW F38 T C_turned M__law_turned;have C__law_turned:=EM G38 b38 k38 (dD X G a38);have C__law_spans:=d39.cal S λF=>EB F T;have M_sets:MCal l.prog w K mg base "sets" 5 0 [12] (bR bI):=(d26.mc n12 cl12 (λF=>AX F T C_stacked) vZ)
 have M_crowd:MCal l.prog w K mg base "crowd" 5 1 [12] (bX bI):=(HL n12 cl12 ⟨a27,i27,k27⟩ G27 (by decide) b27 (by decide +kernel) vZ)
 have G40:=EC F40 T C_turned C_joined C__law_spans C_formed C__law_turned M__law_right M_sets M_only M_crowd;have C__law_right:=EM G40 b40 k40 (dD X G a40);have M_names_at:MCal l.prog w K mg base "names_at" 3 1 [12] cF:=(d24.mc n12 cl12 (λF=>pU F T C_value_at) vZ)
 have C__law_told:=d41.cal S λF=>FK F T M_only M_sets M_names_at M_crowd;have C__law_emptied:=d42.cal S λF=>uJ F T M_sets M_only M_crowd M_names_at;have Mk_Bundle_0:LMk l.prog w K mg base 24 3 1 0 cG:=⟨⟨K12,f20,_,_,by exact n12,dD X G n12,⟨mk12,a20,i20,kc12⟩,G20,b20⟩⟩
 have C__law_same_by_names:=d43.cal S λF=>nZ F T C__law_do M_sets Mk_Bundle_0;have G44:=EG F44 T C__law_names C__law_told_names C__law_cell_at C__law_mixed_deed C__law_told_deed;have C__law_drawn:CalA l.prog w K mg base "_law_drawn" 4 1 gD:=⟨f44,_,_,G44,b44,k44,dD X G a44⟩
 exact law_ofB (F:=pK) (fok_law F45 T C__law_drawn C__law_do C__law_told C__law_right C__law_same_by_names C__law_emptied Mk_Bundle_0) run_law
end K79
namespace PySem.W.Fast
def tw17007581153441575927:=0
def tw12167529362159796596:=0
def tw11306395781616224905:=0
def tw753123585426038304:=0
def tw15418673595764879972:=0
def tw16981750664935001764:=0
def tw869801896274484890:=0
def tw13062109506898314382:=0
def tw5960172994670140629:=0
def tw5467766957174805576:=0
def tw8219758411331662063:=0
def tw1619686669192878748:=0
def tw4017267417465512056:=0
def tw2213753720210580720:=0
def tw11589219349931597727:=0
def tw349210089755784341:=0
def tw16860015633093328419:=0
def tw15720823733583348489:=0
def tw12339487892401630639:=0
def tw11716031015258574965:=0
def tw3315733958502745543:=0
def tw17230473987271223180:=0
def tw8264498774966680821:=0
def tw13907629824648609649:=0
def tw4853349996374928439:=0
def tw5383035168891553400:=0
def tw3608855171082508038:=0
def tw10806346887315119571:=0
def tw2269103915624578401:=0
def tw13593661478874672148:=0
def tw17663049140100497373:=0
def tw2878728456558886547:=0
def tw5516025442823035758:=0
def tw13370574508214006357:=0
def tw8784380553075820538:=0
def tw15531365186219650612:=0
def tw12117555604315044246:=0
def tw8295724735254648617:=0
def tw2564881650232735626:=0
def tw13707573131168030721:=0
def tw5536147625237072323:=0
def tw15425619967549650989:=0
def tw5802424803710520431:=0
def tw3616498535836718993:=0
def tw13747920931612997863:=0
def tw7061297192742270773:=0
def tw5508878555686260818:=0
def tw16056754736664478587:=0
def tw354239360995895607:=0
def tw5847922075700646993:=0
def tw1414954155199100377:=0
def tw13207014783129588281:=0
def tw10837207466052885968:=0
def tw7598955138069844278:=0
def tw15308630874303445034:=0
def tw13972457526427661834:=0
def tw166957014137514504:=0
def tw14362390382233505732:=0
def tw13367473330537124720:=0
def tw12957873289902082142:=0
def tw4151790017365153091:=0
def tw573482459407261067:=0
def tw15348871663686490846:=0
def tw16955414419493582410:=0
def tw12521541033800775173:=0
def tw18159472029437418605:=0
def tw10784645406069921900:=0
def tw6576883732466675239:=0
def tw8929667674863812945:=0
def tw11900401579280383436:=0
def tw2754190802510466720:=0
def tw2554466946430331608:=0
def tw7582112961013406325:=0
def tw2368614494389356137:=0
def tw7484612943141094491:=0
def tw15589030391913339110:=0
def tw887054762584533482:=0
def tw5282890610444340105:=0
def tw17206071453708686383:=0
def tw14706155931854692512:=0
def tw12457055104933013838:=0
def tw18010831096011570817:=0
def tw13390074164878055499:=0
def tw2455282115201882480:=0
def tw6422837199607572679:=0
def tw6936791233786407883:=0
def tw7546721074836235257:=0
def tw1543138961345661924:=0
def tw1535204895039266248:=0
def tw11807733010447847972:=0
def tw7151025379222900655:=0
def tw15451638502728270543:=0
def tw14101934300533310164:=0
def tw16514716328748638373:=0
def tw12277371698574269872:=0
def tw5738169072454389106:=0
def tw12021269006122054983:=0
def tw15997309156115328264:=0
def tw3022480998403748691:=0
def tw14441956749596562290:=0
def tw12229282876485077792:=0
def tw10664954393809839820:=0
def tw8213003112515287444:=0
def tw10921418629432601833:=0
def tw6985785205157561968:=0
def tw14429859991151598318:=0
def tw4477529796956569567:=0
def tw10093787370800897452:=0
def tw9299650285730625288:=0
def tw16011745681080729355:=0
def tw7044487030790541297:=0
def tw9088718344537659012:=0
def tw5301952330775091427:=0
def tw1783562427609686282:=0
def tw7970038303959930675:=0
def tw6085902069383123636:=0
def tw9718365950138193688:=0
def tw15850491429979983298:=0
def tw4100652696697863065:=0
def tw80658537002996527:=0
def tw9176063183774216169:=0
def tw7442932377277351248:=0
def tw16865210592209990969:=0
def tw7260865406497840994:=0
def tw13440145915673421672:=0
def tw13386241171731480238:=0
def tw7624736477259214830:=0
def tw7211639241438170681:=0
def tw13194071054969767905:=0
def tw2870894308683528158:=0
def tw1714629880031095770:=0
def tw131267966685028681:=0
def tw1537568651265720014:=0
def tw14113743856846153681:=0
def tw14679376918776231542:=0
def tw13686274724418851997:=0
def tw16302223236910533463:=0
def tw223662766941273741:=0
def tw17674670822889454684:=0
def tw4318573516277418494:=0
def tw14774986936191270537:=0
def tw2062806128146878736:=0
def tw14177308734695177405:=0
def tw1153453653446835893:=0
def tw18021039495527969799:=0
def tw17405871878660668757:=0
def tw16894338565685475126:=0
def tw2148174771300073024:=0
def tw4687819670824327563:=0
def tw11345783670590604370:=0
def tw3391543643121197090:=0
def tw7235792581059646978:=0
def tw4277661551639542468:=0
def tw16428323027986108053:=0
def tw14638174219452902037:=0
def tw11149328896755538217:=0
def tw8811289607627889460:=0
def tw17689591599121694310:=0
def tw3868436467316771007:=0
def tw8902737197682749061:=0
def tw654538893405053322:=0
def tw3200487102536777504:=0
def tw13939374365399056627:=0
def tw4359230644363077464:=0
def tw5494551862465018125:=0
def tw14680302433993259489:=0
def tw1869126430882376565:=0
def tw13276287257226141087:=0
def tw6730444150466498040:=0
def tw9755596854931637835:=0
def tw18252746752189314050:=0
def tw4839991510658206462:=0
def tw14601647920528935754:=0
def tw4539404679986751137:=0
def tw7040550484293603183:=0
def tw10497833286760592879:=0
def tw3556469027205622183:=0
def tw13598382520398247786:=0
def tw16796431188295074799:=0
def tw15963835540857919280:=0
def tw1295736152777637161:=0
def tw13316154282461635113:=0
def tw7324178950759885147:=0
def tw15575036186304437110:=0
def tw15861827509988492631:=0
def tw7933063238994064861:=0
def tw8830029653203154019:=0
def tw1842222568486401422:=0
end PySem.W.Fast
def PySem.W.Fast.tw18318700820532166700:Unit:=()
def PySem.W.Fast.tw18166822243189070422:Unit:=()
def PySem.W.Fast.tw6004647185761510963:Unit:=()
def PySem.W.Fast.tw12522575741059184446:Unit:=()
def PySem.W.Fast.tw11643844340778380661:Unit:=()
def PySem.W.Fast.tw15560439607673080634:Unit:=()
def PySem.W.Fast.tw18090782649289436131:Unit:=()
def PySem.W.Fast.tw7852493801768421060:Unit:=()
def PySem.W.Fast.tw15683174121706025303:Unit:=()
def PySem.W.Fast.tw12212302141137712741:Unit:=()
def PySem.W.Fast.tw15270516775000570823:Unit:=()
def PySem.W.Fast.tw2310468078157669108:Unit:=()
def PySem.W.Fast.tw7923638985184801102:Unit:=()
def PySem.W.Fast.tw15121479670164934515:Unit:=()
def PySem.W.Fast.tw13981630569073594155:Unit:=()
def PySem.W.Fast.tw211843001113027431:Unit:=()
open PySem.W
set_option maxRecDepth 100000 in
set_option maxHeartbeats 0 in
theorem PySem.Challenge.cw_spanmap_k79_whole_names_and_sets_holds : PySem.Challenge.rw_spanmap_k79_whole_names_and_sets.Holds := by
 w_on; o_law; k_head; (case hw=>w_witness2)
 k_fill
 refine' FL.walkB (l:=PySem.Challenge.rw_spanmap_k79_whole_names_and_sets) (k:=9) rfl rfl ⟨rfl,by decide,by decide⟩ (fun w h Y=>⟨PySem.W.km_in_of Y,PySem.W.km_tabs_of Y⟩) (fun w=>by kernel_rfl) ?T ?F
 case T =>
  intro w;dsimp only [L2.makers]
  repeat (first
   | exact FL.TabL.nil
   | (apply FL.tabL_noM (x:="Bundle.crowd") (C:="Bundle") (m:="crowd") (hm:=rfl); k_is)
   | (apply FL.tabL_met (x:="Bundle.crowd") (C:="Bundle") (m:="crowd") (hm:=rfl); k_is; k_is; k_is; exact rfl; k_is; exact rfl; kernel_rfl; decide)
   | (apply FL.tabL_no; k_is)
   | (apply FL.tabL_yes; k_is; k_is; exact rfl; k_is; exact rfl; kernel_rfl))
  all_goals decide
 case F =>
  intro w mg fa h KX G hmg;refine' K79.all_mk KX G hmg ..
  all_goals first | ((first | unfold FL.DefM | unfold FL.DefC); iterate 9 (apply Exists.intro); repeat' (first | (unfold FL.LkF; k_is) | k_is | apply And.intro)) | ((first | unfold FL.CN | unfold FL.XN | unfold FL.XI); repeat' (first | k_is | apply And.intro | decide)) | (unfold L2.NoAttr; k_is) | (unfold FL.LkF; k_is) | k_is | k_exc | decide | exact rfl | kernel_rfl | skip
#print axioms PySem.Challenge.cw_spanmap_k79_whole_names_and_sets_holds
